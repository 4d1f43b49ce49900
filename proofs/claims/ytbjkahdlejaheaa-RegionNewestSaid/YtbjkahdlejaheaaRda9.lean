/- 'read': a region's pages. -/
import Derived.Test.YtbjkahdlejaheaaRd9
set_option linter.unusedVariables false
set_option linter.unusedSimpArgs false
set_option maxRecDepth 8000
namespace Go.Proofs.Ytbjkahdlejaheaa
open Go.RowKit Go.Deep Math

theorem BS.same {w w' : World} {g off n cap : Nat} {l : List UInt8} (h : BS w (some ⟨g, off, none⟩) n cap l) (e : w'.heap[g]? = w.heap[g]?) : BS w' (some ⟨g, off, none⟩) n cap l :=
  BS.mk' h.len h.cap ⟨fun i hi => by
    obtain ⟨b, off', ha, hc⟩ := h.reads.1 i hi
    cases ha
    exact ⟨g, off, rfl, (cell_same e).trans hc⟩, h.reads.2⟩
theorem BS.glt {w : World} {g off n cap : Nat} {l : List UInt8} (h : BS w (some ⟨g, off, none⟩) n cap l) (hn : 0 < n) : g < w.heap.size := by
  obtain ⟨b, o, e, h1, _⟩ := h.cell 0 hn
  cases e
  exact h1
/-- The first loop of 'read': i pages have been looked at. -/
structure Rd1 (w wr : World) (l d m : Nat) (v5 v6 v7 : Value) (T : Lg) (S : Dv) (F : List Nat) (base i : Nat) (pv : Value) (n : Nat) (fps : List Fp) : Prop where
  dev : ∃ S', Like S S' ∧ DvAt wr d F S'
  lg : LgIn wr l d m v5 v6 v7 { T with num := maxNum T.num (forms S.cs base i) }
  keep : Keep (l :: F) w wr
  ls : fpLs fps = forms S.cs base i
  len : n = fps.length
  row : wr.ownsRow w.heap.size 82 3 pv n (fpRow fps)
  at' : ∀ p ∈ fps, FpAt wr p ∧ w.heap.size ≤ p.g
section
variable {w wr : World} {l d m : Nat} {v5 v6 v7 : Value} {T : Lg} {S : Dv} {F : List Nat} {base i n : Nat} {pv : Value} {fps : List Fp}
/-- Only the device is turned, and what is new. -/
theorem Rd1.dv (h : Rd1 w wr l d m v5 v6 v7 T S F base i pv n fps) (hF : ∀ k ∈ F, k < w.heap.size) {w1 : World} {S1 : Dv} (hl : Like S S1) (hd : DvAt w1 d F S1) (k : Keep F wr w1) : Rd1 w w1 l d m v5 v6 v7 T S F base i pv n fps := by
  obtain ⟨S', _, hS'⟩ := h.dev
  have hs := h.keep.size
  refine ⟨⟨S1, hl, hd⟩, h.lg.dev hS' k, h.keep.trans k (fun x hx => .inl (by simp [hx])), h.ls, h.len, own_same h.row (fun q hq => ?_), fun p hp => ⟨(h.at' p hp).1.same ?_, (h.at' p hp).2⟩⟩
  · obtain ⟨c, hc⟩ := own_ty h.row hq
    have hq0 : w.heap.size ≤ q := by
      rcases h.row.2 with ⟨h1, _⟩ | ⟨g1, cap, cur, h1, h2, _⟩
      · rw [h1] at hq; cases hq
      · rw [h1] at hq; simp [Value.ownBlock] at hq; subst hq; exact h2
    exact k.block q (Array.getElem?_eq_some_iff.1 hc).1 (fun hf => by have := hF q hf; omega)
  · have h1 := h.at' p hp
    exact k.block p.g h1.1.glt (fun hf => by have := hF p.g hf; omega)
theorem Rd1.below (h : Rd1 w wr l d m v5 v6 v7 T S F base i pv n fps) (hF : ∀ k ∈ F, k < w.heap.size) {w1 : World} (b : Below wr.heap.size wr w1) : Rd1 w w1 l d m v5 v6 v7 T S F base i pv n fps := by
  obtain ⟨S', h1, h2⟩ := h.dev
  exact h.dv hF h1 (h2.below b) (Keep.of_below b)
/-- A page that does not read, or has no form. -/
theorem Rd1.skip (h : Rd1 w wr l d m v5 v6 v7 T S F base i pv n fps) (hp : fmAt S.cs (base + i) = Option.none) : Rd1 w wr l d m v5 v6 v7 T S F base (i + 1) pv n fps := by
  have e : forms S.cs base (i + 1) = forms S.cs base i := by rw [forms, hp]; simp
  refine ⟨h.dev, by rw [e]; exact h.lg, h.keep, by rw [e]; exact h.ls, h.len, h.row, h.at'⟩
end
theorem enter38 (args : Array Value) (w : World) : (callFunc 38 args).run Try.prog w = .ok (.enter 38 args) w := enters_of Try.func38 (by kernel_rfl) rfl args w
theorem enter37 (args : Array Value) (w : World) : (callFunc 37 args).run Try.prog w = .ok (.enter 37 args) w := enters_of Try.func37 (by kernel_rfl) rfl args w
set_option maxHeartbeats 4000000 in
theorem read_one {w wr : World} {l d m : Nat} {v5 v6 v7 : Value} {T : Lg} {S S' : Dv} {F : List Nat} (hL : LgIn wr l d m v5 v6 v7 T) (hD : DvAt wr d F S') (place i base : Nat) : True := trivial
end Go.Proofs.Ytbjkahdlejaheaa
