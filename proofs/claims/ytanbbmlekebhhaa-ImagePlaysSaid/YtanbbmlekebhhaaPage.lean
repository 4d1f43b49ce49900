/- A page that is read; a device that a law holds. -/
import Derived.Test.YtanbbmlekebhhaaRExt
import Derived.Test.YtanbbmlekebhhaaDevB
set_option linter.unusedVariables false
set_option linter.unusedSimpArgs false
set_option maxRecDepth 8000
namespace Go.Proofs.Ytanbbmlekebhhaa
open Go.RowKit Go.Deep Math

theorem has_nat {S : Dv} {k : Nat} (hk : k < S.cs.length) : S.has (k : Int) = true := by
  unfold Dv.has
  simp
  exact hk
theorem read_facts {S : Dv} {k : Nat} {c : Cl} (hk : S.cs[k]? = some c) (hoff : S.off = false) : S.readErr (k : Int) = c.now.err ∧ S.readText (k : Int) = c.now.read := by
  have hlt : k < S.cs.length := (List.getElem?_eq_some_iff.1 hk).1
  constructor
  · simp [Dv.readErr, has_nat hlt, hoff, hk]
  · simp [Dv.readText, has_nat hlt, hoff, hk]
theorem read_whole {d : Nat} {F : List Nat} {S : Dv} {k : Nat} {c : Cl} {b : ByteArray} (hk : S.cs[k]? = some c) (hoff : S.off = false) (hc : c.now = .whole b) (w : World) (h : DvAt w d F S) :
    Calls Try.prog 24 #[.pointer (some ⟨d, 0, none⟩), .int .i64 (k : Nat)] w fun e w' => e = .returned (.tuple #[.slice (some ⟨w.heap.size + 1, 0, none⟩) 384 384, .int .i64 0]) ∧
      BS w' (some ⟨w.heap.size + 1, 0, none⟩) 384 384 (full b).data.toList ∧ DvAt w' d F (S.readDo (k : Nat)) ∧ Keep F w w' := by
  obtain ⟨e1, e2⟩ := read_facts hk hoff
  rw [hc] at e1 e2
  refine (read_at d F S k w h).mono ?_
  rintro r w1 ⟨v, rfl, hr, hd1, kp1⟩
  rw [e1, e2] at hr
  rw [e1]
  rcases hr with ⟨h0, _⟩ | ⟨_, hsz, g, rfl, rfl, hb⟩
  · exact absurd rfl h0
  · have hsz' : (full b).data.toList.length = 384 := by rw [Array.length_toList]; exact hsz
    refine ⟨rfl, buf_bs ?_ hsz'.symm (Nat.le_refl _), hd1, kp1⟩
    unfold Buf
    rw [show zc 0 = [] from rfl, List.append_nil]
    exact hb
theorem read_bare {d : Nat} {F : List Nat} {S : Dv} {k : Nat} {c : Cl} {p : Pg} {e0 : Int} (hk : S.cs[k]? = some c) (hoff : S.off = false) (hc : c.now = p) (he : p.err = e0) (h0 : e0 ≠ 0) (w : World) (h : DvAt w d F S) :
    Calls Try.prog 24 #[.pointer (some ⟨d, 0, none⟩), .int .i64 (k : Nat)] w fun e w' => e = .returned (.tuple #[.slice none 0 0, .int .i64 e0]) ∧ DvAt w' d F (S.readDo (k : Nat)) ∧ Keep F w w' := by
  obtain ⟨e1, e2⟩ := read_facts hk hoff
  rw [hc, he] at e1
  refine (read_at d F S k w h).mono ?_
  rintro r w1 ⟨v, rfl, hr, hd1, kp1⟩
  rw [e1] at hr ⊢
  rcases hr with ⟨_, rfl, _⟩ | ⟨h1, _⟩
  · exact ⟨rfl, hd1, kp1⟩
  · exact absurd h1 h0
theorem DvAt.alloc {w : World} {d : Nat} {F : List Nat} {S : Dv} (h : DvAt w d F S) (o : Obj) : DvAt (w.alloc o) d F S := h.same (fun k hk => blk_alloc_lt _ _ _ (h.lt k hk))
theorem DvAt.below {w w' : World} {d : Nat} {F : List Nat} {S : Dv} (h : DvAt w d F S) (b : Below w.heap.size w w') : DvAt w' d F S := h.same (fun k hk => b.block k (h.lt k hk))
theorem DvAt.new {w : World} {d : Nat} {F : List Nat} {S : Dv} (h : DvAt w d F S) (k : Nat) (hk : w.heap.size ≤ k) : k ∉ F := fun hf => by have := h.lt k hf; omega
/-! ### A device that a law holds -/
structure Law (w0 : World) (d : Nat) (F : List Nat) (S : Dv) (W : World) : Prop where
  dev : DvAt W d F S
  low : ∀ k ∈ F, w0.heap.size ≤ k
  bel : Below w0.heap.size w0 W
theorem Law.move {w0 W W' : World} {d : Nat} {F F' : List Nat} {S S' : Dv} (h : Law w0 d F S W) (hd : DvAt W' d F' S') (m : Moves F F' W W') : Law w0 d F' S' W' := by
  have hs := h.bel.size
  refine ⟨hd, fun k hk => ?_, h.bel.trans (m.keep.below h.low hs)⟩
  rcases m.foot k hk with h1 | h1
  · exact h.low k h1
  · omega
theorem Law.below {w0 W W' : World} {d : Nat} {F : List Nat} {S : Dv} (h : Law w0 d F S W) (b : Below W.heap.size W W') : Law w0 d F S W' := h.move (h.dev.below b) (Moves.of_keep (Keep.of_below b))
theorem Law.alloc {w0 W : World} {d : Nat} {F : List Nat} {S : Dv} (h : Law w0 d F S W) (o : Obj) : Law w0 d F S (W.alloc o) := h.below ((Below.refl _ _).alloc (Nat.le_refl _) _)
/-- A variable of the law's, apart from the device. -/
structure Held (W : World) (F : List Nat) (k : Nat) (L : List Value) (t : TypeId) : Prop where
  blk : Blk W k L t
  off : k ∉ F
theorem Held.move {W W' : World} {F F' : List Nat} {k : Nat} {L : List Value} {t : TypeId} (h : Held W F k L t) (m : Moves F F' W W') : Held W' F' k L t := by
  have hl := h.blk.lt
  refine ⟨h.blk.same (m.keep.block _ hl h.off), fun hf => ?_⟩
  rcases m.foot k hf with h1 | h1
  · exact h.off h1
  · omega
theorem Held.below {W W' : World} {F : List Nat} {k : Nat} {L : List Value} {t : TypeId} (h : Held W F k L t) (b : Below W.heap.size W W') : Held W' F k L t := h.move (Moves.of_keep (Keep.of_below b))
theorem Held.alloc {W : World} {F : List Nat} {k : Nat} {L : List Value} {t : TypeId} (h : Held W F k L t) (o : Obj) : Held (W.alloc o) F k L t := h.below ((Below.refl _ _).alloc (Nat.le_refl _) _)
theorem Law.hold {w0 W : World} {d : Nat} {F : List Nat} {S : Dv} (h : Law w0 d F S W) (L : List Value) (t : TypeId) : Held (W.alloc (.cells L.toArray t)) F W.heap.size L t := ⟨Blk.new _ _ _, h.dev.new _ (Nat.le_refl _)⟩

theorem new_law {w0 W : World} (b : Below w0.heap.size w0 W) (n : Nat) (h1 : 1 ≤ n) (h2 : n ≤ 4096) :
    Calls Try.prog 10 #[.int .i64 n] W fun e W' => ∃ d F, e = .returned (.tuple #[.pointer (some ⟨d, 0, none⟩), .int .i64 0]) ∧ Law w0 d F (Dv.fresh n) W' ∧ Below W.heap.size W W' := by
  have hs := b.size
  refine (new_any n h1 h2 W).mono ?_
  rintro e W' ⟨rfl, hd, hb⟩
  refine ⟨W.heap.size + 1, foot (W.heap.size + 1) W.heap.size none, rfl, ⟨⟨_, _, _, _, rfl, hd⟩, fun k hk => ?_, b.trans (hb.mono hs)⟩, hb⟩
  simp [foot] at hk
  omega
def Dv.pg (S : Dv) (k : Nat) : Option Pg := (S.cs[k]?).map (·.now)
theorem putAt_get : ∀ (cs : List Cl) (i j : Nat) (p : Pg), ((putAt cs i p)[j]?).map (·.now) = if j = i ∧ j < cs.length then some p else (cs[j]?).map (·.now)
  | [], i, j, p => by simp [putAt]
  | c :: r, 0, 0, p => by simp [putAt, Cl.put]
  | c :: r, 0, j + 1, p => by simp [putAt]
  | c :: r, i + 1, 0, p => by simp [putAt]
  | c :: r, i + 1, j + 1, p => by
    have := putAt_get r i j p
    simp only [putAt, List.getElem?_cons_succ, this, List.length_cons]
    by_cases h : j = i ∧ j < r.length
    · rw [if_pos h, if_pos (by omega)]
    · rw [if_neg h, if_neg (by omega)]
theorem flush_get (cs : List Cl) (j : Nat) : (((cs.map Cl.flush)[j]?).map (·.now)) = (cs[j]?).map (·.now) := by
  rw [List.getElem?_map]
  cases cs[j]? <;> rfl
theorem used_off (S : Dv) (ha : S.armed ≠ 1) : S.used.off = S.off := by
  unfold Dv.used; split
  · rfl
  · rfl
theorem used_armed (S : Dv) (ho : S.off = false) (ha : S.armed ≠ 1) : S.used.armed = S.armed - 1 := by
  unfold Dv.used; split
  · rename_i h
    rcases h with h | h
    · rw [ho] at h; cases h
    · omega
  · rfl
end Go.Proofs.Ytanbbmlekebhhaa
