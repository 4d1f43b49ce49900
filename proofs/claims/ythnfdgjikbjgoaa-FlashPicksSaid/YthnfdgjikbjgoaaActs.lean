/- A list of calls as it comes in: a row of structs, each with a slice of bytes of its own. -/
import Derived.Test.YthnfdgjikbjgoaaBytes
import Derived.Deep.Slices
import Derived.ChangeSlices
import Derived.SizedLaws
set_option linter.unusedVariables false
set_option linter.unusedSimpArgs false
namespace Go.Proofs.Ythnfdgjikbjgoaa
open Go.RowKit Go.Deep Go.ChangeShapes Go.WideShapes

/-- A call: which, the page, the bytes and where they lie. -/
structure ActI where
  op : Int
  page : Int
  a : Option Addr
  cap : Nat
  bb : Nat
  l : List UInt8

structure OneAct (w : World) (b o : Nat) (t : ActI) : Prop where
  c0 : w.cell? ⟨b, o, none⟩ = some (.int .i64 t.op)
  c1 : w.cell? ⟨b, o + 1, none⟩ = some (.int .i64 t.page)
  c2 : w.cell? ⟨b, o + 2, none⟩ = some (.slice t.a t.l.length t.cap)
  bytes : BSlice w t.a t.l t.bb
  nil : t.a = none → t.l = []
  small : t.l.length ≤ 140737488351232
  page : t.page ≤ 9223372036854775807

/-- The list of calls. -/
def ActsAt (w : World) (a : Option Addr) (len : Nat) (ts : List ActI) : Prop :=
  ts.length = len ∧ (ts = [] ∨ ∃ b o, a = some ⟨b, o, none⟩ ∧ b < w.heap.size ∧ ∀ i t, ts[i]? = some t → OneAct w b (o + i * 3) t)

theorem OneAct.same {w w' : World} {b o : Nat} {t : ActI} (h : OneAct w b o t) (hs : w.heap.size ≤ w'.heap.size) (e : ∀ k, k < w.heap.size → w'.heap[k]? = w.heap[k]?) : OneAct w' b o t := by
  have lt : b < w.heap.size := block_lt_of_cell h.c0
  refine ⟨?_, ?_, ?_, h.bytes.same hs (fun hb _ => e _ hb), h.nil, h.small, h.page⟩
  · rw [World.cell?_of_block (a := ⟨b, o, none⟩) (e b lt)]; exact h.c0
  · rw [World.cell?_of_block (a := ⟨b, o + 1, none⟩) (e b lt)]; exact h.c1
  · rw [World.cell?_of_block (a := ⟨b, o + 2, none⟩) (e b lt)]; exact h.c2

theorem ActsAt.same {w w' : World} {a : Option Addr} {len : Nat} {ts : List ActI} (h : ActsAt w a len ts) (hs : w.heap.size ≤ w'.heap.size) (e : ∀ k, k < w.heap.size → w'.heap[k]? = w.heap[k]?) : ActsAt w' a len ts := by
  refine ⟨h.1, ?_⟩
  rcases h.2 with h0 | ⟨b, o, ha, hb, hc⟩
  · exact .inl h0
  · exact .inr ⟨b, o, ha, Nat.lt_of_lt_of_le hb hs, fun i t ht => (hc i t ht).same hs e⟩

theorem i64_wf {z : Int} (h : (Lit.int .i64 z).wf = true) : z ≤ 9223372036854775807 := by
  have h2 : IntKind.i64.max = 9223372036854775807 := rfl
  simp [Lit.wf, h2] at h
  exact h.2

theorem bytes5 : Try.prog.bytesOf 5 = 1 := by kernel_rfl
theorem cells36 : Try.prog.cellsOf 36 = 3 := by kernel_rfl
theorem cells3 : Try.prog.cellsOf 3 = 1 := by kernel_rfl
theorem cells29 : Try.prog.cellsOf 29 = 1 := by kernel_rfl
theorem cells5 : Try.prog.cellsOf 5 = 1 := by kernel_rfl

/-- One slice of bytes, by its cells. -/
theorem bytes_open {H : Type} {enc : TypeId × Value → H} {W : World} {fuel : Nat} {cs : List Value} {x : DataW H × List MemPlace} (h : DataW.trod enc Try.prog W 0 (fun _ => true) true fuel 29 cs = some x)
    (hw : ∀ n ∈ x.1.weights Try.prog 29, n ≤ reachBytes) :
    ∃ (a : Option Addr) (cap bb : Nat) (l : List UInt8), cs = [.slice a l.length cap] ∧ BSlice W a l bb ∧ (a = none → l = []) ∧ l.length ≤ 140737488351232 := by
  rcases open_ints Try.underlying29 Try.underlying5 cells5 h with ⟨rfl, _⟩ | ⟨a, len, cap, zs, rfl, _, hl, hm, hz, hx, hcell, hwz⟩
  · exact ⟨none, 0, 0, [], rfl, .inl rfl, fun _ => rfl, Nat.zero_le _⟩
  · have hz' : zs.length = cap := by simpa using hz
    have row : RowIs W (some a) len cap zs := .inr ⟨a, rfl, hl, hm, hz', hcell, hwz⟩
    obtain ⟨l, bb, h1, h2, h3, _⟩ := row_bytes row
    have hb : (zs.take len).length + (zs.drop len).length ≤ reachBytes := by
      have := hw (((lits (H := H) .u8 (zs.take len)).length + (lits (H := H) .u8 (zs.drop len)).length) * Try.prog.bytesOf 5) (by rw [hx]; simp [DataW.weights, Try.underlying29])
      rw [bytes5] at this
      simpa [lits] using this
    refine ⟨some a, cap, bb, l, by rw [h1], h2, h3, ?_⟩
    rw [h1]
    have e : reachBytes = 140737488351232 := by decide
    simp at hb
    omega

theorem weights_all {H : Type} {P : Program} {e : TypeId} : ∀ {ds : List (DataW H)} {d : DataW H}, d ∈ ds → ∀ n ∈ d.weights P e, n ∈ DataW.weightsAll P e ds
  | d0 :: r, d, hd, n, hn => by
    simp only [DataW.weightsAll, List.mem_append]
    rcases List.mem_cons.1 hd with rfl | hd
    · exact .inl hn
    · exact .inr (weights_all hd n hn)

set_option maxHeartbeats 400000 in
theorem acts_open {H : Type} {enc : TypeId × Value → H} {W : World} {fuel : Nat} {a0 : Option Addr} {len0 cap0 : Nat} {x : DataW H × List MemPlace} (h : DataW.trod enc Try.prog W 0 (fun _ => true) true fuel 32 [.slice a0 len0 cap0] = some x)
    (hw : ∀ n ∈ x.1.weights Try.prog 32, n ≤ reachBytes) : ∃ ts, ActsAt W a0 len0 ts := by
  rcases open_slice Try.underlying32 h with ⟨hcs, _⟩ | ⟨a, len, cap, m, n, D, Pl, hcs, _, hl, hm, hmm, hx, hel⟩
  · simp at hcs
    obtain ⟨rfl, rfl, rfl⟩ := hcs
    exact ⟨[], rfl, .inl rfl⟩
  · simp only [List.cons.injEq, Value.slice.injEq, and_true] at hcs
    obtain ⟨rfl, rfl, rfl⟩ := hcs
    have hmc : m = cap0 := by simpa using hmm
    by_cases h0 : len0 = 0
    · subst h0; exact ⟨[], rfl, .inl rfl⟩
    have hspot : a.spot = none := by
      obtain ⟨cs', h1, h2⟩ := hel 0 (by omega)
      rw [cells36] at h1
      obtain ⟨_, hlen, hcell⟩ := World.cells?_some h1
      match cs', hlen with
      | [v0, v1, v2], _ =>
        have e0 := hcell 0 (by omega)
        have := World.cell?_spot (v := v0) (by simpa using e0)
        simpa [Addr.add] using this
    have each : ∀ i, i < len0 → ∃ t : ActI, ∃ o, a = ⟨a.block, o, none⟩ ∧ OneAct W a.block (o + i * 3) t := by
      intro i hi
      obtain ⟨cs', h1, h2⟩ := hel i (by omega)
      rw [cells36] at h1
      obtain ⟨_, hlen, hcell⟩ := World.cells?_some h1
      have hwi : ∀ k ∈ (D i).weights Try.prog 36, k ≤ reachBytes := fun k hk => by
        refine hw k ?_
        rw [hx]
        simp only [DataW.weights, Try.underlying32, List.mem_cons, List.mem_append]
        refine .inr (.inl (weights_all (d := D i) ?_ k hk))
        exact List.mem_map.2 ⟨i, List.mem_range.2 hi, rfl⟩
      obtain ⟨xs, k, hk, hxy, _, hxl, hf⟩ := DataW.trod_struct Try.underlying36 h2
      match xs, hxl, cs', hlen with
      | [y0, y1, y2], _, [v0, v1, v2], _ =>
        have g0 := hf 0 _ rfl
        have g1 := hf 1 _ rfl
        have g2 := hf 2 _ rfl
        simp at g0 g1 g2
        simp only [cells3, cells29] at g0 g1 g2
        simp only [List.take_succ_cons, List.take_zero] at g0 g1 g2
        simp only [Prod.mk.injEq] at hxy
        have e0 := hcell 0 (by omega)
        have e1 := hcell 1 (by omega)
        have e2 := hcell 2 (by omega)
        rw [add_add] at e0 e1 e2
        obtain ⟨n0, hv0, _, _⟩ := DataW.trod_int Try.underlying3 g0
        obtain ⟨n1, hv1, _, hwf⟩ := DataW.trod_int Try.underlying3 g1
        obtain ⟨ba, bc, bb, l, hv2, b1, b2, b3⟩ := bytes_open g2 (fun k hk => by
          refine hwi k ?_
          rw [hxy.1]
          simp only [DataW.weights, Try.underlying36]
          simp [DataW.weightsEach, hk])
        simp only [List.cons.injEq, and_true] at hv0 hv1 hv2
        subst hv0 hv1 hv2
        obtain ⟨b, off, sp⟩ := a
        simp only at hspot
        subst hspot
        rw [Addr.add_lit] at e0 e1 e2
        have e0' : W.cell? ⟨b, off + i * 3, none⟩ = some (.int .i64 n0) := by simpa using e0
        have e1' : W.cell? ⟨b, off + (i * 3 + 1), none⟩ = some (.int .i64 n1) := by simpa using e1
        have e2' : W.cell? ⟨b, off + (i * 3 + 2), none⟩ = some (.slice ba l.length bc) := by simpa using e2
        refine ⟨⟨n0, n1, ba, bc, bb, l⟩, off, rfl, e0', ?_, ?_, b1, b2, b3, i64_wf hwf⟩
        · rw [show off + i * 3 + 1 = off + (i * 3 + 1) by omega]; exact e1'
        · rw [show off + i * 3 + 2 = off + (i * 3 + 2) by omega]; exact e2'
    · obtain ⟨_, o, ha, _⟩ := each 0 (by omega)
      have each2 : ∀ i, i < len0 → ∃ t : ActI, OneAct W a.block (o + i * 3) t := fun i hi => by
        obtain ⟨t, o', ha', ht⟩ := each i hi
        have : o' = o := by rw [ha'] at ha; simpa using ha
        subst this
        exact ⟨t, ht⟩
      obtain ⟨T, hT⟩ := @choose_lt _ ⟨⟨0, 0, none, 0, 0, []⟩⟩ _ _ each2
      refine ⟨(List.range len0).map T, by simp, .inr ⟨a.block, o, by rw [← ha], block_lt_of_cell (a := ⟨a.block, o + 0 * 3, none⟩) (hT 0 (by omega)).c0, fun i t ht => ?_⟩⟩
      have hi : i < len0 := by have := (List.getElem?_eq_some_iff.1 ht).1; simpa using this
      have : t = T i := by
        rw [List.getElem?_map, List.getElem?_range hi] at ht
        simpa using ht.symm
      rw [this]
      exact hT i hi
end Go.Proofs.Ythnfdgjikbjgoaa
