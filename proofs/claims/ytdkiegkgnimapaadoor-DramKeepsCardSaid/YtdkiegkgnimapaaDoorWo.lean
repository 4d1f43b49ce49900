/- Rows of items, and the law's own 'without'. -/
import Derived.Test.YtdkiegkgnimapaaDoorLw
set_option linter.unusedVariables false
set_option linter.unusedSimpArgs false
set_option maxRecDepth 8000
namespace Go.Proofs.YtdkiegkgnimapaaDoor
open Go.RowKit Go.Deep Drm Go.Shelf
open Tbl (txt)
theorem info33 : (Tryd.prog.info? 33).map (fun i => (i.zero, i.size, i.bytes)) = some (some (.agg #[.string ⟨#[]⟩, .string ⟨#[]⟩, .int .u32 0, .int .i64 0, .int .u64 0]), 5, 56) := by kernel_rfl
def itK : Kd It := ⟨47, 33, 5, itL, fun _ => rfl, Tryd.underlying47, .agg #[.string ⟨#[]⟩, .string ⟨#[]⟩, .int .u32 0, .int .i64 0, .int .u64 0], 56, info33, by decide, by decide, fun x u hu => by simp [itL] at hu; rcases hu with rfl | rfl | rfl | rfl | rfl <;> rfl, rfl⟩
theorem it_at {B n vc : Nat} {va : Option Addr} {xs : List It} {W : World} (h : GR itK B (.slice va n vc) xs W) {i : Nat} {x : It} (hx : xs[i]? = some x) : ∃ g, va = some ⟨g, 0, none⟩ ∧ W.cell? ⟨g, i * 5, none⟩ = some (.string (txt x.k)) ∧ W.cell? ⟨g, i * 5 + 1, none⟩ = some (.string (txt x.v)) ∧ W.cell? ⟨g, i * 5 + 2, none⟩ = some (.int .u32 x.fl) ∧ W.cell? ⟨g, i * 5 + 3, none⟩ = some (.int .i64 x.ex) ∧ W.cell? ⟨g, i * 5 + 4, none⟩ = some (.int .u64 x.ve) := by
  have key : ∀ (r : Nat) (u : Value), (itK.enc x)[r]? = some u → ∃ g, va = some ⟨g, 0, none⟩ ∧ W.cell? ⟨g, i * 5 + r, none⟩ = some u := fun r u hu => by
    obtain ⟨g, c, hv, hc, -⟩ := h.cell hx hu
    simp only [Value.slice.injEq] at hv
    exact ⟨g, hv.1, hc⟩
  obtain ⟨g, hg, c0⟩ := key 0 _ rfl
  refine ⟨g, hg, c0, ?_, ?_, ?_, ?_⟩
  · obtain ⟨g', hg', c1⟩ := key 1 _ rfl
    rw [hg] at hg'; cases hg'; exact c1
  · obtain ⟨g', hg', c1⟩ := key 2 _ rfl
    rw [hg] at hg'; cases hg'; exact c1
  · obtain ⟨g', hg', c1⟩ := key 3 _ rfl
    rw [hg] at hg'; cases hg'; exact c1
  · obtain ⟨g', hg', c1⟩ := key 4 _ rfl
    rw [hg] at hg'; cases hg'; exact c1
def wo (key : List UInt8) (xs : List It) : List It := xs.filter fun x => decide (x.k ≠ key)
theorem wo_take {key : List UInt8} {xs : List It} {i : Nat} {x : It} (hx : xs[i]? = some x) : wo key (xs.take (i + 1)) = wo key (xs.take i) ++ (if x.k = key then [] else [x]) := by
  obtain ⟨h1, h2⟩ := List.getElem?_eq_some_iff.1 hx
  rw [List.take_succ_eq_append_getElem h1, h2]
  unfold wo
  rw [List.filter_append]
  by_cases h : x.k = key <;> simp [h]
theorem wo_len (key : List UInt8) (xs : List It) : (wo key xs).length ≤ xs.length := List.length_filter_le _ _
def WoP (key : List UInt8) (xs : List It) (w : World) (e : Ending) (W' : World) : Prop := ∃ va vc, e = .returned (.slice va (wo key xs).length vc) ∧ GR itK w.heap.size (.slice va (wo key xs).length vc) (wo key xs) W' ∧ Below w.heap.size w W'
set_option maxHeartbeats 4000000 in
theorem without_any {B : Nat} {w : World} {a : Option Addr} {n cap : Nat} {xs : List It} (h : GR itK B (.slice a n cap) xs w) (key : List UInt8) (hn : xs.length ≤ 1000) :
    Calls Tryd.prog 16 #[.slice a n cap, .string (txt key)] w (WoP key xs w) := by
  have hl : n = xs.length := GR.len' h
  have HG := hide h
  have HL := hide hl
  have hn1 : n ≤ 1000 := by omega
  clear h hl hn
  go_enter Tryd.func16, Tryd.ntmps16
  go_wp2
  go_loopg [5, 6] n (fun kx s5 s6 wr => ∃ (i : Nat) (va : Option Addr) (m vc : Nat), s6 = .int .i64 (i : Int) ∧ s5 = .slice va m vc ∧ Hid (i ≤ n ∧ n - i ≤ kx ∧ m = (wo key (xs.take i)).length ∧ GR itK w.heap.size (.slice va m vc) (wo key (xs.take i)) wr ∧ Below w.heap.size w wr))
  case atStart => exact ⟨0, none, 0, 0, rfl, rfl, Nat.zero_le _, Nat.le_refl _, rfl, GR.nil _ _ _, Below.refl _ _⟩
  case round =>
    obtain ⟨i, va, m, vc, rfl, rfl, I⟩ := hrel
    obtain ⟨i1, i2, i3, i4, i5⟩ := I.out
    by_cases hlt : i < n
    · have hlt2 : (i : Int) < (n : Int) := by omega
      have hx := List.getElem?_eq_getElem (l := xs) (i := i) (by rw [← HL.out]; exact hlt)
      obtain ⟨x, hxe⟩ : ∃ x, x = xs[i]'(by rw [← HL.out]; exact hlt) := ⟨_, rfl⟩
      rw [← hxe] at hx
      have hg := HG.out.below i5
      obtain ⟨g, rfl, q0, q1, q2, q3, q4⟩ := it_at hg hx
      have htk := wo_take (key := key) hx
      have he := Tbl.txt_eq x.k key
      by_cases hk : x.k = key
      · rw [decide_eq_true hk] at he
        rw [if_pos hk, List.append_nil] at htk
        have HS : Hid (m = (wo key (xs.take (i + 1))).length ∧ GR itK w.heap.size (.slice va m vc) (wo key (xs.take (i + 1))) wr ∧ Below w.heap.size w wr) := by rw [htk]; exact ⟨i3, i4, i5⟩
        have HK := hide i2
        clear hx hxe hg htk hk i1 i2 i3 i4 i5 I
        generalize txt key = tk at *
        generalize txt x.k = tx at *
        go_wp2
        go_roundg (n - (i + 1))
        case measure => have := HK.out; omega
        case rel => exact ⟨i + 1, va, m, vc, rfl, rfl, by omega, Nat.le_refl _, HS.out⟩
      · rw [decide_eq_false hk] at he
        rw [if_neg hk] at htk
        obtain ⟨va2, vc2, W2, hrun, hS, hK, hO⟩ := snoc_g i4 i5.size x (by
          have h1 := wo_len key (xs.take i)
          have h2 := HL.out
          simp only [List.length_take] at h1
          omega)
        rw [← i3] at hrun hS hO
        have HS : Hid (m + 1 = (wo key (xs.take (i + 1))).length ∧ GR itK w.heap.size (.slice va2 (m + 1) vc2) (wo key (xs.take (i + 1))) W2 ∧ Below w.heap.size w W2) := by
          rw [htk]
          exact ⟨by simp [i3], hS, i5.trans (hK.below (fun y hy => (i4.lt y hy).1) i5.size)⟩
        have HR : Hid (∀ ty, (Builtin.append_ #[47, 47] ty #[.slice va m vc, .slice (some ⟨wr.heap.size, 0, none⟩) 1 1]).run Tryd.prog (wr.alloc (.cells #[.string (txt x.k), .string (txt x.v), .int .u32 x.fl, .int .i64 x.ex, .int .u64 x.ve] 33)) = .ok (.slice va2 (m + 1) vc2) W2) := hrun
        have HK := hide i2
        clear hx hxe hg htk hk i1 i2 i3 i4 i5 I hrun hS hK hO
        generalize txt key = tk at *
        generalize txt x.k = tx at *
        generalize txt x.v = tv at *
        go_wp2_with (at_builtin; refine Lib.wpList_append_run _ rfl _ _ _ _ rfl _ _ rfl rfl _ _ (HR.out _) ?_)
        go_roundg (n - (i + 1))
        case measure => have := HK.out; omega
        case rel => exact ⟨i + 1, va2, m + 1, vc2, rfl, rfl, by omega, Nat.le_refl _, HS.out⟩
    · have hlt2 : ¬ (i : Int) < (n : Int) := by omega
      have HE : Hid (m = (wo key xs).length ∧ GR itK w.heap.size (.slice va m vc) (wo key xs) wr ∧ Below w.heap.size w wr) := by
        rw [show i = xs.length by rw [← HL.out]; omega, List.take_length] at i3 i4
        exact ⟨i3, i4, i5⟩
      clear i1 i2 i3 i4 i5 I
      go_wp2
      go_ret
      obtain ⟨rfl, h2, h3⟩ := HE.out
      exact ⟨va, vc, rfl, h2, h3⟩
end Go.Proofs.YtdkiegkgnimapaaDoor
