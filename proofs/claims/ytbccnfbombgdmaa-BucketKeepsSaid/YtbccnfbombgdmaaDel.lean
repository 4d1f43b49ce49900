/- A list without a key: the closure, IndexFunc. -/
import Derived.Test.YtbccnfbombgdmaaRItems
import Derived.Test.YtbccnfbombgdmaaRRow
set_option linter.unusedVariables false
set_option linter.unusedSimpArgs false
set_option maxRecDepth 8000
namespace Go.Proofs.Ytbccnfbombgdmaa
open Go.RowKit Go.Deep Math

set_option maxHeartbeats 400000 in
theorem del_any (x : It) (key : List UInt8) (B : Nat) (w : World) (hB : w.cell? ⟨B, 0, none⟩ = some (.string (txt key))) :
    Calls Try.prog 49 #[x.val, .pointer (some ⟨B, 0, none⟩)] w fun e w' => e = .returned (.bool (decide (x.key = key))) ∧ Below w.heap.size w w' := by
  unfold It.val itV
  have hlt : B < w.heap.size := block_lt_of_cell hB
  go_enter Try.func49, Try.ntmps49
  go_wp2
  go_ret
  refine ⟨?_, (Below.refl _ _).alloc (Nat.le_refl _) _⟩
  rw [txt_list, txt_list]
  congr 2
  by_cases h : x.key = key <;> simp [h]

theorem OneIt.vals {w : World} {b o : Nat} {x : It} (h : OneIt w b o x) : w.cell? ⟨b, o, none⟩ = some (.string (txt x.key)) ∧ w.cell? ⟨b, o + 1, none⟩ = some (.string (txt x.value)) ∧ w.cell? ⟨b, o + 2, none⟩ = some (.int .u32 x.flags) ∧ w.cell? ⟨b, o + 3, none⟩ = some (.int .i64 x.exp) ∧ w.cell? ⟨b, o + 4, none⟩ = some (.int .u64 x.ver) := ⟨h.c0, h.c1, h.c2, h.c3, h.c4⟩
set_option maxHeartbeats 1000000 in
theorem idx_any (a : Option Addr) (n cap : Nat) (xs : List It) (key : List UInt8) (B : Nat) (hn63 : n ≤ 1048576) (w : World) (h : ItsAt w a n xs) (hB : w.cell? ⟨B, 0, none⟩ = some (.string (txt key))) :
    Calls Try.prog 57 #[.slice a n cap, .func (.func 49) #[] #[.pointer (some ⟨B, 0, none⟩)]] w fun e w' => (∃ k : Int, e = .returned (.int .i64 k) ∧ ((k = -1 ∧ ∀ x ∈ xs, x.key ≠ key) ∨ ∃ i x, k = (i : Nat) ∧ xs[i]? = some x ∧ x.key = key ∧ ∀ y ∈ xs.take i, y.key ≠ key)) ∧ Below w.heap.size w w' := by
  have H := hide h
  have hBl : B < w.heap.size := block_lt_of_cell hB
  have cD : Hid (∀ (x : It) (W : World), Below w.heap.size w W → Calls Try.prog 49 #[.agg #[.string (txt x.key), .string (txt x.value), .int .u32 x.flags, .int .i64 x.exp, .int .u64 x.ver], .pointer (some ⟨B, 0, none⟩)] W fun e w' => e = .returned (.bool (decide (x.key = key))) ∧ Below W.heap.size W w') := fun x W b => del_any x key B W ((b.cell (p := ⟨B, 0, none⟩) hBl).trans hB)
  clear h hB
  go_enter Try.func57, Try.ntmps57
  go_wp2_with fail
  go_loopg [8] n (fun kx s8 wr => ∃ i : Nat, s8 = .int .i64 i ∧ i ≤ n ∧ n - i ≤ kx ∧ Hid ((∀ y ∈ xs.take i, y.key ≠ key) ∧ Below w.heap.size w wr))
  case atStart => exact ⟨0, rfl, Nat.zero_le _, by omega, by simp, Below.refl _ _⟩
  case round =>
    obtain ⟨i, rfl, hin, hg, I⟩ := hrel
    by_cases hlt : i < n
    · have hlt2 : (i : Int) < (n : Int) := by omega
      obtain ⟨x, hx⟩ : ∃ x, xs[i]? = some x := ⟨_, List.getElem?_eq_getElem (by rw [← H.out.len]; exact hlt)⟩
      obtain ⟨b, o, rfl, hb, hc⟩ := H.out.cell i x hx
      obtain ⟨c0, c1, c2, c3, c4⟩ := (hc.below I.out.2 hb).vals
      have hbw : b < wr.heap.size := Nat.lt_of_lt_of_le hb I.out.2.size
      have cx := hide (cD.out x wr I.out.2)
      have HX := hide hx
      clear hc hx
      by_cases hk : x.key = key
      · have HK := hide hk
        rw [decide_eq_true hk] at cx
        clear hk
        go_wp2_with fail
        refine cx.out.mono ?_
        rintro e w1 ⟨rfl, h1⟩
        have B1 := hide (I.out.2.trans (h1.mono I.out.2.size))
        clear h1
        go_wp2
        go_ret
        exact ⟨⟨(i : Int), rfl, .inr ⟨i, x, rfl, HX.out, HK.out, I.out.1⟩⟩, B1.out⟩
      · have HK := hide hk
        rw [decide_eq_false hk] at cx
        clear hk
        go_wp2_with fail
        refine cx.out.mono ?_
        rintro e w1 ⟨rfl, h1⟩
        have B1 := hide (I.out.2.trans (h1.mono I.out.2.size))
        clear h1
        go_wp2
        go_roundg (n - (i + 1))
        case measure => omega
        case rel =>
          refine ⟨i + 1, rfl, by omega, by omega, fun y hy => ?_, B1.out⟩
          rw [List.take_add_one, HX.out] at hy
          simp only [List.mem_append, Option.toList_some, List.mem_singleton] at hy
          rcases hy with hy | rfl
          · exact I.out.1 y hy
          · exact HK.out
    · obtain rfl : i = n := by omega
      have hlt2 : ¬ (i : Int) < (i : Int) := by omega
      go_wp2
      go_ret
      refine ⟨⟨-1, rfl, .inl ⟨rfl, fun y hy => I.out.1 y ?_⟩⟩, I.out.2⟩
      rw [H.out.len, List.take_length]; exact hy
end Go.Proofs.Ytbccnfbombgdmaa
