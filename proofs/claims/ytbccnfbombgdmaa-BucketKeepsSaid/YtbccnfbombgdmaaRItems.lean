/- 'items': two rows of the same items. -/
import Derived.Test.YtbccnfbombgdmaaREq
import Derived.Deep.RegionHeld
set_option linter.unusedVariables false
set_option linter.unusedSimpArgs false
set_option maxRecDepth 100000
namespace Go.Proofs.Ytbccnfbombgdmaa
open Go.RowKit Go.Deep Math

set_option maxHeartbeats 400000 in
theorem items_same (a b : Option Addr) (n ca cb : Nat) (xs : List It) (hn : n ≤ 1048576) (w : World) (h : ItsAt w a n xs) (h' : ItsAt w b n xs) :
    Calls Try.prog 23 #[.slice a n ca, .slice b n cb] w fun e w' => e = .returned (.bool true) ∧ Below w.heap.size w w' := by
  have H := hide h
  have H' := hide h'
  clear h h'
  go_enter Try.func23, Try.ntmps23
  go_wp2_with fail
  go_loopg [5] n (fun kx s5 wr => ∃ i : Nat, s5 = .int .i64 i ∧ i ≤ n ∧ n - i ≤ kx ∧ Hid (Below w.heap.size w wr))
  case atStart => exact ⟨0, rfl, Nat.zero_le _, by omega, Below.refl _ _⟩
  case round =>
    obtain ⟨i, rfl, hin, hg, I⟩ := hrel
    by_cases hlt : i < n
    · have hlt2 : (i : Int) < (n : Int) := by omega
      obtain ⟨x, hx⟩ : ∃ x, xs[i]? = some x := ⟨_, List.getElem?_eq_getElem (by rw [← H.out.len]; exact hlt)⟩
      obtain ⟨b1, o1, rfl, hb1, hc1⟩ := H.out.cell i x hx
      obtain ⟨b2, o2, rfl, hb2, hc2⟩ := H'.out.cell i x hx
      have hc1 := hc1.below I.out.drew hb1
      have hc2 := hc2.below I.out.drew hb2
      have hb1' : b1 < wr.heap.size := Nat.lt_of_lt_of_le hb1 I.out.size
      have hb2' : b2 < wr.heap.size := Nat.lt_of_lt_of_le hb2 I.out.size
      have c0 := hc1.c0
      have c1 := hc1.c1
      have c2 := hc1.c2
      have c3 := hc1.c3
      have c4 := hc1.c4
      have d0 := hc2.c0
      have d1 := hc2.c1
      have d2 := hc2.c2
      have d3 := hc2.c3
      have d4 := hc2.c4
      have FF := hide (And.intro c0 (And.intro c1 (And.intro c2 (And.intro c3 (And.intro c4 (And.intro d0 (And.intro d1 (And.intro d2 (And.intro d3 d4)))))))))
      clear hc1 hc2 hx
      go_wp2_with fail
      go_region_held (fun W => W.cell? ⟨b1, o1 + i * 5, none⟩ = some (.string (txt x.key)) ∧ W.cell? ⟨b1, o1 + i * 5 + 1, none⟩ = some (.string (txt x.value)) ∧ W.cell? ⟨b1, o1 + i * 5 + 2, none⟩ = some (.int .u32 x.flags) ∧ W.cell? ⟨b1, o1 + i * 5 + 3, none⟩ = some (.int .i64 x.exp) ∧ W.cell? ⟨b1, o1 + i * 5 + 4, none⟩ = some (.int .u64 x.ver) ∧ W.cell? ⟨b2, o2 + i * 5, none⟩ = some (.string (txt x.key)) ∧ W.cell? ⟨b2, o2 + i * 5 + 1, none⟩ = some (.string (txt x.value)) ∧ W.cell? ⟨b2, o2 + i * 5 + 2, none⟩ = some (.int .u32 x.flags) ∧ W.cell? ⟨b2, o2 + i * 5 + 3, none⟩ = some (.int .i64 x.exp) ∧ W.cell? ⟨b2, o2 + i * 5 + 4, none⟩ = some (.int .u64 x.ver))
        (exact FF.out)
        (fail)
      all_goals go_wp2
      all_goals go_roundg (n - (i + 1))
      case measure => omega
      case rel => exact ⟨i + 1, rfl, by omega, by omega, I.out.drew⟩
    · obtain rfl : i = n := by omega
      have hlt2 : ¬ (i : Int) < (i : Int) := by omega
      go_wp2
      go_ret
      exact ⟨rfl, I.out⟩
end Go.Proofs.Ytbccnfbombgdmaa
