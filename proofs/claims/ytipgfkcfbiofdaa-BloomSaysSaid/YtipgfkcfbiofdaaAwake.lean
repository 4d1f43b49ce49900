/- 'awake' answers true and turns nothing that was there. -/
import Derived.Test.YtipgfkcfbiofdaaLaw
set_option linter.unusedVariables false
set_option linter.unusedSimpArgs false
namespace Go.Proofs.Ytipgfkcfbiofdaa
open Go.RowKit Go.Deep Math

def keyA : ByteArray := ⟨#[97]⟩
set_option maxHeartbeats 1000000 in
theorem awake_any (w : World) :
    Calls Try.prog 8 #[] w fun e w' => e = .returned (.bool true) ∧ Below w.heap.size w w' := by
  have cN := hide (new_l (Below.refl w.heap.size w) 64 2 (by omega) (by omega) (by omega) (by omega))
  go_enter Try.func8, Try.ntmps8
  go_wp2_with fail
  refine cN.out.mono ?_
  rintro e w1 ⟨f, s, rfl, h1, _, _, _⟩
  obtain ⟨l1, hl1⟩ : ∃ l, l = List.replicate 64 false := ⟨_, rfl⟩
  rw [← hl1] at h1
  have L1 := hide hl1
  have N1 : Hid (l1.length = 64) := by show _ = _; rw [hl1]; simp
  have F1 := hide h1
  clear hl1 h1 cN
  have cM : Hid (Calls Try.prog 14 #[.pointer (some ⟨f, 0, none⟩), .string ⟨#[97]⟩] w1 fun e W' => e = .returned (.bool false) ∧ Fl w f s l1 2 W') := by
    refine (may_l F1.out keyA (by decide)).mono ?_
    rintro e W' ⟨rfl, h, _⟩
    exact ⟨by rw [L1.out, mayB_blank (plc_ne (by omega))], h⟩
  go_wp2_with fail
  refine cM.out.mono ?_
  rintro e w2 ⟨rfl, h2⟩
  have F2 := hide h2
  clear h2 cM F1
  obtain ⟨l2, hl2⟩ : ∃ l, l = setB l1 (plc keyA l1.length 2) := ⟨_, rfl⟩
  have L2 := hide hl2
  clear hl2
  have hpl : Hid (∀ i ∈ plc keyA l1.length 2, i < l1.length) := plc_lt (by rw [N1.out]; omega)
  have cA : Hid (Calls Try.prog 10 #[.pointer (some ⟨f, 0, none⟩), .string ⟨#[97]⟩] w2 fun e W' => e = .returned (.tuple #[]) ∧ Fl w f s l2 2 W') := by
    refine (add_l F2.out keyA (by decide)).mono ?_
    rintro e W' ⟨rfl, h, _⟩
    exact ⟨rfl, by rw [L2.out]; exact h⟩
  go_wp2_with fail
  refine cA.out.mono ?_
  rintro e w3 ⟨rfl, h3⟩
  have F3 := hide h3
  clear h3 cA F2
  have hp : 1 ≤ cntB l2 := by rw [L2.out]; exact cntB_pos (plc_ne (by omega)) hpl.out
  have hc9 : cntB l2 ≤ l2.length := ixs_le _ _
  have hl9 : l2.length = 64 := by rw [L2.out, setB_length, N1.out]
  have HL9 := hide hl9
  have cB := hide (bits_l F3.out)
  go_wp2_with fail
  refine cB.out.mono ?_
  rintro e w4 ⟨g, cap, rfl, hnm, h4, _, _⟩
  have F4 := hide h4
  have M4 := hide hnm
  clear h4 hnm cB F3
  have cM : Hid (Calls Try.prog 14 #[.pointer (some ⟨f, 0, none⟩), .string ⟨#[97]⟩] w4 fun e W' => e = .returned (.bool true) ∧ Fl w f s l2 2 W' ∧ Below w4.heap.size w4 W') := by
    refine (may_l F4.out keyA (by decide)).mono ?_
    rintro e W' ⟨rfl, h, b⟩
    have e1 : mayB l2 (plc keyA l2.length 2) = true := by
      have e2 : l2.length = l1.length := by rw [L2.out, setB_length]
      rw [e2, L2.out]
      exact mayB_set (fun i hi => hi) hpl.out
    exact ⟨by rw [e1], h, b⟩
  go_wp2_with fail
  refine cM.out.mono ?_
  rintro e w5 ⟨rfl, h5, b5⟩
  have F5 := hide h5
  have M5 := hide (M4.out.on b5)
  clear h5 b5 cM F4 M4
  have cC := hide (count_l F5.out)
  obtain ⟨x0, hx0⟩ : ∃ x, (ixs l2 l2.length)[0]? = some x := ⟨_, List.getElem?_eq_getElem (show 0 < (ixs l2 l2.length).length from hp)⟩
  have c0 := M5.out.cell 0 x0 hx0
  clear hx0
  have hp1 : ¬ ((cntB l2 : Int) < 1) := by omega
  have hp2 : ((1 : Int) ≤ (cntB l2 : Int)) = True := eq_true (by omega)
  have hp3 : 0 < cntB l2 := by omega
  go_wp2_with fail
  refine cC.out.mono ?_
  rintro e w6 ⟨rfl, h6⟩
  obtain rfl : w5 = w6 := h6.symm
  clear h6 cC
  have cL := hide (clear_l F5.out)
  go_wp2_with fail
  refine cL.out.mono ?_
  rintro e w7 ⟨rfl, h7⟩
  rw [HL9.out] at h7
  have F7 := hide h7
  clear h7 cL
  have cM : Hid (Calls Try.prog 14 #[.pointer (some ⟨f, 0, none⟩), .string ⟨#[97]⟩] w7 fun e W' => e = .returned (.bool false) ∧ Fl w f s (List.replicate 64 false) 2 W') := by
    refine (may_l F7.out keyA (by decide)).mono ?_
    rintro e W' ⟨rfl, h, _⟩
    exact ⟨by rw [mayB_blank (plc_ne (by omega))], h⟩
  go_wp2_with fail
  refine cM.out.mono ?_
  rintro e w8 ⟨rfl, h8⟩
  have F8 := hide h8
  clear h8 cM
  have cC : Hid (Calls Try.prog 13 #[.pointer (some ⟨f, 0, none⟩)] w8 fun e W' => e = .returned (.int .i64 0) ∧ W' = w8) := by
    refine (count_l F8.out).mono ?_
    rintro e W' ⟨rfl, h⟩
    exact ⟨by rw [cntB_blank]; rfl, h⟩
  go_wp2_with fail
  refine cC.out.mono ?_
  rintro e w9 ⟨rfl, h9⟩
  obtain rfl : w8 = w9 := h9.symm
  clear h9 cC
  go_wp2
  go_ret
  exact ⟨rfl, F8.out.bel⟩
end Go.Proofs.Ytipgfkcfbiofdaa
