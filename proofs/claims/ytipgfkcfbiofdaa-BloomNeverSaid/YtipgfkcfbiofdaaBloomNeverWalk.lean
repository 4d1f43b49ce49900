/-
  A filter never says no of a key that it was told, and of what was cleared it says no: proof of the law 'BloomNever'. No conditions.
-/
import Derived.WalkKit
import Derived.Below
import Derived.Test.YtipgfkcfbiofdaaTold
namespace Go.Proofs.Ytipgfkcfbiofdaa.bloomNever
open Go.RowKit Go.Deep
set_option linter.unusedVariables false
set_option linter.unusedSimpArgs false

set_option maxRecDepth 4000 in
set_option maxHeartbeats 4000000 in
theorem walk (a0 : Int) (a1 : Int) (a2 : Option Addr) (len2 cap2 : Nat) (z2 : List ByteArray) (w : World) (hw0 : (Lit.int .i64 a0).wf = true) (hw1 : (Lit.int .i64 a1).wf = true) (hw2 : StrsAt w a2 len2 z2) :
    Calls Try.prog 5 #[.int .i64 a0, .int .i64 a1, .slice a2 len2 cap2] w fun e w' => e = .returned (.bool true) ∧ Below w.heap.size w w' := by
  have ca := hide (awake_any w)
  have q0 := wf_i64 hw0
  have q1 := wf_i64 hw1
  clear hw0 hw1
  by_cases hbad : a0 < 8 ∨ 65536 < a0 ∨ a1 < 1 ∨ 8 < a1
  · have cN := hide (fun W : World => new_bad a0 a1 W hbad)
    clear hbad q0 q1 hw2
    go_enter Try.func5, Try.ntmps5
    go_wp2_with fail
    refine ca.out.mono ?_
    rintro r w1 ⟨rfl, h1⟩
    have B1 := hide h1
    clear h1 ca
    go_wp2_with fail
    refine (cN.out _).mono ?_
    rintro r w2 ⟨rfl, h⟩
    obtain rfl : w1 = w2 := h.symm
    clear h
    go_wp2
    go_ret
    exact ⟨rfl, B1.out⟩
  obtain ⟨n, hn⟩ : ∃ n : Nat, a0 = (n : Int) := ⟨a0.toNat, by omega⟩
  obtain ⟨t, ht⟩ : ∃ t : Nat, a1 = (t : Int) := ⟨a1.toNat, by omega⟩
  subst hn ht
  have n1 : 8 ≤ n := by omega
  have n2 : n ≤ 65536 := by omega
  have t1 : 1 ≤ t := by omega
  have t2 : t ≤ 8 := by omega
  have cN := hide (fun (W : World) (b : Below w.heap.size w W) => new_l b n t n1 n2 t1 t2)
  have hlen := hw2.len
  have HW := hide hw2
  clear hbad q0 q1 hw2
  by_cases h60 : 60 < len2
  · have hl : ((60 : Int) < (len2 : Int)) = True := eq_true (by omega)
    clear h60 hlen
    go_enter Try.func5, Try.ntmps5
    go_wp2_with fail
    refine ca.out.mono ?_
    rintro r w1 ⟨rfl, h1⟩
    have B1 := hide h1
    clear h1 ca
    go_wp2_with fail
    refine (cN.out _ B1.out).mono ?_
    rintro r w2 ⟨f, s, rfl, h, _, _, _⟩
    have B2 := hide h.bel
    clear h
    go_wp2
    go_ret
    exact ⟨rfl, B2.out⟩
  have hl : ((60 : Int) < (len2 : Int)) = False := eq_false (by omega)
  have HLEN := hide hlen
  clear hlen
  go_enter Try.func5, Try.ntmps5
  go_wp2_with fail
  refine ca.out.mono ?_
  rintro r w1 ⟨rfl, h1⟩
  have B1 := hide h1
  clear h1 ca
  go_wp2_with fail
  refine (cN.out _ B1.out).mono ?_
  rintro r w2 ⟨f, s, rfl, h, _, _, _⟩
  rw [← bitsB_nil n t] at h
  have F2 := hide h
  clear h cN B1 hl
  go_wp2_with fail
  go_loopg [9] len2 (fun kx s9 wr => ∃ i : Nat, s9 = .int .i64 i ∧ i ≤ len2 ∧ len2 - i ≤ kx ∧ Hid (Fl w f s (bitsB n t (z2.take i)) t wr))
  case atStart => exact ⟨0, rfl, Nat.zero_le _, by omega, F2.out⟩
  case round =>
    obtain ⟨i, rfl, hin, hg, I⟩ := hrel
    by_cases hlt : i < len2
    · have hlt2 : (i : Int) < (len2 : Int) := by omega
      obtain ⟨b, o, x, rfl, hx, hxs, hc⟩ := HW.out.key I.out.bel i hlt
      have cA : Hid (Calls Try.prog 10 #[.pointer (some ⟨f, 0, none⟩), .string x] wr fun e W' => e = .returned (.tuple #[]) ∧ Fl w f s (bitsB n t (z2.take (i + 1))) t W') := by
        refine (add_l I.out x (by unfold maxLen; omega)).mono ?_
        rintro e W' ⟨rfl, h, _⟩
        exact ⟨rfl, by rw [bitsB_take hx] at h; exact h⟩
      clear hx hxs I
      go_wp2_with fail
      refine cA.out.mono ?_
      rintro r w3 ⟨rfl, h3⟩
      have F3 := hide h3
      clear h3 cA hc
      go_wp2
      go_roundg (len2 - (i + 1))
      case measure => omega
      case rel => exact ⟨i + 1, by go_num, by omega, by omega, F3.out⟩
    · obtain rfl : i = len2 := by omega
      have hlt2 : ¬ (i : Int) < (i : Int) := by omega
      have F4 : Hid (Fl w f s (bitsB n t z2) t wr) := by have := I.out; rw [HLEN.out, List.take_length] at this; exact this
      clear I F2 hg
      go_wp2_with fail
      go_loopg [10] i (fun kx s10 wr => ∃ j : Nat, s10 = .int .i64 j ∧ j ≤ i ∧ i - j ≤ kx ∧ Hid (Fl w f s (bitsB n t z2) t wr))
      case atStart => exact ⟨0, rfl, Nat.zero_le _, by omega, F4.out⟩
      case round =>
        obtain ⟨j, rfl, hin, hg, I⟩ := hrel
        by_cases hlt : j < i
        · have hlt2 : (j : Int) < (i : Int) := by omega
          obtain ⟨b, o, x, rfl, hx, hxs, hc⟩ := HW.out.key I.out.bel j hlt
          have cA : Hid (Calls Try.prog 14 #[.pointer (some ⟨f, 0, none⟩), .string x] wr fun e W' => e = .returned (.bool true) ∧ Fl w f s (bitsB n t z2) t W') := by
            refine (may_l I.out x (by unfold maxLen; omega)).mono ?_
            rintro e W' ⟨rfl, h, _⟩
            exact ⟨by rw [mayB_told (by omega) (List.mem_of_getElem? hx)], h⟩
          clear hx hxs I
          go_wp2_with fail
          refine cA.out.mono ?_
          rintro r w3 ⟨rfl, h3⟩
          have F3 := hide h3
          clear h3 cA hc
          go_wp2
          go_roundg (i - (j + 1))
          case measure => omega
          case rel => exact ⟨j + 1, by go_num, by omega, by omega, F3.out⟩
        · obtain rfl : j = i := by omega
          have hlt2 : ¬ (j : Int) < (j : Int) := by omega
          have cC : Hid (Calls Try.prog 15 #[.pointer (some ⟨f, 0, none⟩)] wr fun e W' => e = .returned (.tuple #[]) ∧ Fl w f s (List.replicate n false) t W') := by
            refine (clear_l I.out).mono ?_
            rintro e W' ⟨rfl, h⟩
            rw [bitsB_length] at h
            exact ⟨rfl, h⟩
          clear I F4 hg
          go_wp2_with fail
          refine cC.out.mono ?_
          rintro r w5 ⟨rfl, h5⟩
          have F5 := hide h5
          clear h5 cC
          go_wp2_with fail
          go_loopg [11] j (fun kx s11 wr => ∃ i : Nat, s11 = .int .i64 i ∧ i ≤ j ∧ j - i ≤ kx ∧ Hid (Fl w f s (List.replicate n false) t wr))
          case atStart => exact ⟨0, rfl, Nat.zero_le _, by omega, F5.out⟩
          case round =>
            obtain ⟨i, rfl, hin, hg, I⟩ := hrel
            by_cases hlt : i < j
            · have hlt2 : (i : Int) < (j : Int) := by omega
              obtain ⟨b, o, x, rfl, hx, hxs, hc⟩ := HW.out.key I.out.bel i hlt
              have cA : Hid (Calls Try.prog 14 #[.pointer (some ⟨f, 0, none⟩), .string x] wr fun e W' => e = .returned (.bool false) ∧ Fl w f s (List.replicate n false) t W') := by
                refine (may_l I.out x (by unfold maxLen; omega)).mono ?_
                rintro e W' ⟨rfl, h, _⟩
                exact ⟨by rw [mayB_blank (plc_ne t1)], h⟩
              clear hx hxs I
              go_wp2_with fail
              refine cA.out.mono ?_
              rintro r w3 ⟨rfl, h3⟩
              have F3 := hide h3
              clear h3 cA hc
              go_wp2
              go_roundg (j - (i + 1))
              case measure => omega
              case rel => exact ⟨i + 1, by go_num, by omega, by omega, F3.out⟩
            · obtain rfl : i = j := by omega
              have hlt2 : ¬ (i : Int) < (i : Int) := by omega
              have cC : Hid (Calls Try.prog 13 #[.pointer (some ⟨f, 0, none⟩)] wr fun e W' => e = .returned (.int .i64 0) ∧ W' = wr) := by
                refine (count_l I.out).mono ?_
                rintro e W' ⟨rfl, h⟩
                exact ⟨by rw [cntB_blank]; rfl, h⟩
              go_wp2_with fail
              refine cC.out.mono ?_
              rintro e w9 ⟨rfl, h9⟩
              obtain rfl : wr = w9 := h9.symm
              clear h9 cC
              go_wp2
              go_ret
              exact ⟨rfl, I.out.bel⟩
end Go.Proofs.Ytipgfkcfbiofdaa.bloomNever
