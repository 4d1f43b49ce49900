/-
  In whatever order keys are told, and however often, the filter is the same: proof of the law 'BloomOrder'. No conditions.
-/
import Derived.WalkKit
import Derived.Below
import Derived.Test.YtipgfkcfbiofdaaPair
import Derived.Deep.QuietTactic
import Derived.BigQuiet
namespace Go.Proofs.Ytipgfkcfbiofdaa.bloomOrder
open Go.RowKit Go.Deep
set_option linter.unusedVariables false
set_option linter.unusedSimpArgs false

set_option maxRecDepth 4000 in
set_option maxHeartbeats 4000000 in
theorem walk (a0 : Int) (a1 : Int) (a2 : Option Addr) (len2 cap2 : Nat) (z2 : List ByteArray) (w : World) (hw0 : (Lit.int .i64 a0).wf = true) (hw1 : (Lit.int .i64 a1).wf = true) (hw2 : StrsAt w a2 len2 z2) :
    Calls Try.prog 6 #[.int .i64 a0, .int .i64 a1, .slice a2 len2 cap2] w fun e w' => e = .returned (.bool true) ∧ Below w.heap.size w w' := by
  have ca := hide (awake_any w)
  have q0 := wf_i64 hw0
  have q1 := wf_i64 hw1
  clear hw0 hw1
  by_cases hbad : a0 < 8 ∨ 65536 < a0 ∨ a1 < 1 ∨ 8 < a1
  · have cN := hide (fun W : World => new_bad a0 a1 W hbad)
    clear hbad q0 q1 hw2
    go_enter Try.func6, Try.ntmps6
    go_wp2_with fail
    refine ca.out.mono ?_
    rintro r w1 ⟨rfl, h1⟩
    have B1 := hide h1
    clear h1 ca
    go_wp2_with fail
    refine (cN.out _).mono ?_
    rintro r w2 ⟨rfl, h⟩
    obtain rfl : w1 = w2 := h.symm
    clear h
    go_wp2_with fail
    refine (cN.out _).mono ?_
    rintro r w2 ⟨rfl, h⟩
    obtain rfl : w1 = w2 := h.symm
    clear h
    go_wp2
    go_ret
    exact ⟨rfl, B1.out⟩
  obtain ⟨n, hn⟩ : ∃ n : Nat, a0 = (n : Int) := ⟨a0.toNat, by omega⟩
  obtain ⟨t, ht⟩ : ∃ t : Nat, a1 = (t : Int) := ⟨a1.toNat, by omega⟩
  subst hn ht
  have n1 : 8 ≤ n := by omega
  have n2 : n ≤ 65536 := by omega
  have t1 : 1 ≤ t := by omega
  have t2 : t ≤ 8 := by omega
  have cN := hide (fun (W : World) (b : Below w.heap.size w W) => new_l b n t n1 n2 t1 t2)
  have hlen := hw2.len
  have HW := hide hw2
  clear hbad q0 q1 hw2
  by_cases h60 : 60 < len2
  · have hl : ((60 : Int) < (len2 : Int)) = True := eq_true (by omega)
    clear h60 hlen
    go_enter Try.func6, Try.ntmps6
    go_wp2_with fail
    refine ca.out.mono ?_
    rintro r w1 ⟨rfl, h1⟩
    have B1 := hide h1
    clear h1 ca
    go_wp2_with fail
    refine (cN.out _ B1.out).mono ?_
    rintro r w2 ⟨f, s, rfl, h, _, _, _⟩
    have F2 := hide h
    clear h B1
    go_wp2_with fail
    refine (cN.out _ F2.out.bel).mono ?_
    rintro r w3 ⟨g, u, rfl, h, hg, hu, hb⟩
    have T3 : Hid (Two w f s (bitsB n t []) g u (bitsB n t []) t w3) := ⟨F2.out.on hb, h, by have := F2.out.flt.row.lt; omega, by have := F2.out.flt.row.lt; omega, by have := F2.out.flt.own.lt; omega⟩
    clear h hg hu hb cN F2
    go_wp2
    go_ret
    exact ⟨rfl, T3.out.a.bel⟩
  have hl : ((60 : Int) < (len2 : Int)) = False := eq_false (by omega)
  have HLEN := hide hlen
  clear hlen
  go_enter Try.func6, Try.ntmps6
  go_wp2_with fail
  refine ca.out.mono ?_
  rintro r w1 ⟨rfl, h1⟩
  have B1 := hide h1
  clear h1 ca
  go_wp2_with fail
  refine (cN.out _ B1.out).mono ?_
  rintro r w2 ⟨f, s, rfl, h, _, _, _⟩
  have F2 := hide h
  clear h B1
  go_wp2_with fail
  refine (cN.out _ F2.out.bel).mono ?_
  rintro r w3 ⟨g, u, rfl, h, hg, hu, hb⟩
  have T3 : Hid (Two w f s (bitsB n t []) g u (bitsB n t []) t w3) := ⟨F2.out.on hb, h, by have := F2.out.flt.row.lt; omega, by have := F2.out.flt.row.lt; omega, by have := F2.out.flt.own.lt; omega⟩
  clear h hg hu hb cN F2
  clear hl
  go_wp2_with fail
  go_loopg [11] len2 (fun kx s11 wr => ∃ i : Nat, s11 = .int .i64 i ∧ i ≤ len2 ∧ len2 - i ≤ kx ∧ Hid (∃ ys, Back z2 ys i ∧ Two w f s (bitsB n t (z2.take i)) g u (bitsB n t ys) t wr))
  case atStart => exact ⟨0, rfl, Nat.zero_le _, by omega, [], Back.nil _, T3.out⟩
  case round =>
    obtain ⟨i, rfl, hin, hg, I⟩ := hrel
    by_cases hlt : i < len2
    · have hlt2 : (i : Int) < (len2 : Int) := by omega
      obtain ⟨ys, hB, hT⟩ := I.out
      obtain ⟨j, hj⟩ : ∃ j, j = len2 - 1 - i := ⟨_, rfl⟩
      obtain ⟨b, o, x, ha2, hx, hxs, hc⟩ := HW.out.key hT.a.bel i hlt
      subst ha2
      have K : Hid (∀ (W : World) (q : Nat), Below w.heap.size w W → q < len2 → ∃ x, z2[q]? = some x ∧ x.size ≤ 140737488351232 ∧ W.cell? ⟨b, o + q, none⟩ = some (.string x)) := fun W q hW hq => by
        obtain ⟨b', o', x', h1, h2, h3, h4⟩ := HW.out.key hW q hq
        cases h1
        exact ⟨x', h2, h3, h4⟩
      have cA : Hid (Calls Try.prog 10 #[.pointer (some ⟨f, 0, none⟩), .string x] wr fun e W' => e = .returned (.tuple #[]) ∧ Two w f s (bitsB n t (z2.take (i + 1))) g u (bitsB n t ys) t W') := by
        refine (hT.add1 x (by unfold maxLen; omega)).mono ?_
        rintro e W' ⟨rfl, h⟩
        exact ⟨rfl, by rw [bitsB_take hx] at h; exact h⟩
      have HB := hide hB
      have HJ := hide hj
      have d1 : (len2 : Int) - 1 - (i : Int) = (j : Int) := by omega
      have d2 : (j : Int) < (len2 : Int) := by omega
      have d3 : j < len2 := by omega
      have d4 : wrap64 ((len2 : Int) - 1) = (len2 : Int) - 1 := by unfold wrap64; omega
      have d5 : 0 < len2 := by omega
      clear hB hT I hx hxs hj
      go_wp2_with fail
      refine cA.out.mono ?_
      rintro r w4 ⟨rfl, h4⟩
      have T4 := hide h4
      obtain ⟨y, hy, hys, hyc⟩ := K.out w4 j h4.a.bel d3
      have cY : Hid (Calls Try.prog 10 #[.pointer (some ⟨g, 0, none⟩), .string y] w4 fun e W' => e = .returned (.tuple #[]) ∧ Two w f s (bitsB n t (z2.take (i + 1))) g u (bitsB n t (ys ++ [y])) t W') := by
        refine (h4.add2 y (by unfold maxLen; omega)).mono ?_
        rintro e W' ⟨rfl, h⟩
        exact ⟨rfl, by rw [bitsB_snoc] at h; exact h⟩
      have HY := hide hy
      clear h4 cA hc hy hys
      go_wp2_with fail
      refine cY.out.mono ?_
      rintro r w5 ⟨rfl, h5⟩
      obtain ⟨v, hv, hvs, hvc⟩ := K.out w5 0 h5.a.bel d5
      have cV : Hid (Calls Try.prog 10 #[.pointer (some ⟨g, 0, none⟩), .string v] w5 fun e W' => e = .returned (.tuple #[]) ∧ Two w f s (bitsB n t (z2.take (i + 1))) g u (bitsB n t ((ys ++ [y]) ++ [v])) t W') := by
        refine (h5.add2 v (by unfold maxLen; omega)).mono ?_
        rintro e W' ⟨rfl, h⟩
        exact ⟨rfl, by rw [bitsB_snoc] at h; exact h⟩
      have HV := hide hv
      rw [Nat.add_zero] at hvc
      clear h5 cY hyc hv hvs T4
      go_wp2_with fail
      refine cV.out.mono ?_
      rintro r w6 ⟨rfl, h6⟩
      have T6 := hide h6
      clear h6 cV hvc
      go_wp2
      go_roundg (len2 - (i + 1))
      case measure => omega
      case rel =>
        refine ⟨i + 1, by go_num, by omega, by omega, _, HB.out.more ?_ HV.out, T6.out⟩
        rw [← HLEN.out, ← HJ.out]; exact HY.out
    · obtain rfl : i = len2 := by omega
      have hlt2 : ¬ (i : Int) < (i : Int) := by omega
      obtain ⟨ys, hB, hT⟩ := I.out
      obtain ⟨l0, hl0⟩ : ∃ l0, l0 = bitsB n t z2 := ⟨_, rfl⟩
      have T4 : Hid (Two w f s l0 g u l0 t wr) := by
        have e1 : bitsB n t ys = l0 := by rw [hl0]; exact (bitsB_mem (Back.all (by rw [← HLEN.out]; exact hB))).symm
        rw [e1, HLEN.out, List.take_length, ← hl0] at hT
        exact hT
      have hc9 : cntB l0 ≤ 65536 := by have := cntB_le l0; rw [hl0, bitsB_length] at this; rw [hl0]; omega
      clear hB hT I hg T3 hl0
      have cB := hide (bits_l T4.out.a)
      go_wp2_with fail
      refine cB.out.mono ?_
      rintro r w5 ⟨p, cp, rfl, hp, _, b5, _⟩
      have cB2 := hide (bits_l (T4.out.b.on b5))
      have P5 := hide hp
      clear hp b5 cB
      go_wp2_with fail
      refine cB2.out.mono ?_
      rintro r w6 ⟨q, cq, rfl, hq, h6, b6, _⟩
      have P6 := hide (P5.out.on b6)
      have Q6 := hide hq
      have B6 := hide h6.bel
      clear hq h6 b6 cB2 P5 T4
      obtain ⟨m, hm⟩ : ∃ m, m = cntB l0 := ⟨_, rfl⟩
      simp only [← hm] at hc9 ⊢
      have HM := hide hm
      clear hm
      go_wp2_with fail
      go_loopg [14] m (fun kx s14 wr => ∃ j : Nat, s14 = .int .i64 j ∧ j ≤ m ∧ m - j ≤ kx ∧ Hid (Nums wr p (ixs l0 l0.length) ∧ Nums wr q (ixs l0 l0.length) ∧ Below w.heap.size w wr))
      case atStart => exact ⟨0, rfl, Nat.zero_le _, by omega, P6.out, Q6.out, B6.out⟩
      case round =>
        obtain ⟨j, rfl, hin, hg, J⟩ := hrel
        by_cases hlt : j < m
        · have hlt2 : (j : Int) < (m : Int) := by omega
          obtain ⟨x, hx⟩ : ∃ x, (ixs l0 l0.length)[j]? = some x := ⟨_, List.getElem?_eq_getElem (by have := HM.out; unfold cntB at this; omega)⟩
          have c1 := J.out.1.cell j x hx
          have c2 := J.out.2.1.cell j x hx
          clear hx
          go_wp2_with fail
          go_quiet (fail)
          go_wp2
          go_roundg (m - (j + 1))
          case measure => omega
          case rel => exact ⟨j + 1, by go_num, by omega, by omega, ⟨J.out.1.lt, J.out.1.cell⟩, ⟨J.out.2.1.lt, J.out.2.1.cell⟩, ⟨J.out.2.2.os, J.out.2.2.tape, J.out.2.2.output, J.out.2.2.size, J.out.2.2.block⟩⟩
        · obtain rfl : j = m := by omega
          have hlt2 : ¬ (j : Int) < (j : Int) := by omega
          go_wp2
          go_ret
          exact ⟨rfl, J.out.2.2⟩
end Go.Proofs.Ytipgfkcfbiofdaa.bloomOrder
