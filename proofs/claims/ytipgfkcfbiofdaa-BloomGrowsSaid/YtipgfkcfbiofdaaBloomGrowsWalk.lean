/-
  With each key more there are no fewer bits, and at most as many more as turns: proof of the law 'BloomGrows'. No conditions.
-/
import Derived.WalkKit
import Derived.Below
import Derived.Test.YtipgfkcfbiofdaaCnt
namespace Go.Proofs.Ytipgfkcfbiofdaa.bloomGrows
open Go.RowKit Go.Deep
set_option linter.unusedVariables false
set_option linter.unusedSimpArgs false

set_option maxRecDepth 4000 in
set_option maxHeartbeats 4000000 in
theorem walk (a0 : Int) (a1 : Int) (a2 : Option Addr) (len2 cap2 : Nat) (z2 : List ByteArray) (w : World) (hw0 : (Lit.int .i64 a0).wf = true) (hw1 : (Lit.int .i64 a1).wf = true) (hw2 : StrsAt w a2 len2 z2) :
    Calls Try.prog 7 #[.int .i64 a0, .int .i64 a1, .slice a2 len2 cap2] w fun e w' => e = .returned (.bool true) ∧ Below w.heap.size w w' := by
  have ca := hide (awake_any w)
  have q0 := wf_i64 hw0
  have q1 := wf_i64 hw1
  clear hw0 hw1
  by_cases hbad : a0 < 8 ∨ 65536 < a0 ∨ a1 < 1 ∨ 8 < a1
  · have cN := hide (fun W : World => new_bad a0 a1 W hbad)
    clear hbad q0 q1 hw2
    go_enter Try.func7, Try.ntmps7
    go_wp2_with fail
    refine ca.out.mono ?_
    rintro r w1 ⟨rfl, h1⟩
    have B1 := hide h1
    clear h1 ca
    go_wp2_with fail
    refine (cN.out _).mono ?_
    rintro r w2 ⟨rfl, h⟩
    obtain rfl : w1 = w2 := h.symm
    clear h
    go_wp2
    go_ret
    exact ⟨rfl, B1.out⟩
  obtain ⟨n, hn⟩ : ∃ n : Nat, a0 = (n : Int) := ⟨a0.toNat, by omega⟩
  obtain ⟨t, ht⟩ : ∃ t : Nat, a1 = (t : Int) := ⟨a1.toNat, by omega⟩
  subst hn ht
  have n1 : 8 ≤ n := by omega
  have n2 : n ≤ 65536 := by omega
  have t1 : 1 ≤ t := by omega
  have t2 : t ≤ 8 := by omega
  have cN := hide (fun (W : World) (b : Below w.heap.size w W) => new_l b n t n1 n2 t1 t2)
  have hlen := hw2.len
  have HW := hide hw2
  clear hbad q0 q1 hw2
  by_cases h60 : 60 < len2
  · have hl : ((60 : Int) < (len2 : Int)) = True := eq_true (by omega)
    clear h60 hlen
    go_enter Try.func7, Try.ntmps7
    go_wp2_with fail
    refine ca.out.mono ?_
    rintro r w1 ⟨rfl, h1⟩
    have B1 := hide h1
    clear h1 ca
    go_wp2_with fail
    refine (cN.out _ B1.out).mono ?_
    rintro r w2 ⟨f, s, rfl, h, _, _, _⟩
    have B2 := hide h.bel
    clear h
    go_wp2
    go_ret
    exact ⟨rfl, B2.out⟩
  have hl : ((60 : Int) < (len2 : Int)) = False := eq_false (by omega)
  have HLEN := hide hlen
  clear hlen
  go_enter Try.func7, Try.ntmps7
  go_wp2_with fail
  refine ca.out.mono ?_
  rintro r w1 ⟨rfl, h1⟩
  have B1 := hide h1
  clear h1 ca
  go_wp2_with fail
  refine (cN.out _ B1.out).mono ?_
  rintro r w2 ⟨f, s, rfl, h, _, _, _⟩
  rw [← bitsB_nil n t] at h
  have F2 := hide h
  clear h cN B1 hl
  go_wp2_with fail
  go_loopg [9, 10] len2 (fun kx s9 s10 wr => ∃ i m : Nat, s9 = .int .i64 m ∧ s10 = .int .i64 i ∧ i ≤ len2 ∧ len2 - i ≤ kx ∧ Hid (m = cntB (bitsB n t (z2.take i)) ∧ Fl w f s (bitsB n t (z2.take i)) t wr))
  case atStart => exact ⟨0, 0, rfl, rfl, Nat.zero_le _, by omega, by rw [List.take_zero, bitsB_nil, cntB_blank], F2.out⟩
  case round =>
    obtain ⟨i, m, rfl, rfl, hin, hg, I⟩ := hrel
    by_cases hlt : i < len2
    · have hlt2 : (i : Int) < (len2 : Int) := by omega
      obtain ⟨b, o, x, ha2, hx, hxs, hc⟩ := HW.out.key I.out.2.bel i hlt
      subst ha2
      obtain ⟨l0, hl0⟩ : ∃ l0, l0 = bitsB n t (z2.take i) := ⟨_, rfl⟩
      obtain ⟨l1, hl1⟩ : ∃ l1, l1 = bitsB n t (z2.take (i + 1)) := ⟨_, rfl⟩
      have e01 : setB l0 (plc x l0.length t) = l1 := by rw [hl0, hl1]; exact bitsB_take hx
      have elen : l0.length = n := by rw [hl0]; exact bitsB_length _ _ _
      have hpl : ∀ i ∈ plc x l0.length t, i < l0.length := plc_lt (by omega)
      obtain ⟨p, hp⟩ : ∃ p, p = plc x l0.length t := ⟨_, rfl⟩
      rw [← hp] at e01 hpl
      have hcs := cntB_setB p l0 hpl
      rw [e01, hp, plc_len] at hcs
      have hcn := cntB_le l1
      have hcl : l1.length = n := by rw [← e01, setB_length, elen]
      obtain ⟨k, hk⟩ : ∃ k, k = cntB l1 := ⟨_, rfl⟩
      have hm : m = cntB l0 := by rw [hl0]; exact I.out.1
      rw [← hk, ← hm] at hcs
      rw [← hk, hcl] at hcn
      have cM : Hid (Calls Try.prog 14 #[.pointer (some ⟨f, 0, none⟩), .string x] wr fun e W' => e = .returned (.bool (mayB l0 p)) ∧ Fl w f s l0 t W' ∧ Below wr.heap.size wr W') := by
        rw [hp, hl0]
        exact may_l I.out.2 x (by unfold maxLen; omega)
      have cA : Hid (∀ W : World, Fl w f s l0 t W → Calls Try.prog 10 #[.pointer (some ⟨f, 0, none⟩), .string x] W fun e W' => e = .returned (.tuple #[]) ∧ Fl w f s l1 t W') := fun W hW => by
        refine (add_l hW x (by unfold maxLen; omega)).mono ?_
        rintro e W' ⟨rfl, h, _⟩
        exact ⟨rfl, by rw [← hp, e01] at h; exact h⟩
      have cC : Hid (∀ W : World, Fl w f s l1 t W → Calls Try.prog 13 #[.pointer (some ⟨f, 0, none⟩)] W fun e W' => e = .returned (.int .i64 (k : Int)) ∧ W' = W) := fun W hW => by
        rw [hk]
        exact count_l hW
      have hyes : Hid (mayB l0 p = true → k = m) := fun hm2 => by rw [hk, hm, ← e01, setB_same hm2]
      have hno : Hid (mayB l0 p = false → m < k) := fun hm2 => by rw [hk, hm, ← e01]; exact cntB_more p l0 hpl hm2
      have FIN : Hid (k = cntB (bitsB n t (z2.take (i + 1))) ∧ l1 = bitsB n t (z2.take (i + 1))) := ⟨by rw [hk, hl1], hl1⟩
      have key2 : Hid (∀ W : World, Fl w f s l0 t W → W.cell? ⟨b, o + i, none⟩ = some (.string x)) := fun W hW => by
        obtain ⟨b', o', x', h1, h2, _, h3⟩ := HW.out.key hW.bel i hlt
        cases h1
        rw [hx] at h2
        cases h2
        exact h3
      clear hl0 hl1 e01 elen hpl hcl hk hm hx hxs hp I
      generalize hmay : mayB l0 p = may at cM hyes hno
      clear hmay
      go_wp2_with fail
      refine cM.out.mono ?_
      rintro r w3 ⟨rfl, h3, _⟩
      have F3 := hide h3
      have hc3 := key2.out w3 h3
      clear h3 cM hc
      go_wp2_with fail
      refine (cA.out _ F3.out).mono ?_
      rintro r w4 ⟨rfl, h4⟩
      have F4 := hide h4
      clear h4 cA hc3 F3 key2
      go_wp2_with fail
      refine (cC.out _ F4.out).mono ?_
      rintro r w5 ⟨rfl, h5⟩
      obtain rfl : w4 = w5 := h5.symm
      clear h5 cC
      have g1 : ((k : Int) < (m : Int)) = False := eq_false (by omega)
      have g2 : ((m : Int) + (t : Int) < (k : Int)) = False := eq_false (by omega)
      have g3 : IntKind.i64.wrap ((m : Int) + (t : Int)) = (m : Int) + (t : Int) := by rw [IntKind.wrap_i64]; omega
      have g5 : wrap64 ((m : Int) + (t : Int)) = (m : Int) + (t : Int) := by unfold wrap64; omega
      have HCS := hide (And.intro hcs hcn)
      clear hcs hcn
      cases may
      · have g4 : ((k : Int) == (m : Int)) = false := by have := hno.out rfl; simp; omega
        have g6 : ¬ (k : Int) = (m : Int) := by have := hno.out rfl; omega
        have g7 : ¬ k = m := by have := hno.out rfl; omega
        go_wp2
        go_roundg (len2 - (i + 1))
        case measure => omega
        case rel => exact ⟨i + 1, k, rfl, by go_num, by omega, by omega, FIN.out.1, by rw [← FIN.out.2]; exact F4.out⟩
      · have g4 : k = m := hyes.out rfl
        subst g4
        go_wp2
        go_roundg (len2 - (i + 1))
        case measure => omega
        case rel => exact ⟨i + 1, k, rfl, by go_num, by omega, by omega, FIN.out.1, by rw [← FIN.out.2]; exact F4.out⟩
    · obtain rfl : i = len2 := by omega
      have hlt2 : ¬ (i : Int) < (i : Int) := by omega
      go_wp2
      go_ret
      exact ⟨rfl, I.out.2.bel⟩
end Go.Proofs.Ytipgfkcfbiofdaa.bloomGrows
