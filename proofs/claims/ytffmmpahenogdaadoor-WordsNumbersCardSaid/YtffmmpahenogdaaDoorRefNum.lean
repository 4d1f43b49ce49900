/-
  What the document's own reckoning (package cellaretref1) answers for Number and Signed.
-/
import Derived.Test.YtffmmpahenogdaaDoorAwake
namespace Go.Proofs.YtffmmpahenogdaaDoor
open Go.Shelf Go.RowKit
set_option linter.unusedVariables false

set_option maxHeartbeats 4000000 in
set_option maxRecDepth 1000000 in
theorem refNumber_any (s : ByteArray) (w : World) :
    Calls Tryd.prog 20 #[.string s] w fun e w' => e = .returned (.tuple #[.int .u64 (numV s.data.toList), .bool (numOk s.data.toList)]) ∧ w' = w := by
  by_cases h1 : s.size < 1
  · obtain ⟨e1, e2⟩ := num_none s.data.toList (by unfold number; rw [if_neg (by rw [size8]; omega)])
    rw [e1, e2]
    clear e1 e2
    go_enter Tryd.func20, Tryd.ntmps20
    go_wp2
    go_ret2
    exact ⟨rfl, rfl⟩
  by_cases h2 : 20 < s.size
  · obtain ⟨e1, e2⟩ := num_none s.data.toList (by unfold number; rw [if_neg (by rw [size8]; omega)])
    rw [e1, e2]
    clear e1 e2
    go_enter Tryd.func20, Tryd.ntmps20
    go_wp2
    go_ret2
    exact ⟨rfl, rfl⟩
  have hN : Hid (number s.data.toList = num s.data.toList 0) := by unfold number; simp only [Hid]; rw [if_pos (by rw [size8]; omega)]
  go_enter Tryd.func20, Tryd.ntmps20
  go_wp2
  go_loop [4, 5] (fun n i => ∃ (pos k : Nat), n = .int .u64 k ∧ i = .int .i64 pos ∧ pos ≤ s.size ∧ k ≤ 18446744073709551615 ∧ Hid (num (s.data.toList.drop pos) k = number s.data.toList)) (fun _ i => s.size - (intOf i).toNat)
  case atStart => exact ⟨0, 0, rfl, rfl, by omega, by omega, by simpa [Hid] using hN.out.symm⟩
  case round =>
    obtain ⟨pos, k, rfl, rfl, hpos, hk, H1⟩ := hrel
    by_cases hp : pos < s.size
    · have hdh := drop_head s pos hp
      have H2 := H1.out
      rw [hdh] at H2
      have hal := s[pos].toNat_lt
      by_cases hd : 48 ≤ s[pos].toNat ∧ s[pos].toNat ≤ 57
      · obtain ⟨d, hd'⟩ : ∃ d : Nat, s[pos].toNat = 48 + d := ⟨s[pos].toNat - 48, by omega⟩
        have hd9 : d ≤ 9 := by omega
        have HA : Hid (num (s[pos] :: s.data.toList.drop (pos + 1)) k = if 10 * k + d ≤ 18446744073709551615 then num (s.data.toList.drop (pos + 1)) (10 * k + d) else none) := by
          simp only [Hid, num]
          rw [show s[pos].toNat - 48 = d by omega]
          by_cases hq : 10 * k + d ≤ 18446744073709551615
          · rw [if_pos ⟨by omega, by omega, hq⟩, if_pos hq]
          · rw [if_neg (by omega), if_neg hq]
        have H3 : Hid (num (s[pos] :: s.data.toList.drop (pos + 1)) k = number s.data.toList) := H2
        clear H2 H1 hdh hd hal
        have hwr : IntKind.u8.wrap ((48 : Int) + (d : Int) - 48) = (d : Int) := by rw [IntKind.wrap_u8]; omega
        by_cases hov : 10 * k + d ≤ 18446744073709551615
        · have g1 : ¬ (1844674407370955161 < (k : Int)) := by omega
          by_cases hq : k = 1844674407370955161
          · subst hq
            have g2 : ¬ (5 < (d : Int)) := by omega
            go_wp2
            go_round
            case rel => exact ⟨pos + 1, 10 * 1844674407370955161 + d, by go_num, by go_num, by omega, hov, by have := H3.out; rw [HA.out, if_pos hov] at this; exact this⟩
            case measure => simp [intOf]; omega
          · have g3 : ((k : Int) == 1844674407370955161) = false := by simp; omega
            go_wp2
            go_round
            case rel => exact ⟨pos + 1, 10 * k + d, by go_num, by go_num, by omega, hov, by have := H3.out; rw [HA.out, if_pos hov] at this; exact this⟩
            case measure => simp [intOf]; omega
        · have HE : Hid (number s.data.toList = none) := by
            have := H3.out
            rw [HA.out, if_neg hov] at this
            exact this.symm
          clear HA H3
          by_cases hq : k = 1844674407370955161
          · subst hq
            have g2 : (5 < (d : Int)) := by omega
            clear hov
            go_wp2
            go_ret2
            obtain ⟨e2, e3⟩ := num_none _ HE.out
            rw [e2, e3]
            exact ⟨rfl, rfl⟩
          · have g1 : (1844674407370955161 < (k : Int)) := by omega
            clear hov hq
            go_wp2
            go_ret2
            obtain ⟨e2, e3⟩ := num_none _ HE.out
            rw [e2, e3]
            exact ⟨rfl, rfl⟩
      · have HN : Hid (number s.data.toList = none) := by
          simp only [Hid]
          rw [← H2]
          simp only [num]
          rw [if_neg (by omega)]
        have hr : s[pos].toNat < 48 ∨ 57 < s[pos].toNat := by omega
        clear H2 H1 hdh hd hal
        rcases hr with hr | hr
        · have hri : ((s[pos].toNat : Nat) : Int) < 48 := by omega
          go_wp2
          go_ret2
          obtain ⟨e2, e3⟩ := num_none _ HN.out
          rw [e2, e3]
          exact ⟨rfl, rfl⟩
        · have hr2 : ¬ ((s[pos].toNat : Nat) : Int) < 48 := by omega
          have hr3 : 57 < ((s[pos].toNat : Nat) : Int) := by omega
          go_wp2
          go_ret2
          obtain ⟨e2, e3⟩ := num_none _ HN.out
          rw [e2, e3]
          exact ⟨rfl, rfl⟩
    · go_wp2
      go_ret2
      have e1 := H1.out
      rw [drop_end s pos hp] at e1
      obtain ⟨e2, e3⟩ := num_some _ k e1.symm
      rw [e2, e3]
      exact ⟨rfl, rfl⟩

theorem minus_head (s : ByteArray) (h0 : 0 < s.size) : Lib.hasPrefix s.data.toList [45] = decide (s[0].toNat = 45) := by
  have hd := drop_head s 0 h0
  rw [List.drop_zero] at hd
  rw [hd]
  unfold Lib.hasPrefix
  by_cases h : s[0] = 45
  · simp [h, List.isPrefixOf]
  · have h2 : ¬ s[0].toNat = 45 := fun e => h (UInt8.toNat_inj.1 e)
    simp [List.isPrefixOf, h2]
    exact fun e => h e.symm
theorem minus_nil (s : ByteArray) (h0 : ¬ 0 < s.size) : Lib.hasPrefix s.data.toList [45] = false := by
  have : s.data.toList = [] := by
    apply List.eq_nil_of_length_eq_zero
    have := size8 s
    omega
  rw [this]; rfl
theorem trim_minus (l : List UInt8) (h : Lib.hasPrefix l [45] = true) : Lib.trimPrefix l [45] = l.drop 1 := by
  unfold Lib.trimPrefix
  rw [if_pos h]
  rfl

set_option maxHeartbeats 4000000 in
set_option maxRecDepth 1000000 in
theorem refSigned_any (s : ByteArray) (w : World) :
    Calls Tryd.prog 21 #[.string s] w fun e w' => e = .returned (.tuple #[.int .i64 (sgnV s.data.toList), .bool (sgnOk s.data.toList)]) ∧ w' = w := by
  cases hb : Lib.hasPrefix s.data.toList [45] with
  | true =>
    have h0 : 0 < s.size := by
      by_cases h0 : 0 < s.size
      · exact h0
      · rw [minus_nil s h0] at hb; simp at hb
    have h45 : s[0].toNat = 45 := by
      rw [minus_head s h0] at hb
      simpa using hb
    have hx : (s.extract 1 s.size).data.toList = Lib.trimPrefix s.data.toList [45] := by rw [trim_minus _ hb, ext_data]
    have h45i : ((s[0].toNat : Nat) : Int) = 45 := by omega
    have h45b : (((s[0].toNat : Nat) : Int) == 45) = true := by simp [h45i]
    clear h45
    generalize hl : s.data.toList = l at hb hx
    cases hn : number (Lib.trimPrefix l [45]) with
    | none =>
      obtain ⟨e2, e3⟩ := sgn_none l (by unfold signed; rw [hb, hn]; rfl)
      obtain ⟨e4, e5⟩ := num_none _ hn
      rw [e2, e3]
      clear e2 e3
      go_enter Tryd.func21, Tryd.ntmps21
      go_wp2_with fail
      refine (refNumber_any _ _).mono ?_
      rintro e w' ⟨rfl, rfl⟩
      rw [hx, e4, e5]
      go_wp2
      go_ret2
      exact ⟨rfl, rfl⟩
    | some n =>
      obtain ⟨e4, e5⟩ := num_some _ _ hn
      have hn64 := numV_le (Lib.trimPrefix l [45])
      rw [e4] at hn64
      by_cases hc : n ≤ 9223372036854775808
      · obtain ⟨e2, e3⟩ := sgn_some l (-(n : Int)) (by unfold signed; rw [hb, hn]; simp [hc])
        rw [e2, e3]
        clear e2 e3
        have hci : ¬ (9223372036854775808 < (n : Int)) := by omega
        have hwr : wrap64 (-wrap64 (n : Int)) = -(n : Int) := by unfold wrap64; omega
        clear hc hn64
        go_enter Tryd.func21, Tryd.ntmps21
        go_wp2_with fail
        refine (refNumber_any _ _).mono ?_
        rintro e w' ⟨rfl, rfl⟩
        rw [hx, e4, e5]
        go_wp2
        go_ret2
        exact ⟨by rw [← hwr]; rfl, rfl⟩
      · obtain ⟨e2, e3⟩ := sgn_none l (by unfold signed; rw [hb, hn]; simp [hc])
        rw [e2, e3]
        clear e2 e3
        have hci : (9223372036854775808 < (n : Int)) = True := by simp; omega
        clear hc hn64
        go_enter Tryd.func21, Tryd.ntmps21
        go_wp2_with fail
        refine (refNumber_any _ _).mono ?_
        rintro e w' ⟨rfl, rfl⟩
        rw [hx, e4, e5]
        go_wp2
        go_ret2
        exact ⟨rfl, rfl⟩
  | false =>
    have hpick : (decide (0 < (s.size : Int)) = false) ∨ ∃ h0 : 0 < s.size, (((s[0].toNat : Nat) : Int) == 45) = false := by
      by_cases h0 : 0 < s.size
      · right
        refine ⟨h0, ?_⟩
        rw [minus_head s h0] at hb
        simp at hb
        simp
        omega
      · left
        exact decide_eq_false (by omega)
    generalize hl : s.data.toList = l at hb
    rcases hpick with hpk | ⟨h0, hpk⟩
    · have hz : s.size = 0 := by simpa using hpk
      have hnn : number l = none := by
        unfold number
        rw [if_neg (by rw [← hl, size8]; omega)]
      obtain ⟨e2, e3⟩ := sgn_none l (by unfold signed; rw [hb, hnn]; rfl)
      obtain ⟨e4, e5⟩ := num_none _ hnn
      rw [e2, e3]
      clear e2 e3 hpk
      go_enter Tryd.func21, Tryd.ntmps21
      go_wp2_with fail
      refine (refNumber_any _ _).mono ?_
      rintro e w' ⟨rfl, rfl⟩
      rw [hl, e4, e5]
      go_wp2
      go_ret2
      exact ⟨rfl, rfl⟩
    · cases hn : number (l) with
      | none =>
        obtain ⟨e2, e3⟩ := sgn_none l (by unfold signed; rw [hb, hn]; rfl)
        obtain ⟨e4, e5⟩ := num_none _ hn
        rw [e2, e3]
        clear e2 e3
        go_enter Tryd.func21, Tryd.ntmps21
        go_wp2_with fail
        refine (refNumber_any _ _).mono ?_
        rintro e w' ⟨rfl, rfl⟩
        rw [hl, e4, e5]
        go_wp2
        go_ret2
        exact ⟨rfl, rfl⟩
      | some n =>
        obtain ⟨e4, e5⟩ := num_some _ _ hn
        have hn64 := numV_le (l)
        rw [e4] at hn64
        by_cases hc : n < 9223372036854775808
        · obtain ⟨e2, e3⟩ := sgn_some l (n : Int) (by unfold signed; rw [hb, hn]; simp [hc])
          rw [e2, e3]
          clear e2 e3
          have hci : ¬ (9223372036854775807 < (n : Int)) := by omega
          have hwr : IntKind.i64.wrap (n : Int) = (n : Int) := by rw [IntKind.wrap_i64]; omega
          clear hc hn64
          go_enter Tryd.func21, Tryd.ntmps21
          go_wp2_with fail
          refine (refNumber_any _ _).mono ?_
          rintro e w' ⟨rfl, rfl⟩
          rw [hl, e4, e5]
          go_wp2
          go_ret2
          exact ⟨rfl, rfl⟩
        · obtain ⟨e2, e3⟩ := sgn_none l (by unfold signed; rw [hb, hn]; simp [hc])
          rw [e2, e3]
          clear e2 e3
          have hci : (9223372036854775807 < (n : Int)) = True := by simp; omega
          clear hc hn64
          go_enter Tryd.func21, Tryd.ntmps21
          go_wp2_with fail
          refine (refNumber_any _ _).mono ?_
          rintro e w' ⟨rfl, rfl⟩
          rw [hl, e4, e5]
          go_wp2
          go_ret2
          exact ⟨rfl, rfl⟩
end Go.Proofs.YtffmmpahenogdaaDoor
