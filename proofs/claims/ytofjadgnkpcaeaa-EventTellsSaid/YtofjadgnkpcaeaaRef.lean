/-
  What the document's own reckoning (package cellaretref1) answers for texts: rune1, Runes, Key, Text, Shown, by the same pieces.
-/
import Derived.Test.YtofjadgnkpcaeaaRune
import Derived.Deep.QuietTactic
import Derived.BigQuiet
namespace Go.Proofs.Ytofjadgnkpcaeaa
open Go.Shelf Go.RowKit
set_option linter.unusedVariables false

set_option maxHeartbeats 4000000 in
set_option maxRecDepth 1000000 in
theorem rune1_at (s : ByteArray) (w : World) (h0 : 0 < s.size) (hm : s.size ≤ maxLen) :
    Calls Try.prog 37 #[.string s] w fun e w' => e = .returned (.tuple #[.int .i64 (dec s.data.toList).1, .int .i64 (dec s.data.toList).2]) ∧ w' = w := by
  have hm' : s.size ≤ 9223372036854775807 := hm
  have hal := s[0].toNat_lt
  by_cases c1 : s[0].toNat < 128
  · have HD : Hid (dec s.data.toList = ((s[0].toNat : Int), 1)) := by
      simp only [Hid]
      conv => lhs; rw [head0 s h0]
      exact dec_low _ _ c1
    have f1 : ((s[0].toNat : Nat) : Int) < 128 := by omega
    go_enter Try.func37, Try.ntmps37
    go_wp2
    go_ret2
    rw [HD.out]
    exact ⟨rfl, rfl⟩
  by_cases c2 : 194 ≤ s[0].toNat ∧ s[0].toNat < 224
  · exact rune1_2 s w h0 hm c2
  by_cases c3 : 224 ≤ s[0].toNat ∧ s[0].toNat < 240
  · exact rune1_3 s w h0 hm c3
  by_cases c4 : 240 ≤ s[0].toNat ∧ s[0].toNat < 245
  · exact rune1_4 s w h0 hm c4
  have HD : Hid (dec s.data.toList = (-1, 1)) := by
    simp only [Hid]
    conv => lhs; rw [head0 s h0]
    simp only [dec]
    rw [if_neg c1, if_neg c2, if_neg c3, if_neg c4]
  have f1 : ¬ ((s[0].toNat : Nat) : Int) < 128 := by omega
  by_cases c5 : s[0].toNat < 194
  · have f2 : ¬ 194 ≤ ((s[0].toNat : Nat) : Int) := by omega
    have f3 : ¬ 224 ≤ ((s[0].toNat : Nat) : Int) := by omega
    have f4 : ¬ 240 ≤ ((s[0].toNat : Nat) : Int) := by omega
    clear c1 c2 c3 c4 c5 hal
    go_enter Try.func37, Try.ntmps37
    go_wp2
    go_ret2
    rw [HD.out]
    exact ⟨rfl, rfl⟩
  · have f2 : 194 ≤ ((s[0].toNat : Nat) : Int) := by omega
    have f3 : ¬ ((s[0].toNat : Nat) : Int) < 224 := by omega
    have f4 : 224 ≤ ((s[0].toNat : Nat) : Int) := by omega
    have f5 : ¬ ((s[0].toNat : Nat) : Int) < 240 := by omega
    have f6 : 240 ≤ ((s[0].toNat : Nat) : Int) := by omega
    have f7 : ¬ ((s[0].toNat : Nat) : Int) < 245 := by omega
    have f8 : ((s[0].toNat : Nat) : Int) ≤ 255 := by omega
    clear c1 c2 c3 c4 c5 hal
    go_enter Try.func37, Try.ntmps37
    go_wp2
    go_ret2
    rw [HD.out]
    exact ⟨rfl, rfl⟩

/-- What is left of a text behind its first rune. -/
theorem ext_wd (s : ByteArray) : (s.extract (wd s.data.toList) s.size).data.toList = s.data.toList.drop (wd s.data.toList) := ext_data s _
theorem ne_of_size (s : ByteArray) (h : 0 < s.size) : s.data.toList ≠ [] := by
  intro e
  have h2 : s.data.toList.length = 0 := by rw [e]; rfl
  rw [size8] at h2
  omega
theorem nil_of_size (s : ByteArray) (h : ¬ 0 < s.size) : s.data.toList = [] := by
  apply List.eq_nil_of_length_eq_zero
  have := size8 s
  omega

def dv (l : List UInt8) : Int := (dec l).1
theorem rune1_w (s : ByteArray) (w : World) (h0 : 0 < s.size) (hm : s.size ≤ maxLen) :
    Calls Try.prog 37 #[.string s] w fun e w' => e = .returned (.tuple #[.int .i64 (dv s.data.toList), .int .i64 (wd s.data.toList)]) ∧ w' = w := rune1_at s w h0 hm
def strLen : Value → Nat
  | .string r => r.size
  | _ => 0
theorem good_dv (l : List UInt8) : decide (0 ≤ dv l) = good l := rfl

set_option maxHeartbeats 4000000 in
set_option maxRecDepth 1000000 in
theorem refKey_any (s : ByteArray) (w : World) (hm : s.size ≤ maxLen) :
    Calls Try.prog 17 #[.string s] w fun e w' => e = .returned (.bool (isKey s.data.toList)) ∧ w' = w := by
  by_cases h1 : s.size < 1
  · rw [show isKey s.data.toList = false by unfold isKey; rw [size8, decide_eq_false (by omega)]; rfl]
    go_enter Try.func17, Try.ntmps17
    go_wp2
    go_ret
    exact ⟨rfl, rfl⟩
  by_cases h2 : 250 < s.size
  · rw [show isKey s.data.toList = false by unfold isKey; rw [size8, decide_eq_false (p := s.size ≤ 250) (by omega)]; simp]
    go_enter Try.func17, Try.ntmps17
    go_wp2
    go_ret
    exact ⟨rfl, rfl⟩
  rw [show isKey s.data.toList = clean s.data.toList by unfold isKey; rw [size8, decide_eq_true (p := s.size ≤ 250) (by omega), decide_eq_true (p := 1 ≤ s.size) (by omega)]; simp]
  go_enter Try.func17, Try.ntmps17
  go_wp2
  go_loop [0] (fun t => ∃ (r : ByteArray), t = .string r ∧ r.size ≤ 250 ∧ Hid (clean r.data.toList = clean s.data.toList)) (fun t => strLen t)
  case atStart => exact ⟨s, rfl, by omega, rfl⟩
  case round =>
    obtain ⟨r, rfl, hk, H1⟩ := hrel
    by_cases hp : 0 < r.size
    · have hne := ne_of_size r hp
      have hw := wd_pos _ hne
      rw [size8] at hw
      have HC : Hid (clean r.data.toList = (!bar (dv r.data.toList) && clean (r.extract (wd r.data.toList) r.size).data.toList)) := by
        simp only [Hid]; rw [ext_wd]; exact clean_cons _ hne
      have hes : (r.extract (wd r.data.toList) r.size).size = r.size - wd r.data.toList := by
        rw [← size8, ext_wd, List.length_drop, size8]
      clear hne
      generalize hW : wd r.data.toList = W at hw HC hes
      generalize hV : dv r.data.toList = V at HC
      have hfalse : bar V = true → clean s.data.toList = false := by
        intro hb
        have a1 := H1.out
        rw [HC.out, hb] at a1
        exact a1.symm
      have HF : Hid (bar V = true → clean s.data.toList = false) := hfalse
      clear hfalse
      by_cases c1 : V ≤ 32
      · go_wp2_with fail
        refine (rune1_w r _ hp (by unfold maxLen; omega)).mono ?_
        rintro e w' ⟨rfl, rfl⟩
        rw [hW, hV]
        go_wp2
        go_ret
        exact ⟨by rw [HF.out (decide_eq_true (.inl c1))]; rfl, rfl⟩
      · by_cases c2 : 127 ≤ V ∧ V ≤ 160
        · have c3 := c2.1
          have c4 := c2.2
          go_wp2_with fail
          refine (rune1_w r _ hp (by unfold maxLen; omega)).mono ?_
          rintro e w' ⟨rfl, rfl⟩
          rw [hW, hV]
          go_wp2
          go_ret
          exact ⟨by rw [HF.out (decide_eq_true (.inr (.inl c2)))]; rfl, rfl⟩
        · by_cases c5 : V = 8232
          · subst c5
            go_wp2_with fail
            refine (rune1_w r _ hp (by unfold maxLen; omega)).mono ?_
            rintro e w' ⟨rfl, rfl⟩
            rw [hW, hV]
            go_wp2
            go_ret
            exact ⟨by rw [HF.out rfl]; rfl, rfl⟩
          · by_cases c6 : V = 8233
            · subst c6
              go_wp2_with fail
              refine (rune1_w r _ hp (by unfold maxLen; omega)).mono ?_
              rintro e w' ⟨rfl, rfl⟩
              rw [hW, hV]
              go_wp2
              go_ret
              exact ⟨by rw [HF.out rfl]; rfl, rfl⟩
            · have HB : Hid (bar V = false) := decide_eq_false (by omega)
              have d5 : (V == 8232) = false := by simp [c5]
              have d6 : (V == 8233) = false := by simp [c6]
              clear HF
              by_cases c7 : 127 ≤ V
              · have c8 : ¬ V ≤ 160 := by omega
                clear c2
                go_wp2_with fail
                refine (rune1_w r _ hp (by unfold maxLen; omega)).mono ?_
                rintro e w' ⟨rfl, rfl⟩
                rw [hW, hV]
                go_wp2
                go_round
                case rel => exact ⟨r.extract W r.size, by simp, by omega, by have := H1.out; rw [HC.out, HB.out] at this; simpa [Hid] using this⟩
                case measure => simp only [strLen]; omega
              · clear c2
                go_wp2_with fail
                refine (rune1_w r _ hp (by unfold maxLen; omega)).mono ?_
                rintro e w' ⟨rfl, rfl⟩
                rw [hW, hV]
                go_wp2
                go_round
                case rel => exact ⟨r.extract W r.size, by simp, by omega, by have := H1.out; rw [HC.out, HB.out] at this; simpa [Hid] using this⟩
                case measure => simp only [strLen]; omega
    · have hr0 : r.size = 0 := by omega
      go_wp2
      go_ret
      have e1 := H1.out
      rw [nil_of_size r hp, clean_nil] at e1
      exact ⟨by rw [← e1]; rfl, rfl⟩

end Go.Proofs.Ytofjadgnkpcaeaa
