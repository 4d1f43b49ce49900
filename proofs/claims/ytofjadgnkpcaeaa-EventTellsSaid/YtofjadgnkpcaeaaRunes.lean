/-
  What words.formed, Runes and Key answer, for every text: by the text's pieces, rune by rune.
-/
import Derived.Test.YtofjadgnkpcaeaaSh
import Derived.WalkKit
import Derived.BigCall
import Derived.Test.YtofjadgnkpcaeaaUtf
namespace Go.Proofs.Ytofjadgnkpcaeaa
open Go.Shelf Go.RowKit
set_option linter.unusedVariables false

def good (l : List UInt8) : Bool := decide (0 ≤ (dec l).1)
/-- The rune that range tells. -/
def rn (l : List UInt8) : Int := if (dec l).1 < 0 then 65533 else (dec l).1
def wd (l : List UInt8) : Nat := (dec l).2

theorem ext_data (s : ByteArray) (i : Nat) : (s.extract i s.size).data.toList = s.data.toList.drop i := by
  rw [Lib.extract_data, List.take_of_length_le]
  rw [List.length_drop, size8]
  exact Nat.le_refl _

theorem decode_rn (s : ByteArray) (i : Nat) (h : i < s.size) : (((Utf8.decode s i).1 : Nat) : Int) = rn (s.data.toList.drop i) ∧ (Utf8.decode s i).2 = wd (s.data.toList.drop i) := by
  rw [decode_dec s i h]
  unfold rn wd
  refine ⟨?_, rfl⟩
  simp only
  split
  · rfl
  · omega

theorem drop_ne (s : ByteArray) (i : Nat) (h : i < s.size) : s.data.toList.drop i ≠ [] := by
  intro e
  have := congrArg List.length e
  rw [List.length_drop, size8] at this
  simp at this; omega

theorem rn_le (l : List UInt8) : 0 ≤ rn l ∧ rn l ≤ 1114111 := by
  have := dec_le l
  unfold rn
  split <;> omega

theorem good_fffd (l : List UInt8) (h : rn l = 65533) : Lib.hasPrefix l [239, 191, 189] = good l := by
  unfold rn at h
  unfold good
  by_cases h0 : (dec l).1 < 0
  · rw [decide_eq_false (by omega)]
    cases hp : Lib.hasPrefix l [239, 191, 189] with
    | false => rfl
    | true =>
      obtain ⟨t, rfl⟩ := List.isPrefixOf_iff_prefix.1 hp
      rw [show ([239, 191, 189] ++ t : List UInt8) = 239 :: 191 :: 189 :: t from rfl, dec_fffd] at h0
      simp at h0
  · rw [if_neg h0] at h
    rw [decide_eq_true (by omega)]
    have he := dec_encode l (by omega)
    rw [h] at he
    have e3 : Lib.encodeRune 65533 = [239, 191, 189] := by decide
    rw [e3] at he
    unfold Lib.hasPrefix
    rw [List.isPrefixOf_iff_prefix, ← he]
    exact List.take_prefix _ _

theorem good_other (l : List UInt8) (h : rn l ≠ 65533) : good l = true := by
  unfold rn at h
  unfold good
  by_cases h0 : (dec l).1 < 0
  · simp [h0] at h
  · exact decide_eq_true (by omega)

theorem formed_at (s : ByteArray) (i : Nat) (r : Int) (w : World) (h : i < s.size) (hm : s.size ≤ maxLen) (hr : r = rn (s.data.toList.drop i)) :
    Calls Try.prog 42 #[.string s, .int .i64 i, .int .i32 r] w fun e w' => e = .returned (.bool (good (s.data.toList.drop i))) ∧ w' = w := by
  by_cases h5 : r = 65533
  · have hg := good_fffd _ (hr.symm.trans h5)
    subst h5
    clear hr
    go_enter Try.func42, Try.ntmps42
    go_wp2_with fail
    refine (Try.strings_HasPrefix _ _ _).mono ?_
    rintro e w' ⟨rfl, rfl⟩
    rw [ext_data, hg]
    go_wp2
    go_ret
    exact ⟨rfl, rfl⟩
  · have hg := good_other _ (by rw [← hr]; exact h5)
    rw [hg]
    clear hr hg
    go_enter Try.func42, Try.ntmps42
    go_wp2
    go_ret
    exact ⟨rfl, rfl⟩

def allGood (l : List UInt8) : Bool := (pieces l).all fun p => decide (0 ≤ p.1)
def count (l : List UInt8) : Nat := (pieces l).length
theorem allGood_nil : allGood [] = true := rfl
theorem count_nil : count [] = 0 := rfl
theorem allGood_cons (l : List UInt8) (h : l ≠ []) : allGood l = (good l && allGood (l.drop (wd l))) := by
  unfold allGood good wd
  rw [pieces_cons l h]
  rfl
theorem count_cons (l : List UInt8) (h : l ≠ []) : count l = count (l.drop (wd l)) + 1 := by
  unfold count wd
  rw [pieces_cons l h]
  rfl
theorem wd_pos (l : List UInt8) (h : l ≠ []) : 1 ≤ wd l ∧ wd l ≤ l.length := dec_width l h
theorem drop_end (s : ByteArray) (i : Nat) (h : ¬ i < s.size) : s.data.toList.drop i = [] := by
  rw [List.drop_eq_nil_iff, size8]; omega
theorem drop_len (s : ByteArray) (i : Nat) : (s.data.toList.drop i).length = s.size - i := by rw [List.length_drop, size8]

/-- The runes that a key may not have; none (-1) among them. -/
def bar (r : Int) : Bool := decide (r ≤ 32 ∨ (127 ≤ r ∧ r ≤ 160) ∨ r = 8232 ∨ r = 8233)
theorem barred_at (r : Int) (w : World) : Calls Try.prog 43 #[.int .i32 r] w fun e w' => e = .returned (.bool (bar r)) ∧ w' = w := by
  by_cases h1 : r ≤ 32
  · rw [show bar r = true from decide_eq_true (.inl h1)]
    go_enter Try.func43, Try.ntmps43
    go_wp2
    go_ret
    exact ⟨rfl, rfl⟩
  · by_cases h2 : 127 ≤ r
    · by_cases h3 : r ≤ 160
      · rw [show bar r = true from decide_eq_true (.inr (.inl ⟨h2, h3⟩))]
        go_enter Try.func43, Try.ntmps43
        go_wp2
        go_ret
        exact ⟨rfl, rfl⟩
      · by_cases h4 : r = 8232
        · subst h4
          go_enter Try.func43, Try.ntmps43
          go_wp2
          go_ret
          exact ⟨rfl, rfl⟩
        · by_cases h5 : r = 8233
          · subst h5
            go_enter Try.func43, Try.ntmps43
            go_wp2
            go_ret
            exact ⟨rfl, rfl⟩
          · rw [show bar r = false from decide_eq_false (by omega)]
            go_enter Try.func43, Try.ntmps43
            go_wp2
            go_ret
            exact ⟨by simp [h4, h5], rfl⟩
    · have h4 : r ≠ 8232 := by omega
      have h5 : r ≠ 8233 := by omega
      rw [show bar r = false from decide_eq_false (by omega)]
      go_enter Try.func43, Try.ntmps43
      go_wp2
      go_ret
      exact ⟨by simp [h4, h5], rfl⟩

def clean (l : List UInt8) : Bool := (pieces l).all fun p => !bar p.1
theorem clean_nil : clean [] = true := rfl
theorem clean_cons (l : List UInt8) (h : l ≠ []) : clean l = (!bar (dec l).1 && clean (l.drop (wd l))) := by
  unfold clean wd
  rw [pieces_cons l h]
  rfl
def isKey (l : List UInt8) : Bool := decide (1 ≤ l.length) && decide (l.length ≤ 250) && clean l

theorem bar_bad (l : List UInt8) (h : good l = false) : bar (dec l).1 = true := by
  unfold good at h
  unfold bar
  simp at h
  exact decide_eq_true (.inl (by omega))
theorem bar_good (l : List UInt8) (h : good l = true) : bar (rn l) = bar (dec l).1 := by
  unfold good at h
  unfold rn
  simp at h
  rw [if_neg (by omega)]

set_option maxHeartbeats 4000000 in
set_option maxRecDepth 1000000 in
theorem key_any (s : ByteArray) (w : World) (hm : s.size ≤ maxLen) :
    Calls Try.prog 41 #[.string s] w fun e w' => e = .returned (.bool (isKey s.data.toList)) ∧ Below w.heap.size w w' := by
  by_cases h1 : s.size < 1
  · rw [show isKey s.data.toList = false by unfold isKey; rw [size8, decide_eq_false (by omega)]; rfl]
    go_enter Try.func41, Try.ntmps41
    go_wp2
    go_ret
    exact ⟨rfl, Below.refl _ _⟩
  by_cases h2 : 250 < s.size
  · rw [show isKey s.data.toList = false by unfold isKey; rw [size8, decide_eq_false (p := s.size ≤ 250) (by omega)]; simp]
    go_enter Try.func41, Try.ntmps41
    go_wp2
    go_ret
    exact ⟨rfl, Below.refl _ _⟩
  rw [show isKey s.data.toList = clean s.data.toList by unfold isKey; rw [size8, decide_eq_true (p := s.size ≤ 250) (by omega), decide_eq_true (p := 1 ≤ s.size) (by omega)]; simp]
  go_enter Try.func41, Try.ntmps41
  go_wp2
  go_loopw [] (fun wr => ∃ (pos : Nat), wr = w.iter s pos ∧ pos ≤ s.size ∧ Hid (clean (s.data.toList.drop pos) = clean s.data.toList)) (fun wr => s.size - wr.iterPos w.heap.size)
  case atStart => exact ⟨0, rfl, by omega, by simp [Hid]⟩
  case round =>
    obtain ⟨pos, rfl, hpos, H1⟩ := hrel
    by_cases hp : pos < s.size
    · have hnx : ∀ ty, (Instr.next (.pointer (some ⟨w.heap.size, 0, none⟩)) true ty).run Try.prog (w.iter s pos) = _ := fun ty => run_next_any w s pos ty hp
      obtain ⟨d1, d2⟩ := decode_rn s pos hp
      rw [d1, d2] at hnx
      have hne := drop_ne s pos hp
      have hw := wd_pos _ hne
      rw [drop_len] at hw
      have hc := clean_cons _ hne
      rw [List.drop_drop] at hc
      clear d1 d2
      go_wp2_with fail
      refine (formed_at s pos _ _ hp hm rfl).mono ?_
      rintro e w' ⟨rfl, rfl⟩
      cases hg : good (s.data.toList.drop pos) with
      | false =>
        rw [bar_bad _ hg] at hc
        go_wp2
        go_ret
        exact ⟨by rw [← H1.out, hc]; rfl, (Below.refl _ w).alloc (Nat.le_refl _) _⟩
      | true =>
        rw [← bar_good _ hg] at hc
        go_wp2_with fail
        refine (barred_at _ _).mono ?_
        rintro e w' ⟨rfl, rfl⟩
        cases hb : bar (rn (s.data.toList.drop pos)) with
        | true =>
          rw [hb] at hc
          go_wp2
          go_ret
          exact ⟨by rw [← H1.out, hc]; rfl, (Below.refl _ w).alloc (Nat.le_refl _) _⟩
        | false =>
          rw [hb] at hc
          go_wp2
          go_roundw
          case rel => exact ⟨pos + wd (s.data.toList.drop pos), rfl, by omega, by have := H1.out; simp only [Hid]; rw [hc] at this; simpa using this⟩
          case measure => simp; omega
    · have hnx : ∀ ty, (Instr.next (.pointer (some ⟨w.heap.size, 0, none⟩)) true ty).run Try.prog (w.iter s pos) = _ := fun ty => run_next_end w s pos ty hp
      go_wp2
      go_ret
      have e1 := H1.out
      rw [drop_end s pos hp, clean_nil] at e1
      exact ⟨by rw [← e1]; rfl, (Below.refl _ w).alloc (Nat.le_refl _) _⟩
end Go.Proofs.Ytofjadgnkpcaeaa
