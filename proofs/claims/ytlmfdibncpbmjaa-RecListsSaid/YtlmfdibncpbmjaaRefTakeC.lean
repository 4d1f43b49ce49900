/- 'Take' of the reckoning side, of any bytes. -/
import Derived.Test.YtlmfdibncpbmjaaRefTakeB
import Derived.Test.YtlmfdibncpbmjaaEq
set_option linter.unusedVariables false
set_option linter.unusedSimpArgs false
namespace Go.Proofs.Ytlmfdibncpbmjaa
open Go.RowKit Go.Deep Math

theorem txt_extract (l : List UInt8) (i j : Nat) : (txt l).extract i j = txt (sl l i j) := by
  unfold txt sl
  apply ByteArray.ext
  simp [ByteArray.data_extract]
  rw [List.drop_take]
theorem upIs (l : List UInt8) : UpIs (txt l) (fun i j => up (sl l i j)) := fun W i j hij hj h8 => by
  rw [txt_size] at hj
  rw [txt_extract]
  exact up_any (sl l i j) (by rw [sl_length _ _ _ hj]; exact h8) W
theorem crcIs (l : List UInt8) (hl : l.length ≤ 1048576) : CrcIs (txt l) (fun i j => crcN (sl l i j)) := fun W i j hj => by
  rw [txt_size] at hj
  rw [txt_extract]
  exact crcT_any (sl l i j) (by rw [sl_length _ _ _ hj]; omega) W
theorem byte_is (l : List UInt8) (i k : Nat) (h : k = (l.getD i 0).toNat) : ∀ h' : i < (txt l).size, (((txt l)[i]'h').toNat : Int) = (k : Int) := fun h' => by
  rw [txt_get l i (by rwa [txt_size] at h'), h]
theorem tk_bad : tkV .bad = .tuple #[.agg #[.string ⟨#[]⟩, .string ⟨#[]⟩, .int .u32 0, .int .i64 0, .int .u64 0], .int .i64 0, .int .i64 3] := rfl
theorem tk_none : tkV .none = .tuple #[.agg #[.string ⟨#[]⟩, .string ⟨#[]⟩, .int .u32 0, .int .i64 0, .int .u64 0], .int .i64 0, .int .i64 5] := rfl

theorem refTake_any (l : List UInt8) (hl : l.length ≤ 1048576) (w : World) :
    Calls Try.prog 20 #[.string (txt l)] w fun e w' => e = .returned (tkV (take l)) ∧ Below w.heap.size w w' := by
  have hs := txt_size l
  have cU := hide (upIs l)
  have cC := hide (crcIs l hl)
  by_cases h0 : l.length = 0
  · have hn : l = [] := List.eq_nil_of_length_eq_zero h0
    have E : ended l = true := by simp [ended, h0]
    rw [show take l = .none by simp [take, E], tk_none]
    exact refTake_n1 (txt l) w (by rw [txt_list, hn]; rfl)
  have hne : (txt l).toList.isEmpty = false := by
    rw [txt_list]
    cases l with
    | nil => simp at h0
    | cons a r => rfl
  have hs0 : 0 < (txt l).size := by omega
  by_cases hz : l.getD 0 0 = 0
  · have E : ended l = true := by simp only [ended, decide_eq_true hz, Bool.or_true]
    rw [show take l = .none by simp [take, E], tk_none]
    exact refTake_n2 (txt l) w hne hs0 (fun h' => by have := byte_is l 0 0 (by rw [hz]; rfl) h'; simpa using this)
  have E : ended l = false := by simp only [ended, decide_eq_false hz, decide_eq_false h0, Bool.or_self]
  have hk0 : 1 ≤ (l.getD 0 0).toNat := by
    rcases Nat.eq_zero_or_pos (l.getD 0 0).toNat with h | h
    · exact absurd (UInt8.toNat_inj.1 h) hz
    · exact h
  have e0 := byte_is l 0 _ rfl
  have hk255 : (l.getD 0 0).toNat ≤ 255 := by have := (l.getD 0 0).toNat_lt; omega
  have hs63 : (txt l).size ≤ 1048576 := by omega
  by_cases h32 : (txt l).size < 32
  · have F : form1 l = false := by
      have : ¬ 32 ≤ l.length := by omega
      simp only [form1, decide_eq_false this, Bool.false_and]
    rw [show take l = .bad by simp [take, E, F], tk_bad]
    exact refTake_a1 (txt l) _ _ cU cC w hne hs63 hs0 _ e0 hk0 h32
  have h32l : 32 ≤ l.length := by omega
  have h32i : (32 : Int) ≤ ((txt l).size : Int) := by omega
  have hs3 : 3 < (txt l).size := by omega
  by_cases h82 : l.getD 3 0 = 82
  rotate_left
  · have F : form1 l = false := by simp only [form1, decide_eq_false h82, Bool.and_false, Bool.false_and]
    rw [show take l = .bad by simp [take, E, F], tk_bad]
    exact refTake_a2 (txt l) _ _ cU cC w hne hs63 hs0 _ e0 hk0 h32i hs3 _ (fun he => h82 (by
      have : (l.getD 3 0).toNat = (82 : UInt8).toNat := he
      exact UInt8.toNat_inj.1 this)) (byte_is l 3 _ rfl)
  have e3 : ∀ h' : 3 < (txt l).size, (((txt l)[3]'h').toNat : Int) = 82 := byte_is l 3 82 (by rw [h82]; rfl)
  by_cases h24 : up (sl l 24 28) = crcN (sl l 0 24)
  rotate_left
  · have F : form1 l = false := by simp only [form1, decide_eq_false h24, Bool.and_false]
    rw [show take l = .bad by simp [take, E, F], tk_bad]
    exact refTake_a3 (txt l) _ _ cU cC w hne hs63 hs0 _ e0 hk0 h32i hs3 e3 h24
  have F1 : form1 l = true := by simp only [form1, decide_eq_true h32l, decide_eq_true h82, decide_eq_true h24, Bool.and_self]
  have hv16 : up (sl l 1 3) ≤ 65535 := by have := up_lt (sl l 1 3); rw [sl_length _ _ _ (by omega)] at this; simp at this; omega
  have ek : tkKey l = (l.getD 0 0).toNat := rfl
  have ev : tkVal l = up (sl l 1 3) := rfl
  have er : tkVer l = up (sl l 16 24) := rfl
  have el : tkLen l = 32 + tkKey l + tkVal l := rfl
  have bad : form2 l = false → take l = .bad := fun F2 => by simp [take, E, F1, F2]
  have f2 : form2 l = (mayBe (tkKey l) (tkVal l) (tkVer l) && decide (tkLen l ≤ l.length) && decide (up (sl l 28 32) = crcN (sl l 32 (tkLen l)))) := rfl
  rw [← ek] at e0 hk0 hk255
  by_cases hk1 : tkKey l ≤ 250
  rotate_left
  · rw [bad (by rw [f2]; simp [mayBe, hk1]), tk_bad]
    exact refTake_b1 (txt l) _ _ cU cC w hne hs63 hs0 _ e0 hk0 h32i hs3 e3 (tkVal l) hk255 rfl hv16 h24 (by omega)
  by_cases hv1 : tkVal l ≤ 1024
  rotate_left
  · rw [bad (by rw [f2]; simp [mayBe, hv1]), tk_bad]
    exact refTake_b2 (txt l) _ _ cU cC w hne hs63 hs0 _ e0 hk0 h32i hs3 e3 (tkVal l) hk255 rfl hv16 h24 hk1 (by omega)
  by_cases hr : tkVer l = 0
  · rw [bad (by rw [f2]; simp [mayBe, hr]), tk_bad]
    exact refTake_b3 (txt l) _ _ cU cC w hne hs63 hs0 _ e0 hk0 h32i hs3 e3 (tkVal l) hk255 rfl hv16 h24 hk1 hv1 hr
  have hr0 : 0 < tkVer l := Nat.pos_of_ne_zero hr
  by_cases hn : tkLen l ≤ l.length
  rotate_left
  · rw [bad (by rw [f2]; simp [hn]), tk_bad]
    exact refTake_b4 (txt l) _ _ cU cC w hne hs63 hs0 _ e0 hk0 h32i hs3 e3 (tkVal l) hk255 rfl hv16 h24 hk1 hv1 hr0 (by omega)
  by_cases h28 : up (sl l 28 32) = crcN (sl l 32 (tkLen l))
  rotate_left
  · rw [bad (by rw [f2]; simp [h28]), tk_bad]
    exact refTake_b5 (txt l) _ _ cU cC w hne hs63 hs0 _ e0 hk0 h32i hs3 e3 (tkVal l) hk255 rfl hv16 h24 hk1 hv1 hr0 (by omega) h28
  have F2 : form2 l = true := by
    rw [f2]
    have h1 : 1 ≤ tkKey l := hk0
    simp [mayBe, hk1, hv1, hr0, hn, h28, h1]
  rw [show take l = .ok (tkItem l) (tkLen l) by simp [take, E, F1, F2]]
  refine (refTake_good (txt l) _ _ cU cC w hne hs63 hs0 _ e0 hk0 h32i hs3 e3 (tkVal l) hk255 rfl hv16 h24 hk1 hv1 hr0 (by omega) h28).mono ?_
  rintro e w' ⟨rfl, hb⟩
  refine ⟨?_, hb⟩
  congr 1
  show _ = Value.tuple #[itV (txt (tkItem l).key) (txt (tkItem l).value) ((tkItem l).flags : Int) (tkItem l).exp ((tkItem l).ver : Int), .int .i64 (tkLen l : Int), .int .i64 0]
  have F3 : up (sl l 4 8) < 4294967296 := by have := up_lt (sl l 4 8); rw [sl_length _ _ _ (by omega)] at this; exact this
  have X3 : up (sl l 8 16) < 18446744073709551616 := by have := up_lt (sl l 8 16); rw [sl_length _ _ _ (by omega)] at this; exact this
  have e1 : IntKind.u32.wrap (up (sl l 4 8) : Int) = (up (sl l 4 8) : Int) := by rw [IntKind.wrap_u32']; omega
  have e2 : IntKind.i64.wrap (up (sl l 8 16) : Int) = i64 (up (sl l 8 16)) := by rw [IntKind.wrap_i64]; unfold i64; split <;> omega
  rw [txt_extract, txt_extract, e1, e2]
  rfl
end Go.Proofs.Ytlmfdibncpbmjaa
