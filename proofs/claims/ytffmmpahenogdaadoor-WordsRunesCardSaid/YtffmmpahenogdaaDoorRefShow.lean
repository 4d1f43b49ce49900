/-
  What the document's own reckoning (package cellaretref1) answers for Shown, for every text of at most 3000 bytes.
-/
import Derived.Test.YtffmmpahenogdaaDoorText
namespace Go.Proofs.YtffmmpahenogdaaDoor
open Go.Shelf Go.RowKit
set_option linter.unusedVariables false

theorem cat_size (a b : ByteArray) : (a ++ b).size = a.size + b.size := by
  rw [← size8, ← size8, ← size8, ByteArray.data_append]; simp
theorem cat_data (a b : ByteArray) : (a ++ b).data.toList = a.data.toList ++ b.data.toList := by
  rw [ByteArray.data_append]; simp

theorem and7b (x : Nat) (hx : x < 256) : bits BinOp.and IntKind.u8 ((x : Nat) : Int) 7 = ((x % 8 : Nat) : Int) := by
  rw [show (7 : Int) = 2 ^ 3 - 1 from rfl, bits_mask .u8 8 (by decide) wrap_u8_small 3 (by decide) (x : Int) (by omega) (by omega)]
  simp
theorem and7c (x : Nat) (hx : x < 256) : bits BinOp.and IntKind.u8 (((x : Nat) : Int) / 8) 7 = ((x / 8 % 8 : Nat) : Int) := by
  rw [show ((x : Int) / 8) = ((x / 8 : Nat) : Int) by omega]
  exact and7b (x / 8) (by omega)
theorem text_z (z : Int) (n : Nat) (hz : z = n) (hn : n < 10) (w : World) :
    Calls Tryd.prog 23 #[.int .u64 z] w fun e w' => e = .returned (.string ⟨(digits n).toArray⟩) ∧ w' = w := by
  subst hz
  exact refText_small n hn w

set_option maxHeartbeats 4000000 in
set_option maxRecDepth 1000000 in
theorem refShown_any (s : ByteArray) (w : World) (hm : s.size ≤ 3000) :
    Calls Tryd.prog 18 #[.string s] w fun e w' => e = .returned (.string ⟨(shown s.data.toList).toArray⟩) ∧ ∃ k, w' = w.drewN k := by
  go_enter Tryd.func18, Tryd.ntmps18
  go_wp2
  go_loopw [0, 3] (fun t u wr => ∃ (r T : ByteArray), t = .string r ∧ u = .string T ∧ Hid (∃ k, wr = w.drewN k) ∧ r.size ≤ s.size ∧ T.size ≤ 4 * (s.size - r.size) ∧ Hid (T.data.toList ++ shown r.data.toList = shown s.data.toList)) (fun t _ _ => strLen t)
  case atStart => exact ⟨s, ⟨#[]⟩, rfl, rfl, ⟨0, rfl⟩, by omega, Nat.zero_le _, by simp [Hid]⟩
  case round =>
    obtain ⟨r, T, rfl, rfl, HW, hr, hT, H1⟩ := hrel
    by_cases hp : 0 < r.size
    · have hne := ne_of_size r hp
      have hw := wd_pos _ hne
      rw [size8] at hw
      have HC : Hid (shown r.data.toList = shw (dv r.data.toList, r.data.toList.take (wd r.data.toList)) ++ shown (r.extract (wd r.data.toList) r.size).data.toList) := by
        simp only [Hid]; rw [ext_wd]; exact shown_cons _ hne
      have hes : (r.extract (wd r.data.toList) r.size).size = r.size - wd r.data.toList := by
        rw [← size8, ext_wd, List.length_drop, size8]
      cases hpl : plainB (dv r.data.toList) with
      | true =>
        have HS : Hid (shw (dv r.data.toList, r.data.toList.take (wd r.data.toList)) = (r.extract 0 (wd r.data.toList)).data.toList) := by
          simp only [Hid, shw, hpl, if_true]
          rw [Lib.extract_data]; simp
        have hes2 : (r.extract 0 (wd r.data.toList)).size = wd r.data.toList := by
          rw [← size8, Lib.extract_data]; simp; omega
        have hpl2 : 32 < dv r.data.toList ∧ dv r.data.toList ≠ 127 ∧ dv r.data.toList ≠ 34 ∧ dv r.data.toList ≠ 92 := of_decide_eq_true hpl
        obtain ⟨c1, c2, c3, c4⟩ := hpl2
        clear hne hpl
        generalize hW : wd r.data.toList = W at hw HC hes HS hes2
        generalize hV : dv r.data.toList = V at HC HS c1 c2 c3 c4
        have d2 : (V != 127) = true := by simp [c2]
        have d3 : (V != 34) = true := by simp [c3]
        have d4 : (V != 92) = true := by simp [c4]
        go_wp2_with fail
        refine (rune1_w r _ hp (by unfold maxLen; omega)).mono ?_
        rintro e w' ⟨rfl, rfl⟩
        rw [hW, hV]
        go_wp2
        go_roundw
        case rel =>
          refine ⟨r.extract W r.size, T ++ r.extract 0 W, by simp, by simp, HW, by omega, by rw [cat_size]; omega, ?_⟩
          have a1 := H1.out
          rw [HC.out, HS.out] at a1
          simp only [Hid]
          rw [cat_data, List.append_assoc]
          exact a1
        case measure => simp only [strLen]; omega
      | false =>
        have hhd := head0 r hp
        have hw1 : wd r.data.toList = 1 := by
          have := one_byte r[0] (r.data.toList.drop 1) (by rw [← hhd]; exact hpl)
          rw [← hhd] at this
          exact this
        have HS : Hid (shw (dv r.data.toList, r.data.toList.take (wd r.data.toList)) = oct r[0]) := by
          have := shw_oct r[0] (r.data.toList.drop 1) (by rw [← hhd]; exact hpl)
          rw [← hhd] at this
          exact this
        have hpl2 : ¬ (32 < dv r.data.toList ∧ dv r.data.toList ≠ 127 ∧ dv r.data.toList ≠ 34 ∧ dv r.data.toList ≠ 92) := of_decide_eq_false hpl
        clear hhd hne hpl
        have hV4 : dv r.data.toList ≤ 32 ∨ dv r.data.toList = 127 ∨ dv r.data.toList = 34 ∨ dv r.data.toList = 92 := by omega
        clear hpl2
        rw [hw1] at hw HC hes HS
        generalize hV : dv r.data.toList = V at HC HS hV4
        have hx := r[0].toNat_lt
        rcases hV4 with c1 | c1 | c1 | c1
        · go_wp2_with fail
          refine (rune1_w r _ hp (by unfold maxLen; omega)).mono ?_
          rintro e w' ⟨rfl, rfl⟩
          rw [hw1, hV]
          go_wp2
          go_loopw [3, 6] (fun u i wq => ∃ (T' : ByteArray), u = .string T' ∧ Hid (∃ k, wq = w.drewN k) ∧ ((i = .int .i64 0 ∧ T' = T) ∨ (i = .int .i64 1 ∧ Hid (T'.data.toList = T.data.toList ++ oct r[0])))) (fun _ i _ => 1 - (intOf i).toNat)
          case atStart => exact ⟨T, rfl, HW, .inl ⟨rfl, rfl⟩⟩
          case round =>
            obtain ⟨T', rfl, HQ, ⟨rfl, rfl⟩ | ⟨rfl, hT'⟩⟩ := hrel
            · have hc0 : ¬ 9223372036854775807 < T'.size + 1 := by omega
              have hc1 : ¬ 9223372036854775807 < T'.size + 1 + (digits (r[0].toNat / 64)).length := by rw [digits_small _ (by omega)]; simp; omega
              have hc2 : ¬ 9223372036854775807 < T'.size + 1 + (digits (r[0].toNat / 64)).length + (digits (r[0].toNat / 8 % 8)).length := by rw [digits_small _ (by omega), digits_small _ (by omega)]; simp; omega
              have hc3 : ¬ 9223372036854775807 < T'.size + 1 + (digits (r[0].toNat / 64)).length + (digits (r[0].toNat / 8 % 8)).length + (digits (r[0].toNat % 8)).length := by rw [digits_small _ (by omega), digits_small _ (by omega), digits_small _ (by omega)]; simp; omega
              have hb8 := and7c r[0].toNat hx
              have hb7 := and7b r[0].toNat hx
              go_wp2_with fail
              go_quiet ((first
                | (go_at_call 23; refine Calls.quiet_of_same (text_z _ (r[0].toNat / 64) ?_ (by omega) _); rw [IntKind.wrap_u64]; omega)
                | (go_at_call 23; refine Calls.quiet_of_same (text_z _ (r[0].toNat / 8 % 8) ?_ (by omega) _); rw [IntKind.wrap_u64]; omega)
                | (go_at_call 23; refine Calls.quiet_of_same (text_z _ (r[0].toNat % 8) ?_ (by omega) _); rw [IntKind.wrap_u64]; omega)))
              clear hc0 hc1 hc2 hc3 hb7 hb8
              go_wp2
              go_roundw
              case rel =>
                refine ⟨_, rfl, ?_, .inr ⟨by go_num, ?_⟩⟩
                · obtain ⟨q, hq⟩ := HQ.out
                  rw [hq, World.drewN_drewN]
                  exact ⟨_, rfl⟩
                · simp only [Hid]
                  rw [cat_data, cat_data, cat_data, cat_data, digits_small _ (by omega), digits_small _ (by omega), digits_small _ (by omega)]
                  simp [oct]
              case measure => simp [intOf]
            · go_wp2
              refine ⟨⟨r.extract 1 r.size, T', rfl, rfl, HQ, by omega, ?_, ?_⟩, by simp only [strLen]; omega⟩
              · rw [← size8 T', hT'.out, List.length_append, size8]; simp [oct]; omega
              · have a1 := H1.out
                rw [HC.out, HS.out] at a1
                simp only [Hid]
                rw [hT'.out, List.append_assoc]
                exact a1
        · subst c1
          go_wp2_with fail
          refine (rune1_w r _ hp (by unfold maxLen; omega)).mono ?_
          rintro e w' ⟨rfl, rfl⟩
          rw [hw1, hV]
          go_wp2
          go_loopw [3, 6] (fun u i wq => ∃ (T' : ByteArray), u = .string T' ∧ Hid (∃ k, wq = w.drewN k) ∧ ((i = .int .i64 0 ∧ T' = T) ∨ (i = .int .i64 1 ∧ Hid (T'.data.toList = T.data.toList ++ oct r[0])))) (fun _ i _ => 1 - (intOf i).toNat)
          case atStart => exact ⟨T, rfl, HW, .inl ⟨rfl, rfl⟩⟩
          case round =>
            obtain ⟨T', rfl, HQ, ⟨rfl, rfl⟩ | ⟨rfl, hT'⟩⟩ := hrel
            · have hc0 : ¬ 9223372036854775807 < T'.size + 1 := by omega
              have hc1 : ¬ 9223372036854775807 < T'.size + 1 + (digits (r[0].toNat / 64)).length := by rw [digits_small _ (by omega)]; simp; omega
              have hc2 : ¬ 9223372036854775807 < T'.size + 1 + (digits (r[0].toNat / 64)).length + (digits (r[0].toNat / 8 % 8)).length := by rw [digits_small _ (by omega), digits_small _ (by omega)]; simp; omega
              have hc3 : ¬ 9223372036854775807 < T'.size + 1 + (digits (r[0].toNat / 64)).length + (digits (r[0].toNat / 8 % 8)).length + (digits (r[0].toNat % 8)).length := by rw [digits_small _ (by omega), digits_small _ (by omega), digits_small _ (by omega)]; simp; omega
              have hb8 := and7c r[0].toNat hx
              have hb7 := and7b r[0].toNat hx
              go_wp2_with fail
              go_quiet ((first
                | (go_at_call 23; refine Calls.quiet_of_same (text_z _ (r[0].toNat / 64) ?_ (by omega) _); rw [IntKind.wrap_u64]; omega)
                | (go_at_call 23; refine Calls.quiet_of_same (text_z _ (r[0].toNat / 8 % 8) ?_ (by omega) _); rw [IntKind.wrap_u64]; omega)
                | (go_at_call 23; refine Calls.quiet_of_same (text_z _ (r[0].toNat % 8) ?_ (by omega) _); rw [IntKind.wrap_u64]; omega)))
              clear hc0 hc1 hc2 hc3 hb7 hb8
              go_wp2
              go_roundw
              case rel =>
                refine ⟨_, rfl, ?_, .inr ⟨by go_num, ?_⟩⟩
                · obtain ⟨q, hq⟩ := HQ.out
                  rw [hq, World.drewN_drewN]
                  exact ⟨_, rfl⟩
                · simp only [Hid]
                  rw [cat_data, cat_data, cat_data, cat_data, digits_small _ (by omega), digits_small _ (by omega), digits_small _ (by omega)]
                  simp [oct]
              case measure => simp [intOf]
            · go_wp2
              refine ⟨⟨r.extract 1 r.size, T', rfl, rfl, HQ, by omega, ?_, ?_⟩, by simp only [strLen]; omega⟩
              · rw [← size8 T', hT'.out, List.length_append, size8]; simp [oct]; omega
              · have a1 := H1.out
                rw [HC.out, HS.out] at a1
                simp only [Hid]
                rw [hT'.out, List.append_assoc]
                exact a1
        · subst c1
          go_wp2_with fail
          refine (rune1_w r _ hp (by unfold maxLen; omega)).mono ?_
          rintro e w' ⟨rfl, rfl⟩
          rw [hw1, hV]
          go_wp2
          go_loopw [3, 6] (fun u i wq => ∃ (T' : ByteArray), u = .string T' ∧ Hid (∃ k, wq = w.drewN k) ∧ ((i = .int .i64 0 ∧ T' = T) ∨ (i = .int .i64 1 ∧ Hid (T'.data.toList = T.data.toList ++ oct r[0])))) (fun _ i _ => 1 - (intOf i).toNat)
          case atStart => exact ⟨T, rfl, HW, .inl ⟨rfl, rfl⟩⟩
          case round =>
            obtain ⟨T', rfl, HQ, ⟨rfl, rfl⟩ | ⟨rfl, hT'⟩⟩ := hrel
            · have hc0 : ¬ 9223372036854775807 < T'.size + 1 := by omega
              have hc1 : ¬ 9223372036854775807 < T'.size + 1 + (digits (r[0].toNat / 64)).length := by rw [digits_small _ (by omega)]; simp; omega
              have hc2 : ¬ 9223372036854775807 < T'.size + 1 + (digits (r[0].toNat / 64)).length + (digits (r[0].toNat / 8 % 8)).length := by rw [digits_small _ (by omega), digits_small _ (by omega)]; simp; omega
              have hc3 : ¬ 9223372036854775807 < T'.size + 1 + (digits (r[0].toNat / 64)).length + (digits (r[0].toNat / 8 % 8)).length + (digits (r[0].toNat % 8)).length := by rw [digits_small _ (by omega), digits_small _ (by omega), digits_small _ (by omega)]; simp; omega
              have hb8 := and7c r[0].toNat hx
              have hb7 := and7b r[0].toNat hx
              go_wp2_with fail
              go_quiet ((first
                | (go_at_call 23; refine Calls.quiet_of_same (text_z _ (r[0].toNat / 64) ?_ (by omega) _); rw [IntKind.wrap_u64]; omega)
                | (go_at_call 23; refine Calls.quiet_of_same (text_z _ (r[0].toNat / 8 % 8) ?_ (by omega) _); rw [IntKind.wrap_u64]; omega)
                | (go_at_call 23; refine Calls.quiet_of_same (text_z _ (r[0].toNat % 8) ?_ (by omega) _); rw [IntKind.wrap_u64]; omega)))
              clear hc0 hc1 hc2 hc3 hb7 hb8
              go_wp2
              go_roundw
              case rel =>
                refine ⟨_, rfl, ?_, .inr ⟨by go_num, ?_⟩⟩
                · obtain ⟨q, hq⟩ := HQ.out
                  rw [hq, World.drewN_drewN]
                  exact ⟨_, rfl⟩
                · simp only [Hid]
                  rw [cat_data, cat_data, cat_data, cat_data, digits_small _ (by omega), digits_small _ (by omega), digits_small _ (by omega)]
                  simp [oct]
              case measure => simp [intOf]
            · go_wp2
              refine ⟨⟨r.extract 1 r.size, T', rfl, rfl, HQ, by omega, ?_, ?_⟩, by simp only [strLen]; omega⟩
              · rw [← size8 T', hT'.out, List.length_append, size8]; simp [oct]; omega
              · have a1 := H1.out
                rw [HC.out, HS.out] at a1
                simp only [Hid]
                rw [hT'.out, List.append_assoc]
                exact a1
        · subst c1
          go_wp2_with fail
          refine (rune1_w r _ hp (by unfold maxLen; omega)).mono ?_
          rintro e w' ⟨rfl, rfl⟩
          rw [hw1, hV]
          go_wp2
          go_loopw [3, 6] (fun u i wq => ∃ (T' : ByteArray), u = .string T' ∧ Hid (∃ k, wq = w.drewN k) ∧ ((i = .int .i64 0 ∧ T' = T) ∨ (i = .int .i64 1 ∧ Hid (T'.data.toList = T.data.toList ++ oct r[0])))) (fun _ i _ => 1 - (intOf i).toNat)
          case atStart => exact ⟨T, rfl, HW, .inl ⟨rfl, rfl⟩⟩
          case round =>
            obtain ⟨T', rfl, HQ, ⟨rfl, rfl⟩ | ⟨rfl, hT'⟩⟩ := hrel
            · have hc0 : ¬ 9223372036854775807 < T'.size + 1 := by omega
              have hc1 : ¬ 9223372036854775807 < T'.size + 1 + (digits (r[0].toNat / 64)).length := by rw [digits_small _ (by omega)]; simp; omega
              have hc2 : ¬ 9223372036854775807 < T'.size + 1 + (digits (r[0].toNat / 64)).length + (digits (r[0].toNat / 8 % 8)).length := by rw [digits_small _ (by omega), digits_small _ (by omega)]; simp; omega
              have hc3 : ¬ 9223372036854775807 < T'.size + 1 + (digits (r[0].toNat / 64)).length + (digits (r[0].toNat / 8 % 8)).length + (digits (r[0].toNat % 8)).length := by rw [digits_small _ (by omega), digits_small _ (by omega), digits_small _ (by omega)]; simp; omega
              have hb8 := and7c r[0].toNat hx
              have hb7 := and7b r[0].toNat hx
              go_wp2_with fail
              go_quiet ((first
                | (go_at_call 23; refine Calls.quiet_of_same (text_z _ (r[0].toNat / 64) ?_ (by omega) _); rw [IntKind.wrap_u64]; omega)
                | (go_at_call 23; refine Calls.quiet_of_same (text_z _ (r[0].toNat / 8 % 8) ?_ (by omega) _); rw [IntKind.wrap_u64]; omega)
                | (go_at_call 23; refine Calls.quiet_of_same (text_z _ (r[0].toNat % 8) ?_ (by omega) _); rw [IntKind.wrap_u64]; omega)))
              clear hc0 hc1 hc2 hc3 hb7 hb8
              go_wp2
              go_roundw
              case rel =>
                refine ⟨_, rfl, ?_, .inr ⟨by go_num, ?_⟩⟩
                · obtain ⟨q, hq⟩ := HQ.out
                  rw [hq, World.drewN_drewN]
                  exact ⟨_, rfl⟩
                · simp only [Hid]
                  rw [cat_data, cat_data, cat_data, cat_data, digits_small _ (by omega), digits_small _ (by omega), digits_small _ (by omega)]
                  simp [oct]
              case measure => simp [intOf]
            · go_wp2
              refine ⟨⟨r.extract 1 r.size, T', rfl, rfl, HQ, by omega, ?_, ?_⟩, by simp only [strLen]; omega⟩
              · rw [← size8 T', hT'.out, List.length_append, size8]; simp [oct]; omega
              · have a1 := H1.out
                rw [HC.out, HS.out] at a1
                simp only [Hid]
                rw [hT'.out, List.append_assoc]
                exact a1
    · have hr0 : r.size = 0 := by omega
      go_wp2
      go_ret
      have e1 := H1.out
      rw [nil_of_size r hp, shown_nil, List.append_nil] at e1
      refine ⟨?_, HW.out⟩
      rw [← e1]
      rfl
end Go.Proofs.YtffmmpahenogdaaDoor
