/- Package image: 'read'; the device's Power; 'Load'. -/
import Derived.Test.YtanbbmlekebhhaaIm4
import Derived.Test.YtanbbmlekebhhaaRTakeE
import Derived.Test.YtanbbmlekebhhaaREq
set_option linter.unusedVariables false
set_option linter.unusedSimpArgs false
set_option maxRecDepth 8000
namespace Go.Proofs.Ytanbbmlekebhhaa
open Go.RowKit Go.Deep Math

set_option maxHeartbeats 400000 in
theorem power_at (d : Nat) (F : List Nat) (S : Dv) (w : World) (h : DvAt w d F S) :
    Calls Try.prog 33 #[.pointer (some ⟨d, 0, none⟩)] w fun e w' => e = .returned (.bool (!S.off)) ∧ w' = w := by
  obtain ⟨p, pd, wa, wc, rfl, h⟩ := h
  have c3 := h.dev.cell (i := 3) rfl
  clear h
  cases hO : S.off with
  | true =>
    rw [hO] at c3
    go_enter Try.func33, Try.ntmps33
    go_wp2
    go_ret
    exact ⟨rfl, rfl⟩
  | false =>
    rw [hO] at c3
    go_enter Try.func33, Try.ntmps33
    go_wp2
    go_ret
    exact ⟨rfl, rfl⟩

/-- What a page's text is a part of, if it has form and this place. -/
def imP (t : List UInt8) (k : Nat) : Option (List UInt8) := if sl t 0 2 = [73, 77] ∧ up (sl t 2 4) ≤ 376 ∧ up (sl t 4 8) = k then some (sl t 8 (8 + up (sl t 2 4))) else none
def Dv.part (S : Dv) (at0 : Int) (k : Nat) : Option (List UInt8) := if S.readErr at0 = 0 then imP (S.readText at0).data.toList k else none
def RdPost (w : World) (d : Nat) (F : List Nat) (S : Dv) (at0 : Int) (k : Nat) (e : Ending) (w' : World) : Prop :=
  DvAt w' d F (S.readDo at0) ∧ Keep F w w' ∧ match S.part at0 k with
    | none => e = .returned (.tuple #[.slice none 0 0, .bool false])
    | some p => ∃ g, w.heap.size ≤ g ∧ e = .returned (.tuple #[.slice (some ⟨g, 8, none⟩) p.length 376, .bool true]) ∧ BS w' (some ⟨g, 8, none⟩) p.length 376 p ∧ p.length ≤ 376

theorem cut_lit (g i j : Nat) (W : World) (hij : i ≤ j) (hj : j ≤ 384) (hi : i < 384) : (Instr.slice 39 (.slice (some ⟨g, 0, none⟩) 384 384) (some (.int .i64 (i : Int))) (some (.int .i64 (j : Int))) none).run Try.prog W = .ok (.slice (some ⟨g, i, none⟩) (j - i) (384 - i)) W := by
  have h1 : (i : Int) ≤ (j : Int) := by omega
  have h2 : (j : Int) ≤ 384 := by omega
  have h3 : ¬ (384 : Int) < (j : Int) := by omega
  have h4 : ¬ (j : Int) < (i : Int) := by omega
  have h5 : ¬ 384 = i := by omega
  have h6 : ¬ 384 - i = 0 := by omega
  go_simp
theorem cut_head (g : Nat) (W : World) : (Instr.slice 39 (.slice (some ⟨g, 0, none⟩) 384 384) none (some (.int .i64 2)) none).run Try.prog W = .ok (.slice (some ⟨g, 0, none⟩) 2 384) W := by
  go_simp
set_option maxHeartbeats 2000000 in
theorem read15 (d : Nat) (F : List Nat) (S : Dv) (first k : Nat) (hfi : first ≤ 4096) (hk : k ≤ 4096) (w : World) (hD : DvAt w d F S) :
    Calls Try.prog 34 #[.pointer (some ⟨d, 0, none⟩), .int .i64 first, .int .i64 k] w (RdPost w d F S ((first + k : Nat) : Int) k) := by
  have cr := hide (read_at d F S ((first + k : Nat) : Int) w hD)
  unfold RdPost
  have hfk2 : ((first + k : Nat) : Int) = (first : Int) + (k : Int) := by omega
  have PT : Hid (∀ er t, er = S.readErr ((first + k : Nat) : Int) → t = S.readText ((first + k : Nat) : Int) → S.part ((first + k : Nat) : Int) k = if er = 0 then imP t.data.toList k else none) := fun er t h1 h2 => by rw [h1, h2]; rfl
  obtain ⟨er, her⟩ : ∃ er, er = S.readErr ((first + k : Nat) : Int) := ⟨_, rfl⟩
  obtain ⟨t, htt⟩ : ∃ t, t = S.readText ((first + k : Nat) : Int) := ⟨_, rfl⟩
  have PT2 := PT.out er t her htt
  rw [PT2]
  rw [← her, ← htt] at cr
  generalize S.readDo ((first + k : Nat) : Int) = S2 at *
  rw [hfk2] at cr
  clear PT PT2 hD htt her hfk2
  by_cases h0 : er = 0
  · subst h0
    rw [if_pos rfl]
    obtain ⟨l, hl0⟩ : ∃ l, l = t.data.toList := ⟨_, rfl⟩
    rw [← hl0]
    have KEY : Hid (∀ w1, ∀ g, Blk w1 g (bCells t.data.toList) 5 → t.size = 384 → BS w1 (some ⟨g, 0, none⟩) 384 384 l) := fun w1 g hb hs => by
      rw [hl0]
      have hb2 : Buf w1 g t.data.toList 0 := by unfold Buf; rw [show zc 0 = [] from rfl, List.append_nil]; exact hb
      exact BS.mk' (by rw [Array.length_toList]; exact hs.symm) (Nat.le_refl _) (by have := hb2.reads 0; rwa [List.drop_zero] at this)
    have HI : Hid (imP l k = if sl l 0 2 = [73, 77] ∧ up (sl l 2 4) ≤ 376 ∧ up (sl l 4 8) = k then some (sl l 8 (8 + up (sl l 2 4))) else none) := rfl
    generalize imP l k = ip at *
    clear hl0
    have cr0 : Hid (Calls Try.prog 24 #[.pointer (some ⟨d, 0, none⟩), .int .i64 ((first : Int) + (k : Int))] w fun e w1 => ∃ g, e = .returned (.tuple #[.slice (some ⟨g, 0, none⟩) 384 384, .int .i64 0]) ∧ g = w.heap.size + 1 ∧ BS w1 (some ⟨g, 0, none⟩) 384 384 l ∧ DvAt w1 d F S2 ∧ Keep F w w1) := by
      refine cr.out.mono ?_
      rintro e w1 ⟨v, rfl, hr, h1, k1⟩
      rcases hr with ⟨h, -⟩ | ⟨-, hs, g, hg, rfl, hb⟩
      · exact absurd rfl h
      exact ⟨g, rfl, hg, KEY.out w1 g hb hs, h1, k1⟩
    clear cr KEY
    cases ip with
    | none =>
      simp only []
      go_enter Try.func34, Try.ntmps34
      go_wp2_with fail
      refine cr0.out.mono ?_
      rintro e w1 ⟨g, rfl, hg, hA, h1, k1⟩
      have hl := hA.len
      have c1 := hide (number15 (some ⟨g, 2, none⟩) 2 382 (sl l 2 4) (by rw [sl_length _ _ _ (by omega)]) (by omega) w1 (hA.sub 2 4 2 2 382 rfl (by omega) (by omega) rfl (by omega)).reads)
      have c2 := hide (number15 (some ⟨g, 4, none⟩) 4 380 (sl l 4 8) (by rw [sl_length _ _ _ (by omega)]) (by omega) w1 (hA.sub 4 8 4 4 380 rfl (by omega) (by omega) rfl (by omega)).reads)
      have cs := str_bs (hA.sub 0 2 0 2 384 rfl (by omega) (by omega) rfl (by omega)) (fun h => by cases h)
      have he : ((txt (sl l 0 2)).toList == [73, 77]) = decide (sl l 0 2 = [73, 77]) := by rw [txt_list]; by_cases e : sl l 0 2 = [73, 77] <;> simp [e]
      have hn8 : up (sl l 2 4) < 65536 := by
        have h1 := up_lt (sl l 2 4)
        rw [sl_length _ _ _ (by omega)] at h1
        exact h1
      have H1 := hide h1
      have K1 := hide k1
      have HG := hide hg
      have HP : Hid (up (sl l 2 4) ≤ 376 → BS w1 (some ⟨g, 8, none⟩) (up (sl l 2 4)) 376 (sl l 8 (8 + up (sl l 2 4))) ∧ (sl l 8 (8 + up (sl l 2 4))).length = up (sl l 2 4)) := fun hle =>
        ⟨hA.sub 8 (8 + up (sl l 2 4)) 8 (up (sl l 2 4)) 376 rfl (by omega) (by omega) (by omega) hle, by rw [sl_length _ _ _ (by omega)]; omega⟩
      have hn8i : (up (sl l 2 4) : Int) < 65536 := by omega
      clear h1 k1 hg hA hl cr0
      generalize txt (sl l 0 2) = s2 at *
      generalize up (sl l 2 4) = n at *
      generalize up (sl l 4 8) = m at *
      generalize sl l 8 (8 + n) = pp at *
      have s4 : Hid (n ≤ 376 → (Instr.slice 39 (.slice (some ⟨g, 0, none⟩) 384 384) (some (.int .i64 8)) (some (.int .i64 (8 + (n : Int)))) none).run Try.prog w1 = .ok (.slice (some ⟨g, 8, none⟩) n 376) w1) := fun hn => by
        have := cut_lit g 8 (8 + n) w1 (by omega) (by omega) (by decide)
        rw [show ((8 + n : Nat) : Int) = 8 + (n : Int) by omega, show 8 + n - 8 = n by omega] at this
        exact this
      have NO : ¬ (sl l 0 2 = [73, 77] ∧ n ≤ 376 ∧ m = k) := fun h => by have := HI.out; rw [if_pos h] at this; cases this
      have CS := hide cs
      have HEE := hide he
      clear cs he
      go_wp2_with fail
      refine c1.out.mono ?_
      rintro e w' ⟨rfl, hw⟩
      obtain rfl : w1 = w' := hw.symm
      clear hw c1
      go_wp2_with fail
      rw [CS.out]
      go_simp
      clear CS
      have he := HEE.out
      clear HEE
      clear HI HP s4
      by_cases q1 : sl l 0 2 = [73, 77]
      · rw [decide_eq_true q1] at he
        by_cases q2 : n ≤ 376
        · have q2i : ¬ ((376 : Int) < (n : Int)) := by omega
          have q3i : ¬ ((m : Int) = (k : Int)) := fun h => NO ⟨q1, q2, by omega⟩
          clear q1 q2 NO
          generalize sl l 0 2 = q0 at *
          generalize (m : Int) = mi at *
          generalize (k : Int) = ki at *
          go_wp2_with fail
          refine c2.out.mono ?_
          rintro e w' ⟨rfl, hw⟩
          obtain rfl : w1 = w' := hw.symm
          clear hw c2 hn8 hn8i
          go_wp2_with fail
          go_ret2
          exact ⟨H1.out, K1.out, rfl⟩
        · have q2i : (376 : Int) < (n : Int) := by omega
          clear q1 q2 c2 NO
          generalize sl l 0 2 = q0 at *
          go_wp2_with fail
          go_ret2
          exact ⟨H1.out, K1.out, rfl⟩
      · rw [decide_eq_false q1] at he
        clear q1 c2 NO
        generalize sl l 0 2 = q0 at *
        go_wp2_with fail
        go_ret2
        exact ⟨H1.out, K1.out, rfl⟩
    | some p =>
      simp only []
      go_enter Try.func34, Try.ntmps34
      go_wp2_with fail
      refine cr0.out.mono ?_
      rintro e w1 ⟨g, rfl, hg, hA, h1, k1⟩
      have hl := hA.len
      have c1 := hide (number15 (some ⟨g, 2, none⟩) 2 382 (sl l 2 4) (by rw [sl_length _ _ _ (by omega)]) (by omega) w1 (hA.sub 2 4 2 2 382 rfl (by omega) (by omega) rfl (by omega)).reads)
      have c2 := hide (number15 (some ⟨g, 4, none⟩) 4 380 (sl l 4 8) (by rw [sl_length _ _ _ (by omega)]) (by omega) w1 (hA.sub 4 8 4 4 380 rfl (by omega) (by omega) rfl (by omega)).reads)
      have cs := str_bs (hA.sub 0 2 0 2 384 rfl (by omega) (by omega) rfl (by omega)) (fun h => by cases h)
      have he : ((txt (sl l 0 2)).toList == [73, 77]) = decide (sl l 0 2 = [73, 77]) := by rw [txt_list]; by_cases e : sl l 0 2 = [73, 77] <;> simp [e]
      have hn8 : up (sl l 2 4) < 65536 := by
        have h1 := up_lt (sl l 2 4)
        rw [sl_length _ _ _ (by omega)] at h1
        exact h1
      have H1 := hide h1
      have K1 := hide k1
      have HG := hide hg
      have HP : Hid (up (sl l 2 4) ≤ 376 → BS w1 (some ⟨g, 8, none⟩) (up (sl l 2 4)) 376 (sl l 8 (8 + up (sl l 2 4))) ∧ (sl l 8 (8 + up (sl l 2 4))).length = up (sl l 2 4)) := fun hle =>
        ⟨hA.sub 8 (8 + up (sl l 2 4)) 8 (up (sl l 2 4)) 376 rfl (by omega) (by omega) (by omega) hle, by rw [sl_length _ _ _ (by omega)]; omega⟩
      have hn8i : (up (sl l 2 4) : Int) < 65536 := by omega
      clear h1 k1 hg hA hl cr0
      generalize txt (sl l 0 2) = s2 at *
      generalize up (sl l 2 4) = n at *
      generalize up (sl l 4 8) = m at *
      generalize sl l 8 (8 + n) = pp at *
      have s4 : Hid (n ≤ 376 → (Instr.slice 39 (.slice (some ⟨g, 0, none⟩) 384 384) (some (.int .i64 8)) (some (.int .i64 (8 + (n : Int)))) none).run Try.prog w1 = .ok (.slice (some ⟨g, 8, none⟩) n 376) w1) := fun hn => by
        have := cut_lit g 8 (8 + n) w1 (by omega) (by omega) (by decide)
        rw [show ((8 + n : Nat) : Int) = 8 + (n : Int) by omega, show 8 + n - 8 = n by omega] at this
        exact this
      have YES : (sl l 0 2 = [73, 77] ∧ n ≤ 376 ∧ m = k) ∧ p = pp := by
        have := HI.out
        split at this
        · rename_i h
          simp only [Option.some.injEq] at this
          exact ⟨h, this⟩
        · cases this
      have CS := hide cs
      have HEE := hide he
      clear cs he
      go_wp2_with fail
      refine c1.out.mono ?_
      rintro e w' ⟨rfl, hw⟩
      obtain rfl : w1 = w' := hw.symm
      clear hw c1
      go_wp2_with fail
      rw [CS.out]
      go_simp
      clear CS
      have he := HEE.out
      clear HEE
      obtain ⟨⟨q1, q2, q3⟩, q4⟩ := YES
      rw [decide_eq_true q1] at he
      have q2i : ¬ ((376 : Int) < (n : Int)) := by omega
      have HP2 := hide (HP.out q2)
      have HQ2 := hide q2
      have HQ4 := hide q4
      subst q3
      clear q1 q2 q4 HI HP s4
      generalize sl l 0 2 = q0 at *
      go_wp2_with fail
      refine c2.out.mono ?_
      rintro e w' ⟨rfl, hw⟩
      obtain rfl : w1 = w' := hw.symm
      clear hw c2
      go_wp2_with fail
      go_ret2
      refine ⟨H1.out, K1.out, g, by have := HG.out; omega, ?_, ?_, ?_⟩
      · rw [HQ4.out, HP2.out.2, show 8 + n - 8 = n by omega]
        rfl
      · rw [HQ4.out, HP2.out.2]; exact HP2.out.1
      · rw [HQ4.out, HP2.out.2]; exact HQ2.out
  · rw [if_neg h0]
    go_enter Try.func34, Try.ntmps34
    go_wp2_with (go_at_call 24; refine cr.out.mono ?_; rintro e w1 ⟨v, rfl, hr, h1, k1⟩)
    go_ret2
    exact ⟨h1, k1, rfl⟩
end Go.Proofs.Ytanbbmlekebhhaa
