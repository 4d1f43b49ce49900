/- Texts joined. -/
import Derived.Test.YtmfjaehajdephabP5
/-
  The program's touch.
-/
namespace Go.Proofs.Ytmfjaehajdephab
open Go.Shelf Go.RowKit Go.Deep
set_option linter.unusedVariables false
set_option linter.unusedSimpArgs false
set_option maxRecDepth 1000000

theorem touch_no (w : World) (g o n cap : Nat) (ws : List ByteArray) (h : RowT w (some ⟨g, o, none⟩) n ws) (hl : lastOk ws 3 false = false) :
    Calls Try.prog 56 #[.slice (some ⟨g, o, none⟩) n cap] w fun e w' => e = .returned (cmV errC (.slice none 0 0)) ∧ Below w.heap.size w w' := by
  have B0 := (Below.refl w.heap.size w).alloc (Nat.le_refl _) (cmO cmZ (.slice none 0 0))
  have B := B0.alloc (by simp only [World.size_alloc]; omega) (.cells #[.string ⟨#[110, 111, 114, 101, 112, 108, 121]⟩] 9)
  have e2 := (heap_at2 w (cmO cmZ (.slice none 0 0)) (.cells #[.string ⟨#[110, 111, 114, 101, 112, 108, 121]⟩] 9)).1
  have HL := hide (last_any _ _ n cap 3 _ 1 1 false ws (h.later B) (by omega) (may_row (w.alloc (cmO cmZ (.slice none 0 0))) (w.heap.size + 1) (by simp only [World.size_alloc])))
  rw [hl] at HL
  generalize lastQ ws 3 false = q at HL
  clear h hl B0
  go_enter Try.func56, Try.ntmps56
  go_wp2_with fail
  refine HL.out.mono ?_
  rintro e w' ⟨rfl, rfl⟩
  clear HL
  go_wp2_with fail
  refine (bad_any _ _).mono ?_
  rintro e w' ⟨rfl, hb⟩
  replace B := B.trans (hb.mono B.size)
  replace e2 := (hb.block _ (by simp only [World.size_alloc]; omega)).trans e2
  clear hb
  obtain ⟨p0, p1, p2, p3, p4, p5, p6, p7, p8, p9, p10, p11⟩ := CmAt.of e2
  obtain ⟨f0, f1, f2, f3, f4, f5, f6, f7, f8, f9, f10, f11⟩ := CmFz.of e2
  have H2 := hide (fun c v => heap_cm e2 c v)
  clear e2
  go_wp2
  exact ret_cm rfl w.heap.size errC (.slice none 0 0) rfl (H2.out errC (.slice none 0 0)) rfl ⟨rfl, below_cm B (by omega) errC (.slice none 0 0)⟩
set_option maxHeartbeats 1000000 in
theorem touch_ok (w : World) (g o n cap : Nat) (ws : List ByteArray) (h : RowT w (some ⟨g, o, none⟩) n ws) (hl : lastOk ws 3 false = true) (q : Bool) (hq : lastQ ws 3 false = q) (hn : 3 ≤ n) (x0 : ByteArray) (hx0 : ws[0]? = some x0) (d : Bool) (hd : isW x0 w_decr = d) (x1 : ByteArray) (hx1 : ws[1]? = some x1) (x2 : ByteArray) (hx2 : ws[2]? = some x2) (k2 : Int) (b2 : Bool) (hk : sgnV x2.data.toList = k2) (hb : sgnOk x2.data.toList = b2) (r : Cm) (hr : chk ⟨mk8 w_touch, ⟨#[]⟩, [x1], ⟨#[]⟩, 0, k2, 0, 0, false, false, false, q⟩ b2 (mk8 timeT) = r) :
    Calls Try.prog 56 #[.slice (some ⟨g, o, none⟩) n cap] w fun e w' => ∃ a' n' c', e = .returned (cmV r (.slice a' n' c')) ∧ RowT w' a' n' r.keys ∧ Below w.heap.size w w' := by
  have hf := h.at_.fits x1 (List.mem_of_getElem? hx1)
  have B0 := (Below.refl w.heap.size w).alloc (Nat.le_refl _) (cmO cmZ (.slice none 0 0))
  have B := B0.alloc (by simp only [World.size_alloc]; omega) (.cells #[.string ⟨#[110, 111, 114, 101, 112, 108, 121]⟩] 9)
  have HW := hide ((RgB.new w).later ((Below.refl _ _).alloc (Nat.le_refl _) (.cells #[.string ⟨#[110, 111, 114, 101, 112, 108, 121]⟩] 9)))
  have HL := hide (last_any _ _ n cap 3 _ 1 1 false ws (h.later B) (by omega) (may_row (w.alloc (cmO cmZ (.slice none 0 0))) (w.heap.size + 1) (by simp only [World.size_alloc])))
  rw [hl, hq] at HL
  have HX0 := hide (one_cell h 0 x0 hx0)
  rw [Nat.add_zero] at HX0
  have HX1 := hide (one_cell h 1 x1 hx1)
  have hc2 : ((w.alloc (cmO cmZ (.slice none 0 0))).alloc (.cells #[.string ⟨#[110, 111, 114, 101, 112, 108, 121]⟩] 9)).cell? ⟨g, o + 2, none⟩ = some (.string x2) := cell_later (one_cell h 2 x2 hx2) B
  have hp0 : 0 < n := by omega
  have hp1 : 1 < n := by omega
  have hp2 : 2 < n := by omega
  have hi1 : (1 : Int) < (n : Int) := by omega
  have hi0 : (0 : Int) < (n : Int) := by omega
  have hE : (x0.toList == [100, 101, 99, 114]) = d := hd
  have HS := hide (fun W => signed_any x2 W)
  rw [hk, hb] at HS
  have HF := hide hf
  have HCL : Hid (∀ W1 : World, ∀ N, N = W1.heap.size → Calls Try.prog 52 #[.agg #[.string ⟨#[116, 111, 117, 99, 104]⟩, .string ⟨#[]⟩, .slice (some ⟨N, 0, none⟩) 1 1, .string ⟨#[]⟩, .int .u32 0, .int .i64 k2, .int .u64 0, .int .u64 0, .bool false, .bool false, .bool false, .bool q], .bool b2, .string ⟨#[67, 76, 73, 69, 78, 84, 95, 69, 82, 82, 79, 82, 32, 105, 110, 118, 97, 108, 105, 100, 32, 101, 120, 112, 116, 105, 109, 101, 32, 97, 114, 103, 117, 109, 101, 110, 116]⟩] (W1.alloc (.cells #[.string x1] 9)) fun e w' => ∃ a' n' c', e = .returned (cmV r (.slice a' n' c')) ∧ RowT w' a' n' r.keys ∧ Below (W1.alloc (.cells #[.string x1] 9)).heap.size (W1.alloc (.cells #[.string x1] 9)) w') := fun W1 N hN => by
    subst hN
    exact checked_is ⟨mk8 w_touch, ⟨#[]⟩, [x1], ⟨#[]⟩, 0, k2, 0, 0, false, false, false, q⟩ r (some ⟨W1.heap.size, 0, none⟩) 1 1 b2 (mk8 timeT) _ hr (row_one W1 x1 hf) (Nat.zero_le _)
  clear h hx0 hx1 hx2 hd hr hk hb hl hq B B0 hf
  go_enter Try.func56, Try.ntmps56
  go_wp2_with fail
  refine HL.out.mono ?_
  rintro e w' ⟨rfl, rfl⟩
  clear HL
  go_wp2_with fail
  refine (HS.out _).mono ?_
  rintro e W1 ⟨rfl, hb⟩
  have HW1 := hide (HW.out.later hb)
  have hc3 : W1.cell? ⟨g, o + 1, none⟩ = some (.string x1) := cell_later HX1.out HW1.out.bel
  have hc4 : W1.cell? ⟨g, o, none⟩ = some (.string x0) := cell_later HX0.out HW1.out.bel
  clear hb hc2 HW HS
  go_wp2_with fail
  refine (HCL.out W1 _ rfl).mono ?_
  rintro e w2 ⟨a', n', c', rfl, hrow, hb⟩
  have HB := HW1.out.later (((Below.refl _ _).alloc (Nat.le_refl _) (.cells #[.string x1] 9)).trans (hb.mono (by simp only [World.size_alloc]; omega)))
  have B := HB.bel
  have e2 := HB.blk
  obtain ⟨p0, p1, p2, p3, p4, p5, p6, p7, p8, p9, p10, p11⟩ := CmAt.of e2
  obtain ⟨f0, f1, f2, f3, f4, f5, f6, f7, f8, f9, f10, f11⟩ := CmFz.of e2
  have H2 := hide (fun c v => heap_cm e2 c v)
  have HK := hide (keep_row hrow e2)
  clear e2 HB hrow hb
  go_wp2
  exact ret_cm rfl w.heap.size r (.slice a' n' c') rfl (H2.out r (.slice a' n' c')) rfl ⟨_, _, _, rfl, HK.out r _, below_cm B (by omega) r (.slice a' n' c')⟩
end Go.Proofs.Ytmfjaehajdephab

/-
  The program's remove, flush, word.
-/
namespace Go.Proofs.Ytmfjaehajdephab
open Go.Shelf Go.RowKit Go.Deep
set_option linter.unusedVariables false
set_option linter.unusedSimpArgs false
set_option maxRecDepth 1000000

theorem remove_no (w : World) (g o n cap : Nat) (ws : List ByteArray) (h : RowT w (some ⟨g, o, none⟩) n ws) (hl : lastOk ws 2 true = false) :
    Calls Try.prog 57 #[.slice (some ⟨g, o, none⟩) n cap] w fun e w' => e = .returned (cmV errC (.slice none 0 0)) ∧ Below w.heap.size w w' := by
  have B0 := (Below.refl w.heap.size w).alloc (Nat.le_refl _) (cmO cmZ (.slice none 0 0))
  have B := B0.alloc (by simp only [World.size_alloc]; omega) (.cells #[.string ⟨#[110, 111, 114, 101, 112, 108, 121]⟩, .string ⟨#[48]⟩] 9)
  have e2 := (heap_at2 w (cmO cmZ (.slice none 0 0)) (.cells #[.string ⟨#[110, 111, 114, 101, 112, 108, 121]⟩, .string ⟨#[48]⟩] 9)).1
  have HL := hide (last_any _ _ n cap 2 _ 2 2 true ws (h.later B) (by omega) (may_row2 (w.alloc (cmO cmZ (.slice none 0 0))) (w.heap.size + 1) (by simp only [World.size_alloc])))
  rw [hl] at HL
  generalize lastQ ws 2 true = q at HL
  clear h hl B0
  go_enter Try.func57, Try.ntmps57
  go_wp2_with fail
  refine HL.out.mono ?_
  rintro e w' ⟨rfl, rfl⟩
  clear HL
  go_wp2_with fail
  refine (bad_any _ _).mono ?_
  rintro e w' ⟨rfl, hb⟩
  replace B := B.trans (hb.mono B.size)
  replace e2 := (hb.block _ (by simp only [World.size_alloc]; omega)).trans e2
  clear hb
  obtain ⟨p0, p1, p2, p3, p4, p5, p6, p7, p8, p9, p10, p11⟩ := CmAt.of e2
  obtain ⟨f0, f1, f2, f3, f4, f5, f6, f7, f8, f9, f10, f11⟩ := CmFz.of e2
  have H2 := hide (fun c v => heap_cm e2 c v)
  clear e2
  go_wp2
  exact ret_cm rfl w.heap.size errC (.slice none 0 0) rfl (H2.out errC (.slice none 0 0)) rfl ⟨rfl, below_cm B (by omega) errC (.slice none 0 0)⟩
set_option maxHeartbeats 1000000 in
theorem remove_ok (w : World) (g o n cap : Nat) (ws : List ByteArray) (h : RowT w (some ⟨g, o, none⟩) n ws) (hl : lastOk ws 2 true = true) (q : Bool) (hq : lastQ ws 2 true = q) (hn : 2 ≤ n) (x1 : ByteArray) (hx1 : ws[1]? = some x1) (r : Cm) (hr : chk ⟨mk8 w_del_, ⟨#[]⟩, [x1], ⟨#[]⟩, 0, 0, 0, 0, false, false, false, q⟩ true (mk8 formT) = r) :
    Calls Try.prog 57 #[.slice (some ⟨g, o, none⟩) n cap] w fun e w' => ∃ a' n' c', e = .returned (cmV r (.slice a' n' c')) ∧ RowT w' a' n' r.keys ∧ Below w.heap.size w w' := by
  have B0 := (Below.refl w.heap.size w).alloc (Nat.le_refl _) (cmO cmZ (.slice none 0 0))
  have B := B0.alloc (by simp only [World.size_alloc]; omega) (.cells #[.string ⟨#[110, 111, 114, 101, 112, 108, 121]⟩, .string ⟨#[48]⟩] 9)
  have e2 := (heap_at2 w (cmO cmZ (.slice none 0 0)) (.cells #[.string ⟨#[110, 111, 114, 101, 112, 108, 121]⟩, .string ⟨#[48]⟩] 9)).1
  have HL := hide (last_any _ _ n cap 2 _ 2 2 true ws (h.later B) (by omega) (may_row2 (w.alloc (cmO cmZ (.slice none 0 0))) (w.heap.size + 1) (by simp only [World.size_alloc])))
  rw [hl] at HL
  rw [hq] at HL
  have hf := h.at_.fits x1 (List.mem_of_getElem? hx1)
  have HW := hide ((RgB.new w).later ((Below.refl _ _).alloc (Nat.le_refl _) (.cells #[.string ⟨#[110, 111, 114, 101, 112, 108, 121]⟩, .string ⟨#[48]⟩] 9)))
  have hc1 : ((w.alloc (cmO cmZ (.slice none 0 0))).alloc (.cells #[.string ⟨#[110, 111, 114, 101, 112, 108, 121]⟩, .string ⟨#[48]⟩] 9)).cell? ⟨g, o + 1, none⟩ = some (.string x1) := cell_later (one_cell h 1 x1 hx1) B
  have hp1 : 1 < n := by omega
  have hi1 : (1 : Int) < (n : Int) := by omega
  have HCL : Hid (∀ W1 : World, ∀ N, N = W1.heap.size → Calls Try.prog 52 #[.agg #[.string ⟨#[100, 101, 108, 101, 116, 101]⟩, .string ⟨#[]⟩, .slice (some ⟨N, 0, none⟩) 1 1, .string ⟨#[]⟩, .int .u32 0, .int .i64 0, .int .u64 0, .int .u64 0, .bool false, .bool false, .bool false, .bool q], .bool true, .string ⟨#[67, 76, 73, 69, 78, 84, 95, 69, 82, 82, 79, 82, 32, 98, 97, 100, 32, 99, 111, 109, 109, 97, 110, 100, 32, 108, 105, 110, 101, 32, 102, 111, 114, 109, 97, 116]⟩] (W1.alloc (.cells #[.string x1] 9)) fun e w' => ∃ a' n' c', e = .returned (cmV r (.slice a' n' c')) ∧ RowT w' a' n' r.keys ∧ Below (W1.alloc (.cells #[.string x1] 9)).heap.size (W1.alloc (.cells #[.string x1] 9)) w') := fun W1 N hN => by
    subst hN
    exact checked_is ⟨mk8 w_del_, ⟨#[]⟩, [x1], ⟨#[]⟩, 0, 0, 0, 0, false, false, false, q⟩ r (some ⟨W1.heap.size, 0, none⟩) 1 1 true (mk8 formT) _ hr (row_one W1 x1 hf) (Nat.zero_le _)
  have HSZ : Hid (w.heap.size + 1 + 1 = ((w.alloc (cmO cmZ (.slice none 0 0))).alloc (.cells #[.string ⟨#[110, 111, 114, 101, 112, 108, 121]⟩, .string ⟨#[48]⟩] 9)).heap.size) := by show _ = _; simp only [World.size_alloc]
  clear h hx1 hl hq B B0 hf e2 hr
  go_enter Try.func57, Try.ntmps57
  go_wp2_with fail
  refine HL.out.mono ?_
  rintro e w' ⟨rfl, rfl⟩
  clear HL
  go_wp2_with fail
  refine (HCL.out _ _ HSZ.out).mono ?_
  rintro e w2 ⟨a', n', c', rfl, hrow, hb⟩
  have HB := HW.out.later (((Below.refl _ _).alloc (Nat.le_refl _) (.cells #[.string x1] 9)).trans (hb.mono (by simp only [World.size_alloc]; omega)))
  have B := HB.bel
  have e2 := HB.blk
  obtain ⟨p0, p1, p2, p3, p4, p5, p6, p7, p8, p9, p10, p11⟩ := CmAt.of e2
  obtain ⟨f0, f1, f2, f3, f4, f5, f6, f7, f8, f9, f10, f11⟩ := CmFz.of e2
  have H2 := hide (fun c v => heap_cm e2 c v)
  have HK := hide (keep_row hrow e2)
  clear e2 HB hrow hb hc1
  go_wp2
  exact ret_cm rfl w.heap.size r (.slice a' n' c') rfl (H2.out r (.slice a' n' c')) rfl ⟨_, _, _, rfl, HK.out r _, below_cm B (by omega) r (.slice a' n' c')⟩
theorem flush_no (w : World) (g o n cap : Nat) (ws : List ByteArray) (h : RowT w (some ⟨g, o, none⟩) n ws) (hl : lastOk ws 1 true = false) :
    Calls Try.prog 58 #[.slice (some ⟨g, o, none⟩) n cap] w fun e w' => e = .returned (cmV errC (.slice none 0 0)) ∧ Below w.heap.size w w' := by
  have B0 := (Below.refl w.heap.size w).alloc (Nat.le_refl _) (cmO cmZ (.slice none 0 0))
  have B := B0.alloc (by simp only [World.size_alloc]; omega) (.cells #[.string ⟨#[110, 111, 114, 101, 112, 108, 121]⟩, .string ⟨#[48]⟩] 9)
  have e2 := (heap_at2 w (cmO cmZ (.slice none 0 0)) (.cells #[.string ⟨#[110, 111, 114, 101, 112, 108, 121]⟩, .string ⟨#[48]⟩] 9)).1
  have HL := hide (last_any _ _ n cap 1 _ 2 2 true ws (h.later B) (by omega) (may_row2 (w.alloc (cmO cmZ (.slice none 0 0))) (w.heap.size + 1) (by simp only [World.size_alloc])))
  rw [hl] at HL
  generalize lastQ ws 1 true = q at HL
  clear h hl B0
  go_enter Try.func58, Try.ntmps58
  go_wp2_with fail
  refine HL.out.mono ?_
  rintro e w' ⟨rfl, rfl⟩
  clear HL
  go_wp2_with fail
  refine (bad_any _ _).mono ?_
  rintro e w' ⟨rfl, hb⟩
  replace B := B.trans (hb.mono B.size)
  replace e2 := (hb.block _ (by simp only [World.size_alloc]; omega)).trans e2
  clear hb
  obtain ⟨p0, p1, p2, p3, p4, p5, p6, p7, p8, p9, p10, p11⟩ := CmAt.of e2
  obtain ⟨f0, f1, f2, f3, f4, f5, f6, f7, f8, f9, f10, f11⟩ := CmFz.of e2
  have H2 := hide (fun c v => heap_cm e2 c v)
  clear e2
  go_wp2
  exact ret_cm rfl w.heap.size errC (.slice none 0 0) rfl (H2.out errC (.slice none 0 0)) rfl ⟨rfl, below_cm B (by omega) errC (.slice none 0 0)⟩
theorem flush_ok (w : World) (g o n cap : Nat) (ws : List ByteArray) (h : RowT w (some ⟨g, o, none⟩) n ws) (hl : lastOk ws 1 true = true) (q : Bool) (hq : lastQ ws 1 true = q) :
    Calls Try.prog 58 #[.slice (some ⟨g, o, none⟩) n cap] w fun e w' => e = .returned (cmV ⟨mk8 [102, 108, 117, 115, 104], ⟨#[]⟩, [], ⟨#[]⟩, 0, 0, 0, 0, false, false, false, q⟩ (.slice none 0 0)) ∧ Below w.heap.size w w' := by
  have B0 := (Below.refl w.heap.size w).alloc (Nat.le_refl _) (cmO cmZ (.slice none 0 0))
  have B := B0.alloc (by simp only [World.size_alloc]; omega) (.cells #[.string ⟨#[110, 111, 114, 101, 112, 108, 121]⟩, .string ⟨#[48]⟩] 9)
  have e2 := (heap_at2 w (cmO cmZ (.slice none 0 0)) (.cells #[.string ⟨#[110, 111, 114, 101, 112, 108, 121]⟩, .string ⟨#[48]⟩] 9)).1
  have HL := hide (last_any _ _ n cap 1 _ 2 2 true ws (h.later B) (by omega) (may_row2 (w.alloc (cmO cmZ (.slice none 0 0))) (w.heap.size + 1) (by simp only [World.size_alloc])))
  rw [hl] at HL
  rw [hq] at HL
  have B9 := hide B
  obtain ⟨p0, p1, p2, p3, p4, p5, p6, p7, p8, p9, p10, p11⟩ := CmAt.of e2
  obtain ⟨f0, f1, f2, f3, f4, f5, f6, f7, f8, f9, f10, f11⟩ := CmFz.of e2
  have H2 := hide (fun c v => heap_cm e2 c v)
  clear h hl hq B B0 e2
  go_enter Try.func58, Try.ntmps58
  go_wp2_with fail
  refine HL.out.mono ?_
  rintro e w' ⟨rfl, rfl⟩
  clear HL
  generalize ((w.alloc (cmO cmZ (.slice none 0 0))).alloc (.cells #[.string ⟨#[110, 111, 114, 101, 112, 108, 121]⟩, .string ⟨#[48]⟩] 9)) = W at *
  go_wp2
  exact ret_cm rfl w.heap.size ⟨mk8 [102, 108, 117, 115, 104], ⟨#[]⟩, [], ⟨#[]⟩, 0, 0, 0, 0, false, false, false, q⟩ (.slice none 0 0) rfl (H2.out ⟨mk8 [102, 108, 117, 115, 104], ⟨#[]⟩, [], ⟨#[]⟩, 0, 0, 0, 0, false, false, false, q⟩ (.slice none 0 0)) rfl ⟨rfl, below_cm B9.out (by omega) ⟨mk8 [102, 108, 117, 115, 104], ⟨#[]⟩, [], ⟨#[]⟩, 0, 0, 0, 0, false, false, false, q⟩ (.slice none 0 0)⟩
theorem word_no (w : World) (a : Option Addr) (n cap : Nat) (hn : n ≠ 1) :
    Calls Try.prog 59 #[.slice a n cap] w fun e w' => e = .returned (cmV errC (.slice none 0 0)) ∧ Below w.heap.size w w' := by
  have B := (Below.refl w.heap.size w).alloc (Nat.le_refl _) (cmO cmZ (.slice none 0 0))
  have e2 : (w.alloc (cmO cmZ (.slice none 0 0))).heap[w.heap.size]? = some (cmO cmZ (.slice none 0 0)) := heap_alloc_new _ _
  go_enter Try.func59, Try.ntmps59
  go_wp2_with fail
  refine (bad_any _ _).mono ?_
  rintro e w' ⟨rfl, hb⟩
  replace B := B.trans (hb.mono B.size)
  replace e2 := (hb.block _ (by simp only [World.size_alloc]; omega)).trans e2
  clear hb
  obtain ⟨p0, p1, p2, p3, p4, p5, p6, p7, p8, p9, p10, p11⟩ := CmAt.of e2
  obtain ⟨f0, f1, f2, f3, f4, f5, f6, f7, f8, f9, f10, f11⟩ := CmFz.of e2
  have H2 := hide (fun c v => heap_cm e2 c v)
  clear e2
  go_wp2
  exact ret_cm rfl w.heap.size errC (.slice none 0 0) rfl (H2.out errC (.slice none 0 0)) rfl ⟨rfl, below_cm B (by omega) errC (.slice none 0 0)⟩
theorem word_ok (w : World) (g o n cap : Nat) (ws : List ByteArray) (h : RowT w (some ⟨g, o, none⟩) n ws) (hn : n = 1) (x0 : ByteArray) (hx0 : ws[0]? = some x0) :
    Calls Try.prog 59 #[.slice (some ⟨g, o, none⟩) n cap] w fun e w' => e = .returned (cmV ⟨mk8 [119, 111, 114, 100], x0, [], ⟨#[]⟩, 0, 0, 0, 0, false, false, false, false⟩ (.slice none 0 0)) ∧ Below w.heap.size w w' := by
  subst hn
  have B := (Below.refl w.heap.size w).alloc (Nat.le_refl _) (cmO cmZ (.slice none 0 0))
  have hc0 : (w.alloc (.cells #[.string ⟨#[]⟩, .string ⟨#[]⟩, .slice none 0 0, .string ⟨#[]⟩, .int .u32 0, .int .i64 0, .int .u64 0, .int .u64 0, .bool false, .bool false, .bool false, .bool false] 33)).cell? ⟨g, o, none⟩ = some (.string x0) := cell_later (g := g) (o := o) (by have := one_cell h 0 x0 hx0; rwa [Nat.add_zero] at this) ((Below.refl _ _).alloc (Nat.le_refl _) _)
  have hne : g ≠ w.heap.size := by have := (one_cell h 0 x0 hx0).1; omega
  clear h hx0
  go_enter Try.func59, Try.ntmps59
  go_wp2
  go_returns
  exact ⟨rfl, by go_grown⟩
end Go.Proofs.Ytmfjaehajdephab
