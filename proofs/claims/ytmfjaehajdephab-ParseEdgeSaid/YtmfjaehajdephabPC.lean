/-
  The program's store, none that may be the last.
-/
import Derived.Test.YtmfjaehajdephabJC
namespace Go.Proofs.Ytmfjaehajdephab
open Go.Shelf Go.RowKit Go.Deep
set_option linter.unusedVariables false
set_option linter.unusedSimpArgs false
set_option maxRecDepth 1000000

theorem store_no (w : World) (g o n cap : Nat) (ws : List ByteArray) (h : RowT w (some ⟨g, o, none⟩) n ws) (k : Nat) (hk : k ≤ 10) (hl : lastOk ws k false = false) :
    Calls Try.prog 36 #[.slice (some ⟨g, o, none⟩) n cap, .int .i64 (k : Int)] w fun e w' => e = .returned (.tuple #[cmV errC (.slice none 0 0), .int .i64 (-1)]) ∧ Below w.heap.size w w' := by
  have B0 := (Below.refl w.heap.size w).alloc (Nat.le_refl _) (cmO cmZ (.slice none 0 0))
  have B := B0.alloc (by simp only [World.size_alloc]; omega) (.cells #[.string ⟨#[110, 111, 114, 101, 112, 108, 121]⟩] 9)
  have e2 := (heap_at2 w (cmO cmZ (.slice none 0 0)) (.cells #[.string ⟨#[110, 111, 114, 101, 112, 108, 121]⟩] 9)).1
  have HL := hide (last_any _ _ n cap k _ 1 1 false ws (h.later B) hk (may_row (w.alloc (cmO cmZ (.slice none 0 0))) (w.heap.size + 1) (by simp only [World.size_alloc])))
  rw [hl] at HL
  generalize lastQ ws k false = q at HL
  clear h hl B0
  go_enter Try.func36, Try.ntmps36
  go_wp2_with fail
  refine HL.out.mono ?_
  rintro e w' ⟨rfl, rfl⟩
  clear HL
  go_wp2_with fail
  refine (bad_any _ _).mono ?_
  rintro e w' ⟨rfl, hb⟩
  replace B := B.trans (hb.mono B.size)
  replace e2 := (hb.block _ (by simp only [World.size_alloc]; omega)).trans e2
  clear hb
  obtain ⟨p0, p1, p2, p3, p4, p5, p6, p7, p8, p9, p10, p11⟩ := CmAt.of e2
  obtain ⟨f0, f1, f2, f3, f4, f5, f6, f7, f8, f9, f10, f11⟩ := CmFz.of e2
  have H2 := hide (fun c v => heap_cm e2 c v)
  clear e2
  go_wp2
  exact ret_cm2 rfl w.heap.size errC (.slice none 0 0) rfl (H2.out errC (.slice none 0 0)) rfl ⟨rfl, below_cm B (by omega) errC (.slice none 0 0)⟩
set_option maxHeartbeats 4000000 in
theorem store_n_4_form (w : World) (g o n cap : Nat) (ws : List ByteArray) (h : RowT w (some ⟨g, o, none⟩) n ws) (k : Nat) (hk : k ≤ 10) (hl : lastOk ws k false = true) (q : Bool) (hq : lastQ ws k false = q) (hn : 5 ≤ n) (x0 x1 x2 x3 x4 : ByteArray) (hx0 : ws[0]? = some x0) (hx1 : ws[1]? = some x1) (hx2 : ws[2]? = some x2) (hx3 : ws[3]? = some x3) (hx4 : ws[4]? = some x4)
    (k2 k4 : Nat) (k3 fl : Int) (hc : (x0.toList == [99, 97, 115]) = false)
    (H2 : ∀ W, Calls Try.prog 49 #[.string x2, .int .u64 4294967295] W fun e w' => e = .returned (.tuple #[.int .u64 (k2 : Int), .bool true]) ∧ Below W.heap.size W w') (H3 : ∀ W, Calls Try.prog 50 #[.string x3] W fun e w' => e = .returned (.tuple #[.int .i64 k3, .bool true]) ∧ Below W.heap.size W w')
    (H4 : ∀ W, Calls Try.prog 49 #[.string x4, .int .u64 2147483647] W fun e w' => e = .returned (.tuple #[.int .u64 (k4 : Int), .bool true]) ∧ Below W.heap.size W w')
    (hfl : IntKind.u32.wrap (k2 : Int) = fl) (r : Cm) (hr : chk (stC x0 x1 q fl k3 0) true (mk8 formT) = r) (hw : (r.what.toList == [115, 116, 111, 114, 101]) = false) :
    Calls Try.prog 36 #[.slice (some ⟨g, o, none⟩) n cap, .int .i64 (k : Int)] w fun e w' => OneR w r (-1) e w' := by
  have hf := h.at_.fits x1 (List.mem_of_getElem? hx1)
  have B0 := (Below.refl w.heap.size w).alloc (Nat.le_refl _) (cmO cmZ (.slice none 0 0))
  have B := B0.alloc (by simp only [World.size_alloc]; omega) (.cells #[.string ⟨#[110, 111, 114, 101, 112, 108, 121]⟩] 9)
  have HW := hide ((RgB.new w).later ((Below.refl _ _).alloc (Nat.le_refl _) (.cells #[.string ⟨#[110, 111, 114, 101, 112, 108, 121]⟩] 9)))
  have HL := hide (last_any _ _ n cap k _ 1 1 false ws (h.later B) hk (may_row (w.alloc (cmO cmZ (.slice none 0 0))) (w.heap.size + 1) (by simp only [World.size_alloc])))
  rw [hl, hq] at HL
  have HX0 := hide (one_cell h 0 x0 hx0)
  rw [Nat.add_zero] at HX0
  have HX1 := hide (one_cell h 1 x1 hx1)
  have HX2 := hide (one_cell h 2 x2 hx2)
  have HX3 := hide (one_cell h 3 x3 hx3)
  have HX4 := hide (one_cell h 4 x4 hx4)
  have hp0 : 0 < n := by omega
  have hi0 : (0 : Int) < (n : Int) := by omega
  have hp1 : 1 < n := by omega
  have hi1 : (1 : Int) < (n : Int) := by omega
  have hp2 : 2 < n := by omega
  have hi2 : (2 : Int) < (n : Int) := by omega
  have hp3 : 3 < n := by omega
  have hi3 : (3 : Int) < (n : Int) := by omega
  have hp4 : 4 < n := by omega
  have hi4 : (4 : Int) < (n : Int) := by omega
  have HF := hide hf
  have HFL := hide hfl
  have HRR := hide hr
  have A2 := hide H2
  have A3 := hide H3
  have A4 := hide H4
  clear h hx0 hx1 hx2 hx3 hx4  hr hl hq B B0 hf H2 H3 H4 hfl
  go_enter Try.func36, Try.ntmps36
  go_wp2_with fail
  refine HL.out.mono ?_
  rintro e w' ⟨rfl, rfl⟩
  clear HL
  generalize ((w.alloc (cmO cmZ (.slice none 0 0))).alloc (.cells #[.string ⟨#[110, 111, 114, 101, 112, 108, 121]⟩] 9)) = W1 at *
  go_wp2
  refine wp_region_par (by kernel_rfl) (by kernel_rfl) (fun jx => ([.slice (some ⟨g, o, none⟩) n cap, .pointer (some ⟨g, o, none⟩), .string x0, .slice (some ⟨g, o, none⟩) n cap, .pointer (some ⟨g, o + 1, none⟩), .string x1, undef, .bool q, undef, undef, undef] : List Value).getD jx undef) [6, 8, 9, 10] (fun z hz => by simp at hz; rcases hz with rfl | rfl | rfl | rfl <;> decide) (SrC w w.heap.size x0 x1 q) (SrC.new HW.out.drew) ?_ ?_
  · intro jx ox hi us w' ev hc hbef haft hin hout hold hcst hfn
    have hltx : jx < 11 := by
      have := (Array.getElem?_eq_some_iff.1 hi).1
      simpa using this
    match jx, hltx with
    | 0, _ =>
      simp only [List.getElem?_toArray, List.getElem?_cons_zero, List.getElem?_cons_succ, Option.some.injEq] at hi
      subst hi
      have ha10 : us 10 = none := haft 10 rfl (by kernel_rfl)
      have e0 : ev (.tmp 0) = .slice (some ⟨g, o, none⟩) n cap := hout 0 (by kernel_rfl) (show (0 : Nat) < 99 by decide)
      refine ⟨fun hno => absurd hno (by decide), fun _ => ?_⟩
      simp [execOp, e0, hcst, go_sem]
    | 1, _ =>
      simp only [List.getElem?_toArray, List.getElem?_cons_zero, List.getElem?_cons_succ, Option.some.injEq] at hi
      subst hi
      have ha10 : us 10 = none := haft 10 rfl (by kernel_rfl)
      have e0 : ev (.tmp 26) = .slice (some ⟨g, o, none⟩) n cap := hin 26 0 ⟨0, .data⟩ (by kernel_rfl) (by simp) rfl rfl (show (26 : Nat) < 99 by decide)
      refine ⟨fun hno => absurd hno (by decide), fun _ => ?_⟩
      simp [execOp, e0, hcst, go_sem, hp0, hi0]
    | 2, _ =>
      simp only [List.getElem?_toArray, List.getElem?_cons_zero, List.getElem?_cons_succ, Option.some.injEq] at hi
      subst hi
      have ha8 : us 8 = none := haft 8 rfl (by kernel_rfl)
      have ha10 : us 10 = none := haft 10 rfl (by kernel_rfl)
      have e0 : ev (.tmp 27) = .pointer (some ⟨g, o, none⟩) := hin 27 1 ⟨1, .data⟩ (by kernel_rfl) (by simp) rfl rfl (show (27 : Nat) < 99 by decide)
      refine ⟨fun hno => absurd hno (by decide), fun _ => ?_⟩
      have q2 := cell_later HX0.out hc.bel
      simp [execOp, e0, hcst, go_sem, q2]
    | 3, _ =>
      simp only [List.getElem?_toArray, List.getElem?_cons_zero, List.getElem?_cons_succ, Option.some.injEq] at hi
      subst hi
      have ha10 : us 10 = none := haft 10 rfl (by kernel_rfl)
      have e0 : ev (.tmp 0) = .slice (some ⟨g, o, none⟩) n cap := hout 0 (by kernel_rfl) (show (0 : Nat) < 99 by decide)
      refine ⟨fun hno => absurd hno (by decide), fun _ => ?_⟩
      simp [execOp, e0, hcst, go_sem]
    | 4, _ =>
      simp only [List.getElem?_toArray, List.getElem?_cons_zero, List.getElem?_cons_succ, Option.some.injEq] at hi
      subst hi
      have ha10 : us 10 = none := haft 10 rfl (by kernel_rfl)
      have e0 : ev (.tmp 29) = .slice (some ⟨g, o, none⟩) n cap := hin 29 3 ⟨3, .data⟩ (by kernel_rfl) (by simp) rfl rfl (show (29 : Nat) < 99 by decide)
      refine ⟨fun hno => absurd hno (by decide), fun _ => ?_⟩
      simp [execOp, e0, hcst, go_sem, hp1, hi1]
    | 5, _ =>
      simp only [List.getElem?_toArray, List.getElem?_cons_zero, List.getElem?_cons_succ, Option.some.injEq] at hi
      subst hi
      have ha6 : us 6 = none := haft 6 rfl (by kernel_rfl)
      have ha10 : us 10 = none := haft 10 rfl (by kernel_rfl)
      have e0 : ev (.tmp 30) = .pointer (some ⟨g, o + 1, none⟩) := hin 30 4 ⟨4, .data⟩ (by kernel_rfl) (by simp) rfl rfl (show (30 : Nat) < 99 by decide)
      refine ⟨fun hno => absurd hno (by decide), fun _ => ?_⟩
      have q2 := cell_later HX1.out hc.bel
      simp [execOp, e0, hcst, go_sem, q2]
    | 6, _ =>
      simp only [List.getElem?_toArray, List.getElem?_cons_zero, List.getElem?_cons_succ, Option.some.injEq] at hi
      subst hi
      have ha8 : us 8 = none := haft 8 rfl (by kernel_rfl)
      have ha10 : us 10 = none := haft 10 rfl (by kernel_rfl)
      have e0 : ev (.tmp 31) = .string x1 := hin 31 5 ⟨5, .data⟩ (by kernel_rfl) (by simp) rfl rfl (show (31 : Nat) < 99 by decide)
      refine ⟨fun _ hz => ?_, fun hno => absurd hno (by decide)⟩
      obtain ⟨q3, q4⟩ := SrC.s6 hc ha8 ha10 HF.out
      refine .inl (.inl ⟨sl1 w'.heap.size, _, ?_, q4⟩)
      simp [execOp, e0, hcst, q3]
    | 7, _ =>
      simp only [List.getElem?_toArray, List.getElem?_cons_zero, List.getElem?_cons_succ, Option.some.injEq] at hi
      subst hi
      have ha8 : us 8 = none := haft 8 rfl (by kernel_rfl)
      have ha10 : us 10 = none := haft 10 rfl (by kernel_rfl)
      have e0 : ev (.tmp 6) = .bool q := hout 6 (by kernel_rfl) (show (6 : Nat) < 99 by decide)
      refine ⟨fun hno => absurd hno (by decide), fun _ => ?_⟩
      simp [execOp, e0, hcst, go_sem]
    | 8, _ =>
      simp only [List.getElem?_toArray, List.getElem?_cons_zero, List.getElem?_cons_succ, Option.some.injEq] at hi
      subst hi
      have hb6 : (us 6).isSome = true := hbef 6 rfl (by kernel_rfl)
      have ha10 : us 10 = none := haft 10 rfl (by kernel_rfl)
      have e0 : ev (.tmp 28) = .string x0 := hin 28 2 ⟨2, .data⟩ (by kernel_rfl) (by simp) rfl rfl (show (28 : Nat) < 99 by decide)
      have e1 : ev (.tmp 32) = (us 6).getD undef := hin 32 6 ⟨6, .data⟩ (by kernel_rfl) (by simp) rfl rfl (show (32 : Nat) < 99 by decide)
      have e2 : ev (.tmp 33) = .bool q := hin 33 7 ⟨7, .data⟩ (by kernel_rfl) (by simp) rfl rfl (show (33 : Nat) < 99 by decide)
      refine ⟨fun _ hz => ?_, fun hno => absurd hno (by decide)⟩
      obtain ⟨u6, hu6⟩ := Option.isSome_iff_exists.1 hb6
      obtain ⟨N, q3, q4⟩ := SrC.s8 hc hu6 ha10
      rw [hu6, Option.getD_some, q3] at e1
      refine .inl (.inl ⟨_, _, ?_, q4⟩)
      simp [execOp, e0, e1, e2, hcst, go_sem, sl1]
    | 9, _ =>
      simp only [List.getElem?_toArray, List.getElem?_cons_zero, List.getElem?_cons_succ, Option.some.injEq] at hi
      subst hi
      have ha10 : us 10 = none := haft 10 rfl (by kernel_rfl)
      refine ⟨fun _ hz => ?_, fun hno => absurd hno (by decide)⟩
      refine .inl (.inl ⟨_, _, ?_, SrC.s9 hc ha10⟩)
      simp [execOp, hcst, go_sem, cmZ]
    | 10, _ =>
      simp only [List.getElem?_toArray, List.getElem?_cons_zero, List.getElem?_cons_succ, Option.some.injEq] at hi
      subst hi
      have hb6 : (us 6).isSome = true := hbef 6 rfl (by kernel_rfl)
      have hb8 : (us 8).isSome = true := hbef 8 rfl (by kernel_rfl)
      have hb9 : (us 9).isSome = true := hbef 9 rfl (by kernel_rfl)
      have e0 : ev (.tmp 8) = (us 9).getD undef := hin 8 9 ⟨9, .data⟩ (by kernel_rfl) (by simp) rfl rfl (show (8 : Nat) < 99 by decide)
      have e1 : ev (.tmp 34) = (us 8).getD undef := hin 34 8 ⟨8, .data⟩ (by kernel_rfl) (by simp) rfl rfl (show (34 : Nat) < 99 by decide)
      refine ⟨fun _ hz => ?_, fun hno => absurd hno (by decide)⟩
      obtain ⟨u8, hu8⟩ := Option.isSome_iff_exists.1 hb8
      obtain ⟨u9, hu9⟩ := Option.isSome_iff_exists.1 hb9
      obtain ⟨b8, W', q3, q4, q5⟩ := SrC.s10 hc hu8 hu9 hz
      rw [hu8, Option.getD_some] at e1
      rw [hu9, Option.getD_some, q3] at e0
      refine .inr ⟨W', ?_, q5⟩
      simp only [execOp, e0, e1, Instr.storeAt, Instr.sureAddr, Sem.run_bind, Sem.run_pure, Result.andThen_ok, q4]
  · intro us w7 hus hc
    obtain ⟨z6, z8, z10, N, b8, d6, d8, d9, d10, l8, n8, hrow, e8⟩ := SrC.done hc hus
    rw [lexF_same (V' := fun jx => ([.slice (some ⟨g, o, none⟩) n cap, .pointer (some ⟨g, o, none⟩), .string x0, .slice (some ⟨g, o, none⟩) n cap, .pointer (some ⟨g, o + 1, none⟩), .string x1, z6, .bool q, z8, (.pointer (some ⟨b8, 0, none⟩)), z10] : List Value).getD jx undef) _ 0 _ (fun jx _ hj => by
      have hlt : jx < 11 := by simpa using hj
      match jx, hlt with
      | 0, _ => rfl
      | 1, _ => rfl
      | 2, _ => rfl
      | 3, _ => rfl
      | 4, _ => rfl
      | 5, _ => rfl
      | 6, _ => exact (by unfold parV; rw [if_pos (by decide), d6]; rfl)
      | 7, _ => rfl
      | 8, _ => exact (by unfold parV; rw [if_pos (by decide), d8]; rfl)
      | 9, _ => exact (by unfold parV; rw [if_pos (by decide), d9]; rfl)
      | 10, _ => exact (by unfold parV; rw [if_pos (by decide), d10]; rfl)
      | jy + 11, hy => exact absurd hy (by omega))]
    simp only [lexF, Act.put, List.setIfInBounds_toArray, List.set_cons_succ, List.set_cons_zero, List.getD_cons_succ, List.getD_cons_zero]
    obtain ⟨HB1, HB2, HB3⟩ : Hid (RgB w w.heap.size w7) ∧ Hid (RowT w7 (some ⟨N, 0, none⟩) 1 [x1]) ∧ Hid (w7.heap[b8]? = some (cmO (stC x0 x1 q 0 0 0) (sl1 N))) := ⟨hc.rb, hrow, e8⟩
    clear hc hrow e8 d6 d8 d9 d10 hus HW
    have g2 : w7.cell? ⟨g, o + 2, none⟩ = some (.string x2) := cell_later HX2.out HB1.out.bel
    go_wp2_with fail
    refine (A2.out _).mono ?_
    rintro e v2 ⟨rfl, hb⟩
    replace HB1 := hide (HB1.out.later hb)
    replace HB2 := hide (HB2.out.later hb)
    replace HB3 := hide ((hb.block b8 (lt_of_at b8 ⟨_, HB3.out⟩)).trans HB3.out)
    clear hb g2
    have g3 : v2.cell? ⟨g, o + 3, none⟩ = some (.string x3) := cell_later HX3.out HB1.out.bel
    go_wp2_with fail
    refine (A3.out _).mono ?_
    rintro e v3 ⟨rfl, hb⟩
    replace HB1 := hide (HB1.out.later hb)
    replace HB2 := hide (HB2.out.later hb)
    replace HB3 := hide ((hb.block b8 (lt_of_at b8 ⟨_, HB3.out⟩)).trans HB3.out)
    clear hb g3
    have g4 : v3.cell? ⟨g, o + 4, none⟩ = some (.string x4) := cell_later HX4.out HB1.out.bel
    go_wp2_with fail
    refine (A4.out _).mono ?_
    rintro e v4 ⟨rfl, hb⟩
    replace HB1 := hide (HB1.out.later hb)
    replace HB2 := hide (HB2.out.later hb)
    replace HB3 := hide ((hb.block b8 (lt_of_at b8 ⟨_, HB3.out⟩)).trans HB3.out)
    clear hb g4
    have g0 : v4.cell? ⟨g, o, none⟩ = some (.string x0) := cell_later HX0.out HB1.out.bel
    obtain ⟨p0, p1, p2, p3, p4, p5, p6, p7, p8, p9, p10, p11⟩ := CmAt.of HB3.out
    obtain ⟨f0, f1, f2', f3', f4', f5', f6, f7, f8, f9, f10, f11⟩ := CmFz.of HB3.out
    have hfl := HFL.out
    have HC3 : Hid (((v4.setCell ⟨b8, 4, none⟩ (.int .u32 fl)).setCell ⟨b8, 5, none⟩ (.int .i64 k3)).heap[b8]? = some (cmO (stC x0 x1 q fl k3 0) (sl1 N))) := st_fields0 v4 b8 x0 x1 q fl k3 (sl1 N) HB3.out
    have HK3 : Hid (Keep [b8] v4 ((v4.setCell ⟨b8, 4, none⟩ (.int .u32 fl)).setCell ⟨b8, 5, none⟩ (.int .i64 k3))) := st_keep0 v4 b8 fl k3
    go_wp2_with fail
    generalize ((v4.setCell ⟨b8, 4, none⟩ (.int .u32 fl)).setCell ⟨b8, 5, none⟩ (.int .i64 k3)) = X at *
    have HB2x := HB2.out.keepF (F := [b8]) (row_off HB2.out HB3.out) HK3.out
    have HB1x : RgB w w.heap.size X := ⟨HB1.out.bel.trans (HK3.out.below (by simp; omega) HB1.out.bel.size), HB1.out.lo, (HK3.out.block _ (lt_of_at _ ⟨_, HB1.out.blk⟩) (by simp; omega)).trans HB1.out.blk⟩
    refine (checked_is (stC x0 x1 q fl k3 0) r (some ⟨N, 0, none⟩) 1 1 true (mk8 formT) X HRR.out HB2x (Nat.zero_le _)).mono ?_
    rintro e Y ⟨a', n', c', rfl, hrow, hb⟩
    have e8 := (hb.block b8 (lt_of_at b8 ⟨_, HC3.out⟩)).trans HC3.out
    have HY := HB1x.later hb
    clear p0 p1 p2 p3 p4 p5 p6 p7 p8 p9 p10 p11 f0 f1 f2' f3' f4' f5' f6 f7 f8 f9 f10 f11 hfl hb
    have HZ : Two_st w Y b8 r a' n' c' := Two_st.mk' HY e8 l8 n8 hrow
    have HTh := there_cm e8
    clear e8 HY hrow HB1 HB2 HB3 HB1x HB2x HC3 HK3
    simp only []
    go_step
    refine store_step (r := r) (a := a') (n := n') (c := c') rfl _ _ rfl b8 rfl rfl HTh ?_
    have H1 := HZ.one
    generalize Y.setCells b8 0 (cmL r (.slice a' n' c')) = Y1 at *
    obtain ⟨p0, p1, p2, p3, p4, p5, p6, p7, p8, p9, p10, p11⟩ := CmAt.of H1.e8
    have HO := hide H1
    obtain ⟨q0, q1, q2, q3, q4, q5, q6, q7, q8, q9, q10, q11⟩ := CmAt.of H1.rb.blk
    obtain ⟨j0, j1, j2, j3, j4, j5, j6, j7, j8, j9, j10, j11⟩ := CmFz.of H1.rb.blk
    clear H1 HZ HTh
    go_wp2
    rw [set12]
    exact ret_cm2 rfl w.heap.size r (.slice a' n' c') rfl HO.out.done.2.1 rfl (OneR.mk' a' n' c' HO.out.done.1 HO.out.done.2.2)
end Go.Proofs.Ytmfjaehajdephab
