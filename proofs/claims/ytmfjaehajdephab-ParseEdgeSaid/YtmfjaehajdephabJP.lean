/- Texts joined. -/
import Derived.Test.YtmfjaehajdephabP5
/-
  The program's gat.
-/
namespace Go.Proofs.Ytmfjaehajdephab
open Go.Shelf Go.RowKit Go.Deep
set_option linter.unusedVariables false
set_option linter.unusedSimpArgs false
set_option maxRecDepth 1000000

theorem gat_few (w : World) (a : Option Addr) (n cap : Nat) (hn : n < 3) :
    Calls Try.prog 54 #[.slice a n cap] w fun e w' => e = .returned (cmV errC (.slice none 0 0)) ∧ Below w.heap.size w w' := by
  have B := (Below.refl w.heap.size w).alloc (Nat.le_refl _) (cmO cmZ (.slice none 0 0))
  have e2 : (w.alloc (cmO cmZ (.slice none 0 0))).heap[w.heap.size]? = some (cmO cmZ (.slice none 0 0)) := heap_alloc_new _ _
  go_enter Try.func54, Try.ntmps54
  go_wp2_with fail
  refine (bad_any _ _).mono ?_
  rintro e w' ⟨rfl, hb⟩
  replace B := B.trans (hb.mono B.size)
  replace e2 := (hb.block _ (by simp only [World.size_alloc]; omega)).trans e2
  clear hb
  obtain ⟨p0, p1, p2, p3, p4, p5, p6, p7, p8, p9, p10, p11⟩ := CmAt.of e2
  obtain ⟨f0, f1, f2, f3, f4, f5, f6, f7, f8, f9, f10, f11⟩ := CmFz.of e2
  have H2 := hide (fun c v => heap_cm e2 c v)
  clear e2
  go_wp2
  exact ret_cm rfl w.heap.size errC (.slice none 0 0) rfl (H2.out errC (.slice none 0 0)) rfl ⟨rfl, below_cm B (by omega) errC (.slice none 0 0)⟩
set_option maxHeartbeats 1000000 in
theorem gat_ok (w : World) (g o n cap : Nat) (ws : List ByteArray) (h : RowT w (some ⟨g, o, none⟩) n ws) (hn : 3 ≤ n) (hcap : n ≤ cap) (x0 : ByteArray) (hx0 : ws[0]? = some x0) (q : Bool) (hq : isW x0 w_gats = q) (x1 : ByteArray) (hx1 : ws[1]? = some x1) (k1 : Int) (b1 : Bool) (hk : sgnV x1.data.toList = k1) (hb : sgnOk x1.data.toList = b1) (r : Cm) (hr : chk ⟨mk8 w_get, ⟨#[]⟩, ws.drop 2, ⟨#[]⟩, 0, k1, 0, 0, q, true, false, false⟩ b1 (mk8 timeT) = r) :
    Calls Try.prog 54 #[.slice (some ⟨g, o, none⟩) n cap] w fun e w' => ∃ a' n' c', e = .returned (cmV r (.slice a' n' c')) ∧ RowT w' a' n' r.keys ∧ Below w.heap.size w w' := by
  obtain ⟨a1, c1, hs1, ha1⟩ := run_tailS (some ⟨g, o, none⟩) n cap 2 g o rfl (by omega) hcap
  have HR := hide (h.tail 2 (by omega))
  rw [← ha1] at HR
  have HX0 := hide (one_cell h 0 x0 hx0)
  rw [Nat.add_zero] at HX0
  have hc1 : (w.alloc (.cells #[.string ⟨#[]⟩, .string ⟨#[]⟩, .slice none 0 0, .string ⟨#[]⟩, .int .u32 0, .int .i64 0, .int .u64 0, .int .u64 0, .bool false, .bool false, .bool false, .bool false] 33)).cell? ⟨g, o + 1, none⟩ = some (.string x1) := cell_later (one_cell h 1 x1 hx1) ((Below.refl _ _).alloc (Nat.le_refl _) _)
  have hp0 : 0 < n := by omega
  have hp1 : (0 : Int) < (n : Int) := by omega
  have hp2 : 1 < n := by omega
  have hE : (x0.toList == [103, 97, 116, 115]) = q := hq
  obtain ⟨n1, hn1⟩ : ∃ n1, n1 = n - 2 := ⟨_, rfl⟩
  rw [← hn1] at hs1 HR
  have HS1 : Hid (∀ X, (Instr.sliceAt 28 (.slice (some ⟨g, o, none⟩) n cap) (some (.int .i64 2)) none none).run Try.prog X = .ok (.slice a1 n1 c1) X) := hs1
  have HW := hide (RgB.new w)
  have HS := hide (fun W => signed_any x1 W)
  rw [hk, hb] at HS
  have HCL : Hid (∀ W, CI1 w w.heap.size r [] W → Calls Try.prog 52 #[.agg #[.string ⟨#[103, 101, 116]⟩, .string ⟨#[]⟩, .slice a1 n1 c1, .string ⟨#[]⟩, .int .u32 0, .int .i64 k1, .int .u64 0, .int .u64 0, .bool q, .bool true, .bool false, .bool false], .bool b1, .string ⟨#[67, 76, 73, 69, 78, 84, 95, 69, 82, 82, 79, 82, 32, 105, 110, 118, 97, 108, 105, 100, 32, 101, 120, 112, 116, 105, 109, 101, 32, 97, 114, 103, 117, 109, 101, 110, 116]⟩] W fun e w2 => ∃ v, e = .returned v ∧ CI1 w w.heap.size r ([] ++ [v]) w2) := fun W hc =>
    call_isCm hc (checked_is ⟨mk8 w_get, ⟨#[]⟩, ws.drop 2, ⟨#[]⟩, 0, k1, 0, 0, q, true, false, false⟩ r a1 n1 c1 b1 (mk8 timeT) W hr (RgB.row hc HR.out) (Nat.zero_le _))
  clear hn1 ha1 h hx0 hx1 hq HR hs1 hr hk hb
  go_enter Try.func54, Try.ntmps54
  go_wp2_with fail
  refine (HS.out _).mono ?_
  rintro e W1 ⟨rfl, hb⟩
  have HW1 := hide (HW.out.later hb)
  clear hb hc1 HW HS
  go_wp2
  refine wp_region_liy (by kernel_rfl) (by kernel_rfl) (fun jx => ([.slice (some ⟨g, o, none⟩) n cap, .slice a1 n1 c1, .slice (some ⟨g, o, none⟩) n cap, .pointer (some ⟨g, o, none⟩), .string x0, .bool q, .int .i64 k1, .agg #[.string ⟨#[103, 101, 116]⟩, .string ⟨#[]⟩, .slice a1 n1 c1, .string ⟨#[]⟩, .int .u32 0, .int .i64 k1, .int .u64 0, .int .u64 0, .bool q, .bool true, .bool false, .bool false], .bool b1, undef, undef] : List Value).getD jx undef) [9, 10] (by kernel_rfl) (by decide) (by decide) (CI1 w w.heap.size r) (HW1.out.drew) ?_ ?_
  · intro jx ox hi us w' ev hc hul hbef haft hin hout hold hcst hfn
    have hltx : jx < 11 := by
      have := (Array.getElem?_eq_some_iff.1 hi).1
      simpa using this
    match jx, hltx with
    | 0, _ =>
      simp only [List.getElem?_toArray, List.getElem?_cons_zero, List.getElem?_cons_succ, Option.some.injEq] at hi
      subst hi
      have ha1 : us.length ≤ 1 := haft 1 10 rfl (by kernel_rfl)
      have e0 : ev (.tmp 0) = .slice (some ⟨g, o, none⟩) n cap := hout 0 (by kernel_rfl) (show (0 : Nat) < 26 by decide)
      refine ⟨fun mx hmx => absurd hmx (by simp [zpos]), fun _ => ?_⟩
      simp [execOp, e0, hcst, go_sem]
    | 1, _ =>
      simp only [List.getElem?_toArray, List.getElem?_cons_zero, List.getElem?_cons_succ, Option.some.injEq] at hi
      subst hi
      have ha1 : us.length ≤ 1 := haft 1 10 rfl (by kernel_rfl)
      have e0 : ev (.tmp 16) = .slice (some ⟨g, o, none⟩) n cap := hin 16 0 ⟨0, .data⟩ (by kernel_rfl) (by simp) rfl rfl (show (16 : Nat) < 26 by decide)
      refine ⟨fun mx hmx => absurd hmx (by simp [zpos]), fun _ => ?_⟩
      have q1 := HS1.out w'
      simp [execOp, e0, hcst, go_sem, q1]
    | 2, _ =>
      simp only [List.getElem?_toArray, List.getElem?_cons_zero, List.getElem?_cons_succ, Option.some.injEq] at hi
      subst hi
      have ha1 : us.length ≤ 1 := haft 1 10 rfl (by kernel_rfl)
      have e0 : ev (.tmp 0) = .slice (some ⟨g, o, none⟩) n cap := hout 0 (by kernel_rfl) (show (0 : Nat) < 26 by decide)
      refine ⟨fun mx hmx => absurd hmx (by simp [zpos]), fun _ => ?_⟩
      simp [execOp, e0, hcst, go_sem]
    | 3, _ =>
      simp only [List.getElem?_toArray, List.getElem?_cons_zero, List.getElem?_cons_succ, Option.some.injEq] at hi
      subst hi
      have ha1 : us.length ≤ 1 := haft 1 10 rfl (by kernel_rfl)
      have e0 : ev (.tmp 18) = .slice (some ⟨g, o, none⟩) n cap := hin 18 2 ⟨2, .data⟩ (by kernel_rfl) (by simp) rfl rfl (show (18 : Nat) < 26 by decide)
      refine ⟨fun mx hmx => absurd hmx (by simp [zpos]), fun _ => ?_⟩
      simp [execOp, e0, hcst, go_sem, hp0, hp1]
    | 4, _ =>
      simp only [List.getElem?_toArray, List.getElem?_cons_zero, List.getElem?_cons_succ, Option.some.injEq] at hi
      subst hi
      have ha1 : us.length ≤ 1 := haft 1 10 rfl (by kernel_rfl)
      have e0 : ev (.tmp 19) = .pointer (some ⟨g, o, none⟩) := hin 19 3 ⟨3, .data⟩ (by kernel_rfl) (by simp) rfl rfl (show (19 : Nat) < 26 by decide)
      refine ⟨fun mx hmx => absurd hmx (by simp [zpos]), fun _ => ?_⟩
      have q2 := cell_later HX0.out hc.bel
      simp [execOp, e0, hcst, go_sem, q2]
    | 5, _ =>
      simp only [List.getElem?_toArray, List.getElem?_cons_zero, List.getElem?_cons_succ, Option.some.injEq] at hi
      subst hi
      have ha1 : us.length ≤ 1 := haft 1 10 rfl (by kernel_rfl)
      have e0 : ev (.tmp 20) = .string x0 := hin 20 4 ⟨4, .data⟩ (by kernel_rfl) (by simp) rfl rfl (show (20 : Nat) < 26 by decide)
      refine ⟨fun mx hmx => absurd hmx (by simp [zpos]), fun _ => ?_⟩
      simp [execOp, e0, hcst, go_sem, hE]
    | 6, _ =>
      simp only [List.getElem?_toArray, List.getElem?_cons_zero, List.getElem?_cons_succ, Option.some.injEq] at hi
      subst hi
      have ha1 : us.length ≤ 1 := haft 1 10 rfl (by kernel_rfl)
      have e0 : ev (.tmp 3) = .int .i64 k1 := hout 3 (by kernel_rfl) (show (3 : Nat) < 26 by decide)
      refine ⟨fun mx hmx => absurd hmx (by simp [zpos]), fun _ => ?_⟩
      simp [execOp, e0, hcst, go_sem]
    | 7, _ =>
      simp only [List.getElem?_toArray, List.getElem?_cons_zero, List.getElem?_cons_succ, Option.some.injEq] at hi
      subst hi
      have ha0 : us.length ≤ 0 := haft 0 9 rfl (by kernel_rfl)
      have ha1 : us.length ≤ 1 := haft 1 10 rfl (by kernel_rfl)
      have e0 : ev (.tmp 17) = .slice a1 n1 c1 := hin 17 1 ⟨1, .data⟩ (by kernel_rfl) (by simp) rfl rfl (show (17 : Nat) < 26 by decide)
      have e1 : ev (.tmp 21) = .bool q := hin 21 5 ⟨5, .data⟩ (by kernel_rfl) (by simp) rfl rfl (show (21 : Nat) < 26 by decide)
      have e2 : ev (.tmp 22) = .int .i64 k1 := hin 22 6 ⟨6, .data⟩ (by kernel_rfl) (by simp) rfl rfl (show (22 : Nat) < 26 by decide)
      refine ⟨fun mx hmx => absurd hmx (by simp [zpos]), fun _ => ?_⟩
      simp [execOp, e0, e1, e2, hcst, go_sem]
    | 8, _ =>
      simp only [List.getElem?_toArray, List.getElem?_cons_zero, List.getElem?_cons_succ, Option.some.injEq] at hi
      subst hi
      have ha0 : us.length ≤ 0 := haft 0 9 rfl (by kernel_rfl)
      have ha1 : us.length ≤ 1 := haft 1 10 rfl (by kernel_rfl)
      have e0 : ev (.tmp 4) = .bool b1 := hout 4 (by kernel_rfl) (show (4 : Nat) < 26 by decide)
      refine ⟨fun mx hmx => absurd hmx (by simp [zpos]), fun _ => ?_⟩
      simp [execOp, e0, hcst, go_sem]
    | 9, _ =>
      simp only [List.getElem?_toArray, List.getElem?_cons_zero, List.getElem?_cons_succ, Option.some.injEq] at hi
      subst hi
      have ha1 : us.length ≤ 1 := haft 1 10 rfl (by kernel_rfl)
      have e0 : ev (.tmp 23) = .agg #[.string ⟨#[103, 101, 116]⟩, .string ⟨#[]⟩, .slice a1 n1 c1, .string ⟨#[]⟩, .int .u32 0, .int .i64 k1, .int .u64 0, .int .u64 0, .bool q, .bool true, .bool false, .bool false] := hin 23 7 ⟨7, .data⟩ (by kernel_rfl) (by simp) rfl rfl (show (23 : Nat) < 26 by decide)
      have e1 : ev (.tmp 24) = .bool b1 := hin 24 8 ⟨8, .data⟩ (by kernel_rfl) (by simp) rfl rfl (show (24 : Nat) < 26 by decide)
      refine ⟨fun mx hmx hus => ?_, fun hno => absurd hno (by decide)⟩
      obtain rfl : 0 = mx := Option.some.inj hmx
      have h0 : us = [] := List.eq_nil_of_length_eq_zero hus
      subst h0
      refine .inl (.inr ⟨52, #[.agg #[.string ⟨#[103, 101, 116]⟩, .string ⟨#[]⟩, .slice a1 n1 c1, .string ⟨#[]⟩, .int .u32 0, .int .i64 k1, .int .u64 0, .int .u64 0, .bool q, .bool true, .bool false, .bool false], .bool b1, .string ⟨#[67, 76, 73, 69, 78, 84, 95, 69, 82, 82, 79, 82, 32, 105, 110, 118, 97, 108, 105, 100, 32, 101, 120, 112, 116, 105, 109, 101, 32, 97, 114, 103, 117, 109, 101, 110, 116]⟩], ?_, HCL.out w' hc⟩)
      have ef := hfn 52
      simp [execOp, resolve, invoke, ef, hcst, e0, e1, Result.andThen]
      exact enter54 _ _
    | 10, _ =>
      simp only [List.getElem?_toArray, List.getElem?_cons_zero, List.getElem?_cons_succ, Option.some.injEq] at hi
      subst hi
      have hb0 : 0 < us.length := hbef 0 9 rfl (by kernel_rfl)
      have e0 : ev (.tmp 2) = .pointer (some ⟨w.heap.size, 0, none⟩) := hout 2 (by kernel_rfl) (show (2 : Nat) < 26 by decide)
      have e1 : ev (.tmp 25) = us.getD 0 undef := hin 25 9 ⟨9, .data⟩ (by kernel_rfl) (by simp) rfl rfl (show (25 : Nat) < 26 by decide)
      refine ⟨fun mx hmx hus => ?_, fun hno => absurd hno (by decide)⟩
      obtain rfl : 1 = mx := Option.some.inj hmx
      obtain ⟨u, rfl⟩ := List.length_eq_one_iff.1 hus
      obtain ⟨w3, hr, hD⟩ := RgB.store hc.1 hc.2
      simp only [List.getD_cons_zero] at e1
      refine .inr ⟨w3, ?_, hD⟩
      simp only [execOp, e0, e1, Instr.storeAt, Instr.sureAddr, Sem.run_bind, Sem.run_pure, Result.andThen_ok, hr]
  · intro us w7 husl hc
    obtain ⟨u, v, rfl, hD⟩ := CI1.done hc husl
    rw [lexF_same (V' := fun jx => ([.slice (some ⟨g, o, none⟩) n cap, .slice a1 n1 c1, .slice (some ⟨g, o, none⟩) n cap, .pointer (some ⟨g, o, none⟩), .string x0, .bool q, .int .i64 k1, .agg #[.string ⟨#[103, 101, 116]⟩, .string ⟨#[]⟩, .slice a1 n1 c1, .string ⟨#[]⟩, .int .u32 0, .int .i64 k1, .int .u64 0, .int .u64 0, .bool q, .bool true, .bool false, .bool false], .bool b1, u, v] : List Value).getD jx undef) _ 0 _ (fun jx _ hj => by
      have hlt : jx < 11 := by simpa using hj
      match jx, hlt with
      | 0, _ => rfl
      | 1, _ => rfl
      | 2, _ => rfl
      | 3, _ => rfl
      | 4, _ => rfl
      | 5, _ => rfl
      | 6, _ => rfl
      | 7, _ => rfl
      | 8, _ => rfl
      | 9, _ => rfl
      | 10, _ => rfl)]
    simp only [lexF, Act.put, List.setIfInBounds_toArray, List.set_cons_succ, List.set_cons_zero, List.getD_cons_succ, List.getD_cons_zero]
    have HD := hide hD
    clear hD hc
    go_wp2
    exact ret_rgd rfl w.heap.size r HD.out rfl rfl (fun a n c h1 h2 => ⟨a, n, c, rfl, h1, h2⟩)
end Go.Proofs.Ytmfjaehajdephab

/-
  The program's arith.
-/
namespace Go.Proofs.Ytmfjaehajdephab
open Go.Shelf Go.RowKit Go.Deep
set_option linter.unusedVariables false
set_option linter.unusedSimpArgs false
set_option maxRecDepth 1000000

theorem arith_no (w : World) (g o n cap : Nat) (ws : List ByteArray) (h : RowT w (some ⟨g, o, none⟩) n ws) (hl : lastOk ws 3 false = false) :
    Calls Try.prog 55 #[.slice (some ⟨g, o, none⟩) n cap] w fun e w' => e = .returned (cmV errC (.slice none 0 0)) ∧ Below w.heap.size w w' := by
  have B0 := (Below.refl w.heap.size w).alloc (Nat.le_refl _) (cmO cmZ (.slice none 0 0))
  have B := B0.alloc (by simp only [World.size_alloc]; omega) (.cells #[.string ⟨#[110, 111, 114, 101, 112, 108, 121]⟩] 9)
  have e2 := (heap_at2 w (cmO cmZ (.slice none 0 0)) (.cells #[.string ⟨#[110, 111, 114, 101, 112, 108, 121]⟩] 9)).1
  have HL := hide (last_any _ _ n cap 3 _ 1 1 false ws (h.later B) (by omega) (may_row (w.alloc (cmO cmZ (.slice none 0 0))) (w.heap.size + 1) (by simp only [World.size_alloc])))
  rw [hl] at HL
  generalize lastQ ws 3 false = q at HL
  clear h hl B0
  go_enter Try.func55, Try.ntmps55
  go_wp2_with fail
  refine HL.out.mono ?_
  rintro e w' ⟨rfl, rfl⟩
  clear HL
  go_wp2_with fail
  refine (bad_any _ _).mono ?_
  rintro e w' ⟨rfl, hb⟩
  replace B := B.trans (hb.mono B.size)
  replace e2 := (hb.block _ (by simp only [World.size_alloc]; omega)).trans e2
  clear hb
  obtain ⟨p0, p1, p2, p3, p4, p5, p6, p7, p8, p9, p10, p11⟩ := CmAt.of e2
  obtain ⟨f0, f1, f2, f3, f4, f5, f6, f7, f8, f9, f10, f11⟩ := CmFz.of e2
  have H2 := hide (fun c v => heap_cm e2 c v)
  clear e2
  go_wp2
  exact ret_cm rfl w.heap.size errC (.slice none 0 0) rfl (H2.out errC (.slice none 0 0)) rfl ⟨rfl, below_cm B (by omega) errC (.slice none 0 0)⟩
set_option maxHeartbeats 1000000 in
theorem arith_ok (w : World) (g o n cap : Nat) (ws : List ByteArray) (h : RowT w (some ⟨g, o, none⟩) n ws) (hl : lastOk ws 3 false = true) (q : Bool) (hq : lastQ ws 3 false = q) (hn : 3 ≤ n) (x0 : ByteArray) (hx0 : ws[0]? = some x0) (d : Bool) (hd : isW x0 w_decr = d) (x1 : ByteArray) (hx1 : ws[1]? = some x1) (x2 : ByteArray) (hx2 : ws[2]? = some x2) (k2 : Nat) (b2 : Bool) (hk : numV x2.data.toList = k2) (hb : numOk x2.data.toList = b2) (r : Cm) (hr : chk ⟨mk8 [97, 114, 105, 116, 104], ⟨#[]⟩, [x1], ⟨#[]⟩, 0, 0, 0, k2, false, false, d, q⟩ b2 (mk8 deltaT) = r) :
    Calls Try.prog 55 #[.slice (some ⟨g, o, none⟩) n cap] w fun e w' => ∃ a' n' c', e = .returned (cmV r (.slice a' n' c')) ∧ RowT w' a' n' r.keys ∧ Below w.heap.size w w' := by
  have hf := h.at_.fits x1 (List.mem_of_getElem? hx1)
  have B0 := (Below.refl w.heap.size w).alloc (Nat.le_refl _) (cmO cmZ (.slice none 0 0))
  have B := B0.alloc (by simp only [World.size_alloc]; omega) (.cells #[.string ⟨#[110, 111, 114, 101, 112, 108, 121]⟩] 9)
  have HW := hide ((RgB.new w).later ((Below.refl _ _).alloc (Nat.le_refl _) (.cells #[.string ⟨#[110, 111, 114, 101, 112, 108, 121]⟩] 9)))
  have HL := hide (last_any _ _ n cap 3 _ 1 1 false ws (h.later B) (by omega) (may_row (w.alloc (cmO cmZ (.slice none 0 0))) (w.heap.size + 1) (by simp only [World.size_alloc])))
  rw [hl, hq] at HL
  have HX0 := hide (one_cell h 0 x0 hx0)
  rw [Nat.add_zero] at HX0
  have HX1 := hide (one_cell h 1 x1 hx1)
  have hc2 : ((w.alloc (cmO cmZ (.slice none 0 0))).alloc (.cells #[.string ⟨#[110, 111, 114, 101, 112, 108, 121]⟩] 9)).cell? ⟨g, o + 2, none⟩ = some (.string x2) := cell_later (one_cell h 2 x2 hx2) B
  have hp0 : 0 < n := by omega
  have hp1 : 1 < n := by omega
  have hp2 : 2 < n := by omega
  have hi1 : (1 : Int) < (n : Int) := by omega
  have hi0 : (0 : Int) < (n : Int) := by omega
  have hE : (x0.toList == [100, 101, 99, 114]) = d := hd
  have HS := hide (fun W => number_any x2 W)
  rw [hk, hb] at HS
  have HF := hide hf
  have HRR := hide hr
  clear h hx0 hx1 hx2 hd hr hk hb hl hq B B0 hf
  go_enter Try.func55, Try.ntmps55
  go_wp2_with fail
  refine HL.out.mono ?_
  rintro e w' ⟨rfl, rfl⟩
  clear HL
  go_wp2_with fail
  refine (HS.out _).mono ?_
  rintro e W1 ⟨rfl, hb⟩
  have HW1 := hide (HW.out.later hb)
  have HCL : Hid (∀ W u0 u1, CI3 w w.heap.size r W1.heap.size x1 (.agg #[.string ⟨#[97, 114, 105, 116, 104]⟩, .string ⟨#[]⟩, .slice (some ⟨W1.heap.size, 0, none⟩) 1 1, .string ⟨#[]⟩, .int .u32 0, .int .i64 0, .int .u64 0, .int .u64 (k2 : Int), .bool false, .bool false, .bool d, .bool q]) [u0, u1] W → Calls Try.prog 52 #[.agg #[.string ⟨#[97, 114, 105, 116, 104]⟩, .string ⟨#[]⟩, .slice (some ⟨W1.heap.size, 0, none⟩) 1 1, .string ⟨#[]⟩, .int .u32 0, .int .i64 0, .int .u64 0, .int .u64 (k2 : Int), .bool false, .bool false, .bool d, .bool q], .bool b2, .string ⟨#[67, 76, 73, 69, 78, 84, 95, 69, 82, 82, 79, 82, 32, 105, 110, 118, 97, 108, 105, 100, 32, 110, 117, 109, 101, 114, 105, 99, 32, 100, 101, 108, 116, 97, 32, 97, 114, 103, 117, 109, 101, 110, 116]⟩] W fun e w2 => ∃ v, e = .returned v ∧ CI3 w w.heap.size r W1.heap.size x1 (.agg #[.string ⟨#[97, 114, 105, 116, 104]⟩, .string ⟨#[]⟩, .slice (some ⟨W1.heap.size, 0, none⟩) 1 1, .string ⟨#[]⟩, .int .u32 0, .int .i64 0, .int .u64 0, .int .u64 (k2 : Int), .bool false, .bool false, .bool d, .bool q]) ([u0, u1] ++ [v]) w2) := fun W u0 u1 hc => CI3.call hc (checked_is ⟨mk8 [97, 114, 105, 116, 104], ⟨#[]⟩, [x1], ⟨#[]⟩, 0, 0, 0, k2, false, false, d, q⟩ r (some ⟨W1.heap.size, 0, none⟩) 1 1 b2 (mk8 deltaT) W HRR.out hc.2 (Nat.zero_le _))
  clear hb hc2 HW HS
  go_wp2
  refine wp_region_liy (by kernel_rfl) (by kernel_rfl) (fun jx => ([.slice (some ⟨g, o, none⟩) n cap, .pointer (some ⟨g, o + 1, none⟩), .string x1, undef, .int .u64 (k2 : Int), .slice (some ⟨g, o, none⟩) n cap, .pointer (some ⟨g, o, none⟩), .string x0, .bool d, .bool q, undef, .bool b2, undef, undef] : List Value).getD jx undef) [3, 10, 12, 13] (by kernel_rfl) (by decide) (by decide) (CI3 w w.heap.size r W1.heap.size x1 (.agg #[.string ⟨#[97, 114, 105, 116, 104]⟩, .string ⟨#[]⟩, .slice (some ⟨W1.heap.size, 0, none⟩) 1 1, .string ⟨#[]⟩, .int .u32 0, .int .i64 0, .int .u64 0, .int .u64 (k2 : Int), .bool false, .bool false, .bool d, .bool q])) (⟨HW1.out.drew, rfl⟩) ?_ ?_
  · intro jx ox hi us w' ev hc hul hbef haft hin hout hold hcst hfn
    have hltx : jx < 14 := by
      have := (Array.getElem?_eq_some_iff.1 hi).1
      simpa using this
    match jx, hltx with
    | 0, _ =>
      simp only [List.getElem?_toArray, List.getElem?_cons_zero, List.getElem?_cons_succ, Option.some.injEq] at hi
      subst hi
      have ha3 : us.length ≤ 3 := haft 3 13 rfl (by kernel_rfl)
      have e0 : ev (.tmp 0) = .slice (some ⟨g, o, none⟩) n cap := hout 0 (by kernel_rfl) (show (0 : Nat) < 35 by decide)
      refine ⟨fun mx hmx => absurd hmx (by simp [zpos]), fun _ => ?_⟩
      simp [execOp, e0, hcst, go_sem]
    | 1, _ =>
      simp only [List.getElem?_toArray, List.getElem?_cons_zero, List.getElem?_cons_succ, Option.some.injEq] at hi
      subst hi
      have ha3 : us.length ≤ 3 := haft 3 13 rfl (by kernel_rfl)
      have e0 : ev (.tmp 22) = .slice (some ⟨g, o, none⟩) n cap := hin 22 0 ⟨0, .data⟩ (by kernel_rfl) (by simp) rfl rfl (show (22 : Nat) < 35 by decide)
      refine ⟨fun mx hmx => absurd hmx (by simp [zpos]), fun _ => ?_⟩
      simp [execOp, e0, hcst, go_sem, hp0, hp1, hi1]
    | 2, _ =>
      simp only [List.getElem?_toArray, List.getElem?_cons_zero, List.getElem?_cons_succ, Option.some.injEq] at hi
      subst hi
      have ha0 : us.length ≤ 0 := haft 0 3 rfl (by kernel_rfl)
      have ha3 : us.length ≤ 3 := haft 3 13 rfl (by kernel_rfl)
      have e0 : ev (.tmp 23) = .pointer (some ⟨g, o + 1, none⟩) := hin 23 1 ⟨1, .data⟩ (by kernel_rfl) (by simp) rfl rfl (show (23 : Nat) < 35 by decide)
      refine ⟨fun mx hmx => absurd hmx (by simp [zpos]), fun _ => ?_⟩
      have q2 := cell_later HX1.out hc.bel
      simp [execOp, e0, hcst, go_sem, q2]
    | 3, _ =>
      simp only [List.getElem?_toArray, List.getElem?_cons_zero, List.getElem?_cons_succ, Option.some.injEq] at hi
      subst hi
      have ha1 : us.length ≤ 1 := haft 1 10 rfl (by kernel_rfl)
      have ha3 : us.length ≤ 3 := haft 3 13 rfl (by kernel_rfl)
      have e0 : ev (.tmp 24) = .string x1 := hin 24 2 ⟨2, .data⟩ (by kernel_rfl) (by simp) rfl rfl (show (24 : Nat) < 35 by decide)
      refine ⟨fun mx hmx hus => ?_, fun hno => absurd hno (by decide)⟩
      obtain rfl : 0 = mx := Option.some.inj hmx
      have h0 : us = [] := List.eq_nil_of_length_eq_zero hus
      subst h0
      obtain ⟨q3, q4⟩ := CI3.row hc HF.out
      refine .inl (.inl ⟨sl1 W1.heap.size, _, ?_, q4⟩)
      simp [execOp, e0, hcst, q3]
    | 4, _ =>
      simp only [List.getElem?_toArray, List.getElem?_cons_zero, List.getElem?_cons_succ, Option.some.injEq] at hi
      subst hi
      have ha1 : us.length ≤ 1 := haft 1 10 rfl (by kernel_rfl)
      have ha3 : us.length ≤ 3 := haft 3 13 rfl (by kernel_rfl)
      have e0 : ev (.tmp 5) = .int .u64 (k2 : Int) := hout 5 (by kernel_rfl) (show (5 : Nat) < 35 by decide)
      refine ⟨fun mx hmx => absurd hmx (by simp [zpos]), fun _ => ?_⟩
      simp [execOp, e0, hcst, go_sem]
    | 5, _ =>
      simp only [List.getElem?_toArray, List.getElem?_cons_zero, List.getElem?_cons_succ, Option.some.injEq] at hi
      subst hi
      have ha3 : us.length ≤ 3 := haft 3 13 rfl (by kernel_rfl)
      have e0 : ev (.tmp 0) = .slice (some ⟨g, o, none⟩) n cap := hout 0 (by kernel_rfl) (show (0 : Nat) < 35 by decide)
      refine ⟨fun mx hmx => absurd hmx (by simp [zpos]), fun _ => ?_⟩
      simp [execOp, e0, hcst, go_sem]
    | 6, _ =>
      simp only [List.getElem?_toArray, List.getElem?_cons_zero, List.getElem?_cons_succ, Option.some.injEq] at hi
      subst hi
      have ha3 : us.length ≤ 3 := haft 3 13 rfl (by kernel_rfl)
      have e0 : ev (.tmp 27) = .slice (some ⟨g, o, none⟩) n cap := hin 27 5 ⟨5, .data⟩ (by kernel_rfl) (by simp) rfl rfl (show (27 : Nat) < 35 by decide)
      refine ⟨fun mx hmx => absurd hmx (by simp [zpos]), fun _ => ?_⟩
      simp [execOp, e0, hcst, go_sem, hp0, hi0]
    | 7, _ =>
      simp only [List.getElem?_toArray, List.getElem?_cons_zero, List.getElem?_cons_succ, Option.some.injEq] at hi
      subst hi
      have ha3 : us.length ≤ 3 := haft 3 13 rfl (by kernel_rfl)
      have e0 : ev (.tmp 28) = .pointer (some ⟨g, o, none⟩) := hin 28 6 ⟨6, .data⟩ (by kernel_rfl) (by simp) rfl rfl (show (28 : Nat) < 35 by decide)
      refine ⟨fun mx hmx => absurd hmx (by simp [zpos]), fun _ => ?_⟩
      have q2 := cell_later HX0.out hc.bel
      simp [execOp, e0, hcst, go_sem, q2]
    | 8, _ =>
      simp only [List.getElem?_toArray, List.getElem?_cons_zero, List.getElem?_cons_succ, Option.some.injEq] at hi
      subst hi
      have ha1 : us.length ≤ 1 := haft 1 10 rfl (by kernel_rfl)
      have ha3 : us.length ≤ 3 := haft 3 13 rfl (by kernel_rfl)
      have e0 : ev (.tmp 29) = .string x0 := hin 29 7 ⟨7, .data⟩ (by kernel_rfl) (by simp) rfl rfl (show (29 : Nat) < 35 by decide)
      refine ⟨fun mx hmx => absurd hmx (by simp [zpos]), fun _ => ?_⟩
      simp [execOp, e0, hcst, go_sem, hE]
    | 9, _ =>
      simp only [List.getElem?_toArray, List.getElem?_cons_zero, List.getElem?_cons_succ, Option.some.injEq] at hi
      subst hi
      have ha1 : us.length ≤ 1 := haft 1 10 rfl (by kernel_rfl)
      have ha3 : us.length ≤ 3 := haft 3 13 rfl (by kernel_rfl)
      have e0 : ev (.tmp 3) = .bool q := hout 3 (by kernel_rfl) (show (3 : Nat) < 35 by decide)
      refine ⟨fun mx hmx => absurd hmx (by simp [zpos]), fun _ => ?_⟩
      simp [execOp, e0, hcst, go_sem]
    | 10, _ =>
      simp only [List.getElem?_toArray, List.getElem?_cons_zero, List.getElem?_cons_succ, Option.some.injEq] at hi
      subst hi
      have hb0 : 0 < us.length := hbef 0 3 rfl (by kernel_rfl)
      have ha2 : us.length ≤ 2 := haft 2 12 rfl (by kernel_rfl)
      have ha3 : us.length ≤ 3 := haft 3 13 rfl (by kernel_rfl)
      have e0 : ev (.tmp 25) = us.getD 0 undef := hin 25 3 ⟨3, .data⟩ (by kernel_rfl) (by simp) rfl rfl (show (25 : Nat) < 35 by decide)
      have e1 : ev (.tmp 26) = .int .u64 (k2 : Int) := hin 26 4 ⟨4, .data⟩ (by kernel_rfl) (by simp) rfl rfl (show (26 : Nat) < 35 by decide)
      have e2 : ev (.tmp 30) = .bool d := hin 30 8 ⟨8, .data⟩ (by kernel_rfl) (by simp) rfl rfl (show (30 : Nat) < 35 by decide)
      have e3 : ev (.tmp 31) = .bool q := hin 31 9 ⟨9, .data⟩ (by kernel_rfl) (by simp) rfl rfl (show (31 : Nat) < 35 by decide)
      refine ⟨fun mx hmx hus => ?_, fun hno => absurd hno (by decide)⟩
      obtain rfl : 1 = mx := Option.some.inj hmx
      match us, hus with
      | [u0], _ =>
        obtain ⟨q3, q4⟩ := CI3.bld hc
        simp only [List.getD_cons_zero] at e0
        rw [q3] at e0
        refine .inl (.inl ⟨_, _, ?_, q4⟩)
        simp [execOp, e0, e1, e2, e3, hcst, go_sem, sl1]
    | 11, _ =>
      simp only [List.getElem?_toArray, List.getElem?_cons_zero, List.getElem?_cons_succ, Option.some.injEq] at hi
      subst hi
      have ha2 : us.length ≤ 2 := haft 2 12 rfl (by kernel_rfl)
      have ha3 : us.length ≤ 3 := haft 3 13 rfl (by kernel_rfl)
      have e0 : ev (.tmp 4) = .bool b2 := hout 4 (by kernel_rfl) (show (4 : Nat) < 35 by decide)
      refine ⟨fun mx hmx => absurd hmx (by simp [zpos]), fun _ => ?_⟩
      simp [execOp, e0, hcst, go_sem]
    | 12, _ =>
      simp only [List.getElem?_toArray, List.getElem?_cons_zero, List.getElem?_cons_succ, Option.some.injEq] at hi
      subst hi
      have hb1 : 1 < us.length := hbef 1 10 rfl (by kernel_rfl)
      have ha3 : us.length ≤ 3 := haft 3 13 rfl (by kernel_rfl)
      have e0 : ev (.tmp 32) = us.getD 1 undef := hin 32 10 ⟨10, .data⟩ (by kernel_rfl) (by simp) rfl rfl (show (32 : Nat) < 35 by decide)
      have e1 : ev (.tmp 33) = .bool b2 := hin 33 11 ⟨11, .data⟩ (by kernel_rfl) (by simp) rfl rfl (show (33 : Nat) < 35 by decide)
      refine ⟨fun mx hmx hus => ?_, fun hno => absurd hno (by decide)⟩
      obtain rfl : 2 = mx := Option.some.inj hmx
      match us, hus with
      | [u0, u1], _ =>
        have q3 : u1 = .agg #[.string ⟨#[97, 114, 105, 116, 104]⟩, .string ⟨#[]⟩, .slice (some ⟨W1.heap.size, 0, none⟩) 1 1, .string ⟨#[]⟩, .int .u32 0, .int .i64 0, .int .u64 0, .int .u64 (k2 : Int), .bool false, .bool false, .bool d, .bool q] := hc.1.2.2
        simp only [List.getD_cons_succ, List.getD_cons_zero] at e0
        rw [q3] at e0
        refine .inl (.inr ⟨52, #[.agg #[.string ⟨#[97, 114, 105, 116, 104]⟩, .string ⟨#[]⟩, .slice (some ⟨W1.heap.size, 0, none⟩) 1 1, .string ⟨#[]⟩, .int .u32 0, .int .i64 0, .int .u64 0, .int .u64 (k2 : Int), .bool false, .bool false, .bool d, .bool q], .bool b2, .string ⟨#[67, 76, 73, 69, 78, 84, 95, 69, 82, 82, 79, 82, 32, 105, 110, 118, 97, 108, 105, 100, 32, 110, 117, 109, 101, 114, 105, 99, 32, 100, 101, 108, 116, 97, 32, 97, 114, 103, 117, 109, 101, 110, 116]⟩], ?_, HCL.out w' u0 u1 hc⟩)
        have ef := hfn 52
        simp [execOp, resolve, invoke, ef, hcst, e0, e1, Result.andThen]
        exact enter54 _ _
    | 13, _ =>
      simp only [List.getElem?_toArray, List.getElem?_cons_zero, List.getElem?_cons_succ, Option.some.injEq] at hi
      subst hi
      have hb0 : 0 < us.length := hbef 0 3 rfl (by kernel_rfl)
      have hb1 : 1 < us.length := hbef 1 10 rfl (by kernel_rfl)
      have hb2 : 2 < us.length := hbef 2 12 rfl (by kernel_rfl)
      have e0 : ev (.tmp 2) = .pointer (some ⟨w.heap.size, 0, none⟩) := hout 2 (by kernel_rfl) (show (2 : Nat) < 35 by decide)
      have e1 : ev (.tmp 34) = us.getD 2 undef := hin 34 12 ⟨12, .data⟩ (by kernel_rfl) (by simp) rfl rfl (show (34 : Nat) < 35 by decide)
      refine ⟨fun mx hmx hus => ?_, fun hno => absurd hno (by decide)⟩
      obtain rfl : 3 = mx := Option.some.inj hmx
      match us, hus with
      | [u0, u1, u], _ =>
        obtain ⟨w3, hr, hD⟩ := CI3.store hc
        simp only [List.getD_cons_succ, List.getD_cons_zero] at e1
        refine .inr ⟨w3, ?_, hD⟩
        simp only [execOp, e0, e1, Instr.storeAt, Instr.sureAddr, Sem.run_bind, Sem.run_pure, Result.andThen_ok, hr]
  · intro us w7 husl hc
    obtain ⟨u, v, rfl, hD⟩ := CI3.done hc husl
    rw [lexF_same (V' := fun jx => ([.slice (some ⟨g, o, none⟩) n cap, .pointer (some ⟨g, o + 1, none⟩), .string x1, (sl1 W1.heap.size), .int .u64 (k2 : Int), .slice (some ⟨g, o, none⟩) n cap, .pointer (some ⟨g, o, none⟩), .string x0, .bool d, .bool q, (.agg #[.string ⟨#[97, 114, 105, 116, 104]⟩, .string ⟨#[]⟩, .slice (some ⟨W1.heap.size, 0, none⟩) 1 1, .string ⟨#[]⟩, .int .u32 0, .int .i64 0, .int .u64 0, .int .u64 (k2 : Int), .bool false, .bool false, .bool d, .bool q]), .bool b2, u, v] : List Value).getD jx undef) _ 0 _ (fun jx _ hj => by
      have hlt : jx < 14 := by simpa using hj
      match jx, hlt with
      | 0, _ => rfl
      | 1, _ => rfl
      | 2, _ => rfl
      | 3, _ => rfl
      | 4, _ => rfl
      | 5, _ => rfl
      | 6, _ => rfl
      | 7, _ => rfl
      | 8, _ => rfl
      | 9, _ => rfl
      | 10, _ => rfl
      | 11, _ => rfl
      | 12, _ => rfl
      | 13, _ => rfl)]
    simp only [lexF, Act.put, List.setIfInBounds_toArray, List.set_cons_succ, List.set_cons_zero, List.getD_cons_succ, List.getD_cons_zero]
    have HD := hide hD
    clear hD hc
    go_wp2
    exact ret_rgd rfl w.heap.size r HD.out rfl rfl (fun a n c h1 h2 => ⟨a, n, c, rfl, h1, h2⟩)
end Go.Proofs.Ytmfjaehajdephab
