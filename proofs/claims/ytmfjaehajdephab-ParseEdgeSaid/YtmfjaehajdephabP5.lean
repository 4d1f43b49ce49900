/-
  The program's get.
-/
import Derived.Test.YtmfjaehajdephabJO
namespace Go.Proofs.Ytmfjaehajdephab
open Go.Shelf Go.RowKit Go.Deep
set_option linter.unusedVariables false
set_option linter.unusedSimpArgs false
set_option maxRecDepth 1000000

theorem enter54 : Enters Try.prog 52 := enters_of Try.func52 (by kernel_rfl) rfl
set_option maxHeartbeats 1000000 in
theorem get_ok (w : World) (g o n cap : Nat) (ws : List ByteArray) (h : RowT w (some ⟨g, o, none⟩) n ws) (hn : 2 ≤ n) (hcap : n ≤ cap) (x0 : ByteArray) (hx0 : ws[0]? = some x0) (q : Bool) (hq : isW x0 w_gets = q) (r : Cm) (hr : chk ⟨mk8 w_get, ⟨#[]⟩, ws.drop 1, ⟨#[]⟩, 0, 0, 0, 0, q, false, false, false⟩ true (mk8 formT) = r) :
    Calls Try.prog 53 #[.slice (some ⟨g, o, none⟩) n cap] w fun e w' => ∃ a' n' c', e = .returned (cmV r (.slice a' n' c')) ∧ RowT w' a' n' r.keys ∧ Below w.heap.size w w' := by
  obtain ⟨a1, c1, hs1, ha1⟩ := run_tailS (some ⟨g, o, none⟩) n cap 1 g o rfl (by omega) hcap
  have HR := hide (h.tail 1 (by omega))
  rw [← ha1] at HR
  obtain ⟨b', o', hb', hlt, hc0⟩ := h.at_.cell 0 x0 hx0
  cases hb'
  rw [Nat.add_zero] at hc0
  have hp0 : 0 < n := by omega
  have hp1 : (0 : Int) < (n : Int) := by omega
  have hE : (x0.toList == [103, 101, 116, 115]) = q := hq
  obtain ⟨n1, hn1⟩ : ∃ n1, n1 = n - 1 := ⟨_, rfl⟩
  rw [← hn1] at hs1 HR
  have HS1 : Hid (∀ X, (Instr.sliceAt 28 (.slice (some ⟨g, o, none⟩) n cap) (some (.int .i64 1)) none none).run Try.prog X = .ok (.slice a1 n1 c1) X) := hs1
  have HL0 := hide hc0
  have HG := hide hlt
  have HW := hide (RgB.new w)
  have HCL : Hid (∀ W, CI1 w w.heap.size r [] W → Calls Try.prog 52 #[.agg #[.string ⟨#[103, 101, 116]⟩, .string ⟨#[]⟩, .slice a1 n1 c1, .string ⟨#[]⟩, .int .u32 0, .int .i64 0, .int .u64 0, .int .u64 0, .bool q, .bool false, .bool false, .bool false], .bool true, .string ⟨#[67, 76, 73, 69, 78, 84, 95, 69, 82, 82, 79, 82, 32, 98, 97, 100, 32, 99, 111, 109, 109, 97, 110, 100, 32, 108, 105, 110, 101, 32, 102, 111, 114, 109, 97, 116]⟩] W fun e w2 => ∃ v, e = .returned v ∧ CI1 w w.heap.size r ([] ++ [v]) w2) := fun W hc =>
    call_isCm hc (checked_is ⟨mk8 w_get, ⟨#[]⟩, ws.drop 1, ⟨#[]⟩, 0, 0, 0, 0, q, false, false, false⟩ r a1 n1 c1 true (mk8 formT) W hr (RgB.row hc HR.out) (Nat.zero_le _))
  clear hn1 ha1 h hx0 hq HR hs1 hc0 hlt hr
  go_enter Try.func53, Try.ntmps53
  go_wp2
  refine wp_region_liy (by kernel_rfl) (by kernel_rfl) (fun jx => ([.slice (some ⟨g, o, none⟩) n cap, .slice a1 n1 c1, .slice (some ⟨g, o, none⟩) n cap, .pointer (some ⟨g, o, none⟩), .string x0, .bool q, .agg #[.string ⟨#[103, 101, 116]⟩, .string ⟨#[]⟩, .slice a1 n1 c1, .string ⟨#[]⟩, .int .u32 0, .int .i64 0, .int .u64 0, .int .u64 0, .bool q, .bool false, .bool false, .bool false], undef, undef] : List Value).getD jx undef) [7, 8] (by kernel_rfl) (by decide) (by decide) (CI1 w w.heap.size r) (HW.out.drew) ?_ ?_
  · intro jx ox hi us w' ev hc hul hbef haft hin hout hold hcst hfn
    have hltx : jx < 9 := by
      have := (Array.getElem?_eq_some_iff.1 hi).1
      simpa using this
    match jx, hltx with
    | 0, _ =>
      simp only [List.getElem?_toArray, List.getElem?_cons_zero, List.getElem?_cons_succ, Option.some.injEq] at hi
      subst hi
      have ha1 : us.length ≤ 1 := haft 1 8 rfl (by kernel_rfl)
      have e0 : ev (.tmp 0) = .slice (some ⟨g, o, none⟩) n cap := hout 0 (by kernel_rfl) (show (0 : Nat) < 15 by decide)
      refine ⟨fun mx hmx => absurd hmx (by simp [zpos]), fun _ => ?_⟩
      simp [execOp, e0, hcst, go_sem]
    | 1, _ =>
      simp only [List.getElem?_toArray, List.getElem?_cons_zero, List.getElem?_cons_succ, Option.some.injEq] at hi
      subst hi
      have ha1 : us.length ≤ 1 := haft 1 8 rfl (by kernel_rfl)
      have e0 : ev (.tmp 7) = .slice (some ⟨g, o, none⟩) n cap := hin 7 0 ⟨0, .data⟩ (by kernel_rfl) (by simp) rfl rfl (show (7 : Nat) < 15 by decide)
      refine ⟨fun mx hmx => absurd hmx (by simp [zpos]), fun _ => ?_⟩
      have q1 := HS1.out w'
      simp [execOp, e0, hcst, go_sem, q1]
    | 2, _ =>
      simp only [List.getElem?_toArray, List.getElem?_cons_zero, List.getElem?_cons_succ, Option.some.injEq] at hi
      subst hi
      have ha1 : us.length ≤ 1 := haft 1 8 rfl (by kernel_rfl)
      have e0 : ev (.tmp 0) = .slice (some ⟨g, o, none⟩) n cap := hout 0 (by kernel_rfl) (show (0 : Nat) < 15 by decide)
      refine ⟨fun mx hmx => absurd hmx (by simp [zpos]), fun _ => ?_⟩
      simp [execOp, e0, hcst, go_sem]
    | 3, _ =>
      simp only [List.getElem?_toArray, List.getElem?_cons_zero, List.getElem?_cons_succ, Option.some.injEq] at hi
      subst hi
      have ha1 : us.length ≤ 1 := haft 1 8 rfl (by kernel_rfl)
      have e0 : ev (.tmp 9) = .slice (some ⟨g, o, none⟩) n cap := hin 9 2 ⟨2, .data⟩ (by kernel_rfl) (by simp) rfl rfl (show (9 : Nat) < 15 by decide)
      refine ⟨fun mx hmx => absurd hmx (by simp [zpos]), fun _ => ?_⟩
      simp [execOp, e0, hcst, go_sem, hp0, hp1]
    | 4, _ =>
      simp only [List.getElem?_toArray, List.getElem?_cons_zero, List.getElem?_cons_succ, Option.some.injEq] at hi
      subst hi
      have ha1 : us.length ≤ 1 := haft 1 8 rfl (by kernel_rfl)
      have e0 : ev (.tmp 10) = .pointer (some ⟨g, o, none⟩) := hin 10 3 ⟨3, .data⟩ (by kernel_rfl) (by simp) rfl rfl (show (10 : Nat) < 15 by decide)
      refine ⟨fun mx hmx => absurd hmx (by simp [zpos]), fun _ => ?_⟩
      have q := hc.bel
      have q2 : w'.cell? ⟨g, o, none⟩ = some (.string x0) := (World.cell?_of_block (q.block g HG.out)).trans HL0.out
      simp [execOp, e0, hcst, go_sem, q2]
    | 5, _ =>
      simp only [List.getElem?_toArray, List.getElem?_cons_zero, List.getElem?_cons_succ, Option.some.injEq] at hi
      subst hi
      have ha1 : us.length ≤ 1 := haft 1 8 rfl (by kernel_rfl)
      have e0 : ev (.tmp 11) = .string x0 := hin 11 4 ⟨4, .data⟩ (by kernel_rfl) (by simp) rfl rfl (show (11 : Nat) < 15 by decide)
      refine ⟨fun mx hmx => absurd hmx (by simp [zpos]), fun _ => ?_⟩
      simp [execOp, e0, hcst, go_sem, hE]
    | 6, _ =>
      simp only [List.getElem?_toArray, List.getElem?_cons_zero, List.getElem?_cons_succ, Option.some.injEq] at hi
      subst hi
      have ha0 : us.length ≤ 0 := haft 0 7 rfl (by kernel_rfl)
      have ha1 : us.length ≤ 1 := haft 1 8 rfl (by kernel_rfl)
      have e0 : ev (.tmp 8) = .slice a1 n1 c1 := hin 8 1 ⟨1, .data⟩ (by kernel_rfl) (by simp) rfl rfl (show (8 : Nat) < 15 by decide)
      have e1 : ev (.tmp 12) = .bool q := hin 12 5 ⟨5, .data⟩ (by kernel_rfl) (by simp) rfl rfl (show (12 : Nat) < 15 by decide)
      refine ⟨fun mx hmx => absurd hmx (by simp [zpos]), fun _ => ?_⟩
      simp [execOp, e0, e1, hcst, go_sem]
    | 7, _ =>
      simp only [List.getElem?_toArray, List.getElem?_cons_zero, List.getElem?_cons_succ, Option.some.injEq] at hi
      subst hi
      have ha1 : us.length ≤ 1 := haft 1 8 rfl (by kernel_rfl)
      have e0 : ev (.tmp 13) = .agg #[.string ⟨#[103, 101, 116]⟩, .string ⟨#[]⟩, .slice a1 n1 c1, .string ⟨#[]⟩, .int .u32 0, .int .i64 0, .int .u64 0, .int .u64 0, .bool q, .bool false, .bool false, .bool false] := hin 13 6 ⟨6, .data⟩ (by kernel_rfl) (by simp) rfl rfl (show (13 : Nat) < 15 by decide)
      refine ⟨fun mx hmx hus => ?_, fun hno => absurd hno (by decide)⟩
      obtain rfl : 0 = mx := Option.some.inj hmx
      have h0 : us = [] := List.eq_nil_of_length_eq_zero hus
      subst h0
      refine .inl (.inr ⟨52, #[.agg #[.string ⟨#[103, 101, 116]⟩, .string ⟨#[]⟩, .slice a1 n1 c1, .string ⟨#[]⟩, .int .u32 0, .int .i64 0, .int .u64 0, .int .u64 0, .bool q, .bool false, .bool false, .bool false], .bool true, .string ⟨#[67, 76, 73, 69, 78, 84, 95, 69, 82, 82, 79, 82, 32, 98, 97, 100, 32, 99, 111, 109, 109, 97, 110, 100, 32, 108, 105, 110, 101, 32, 102, 111, 114, 109, 97, 116]⟩], ?_, HCL.out w' hc⟩)
      have ef := hfn 52
      simp [execOp, resolve, invoke, ef, hcst, e0, Result.andThen]
      exact enter54 _ _
    | 8, _ =>
      simp only [List.getElem?_toArray, List.getElem?_cons_zero, List.getElem?_cons_succ, Option.some.injEq] at hi
      subst hi
      have hb0 : 0 < us.length := hbef 0 7 rfl (by kernel_rfl)
      have e0 : ev (.tmp 2) = .pointer (some ⟨w.heap.size, 0, none⟩) := hout 2 (by kernel_rfl) (show (2 : Nat) < 15 by decide)
      have e1 : ev (.tmp 14) = us.getD 0 undef := hin 14 7 ⟨7, .data⟩ (by kernel_rfl) (by simp) rfl rfl (show (14 : Nat) < 15 by decide)
      refine ⟨fun mx hmx hus => ?_, fun hno => absurd hno (by decide)⟩
      obtain rfl : 1 = mx := Option.some.inj hmx
      obtain ⟨u, rfl⟩ := List.length_eq_one_iff.1 hus
      obtain ⟨w3, hr, hD⟩ := RgB.store hc.1 hc.2
      simp only [List.getD_cons_zero] at e1
      refine .inr ⟨w3, ?_, hD⟩
      simp only [execOp, e0, e1, Instr.storeAt, Instr.sureAddr, Sem.run_bind, Sem.run_pure, Result.andThen_ok, hr]
  · intro us w7 husl hc
    obtain ⟨u, v, rfl, hD⟩ := CI1.done hc husl
    rw [lexF_same (V' := fun jx => ([.slice (some ⟨g, o, none⟩) n cap, .slice a1 n1 c1, .slice (some ⟨g, o, none⟩) n cap, .pointer (some ⟨g, o, none⟩), .string x0, .bool q, .agg #[.string ⟨#[103, 101, 116]⟩, .string ⟨#[]⟩, .slice a1 n1 c1, .string ⟨#[]⟩, .int .u32 0, .int .i64 0, .int .u64 0, .int .u64 0, .bool q, .bool false, .bool false, .bool false], u, v] : List Value).getD jx undef) _ 0 _ (fun jx _ hj => by
      have hlt : jx < 9 := by simpa using hj
      match jx, hlt with
      | 0, _ => rfl
      | 1, _ => rfl
      | 2, _ => rfl
      | 3, _ => rfl
      | 4, _ => rfl
      | 5, _ => rfl
      | 6, _ => rfl
      | 7, _ => rfl
      | 8, _ => rfl)]
    simp only [lexF, Act.put, List.setIfInBounds_toArray, List.set_cons_succ, List.set_cons_zero, List.getD_cons_succ, List.getD_cons_zero]
    have HD := hide hD
    clear hD hc
    go_wp2
    exact ret_rgd rfl w.heap.size r HD.out rfl rfl (fun a n c h1 h2 => ⟨a, n, c, rfl, h1, h2⟩)
end Go.Proofs.Ytmfjaehajdephab
