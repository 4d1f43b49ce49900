/- clear, last, leave, push of rings. -/
import Derived.Test.YtdkiegkgnimapabDoorRg1
import Derived.Test.YtdkiegkgnimapabDoorAnyQ
import Derived.Test.YtdkiegkgnimapabDoorProg
set_option linter.unusedVariables false
set_option linter.unusedSimpArgs false
set_option maxRecDepth 8000
namespace Go.Proofs.YtdkiegkgnimapabDoor.Sgg
open Go.RowKit Go.Deep

/-- The world as a region's operations turn it. -/
def CC4 (A B C D : World) (n : Nat) (W : World) : Prop := match n with
  | 0 => W = A
  | 1 => W = B
  | 2 => W = C
  | _ => W = D
/-- A cell that can be written. -/
def Wr (w : World) (a : Addr) : Prop := (∃ v, w.cell? a = some v) ∧ w.frozen? a = false
theorem Wr.set {w : World} {a : Addr} (h : Wr w a) (p : Addr) (v : Value) : Wr (w.setCell p v) a := by
  obtain ⟨⟨x, hx⟩, hf⟩ := h
  exact ⟨cell?_setCell_some hx, by rw [World.frozen?_setCell]; exact hf⟩
theorem Sh.wr {w : World} {b n : Nat} {t : TypeId} (h : Sh w b n t) {i : Nat} (hi : i < n) : Wr w ⟨b, i, none⟩ := ⟨h.cell hi, h.frozen i⟩
set_option maxHeartbeats 1000000 in
theorem clear_raw (c o : Nat) (w : World) (k1 : Wr w ⟨c, o + 3, none⟩) (k2 : Wr w ⟨c, o + 4, none⟩) (k3 : Wr w ⟨c, o + 5, none⟩) :
    Calls Tryd.prog 35 #[.pointer (some ⟨c, o, none⟩)] w fun e w' => e = .returned (.tuple #[]) ∧ w' = (((w.drew.setCell ⟨c, o + 3, none⟩ (.pointer (some ⟨c, o, none⟩))).setCell ⟨c, o + 4, none⟩ (.pointer (some ⟨c, o, none⟩))).setCell ⟨c, o + 5, none⟩ (.int .i64 0)) := by
  have H1 : Hid (Wr w.drew ⟨c, o + 3, none⟩) := k1
  have H2 : Hid (Wr (w.drew.setCell ⟨c, o + 3, none⟩ (.pointer (some ⟨c, o, none⟩))) ⟨c, o + 4, none⟩) := Wr.set (w := w.drew) k2 _ _
  have H3 : Hid (Wr ((w.drew.setCell ⟨c, o + 3, none⟩ (.pointer (some ⟨c, o, none⟩))).setCell ⟨c, o + 4, none⟩ (.pointer (some ⟨c, o, none⟩))) ⟨c, o + 5, none⟩) := ((Wr.set (w := w.drew) k3 _ _).set _ _)
  clear k1 k2 k3
  obtain ⟨A, hA⟩ : ∃ A, A = w.drew := ⟨_, rfl⟩
  rw [← hA] at H1 H2 H3 ⊢
  have HA : Hid (CC4 A (A.setCell ⟨c, o + 3, none⟩ (.pointer (some ⟨c, o, none⟩))) ((A.setCell ⟨c, o + 3, none⟩ (.pointer (some ⟨c, o, none⟩))).setCell ⟨c, o + 4, none⟩ (.pointer (some ⟨c, o, none⟩))) ((A.setCell ⟨c, o + 3, none⟩ (.pointer (some ⟨c, o, none⟩))).setCell ⟨c, o + 4, none⟩ (.pointer (some ⟨c, o, none⟩))) 0 { w with drawn := w.drawn + 1 }) := hA.symm
  clear hA
  go_enter Tryd.func35, Tryd.ntmps35
  go_wp2
  refine wp_region_chain (by kernel_rfl) (by kernel_rfl) (fun jx => ([.pointer (some ⟨c, o, none⟩), .pointer (some ⟨c, o, none⟩), .pointer (some ⟨c, o, none⟩), .pointer (some ⟨c, o, none⟩), .pointer (some ⟨c, o, none⟩), .pointer (some ⟨c, o, none⟩), .pointer (some ⟨c, o, none⟩), .pointer (some ⟨c, o, none⟩), .pointer (some ⟨c, o, none⟩), .pointer (some ⟨c, o, none⟩), .pointer (some ⟨c, o + 3, none⟩), undef, .pointer (some ⟨c, o, none⟩), .pointer (some ⟨c, o, none⟩), .pointer (some ⟨c, o + 4, none⟩), undef] : List Value).getD jx undef) [11, 15] (by kernel_rfl) (CC4 A (A.setCell ⟨c, o + 3, none⟩ (.pointer (some ⟨c, o, none⟩))) ((A.setCell ⟨c, o + 3, none⟩ (.pointer (some ⟨c, o, none⟩))).setCell ⟨c, o + 4, none⟩ (.pointer (some ⟨c, o, none⟩))) ((A.setCell ⟨c, o + 3, none⟩ (.pointer (some ⟨c, o, none⟩))).setCell ⟨c, o + 4, none⟩ (.pointer (some ⟨c, o, none⟩)))) (HA.out) ?_ ?_
  · intro jx ox hi sx w' ev hlm hks hc hin hout hcst hfn
    have hltx : jx < 16 := by
      have := (Array.getElem?_eq_some_iff.1 hi).1
      simpa using this
    match jx, hltx with
    | 0, _ =>
      simp only [List.getElem?_toArray, List.getElem?_cons_zero, List.getElem?_cons_succ, Option.some.injEq] at hi
      subst hi
      have e0 : ev (.tmp 0) = .pointer (some ⟨c, o, none⟩) := hout 0 (by kernel_rfl) (show (0 : Nat) < 19 by decide)
      rw [if_neg (by decide)]
      refine .inl ⟨w', ?_, hc⟩
      show _ = Result.ok (Next.value (.pointer (some ⟨c, o, none⟩))) w'
      simp [execOp, e0, hcst, go_sem]
    | 1, _ =>
      simp only [List.getElem?_toArray, List.getElem?_cons_zero, List.getElem?_cons_succ, Option.some.injEq] at hi
      subst hi
      have e0 : ev (.tmp 0) = .pointer (some ⟨c, o, none⟩) := hout 0 (by kernel_rfl) (show (0 : Nat) < 19 by decide)
      rw [if_neg (by decide)]
      refine .inl ⟨w', ?_, hc⟩
      show _ = Result.ok (Next.value (.pointer (some ⟨c, o, none⟩))) w'
      simp [execOp, e0, hcst, go_sem]
    | 2, _ =>
      simp only [List.getElem?_toArray, List.getElem?_cons_zero, List.getElem?_cons_succ, Option.some.injEq] at hi
      subst hi
      have e0 : ev (.tmp 0) = .pointer (some ⟨c, o, none⟩) := hout 0 (by kernel_rfl) (show (0 : Nat) < 19 by decide)
      rw [if_neg (by decide)]
      refine .inl ⟨w', ?_, hc⟩
      show _ = Result.ok (Next.value (.pointer (some ⟨c, o, none⟩))) w'
      simp [execOp, e0, hcst, go_sem]
    | 3, _ =>
      simp only [List.getElem?_toArray, List.getElem?_cons_zero, List.getElem?_cons_succ, Option.some.injEq] at hi
      subst hi
      have e0 : ev (.tmp 4) = .pointer (some ⟨c, o, none⟩) := hin 4 2 ⟨2, .data⟩ (by kernel_rfl) (by simp) rfl rfl (show (4 : Nat) < 19 by decide)
      rw [if_neg (by decide)]
      refine .inl ⟨w', ?_, hc⟩
      show _ = Result.ok (Next.value (.pointer (some ⟨c, o, none⟩))) w'
      simp [execOp, e0, hcst, go_sem]
    | 4, _ =>
      simp only [List.getElem?_toArray, List.getElem?_cons_zero, List.getElem?_cons_succ, Option.some.injEq] at hi
      subst hi
      have e0 : ev (.tmp 5) = .pointer (some ⟨c, o, none⟩) := hin 5 3 ⟨3, .data⟩ (by kernel_rfl) (by simp) rfl rfl (show (5 : Nat) < 19 by decide)
      rw [if_neg (by decide)]
      refine .inl ⟨w', ?_, hc⟩
      show _ = Result.ok (Next.value (.pointer (some ⟨c, o, none⟩))) w'
      simp [execOp, e0, hcst, go_sem]
    | 5, _ =>
      simp only [List.getElem?_toArray, List.getElem?_cons_zero, List.getElem?_cons_succ, Option.some.injEq] at hi
      subst hi
      have e0 : ev (.tmp 0) = .pointer (some ⟨c, o, none⟩) := hout 0 (by kernel_rfl) (show (0 : Nat) < 19 by decide)
      rw [if_neg (by decide)]
      refine .inl ⟨w', ?_, hc⟩
      show _ = Result.ok (Next.value (.pointer (some ⟨c, o, none⟩))) w'
      simp [execOp, e0, hcst, go_sem]
    | 6, _ =>
      simp only [List.getElem?_toArray, List.getElem?_cons_zero, List.getElem?_cons_succ, Option.some.injEq] at hi
      subst hi
      have e0 : ev (.tmp 7) = .pointer (some ⟨c, o, none⟩) := hin 7 5 ⟨5, .data⟩ (by kernel_rfl) (by simp) rfl rfl (show (7 : Nat) < 19 by decide)
      rw [if_neg (by decide)]
      refine .inl ⟨w', ?_, hc⟩
      show _ = Result.ok (Next.value (.pointer (some ⟨c, o, none⟩))) w'
      simp [execOp, e0, hcst, go_sem]
    | 7, _ =>
      simp only [List.getElem?_toArray, List.getElem?_cons_zero, List.getElem?_cons_succ, Option.some.injEq] at hi
      subst hi
      have e0 : ev (.tmp 8) = .pointer (some ⟨c, o, none⟩) := hin 8 6 ⟨6, .data⟩ (by kernel_rfl) (by simp) rfl rfl (show (8 : Nat) < 19 by decide)
      rw [if_neg (by decide)]
      refine .inl ⟨w', ?_, hc⟩
      show _ = Result.ok (Next.value (.pointer (some ⟨c, o, none⟩))) w'
      simp [execOp, e0, hcst, go_sem]
    | 8, _ =>
      simp only [List.getElem?_toArray, List.getElem?_cons_zero, List.getElem?_cons_succ, Option.some.injEq] at hi
      subst hi
      have e0 : ev (.tmp 2) = .pointer (some ⟨c, o, none⟩) := hin 2 0 ⟨0, .data⟩ (by kernel_rfl) (by simp) rfl rfl (show (2 : Nat) < 19 by decide)
      rw [if_neg (by decide)]
      refine .inl ⟨w', ?_, hc⟩
      show _ = Result.ok (Next.value (.pointer (some ⟨c, o, none⟩))) w'
      simp [execOp, e0, hcst, go_sem]
    | 9, _ =>
      simp only [List.getElem?_toArray, List.getElem?_cons_zero, List.getElem?_cons_succ, Option.some.injEq] at hi
      subst hi
      have e0 : ev (.tmp 10) = .pointer (some ⟨c, o, none⟩) := hin 10 8 ⟨8, .data⟩ (by kernel_rfl) (by simp) rfl rfl (show (10 : Nat) < 19 by decide)
      rw [if_neg (by decide)]
      refine .inl ⟨w', ?_, hc⟩
      show _ = Result.ok (Next.value (.pointer (some ⟨c, o, none⟩))) w'
      simp [execOp, e0, hcst, go_sem]
    | 10, _ =>
      simp only [List.getElem?_toArray, List.getElem?_cons_zero, List.getElem?_cons_succ, Option.some.injEq] at hi
      subst hi
      have e0 : ev (.tmp 11) = .pointer (some ⟨c, o, none⟩) := hin 11 9 ⟨9, .data⟩ (by kernel_rfl) (by simp) rfl rfl (show (11 : Nat) < 19 by decide)
      rw [if_neg (by decide)]
      refine .inl ⟨w', ?_, hc⟩
      show _ = Result.ok (Next.value (.pointer (some ⟨c, o + 3, none⟩))) w'
      simp [execOp, e0, hcst, go_sem]
    | 11, _ =>
      simp only [List.getElem?_toArray, List.getElem?_cons_zero, List.getElem?_cons_succ, Option.some.injEq] at hi
      subst hi
      have e0 : ev (.tmp 12) = .pointer (some ⟨c, o + 3, none⟩) := hin 12 10 ⟨10, .data⟩ (by kernel_rfl) (by simp) rfl rfl (show (12 : Nat) < 19 by decide)
      have e1 : ev (.tmp 6) = .pointer (some ⟨c, o, none⟩) := hin 6 4 ⟨4, .data⟩ (by kernel_rfl) (by simp) rfl rfl (show (6 : Nat) < 19 by decide)
      rw [if_pos (by decide)]
      have hsx : sx = 0 := hks 0 rfl
      subst hsx
      have hw : w' = A := hc
      subst hw
      refine .inr (.inl ⟨rfl, _, ?_, rfl⟩)
      obtain ⟨q0, q1⟩ := H1.out.1
      have q2 := H1.out.2
      simp [execOp, e0, e1, hcst, go_sem, q1, q2, Result.andThen]
    | 12, _ =>
      simp only [List.getElem?_toArray, List.getElem?_cons_zero, List.getElem?_cons_succ, Option.some.injEq] at hi
      subst hi
      have e0 : ev (.tmp 3) = .pointer (some ⟨c, o, none⟩) := hin 3 1 ⟨1, .data⟩ (by kernel_rfl) (by simp) rfl rfl (show (3 : Nat) < 19 by decide)
      rw [if_neg (by decide)]
      refine .inl ⟨w', ?_, hc⟩
      show _ = Result.ok (Next.value (.pointer (some ⟨c, o, none⟩))) w'
      simp [execOp, e0, hcst, go_sem]
    | 13, _ =>
      simp only [List.getElem?_toArray, List.getElem?_cons_zero, List.getElem?_cons_succ, Option.some.injEq] at hi
      subst hi
      have e0 : ev (.tmp 13) = .pointer (some ⟨c, o, none⟩) := hin 13 12 ⟨12, .data⟩ (by kernel_rfl) (by simp) rfl rfl (show (13 : Nat) < 19 by decide)
      rw [if_neg (by decide)]
      refine .inl ⟨w', ?_, hc⟩
      show _ = Result.ok (Next.value (.pointer (some ⟨c, o, none⟩))) w'
      simp [execOp, e0, hcst, go_sem]
    | 14, _ =>
      simp only [List.getElem?_toArray, List.getElem?_cons_zero, List.getElem?_cons_succ, Option.some.injEq] at hi
      subst hi
      have e0 : ev (.tmp 14) = .pointer (some ⟨c, o, none⟩) := hin 14 13 ⟨13, .data⟩ (by kernel_rfl) (by simp) rfl rfl (show (14 : Nat) < 19 by decide)
      rw [if_neg (by decide)]
      refine .inl ⟨w', ?_, hc⟩
      show _ = Result.ok (Next.value (.pointer (some ⟨c, o + 4, none⟩))) w'
      simp [execOp, e0, hcst, go_sem]
    | 15, _ =>
      simp only [List.getElem?_toArray, List.getElem?_cons_zero, List.getElem?_cons_succ, Option.some.injEq] at hi
      subst hi
      have e0 : ev (.tmp 15) = .pointer (some ⟨c, o + 4, none⟩) := hin 15 14 ⟨14, .data⟩ (by kernel_rfl) (by simp) rfl rfl (show (15 : Nat) < 19 by decide)
      have e1 : ev (.tmp 9) = .pointer (some ⟨c, o, none⟩) := hin 9 7 ⟨7, .data⟩ (by kernel_rfl) (by simp) rfl rfl (show (9 : Nat) < 19 by decide)
      rw [if_pos (by decide)]
      have hsx : sx = 1 := hks 1 rfl
      subst hsx
      have hw : w' = (A.setCell ⟨c, o + 3, none⟩ (.pointer (some ⟨c, o, none⟩))) := hc
      subst hw
      refine .inr (.inl ⟨rfl, _, ?_, rfl⟩)
      obtain ⟨q0, q1⟩ := H2.out.1
      have q2 := H2.out.2
      simp [execOp, e0, e1, hcst, go_sem, q1, q2, Result.andThen]
  · intro w9 hc
    simp only [lexF, Act.put, List.setIfInBounds_toArray, List.set_cons_succ, List.set_cons_zero, List.getD_cons_succ, List.getD_cons_zero]
    have hw : w9 = ((A.setCell ⟨c, o + 3, none⟩ (.pointer (some ⟨c, o, none⟩))).setCell ⟨c, o + 4, none⟩ (.pointer (some ⟨c, o, none⟩))) := hc
    subst hw
    obtain ⟨⟨q0, q1⟩, q2⟩ := H3.out
    go_wp2
    go_end0
    exact ⟨rfl, rfl⟩
theorem last_raw (c o : Nat) (q : Option Addr) (w : World) (h : w.cell? ⟨c, o + 3, none⟩ = some (.pointer q)) :
    Calls Tryd.prog 60 #[.pointer (some ⟨c, o, none⟩)] w fun e w' => e = .returned (.pointer q) ∧ w' = w := by
  go_enter Tryd.func60, Tryd.ntmps60
  go_wp2
  go_ret
  exact ⟨rfl, rfl⟩
set_option maxHeartbeats 2000000 in
theorem leave_raw (b a1 a2 c1 c2 f o : Nat) (n : Int) (w : World) (h3 : w.cell? ⟨b, 3, none⟩ = some (.pointer (some ⟨a1, a2, none⟩))) (h4 : w.cell? ⟨b, 4, none⟩ = some (.pointer (some ⟨c1, c2, none⟩)))
    (ne : a1 ≠ b) (k1 : Wr w ⟨a1, a2 + 4, none⟩) (k2 : Wr w ⟨c1, c2 + 3, none⟩) (g2 : ((w.drew.setCell ⟨a1, a2 + 4, none⟩ (.pointer (some ⟨c1, c2, none⟩))).setCell ⟨c1, c2 + 3, none⟩ (.pointer (some ⟨a1, a2, none⟩))).cell? ⟨b, 2, none⟩ = some (.pointer (some ⟨f, o, none⟩))) (g5 : ((w.drew.setCell ⟨a1, a2 + 4, none⟩ (.pointer (some ⟨c1, c2, none⟩))).setCell ⟨c1, c2 + 3, none⟩ (.pointer (some ⟨a1, a2, none⟩))).cell? ⟨f, o + 5, none⟩ = some (.int .i64 n)) (k5 : Wr w ⟨f, o + 5, none⟩)
    (n1 : 1 ≤ n) (n2 : n ≤ 1000000) :
    Calls Tryd.prog 70 #[.pointer (some ⟨b, 0, none⟩)] w fun e w' => e = .returned (.tuple #[]) ∧ w' = (((w.drew.setCell ⟨a1, a2 + 4, none⟩ (.pointer (some ⟨c1, c2, none⟩))).setCell ⟨c1, c2 + 3, none⟩ (.pointer (some ⟨a1, a2, none⟩))).setCell ⟨f, o + 5, none⟩ (.int .i64 (n - 1))) := by
  have HF : Hid (∀ s W, s ≤ 1 → CC4 w.drew (w.drew.setCell ⟨a1, a2 + 4, none⟩ (.pointer (some ⟨c1, c2, none⟩))) ((w.drew.setCell ⟨a1, a2 + 4, none⟩ (.pointer (some ⟨c1, c2, none⟩))).setCell ⟨c1, c2 + 3, none⟩ (.pointer (some ⟨a1, a2, none⟩))) ((w.drew.setCell ⟨a1, a2 + 4, none⟩ (.pointer (some ⟨c1, c2, none⟩))).setCell ⟨c1, c2 + 3, none⟩ (.pointer (some ⟨a1, a2, none⟩))) s W → W.cell? ⟨b, 3, none⟩ = some (.pointer (some ⟨a1, a2, none⟩)) ∧ W.cell? ⟨b, 4, none⟩ = some (.pointer (some ⟨c1, c2, none⟩))) := fun s W hs hc => by
    match s, hs, hc with
    | 0, _, hc => have hc : W = w.drew := hc; subst hc; exact ⟨h3, h4⟩
    | 1, _, hc =>
      have hc : W = _ := hc
      subst hc
      exact ⟨(World.cell?_of_block (blk_setCell_other _ _ _ _ ne.symm)).trans h3, (World.cell?_of_block (blk_setCell_other _ _ _ _ ne.symm)).trans h4⟩
  have H1 : Hid (Wr w.drew ⟨a1, a2 + 4, none⟩) := k1
  have H2 : Hid (Wr (w.drew.setCell ⟨a1, a2 + 4, none⟩ (.pointer (some ⟨c1, c2, none⟩))) ⟨c1, c2 + 3, none⟩) := Wr.set (w := w.drew) k2 _ _
  have H5 : Hid (((w.drew.setCell ⟨a1, a2 + 4, none⟩ (.pointer (some ⟨c1, c2, none⟩))).setCell ⟨c1, c2 + 3, none⟩ (.pointer (some ⟨a1, a2, none⟩))).frozen? ⟨f, o + 5, none⟩ = false) := ((Wr.set (w := w.drew) k5 _ _).set _ _).2
  clear h3 h4 k1 k2 k5 ne
  obtain ⟨A, hA⟩ : ∃ A, A = w.drew := ⟨_, rfl⟩
  rw [← hA] at HF H1 H2 H5 g2 g5 ⊢
  have HA : Hid (CC4 A (A.setCell ⟨a1, a2 + 4, none⟩ (.pointer (some ⟨c1, c2, none⟩))) ((A.setCell ⟨a1, a2 + 4, none⟩ (.pointer (some ⟨c1, c2, none⟩))).setCell ⟨c1, c2 + 3, none⟩ (.pointer (some ⟨a1, a2, none⟩))) ((A.setCell ⟨a1, a2 + 4, none⟩ (.pointer (some ⟨c1, c2, none⟩))).setCell ⟨c1, c2 + 3, none⟩ (.pointer (some ⟨a1, a2, none⟩))) 0 { w with drawn := w.drawn + 1 }) := hA.symm
  have HG2 := hide g2
  have HG5 := hide g5
  clear hA g2 g5
  go_enter Tryd.func70, Tryd.ntmps70
  go_wp2
  refine wp_region_chain (by kernel_rfl) (by kernel_rfl) (fun jx => ([.pointer (some ⟨b, 0, none⟩), .pointer (some ⟨b, 0, none⟩), .pointer (some ⟨b, 3, none⟩), .pointer (some ⟨a1, a2, none⟩), .pointer (some ⟨b, 0, none⟩), .pointer (some ⟨b, 0, none⟩), .pointer (some ⟨b, 4, none⟩), .pointer (some ⟨c1, c2, none⟩), .pointer (some ⟨b, 0, none⟩), .pointer (some ⟨b, 0, none⟩), .pointer (some ⟨b, 4, none⟩), .pointer (some ⟨c1, c2, none⟩), .pointer (some ⟨b, 0, none⟩), .pointer (some ⟨b, 0, none⟩), .pointer (some ⟨b, 3, none⟩), .pointer (some ⟨a1, a2, none⟩), .pointer (some ⟨a1, a2, none⟩), .pointer (some ⟨a1, a2 + 4, none⟩), undef, .pointer (some ⟨c1, c2, none⟩), .pointer (some ⟨c1, c2 + 3, none⟩), undef] : List Value).getD jx undef) [18, 21] (by kernel_rfl) (CC4 A (A.setCell ⟨a1, a2 + 4, none⟩ (.pointer (some ⟨c1, c2, none⟩))) ((A.setCell ⟨a1, a2 + 4, none⟩ (.pointer (some ⟨c1, c2, none⟩))).setCell ⟨c1, c2 + 3, none⟩ (.pointer (some ⟨a1, a2, none⟩))) ((A.setCell ⟨a1, a2 + 4, none⟩ (.pointer (some ⟨c1, c2, none⟩))).setCell ⟨c1, c2 + 3, none⟩ (.pointer (some ⟨a1, a2, none⟩)))) (HA.out) ?_ ?_
  · intro jx ox hi sx w' ev hlm hks hc hin hout hcst hfn
    have hltx : jx < 22 := by
      have := (Array.getElem?_eq_some_iff.1 hi).1
      simpa using this
    match jx, hltx with
    | 0, _ =>
      simp only [List.getElem?_toArray, List.getElem?_cons_zero, List.getElem?_cons_succ, Option.some.injEq] at hi
      subst hi
      have e0 : ev (.tmp 0) = .pointer (some ⟨b, 0, none⟩) := hout 0 (by kernel_rfl) (show (0 : Nat) < 32 by decide)
      rw [if_neg (by decide)]
      refine .inl ⟨w', ?_, hc⟩
      show _ = Result.ok (Next.value (.pointer (some ⟨b, 0, none⟩))) w'
      simp [execOp, e0, hcst, go_sem]
    | 1, _ =>
      simp only [List.getElem?_toArray, List.getElem?_cons_zero, List.getElem?_cons_succ, Option.some.injEq] at hi
      subst hi
      have e0 : ev (.tmp 2) = .pointer (some ⟨b, 0, none⟩) := hin 2 0 ⟨0, .data⟩ (by kernel_rfl) (by simp) rfl rfl (show (2 : Nat) < 32 by decide)
      rw [if_neg (by decide)]
      refine .inl ⟨w', ?_, hc⟩
      show _ = Result.ok (Next.value (.pointer (some ⟨b, 0, none⟩))) w'
      simp [execOp, e0, hcst, go_sem]
    | 2, _ =>
      simp only [List.getElem?_toArray, List.getElem?_cons_zero, List.getElem?_cons_succ, Option.some.injEq] at hi
      subst hi
      have e0 : ev (.tmp 3) = .pointer (some ⟨b, 0, none⟩) := hin 3 1 ⟨1, .data⟩ (by kernel_rfl) (by simp) rfl rfl (show (3 : Nat) < 32 by decide)
      rw [if_neg (by decide)]
      refine .inl ⟨w', ?_, hc⟩
      show _ = Result.ok (Next.value (.pointer (some ⟨b, 3, none⟩))) w'
      simp [execOp, e0, hcst, go_sem]
    | 3, _ =>
      simp only [List.getElem?_toArray, List.getElem?_cons_zero, List.getElem?_cons_succ, Option.some.injEq] at hi
      subst hi
      have e0 : ev (.tmp 4) = .pointer (some ⟨b, 3, none⟩) := hin 4 2 ⟨2, .data⟩ (by kernel_rfl) (by simp) rfl rfl (show (4 : Nat) < 32 by decide)
      rw [if_neg (by decide)]
      have hl2 : sx ≤ 0 := Nat.le_trans hlm (Nat.le_of_eq (by kernel_rfl))
      refine .inl ⟨w', ?_, hc⟩
      show _ = Result.ok (Next.value (.pointer (some ⟨a1, a2, none⟩))) w'
      have q1 := (HF.out sx w' (Nat.le_trans hl2 (by decide)) hc).1
      simp [execOp, e0, hcst, go_sem, q1]
    | 4, _ =>
      simp only [List.getElem?_toArray, List.getElem?_cons_zero, List.getElem?_cons_succ, Option.some.injEq] at hi
      subst hi
      have e0 : ev (.tmp 0) = .pointer (some ⟨b, 0, none⟩) := hout 0 (by kernel_rfl) (show (0 : Nat) < 32 by decide)
      rw [if_neg (by decide)]
      refine .inl ⟨w', ?_, hc⟩
      show _ = Result.ok (Next.value (.pointer (some ⟨b, 0, none⟩))) w'
      simp [execOp, e0, hcst, go_sem]
    | 5, _ =>
      simp only [List.getElem?_toArray, List.getElem?_cons_zero, List.getElem?_cons_succ, Option.some.injEq] at hi
      subst hi
      have e0 : ev (.tmp 6) = .pointer (some ⟨b, 0, none⟩) := hin 6 4 ⟨4, .data⟩ (by kernel_rfl) (by simp) rfl rfl (show (6 : Nat) < 32 by decide)
      rw [if_neg (by decide)]
      refine .inl ⟨w', ?_, hc⟩
      show _ = Result.ok (Next.value (.pointer (some ⟨b, 0, none⟩))) w'
      simp [execOp, e0, hcst, go_sem]
    | 6, _ =>
      simp only [List.getElem?_toArray, List.getElem?_cons_zero, List.getElem?_cons_succ, Option.some.injEq] at hi
      subst hi
      have e0 : ev (.tmp 7) = .pointer (some ⟨b, 0, none⟩) := hin 7 5 ⟨5, .data⟩ (by kernel_rfl) (by simp) rfl rfl (show (7 : Nat) < 32 by decide)
      rw [if_neg (by decide)]
      refine .inl ⟨w', ?_, hc⟩
      show _ = Result.ok (Next.value (.pointer (some ⟨b, 4, none⟩))) w'
      simp [execOp, e0, hcst, go_sem]
    | 7, _ =>
      simp only [List.getElem?_toArray, List.getElem?_cons_zero, List.getElem?_cons_succ, Option.some.injEq] at hi
      subst hi
      have e0 : ev (.tmp 8) = .pointer (some ⟨b, 4, none⟩) := hin 8 6 ⟨6, .data⟩ (by kernel_rfl) (by simp) rfl rfl (show (8 : Nat) < 32 by decide)
      rw [if_neg (by decide)]
      have hl2 : sx ≤ 0 := Nat.le_trans hlm (Nat.le_of_eq (by kernel_rfl))
      refine .inl ⟨w', ?_, hc⟩
      show _ = Result.ok (Next.value (.pointer (some ⟨c1, c2, none⟩))) w'
      have q1 := (HF.out sx w' (Nat.le_trans hl2 (by decide)) hc).2
      simp [execOp, e0, hcst, go_sem, q1]
    | 8, _ =>
      simp only [List.getElem?_toArray, List.getElem?_cons_zero, List.getElem?_cons_succ, Option.some.injEq] at hi
      subst hi
      have e0 : ev (.tmp 0) = .pointer (some ⟨b, 0, none⟩) := hout 0 (by kernel_rfl) (show (0 : Nat) < 32 by decide)
      rw [if_neg (by decide)]
      refine .inl ⟨w', ?_, hc⟩
      show _ = Result.ok (Next.value (.pointer (some ⟨b, 0, none⟩))) w'
      simp [execOp, e0, hcst, go_sem]
    | 9, _ =>
      simp only [List.getElem?_toArray, List.getElem?_cons_zero, List.getElem?_cons_succ, Option.some.injEq] at hi
      subst hi
      have e0 : ev (.tmp 10) = .pointer (some ⟨b, 0, none⟩) := hin 10 8 ⟨8, .data⟩ (by kernel_rfl) (by simp) rfl rfl (show (10 : Nat) < 32 by decide)
      rw [if_neg (by decide)]
      refine .inl ⟨w', ?_, hc⟩
      show _ = Result.ok (Next.value (.pointer (some ⟨b, 0, none⟩))) w'
      simp [execOp, e0, hcst, go_sem]
    | 10, _ =>
      simp only [List.getElem?_toArray, List.getElem?_cons_zero, List.getElem?_cons_succ, Option.some.injEq] at hi
      subst hi
      have e0 : ev (.tmp 11) = .pointer (some ⟨b, 0, none⟩) := hin 11 9 ⟨9, .data⟩ (by kernel_rfl) (by simp) rfl rfl (show (11 : Nat) < 32 by decide)
      rw [if_neg (by decide)]
      refine .inl ⟨w', ?_, hc⟩
      show _ = Result.ok (Next.value (.pointer (some ⟨b, 4, none⟩))) w'
      simp [execOp, e0, hcst, go_sem]
    | 11, _ =>
      simp only [List.getElem?_toArray, List.getElem?_cons_zero, List.getElem?_cons_succ, Option.some.injEq] at hi
      subst hi
      have e0 : ev (.tmp 12) = .pointer (some ⟨b, 4, none⟩) := hin 12 10 ⟨10, .data⟩ (by kernel_rfl) (by simp) rfl rfl (show (12 : Nat) < 32 by decide)
      rw [if_neg (by decide)]
      have hl2 : sx ≤ 0 := Nat.le_trans hlm (Nat.le_of_eq (by kernel_rfl))
      refine .inl ⟨w', ?_, hc⟩
      show _ = Result.ok (Next.value (.pointer (some ⟨c1, c2, none⟩))) w'
      have q1 := (HF.out sx w' (Nat.le_trans hl2 (by decide)) hc).2
      simp [execOp, e0, hcst, go_sem, q1]
    | 12, _ =>
      simp only [List.getElem?_toArray, List.getElem?_cons_zero, List.getElem?_cons_succ, Option.some.injEq] at hi
      subst hi
      have e0 : ev (.tmp 0) = .pointer (some ⟨b, 0, none⟩) := hout 0 (by kernel_rfl) (show (0 : Nat) < 32 by decide)
      rw [if_neg (by decide)]
      refine .inl ⟨w', ?_, hc⟩
      show _ = Result.ok (Next.value (.pointer (some ⟨b, 0, none⟩))) w'
      simp [execOp, e0, hcst, go_sem]
    | 13, _ =>
      simp only [List.getElem?_toArray, List.getElem?_cons_zero, List.getElem?_cons_succ, Option.some.injEq] at hi
      subst hi
      have e0 : ev (.tmp 14) = .pointer (some ⟨b, 0, none⟩) := hin 14 12 ⟨12, .data⟩ (by kernel_rfl) (by simp) rfl rfl (show (14 : Nat) < 32 by decide)
      rw [if_neg (by decide)]
      refine .inl ⟨w', ?_, hc⟩
      show _ = Result.ok (Next.value (.pointer (some ⟨b, 0, none⟩))) w'
      simp [execOp, e0, hcst, go_sem]
    | 14, _ =>
      simp only [List.getElem?_toArray, List.getElem?_cons_zero, List.getElem?_cons_succ, Option.some.injEq] at hi
      subst hi
      have e0 : ev (.tmp 15) = .pointer (some ⟨b, 0, none⟩) := hin 15 13 ⟨13, .data⟩ (by kernel_rfl) (by simp) rfl rfl (show (15 : Nat) < 32 by decide)
      rw [if_neg (by decide)]
      refine .inl ⟨w', ?_, hc⟩
      show _ = Result.ok (Next.value (.pointer (some ⟨b, 3, none⟩))) w'
      simp [execOp, e0, hcst, go_sem]
    | 15, _ =>
      simp only [List.getElem?_toArray, List.getElem?_cons_zero, List.getElem?_cons_succ, Option.some.injEq] at hi
      subst hi
      have e0 : ev (.tmp 16) = .pointer (some ⟨b, 3, none⟩) := hin 16 14 ⟨14, .data⟩ (by kernel_rfl) (by simp) rfl rfl (show (16 : Nat) < 32 by decide)
      rw [if_neg (by decide)]
      have hl2 : sx ≤ 0 := Nat.le_trans hlm (Nat.le_of_eq (by kernel_rfl))
      refine .inl ⟨w', ?_, hc⟩
      show _ = Result.ok (Next.value (.pointer (some ⟨a1, a2, none⟩))) w'
      have q1 := (HF.out sx w' (Nat.le_trans hl2 (by decide)) hc).1
      simp [execOp, e0, hcst, go_sem, q1]
    | 16, _ =>
      simp only [List.getElem?_toArray, List.getElem?_cons_zero, List.getElem?_cons_succ, Option.some.injEq] at hi
      subst hi
      have e0 : ev (.tmp 5) = .pointer (some ⟨a1, a2, none⟩) := hin 5 3 ⟨3, .data⟩ (by kernel_rfl) (by simp) rfl rfl (show (5 : Nat) < 32 by decide)
      rw [if_neg (by decide)]
      refine .inl ⟨w', ?_, hc⟩
      show _ = Result.ok (Next.value (.pointer (some ⟨a1, a2, none⟩))) w'
      simp [execOp, e0, hcst, go_sem]
    | 17, _ =>
      simp only [List.getElem?_toArray, List.getElem?_cons_zero, List.getElem?_cons_succ, Option.some.injEq] at hi
      subst hi
      have e0 : ev (.tmp 18) = .pointer (some ⟨a1, a2, none⟩) := hin 18 16 ⟨16, .data⟩ (by kernel_rfl) (by simp) rfl rfl (show (18 : Nat) < 32 by decide)
      rw [if_neg (by decide)]
      refine .inl ⟨w', ?_, hc⟩
      show _ = Result.ok (Next.value (.pointer (some ⟨a1, a2 + 4, none⟩))) w'
      simp [execOp, e0, hcst, go_sem]
    | 18, _ =>
      simp only [List.getElem?_toArray, List.getElem?_cons_zero, List.getElem?_cons_succ, Option.some.injEq] at hi
      subst hi
      have e0 : ev (.tmp 19) = .pointer (some ⟨a1, a2 + 4, none⟩) := hin 19 17 ⟨17, .data⟩ (by kernel_rfl) (by simp) rfl rfl (show (19 : Nat) < 32 by decide)
      have e1 : ev (.tmp 13) = .pointer (some ⟨c1, c2, none⟩) := hin 13 11 ⟨11, .data⟩ (by kernel_rfl) (by simp) rfl rfl (show (13 : Nat) < 32 by decide)
      rw [if_pos (by decide)]
      have hsx : sx = 0 := hks 0 rfl
      subst hsx
      have hw : w' = A := hc
      subst hw
      refine .inr (.inl ⟨rfl, _, ?_, rfl⟩)
      obtain ⟨q0, q1⟩ := H1.out.1
      have q2 := H1.out.2
      simp [execOp, e0, e1, hcst, go_sem, q1, q2, Result.andThen]
    | 19, _ =>
      simp only [List.getElem?_toArray, List.getElem?_cons_zero, List.getElem?_cons_succ, Option.some.injEq] at hi
      subst hi
      have e0 : ev (.tmp 9) = .pointer (some ⟨c1, c2, none⟩) := hin 9 7 ⟨7, .data⟩ (by kernel_rfl) (by simp) rfl rfl (show (9 : Nat) < 32 by decide)
      rw [if_neg (by decide)]
      refine .inl ⟨w', ?_, hc⟩
      show _ = Result.ok (Next.value (.pointer (some ⟨c1, c2, none⟩))) w'
      simp [execOp, e0, hcst, go_sem]
    | 20, _ =>
      simp only [List.getElem?_toArray, List.getElem?_cons_zero, List.getElem?_cons_succ, Option.some.injEq] at hi
      subst hi
      have e0 : ev (.tmp 20) = .pointer (some ⟨c1, c2, none⟩) := hin 20 19 ⟨19, .data⟩ (by kernel_rfl) (by simp) rfl rfl (show (20 : Nat) < 32 by decide)
      rw [if_neg (by decide)]
      refine .inl ⟨w', ?_, hc⟩
      show _ = Result.ok (Next.value (.pointer (some ⟨c1, c2 + 3, none⟩))) w'
      simp [execOp, e0, hcst, go_sem]
    | 21, _ =>
      simp only [List.getElem?_toArray, List.getElem?_cons_zero, List.getElem?_cons_succ, Option.some.injEq] at hi
      subst hi
      have e0 : ev (.tmp 21) = .pointer (some ⟨c1, c2 + 3, none⟩) := hin 21 20 ⟨20, .data⟩ (by kernel_rfl) (by simp) rfl rfl (show (21 : Nat) < 32 by decide)
      have e1 : ev (.tmp 17) = .pointer (some ⟨a1, a2, none⟩) := hin 17 15 ⟨15, .data⟩ (by kernel_rfl) (by simp) rfl rfl (show (17 : Nat) < 32 by decide)
      rw [if_pos (by decide)]
      have hsx : sx = 1 := hks 1 rfl
      subst hsx
      have hw : w' = (A.setCell ⟨a1, a2 + 4, none⟩ (.pointer (some ⟨c1, c2, none⟩))) := hc
      subst hw
      refine .inr (.inl ⟨rfl, _, ?_, rfl⟩)
      obtain ⟨q0, q1⟩ := H2.out.1
      have q2 := H2.out.2
      simp [execOp, e0, e1, hcst, go_sem, q1, q2, Result.andThen]
  · intro w9 hc
    simp only [lexF, Act.put, List.setIfInBounds_toArray, List.set_cons_succ, List.set_cons_zero, List.getD_cons_succ, List.getD_cons_zero]
    have hw : w9 = ((A.setCell ⟨a1, a2 + 4, none⟩ (.pointer (some ⟨c1, c2, none⟩))).setCell ⟨c1, c2 + 3, none⟩ (.pointer (some ⟨a1, a2, none⟩))) := hc
    subst hw
    have g2 := HG2.out
    have g5 := HG5.out
    have k5 := H5.out
    clear HG2 HG5 H5 H1 H2 HF HA
    go_wp2
    go_end0
    exact ⟨rfl, rfl⟩
set_option maxHeartbeats 2000000 in
theorem push_raw (b c1 c2 f o : Nat) (n : Int) (w : World) (h4 : w.cell? ⟨f, o + 4, none⟩ = some (.pointer (some ⟨c1, c2, none⟩))) (ne : f ≠ b) (k2 : Wr w ⟨b, 2, none⟩) (k3 : Wr w ⟨b, 3, none⟩) (k4 : Wr w ⟨b, 4, none⟩)
    (j4 : Wr w ⟨f, o + 4, none⟩) (j3 : Wr w ⟨c1, c2 + 3, none⟩) (j5 : Wr w ⟨f, o + 5, none⟩)
    (g3 : (((w.drew.setCell ⟨b, 2, none⟩ (.pointer (some ⟨f, o, none⟩))).setCell ⟨b, 3, none⟩ (.pointer (some ⟨f, o, none⟩))).setCell ⟨b, 4, none⟩ (.pointer (some ⟨c1, c2, none⟩))).cell? ⟨b, 3, none⟩ = some (.pointer (some ⟨f, o, none⟩))) (g4 : (((w.drew.setCell ⟨b, 2, none⟩ (.pointer (some ⟨f, o, none⟩))).setCell ⟨b, 3, none⟩ (.pointer (some ⟨f, o, none⟩))).setCell ⟨b, 4, none⟩ (.pointer (some ⟨c1, c2, none⟩))).cell? ⟨b, 4, none⟩ = some (.pointer (some ⟨c1, c2, none⟩))) (g5 : (((((w.drew.setCell ⟨b, 2, none⟩ (.pointer (some ⟨f, o, none⟩))).setCell ⟨b, 3, none⟩ (.pointer (some ⟨f, o, none⟩))).setCell ⟨b, 4, none⟩ (.pointer (some ⟨c1, c2, none⟩))).drew.setCell ⟨f, o + 4, none⟩ (.pointer (some ⟨b, 0, none⟩))).setCell ⟨c1, c2 + 3, none⟩ (.pointer (some ⟨b, 0, none⟩))).cell? ⟨f, o + 5, none⟩ = some (.int .i64 n)) (n1 : 0 ≤ n) (n2 : n ≤ 1000000) :
    Calls Tryd.prog 48 #[.pointer (some ⟨f, o, none⟩), .pointer (some ⟨b, 0, none⟩)] w fun e w' => e = .returned (.tuple #[]) ∧ w' = ((((((w.drew.setCell ⟨b, 2, none⟩ (.pointer (some ⟨f, o, none⟩))).setCell ⟨b, 3, none⟩ (.pointer (some ⟨f, o, none⟩))).setCell ⟨b, 4, none⟩ (.pointer (some ⟨c1, c2, none⟩))).drew.setCell ⟨f, o + 4, none⟩ (.pointer (some ⟨b, 0, none⟩))).setCell ⟨c1, c2 + 3, none⟩ (.pointer (some ⟨b, 0, none⟩))).setCell ⟨f, o + 5, none⟩ (.int .i64 (n + 1))) := by
  have HF : Hid (∀ s W, s ≤ 2 → CC4 w.drew (w.drew.setCell ⟨b, 2, none⟩ (.pointer (some ⟨f, o, none⟩))) ((w.drew.setCell ⟨b, 2, none⟩ (.pointer (some ⟨f, o, none⟩))).setCell ⟨b, 3, none⟩ (.pointer (some ⟨f, o, none⟩))) (((w.drew.setCell ⟨b, 2, none⟩ (.pointer (some ⟨f, o, none⟩))).setCell ⟨b, 3, none⟩ (.pointer (some ⟨f, o, none⟩))).setCell ⟨b, 4, none⟩ (.pointer (some ⟨c1, c2, none⟩))) s W → W.cell? ⟨f, o + 4, none⟩ = some (.pointer (some ⟨c1, c2, none⟩))) := fun s W hs hc => by
    match s, hs, hc with
    | 0, _, hc => have hc : W = w.drew := hc; subst hc; exact h4
    | 1, _, hc =>
      have hc : W = _ := hc
      subst hc
      exact (World.cell?_of_block (blk_setCell_other _ _ _ _ ne)).trans h4
    | 2, _, hc =>
      have hc : W = _ := hc
      subst hc
      exact (World.cell?_of_block ((blk_setCell_other _ _ _ _ ne).trans (blk_setCell_other _ _ _ _ ne))).trans h4
  have H1 : Hid (Wr w.drew ⟨b, 2, none⟩) := k2
  have H2 : Hid (Wr (w.drew.setCell ⟨b, 2, none⟩ (.pointer (some ⟨f, o, none⟩))) ⟨b, 3, none⟩) := Wr.set (w := w.drew) k3 _ _
  have H3 : Hid (Wr ((w.drew.setCell ⟨b, 2, none⟩ (.pointer (some ⟨f, o, none⟩))).setCell ⟨b, 3, none⟩ (.pointer (some ⟨f, o, none⟩))) ⟨b, 4, none⟩) := (Wr.set (w := w.drew) k4 _ _).set _ _
  have H4 : Hid (Wr (((w.drew.setCell ⟨b, 2, none⟩ (.pointer (some ⟨f, o, none⟩))).setCell ⟨b, 3, none⟩ (.pointer (some ⟨f, o, none⟩))).setCell ⟨b, 4, none⟩ (.pointer (some ⟨c1, c2, none⟩))).drew ⟨f, o + 4, none⟩) := (((Wr.set (w := w.drew) j4 _ _).set _ _).set _ _)
  have H5 : Hid (Wr ((((w.drew.setCell ⟨b, 2, none⟩ (.pointer (some ⟨f, o, none⟩))).setCell ⟨b, 3, none⟩ (.pointer (some ⟨f, o, none⟩))).setCell ⟨b, 4, none⟩ (.pointer (some ⟨c1, c2, none⟩))).drew.setCell ⟨f, o + 4, none⟩ (.pointer (some ⟨b, 0, none⟩))) ⟨c1, c2 + 3, none⟩) := Wr.set (w := (((w.drew.setCell ⟨b, 2, none⟩ (.pointer (some ⟨f, o, none⟩))).setCell ⟨b, 3, none⟩ (.pointer (some ⟨f, o, none⟩))).setCell ⟨b, 4, none⟩ (.pointer (some ⟨c1, c2, none⟩))).drew) (((Wr.set (w := w.drew) j3 _ _).set _ _).set _ _) _ _
  have H6 : Hid ((((((w.drew.setCell ⟨b, 2, none⟩ (.pointer (some ⟨f, o, none⟩))).setCell ⟨b, 3, none⟩ (.pointer (some ⟨f, o, none⟩))).setCell ⟨b, 4, none⟩ (.pointer (some ⟨c1, c2, none⟩))).drew.setCell ⟨f, o + 4, none⟩ (.pointer (some ⟨b, 0, none⟩))).setCell ⟨c1, c2 + 3, none⟩ (.pointer (some ⟨b, 0, none⟩))).frozen? ⟨f, o + 5, none⟩ = false) := ((Wr.set (w := (((w.drew.setCell ⟨b, 2, none⟩ (.pointer (some ⟨f, o, none⟩))).setCell ⟨b, 3, none⟩ (.pointer (some ⟨f, o, none⟩))).setCell ⟨b, 4, none⟩ (.pointer (some ⟨c1, c2, none⟩))).drew) (((Wr.set (w := w.drew) j5 _ _).set _ _).set _ _) _ _).set _ _).2
  have HF2 : Hid (∀ s W, s ≤ 1 → CC4 (((w.drew.setCell ⟨b, 2, none⟩ (.pointer (some ⟨f, o, none⟩))).setCell ⟨b, 3, none⟩ (.pointer (some ⟨f, o, none⟩))).setCell ⟨b, 4, none⟩ (.pointer (some ⟨c1, c2, none⟩))).drew ((((w.drew.setCell ⟨b, 2, none⟩ (.pointer (some ⟨f, o, none⟩))).setCell ⟨b, 3, none⟩ (.pointer (some ⟨f, o, none⟩))).setCell ⟨b, 4, none⟩ (.pointer (some ⟨c1, c2, none⟩))).drew.setCell ⟨f, o + 4, none⟩ (.pointer (some ⟨b, 0, none⟩))) (((((w.drew.setCell ⟨b, 2, none⟩ (.pointer (some ⟨f, o, none⟩))).setCell ⟨b, 3, none⟩ (.pointer (some ⟨f, o, none⟩))).setCell ⟨b, 4, none⟩ (.pointer (some ⟨c1, c2, none⟩))).drew.setCell ⟨f, o + 4, none⟩ (.pointer (some ⟨b, 0, none⟩))).setCell ⟨c1, c2 + 3, none⟩ (.pointer (some ⟨b, 0, none⟩))) (((((w.drew.setCell ⟨b, 2, none⟩ (.pointer (some ⟨f, o, none⟩))).setCell ⟨b, 3, none⟩ (.pointer (some ⟨f, o, none⟩))).setCell ⟨b, 4, none⟩ (.pointer (some ⟨c1, c2, none⟩))).drew.setCell ⟨f, o + 4, none⟩ (.pointer (some ⟨b, 0, none⟩))).setCell ⟨c1, c2 + 3, none⟩ (.pointer (some ⟨b, 0, none⟩))) s W → W.cell? ⟨b, 3, none⟩ = some (.pointer (some ⟨f, o, none⟩)) ∧ W.cell? ⟨b, 4, none⟩ = some (.pointer (some ⟨c1, c2, none⟩))) := fun s W hs hc => by
    match s, hs, hc with
    | 0, _, hc => have hc : W = _ := hc; subst hc; exact ⟨g3, g4⟩
    | 1, _, hc =>
      have hc : W = _ := hc
      subst hc
      exact ⟨(World.cell?_of_block (blk_setCell_other _ _ _ _ ne.symm)).trans g3, (World.cell?_of_block (blk_setCell_other _ _ _ _ ne.symm)).trans g4⟩
  have G6 := hide g5
  clear h4 k2 k3 k4 j4 j3 j5 g3 g4 g5 ne
  obtain ⟨A, hA⟩ : ∃ A, A = w.drew := ⟨_, rfl⟩
  rw [← hA] at HF HF2 H1 H2 H3 H4 H5 H6 G6 ⊢
  have HA : Hid (CC4 A (A.setCell ⟨b, 2, none⟩ (.pointer (some ⟨f, o, none⟩))) ((A.setCell ⟨b, 2, none⟩ (.pointer (some ⟨f, o, none⟩))).setCell ⟨b, 3, none⟩ (.pointer (some ⟨f, o, none⟩))) (((A.setCell ⟨b, 2, none⟩ (.pointer (some ⟨f, o, none⟩))).setCell ⟨b, 3, none⟩ (.pointer (some ⟨f, o, none⟩))).setCell ⟨b, 4, none⟩ (.pointer (some ⟨c1, c2, none⟩))) 0 { w with drawn := w.drawn + 1 }) := hA.symm
  clear hA
  obtain ⟨D, hD⟩ : ∃ D, D = (((A.setCell ⟨b, 2, none⟩ (.pointer (some ⟨f, o, none⟩))).setCell ⟨b, 3, none⟩ (.pointer (some ⟨f, o, none⟩))).setCell ⟨b, 4, none⟩ (.pointer (some ⟨c1, c2, none⟩))).drew := ⟨_, rfl⟩
  rw [← hD] at HF2 H4 H5 H6 G6 ⊢
  have HD : Hid (CC4 D (D.setCell ⟨f, o + 4, none⟩ (.pointer (some ⟨b, 0, none⟩))) ((D.setCell ⟨f, o + 4, none⟩ (.pointer (some ⟨b, 0, none⟩))).setCell ⟨c1, c2 + 3, none⟩ (.pointer (some ⟨b, 0, none⟩))) ((D.setCell ⟨f, o + 4, none⟩ (.pointer (some ⟨b, 0, none⟩))).setCell ⟨c1, c2 + 3, none⟩ (.pointer (some ⟨b, 0, none⟩))) 0 { (((A.setCell ⟨b, 2, none⟩ (.pointer (some ⟨f, o, none⟩))).setCell ⟨b, 3, none⟩ (.pointer (some ⟨f, o, none⟩))).setCell ⟨b, 4, none⟩ (.pointer (some ⟨c1, c2, none⟩))) with drawn := (((A.setCell ⟨b, 2, none⟩ (.pointer (some ⟨f, o, none⟩))).setCell ⟨b, 3, none⟩ (.pointer (some ⟨f, o, none⟩))).setCell ⟨b, 4, none⟩ (.pointer (some ⟨c1, c2, none⟩))).drawn + 1 }) := hD.symm
  clear hD
  go_enter Tryd.func48, Tryd.ntmps48
  go_wp2
  refine wp_region_chain (by kernel_rfl) (by kernel_rfl) (fun jx => ([.pointer (some ⟨b, 0, none⟩), .pointer (some ⟨b, 0, none⟩), .pointer (some ⟨b, 0, none⟩), .pointer (some ⟨f, o, none⟩), .pointer (some ⟨f, o, none⟩), .pointer (some ⟨f, o, none⟩), .pointer (some ⟨f, o, none⟩), .pointer (some ⟨f, o, none⟩), .pointer (some ⟨f, o, none⟩), .pointer (some ⟨f, o, none⟩), .pointer (some ⟨f, o + 4, none⟩), .pointer (some ⟨c1, c2, none⟩), .pointer (some ⟨b, 0, none⟩), .pointer (some ⟨b, 2, none⟩), undef, .pointer (some ⟨b, 0, none⟩), .pointer (some ⟨b, 3, none⟩), undef, .pointer (some ⟨b, 0, none⟩), .pointer (some ⟨b, 4, none⟩), undef] : List Value).getD jx undef) [14, 17, 20] (by kernel_rfl) (CC4 A (A.setCell ⟨b, 2, none⟩ (.pointer (some ⟨f, o, none⟩))) ((A.setCell ⟨b, 2, none⟩ (.pointer (some ⟨f, o, none⟩))).setCell ⟨b, 3, none⟩ (.pointer (some ⟨f, o, none⟩))) (((A.setCell ⟨b, 2, none⟩ (.pointer (some ⟨f, o, none⟩))).setCell ⟨b, 3, none⟩ (.pointer (some ⟨f, o, none⟩))).setCell ⟨b, 4, none⟩ (.pointer (some ⟨c1, c2, none⟩)))) (HA.out) ?_ ?_
  · intro jx ox hi sx w' ev hlm hks hc hin hout hcst hfn
    have hltx : jx < 21 := by
      have := (Array.getElem?_eq_some_iff.1 hi).1
      simpa using this
    match jx, hltx with
    | 0, _ =>
      simp only [List.getElem?_toArray, List.getElem?_cons_zero, List.getElem?_cons_succ, Option.some.injEq] at hi
      subst hi
      have e0 : ev (.tmp 1) = .pointer (some ⟨b, 0, none⟩) := hout 1 (by kernel_rfl) (show (1 : Nat) < 43 by decide)
      rw [if_neg (by decide)]
      refine .inl ⟨w', ?_, hc⟩
      show _ = Result.ok (Next.value (.pointer (some ⟨b, 0, none⟩))) w'
      simp [execOp, e0, hcst, go_sem]
    | 1, _ =>
      simp only [List.getElem?_toArray, List.getElem?_cons_zero, List.getElem?_cons_succ, Option.some.injEq] at hi
      subst hi
      have e0 : ev (.tmp 1) = .pointer (some ⟨b, 0, none⟩) := hout 1 (by kernel_rfl) (show (1 : Nat) < 43 by decide)
      rw [if_neg (by decide)]
      refine .inl ⟨w', ?_, hc⟩
      show _ = Result.ok (Next.value (.pointer (some ⟨b, 0, none⟩))) w'
      simp [execOp, e0, hcst, go_sem]
    | 2, _ =>
      simp only [List.getElem?_toArray, List.getElem?_cons_zero, List.getElem?_cons_succ, Option.some.injEq] at hi
      subst hi
      have e0 : ev (.tmp 1) = .pointer (some ⟨b, 0, none⟩) := hout 1 (by kernel_rfl) (show (1 : Nat) < 43 by decide)
      rw [if_neg (by decide)]
      refine .inl ⟨w', ?_, hc⟩
      show _ = Result.ok (Next.value (.pointer (some ⟨b, 0, none⟩))) w'
      simp [execOp, e0, hcst, go_sem]
    | 3, _ =>
      simp only [List.getElem?_toArray, List.getElem?_cons_zero, List.getElem?_cons_succ, Option.some.injEq] at hi
      subst hi
      have e0 : ev (.tmp 0) = .pointer (some ⟨f, o, none⟩) := hout 0 (by kernel_rfl) (show (0 : Nat) < 43 by decide)
      rw [if_neg (by decide)]
      refine .inl ⟨w', ?_, hc⟩
      show _ = Result.ok (Next.value (.pointer (some ⟨f, o, none⟩))) w'
      simp [execOp, e0, hcst, go_sem]
    | 4, _ =>
      simp only [List.getElem?_toArray, List.getElem?_cons_zero, List.getElem?_cons_succ, Option.some.injEq] at hi
      subst hi
      have e0 : ev (.tmp 0) = .pointer (some ⟨f, o, none⟩) := hout 0 (by kernel_rfl) (show (0 : Nat) < 43 by decide)
      rw [if_neg (by decide)]
      refine .inl ⟨w', ?_, hc⟩
      show _ = Result.ok (Next.value (.pointer (some ⟨f, o, none⟩))) w'
      simp [execOp, e0, hcst, go_sem]
    | 5, _ =>
      simp only [List.getElem?_toArray, List.getElem?_cons_zero, List.getElem?_cons_succ, Option.some.injEq] at hi
      subst hi
      have e0 : ev (.tmp 8) = .pointer (some ⟨f, o, none⟩) := hin 8 4 ⟨4, .data⟩ (by kernel_rfl) (by simp) rfl rfl (show (8 : Nat) < 43 by decide)
      rw [if_neg (by decide)]
      refine .inl ⟨w', ?_, hc⟩
      show _ = Result.ok (Next.value (.pointer (some ⟨f, o, none⟩))) w'
      simp [execOp, e0, hcst, go_sem]
    | 6, _ =>
      simp only [List.getElem?_toArray, List.getElem?_cons_zero, List.getElem?_cons_succ, Option.some.injEq] at hi
      subst hi
      have e0 : ev (.tmp 9) = .pointer (some ⟨f, o, none⟩) := hin 9 5 ⟨5, .data⟩ (by kernel_rfl) (by simp) rfl rfl (show (9 : Nat) < 43 by decide)
      rw [if_neg (by decide)]
      refine .inl ⟨w', ?_, hc⟩
      show _ = Result.ok (Next.value (.pointer (some ⟨f, o, none⟩))) w'
      simp [execOp, e0, hcst, go_sem]
    | 7, _ =>
      simp only [List.getElem?_toArray, List.getElem?_cons_zero, List.getElem?_cons_succ, Option.some.injEq] at hi
      subst hi
      have e0 : ev (.tmp 0) = .pointer (some ⟨f, o, none⟩) := hout 0 (by kernel_rfl) (show (0 : Nat) < 43 by decide)
      rw [if_neg (by decide)]
      refine .inl ⟨w', ?_, hc⟩
      show _ = Result.ok (Next.value (.pointer (some ⟨f, o, none⟩))) w'
      simp [execOp, e0, hcst, go_sem]
    | 8, _ =>
      simp only [List.getElem?_toArray, List.getElem?_cons_zero, List.getElem?_cons_succ, Option.some.injEq] at hi
      subst hi
      have e0 : ev (.tmp 11) = .pointer (some ⟨f, o, none⟩) := hin 11 7 ⟨7, .data⟩ (by kernel_rfl) (by simp) rfl rfl (show (11 : Nat) < 43 by decide)
      rw [if_neg (by decide)]
      refine .inl ⟨w', ?_, hc⟩
      show _ = Result.ok (Next.value (.pointer (some ⟨f, o, none⟩))) w'
      simp [execOp, e0, hcst, go_sem]
    | 9, _ =>
      simp only [List.getElem?_toArray, List.getElem?_cons_zero, List.getElem?_cons_succ, Option.some.injEq] at hi
      subst hi
      have e0 : ev (.tmp 12) = .pointer (some ⟨f, o, none⟩) := hin 12 8 ⟨8, .data⟩ (by kernel_rfl) (by simp) rfl rfl (show (12 : Nat) < 43 by decide)
      rw [if_neg (by decide)]
      refine .inl ⟨w', ?_, hc⟩
      show _ = Result.ok (Next.value (.pointer (some ⟨f, o, none⟩))) w'
      simp [execOp, e0, hcst, go_sem]
    | 10, _ =>
      simp only [List.getElem?_toArray, List.getElem?_cons_zero, List.getElem?_cons_succ, Option.some.injEq] at hi
      subst hi
      have e0 : ev (.tmp 13) = .pointer (some ⟨f, o, none⟩) := hin 13 9 ⟨9, .data⟩ (by kernel_rfl) (by simp) rfl rfl (show (13 : Nat) < 43 by decide)
      rw [if_neg (by decide)]
      refine .inl ⟨w', ?_, hc⟩
      show _ = Result.ok (Next.value (.pointer (some ⟨f, o + 4, none⟩))) w'
      simp [execOp, e0, hcst, go_sem]
    | 11, _ =>
      simp only [List.getElem?_toArray, List.getElem?_cons_zero, List.getElem?_cons_succ, Option.some.injEq] at hi
      subst hi
      have e0 : ev (.tmp 14) = .pointer (some ⟨f, o + 4, none⟩) := hin 14 10 ⟨10, .data⟩ (by kernel_rfl) (by simp) rfl rfl (show (14 : Nat) < 43 by decide)
      rw [if_neg (by decide)]
      have hl2 : sx ≤ 0 := Nat.le_trans hlm (Nat.le_of_eq (by kernel_rfl))
      refine .inl ⟨w', ?_, hc⟩
      show _ = Result.ok (Next.value (.pointer (some ⟨c1, c2, none⟩))) w'
      have q1 := (HF.out sx w' (Nat.le_trans hl2 (by decide)) hc)
      simp [execOp, e0, hcst, go_sem, q1]
    | 12, _ =>
      simp only [List.getElem?_toArray, List.getElem?_cons_zero, List.getElem?_cons_succ, Option.some.injEq] at hi
      subst hi
      have e0 : ev (.tmp 4) = .pointer (some ⟨b, 0, none⟩) := hin 4 0 ⟨0, .data⟩ (by kernel_rfl) (by simp) rfl rfl (show (4 : Nat) < 43 by decide)
      rw [if_neg (by decide)]
      refine .inl ⟨w', ?_, hc⟩
      show _ = Result.ok (Next.value (.pointer (some ⟨b, 0, none⟩))) w'
      simp [execOp, e0, hcst, go_sem]
    | 13, _ =>
      simp only [List.getElem?_toArray, List.getElem?_cons_zero, List.getElem?_cons_succ, Option.some.injEq] at hi
      subst hi
      have e0 : ev (.tmp 16) = .pointer (some ⟨b, 0, none⟩) := hin 16 12 ⟨12, .data⟩ (by kernel_rfl) (by simp) rfl rfl (show (16 : Nat) < 43 by decide)
      rw [if_neg (by decide)]
      refine .inl ⟨w', ?_, hc⟩
      show _ = Result.ok (Next.value (.pointer (some ⟨b, 2, none⟩))) w'
      simp [execOp, e0, hcst, go_sem]
    | 14, _ =>
      simp only [List.getElem?_toArray, List.getElem?_cons_zero, List.getElem?_cons_succ, Option.some.injEq] at hi
      subst hi
      have e0 : ev (.tmp 17) = .pointer (some ⟨b, 2, none⟩) := hin 17 13 ⟨13, .data⟩ (by kernel_rfl) (by simp) rfl rfl (show (17 : Nat) < 43 by decide)
      have e1 : ev (.tmp 7) = .pointer (some ⟨f, o, none⟩) := hin 7 3 ⟨3, .data⟩ (by kernel_rfl) (by simp) rfl rfl (show (7 : Nat) < 43 by decide)
      rw [if_pos (by decide)]
      have hsx : sx = 0 := hks 0 rfl
      subst hsx
      have hw : w' = A := hc
      subst hw
      refine .inr (.inl ⟨rfl, _, ?_, rfl⟩)
      obtain ⟨q0, q1⟩ := H1.out.1
      have q2 := H1.out.2
      simp [execOp, e0, e1, hcst, go_sem, q1, q2, Result.andThen]
    | 15, _ =>
      simp only [List.getElem?_toArray, List.getElem?_cons_zero, List.getElem?_cons_succ, Option.some.injEq] at hi
      subst hi
      have e0 : ev (.tmp 5) = .pointer (some ⟨b, 0, none⟩) := hin 5 1 ⟨1, .data⟩ (by kernel_rfl) (by simp) rfl rfl (show (5 : Nat) < 43 by decide)
      rw [if_neg (by decide)]
      refine .inl ⟨w', ?_, hc⟩
      show _ = Result.ok (Next.value (.pointer (some ⟨b, 0, none⟩))) w'
      simp [execOp, e0, hcst, go_sem]
    | 16, _ =>
      simp only [List.getElem?_toArray, List.getElem?_cons_zero, List.getElem?_cons_succ, Option.some.injEq] at hi
      subst hi
      have e0 : ev (.tmp 18) = .pointer (some ⟨b, 0, none⟩) := hin 18 15 ⟨15, .data⟩ (by kernel_rfl) (by simp) rfl rfl (show (18 : Nat) < 43 by decide)
      rw [if_neg (by decide)]
      refine .inl ⟨w', ?_, hc⟩
      show _ = Result.ok (Next.value (.pointer (some ⟨b, 3, none⟩))) w'
      simp [execOp, e0, hcst, go_sem]
    | 17, _ =>
      simp only [List.getElem?_toArray, List.getElem?_cons_zero, List.getElem?_cons_succ, Option.some.injEq] at hi
      subst hi
      have e0 : ev (.tmp 19) = .pointer (some ⟨b, 3, none⟩) := hin 19 16 ⟨16, .data⟩ (by kernel_rfl) (by simp) rfl rfl (show (19 : Nat) < 43 by decide)
      have e1 : ev (.tmp 10) = .pointer (some ⟨f, o, none⟩) := hin 10 6 ⟨6, .data⟩ (by kernel_rfl) (by simp) rfl rfl (show (10 : Nat) < 43 by decide)
      rw [if_pos (by decide)]
      have hsx : sx = 1 := hks 1 rfl
      subst hsx
      have hw : w' = (A.setCell ⟨b, 2, none⟩ (.pointer (some ⟨f, o, none⟩))) := hc
      subst hw
      refine .inr (.inl ⟨rfl, _, ?_, rfl⟩)
      obtain ⟨q0, q1⟩ := H2.out.1
      have q2 := H2.out.2
      simp [execOp, e0, e1, hcst, go_sem, q1, q2, Result.andThen]
    | 18, _ =>
      simp only [List.getElem?_toArray, List.getElem?_cons_zero, List.getElem?_cons_succ, Option.some.injEq] at hi
      subst hi
      have e0 : ev (.tmp 6) = .pointer (some ⟨b, 0, none⟩) := hin 6 2 ⟨2, .data⟩ (by kernel_rfl) (by simp) rfl rfl (show (6 : Nat) < 43 by decide)
      rw [if_neg (by decide)]
      refine .inl ⟨w', ?_, hc⟩
      show _ = Result.ok (Next.value (.pointer (some ⟨b, 0, none⟩))) w'
      simp [execOp, e0, hcst, go_sem]
    | 19, _ =>
      simp only [List.getElem?_toArray, List.getElem?_cons_zero, List.getElem?_cons_succ, Option.some.injEq] at hi
      subst hi
      have e0 : ev (.tmp 20) = .pointer (some ⟨b, 0, none⟩) := hin 20 18 ⟨18, .data⟩ (by kernel_rfl) (by simp) rfl rfl (show (20 : Nat) < 43 by decide)
      rw [if_neg (by decide)]
      refine .inl ⟨w', ?_, hc⟩
      show _ = Result.ok (Next.value (.pointer (some ⟨b, 4, none⟩))) w'
      simp [execOp, e0, hcst, go_sem]
    | 20, _ =>
      simp only [List.getElem?_toArray, List.getElem?_cons_zero, List.getElem?_cons_succ, Option.some.injEq] at hi
      subst hi
      have e0 : ev (.tmp 21) = .pointer (some ⟨b, 4, none⟩) := hin 21 19 ⟨19, .data⟩ (by kernel_rfl) (by simp) rfl rfl (show (21 : Nat) < 43 by decide)
      have e1 : ev (.tmp 15) = .pointer (some ⟨c1, c2, none⟩) := hin 15 11 ⟨11, .data⟩ (by kernel_rfl) (by simp) rfl rfl (show (15 : Nat) < 43 by decide)
      rw [if_pos (by decide)]
      have hsx : sx = 2 := hks 2 rfl
      subst hsx
      have hw : w' = ((A.setCell ⟨b, 2, none⟩ (.pointer (some ⟨f, o, none⟩))).setCell ⟨b, 3, none⟩ (.pointer (some ⟨f, o, none⟩))) := hc
      subst hw
      refine .inr (.inl ⟨rfl, _, ?_, rfl⟩)
      obtain ⟨q0, q1⟩ := H3.out.1
      have q2 := H3.out.2
      simp [execOp, e0, e1, hcst, go_sem, q1, q2, Result.andThen]
  · intro w9 hc
    simp only [lexF, Act.put, List.setIfInBounds_toArray, List.set_cons_succ, List.set_cons_zero, List.getD_cons_succ, List.getD_cons_zero]
    have hw : w9 = (((A.setCell ⟨b, 2, none⟩ (.pointer (some ⟨f, o, none⟩))).setCell ⟨b, 3, none⟩ (.pointer (some ⟨f, o, none⟩))).setCell ⟨b, 4, none⟩ (.pointer (some ⟨c1, c2, none⟩))) := hc
    subst hw
    go_wp2
    refine wp_region_chain (by kernel_rfl) (by kernel_rfl) (fun jx => ([.pointer (some ⟨b, 0, none⟩), .pointer (some ⟨b, 0, none⟩), .pointer (some ⟨b, 3, none⟩), .pointer (some ⟨f, o, none⟩), .pointer (some ⟨b, 0, none⟩), .pointer (some ⟨b, 0, none⟩), .pointer (some ⟨b, 4, none⟩), .pointer (some ⟨c1, c2, none⟩), .pointer (some ⟨b, 0, none⟩), .pointer (some ⟨b, 0, none⟩), .pointer (some ⟨f, o, none⟩), .pointer (some ⟨f, o + 4, none⟩), undef, .pointer (some ⟨c1, c2, none⟩), .pointer (some ⟨c1, c2 + 3, none⟩), undef] : List Value).getD jx undef) [12, 15] (by kernel_rfl) (CC4 D (D.setCell ⟨f, o + 4, none⟩ (.pointer (some ⟨b, 0, none⟩))) ((D.setCell ⟨f, o + 4, none⟩ (.pointer (some ⟨b, 0, none⟩))).setCell ⟨c1, c2 + 3, none⟩ (.pointer (some ⟨b, 0, none⟩))) ((D.setCell ⟨f, o + 4, none⟩ (.pointer (some ⟨b, 0, none⟩))).setCell ⟨c1, c2 + 3, none⟩ (.pointer (some ⟨b, 0, none⟩)))) (HD.out) ?_ ?_
    · intro jx ox hi sx w' ev hlm hks hc hin hout hcst hfn
      have hltx : jx < 16 := by
        have := (Array.getElem?_eq_some_iff.1 hi).1
        simpa using this
      match jx, hltx with
      | 0, _ =>
        simp only [List.getElem?_toArray, List.getElem?_cons_zero, List.getElem?_cons_succ, Option.some.injEq] at hi
        subst hi
        have e0 : ev (.tmp 1) = .pointer (some ⟨b, 0, none⟩) := hout 1 (by kernel_rfl) (show (1 : Nat) < 43 by decide)
        rw [if_neg (by decide)]
        refine .inl ⟨w', ?_, hc⟩
        show _ = Result.ok (Next.value (.pointer (some ⟨b, 0, none⟩))) w'
        simp [execOp, e0, hcst, go_sem]
      | 1, _ =>
        simp only [List.getElem?_toArray, List.getElem?_cons_zero, List.getElem?_cons_succ, Option.some.injEq] at hi
        subst hi
        have e0 : ev (.tmp 22) = .pointer (some ⟨b, 0, none⟩) := hin 22 0 ⟨0, .data⟩ (by kernel_rfl) (by simp) rfl rfl (show (22 : Nat) < 43 by decide)
        rw [if_neg (by decide)]
        refine .inl ⟨w', ?_, hc⟩
        show _ = Result.ok (Next.value (.pointer (some ⟨b, 0, none⟩))) w'
        simp [execOp, e0, hcst, go_sem]
      | 2, _ =>
        simp only [List.getElem?_toArray, List.getElem?_cons_zero, List.getElem?_cons_succ, Option.some.injEq] at hi
        subst hi
        have e0 : ev (.tmp 23) = .pointer (some ⟨b, 0, none⟩) := hin 23 1 ⟨1, .data⟩ (by kernel_rfl) (by simp) rfl rfl (show (23 : Nat) < 43 by decide)
        rw [if_neg (by decide)]
        refine .inl ⟨w', ?_, hc⟩
        show _ = Result.ok (Next.value (.pointer (some ⟨b, 3, none⟩))) w'
        simp [execOp, e0, hcst, go_sem]
      | 3, _ =>
        simp only [List.getElem?_toArray, List.getElem?_cons_zero, List.getElem?_cons_succ, Option.some.injEq] at hi
        subst hi
        have e0 : ev (.tmp 24) = .pointer (some ⟨b, 3, none⟩) := hin 24 2 ⟨2, .data⟩ (by kernel_rfl) (by simp) rfl rfl (show (24 : Nat) < 43 by decide)
        rw [if_neg (by decide)]
        have hl2 : sx ≤ 0 := Nat.le_trans hlm (Nat.le_of_eq (by kernel_rfl))
        refine .inl ⟨w', ?_, hc⟩
        show _ = Result.ok (Next.value (.pointer (some ⟨f, o, none⟩))) w'
        have q1 := (HF2.out sx w' (Nat.le_trans hl2 (by decide)) hc).1
        simp [execOp, e0, hcst, go_sem, q1]
      | 4, _ =>
        simp only [List.getElem?_toArray, List.getElem?_cons_zero, List.getElem?_cons_succ, Option.some.injEq] at hi
        subst hi
        have e0 : ev (.tmp 1) = .pointer (some ⟨b, 0, none⟩) := hout 1 (by kernel_rfl) (show (1 : Nat) < 43 by decide)
        rw [if_neg (by decide)]
        refine .inl ⟨w', ?_, hc⟩
        show _ = Result.ok (Next.value (.pointer (some ⟨b, 0, none⟩))) w'
        simp [execOp, e0, hcst, go_sem]
      | 5, _ =>
        simp only [List.getElem?_toArray, List.getElem?_cons_zero, List.getElem?_cons_succ, Option.some.injEq] at hi
        subst hi
        have e0 : ev (.tmp 26) = .pointer (some ⟨b, 0, none⟩) := hin 26 4 ⟨4, .data⟩ (by kernel_rfl) (by simp) rfl rfl (show (26 : Nat) < 43 by decide)
        rw [if_neg (by decide)]
        refine .inl ⟨w', ?_, hc⟩
        show _ = Result.ok (Next.value (.pointer (some ⟨b, 0, none⟩))) w'
        simp [execOp, e0, hcst, go_sem]
      | 6, _ =>
        simp only [List.getElem?_toArray, List.getElem?_cons_zero, List.getElem?_cons_succ, Option.some.injEq] at hi
        subst hi
        have e0 : ev (.tmp 27) = .pointer (some ⟨b, 0, none⟩) := hin 27 5 ⟨5, .data⟩ (by kernel_rfl) (by simp) rfl rfl (show (27 : Nat) < 43 by decide)
        rw [if_neg (by decide)]
        refine .inl ⟨w', ?_, hc⟩
        show _ = Result.ok (Next.value (.pointer (some ⟨b, 4, none⟩))) w'
        simp [execOp, e0, hcst, go_sem]
      | 7, _ =>
        simp only [List.getElem?_toArray, List.getElem?_cons_zero, List.getElem?_cons_succ, Option.some.injEq] at hi
        subst hi
        have e0 : ev (.tmp 28) = .pointer (some ⟨b, 4, none⟩) := hin 28 6 ⟨6, .data⟩ (by kernel_rfl) (by simp) rfl rfl (show (28 : Nat) < 43 by decide)
        rw [if_neg (by decide)]
        have hl2 : sx ≤ 0 := Nat.le_trans hlm (Nat.le_of_eq (by kernel_rfl))
        refine .inl ⟨w', ?_, hc⟩
        show _ = Result.ok (Next.value (.pointer (some ⟨c1, c2, none⟩))) w'
        have q1 := (HF2.out sx w' (Nat.le_trans hl2 (by decide)) hc).2
        simp [execOp, e0, hcst, go_sem, q1]
      | 8, _ =>
        simp only [List.getElem?_toArray, List.getElem?_cons_zero, List.getElem?_cons_succ, Option.some.injEq] at hi
        subst hi
        have e0 : ev (.tmp 1) = .pointer (some ⟨b, 0, none⟩) := hout 1 (by kernel_rfl) (show (1 : Nat) < 43 by decide)
        rw [if_neg (by decide)]
        refine .inl ⟨w', ?_, hc⟩
        show _ = Result.ok (Next.value (.pointer (some ⟨b, 0, none⟩))) w'
        simp [execOp, e0, hcst, go_sem]
      | 9, _ =>
        simp only [List.getElem?_toArray, List.getElem?_cons_zero, List.getElem?_cons_succ, Option.some.injEq] at hi
        subst hi
        have e0 : ev (.tmp 1) = .pointer (some ⟨b, 0, none⟩) := hout 1 (by kernel_rfl) (show (1 : Nat) < 43 by decide)
        rw [if_neg (by decide)]
        refine .inl ⟨w', ?_, hc⟩
        show _ = Result.ok (Next.value (.pointer (some ⟨b, 0, none⟩))) w'
        simp [execOp, e0, hcst, go_sem]
      | 10, _ =>
        simp only [List.getElem?_toArray, List.getElem?_cons_zero, List.getElem?_cons_succ, Option.some.injEq] at hi
        subst hi
        have e0 : ev (.tmp 25) = .pointer (some ⟨f, o, none⟩) := hin 25 3 ⟨3, .data⟩ (by kernel_rfl) (by simp) rfl rfl (show (25 : Nat) < 43 by decide)
        rw [if_neg (by decide)]
        refine .inl ⟨w', ?_, hc⟩
        show _ = Result.ok (Next.value (.pointer (some ⟨f, o, none⟩))) w'
        simp [execOp, e0, hcst, go_sem]
      | 11, _ =>
        simp only [List.getElem?_toArray, List.getElem?_cons_zero, List.getElem?_cons_succ, Option.some.injEq] at hi
        subst hi
        have e0 : ev (.tmp 32) = .pointer (some ⟨f, o, none⟩) := hin 32 10 ⟨10, .data⟩ (by kernel_rfl) (by simp) rfl rfl (show (32 : Nat) < 43 by decide)
        rw [if_neg (by decide)]
        refine .inl ⟨w', ?_, hc⟩
        show _ = Result.ok (Next.value (.pointer (some ⟨f, o + 4, none⟩))) w'
        simp [execOp, e0, hcst, go_sem]
      | 12, _ =>
        simp only [List.getElem?_toArray, List.getElem?_cons_zero, List.getElem?_cons_succ, Option.some.injEq] at hi
        subst hi
        have e0 : ev (.tmp 33) = .pointer (some ⟨f, o + 4, none⟩) := hin 33 11 ⟨11, .data⟩ (by kernel_rfl) (by simp) rfl rfl (show (33 : Nat) < 43 by decide)
        have e1 : ev (.tmp 30) = .pointer (some ⟨b, 0, none⟩) := hin 30 8 ⟨8, .data⟩ (by kernel_rfl) (by simp) rfl rfl (show (30 : Nat) < 43 by decide)
        rw [if_pos (by decide)]
        have hsx : sx = 0 := hks 0 rfl
        subst hsx
        have hw : w' = D := hc
        subst hw
        refine .inr (.inl ⟨rfl, _, ?_, rfl⟩)
        obtain ⟨q0, q1⟩ := H4.out.1
        have q2 := H4.out.2
        simp [execOp, e0, e1, hcst, go_sem, q1, q2, Result.andThen]
      | 13, _ =>
        simp only [List.getElem?_toArray, List.getElem?_cons_zero, List.getElem?_cons_succ, Option.some.injEq] at hi
        subst hi
        have e0 : ev (.tmp 29) = .pointer (some ⟨c1, c2, none⟩) := hin 29 7 ⟨7, .data⟩ (by kernel_rfl) (by simp) rfl rfl (show (29 : Nat) < 43 by decide)
        rw [if_neg (by decide)]
        refine .inl ⟨w', ?_, hc⟩
        show _ = Result.ok (Next.value (.pointer (some ⟨c1, c2, none⟩))) w'
        simp [execOp, e0, hcst, go_sem]
      | 14, _ =>
        simp only [List.getElem?_toArray, List.getElem?_cons_zero, List.getElem?_cons_succ, Option.some.injEq] at hi
        subst hi
        have e0 : ev (.tmp 34) = .pointer (some ⟨c1, c2, none⟩) := hin 34 13 ⟨13, .data⟩ (by kernel_rfl) (by simp) rfl rfl (show (34 : Nat) < 43 by decide)
        rw [if_neg (by decide)]
        refine .inl ⟨w', ?_, hc⟩
        show _ = Result.ok (Next.value (.pointer (some ⟨c1, c2 + 3, none⟩))) w'
        simp [execOp, e0, hcst, go_sem]
      | 15, _ =>
        simp only [List.getElem?_toArray, List.getElem?_cons_zero, List.getElem?_cons_succ, Option.some.injEq] at hi
        subst hi
        have e0 : ev (.tmp 35) = .pointer (some ⟨c1, c2 + 3, none⟩) := hin 35 14 ⟨14, .data⟩ (by kernel_rfl) (by simp) rfl rfl (show (35 : Nat) < 43 by decide)
        have e1 : ev (.tmp 31) = .pointer (some ⟨b, 0, none⟩) := hin 31 9 ⟨9, .data⟩ (by kernel_rfl) (by simp) rfl rfl (show (31 : Nat) < 43 by decide)
        rw [if_pos (by decide)]
        have hsx : sx = 1 := hks 1 rfl
        subst hsx
        have hw : w' = (D.setCell ⟨f, o + 4, none⟩ (.pointer (some ⟨b, 0, none⟩))) := hc
        subst hw
        refine .inr (.inl ⟨rfl, _, ?_, rfl⟩)
        obtain ⟨q0, q1⟩ := H5.out.1
        have q2 := H5.out.2
        simp [execOp, e0, e1, hcst, go_sem, q1, q2, Result.andThen]
    · intro w8 hc
      simp only [lexF, Act.put, List.setIfInBounds_toArray, List.set_cons_succ, List.set_cons_zero, List.getD_cons_succ, List.getD_cons_zero]
      have hw : w8 = ((D.setCell ⟨f, o + 4, none⟩ (.pointer (some ⟨b, 0, none⟩))).setCell ⟨c1, c2 + 3, none⟩ (.pointer (some ⟨b, 0, none⟩))) := hc
      subst hw
      have g5 := G6.out
      have k5 := H6.out
      clear H1 H2 H3 H4 H5 H6 HF HF2 G6 HA HD
      go_wp2
      go_end0
      exact ⟨rfl, rfl⟩
end Go.Proofs.YtdkiegkgnimapabDoor.Sgg
