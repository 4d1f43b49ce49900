/- segOf, free, drop. -/
import Derived.Test.YtdkiegkgnimapabDoorBx
import Derived.Test.YtdkiegkgnimapabDoorAnyQ
import Derived.Carry
import Derived.Shelf.Abstract
import Derived.Deep.RegionHeld
set_option linter.unusedVariables false
set_option linter.unusedSimpArgs false
set_option maxRecDepth 8000
namespace Go.Proofs.YtdkiegkgnimapabDoor
open Go.RowKit Go.Deep Drm Go.Shelf
open Sgg (I64 SM)
open Sgm (ids addS tchS rmvS evi eviS)
open Slb (Pg SlIn tkC tkE tkL frE frL ofI takI)
open Tbl (TM txt hsh)
open Tab (Tb fnd)

theorem enter56 (args : Array Value) (w : World) : (callFunc 51 args).run Tryd.prog w = .ok (.enter 51 args) w := enters_of Tryd.func51 (by kernel_rfl) rfl args w
theorem enter68 (args : Array Value) (w : World) : (callFunc 63 args).run Tryd.prog w = .ok (.enter 63 args) w := enters_of Tryd.func63 (by kernel_rfl) rfl args w
section
variable {w0 W W' : World} {c : Nat} {a : Ad} {pg pg' : List Pg} {sg : Nat → Sgm.St} {n : Nat} {M : Int → Option Ou} {i : Int}
/-- A world, and what is known behind it. -/
def CX (A : World) (Q : World → Prop) (n : Nat) (W : World) : Prop := match n with
  | 0 => W = A
  | _ => Q W
/-- The same is known whatever has come up. -/
def CI (Q : World → Prop) (n : Nat) (W : World) : Prop := Q W
theorem ML.c0 (h : ML w0 c a pg sg n M W) : W.cell? ⟨c, 0, none⟩ = some (.pointer (some ⟨a.f, 0, none⟩)) := h.mx.own.cell rfl
theorem ML.c1 (h : ML w0 c a pg sg n M W) : W.cell? ⟨c, 1, none⟩ = some (.pointer (some ⟨a.t, 0, none⟩)) := h.mx.own.cell rfl
theorem ML.c2 (h : ML w0 c a pg sg n M W) : W.cell? ⟨c, 2, none⟩ = some (.slice (some ⟨a.b, 0, none⟩) 6 a.cp) := h.mx.own.cell rfl
theorem ML.c3 (h : ML w0 c a pg sg n M W) : W.cell? ⟨c, 3, none⟩ = some (.map (some a.m)) := h.mx.own.cell rfl
theorem ML.r (h : ML w0 c a pg sg n M W) {k : Nat} (hk : k < 6) : W.cell? ⟨a.b, k, none⟩ = some (.pointer (some ⟨a.g k, 0, none⟩)) := h.mx.row.cell (rowL_get a.g a.tl hk)
set_option maxHeartbeats 1000000 in
theorem segOf_p (h : ML w0 c a pg sg n M W) (hg : Slb.Good pg) (hi : i ≤ 9223372036854775807) {k : Nat} (hk : k < 6) (ho : ofI pg i = (k : Int)) :
    Calls Tryd.prog 28 #[.pointer (some ⟨c, 0, none⟩), .int .i64 i] W fun e W' => e = .returned (.pointer (some ⟨a.g k, 0, none⟩)) ∧ Below W.heap.size W W' := by
  have HA : Hid (Below W.heap.size W { W with drawn := W.drawn + 1 }) := ⟨rfl, rfl, rfl, Nat.le_refl _, fun _ _ => rfl⟩
  have H2 : Hid (∀ w', Below W.heap.size W w' → w'.cell? ⟨c, 2, none⟩ = some (.slice (some ⟨a.b, 0, none⟩) 6 a.cp)) := fun w' b => (h.on b).c2
  have H0 : Hid (∀ w', Below W.heap.size W w' → w'.cell? ⟨c, 0, none⟩ = some (.pointer (some ⟨a.f, 0, none⟩))) := fun w' b => (h.on b).c0
  have HR : Hid (∀ w', Below W.heap.size W w' → w'.cell? ⟨a.b, k, none⟩ = some (.pointer (some ⟨a.g k, 0, none⟩))) := fun w' b => (h.on b).r hk
  have HC : Hid (∀ w', Below W.heap.size W w' → Calls Tryd.prog 51 #[.pointer (some ⟨a.f, 0, none⟩), .int .i64 i] w' fun e W' => e = .returned (.int .i64 (k : Int)) ∧ Below W.heap.size W W') := fun w' b => (of_p (h.on b) hg hi).mono (by
    rintro e W' ⟨rfl, b2⟩
    rw [ho]
    exact ⟨rfl, b.trans (b2.mono b.size)⟩)
  have hk2 : (k : Int) < 6 := by omega
  generalize a.b = ab at *
  generalize a.f = af at *
  generalize a.g k = agk at *
  generalize a.cp = acp at *
  clear h ho hg hi
  go_enter Tryd.func28, Tryd.ntmps28
  go_wp2
  refine wp_region_chain (by kernel_rfl) (by kernel_rfl) (fun jx => ([.pointer (some ⟨c, 0, none⟩), .pointer (some ⟨c, 0, none⟩), .pointer (some ⟨c, 2, none⟩), .slice (some ⟨ab, 0, none⟩) 6 acp, .pointer (some ⟨c, 0, none⟩), .pointer (some ⟨c, 0, none⟩), .pointer (some ⟨c, 0, none⟩), .pointer (some ⟨af, 0, none⟩), .int .i64 i, .int .i64 (k : Int), .pointer (some ⟨ab, k, none⟩), .pointer (some ⟨agk, 0, none⟩), .pointer (some ⟨agk, 0, none⟩)] : List Value).getD jx undef) [9] (by kernel_rfl) (CI (Below W.heap.size W)) (HA.out) ?_ ?_
  · intro jx ox hi sx w' ev hlm hks hc hin hout hcst hfn
    have hltx : jx < 13 := by
      have := (Array.getElem?_eq_some_iff.1 hi).1
      simpa using this
    match jx, hltx with
    | 0, _ =>
      simp only [List.getElem?_toArray, List.getElem?_cons_zero, List.getElem?_cons_succ, Option.some.injEq] at hi
      subst hi
      have e0 : ev (.tmp 0) = .pointer (some ⟨c, 0, none⟩) := hout 0 (by kernel_rfl) (show (0 : Nat) < 17 by decide)
      rw [if_neg (by decide)]
      refine .inl ⟨w', ?_, hc⟩
      show _ = Result.ok (Next.value (.pointer (some ⟨c, 0, none⟩))) w'
      simp [execOp, e0, hcst, go_sem]
    | 1, _ =>
      simp only [List.getElem?_toArray, List.getElem?_cons_zero, List.getElem?_cons_succ, Option.some.injEq] at hi
      subst hi
      have e0 : ev (.tmp 5) = .pointer (some ⟨c, 0, none⟩) := hin 5 0 ⟨0, .data⟩ (by kernel_rfl) (by simp) rfl rfl (show (5 : Nat) < 17 by decide)
      rw [if_neg (by decide)]
      refine .inl ⟨w', ?_, hc⟩
      show _ = Result.ok (Next.value (.pointer (some ⟨c, 0, none⟩))) w'
      simp [execOp, e0, hcst, go_sem]
    | 2, _ =>
      simp only [List.getElem?_toArray, List.getElem?_cons_zero, List.getElem?_cons_succ, Option.some.injEq] at hi
      subst hi
      have e0 : ev (.tmp 6) = .pointer (some ⟨c, 0, none⟩) := hin 6 1 ⟨1, .data⟩ (by kernel_rfl) (by simp) rfl rfl (show (6 : Nat) < 17 by decide)
      rw [if_neg (by decide)]
      refine .inl ⟨w', ?_, hc⟩
      show _ = Result.ok (Next.value (.pointer (some ⟨c, 2, none⟩))) w'
      simp [execOp, e0, hcst, go_sem]
    | 3, _ =>
      simp only [List.getElem?_toArray, List.getElem?_cons_zero, List.getElem?_cons_succ, Option.some.injEq] at hi
      subst hi
      have e0 : ev (.tmp 7) = .pointer (some ⟨c, 2, none⟩) := hin 7 2 ⟨2, .data⟩ (by kernel_rfl) (by simp) rfl rfl (show (7 : Nat) < 17 by decide)
      rw [if_neg (by decide)]
      refine .inl ⟨w', ?_, hc⟩
      show _ = Result.ok (Next.value (.slice (some ⟨ab, 0, none⟩) 6 acp)) w'
      have q := H2.out w' hc
      simp [execOp, e0, hcst, go_sem, q]
    | 4, _ =>
      simp only [List.getElem?_toArray, List.getElem?_cons_zero, List.getElem?_cons_succ, Option.some.injEq] at hi
      subst hi
      have e0 : ev (.tmp 0) = .pointer (some ⟨c, 0, none⟩) := hout 0 (by kernel_rfl) (show (0 : Nat) < 17 by decide)
      rw [if_neg (by decide)]
      refine .inl ⟨w', ?_, hc⟩
      show _ = Result.ok (Next.value (.pointer (some ⟨c, 0, none⟩))) w'
      simp [execOp, e0, hcst, go_sem]
    | 5, _ =>
      simp only [List.getElem?_toArray, List.getElem?_cons_zero, List.getElem?_cons_succ, Option.some.injEq] at hi
      subst hi
      have e0 : ev (.tmp 9) = .pointer (some ⟨c, 0, none⟩) := hin 9 4 ⟨4, .data⟩ (by kernel_rfl) (by simp) rfl rfl (show (9 : Nat) < 17 by decide)
      rw [if_neg (by decide)]
      refine .inl ⟨w', ?_, hc⟩
      show _ = Result.ok (Next.value (.pointer (some ⟨c, 0, none⟩))) w'
      simp [execOp, e0, hcst, go_sem]
    | 6, _ =>
      simp only [List.getElem?_toArray, List.getElem?_cons_zero, List.getElem?_cons_succ, Option.some.injEq] at hi
      subst hi
      have e0 : ev (.tmp 10) = .pointer (some ⟨c, 0, none⟩) := hin 10 5 ⟨5, .data⟩ (by kernel_rfl) (by simp) rfl rfl (show (10 : Nat) < 17 by decide)
      rw [if_neg (by decide)]
      refine .inl ⟨w', ?_, hc⟩
      show _ = Result.ok (Next.value (.pointer (some ⟨c, 0, none⟩))) w'
      simp [execOp, e0, hcst, go_sem]
    | 7, _ =>
      simp only [List.getElem?_toArray, List.getElem?_cons_zero, List.getElem?_cons_succ, Option.some.injEq] at hi
      subst hi
      have e0 : ev (.tmp 11) = .pointer (some ⟨c, 0, none⟩) := hin 11 6 ⟨6, .data⟩ (by kernel_rfl) (by simp) rfl rfl (show (11 : Nat) < 17 by decide)
      rw [if_neg (by decide)]
      refine .inl ⟨w', ?_, hc⟩
      show _ = Result.ok (Next.value (.pointer (some ⟨af, 0, none⟩))) w'
      have q := H0.out w' hc
      simp [execOp, e0, hcst, go_sem, q]
    | 8, _ =>
      simp only [List.getElem?_toArray, List.getElem?_cons_zero, List.getElem?_cons_succ, Option.some.injEq] at hi
      subst hi
      have e0 : ev (.tmp 1) = .int .i64 i := hout 1 (by kernel_rfl) (show (1 : Nat) < 17 by decide)
      rw [if_neg (by decide)]
      refine .inl ⟨w', ?_, hc⟩
      show _ = Result.ok (Next.value (.int .i64 i)) w'
      simp [execOp, e0, hcst, go_sem]
    | 9, _ =>
      simp only [List.getElem?_toArray, List.getElem?_cons_zero, List.getElem?_cons_succ, Option.some.injEq] at hi
      subst hi
      have e0 : ev (.tmp 12) = .pointer (some ⟨af, 0, none⟩) := hin 12 7 ⟨7, .data⟩ (by kernel_rfl) (by simp) rfl rfl (show (12 : Nat) < 17 by decide)
      have e1 : ev (.tmp 13) = .int .i64 i := hin 13 8 ⟨8, .data⟩ (by kernel_rfl) (by simp) rfl rfl (show (13 : Nat) < 17 by decide)
      rw [if_pos (by decide)]
      have hsx : sx = 0 := hks 0 rfl
      subst hsx
      refine .inr (.inr ⟨51, #[.pointer (some ⟨af, 0, none⟩), .int .i64 i], ?_, ?_⟩)
      · have ef := hfn 51
        simp [execOp, resolve, invoke, ef, hcst, e0, e1, Result.andThen]
        exact enter56 _ _
      · refine (HC.out w' hc).mono ?_
        rintro e w9 ⟨rfl, b9⟩
        exact ⟨rfl, b9⟩
    | 10, _ =>
      simp only [List.getElem?_toArray, List.getElem?_cons_zero, List.getElem?_cons_succ, Option.some.injEq] at hi
      subst hi
      have e0 : ev (.tmp 8) = .slice (some ⟨ab, 0, none⟩) 6 acp := hin 8 3 ⟨3, .data⟩ (by kernel_rfl) (by simp) rfl rfl (show (8 : Nat) < 17 by decide)
      have e1 : ev (.tmp 14) = .int .i64 (k : Int) := hin 14 9 ⟨9, .data⟩ (by kernel_rfl) (by simp) rfl rfl (show (14 : Nat) < 17 by decide)
      rw [if_neg (by decide)]
      refine .inl ⟨w', ?_, hc⟩
      show _ = Result.ok (Next.value (.pointer (some ⟨ab, k, none⟩))) w'
      simp [execOp, e0, e1, hcst, go_sem, hk2]
    | 11, _ =>
      simp only [List.getElem?_toArray, List.getElem?_cons_zero, List.getElem?_cons_succ, Option.some.injEq] at hi
      subst hi
      have e0 : ev (.tmp 15) = .pointer (some ⟨ab, k, none⟩) := hin 15 10 ⟨10, .data⟩ (by kernel_rfl) (by simp) rfl rfl (show (15 : Nat) < 17 by decide)
      rw [if_neg (by decide)]
      refine .inl ⟨w', ?_, hc⟩
      show _ = Result.ok (Next.value (.pointer (some ⟨agk, 0, none⟩))) w'
      have q := HR.out w' hc
      simp [execOp, e0, hcst, go_sem, q]
    | 12, _ =>
      simp only [List.getElem?_toArray, List.getElem?_cons_zero, List.getElem?_cons_succ, Option.some.injEq] at hi
      subst hi
      have e0 : ev (.tmp 16) = .pointer (some ⟨agk, 0, none⟩) := hin 16 11 ⟨11, .data⟩ (by kernel_rfl) (by simp) rfl rfl (show (16 : Nat) < 17 by decide)
      rw [if_neg (by decide)]
      refine .inl ⟨w', ?_, hc⟩
      show _ = Result.ok (Next.value (.pointer (some ⟨agk, 0, none⟩))) w'
      simp [execOp, e0, hcst, go_sem]
  · intro w9 hc
    simp only [lexF, Act.put, List.setIfInBounds_toArray, List.set_cons_succ, List.set_cons_zero, List.getD_cons_succ, List.getD_cons_zero]
    go_wp2
    go_ret
    exact ⟨rfl, hc⟩
def FreeP (w0 : World) (c : Nat) (a : Ad) (key : List UInt8) (pg : List Pg) (sg : Nat → Sgm.St) (n : Nat) (M : Int → Option Ou) (W W' : World) : Prop := ∃ F', ML w0 c (a.tab (a.tb.delT hsh key) F') pg sg n M W' ∧ OffD W W'
set_option maxHeartbeats 2000000 in
theorem free_q (h : ML w0 c a pg sg n M W) (hg : Slb.Good pg) (hi : I64 i) {o : Ou} (ho : M i = some o) (hkl : o.x.k.length ≤ 281474976710656) (hc : a.tb.all.length ≤ 100000) :
    Calls Tryd.prog 40 #[.pointer (some ⟨c, 0, none⟩), .int .i64 i] W fun e W' => e = .returned (ouV o) ∧ FreeP w0 c a o.x.k (frL pg i) sg (n - 1) (updO M i none) W W' := by
  have H3 : Hid (∀ w', Below W.heap.size W w' → w'.cell? ⟨c, 3, none⟩ = some (.map (some a.m))) := fun w' b => (h.on b).c3
  have HL : Hid (∀ w', Below W.heap.size W w' → (Instr.lookup 53 (.map (some a.m)) (.int .i64 i) false).run Tryd.prog w' = .ok (ouV o) w') := fun w' b => by
    have := (h.on b).mx.mp.look hi
    rw [ho] at this
    exact this
  have HH := hide h
  have b1 : Below W.heap.size W (W.alloc (.cells #[.string ⟨#[]⟩, .string ⟨#[]⟩, .int .u32 0, .int .i64 0, .int .u64 0, .bool false] 40)) := (Below.refl _ W).alloc (Nat.le_refl _) _
  have h3 := H3.out _ b1
  have hl := HL.out _ b1
  unfold ouV at hl
  unfold ouV
  obtain ⟨tk, htk⟩ : ∃ tk, tk = txt o.x.k := ⟨_, rfl⟩
  obtain ⟨tv, htv⟩ : ∃ tv, tv = txt o.x.v := ⟨_, rfl⟩
  rw [← htk, ← htv] at hl ⊢
  obtain ⟨W1, hW1⟩ : ∃ W1, W1 = (W.alloc (.cells #[.string ⟨#[]⟩, .string ⟨#[]⟩, .int .u32 0, .int .i64 0, .int .u64 0, .bool false] 40)).alloc (.cells #[.string tk, .string tv, .int .u32 o.x.fl, .int .i64 o.x.ex, .int .u64 o.x.ve, .bool o.c] 40) := ⟨_, rfl⟩
  have b2 : Below W.heap.size W W1 := by rw [hW1]; exact b1.alloc (by simp) _
  have k4 : Blk W1 W.heap.size [.string ⟨#[]⟩, .string ⟨#[]⟩, .int .u32 0, .int .i64 0, .int .u64 0, .bool false] 40 := by rw [hW1]; exact (Blk.new W _ 40).alloc _
  have k5 : Blk W1 (W.heap.size + 1) [.string tk, .string tv, .int .u32 o.x.fl, .int .i64 o.x.ex, .int .u64 o.x.ve, .bool o.c] 40 := by
    rw [hW1]
    have := Blk.new (W.alloc (.cells #[.string ⟨#[]⟩, .string ⟨#[]⟩, .int .u32 0, .int .i64 0, .int .u64 0, .bool false] 40)) [.string tk, .string tv, .int .u32 o.x.fl, .int .i64 o.x.ex, .int .u64 o.x.ve, .bool o.c] 40
    rw [World.size_alloc] at this
    exact this
  have h0 := (HH.out.on b2).c0
  have cF := hide (free_p (HH.out.on b2) hg hi.2)
  have HB := hide (And.intro k4 k5)
  have O1 := hide (OffD.below b2)
  rw [hW1] at h0 cF
  have HTK := hide htk
  have HTV := hide htv
  clear h HL htk htv b1 b2 k4 k5
  have HW1 := hide hW1
  clear hW1
  go_enter Tryd.func40, Tryd.ntmps40
  go_wp2_with fail
  refine cF.out.mono ?_
  rintro e W2 ⟨rfl, m2, o2⟩
  clear cF h0 h3 hl
  have o3 : OffD W1 W2 := by rw [HW1.out]; exact o2
  have HB2 := hide (And.intro (HB.out.1.offD o3 rfl) (HB.out.2.offD o3 rfl))
  have O2 := hide (O1.out.trans o3)
  clear o3
  clear o2 HB O1 HW1 W1 H3
  obtain ⟨B4, hB4⟩ : ∃ B4, B4 = W.heap.size := ⟨_, rfl⟩
  obtain ⟨B5, hB5⟩ : ∃ B5, B5 = W.heap.size + 1 := ⟨_, rfl⟩
  rw [← hB5, ← hB4] at HB2
  rw [← hB5, ← hB4]
  have HLO : Hid (w0.heap.size ≤ B4 ∧ B4 ≠ B5) := by
    have := HH.out.bel.size
    exact ⟨by omega, by omega⟩
  have HN4 := hide hB4
  clear HH hB4 hB5 hg
  have M2 := hide m2
  have q1 := hide m2.c1
  have q5 : Hid (W2.cell? ⟨B5, 0, none⟩ = some (.string tk)) := HB2.out.2.cell rfl
  have m3 : ML w0 c a (frL pg i) sg n M { W2 with drawn := W2.drawn + 1 } := m2.drewN 1
  have HD : Hid (Calls Tryd.prog 63 #[.pointer (some ⟨a.t, 0, none⟩), .string tk] { W2 with drawn := W2.drawn + 1 } fun e W' => e = .returned (.bool (fnd o.x.k a.tb.all).isSome) ∧ FreeP w0 c a o.x.k (frL pg i) sg n M { W2 with drawn := W2.drawn + 1 } W') := by
    rw [HTK.out]
    exact tdel_p m3 hkl hc
  clear m2 m3
  have HA : Hid (CX { W2 with drawn := W2.drawn + 1 } (FreeP w0 c a o.x.k (frL pg i) sg n M { W2 with drawn := W2.drawn + 1 }) 0 { W2 with drawn := W2.drawn + 1 }) := rfl
  go_wp2
  refine wp_region_chain (by kernel_rfl) (by kernel_rfl) (fun jx => ([.pointer (some ⟨c, 0, none⟩), .pointer (some ⟨c, 0, none⟩), .pointer (some ⟨c, 1, none⟩), .pointer (some ⟨a.t, 0, none⟩), .pointer (some ⟨B5, 0, none⟩), .pointer (some ⟨B5, 0, none⟩), .string tk, .bool (fnd o.x.k a.tb.all).isSome] : List Value).getD jx undef) [7] (by kernel_rfl) (CX { W2 with drawn := W2.drawn + 1 } (FreeP w0 c a o.x.k (frL pg i) sg n M { W2 with drawn := W2.drawn + 1 })) (HA.out) ?_ ?_
  · intro jx ox hi sx w' ev hlm hks hc hin hout hcst hfn
    have hltx : jx < 8 := by
      have := (Array.getElem?_eq_some_iff.1 hi).1
      simpa using this
    match jx, hltx with
    | 0, _ =>
      simp only [List.getElem?_toArray, List.getElem?_cons_zero, List.getElem?_cons_succ, Option.some.injEq] at hi
      subst hi
      have e0 : ev (.tmp 0) = .pointer (some ⟨c, 0, none⟩) := hout 0 (by kernel_rfl) (show (0 : Nat) < 32 by decide)
      rw [if_neg (by decide)]
      refine .inl ⟨w', ?_, hc⟩
      show _ = Result.ok (Next.value (.pointer (some ⟨c, 0, none⟩))) w'
      simp [execOp, e0, hcst, go_sem]
    | 1, _ =>
      simp only [List.getElem?_toArray, List.getElem?_cons_zero, List.getElem?_cons_succ, Option.some.injEq] at hi
      subst hi
      have e0 : ev (.tmp 18) = .pointer (some ⟨c, 0, none⟩) := hin 18 0 ⟨0, .data⟩ (by kernel_rfl) (by simp) rfl rfl (show (18 : Nat) < 32 by decide)
      rw [if_neg (by decide)]
      refine .inl ⟨w', ?_, hc⟩
      show _ = Result.ok (Next.value (.pointer (some ⟨c, 0, none⟩))) w'
      simp [execOp, e0, hcst, go_sem]
    | 2, _ =>
      simp only [List.getElem?_toArray, List.getElem?_cons_zero, List.getElem?_cons_succ, Option.some.injEq] at hi
      subst hi
      have e0 : ev (.tmp 19) = .pointer (some ⟨c, 0, none⟩) := hin 19 1 ⟨1, .data⟩ (by kernel_rfl) (by simp) rfl rfl (show (19 : Nat) < 32 by decide)
      rw [if_neg (by decide)]
      refine .inl ⟨w', ?_, hc⟩
      show _ = Result.ok (Next.value (.pointer (some ⟨c, 1, none⟩))) w'
      simp [execOp, e0, hcst, go_sem]
    | 3, _ =>
      simp only [List.getElem?_toArray, List.getElem?_cons_zero, List.getElem?_cons_succ, Option.some.injEq] at hi
      subst hi
      have e0 : ev (.tmp 20) = .pointer (some ⟨c, 1, none⟩) := hin 20 2 ⟨2, .data⟩ (by kernel_rfl) (by simp) rfl rfl (show (20 : Nat) < 32 by decide)
      rw [if_neg (by decide)]
      refine .inl ⟨w', ?_, hc⟩
      show _ = Result.ok (Next.value (.pointer (some ⟨a.t, 0, none⟩))) w'
      have hl2 : sx ≤ 0 := Nat.le_trans hlm (Nat.le_of_eq (by kernel_rfl))
      obtain rfl : sx = 0 := by omega
      have hw : w' = { W2 with drawn := W2.drawn + 1 } := hc
      have q := q1.out
      subst hw
      simp [execOp, e0, hcst, go_sem, q]
    | 4, _ =>
      simp only [List.getElem?_toArray, List.getElem?_cons_zero, List.getElem?_cons_succ, Option.some.injEq] at hi
      subst hi
      have e0 : ev (.tmp 5) = .pointer (some ⟨B5, 0, none⟩) := hout 5 (by kernel_rfl) (show (5 : Nat) < 32 by decide)
      rw [if_neg (by decide)]
      refine .inl ⟨w', ?_, hc⟩
      show _ = Result.ok (Next.value (.pointer (some ⟨B5, 0, none⟩))) w'
      simp [execOp, e0, hcst, go_sem]
    | 5, _ =>
      simp only [List.getElem?_toArray, List.getElem?_cons_zero, List.getElem?_cons_succ, Option.some.injEq] at hi
      subst hi
      have e0 : ev (.tmp 22) = .pointer (some ⟨B5, 0, none⟩) := hin 22 4 ⟨4, .data⟩ (by kernel_rfl) (by simp) rfl rfl (show (22 : Nat) < 32 by decide)
      rw [if_neg (by decide)]
      refine .inl ⟨w', ?_, hc⟩
      show _ = Result.ok (Next.value (.pointer (some ⟨B5, 0, none⟩))) w'
      simp [execOp, e0, hcst, go_sem]
    | 6, _ =>
      simp only [List.getElem?_toArray, List.getElem?_cons_zero, List.getElem?_cons_succ, Option.some.injEq] at hi
      subst hi
      have e0 : ev (.tmp 23) = .pointer (some ⟨B5, 0, none⟩) := hin 23 5 ⟨5, .data⟩ (by kernel_rfl) (by simp) rfl rfl (show (23 : Nat) < 32 by decide)
      rw [if_neg (by decide)]
      refine .inl ⟨w', ?_, hc⟩
      show _ = Result.ok (Next.value (.string tk)) w'
      have hl2 : sx ≤ 0 := Nat.le_trans hlm (Nat.le_of_eq (by kernel_rfl))
      obtain rfl : sx = 0 := by omega
      have hw : w' = { W2 with drawn := W2.drawn + 1 } := hc
      have q := q5.out
      subst hw
      simp [execOp, e0, hcst, go_sem, q]
    | 7, _ =>
      simp only [List.getElem?_toArray, List.getElem?_cons_zero, List.getElem?_cons_succ, Option.some.injEq] at hi
      subst hi
      have e0 : ev (.tmp 21) = .pointer (some ⟨a.t, 0, none⟩) := hin 21 3 ⟨3, .data⟩ (by kernel_rfl) (by simp) rfl rfl (show (21 : Nat) < 32 by decide)
      have e1 : ev (.tmp 24) = .string tk := hin 24 6 ⟨6, .data⟩ (by kernel_rfl) (by simp) rfl rfl (show (24 : Nat) < 32 by decide)
      rw [if_pos (by decide)]
      have hsx : sx = 0 := hks 0 rfl
      subst hsx
      refine .inr (.inr ⟨63, #[.pointer (some ⟨a.t, 0, none⟩), .string tk], ?_, ?_⟩)
      · have ef := hfn 63
        simp [execOp, resolve, invoke, ef, hcst, e0, e1, Result.andThen]
        exact enter68 _ _
      · have hw : w' = { W2 with drawn := W2.drawn + 1 } := hc
        subst hw
        refine HD.out.mono ?_
        rintro e w9 ⟨rfl, b9⟩
        exact ⟨rfl, b9⟩
  · intro w9 hc
    simp only [lexF, Act.put, List.setIfInBounds_toArray, List.set_cons_succ, List.set_cons_zero, List.getD_cons_succ, List.getD_cons_zero]
    obtain ⟨F', m3, o3⟩ : FreeP w0 c a o.x.k (frL pg i) sg n M { W2 with drawn := W2.drawn + 1 } w9 := hc
    have HB3 := hide (And.intro (HB2.out.1.offD o3 rfl) (HB2.out.2.offD o3 rfl))
    have O3 := hide (O2.out.trans o3)
    have q3 := m3.c3
    obtain ⟨W4, hr, hm4, k4, hz⟩ := m3.mx.mp.drop hi (by rw [ho]; rfl)
    obtain ⟨m4, o4⟩ := m3.map hm4 k4
    have HR := hide hr
    have hr2 := hr 0
    have HB4 := hide (And.intro (HB3.out.1.offD o4 rfl) (HB3.out.2.offD o4 rfl))
    have O4 := hide (O3.out.trans o4)
    have HM4 := hide m4
    clear m3 o3 hm4 k4 hz m4 o4 hc HB2 HB3 O2 O3 HD HA M2 q1 q5 hr
    simp only [Ad.tab] at q3 hr2
    obtain ⟨x0, x1, x2, x3, x4, x5, -⟩ := cells6 (k := tk) (v := tv) (f := o.x.fl) (e := o.x.ex) (n := o.x.ve) (c := o.c) HB4.out.2
    obtain ⟨y0, y1, y2, y3, y4, y5, z0, z1, z2, z3, z4, z5⟩ := cells6 (k := ⟨#[]⟩) (v := ⟨#[]⟩) (f := 0) (e := 0) (n := 0) (c := false) HB4.out.1
    have HE : Hid (FreeP w0 c a o.x.k (frL pg i) sg (n - 1) (updO M i none) W (put6 W4 B4 tk tv o.x.fl o.x.ex o.x.ve o.c)) := by
      have k6 : Keep [B4] W4 (put6 W4 B4 tk tv o.x.fl o.x.ex o.x.ve o.c) := put6_keep (Keep.refl _ _) (.inl (by simp))
      exact ⟨F', HM4.out.box HB4.out.1 rfl HLO.out.1 k6, O4.out.box (by rw [HN4.out]; exact Nat.le_refl _) k6⟩
    go_wp2
    exact bodyPost_ret (v := .agg #[.string tk, .string tv, .int .u32 o.x.fl, .int .i64 o.x.ex, .int .u64 o.x.ve, .bool o.c]) (by simp [results, Tryd.results40, go_sem, *]) rfl ⟨rfl, HE.out⟩
end
end Go.Proofs.YtdkiegkgnimapabDoor
