/- rec's Good and Size, Dead, owned, big. -/
import Derived.Test.YtdkiegkgnimapabDoorZb
set_option linter.unusedVariables false
set_option linter.unusedSimpArgs false
set_option maxRecDepth 8000
namespace Go.Proofs.YtdkiegkgnimapabDoor
open Go.RowKit Go.Deep Drm Go.Shelf
open Tbl (txt)
def mayBe (k v ver : Nat) : Bool := decide (1 ≤ k) && decide (k ≤ 250) && decide (v ≤ 1024) && decide (0 < ver)
set_option maxHeartbeats 400000 in
theorem mayBe_any (k v ver : Nat) (w : World) : Calls Tryd.prog 36 #[.int .i64 k, .int .i64 v, .int .u64 ver] w fun e w' => e = .returned (.bool (mayBe k v ver)) ∧ w' = w := by
  by_cases h1 : 1 ≤ k
  · have i1 : ((1 : Int) ≤ (k : Int)) = True := eq_true (by omega)
    by_cases h2 : k ≤ 250
    · have i2 : ((k : Int) ≤ 250) = True := eq_true (by omega)
      by_cases h3 : v ≤ 1024
      · have i3 : ((v : Int) ≤ 1024) = True := eq_true (by omega)
        by_cases h4 : 0 < ver
        · have i4 : (0 < ver) = True := eq_true h4
          have E : Hid (mayBe k v ver = true) := by simp [Hid, mayBe, h1, h2, h3, h4]
          clear h1 h2 h3 h4
          go_enter Tryd.func36, Tryd.ntmps36
          go_wp2
          go_ret
          exact ⟨by rw [E.out]; rfl, rfl⟩
        · have i4 : (0 < ver) = False := eq_false h4
          have E : Hid (mayBe k v ver = false) := by simp [Hid, mayBe, h4]
          clear h1 h2 h3 h4
          go_enter Tryd.func36, Tryd.ntmps36
          go_wp2
          go_ret
          exact ⟨by rw [E.out]; rfl, rfl⟩
      · have i3 : ((v : Int) ≤ 1024) = False := eq_false (by omega)
        have E : Hid (mayBe k v ver = false) := by simp [Hid, mayBe, h3]
        clear h1 h2 h3
        go_enter Tryd.func36, Tryd.ntmps36
        go_wp2
        go_ret
        exact ⟨by rw [E.out]; rfl, rfl⟩
    · have i2 : ((k : Int) ≤ 250) = False := eq_false (by omega)
      have E : Hid (mayBe k v ver = false) := by simp [Hid, mayBe, h2]
      clear h1 h2
      go_enter Tryd.func36, Tryd.ntmps36
      go_wp2
      go_ret
      exact ⟨by rw [E.out]; rfl, rfl⟩
  · have i1 : ((1 : Int) ≤ (k : Int)) = False := eq_false (by omega)
    have E : Hid (mayBe k v ver = false) := by simp [Hid, mayBe, h1]
    clear h1
    go_enter Tryd.func36, Tryd.ntmps36
    go_wp2
    go_ret
    exact ⟨by rw [E.out]; rfl, rfl⟩

/-- An item's value. -/
def iV (kb vb : ByteArray) (f e n : Int) : Value := .agg #[.string kb, .string vb, .int .u32 f, .int .i64 e, .int .u64 n]
theorem good_any (kb vb : ByteArray) (f e : Int) (v : Nat) (w : World) : Calls Tryd.prog 19 #[iV kb vb f e v] w fun r w' => r = .returned (.bool (mayBe kb.size vb.size v)) ∧ Below w.heap.size w w' := by
  unfold iV
  have c := hide (mayBe_any kb.size vb.size v)
  generalize mayBe kb.size vb.size v = m at c
  go_enter Tryd.func19, Tryd.ntmps19
  go_wp2_with fail
  refine (c.out _).mono ?_
  rintro e w' ⟨rfl, rfl⟩
  go_wp2
  go_ret
  exact ⟨rfl, (Below.refl _ _).alloc (Nat.le_refl _) _⟩
set_option maxHeartbeats 400000 in
theorem size_any (kb vb : ByteArray) (f e v : Int) (hk : kb.size ≤ 140737488351232) (hv : vb.size ≤ 140737488351232) (w : World) : Calls Tryd.prog 21 #[iV kb vb f e v] w fun r w' => r = .returned (.int .i64 (32 + kb.size + vb.size : Nat)) ∧ Below w.heap.size w w' := by
  unfold iV
  go_enter Tryd.func21, Tryd.ntmps21
  go_wp2
  go_ret
  exact ⟨rfl, (Below.refl _ _).alloc (Nat.le_refl _) _⟩
def deadB (ex now : Int) : Bool := !decide (ex = 0) && decide (ex ≤ now)
set_option maxHeartbeats 400000 in
theorem dead_any (c : Option Addr) (kb vb : ByteArray) (f e v now : Int) (w : World) : Calls Tryd.prog 14 #[.pointer c, iV kb vb f e v, .int .i64 now] w fun r w' => r = .returned (.bool (deadB e now)) ∧ Below w.heap.size w w' := by
  unfold iV
  by_cases h0 : e = 0
  · subst h0
    go_enter Tryd.func14, Tryd.ntmps14
    go_wp2
    go_ret
    exact ⟨rfl, (Below.refl _ _).alloc (Nat.le_refl _) _⟩
  · have h0' : (e != 0) = true := by simpa using h0
    have E : Hid (deadB e now = decide (e ≤ now)) := by show deadB e now = _; simp [deadB, h0]
    by_cases h1 : e ≤ now
    · have i1 : (e ≤ now) = True := eq_true h1
      rw [decide_eq_true h1] at E
      clear h0 h1
      go_enter Tryd.func14, Tryd.ntmps14
      go_wp2
      go_ret
      exact ⟨by rw [E.out]; rfl, (Below.refl _ _).alloc (Nat.le_refl _) _⟩
    · have i1 : (e ≤ now) = False := eq_false h1
      rw [decide_eq_false h1] at E
      clear h0 h1
      go_enter Tryd.func14, Tryd.ntmps14
      go_wp2
      go_ret
      exact ⟨by rw [E.out]; rfl, (Below.refl _ _).alloc (Nat.le_refl _) _⟩
theorem enter46 (args : Array Value) (w : World) : (callFunc 41 args).run Tryd.prog w = .ok (.enter 41 args) w := enters_of Tryd.func41 (by kernel_rfl) rfl args w
/-- owned's two boxes while it goes on. -/
structure OwI (w : World) (kb vb : ByteArray) (f e v : Int) (W : World) : Prop where
  bel : Below w.heap.size w W
  b1 : Blk W w.heap.size (L5 kb vb f e v) 33
  b2 : Blk W (w.heap.size + 1) (L5 ⟨#[]⟩ ⟨#[]⟩ 0 0 0) 33
theorem OwI.on {w W W' : World} {kb vb : ByteArray} {f e v : Int} (h : OwI w kb vb f e v W) (b : Below W.heap.size W W') : OwI w kb vb f e v W' :=
  ⟨h.bel.trans (b.mono h.bel.size), h.b1.same (b.block _ h.b1.lt), h.b2.same (b.block _ h.b2.lt)⟩
theorem OwI.st0 {w W : World} {kb vb : ByteArray} {f e v : Int} (h : OwI w kb vb f e v W) : OwI w kb vb f e v (W.setCell ⟨w.heap.size, 0, none⟩ (.string kb)) :=
  ⟨h.bel.setCell (Nat.le_refl _) _, h.b1.set 0 _, h.b2.other (by show w.heap.size + 1 ≠ w.heap.size; omega) _⟩
theorem OwI.st1 {w W : World} {kb vb : ByteArray} {f e v : Int} (h : OwI w kb vb f e v W) : OwI w kb vb f e v (W.setCell ⟨w.heap.size, 1, none⟩ (.string vb)) :=
  ⟨h.bel.setCell (Nat.le_refl _) _, h.b1.set 1 _, h.b2.other (by show w.heap.size + 1 ≠ w.heap.size; omega) _⟩
theorem OwI.l0 {w W : World} {kb vb : ByteArray} {f e v : Int} (h : OwI w kb vb f e v W) : W.cell? ⟨w.heap.size, 0, none⟩ = some (.string kb) := h.b1.cell rfl
theorem OwI.l1 {w W : World} {kb vb : ByteArray} {f e v : Int} (h : OwI w kb vb f e v W) : W.cell? ⟨w.heap.size, 1, none⟩ = some (.string vb) := h.b1.cell rfl
set_option maxHeartbeats 1000000 in
theorem owned_any (kb vb : ByteArray) (f e v : Int) (hk : kb.size ≤ 140737488351232) (hv : vb.size ≤ 140737488351232) (w : World) : Calls Tryd.prog 23 #[iV kb vb f e v] w fun r w' => r = .returned (iV kb vb f e v) ∧ Below w.heap.size w w' := by
  have HK : Hid (∀ W, Calls Tryd.prog 41 #[.string kb] W fun e w' => e = .returned (.string kb) ∧ Below W.heap.size W w') := fun W => Tbl.clone_any kb W (by omega)
  have HV : Hid (∀ W, Calls Tryd.prog 41 #[.string vb] W fun e w' => e = .returned (.string vb) ∧ Below W.heap.size W w') := fun W => Tbl.clone_any vb W (by omega)
  obtain ⟨A, hA⟩ : ∃ A, A = (w.alloc (.cells #[.string kb, .string vb, .int .u32 f, .int .i64 e, .int .u64 v] 33)).alloc (.cells #[.string ⟨#[]⟩, .string ⟨#[]⟩, .int .u32 0, .int .i64 0, .int .u64 0] 33) := ⟨_, rfl⟩
  have HI : Hid (OwI w kb vb f e v { A with drawn := A.drawn + 1 }) := by
    have b1 : Below w.heap.size w (w.alloc (.cells #[.string kb, .string vb, .int .u32 f, .int .i64 e, .int .u64 v] 33)) := (Below.refl _ w).alloc (Nat.le_refl _) _
    have b2 : Below w.heap.size w A := by rw [hA]; exact b1.alloc (by simp) _
    have i : OwI w kb vb f e v A := ⟨b2, by rw [hA]; exact (Blk.new w (L5 kb vb f e v) 33).alloc _, by
      rw [hA]
      have := Blk.new (w.alloc (.cells #[.string kb, .string vb, .int .u32 f, .int .i64 e, .int .u64 v] 33)) (L5 ⟨#[]⟩ ⟨#[]⟩ 0 0 0) 33
      rw [World.size_alloc] at this
      exact this⟩
    exact i.on ⟨rfl, rfl, rfl, Nat.le_refl _, fun _ _ => rfl⟩
  unfold iV
  obtain ⟨N, hN⟩ : ∃ N, N = w.heap.size := ⟨_, rfl⟩
  obtain ⟨N1, hN1⟩ : ∃ N1, N1 = w.heap.size + 1 := ⟨_, rfl⟩
  clear hk hv
  go_enter Tryd.func23, Tryd.ntmps23
  go_wp2
  rw [← hA]
  have HN1 := hide hN1
  rw [← hN1, ← hN]
  have HN := hide hN
  clear hN hN1 hA
  refine wp_region_chain (by kernel_rfl) (by kernel_rfl) (fun jx => ([.pointer (some ⟨N, 0, none⟩), .string kb, .string kb, .pointer (some ⟨N, 1, none⟩), .string vb, .string vb, .pointer (some ⟨N, 0, none⟩), undef, .pointer (some ⟨N, 1, none⟩), undef] : List Value).getD jx undef) [2, 5, 7, 9] (by kernel_rfl) (CI (OwI w kb vb f e v)) (HI.out) ?_ ?_
  · intro jx ox hi sx w' ev hlm hks hc hin hout hcst hfn
    have hltx : jx < 10 := by
      have := (Array.getElem?_eq_some_iff.1 hi).1
      simpa using this
    match jx, hltx with
    | 0, _ =>
      simp only [List.getElem?_toArray, List.getElem?_cons_zero, List.getElem?_cons_succ, Option.some.injEq] at hi
      subst hi
      have e0 : ev (.tmp 1) = .pointer (some ⟨N, 0, none⟩) := hout 1 (by kernel_rfl) (show (1 : Nat) < 12 by decide)
      rw [if_neg (by decide)]
      refine .inl ⟨w', ?_, hc⟩
      show _ = Result.ok (Next.value (.pointer (some ⟨N, 0, none⟩))) w'
      simp [execOp, e0, hcst, go_sem]
    | 1, _ =>
      simp only [List.getElem?_toArray, List.getElem?_cons_zero, List.getElem?_cons_succ, Option.some.injEq] at hi
      subst hi
      have e0 : ev (.tmp 3) = .pointer (some ⟨N, 0, none⟩) := hin 3 0 ⟨0, .data⟩ (by kernel_rfl) (by simp) rfl rfl (show (3 : Nat) < 12 by decide)
      rw [if_neg (by decide)]
      refine .inl ⟨w', ?_, hc⟩
      show _ = Result.ok (Next.value (.string kb)) w'
      have q := OwI.l0 hc
      rw [← HN.out] at q
      simp [execOp, e0, hcst, go_sem, q]
    | 2, _ =>
      simp only [List.getElem?_toArray, List.getElem?_cons_zero, List.getElem?_cons_succ, Option.some.injEq] at hi
      subst hi
      have e0 : ev (.tmp 4) = .string kb := hin 4 1 ⟨1, .data⟩ (by kernel_rfl) (by simp) rfl rfl (show (4 : Nat) < 12 by decide)
      rw [if_pos (by decide)]
      have hsx : sx = 0 := hks 0 rfl
      subst hsx
      refine .inr (.inr ⟨41, #[.string kb], ?_, ?_⟩)
      · have ef := hfn 41
        simp [execOp, resolve, invoke, ef, hcst, e0, Result.andThen]
        exact enter46 _ _
      · refine (HK.out w').mono ?_
        rintro e w9 ⟨rfl, b9⟩
        exact ⟨rfl, OwI.on hc b9⟩
    | 3, _ =>
      simp only [List.getElem?_toArray, List.getElem?_cons_zero, List.getElem?_cons_succ, Option.some.injEq] at hi
      subst hi
      have e0 : ev (.tmp 1) = .pointer (some ⟨N, 0, none⟩) := hout 1 (by kernel_rfl) (show (1 : Nat) < 12 by decide)
      rw [if_neg (by decide)]
      refine .inl ⟨w', ?_, hc⟩
      show _ = Result.ok (Next.value (.pointer (some ⟨N, 1, none⟩))) w'
      simp [execOp, e0, hcst, go_sem]
    | 4, _ =>
      simp only [List.getElem?_toArray, List.getElem?_cons_zero, List.getElem?_cons_succ, Option.some.injEq] at hi
      subst hi
      have e0 : ev (.tmp 6) = .pointer (some ⟨N, 1, none⟩) := hin 6 3 ⟨3, .data⟩ (by kernel_rfl) (by simp) rfl rfl (show (6 : Nat) < 12 by decide)
      rw [if_neg (by decide)]
      refine .inl ⟨w', ?_, hc⟩
      show _ = Result.ok (Next.value (.string vb)) w'
      have q := OwI.l1 hc
      rw [← HN.out] at q
      simp [execOp, e0, hcst, go_sem, q]
    | 5, _ =>
      simp only [List.getElem?_toArray, List.getElem?_cons_zero, List.getElem?_cons_succ, Option.some.injEq] at hi
      subst hi
      have e0 : ev (.tmp 7) = .string vb := hin 7 4 ⟨4, .data⟩ (by kernel_rfl) (by simp) rfl rfl (show (7 : Nat) < 12 by decide)
      rw [if_pos (by decide)]
      have hsx : sx = 1 := hks 1 rfl
      subst hsx
      refine .inr (.inr ⟨41, #[.string vb], ?_, ?_⟩)
      · have ef := hfn 41
        simp [execOp, resolve, invoke, ef, hcst, e0, Result.andThen]
        exact enter46 _ _
      · refine (HV.out w').mono ?_
        rintro e w9 ⟨rfl, b9⟩
        exact ⟨rfl, OwI.on hc b9⟩
    | 6, _ =>
      simp only [List.getElem?_toArray, List.getElem?_cons_zero, List.getElem?_cons_succ, Option.some.injEq] at hi
      subst hi
      have e0 : ev (.tmp 1) = .pointer (some ⟨N, 0, none⟩) := hout 1 (by kernel_rfl) (show (1 : Nat) < 12 by decide)
      rw [if_neg (by decide)]
      refine .inl ⟨w', ?_, hc⟩
      show _ = Result.ok (Next.value (.pointer (some ⟨N, 0, none⟩))) w'
      simp [execOp, e0, hcst, go_sem]
    | 7, _ =>
      simp only [List.getElem?_toArray, List.getElem?_cons_zero, List.getElem?_cons_succ, Option.some.injEq] at hi
      subst hi
      have e0 : ev (.tmp 9) = .pointer (some ⟨N, 0, none⟩) := hin 9 6 ⟨6, .data⟩ (by kernel_rfl) (by simp) rfl rfl (show (9 : Nat) < 12 by decide)
      have e1 : ev (.tmp 5) = .string kb := hin 5 2 ⟨2, .data⟩ (by kernel_rfl) (by simp) rfl rfl (show (5 : Nat) < 12 by decide)
      rw [if_pos (by decide)]
      have hsx : sx = 2 := hks 2 rfl
      subst hsx
      refine .inr (.inl ⟨rfl, w'.setCell ⟨N, 0, none⟩ (.string kb), ?_, by rw [HN.out]; exact OwI.st0 hc⟩)
      have q1 := OwI.l0 hc
      have q2 := (OwI.b1 hc).frozen 0
      rw [← HN.out] at q1 q2
      simp [execOp, e0, e1, hcst, go_sem, q1, q2, Result.andThen]
    | 8, _ =>
      simp only [List.getElem?_toArray, List.getElem?_cons_zero, List.getElem?_cons_succ, Option.some.injEq] at hi
      subst hi
      have e0 : ev (.tmp 1) = .pointer (some ⟨N, 0, none⟩) := hout 1 (by kernel_rfl) (show (1 : Nat) < 12 by decide)
      rw [if_neg (by decide)]
      refine .inl ⟨w', ?_, hc⟩
      show _ = Result.ok (Next.value (.pointer (some ⟨N, 1, none⟩))) w'
      simp [execOp, e0, hcst, go_sem]
    | 9, _ =>
      simp only [List.getElem?_toArray, List.getElem?_cons_zero, List.getElem?_cons_succ, Option.some.injEq] at hi
      subst hi
      have e0 : ev (.tmp 10) = .pointer (some ⟨N, 1, none⟩) := hin 10 8 ⟨8, .data⟩ (by kernel_rfl) (by simp) rfl rfl (show (10 : Nat) < 12 by decide)
      have e1 : ev (.tmp 8) = .string vb := hin 8 5 ⟨5, .data⟩ (by kernel_rfl) (by simp) rfl rfl (show (8 : Nat) < 12 by decide)
      rw [if_pos (by decide)]
      have hsx : sx = 3 := hks 3 rfl
      subst hsx
      refine .inr (.inl ⟨rfl, w'.setCell ⟨N, 1, none⟩ (.string vb), ?_, by rw [HN.out]; exact OwI.st1 hc⟩)
      have q1 := OwI.l1 hc
      have q2 := (OwI.b1 hc).frozen 1
      rw [← HN.out] at q1 q2
      simp [execOp, e0, e1, hcst, go_sem, q1, q2, Result.andThen]
  · intro w9 hc
    simp only [lexF, Act.put, List.setIfInBounds_toArray, List.set_cons_succ, List.set_cons_zero, List.getD_cons_succ, List.getD_cons_zero]
    obtain ⟨bl, k1, k2⟩ : OwI w kb vb f e v w9 := hc
    rw [← HN.out] at k1
    rw [← HN1.out] at k2
    obtain ⟨x0, x1, x2, x3, x4, -⟩ := cells5 k1
    obtain ⟨y0, y1, y2, y3, y4, z0, z1, z2, z3, z4⟩ := cells5 k2
    have HE : Hid (Below w.heap.size w (put5 w9 N1 kb vb f e v)) := bl.trans ((put5_keep (Keep.refl [N1] w9) (.inl (by simp))).below (fun q hq => by simp at hq; subst hq; rw [HN1.out]; omega) bl.size)
    clear bl k1 k2 HI HK HV
    go_wp2
    exact bodyPost_ret (v := .agg #[.string kb, .string vb, .int .u32 f, .int .i64 e, .int .u64 v]) (by simp [results, Tryd.results23, go_sem, *]) rfl ⟨rfl, HE.out⟩
end Go.Proofs.YtdkiegkgnimapabDoor
