/-
  Proof of the law 'RecApart'.
-/
import Derived.WalkKit
import Derived.Below
import Derived.Test.YtlmfdibncpbmjaaTakeE
import Derived.Test.YtlmfdibncpbmjaaAwake
import Derived.Test.YtlmfdibncpbmjaaEq
namespace Go.Proofs.Ytlmfdibncpbmjaa.recApart
open Go.RowKit Go.Deep
set_option linter.unusedVariables false
set_option linter.unusedSimpArgs false

theorem refGood_it (x : It) (w : World) : Calls Try.prog 16 #[.agg #[.string (txt x.key), .string (txt x.value), .int .u32 x.flags, .int .i64 x.exp, .int .u64 x.ver]] w fun r w' => r = .returned (.bool x.good) ∧ Below w.heap.size w w' := by
  rw [x.good_mayBe]; exact refGood_any (txt x.key) (txt x.value) x.flags x.exp x.ver w
theorem put_it (x : It) (hf : x.fits) (hg : x.good = true) (W : World) : Calls Try.prog 10 #[.agg #[.string (txt x.key), .string (txt x.value), .int .u32 x.flags, .int .i64 x.exp, .int .u64 x.ver]] W fun e w' => ∃ g, e = .returned (.tuple #[.slice (some ⟨g, 0, none⟩) x.size x.size, .int .i64 0]) ∧ g < w'.heap.size ∧ BS w' (some ⟨g, 0, none⟩) x.size x.size x.enc ∧ Below W.heap.size W w' := by
  refine (put_ok x hf hg W).mono ?_
  rintro e w' ⟨g, rfl, _, h2, h3⟩
  exact ⟨g, rfl, h2.lt, buf_bs h2 (by rw [x.enc_length]) (Nat.le_refl _), h3⟩
theorem enc_inj {x y : It} (hx : x.fits) (hy : y.fits) (gx : x.good = true) (gy : y.good = true) (h : x.enc = y.enc) : x = y := by
  have h1 := take_rec x hx gx []
  have h2 := take_rec y hy gy []
  rw [h] at h1
  rw [h1] at h2
  simp only [Tk.mk.injEq, Option.some.injEq, Prod.mk.injEq] at h2
  exact h2.1
def boxI (x : It) : Obj := .cells #[.string (txt x.key), .string (txt x.value), .int .u32 x.flags, .int .i64 x.exp, .int .u64 x.ver] 30
def IsBox (W : World) (N : Nat) (x : It) : Prop := W.cell? ⟨N, 0, none⟩ = some (.string (txt x.key)) ∧ W.cell? ⟨N, 1, none⟩ = some (.string (txt x.value)) ∧ W.cell? ⟨N, 2, none⟩ = some (.int .u32 x.flags) ∧ W.cell? ⟨N, 3, none⟩ = some (.int .i64 x.exp) ∧ W.cell? ⟨N, 4, none⟩ = some (.int .u64 x.ver)
theorem isBox_of {W : World} {N : Nat} {x : It} (h : Blk W N (itCells x) 30) : IsBox W N x := ⟨h.cell rfl, h.cell rfl, h.cell rfl, h.cell rfl, h.cell rfl⟩
theorem two_boxes {w W : World} {x y : It} (h : Aft (w.heap.size + 2) ((w.alloc (boxI x)).alloc (boxI y)) W) : IsBox W w.heap.size x ∧ IsBox W (w.heap.size + 1) y := by
  have b0 : Blk ((w.alloc (boxI x)).alloc (boxI y)) w.heap.size (itCells x) 30 := (Blk.new w (itCells x) 30).alloc _
  have b1 : Blk ((w.alloc (boxI x)).alloc (boxI y)) (w.heap.size + 1) (itCells y) 30 := by
    have := Blk.new (w.alloc (boxI x)) (itCells y) 30
    rw [nblk_alloc] at this
    exact this
  exact ⟨isBox_of (b0.same (h.below.block _ (by omega))), isBox_of (b1.same (h.below.block _ (by omega)))⟩
theorem two_new (w : World) (x y : It) : Aft (w.heap.size + 2) ((w.alloc (boxI x)).alloc (boxI y)) ((w.alloc (boxI x)).alloc (boxI y)) := ⟨Below.refl _ _, by simp only [nblk_alloc]; omega⟩
theorem two_old {w W : World} {x y : It} (h : Aft (w.heap.size + 2) ((w.alloc (boxI x)).alloc (boxI y)) W) : Below w.heap.size w W :=
  (((Below.refl _ _).alloc (Nat.le_refl _) _).alloc (by rw [nblk_alloc]; omega) _).trans (h.below.mono (by omega))
set_option maxRecDepth 4000 in
set_option maxHeartbeats 4000000 in
theorem walk (z0 : It) (z1 : It) (w : World) (hw0 : z0.fits) (hw1 : z1.fits) :
    Calls Try.prog 8 #[z0.val, z1.val] w fun e w' => e = .returned (.bool true) ∧ Below w.heap.size w w' := by
  have ca := hide (awake_any take_is)
  have cx := hide (refGood_it z0)
  have cy := hide (refGood_it z1)
  have e0 : z0.val = .agg #[.string (txt z0.key), .string (txt z0.value), .int .u32 z0.flags, .int .i64 z0.exp, .int .u64 z0.ver] := rfl
  have e1 : z1.val = .agg #[.string (txt z1.key), .string (txt z1.value), .int .u32 z1.flags, .int .i64 z1.exp, .int .u64 z1.ver] := rfl
  rw [e0, e1]
  clear e0 e1
  have A := hide (two_new w z0 z1)
  go_enter Try.func8, Try.ntmps8
  go_wp2_with fail
  refine (ca.out _).mono ?_
  rintro r w1 ⟨rfl, h1⟩
  replace A := hide (A.out.then h1)
  clear h1
  obtain ⟨⟨a0, a1, a2, a3, a4⟩, ⟨b0, b1, b2, b3, b4⟩⟩ := two_boxes A.out
  cases g0 : z0.good with
  | false =>
    rw [g0] at cx
    clear g0
    go_wp2_with fail
    refine (cx.out _).mono ?_
    rintro r w2 ⟨rfl, h1⟩
    replace A := hide (A.out.then h1)
    clear h1
    go_wp2_with fail
    go_ret
    exact ⟨rfl, two_old A.out⟩
  | true =>
    rw [g0] at cx
    have G0 := hide g0
    clear g0
    go_wp2_with fail
    refine (cx.out _).mono ?_
    rintro r w2 ⟨rfl, h1⟩
    replace A := hide (A.out.then h1)
    clear h1 a0 a1 a2 a3 a4 b0 b1 b2 b3 b4
    obtain ⟨⟨a0, a1, a2, a3, a4⟩, ⟨b0, b1, b2, b3, b4⟩⟩ := two_boxes A.out
    cases g1 : z1.good with
    | false =>
      rw [g1] at cy
      clear g1
      go_wp2_with fail
      refine (cy.out _).mono ?_
      rintro r w3 ⟨rfl, h1⟩
      replace A := hide (A.out.then h1)
      clear h1
      go_wp2_with fail
      go_ret
      exact ⟨rfl, two_old A.out⟩
    | true =>
      rw [g1] at cy
      have G1 := hide g1
      clear g1
      have cp := hide (put_it z0 hw0 G0.out)
      have cq := hide (put_it z1 hw1 G1.out)
      go_wp2_with fail
      refine (cy.out _).mono ?_
      rintro r w3 ⟨rfl, h1⟩
      replace A := hide (A.out.then h1)
      clear h1 a0 a1 a2 a3 a4 b0 b1 b2 b3 b4
      obtain ⟨⟨a0, a1, a2, a3, a4⟩, ⟨b0, b1, b2, b3, b4⟩⟩ := two_boxes A.out
      go_wp2_with fail
      refine (cp.out _).mono ?_
      rintro r w4 ⟨gx, rfl, lx, sx, h1⟩
      replace A := hide (A.out.then h1)
      have SX := hide sx
      clear h1 a0 a1 a2 a3 a4 b0 b1 b2 b3 b4 sx
      obtain ⟨⟨a0, a1, a2, a3, a4⟩, ⟨b0, b1, b2, b3, b4⟩⟩ := two_boxes A.out
      go_wp2_with fail
      refine (cq.out _).mono ?_
      rintro r w5 ⟨gy, rfl, ly, sy, h1⟩
      replace A := hide (A.out.then h1)
      have SY := hide sy
      replace SX := hide (SX.out.later h1)
      clear h1 a0 a1 a2 a3 a4 b0 b1 b2 b3 b4 sy
      obtain ⟨⟨a0, a1, a2, a3, a4⟩, ⟨b0, b1, b2, b3, b4⟩⟩ := two_boxes A.out
      have sX : (convert 23 9 (.slice (some ⟨gx, 0, none⟩) z0.size z0.size)).run Try.prog w5.drew = .ok (.string (txt z0.enc)) w5.drew := str_bs (SX.out.heap rfl) (fun h => by cases h)
      have sY : (convert 23 9 (.slice (some ⟨gy, 0, none⟩) z1.size z1.size)).run Try.prog w5.drew = .ok (.string (txt z1.enc)) w5.drew := str_bs (SY.out.heap rfl) (fun h => by cases h)
      have hq : ∀ W : World, (binOp .eql 30 (.agg #[.string (txt z0.key), .string (txt z0.value), .int .u32 z0.flags, .int .i64 z0.exp, .int .u64 z0.ver]) (.agg #[.string (txt z1.key), .string (txt z1.value), .int .u32 z1.flags, .int .i64 z1.exp, .int .u64 z1.ver])).run Try.prog W = .ok (.bool (@decide (z0 = z1) (itDec z0 z1))) W := run_eql_items z0 z1
      have HS : Hid (((txt z0.enc).toList == (txt z1.enc).toList) = @decide (z0 = z1) (itDec z0 z1)) := by
        show _ = _
        rw [txt_list, txt_list]
        by_cases h : z0 = z1
        · subst h; simp
        · have : ¬ z0.enc = z1.enc := fun he => h (enc_inj hw0 hw1 G0.out G1.out he)
          rw [@decide_eq_false _ (itDec z0 z1) h]
          simp [this]
      generalize @decide (z0 = z1) (itDec z0 z1) = d at hq HS
      generalize txt z0.enc = sa at sX HS
      generalize txt z1.enc = sb at sY HS
      generalize txt z0.key = k0 at *
      generalize txt z1.key = k1 at *
      generalize txt z0.value = v0 at *
      generalize txt z1.value = v1 at *
      go_wp2_with fail
      have sC : w5.drew.cell? ⟨w.heap.size, 0, none⟩ = some (.string k0) ∧ w5.drew.cell? ⟨w.heap.size, 1, none⟩ = some (.string v0) ∧ w5.drew.cell? ⟨w.heap.size, 2, none⟩ = some (.int .u32 z0.flags) ∧ w5.drew.cell? ⟨w.heap.size, 3, none⟩ = some (.int .i64 z0.exp) ∧ w5.drew.cell? ⟨w.heap.size, 4, none⟩ = some (.int .u64 z0.ver) ∧ w5.drew.cell? ⟨w.heap.size + 1, 0, none⟩ = some (.string k1) ∧ w5.drew.cell? ⟨w.heap.size + 1, 1, none⟩ = some (.string v1) ∧ w5.drew.cell? ⟨w.heap.size + 1, 2, none⟩ = some (.int .u32 z1.flags) ∧ w5.drew.cell? ⟨w.heap.size + 1, 3, none⟩ = some (.int .i64 z1.exp) ∧ w5.drew.cell? ⟨w.heap.size + 1, 4, none⟩ = some (.int .u64 z1.ver) := ⟨a0, a1, a2, a3, a4, b0, b1, b2, b3, b4⟩
      have SC := hide sC
      clear sC
      go_region_held (fun W => (convert 23 9 (.slice (some ⟨gx, 0, none⟩) z0.size z0.size)).run Try.prog W = .ok (.string sa) W ∧ (convert 23 9 (.slice (some ⟨gy, 0, none⟩) z1.size z1.size)).run Try.prog W = .ok (.string sb) W ∧ W.cell? ⟨w.heap.size, 0, none⟩ = some (.string k0) ∧ W.cell? ⟨w.heap.size, 1, none⟩ = some (.string v0) ∧ W.cell? ⟨w.heap.size, 2, none⟩ = some (.int .u32 z0.flags) ∧ W.cell? ⟨w.heap.size, 3, none⟩ = some (.int .i64 z0.exp) ∧ W.cell? ⟨w.heap.size, 4, none⟩ = some (.int .u64 z0.ver) ∧ W.cell? ⟨w.heap.size + 1, 0, none⟩ = some (.string k1) ∧ W.cell? ⟨w.heap.size + 1, 1, none⟩ = some (.string v1) ∧ W.cell? ⟨w.heap.size + 1, 2, none⟩ = some (.int .u32 z1.flags) ∧ W.cell? ⟨w.heap.size + 1, 3, none⟩ = some (.int .i64 z1.exp) ∧ W.cell? ⟨w.heap.size + 1, 4, none⟩ = some (.int .u64 z1.ver))
        (exact ⟨sX, sY, SC.out⟩)
        (fail)
      all_goals go_wp2
      all_goals (
        go_ret
        exact ⟨by rw [HS.out]; simp, two_old A.out.drew⟩)
end Go.Proofs.Ytlmfdibncpbmjaa.recApart
