/-
  RecPuts holds for all inputs of the model, with no condition.
-/
import Derived.WalkKit
import Derived.Below
import Derived.Test.YtlmfdibncpbmjaaBytes
import Derived.Test.YtlmfdibncpbmjaaRefPut
import Derived.Test.YtlmfdibncpbmjaaRefTake
import Derived.Test.YtlmfdibncpbmjaaTakeE
import Derived.Test.YtlmfdibncpbmjaaAwake
import Derived.Test.YtlmfdibncpbmjaaEq
import Derived.Deep.RegionHeld3
namespace Go.Proofs.Ytlmfdibncpbmjaa.recPuts
open Go.RowKit Go.Deep
set_option linter.unusedVariables false
set_option linter.unusedSimpArgs false

theorem refGood_it (x : It) (w : World) : Calls Try.prog 16 #[.agg #[.string (txt x.key), .string (txt x.value), .int .u32 x.flags, .int .i64 x.exp, .int .u64 x.ver]] w fun r w' => r = .returned (.bool x.good) ∧ Below w.heap.size w w' := by
  rw [x.good_mayBe]; exact refGood_any (txt x.key) (txt x.value) x.flags x.exp x.ver w
theorem good_it (x : It) (w : World) : Calls Try.prog 15 #[.agg #[.string (txt x.key), .string (txt x.value), .int .u32 x.flags, .int .i64 x.exp, .int .u64 x.ver]] w fun r w' => r = .returned (.bool x.good) ∧ Below w.heap.size w w' := by
  rw [x.good_mayBe]; exact good_any (txt x.key) (txt x.value) x.flags x.exp x.ver w
theorem size_it (x : It) (hk : x.key.length ≤ 140737488351232) (hv : x.value.length ≤ 140737488351232) (w : World) : Calls Try.prog 17 #[.agg #[.string (txt x.key), .string (txt x.value), .int .u32 x.flags, .int .i64 x.exp, .int .u64 x.ver]] w fun r w' => r = .returned (.int .i64 x.size) ∧ Below w.heap.size w w' := by
  have := size_any (txt x.key) (txt x.value) x.flags x.exp x.ver (by rw [txt_size]; exact hk) (by rw [txt_size]; exact hv) w
  rw [txt_size, txt_size] at this
  exact this
theorem refSize_it (x : It) (hk : x.key.length ≤ 140737488351232) (hv : x.value.length ≤ 140737488351232) (w : World) : Calls Try.prog 18 #[.agg #[.string (txt x.key), .string (txt x.value), .int .u32 x.flags, .int .i64 x.exp, .int .u64 x.ver]] w fun r w' => r = .returned (.int .i64 x.size) ∧ Below w.heap.size w w' := by
  have := refSize_any (txt x.key) (txt x.value) x.flags x.exp x.ver (by rw [txt_size]; exact hk) (by rw [txt_size]; exact hv) w
  rw [txt_size, txt_size] at this
  exact this
theorem put_it (x : It) (hf : x.fits) (hg : x.good = true) (W : World) : Calls Try.prog 10 #[.agg #[.string (txt x.key), .string (txt x.value), .int .u32 x.flags, .int .i64 x.exp, .int .u64 x.ver]] W fun e w' => ∃ g, e = .returned (.tuple #[.slice (some ⟨g, 0, none⟩) x.size x.size, .int .i64 0]) ∧ g < w'.heap.size ∧ BS w' (some ⟨g, 0, none⟩) x.size x.size x.enc ∧ Below W.heap.size W w' := by
  refine (put_ok x hf hg W).mono ?_
  rintro e w' ⟨g, rfl, _, h2, h3⟩
  exact ⟨g, rfl, h2.lt, buf_bs h2 (by rw [x.enc_length]) (Nat.le_refl _), h3⟩
theorem putBad_it (x : It) (hg : x.good = false) (W : World) : Calls Try.prog 10 #[.agg #[.string (txt x.key), .string (txt x.value), .int .u32 x.flags, .int .i64 x.exp, .int .u64 x.ver]] W fun e w' => e = .returned (.tuple #[.slice none 0 0, .int .i64 1]) ∧ Below W.heap.size W w' :=
  put_bad (txt x.key) (txt x.value) x.flags x.exp x.ver (by rw [← x.good_mayBe]; exact hg) W
def boxI (x : It) : Obj := .cells #[.string (txt x.key), .string (txt x.value), .int .u32 x.flags, .int .i64 x.exp, .int .u64 x.ver] 30
def IsBox (W : World) (N : Nat) (x : It) : Prop := W.cell? ⟨N, 0, none⟩ = some (.string (txt x.key)) ∧ W.cell? ⟨N, 1, none⟩ = some (.string (txt x.value)) ∧ W.cell? ⟨N, 2, none⟩ = some (.int .u32 x.flags) ∧ W.cell? ⟨N, 3, none⟩ = some (.int .i64 x.exp) ∧ W.cell? ⟨N, 4, none⟩ = some (.int .u64 x.ver)
theorem isBox_of {W : World} {N : Nat} {x : It} (h : Blk W N (itCells x) 30) : IsBox W N x := ⟨h.cell rfl, h.cell rfl, h.cell rfl, h.cell rfl, h.cell rfl⟩
theorem tkV_out (t : Tk) : tkV t = .tuple #[.agg #[.string (txt t.item.key), .string (txt t.item.value), .int .u32 t.item.flags, .int .i64 t.item.exp, .int .u64 t.item.ver], .int .i64 t.len, .int .i64 t.err] := rfl
theorem box_new {w W : World} {x : It} (h : Aft (w.heap.size + 1) (w.alloc (boxI x)) W) : IsBox W w.heap.size x :=
  isBox_of ((Blk.new w (itCells x) 30).same (h.below.block _ (by omega)))
set_option maxRecDepth 4000 in
set_option maxHeartbeats 4000000 in
theorem walk (z0 : It) (a1 : Option Addr) (len1 cap1 : Nat) (z1 : List UInt8) (w : World) (hw0 : z0.fits) (hw1 : BS w a1 len1 cap1 z1 ∧ (a1 = none → z1 = []) ∧ len1 ≤ 140737488351232) :
    Calls Try.prog 4 #[z0.val, .slice a1 len1 cap1] w fun e w' => e = .returned (.bool true) ∧ Below w.heap.size w w' := by
  obtain ⟨hb, hnil, hlen⟩ := hw1
  have HB := hide hb
  have HN := hide hnil
  have ca := hide (awake_any take_is)
  have cr := hide (refGood_it z0)
  have cG := hide (good_it z0)
  have e0 : z0.val = .agg #[.string (txt z0.key), .string (txt z0.value), .int .u32 z0.flags, .int .i64 z0.exp, .int .u64 z0.ver] := rfl
  rw [e0]
  clear e0 hb hnil
  have A := hide (Aft.new w (boxI z0))
  have hks := hide (txt_size z0.key)
  have hvs := hide (txt_size z0.value)
  go_enter Try.func4, Try.ntmps4
  go_wp2_with fail
  refine (ca.out _).mono ?_
  rintro r w1 ⟨rfl, h1⟩
  replace A := hide (A.out.then h1)
  clear h1 ca
  obtain ⟨a0, a1', a2, a3, a4⟩ := box_new A.out
  by_cases c1 : 2000 < (txt z0.key).size
  · have c1' : ((2000 : Int) < ((txt z0.key).size : Int)) = True := eq_true (by omega)
    clear c1
    go_wp2
    go_ret
    exact ⟨rfl, A.out.old⟩
  have c1' : ((2000 : Int) < ((txt z0.key).size : Int)) = False := eq_false (by omega)
  by_cases c2 : 3000 < (txt z0.value).size
  · have c2' : ((3000 : Int) < ((txt z0.value).size : Int)) = True := eq_true (by omega)
    clear c1 c2
    go_wp2
    go_ret
    exact ⟨rfl, A.out.old⟩
  have c2' : ((3000 : Int) < ((txt z0.value).size : Int)) = False := eq_false (by omega)
  by_cases c3 : 500 < len1
  · have c3' : ((500 : Int) < (len1 : Int)) = True := eq_true (by omega)
    clear c1 c2 c3
    go_wp2
    go_ret
    exact ⟨rfl, A.out.old⟩
  have c3' : ((500 : Int) < (len1 : Int)) = False := eq_false (by omega)
  have cz := hide (size_it z0 (by rw [← hks.out]; omega) (by rw [← hvs.out]; omega))
  have cy := hide (refSize_it z0 (by rw [← hks.out]; omega) (by rw [← hvs.out]; omega))
  have HC1 := hide c1
  have HC2 := hide c2
  have HC3 := hide c3
  clear c1 c2 c3
  cases g0 : z0.good with
  | false =>
    rw [g0] at cr cG
    have cp := hide (putBad_it z0 g0)
    clear g0
    go_wp2_with fail
    refine (cr.out _).mono ?_
    rintro r w2 ⟨rfl, h1⟩
    replace A := hide (A.out.then h1)
    clear h1 a0 a1' a2 a3 a4
    obtain ⟨a0, a1', a2, a3, a4⟩ := box_new A.out
    go_wp2_with fail
    refine (cp.out _).mono ?_
    rintro r w3 ⟨rfl, h1⟩
    replace A := hide (A.out.then h1)
    clear h1 a0 a1' a2 a3 a4
    go_wp2_with fail
    replace A := hide A.out.drew
    apply stage (S := fun W => Aft (w.heap.size + 1) (w.alloc (boxI z0)) W)
    · intro H
      go_region_held3 (fun W => W.cell? ⟨w.heap.size, 0, none⟩ = some (.string (txt z0.key)) ∧ W.cell? ⟨w.heap.size, 1, none⟩ = some (.string (txt z0.value)) ∧ W.cell? ⟨w.heap.size, 2, none⟩ = some (.int .u32 z0.flags) ∧ W.cell? ⟨w.heap.size, 3, none⟩ = some (.int .i64 z0.exp) ∧ W.cell? ⟨w.heap.size, 4, none⟩ = some (.int .u64 z0.ver))
        (exact box_new A.out)
        (first
          | (go_at_call 15; refine (cG.out _).mono ?_; rintro r wx ⟨rfl, hx⟩; replace A := hide (A.out.then hx); clear hx)
          | (go_at_call 17; refine (cz.out _).mono ?_; rintro r wx ⟨rfl, hx⟩; replace A := hide (A.out.then hx); clear hx)
          | (go_at_call 18; refine (cy.out _).mono ?_; rintro r wx ⟨rfl, hx⟩; replace A := hide (A.out.then hx); clear hx))
      all_goals exact H _ A.out
    intro W2 A2
    replace A := hide A2
    clear A2
    go_wp2
    go_ret
    exact ⟨rfl, A.out.old⟩
  | true =>
    rw [g0] at cr cG
    have cp := hide (put_it z0 hw0 g0)
    have cP := hide (refPut_any z0 hw0 g0)
    have G0 := hide g0
    clear g0
    go_wp2_with fail
    refine (cr.out _).mono ?_
    rintro r w2 ⟨rfl, h1⟩
    replace A := hide (A.out.then h1)
    clear h1 a0 a1' a2 a3 a4
    obtain ⟨a0, a1', a2, a3, a4⟩ := box_new A.out
    go_wp2_with fail
    refine (cp.out _).mono ?_
    rintro r w3 ⟨g, rfl, lg, sg, h1⟩
    replace A := hide (A.out.then h1)
    have SG := hide sg
    clear h1 a0 a1' a2 a3 a4 sg
    go_wp2_with fail
    have B3 := hide (Below.refl w3.heap.size w3).drew
    have A3 := hide A.out
    replace A := hide A.out.drew
    apply stage (S := fun W => Below w3.heap.size w3 W)
    · intro H
      go_region_held3 (fun W => W.cell? ⟨w.heap.size, 0, none⟩ = some (.string (txt z0.key)) ∧ W.cell? ⟨w.heap.size, 1, none⟩ = some (.string (txt z0.value)) ∧ W.cell? ⟨w.heap.size, 2, none⟩ = some (.int .u32 z0.flags) ∧ W.cell? ⟨w.heap.size, 3, none⟩ = some (.int .i64 z0.exp) ∧ W.cell? ⟨w.heap.size, 4, none⟩ = some (.int .u64 z0.ver))
        (exact box_new A.out)
        (first
          | (go_at_call 15; refine (cG.out _).mono ?_; rintro r wx ⟨rfl, hx⟩; replace A := hide (A.out.then hx); replace B3 := hide (B3.out.trans (hx.mono B3.out.size)); clear hx)
          | (go_at_call 17; refine (cz.out _).mono ?_; rintro r wx ⟨rfl, hx⟩; replace A := hide (A.out.then hx); replace B3 := hide (B3.out.trans (hx.mono B3.out.size)); clear hx)
          | (go_at_call 18; refine (cy.out _).mono ?_; rintro r wx ⟨rfl, hx⟩; replace A := hide (A.out.then hx); replace B3 := hide (B3.out.trans (hx.mono B3.out.size)); clear hx))
      all_goals exact H _ B3.out
    intro w4 B4
    replace A := hide (A3.out.then B4)
    replace SG := hide (SG.out.later B4)
    clear B4 B3 A3 lg
    obtain ⟨g1, k1, wA, hrA, hoA, hBA⟩ := append_copy w4 (some ⟨g, 0, none⟩) z0.size z0.size z0.enc SG.out (fun h => by cases h) (by have := HC1.out; have := HC2.out; have := hks.out; have := hvs.out; unfold It.size; omega)
    obtain ⟨g2, k2, wB, hrB, hoB, hBB⟩ := append_more wA w4.heap.size g1 z0.size k1 z0.enc hoA a1 len1 cap1 z1 (HB.out.later ((A.out.old).trans (hBA.mono A.out.old.size))) HN.out (by have := HC1.out; have := HC2.out; have := HC3.out; have := hks.out; have := hvs.out; unfold It.size; omega) hBA.size
    have HRA := hide hrA
    have HRB := hide hrB
    have ct := hide (take_is _ _ _ _ (own_bs hoB).2.1 wB (own_bs hoB).1)
    have etk : tkV (.ok z0 z0.size) = .tuple #[.agg #[.string (txt z0.key), .string (txt z0.value), .int .u32 z0.flags, .int .i64 z0.exp, .int .u64 z0.ver], .int .i64 z0.size, .int .i64 0] := rfl
    rw [take_rec z0 hw0 G0.out z1, etk] at ct
    replace SG := hide (SG.out.later (hBA.trans hBB))
    replace A := hide (A.out.then (hBA.trans hBB))
    clear hrA hrB hoA hoB hBA hBB etk cr cG cp cz cy
    go_wp2_with (first
      | (at_builtin; refine Lib.wpList_append_run _ rfl _ _ _ _ rfl _ _ rfl rfl _ _ HRA.out ?_)
      | (at_builtin; refine Lib.wpList_append_run _ rfl _ _ _ _ rfl _ _ rfl rfl _ _ HRB.out ?_))
    clear HRA HRB
    refine ct.out.mono ?_
    clear ct
    rintro r w5 ⟨rfl, h5⟩
    replace A := hide (A.out.then h5)
    replace SG := hide (SG.out.later h5)
    clear h5
    have hq : ∀ W : World, (binOp .eql 30 (.agg #[.string (txt z0.key), .string (txt z0.value), .int .u32 z0.flags, .int .i64 z0.exp, .int .u64 z0.ver]) (.agg #[.string (txt z0.key), .string (txt z0.value), .int .u32 z0.flags, .int .i64 z0.exp, .int .u64 z0.ver])).run Try.prog W = .ok (.bool true) W := fun W => by
      have := run_eql_items z0 z0 W
      rw [@decide_eq_true _ (itDec z0 z0) rfl] at this
      exact this
    have AY := hide (Aft.new w5 (boxI z0)).drew
    replace SG := hide (SG.out.later (((Below.refl _ _).alloc (Nat.le_refl _) (boxI z0)).drew))
    replace A := hide (A.out.alloc (boxI z0)).drew
    go_wp2_with fail
    go_region_held3 (fun W => W.cell? ⟨w.heap.size, 0, none⟩ = some (.string (txt z0.key)) ∧ W.cell? ⟨w.heap.size, 1, none⟩ = some (.string (txt z0.value)) ∧ W.cell? ⟨w.heap.size, 2, none⟩ = some (.int .u32 z0.flags) ∧ W.cell? ⟨w.heap.size, 3, none⟩ = some (.int .i64 z0.exp) ∧ W.cell? ⟨w.heap.size, 4, none⟩ = some (.int .u64 z0.ver) ∧ W.cell? ⟨w5.heap.size, 0, none⟩ = some (.string (txt z0.key)) ∧ W.cell? ⟨w5.heap.size, 1, none⟩ = some (.string (txt z0.value)) ∧ W.cell? ⟨w5.heap.size, 2, none⟩ = some (.int .u32 z0.flags) ∧ W.cell? ⟨w5.heap.size, 3, none⟩ = some (.int .i64 z0.exp) ∧ W.cell? ⟨w5.heap.size, 4, none⟩ = some (.int .u64 z0.ver) ∧ (convert 23 9 (.slice (some ⟨g, 0, none⟩) z0.size z0.size)).run Try.prog W = .ok (.string (txt z0.enc)) W)
      (exact ⟨(box_new A.out).1, (box_new A.out).2.1, (box_new A.out).2.2.1, (box_new A.out).2.2.2.1, (box_new A.out).2.2.2.2, (box_new AY.out).1, (box_new AY.out).2.1, (box_new AY.out).2.2.1, (box_new AY.out).2.2.2.1, (box_new AY.out).2.2.2.2, str_bs SG.out (fun h => by cases h)⟩)
      (first
        | (go_at_call 19; refine (cP.out _).mono ?_; rintro r wx ⟨rfl, hx⟩; replace A := hide (A.out.then hx); replace AY := hide (AY.out.then hx); replace SG := hide (SG.out.later hx); clear hx))
    all_goals go_wp2
    all_goals (
      go_ret
      exact ⟨rfl, A.out.old⟩)
end Go.Proofs.Ytlmfdibncpbmjaa.recPuts
