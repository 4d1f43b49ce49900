/-
  RecSpoils holds for all inputs of the model, with no condition.
-/
import Derived.WalkKit
import Derived.Below
import Derived.Test.YtlmfdibncpbmjaaBytes
import Derived.Test.YtlmfdibncpbmjaaRefTakeC
import Derived.Test.YtlmfdibncpbmjaaTakeE
import Derived.Test.YtlmfdibncpbmjaaAwake
import Derived.Test.YtlmfdibncpbmjaaEq
import Derived.Deep.RegionHeld3
namespace Go.Proofs.Ytlmfdibncpbmjaa.recSpoils
open Go.RowKit Go.Deep
set_option linter.unusedVariables false
set_option linter.unusedSimpArgs false

theorem refGood_it (x : It) (w : World) : Calls Try.prog 16 #[.agg #[.string (txt x.key), .string (txt x.value), .int .u32 x.flags, .int .i64 x.exp, .int .u64 x.ver]] w fun r w' => r = .returned (.bool x.good) ∧ Below w.heap.size w w' := by
  rw [x.good_mayBe]; exact refGood_any (txt x.key) (txt x.value) x.flags x.exp x.ver w
theorem good_it (x : It) (w : World) : Calls Try.prog 15 #[.agg #[.string (txt x.key), .string (txt x.value), .int .u32 x.flags, .int .i64 x.exp, .int .u64 x.ver]] w fun r w' => r = .returned (.bool x.good) ∧ Below w.heap.size w w' := by
  rw [x.good_mayBe]; exact good_any (txt x.key) (txt x.value) x.flags x.exp x.ver w
theorem size_it (x : It) (hk : x.key.length ≤ 140737488351232) (hv : x.value.length ≤ 140737488351232) (w : World) : Calls Try.prog 17 #[.agg #[.string (txt x.key), .string (txt x.value), .int .u32 x.flags, .int .i64 x.exp, .int .u64 x.ver]] w fun r w' => r = .returned (.int .i64 x.size) ∧ Below w.heap.size w w' := by
  have := size_any (txt x.key) (txt x.value) x.flags x.exp x.ver (by rw [txt_size]; exact hk) (by rw [txt_size]; exact hv) w
  rw [txt_size, txt_size] at this
  exact this
theorem refSize_it (x : It) (hk : x.key.length ≤ 140737488351232) (hv : x.value.length ≤ 140737488351232) (w : World) : Calls Try.prog 18 #[.agg #[.string (txt x.key), .string (txt x.value), .int .u32 x.flags, .int .i64 x.exp, .int .u64 x.ver]] w fun r w' => r = .returned (.int .i64 x.size) ∧ Below w.heap.size w w' := by
  have := refSize_any (txt x.key) (txt x.value) x.flags x.exp x.ver (by rw [txt_size]; exact hk) (by rw [txt_size]; exact hv) w
  rw [txt_size, txt_size] at this
  exact this
theorem put_it (x : It) (hf : x.fits) (hg : x.good = true) (W : World) : Calls Try.prog 10 #[.agg #[.string (txt x.key), .string (txt x.value), .int .u32 x.flags, .int .i64 x.exp, .int .u64 x.ver]] W fun e w' => ∃ g, e = .returned (.tuple #[.slice (some ⟨g, 0, none⟩) x.size x.size, .int .i64 0]) ∧ g < w'.heap.size ∧ BS w' (some ⟨g, 0, none⟩) x.size x.size x.enc ∧ Below W.heap.size W w' := by
  refine (put_ok x hf hg W).mono ?_
  rintro e w' ⟨g, rfl, _, h2, h3⟩
  exact ⟨g, rfl, h2.lt, buf_bs h2 (by rw [x.enc_length]) (Nat.le_refl _), h3⟩
theorem putBad_it (x : It) (hg : x.good = false) (W : World) : Calls Try.prog 10 #[.agg #[.string (txt x.key), .string (txt x.value), .int .u32 x.flags, .int .i64 x.exp, .int .u64 x.ver]] W fun e w' => e = .returned (.tuple #[.slice none 0 0, .int .i64 1]) ∧ Below W.heap.size W w' :=
  put_bad (txt x.key) (txt x.value) x.flags x.exp x.ver (by rw [← x.good_mayBe]; exact hg) W
def boxI (x : It) : Obj := .cells #[.string (txt x.key), .string (txt x.value), .int .u32 x.flags, .int .i64 x.exp, .int .u64 x.ver] 30
def IsBox (W : World) (N : Nat) (x : It) : Prop := W.cell? ⟨N, 0, none⟩ = some (.string (txt x.key)) ∧ W.cell? ⟨N, 1, none⟩ = some (.string (txt x.value)) ∧ W.cell? ⟨N, 2, none⟩ = some (.int .u32 x.flags) ∧ W.cell? ⟨N, 3, none⟩ = some (.int .i64 x.exp) ∧ W.cell? ⟨N, 4, none⟩ = some (.int .u64 x.ver)
theorem isBox_of {W : World} {N : Nat} {x : It} (h : Blk W N (itCells x) 30) : IsBox W N x := ⟨h.cell rfl, h.cell rfl, h.cell rfl, h.cell rfl, h.cell rfl⟩
theorem tkV_out (t : Tk) : tkV t = .tuple #[.agg #[.string (txt t.item.key), .string (txt t.item.value), .int .u32 t.item.flags, .int .i64 t.item.exp, .int .u64 t.item.ver], .int .i64 t.len, .int .i64 t.err] := rfl
theorem box_new {w W : World} {x : It} (h : Aft (w.heap.size + 1) (w.alloc (boxI x)) W) : IsBox W w.heap.size x :=
  isBox_of ((Blk.new w (itCells x) 30).same (h.below.block _ (by omega)))
theorem take_cut (x : It) (hf : x.fits) (hg : x.good = true) (c : Nat) (hc : c < x.size) : (take (sl x.enc 0 c)).err ≠ 0 := by
  cases h : take (sl x.enc 0 c) using Tk.elim3 with
  | none => simp [Tk.err]
  | bad => simp [Tk.err]
  | ok y n =>
    exfalso
    obtain ⟨h1, h2, h3, h4, h5⟩ := take_ok h
    have hl : (sl x.enc 0 c).length = c := by rw [sl_length _ _ _ (by rw [x.enc_length]; omega)]; omega
    have e1 : take (y.enc ++ (x.enc.drop n)) = .ok y y.size := take_rec y h1 h2 _
    have e2 : y.enc ++ x.enc.drop n = x.enc := by
      rw [← h5]
      have : (sl x.enc 0 c).take n = x.enc.take n := by
        rw [sl_zero, List.take_take, Nat.min_eq_left (by omega)]
      rw [this, List.take_append_drop]
    have e3 := take_rec x hf hg []
    rw [List.append_nil] at e3
    rw [e2, e3] at e1
    simp only [Tk.mk.injEq, Option.some.injEq, Prod.mk.injEq] at e1
    omega
theorem spoil_ne (x : It) (hf : x.fits) (hg : x.good = true) (b : List UInt8) (hl : b.length = x.size) (hne : b ≠ x.enc) : (take b).item ≠ x := by
  obtain ⟨g1, g2, g3, g4⟩ := x.good_iff.1 hg
  cases h : take b using Tk.elim3 with
  | none => intro e; have : x.ver = 0 := by rw [← e]; rfl
            omega
  | bad => intro e; have : x.ver = 0 := by rw [← e]; rfl
           omega
  | ok y n =>
    intro e
    obtain ⟨h1, h2, h3, h4, h5⟩ := take_ok h
    have e : y = x := e
    subst e
    rw [h3, ← hl, List.take_length] at h5
    exact hne h5
theorem xor_ne (a c : UInt8) (h : c ≠ 0) : a ^^^ c ≠ a := by
  intro e
  apply h
  have : a ^^^ (a ^^^ c) = a ^^^ a := by rw [e]
  simpa [← UInt8.xor_assoc] using this
theorem set_ne (l : List UInt8) (i : Nat) (hi : i < l.length) (c : UInt8) (hc : c ≠ l.getD i 0) : l.set i c ≠ l := by
  intro e
  have h1 : (l.set i c).getD i 0 = c := by simp [List.getD_eq_getElem?_getD, hi]
  rw [e] at h1
  exact hc h1.symm
theorem bits_xor_u8 (a c : UInt8) : bits .xor .u8 (a.toNat : Int) (c.toNat : Int) = ((a ^^^ c).toNat : Int) := by
  rw [u8_xor_nat _ _ (by have := a.toNat_lt; omega) (by have := c.toNat_lt; omega), UInt8.toNat_xor]
theorem own_set {w : World} {base g n c : Nat} {l : List UInt8} (h : w.ownsRow base 5 1 (.slice (some ⟨g, 0, none⟩) n c) n (bCells l)) (i : Nat) (hi : i < n) :
    w.cell? ⟨g, i, none⟩ = some (.int .u8 ((l.getD i 0).toNat : Int)) ∧ w.frozen? ⟨g, i, none⟩ = false ∧ ∀ x : UInt8, (w.setCell ⟨g, i, none⟩ (.int .u8 (x.toNat : Int))).ownsRow base 5 1 (.slice (some ⟨g, 0, none⟩) n c) n (bCells (l.set i x)) := by
  have hl := h.1
  rw [bCells_length, Nat.mul_one] at hl
  rcases h.2 with ⟨h0, _⟩ | ⟨g', cap, cur, hv, hb, hc, h1, h2, h3, h4⟩
  · cases h0
  · simp only [Value.slice.injEq, Option.some.injEq, Addr.mk.injEq, and_true, true_and] at hv
    obtain ⟨rfl, rfl⟩ := hv
    have hB : Blk w g cur.toList 5 := by unfold Blk; rw [Array.toArray_toList]; exact hc
    rw [Nat.mul_one] at h4 h3
    refine ⟨hB.cell ?_, hB.frozen i, fun x => ⟨?_, .inr ⟨g, c, (cur.toList.set i (.int .u8 (x.toNat : Int))).toArray, rfl, hb, hB.set i _, h1, h2, ?_, ?_⟩⟩⟩
    · have h5 : (bCells l)[i]? = some (.int .u8 ((l.getD i 0).toNat : Int)) := by
        simp [bCells, List.getD_eq_getElem?_getD, List.getElem?_eq_getElem (show i < l.length by omega)]
      rw [← h4, List.getElem?_take_of_lt (by omega)] at h5
      exact h5
    · rw [bCells_length, List.length_set, Nat.mul_one]; exact hl
    · simp [h3]
    · rw [Nat.mul_one, List.take_set, h4]
      simp [bCells, List.map_set]
set_option maxRecDepth 4000 in
set_option maxHeartbeats 4000000 in
theorem walk (z0 : It) (a1 : Int) (a2 : Int) (a3 : Int) (w : World) (hw0 : z0.fits) (hw1 : (Lit.int .i64 a1).wf = true) (hw2 : (Lit.int .u8 a2).wf = true) (hw3 : (Lit.int .i64 a3).wf = true) :
    Calls Try.prog 6 #[z0.val, .int .i64 a1, .int .u8 a2, .int .i64 a3] w fun e w' => e = .returned (.bool true) ∧ Below w.heap.size w w' := by
  obtain ⟨i0, i1⟩ := u8_wf hw2
  obtain ⟨c, hc⟩ : ∃ c : UInt8, a2 = (c.toNat : Int) := ⟨UInt8.ofNat a2.toNat, by rw [UInt8.toNat_ofNat']; omega⟩
  subst hc
  have k1 := wf_i64 hw1
  have k3 := wf_i64 hw3
  clear hw1 hw2 hw3 i0 i1
  have ca := hide (awake_any take_is)
  have cr := hide (refGood_it z0)
  have e0 : z0.val = .agg #[.string (txt z0.key), .string (txt z0.value), .int .u32 z0.flags, .int .i64 z0.exp, .int .u64 z0.ver] := rfl
  rw [e0]
  clear e0
  have A := hide (Aft.new w (boxI z0))
  go_enter Try.func6, Try.ntmps6
  go_wp2_with fail
  refine (ca.out _).mono ?_
  rintro r w1 ⟨rfl, h1⟩
  replace A := hide (A.out.then h1)
  clear h1 ca
  obtain ⟨x0, x1, x2, x3, x4⟩ := box_new A.out
  cases g0 : z0.good with
  | false =>
    rw [g0] at cr
    clear g0
    go_wp2_with fail
    refine (cr.out _).mono ?_
    rintro r w2 ⟨rfl, h1⟩
    replace A := hide (A.out.then h1)
    clear h1
    go_wp2_with fail
    go_ret
    exact ⟨rfl, A.out.old⟩
  | true =>
    rw [g0] at cr
    have cp := hide (put_it z0 hw0 g0)
    have G0 := hide g0
    have ZS : Hid (z0.size ≤ 1306) := by
      obtain ⟨q1, q2, q3, q4⟩ := z0.good_iff.1 g0
      show _ ≤ _
      unfold It.size
      omega
    clear g0
    by_cases hc0 : c = 0
    · subst hc0
      go_wp2_with fail
      refine (cr.out _).mono ?_
      rintro r w2 ⟨rfl, h1⟩
      replace A := hide (A.out.then h1)
      clear h1
      go_wp2
      go_ret
      exact ⟨rfl, A.out.old⟩
    have hcz : ¬ ((c.toNat : Int) = 0) := fun he => hc0 (by
      have : c.toNat = (0 : UInt8).toNat := by show _ = 0; omega
      exact UInt8.toNat_inj.1 this)
    have HC0 := hide hc0
    obtain ⟨cn, hcn⟩ : ∃ cn : Int, cn = (c.toNat : Int) := ⟨_, rfl⟩
    rw [← hcn] at hcz ⊢
    have HCN := hide hcn
    clear hc0 hcn
    go_wp2_with fail
    refine (cr.out _).mono ?_
    rintro r w2 ⟨rfl, h1⟩
    replace A := hide (A.out.then h1)
    clear h1 x0 x1 x2 x3 x4
    obtain ⟨x0, x1, x2, x3, x4⟩ := box_new A.out
    go_wp2_with fail
    refine (cp.out _).mono ?_
    rintro r w3 ⟨g, rfl, lg, sg, h1⟩
    replace A := hide (A.out.then h1)
    have SG := hide sg
    clear h1 x0 x1 x2 x3 x4 sg cp cr lg
    by_cases d1 : a1 < 0
    · have d1' : (a1 < 0) = True := eq_true d1
      clear d1
      go_wp2
      go_ret
      exact ⟨rfl, A.out.old⟩
    have d1' : (a1 < 0) = False := eq_false d1
    by_cases d2 : (z0.size : Int) ≤ a1
    · have d2' : ((z0.size : Int) ≤ a1) = True := eq_true d2
      clear d1 d2
      go_wp2
      go_ret
      exact ⟨rfl, A.out.old⟩
    have d2' : ((z0.size : Int) ≤ a1) = False := eq_false d2
    by_cases d3 : a3 < 0
    · have d3' : (a3 < 0) = True := eq_true d3
      clear d1 d2 d3
      go_wp2
      go_ret
      exact ⟨rfl, A.out.old⟩
    have d3' : (a3 < 0) = False := eq_false d3
    by_cases d4 : (z0.size : Int) ≤ a3
    · have d4' : ((z0.size : Int) ≤ a3) = True := eq_true d4
      clear d1 d2 d3 d4
      go_wp2
      go_ret
      exact ⟨rfl, A.out.old⟩
    have d4' : ((z0.size : Int) ≤ a3) = False := eq_false d4
    obtain ⟨p, rfl⟩ : ∃ p : Nat, a1 = (p : Int) := ⟨a1.toNat, by omega⟩
    obtain ⟨q, rfl⟩ : ∃ q : Nat, a3 = (q : Int) := ⟨a3.toNat, by omega⟩
    have P1 : Hid (p < z0.size) := by show _ < _; omega
    have Q1 : Hid (q < z0.size) := by show _ < _; omega
    have P2 : (p : Int) < (z0.size : Int) := by omega
    have Q2 : (q : Int) ≤ (z0.size : Int) := by omega
    clear d1 d2 d3 d4 k1 k3
    obtain ⟨g1, k1, wA, hrA, hoA, hBA⟩ := append_copy w3 (some ⟨g, 0, none⟩) z0.size z0.size z0.enc SG.out (fun h => by cases h) (by have := ZS.out; omega)
    have HRA := hide hrA
    obtain ⟨lc, lf, ls⟩ := own_set hoA p P1.out
    replace ls := ls ((z0.enc.getD p 0) ^^^ c)
    have hbx := bits_xor_u8 (z0.enc.getD p 0) c
    rw [← HCN.out] at hbx
    have hne : z0.enc.set p ((z0.enc.getD p 0) ^^^ c) ≠ z0.enc := set_ne _ _ (by rw [z0.enc_length]; exact P1.out) _ (xor_ne _ _ HC0.out)
    have hll : (z0.enc.set p ((z0.enc.getD p 0) ^^^ c)).length = z0.size := by rw [List.length_set, z0.enc_length]
    generalize z0.enc.set p ((z0.enc.getD p 0) ^^^ c) = E at ls hne hll
    obtain ⟨ub, hub⟩ : ∃ ub : Int, ub = ((z0.enc.getD p 0).toNat : Int) := ⟨_, rfl⟩
    obtain ⟨xv, hxv⟩ : ∃ xv : Int, xv = (((z0.enc.getD p 0) ^^^ c).toNat : Int) := ⟨_, rfl⟩
    rw [← hub] at lc hbx
    rw [← hxv] at hbx ls
    have gn : w3.heap.size ≤ g1 := (own_bs hoA).2.2.1
    have B4 := hBA.setCell (p := ⟨g1, p, none⟩) gn (.int .u8 xv)
    replace A := hide (A.out.then B4)
    have gl : g1 < wA.heap.size := (own_bs hoA).2.2.2
    replace SG := hide (SG.out.later B4)
    have EB := hide (own_bs ls).1
    have cT := hide (take_is _ _ _ _ (own_bs ls).2.1 _ (own_bs ls).1)
    have cR := hide (refTake_any E (by rw [hll]; have := ZS.out; omega))
    have hie := spoil_ne z0 hw0 G0.out E hll hne
    have hce := take_cut z0 hw0 G0.out q Q1.out
    rw [tkV_out] at cT cR
    have cQ := hide (fun (W : World) (h : BS W (some ⟨g, 0, none⟩) z0.size z0.size z0.enc) => take_is _ _ _ _ (by have := ZS.out; omega) W (h.sub 0 q 0 q z0.size rfl (Nat.zero_le _) (Nat.le_of_lt Q1.out) rfl (Nat.le_of_lt Q1.out)))
    generalize take (sl z0.enc 0 q) = t2 at cQ hce
    generalize take E = t at cT cR hie
    rw [tkV_out] at cQ
    have HCE := hide hce
    have HIE := hide hie
    clear hub hxv hrA hoA hBA ls hne hll HCN B4 gn hce hie
    go_wp2_with (at_builtin; refine Lib.wpList_append_run _ rfl _ _ _ _ rfl _ _ rfl rfl _ _ HRA.out ?_)
    clear HRA hbx lc lf gl
    refine cT.out.mono ?_
    clear cT
    generalize wA.setCell ⟨g1, p, none⟩ (.int .u8 xv) = w4 at A SG EB ⊢
    rintro r w5 ⟨rfl, h5⟩
    replace A := hide (A.out.then h5)
    replace SG := hide (SG.out.later h5)
    replace EB := hide (EB.out.later h5)
    clear h5
    have AY := hide (Aft.new w5 (boxI t.item))
    have sC : (convert 23 9 (.slice (some ⟨g1, 0, none⟩) z0.size k1)).run Try.prog (w5.alloc (.cells #[.string (txt t.item.key), .string (txt t.item.value), .int .u32 t.item.flags, .int .i64 t.item.exp, .int .u64 t.item.ver] 30)) = .ok (.string (txt E)) (w5.alloc (.cells #[.string (txt t.item.key), .string (txt t.item.value), .int .u32 t.item.flags, .int .i64 t.item.exp, .int .u64 t.item.ver] 30)) := str_bs (EB.out.later ((Below.refl _ _).alloc (Nat.le_refl _) _)) (fun h => by cases h)
    go_wp2_with fail
    refine (cR.out _).mono ?_
    clear cR sC EB
    rintro r w6 ⟨rfl, h6⟩
    replace SG := hide (SG.out.later (AY.out.then h6).old)
    replace A := hide (A.out.then (AY.out.then h6).old)
    replace AY := hide (AY.out.then h6)
    clear h6
    have AZ := hide (Aft.new w6 (boxI t.item))
    replace cQ := hide (cQ.out (w6.alloc (.cells #[.string (txt t.item.key), .string (txt t.item.value), .int .u32 t.item.flags, .int .i64 t.item.exp, .int .u64 t.item.ver] 30)) (SG.out.later AZ.out.old))
    replace A := hide (A.out.then AZ.out.old)
    replace AY := hide (AY.out.then AZ.out.old)
    go_wp2_with fail
    refine cQ.out.mono ?_
    clear cQ SG
    rintro r w7 ⟨rfl, h7⟩
    replace A := hide (A.out.then h7)
    replace AY := hide (AY.out.then h7)
    replace AZ := hide (AZ.out.then h7)
    clear h7
    have hq : ∀ W : World, (binOp .eql 30 (.agg #[.string (txt t.item.key), .string (txt t.item.value), .int .u32 t.item.flags, .int .i64 t.item.exp, .int .u64 t.item.ver]) (.agg #[.string (txt t.item.key), .string (txt t.item.value), .int .u32 t.item.flags, .int .i64 t.item.exp, .int .u64 t.item.ver])).run Try.prog W = .ok (.bool true) W := fun W => by
      have := run_eql_items t.item t.item W
      rw [@decide_eq_true _ (itDec t.item t.item) rfl] at this
      exact this
    have hq2 : ∀ W : World, (binOp .neq 30 (.agg #[.string (txt t.item.key), .string (txt t.item.value), .int .u32 t.item.flags, .int .i64 t.item.exp, .int .u64 t.item.ver]) (.agg #[.string (txt z0.key), .string (txt z0.value), .int .u32 z0.flags, .int .i64 z0.exp, .int .u64 z0.ver])).run Try.prog W = .ok (.bool true) W := fun W => by
      have := run_neq_items t.item z0 W
      rw [@decide_eq_false _ (itDec t.item z0) HIE.out] at this
      exact this
    have hz2 : ¬ (t2.err = 0) := HCE.out
    have hB7 : Below w7.heap.size w7 (w7.alloc (.cells #[.string (txt t2.item.key), .string (txt t2.item.value), .int .u32 t2.item.flags, .int .i64 t2.item.exp, .int .u64 t2.item.ver] 30)) := (Below.refl _ _).alloc (Nat.le_refl _) _
    obtain ⟨x0, x1, x2, x3, x4⟩ := box_new (A.out.then hB7)
    obtain ⟨y0, y1, y2, y3, y4⟩ := box_new (AY.out.then hB7)
    obtain ⟨v0, v1, v2, v3, v4⟩ := box_new (AZ.out.then hB7)
    have AE := hide (A.out.then hB7).old
    clear hB7 A AY AZ
    go_wp2
    go_ret
    exact ⟨by simp [hz2], AE.out⟩
end Go.Proofs.Ytlmfdibncpbmjaa.recSpoils
