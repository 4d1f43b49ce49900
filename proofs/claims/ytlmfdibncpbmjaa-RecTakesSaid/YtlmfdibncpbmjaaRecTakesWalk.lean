/-
  RecTakes holds for all inputs of the model, with no condition.
-/
import Derived.WalkKit
import Derived.Below
import Derived.Test.YtlmfdibncpbmjaaBytes
import Derived.Test.YtlmfdibncpbmjaaListC
import Derived.Test.YtlmfdibncpbmjaaRefList
import Derived.Test.YtlmfdibncpbmjaaTakeE
import Derived.Test.YtlmfdibncpbmjaaAwake
import Derived.Test.YtlmfdibncpbmjaaEq
import Derived.Test.YtlmfdibncpbmjaaItems
import Derived.Deep.RegionHeld3
namespace Go.Proofs.Ytlmfdibncpbmjaa.recTakes
open Go.RowKit Go.Deep
set_option linter.unusedVariables false
set_option linter.unusedSimpArgs false

theorem lst_all : ∀ (n : Nat) (b : List UInt8) (xs : List It), b.length ≤ n → lst b = some xs → xs.length ≤ b.length ∧ ∀ x ∈ xs, x.fits ∧ x.good = true := by
  intro n
  induction n with
  | zero =>
    intro b xs hb h
    have : b = [] := List.eq_nil_of_length_eq_zero (by omega)
    subst this
    rw [lst_none (by simp [take, ended])] at h
    simp at h
    subst h
    simp
  | succ n ih =>
    intro b xs hb h
    cases hT : take b using Tk.elim3 with
    | none =>
      rw [lst_none hT] at h
      simp at h
      subst h
      simp
    | bad => rw [lst_bad hT] at h; cases h
    | ok x k =>
      obtain ⟨t1, t2, t3, t4, t5⟩ := take_ok hT
      have hp := x.size_pos
      rw [lst_ok hT] at h
      cases h2 : lst (b.drop k) with
      | none => rw [h2] at h; cases h
      | some ys =>
        rw [h2] at h
        simp at h
        subst h
        obtain ⟨i1, i2⟩ := ih (b.drop k) ys (by rw [List.length_drop]; omega) h2
        rw [List.length_drop] at i1
        refine ⟨by simp; omega, fun y hy => ?_⟩
        rcases List.mem_cons.1 hy with rfl | hy
        · exact ⟨t1, t2⟩
        · exact i2 y hy
theorem its_bounds {xs : List It} (h : ∀ x ∈ xs, x.fits ∧ x.good = true) : ∀ x ∈ xs, x.fits ∧ x.key.length ≤ 140737488351232 ∧ x.value.length ≤ 140737488351232 := fun x hx => by
  obtain ⟨h1, h2⟩ := h x hx
  obtain ⟨g1, g2, g3, g4⟩ := x.good_iff.1 h2
  exact ⟨h1, by omega, by omega⟩
def boxI (x : It) : Obj := .cells #[.string (txt x.key), .string (txt x.value), .int .u32 x.flags, .int .i64 x.exp, .int .u64 x.ver] 30
def IsBox (W : World) (N : Nat) (x : It) : Prop := W.cell? ⟨N, 0, none⟩ = some (.string (txt x.key)) ∧ W.cell? ⟨N, 1, none⟩ = some (.string (txt x.value)) ∧ W.cell? ⟨N, 2, none⟩ = some (.int .u32 x.flags) ∧ W.cell? ⟨N, 3, none⟩ = some (.int .i64 x.exp) ∧ W.cell? ⟨N, 4, none⟩ = some (.int .u64 x.ver)
theorem isBox_of {W : World} {N : Nat} {x : It} (h : Blk W N (itCells x) 30) : IsBox W N x := ⟨h.cell rfl, h.cell rfl, h.cell rfl, h.cell rfl, h.cell rfl⟩
theorem tkV_out (t : Tk) : tkV t = .tuple #[.agg #[.string (txt t.item.key), .string (txt t.item.value), .int .u32 t.item.flags, .int .i64 t.item.exp, .int .u64 t.item.ver], .int .i64 t.len, .int .i64 t.err] := rfl
set_option maxRecDepth 4000 in
set_option maxHeartbeats 4000000 in
theorem walk (a0 : Option Addr) (len0 cap0 : Nat) (z0 : List UInt8) (w : World) (hw0 : BS w a0 len0 cap0 z0 ∧ (a0 = none → z0 = []) ∧ len0 ≤ 140737488351232) :
    Calls Try.prog 5 #[.slice a0 len0 cap0] w fun e w' => e = .returned (.bool true) ∧ Below w.heap.size w w' := by
  obtain ⟨hb, hnil, hlen⟩ := hw0
  have HB := hide hb
  have HN := hide hnil
  have ca := hide (awake_any take_is)
  clear hb hnil
  go_enter Try.func5, Try.ntmps5
  go_wp2_with fail
  refine (ca.out _).mono ?_
  rintro r w1 ⟨rfl, h1⟩
  have A := hide h1
  clear h1
  by_cases hbig : 4000 < len0
  · have hbi : ((4000 : Int) < (len0 : Int)) = True := eq_true (by omega)
    clear hbig
    go_wp2
    go_ret
    exact ⟨rfl, A.out⟩
  · have hbi : ((4000 : Int) < (len0 : Int)) = False := eq_false (by omega)
    have hl20 : len0 ≤ 4000 := by omega
    clear hbig
    have B1 := hide (HB.out.later A.out)
    obtain ⟨g, c, wA, hrA, hoA, hBA⟩ := append_copy w1 a0 len0 cap0 z0 B1.out HN.out (by omega)
    have HRA := hide hrA
    have ct := hide (take_is _ _ _ _ (own_bs hoA).2.1 wA (own_bs hoA).1)
    have A2 := hide (A.out.trans (hBA.mono A.out.size))
    have cR := hide (refTake_any z0 (by rw [← B1.out.len]; omega))
    rw [tkV_out] at ct cR
    have LZ : Hid (z0.length ≤ 4000) := by show _ ≤ _; rw [← B1.out.len]; exact hl20
    clear hrA hoA hBA
    generalize hT : take z0 = t at ct cR
    clear hT
    go_wp2_with (at_builtin; refine Lib.wpList_append_run _ rfl _ _ _ _ rfl _ _ rfl rfl _ _ HRA.out ?_)
    refine ct.out.mono ?_
    rintro r w2 ⟨rfl, h2⟩
    have A3 := hide (A2.out.trans (h2.mono A2.out.size))
    clear h2 A A2 ct HRA B1
    have AX := hide (Aft.new w2 (boxI t.item))
    have bs3 := HB.out.later (A3.out.alloc A3.out.size (boxI t.item))
    have sC : (convert 23 9 (.slice a0 len0 cap0)).run Try.prog (w2.alloc (.cells #[.string (txt t.item.key), .string (txt t.item.value), .int .u32 t.item.flags, .int .i64 t.item.exp, .int .u64 t.item.ver] 30)) = .ok (.string (txt z0)) (w2.alloc (.cells #[.string (txt t.item.key), .string (txt t.item.value), .int .u32 t.item.flags, .int .i64 t.item.exp, .int .u64 t.item.ver] 30)) := str_bs bs3 HN.out
    clear bs3
    go_wp2_with fail
    refine (cR.out _).mono ?_
    rintro r w3 ⟨rfl, h3⟩
    replace AX := hide (AX.out.then h3)
    clear h3 sC
    have bx : IsBox (w3.alloc (.cells #[.string (txt t.item.key), .string (txt t.item.value), .int .u32 t.item.flags, .int .i64 t.item.exp, .int .u64 t.item.ver] 30)) w2.heap.size t.item := isBox_of (((Blk.new w2 (itCells t.item) 30).same (AX.out.below.block _ (by omega))).alloc _)
    have by_ : IsBox (w3.alloc (.cells #[.string (txt t.item.key), .string (txt t.item.value), .int .u32 t.item.flags, .int .i64 t.item.exp, .int .u64 t.item.ver] 30)) w3.heap.size t.item := isBox_of (Blk.new w3 (itCells t.item) 30)
    have A4 : Hid (Below w.heap.size w (w3.alloc (.cells #[.string (txt t.item.key), .string (txt t.item.value), .int .u32 t.item.flags, .int .i64 t.item.exp, .int .u64 t.item.ver] 30))) := by
      have h4 := A3.out.trans (AX.out.old.mono A3.out.size)
      exact h4.alloc h4.size _
    have hq : ∀ W : World, (binOp .neq 30 (.agg #[.string (txt t.item.key), .string (txt t.item.value), .int .u32 t.item.flags, .int .i64 t.item.exp, .int .u64 t.item.ver]) (.agg #[.string (txt t.item.key), .string (txt t.item.value), .int .u32 t.item.flags, .int .i64 t.item.exp, .int .u64 t.item.ver])).run Try.prog W = .ok (.bool false) W := fun W => by
      have := run_neq_items t.item t.item W
      rw [@decide_eq_true _ (itDec t.item t.item) rfl] at this
      exact this
    clear AX A3 cR
    generalize txt t.item.key = kb at *
    generalize txt t.item.value = vb at *
    unfold IsBox at bx by_
    obtain ⟨a0', a1, a2, a3, a4⟩ := bx
    obtain ⟨b0, b1, b2, b3, b4⟩ := by_
    obtain ⟨g', c', wB, hrB, hoB, hBB⟩ := append_copy (w3.alloc (.cells #[.string kb, .string vb, .int .u32 t.item.flags, .int .i64 t.item.exp, .int .u64 t.item.ver] 30)) a0 len0 cap0 z0 (HB.out.later A4.out) HN.out (by omega)
    rw [nblk_alloc] at hrB
    have HRB := hide hrB
    have cl := hide (list_cap take_is _ _ _ z0 (own_bs hoB).2.1 (by omega) wB (own_bs hoB).1)
    have A5 := hide (A4.out.trans (hBB.mono A4.out.size))
    have cS := hide (refList_any z0 (by have := LZ.out; omega))
    clear hrB hoB hBB A4
    go_wp2_with (at_builtin; refine Lib.wpList_append_run _ rfl _ _ _ _ rfl _ _ rfl rfl _ _ HRB.out ?_)
    clear HRB a0' a1 a2 a3 a4 b0 b1 b2 b3 b4 hq
    refine cl.out.mono ?_
    clear cl
    cases hL : lst z0 with
    | none =>
      rw [hL] at cS
      rintro r w5 ⟨h5, rfl⟩
      have A6 := hide (A5.out.trans (h5.mono A5.out.size))
      clear h5 A5
      have sD : (convert 23 9 (.slice a0 len0 cap0)).run Try.prog w5 = .ok (.string (txt z0)) w5 := str_bs (HB.out.later A6.out) HN.out
      clear hL
      go_wp2_with fail
      refine (cS.out _).mono ?_
      clear cS sD
      rintro r w6 ⟨h6, rfl⟩
      have A7 := hide (A6.out.trans (h6.mono A6.out.size))
      clear h6 A6
      have ci := hide (fun W : World => items_same none none 0 0 0 [] (by omega) W ⟨rfl, (fun x hx => by cases hx), (fun i x hx => by simp at hx)⟩ ⟨rfl, (fun x hx => by cases hx), (fun i x hx => by simp at hx)⟩)
      go_wp2_with (go_at_call 22; refine (ci.out _).mono ?_; rintro r w7 ⟨rfl, h7⟩; have A8 := hide (A7.out.trans (h7.mono A7.out.size)); clear h7)
      go_ret
      exact ⟨rfl, A8.out⟩
    | some xs =>
      rw [hL] at cS
      obtain ⟨hxl, hxs⟩ := lst_all _ z0 xs (Nat.le_refl _) hL
      have XB := hide (its_bounds hxs)
      have XL : Hid (xs.length ≤ 4000) := by show _ ≤ _; have := LZ.out; omega
      clear hxl hxs hL
      rintro r w5 ⟨h5, v, rfl, ho⟩
      obtain ⟨aL, cL, rfl, hi, _⟩ := own_its ho rfl XB.out
      have HI := hide hi
      have A6 := hide (A5.out.trans (h5.mono A5.out.size))
      clear h5 A5 ho hi
      have sD : (convert 23 9 (.slice a0 len0 cap0)).run Try.prog w5 = .ok (.string (txt z0)) w5 := str_bs (HB.out.later A6.out) HN.out
      go_wp2_with fail
      refine (cS.out _).mono ?_
      clear cS sD
      rintro r w6 ⟨h6, v, rfl, ho⟩
      obtain ⟨aM, cM, rfl, hi, _⟩ := own_its ho rfl XB.out
      have ci := hide (items_same aL aM xs.length cL cM xs (by have := XL.out; omega) w6 (HI.out.below h6) hi)
      have A7 := hide (A6.out.trans (h6.mono A6.out.size))
      clear h6 A6 ho hi
      go_wp2_with (go_at_call 22; refine ci.out.mono ?_; rintro r w7 ⟨rfl, h7⟩; have A8 := hide (A7.out.trans (h7.mono A7.out.size)); clear h7)
      go_ret
      exact ⟨rfl, A8.out⟩
end Go.Proofs.Ytlmfdibncpbmjaa.recTakes
