/-
  DramKnown at its seat: a tied card.
-/
import Derived.Test.YtdkiegkgnimapaaDoorCards
import Derived.Test.YtdkiegkgnimapaaDoorTie
import Derived.WalkKit
import Derived.ProofKit
import Derived.OpenShut
import Derived.ShutString
import Derived.ChangeOld
import Derived.Deep.DeepHandedRow
import Derived.Lib.LaidTab
import Derived.Stop.LaidErr
import Derived.LaidMore
import Derived.Test.YtdkiegkgnimapaaDoorAr
namespace Go.Proofs.YtdkiegkgnimapaaDoor.dramKnown
open Go.ChangeShapes Go.WideShapes Go.ChangeAt Go.RowKit Go.Deep Go.Shelf Drm
open Tbl (txt)
open Slb (size_of)
set_option linter.unusedVariables false
set_option linter.unusedSimpArgs false

theorem iV_zero : iV ⟨#[]⟩ ⟨#[]⟩ 0 0 ((0 : Nat) : Int) = .agg #[.string ⟨#[]⟩, .string ⟨#[]⟩, .int .u32 0, .int .i64 0, .int .u64 0] := rfl
theorem enter12 (args : Array Value) (w : World) : (callFunc 12 args).run Tryd.prog w = .ok (.enter 12 args) w := enters_of Tryd.func12 (by kernel_rfl) rfl args w
set_option maxHeartbeats 4000000 in
set_option maxRecDepth 8000 in
/-- The walk: the Go text returns true, and writes nothing that was there. -/
theorem walk (w : World)  (htab : Slb.Tab w) :
    Calls Tryd.prog 3 #[] w fun e w' => e = .returned (.bool true) ∧ Below w.heap.size w w' := by
  have cA := hide (awake_any w htab)
  have HT := hide htab
  clear htab
  go_enter Tryd.func3, Tryd.ntmps3
  go_wp2_with fail
  refine cA.out.mono ?_
  rintro e W1 ⟨rfl, b1⟩
  have cN := hide (new_bad 0 W1 (.inl (by decide)))
  have cM := hide (new_d b1 HT.out 2 (by decide) (by decide))
  clear cA b1
  go_wp2_with fail
  refine cN.out.mono ?_
  rintro e wx ⟨rfl, hx⟩
  obtain rfl : W1 = wx := hx.symm
  clear hx cN
  go_wp2_with fail
  refine cM.out.mono ?_
  rintro e W2 ⟨c, rfl, h2, -, -⟩
  have H2 := hide h2
  clear cM h2
  have cP := hide (put_bad H2.out ⟨#[]⟩ ⟨#[]⟩ 0 0 0 false rfl)
  unfold iV at cP
  clear H2
  go_wp2_with fail
  refine cP.out.mono ?_
  rintro e W3 ⟨rfl, h3, -⟩
  have H3 := hide h3
  have cG := hide (get_none H3.out (key := [97]) (by decide) 0 rfl)
  rw [show txt [97] = ⟨#[97]⟩ from rfl] at cG
  unfold itV zIt at cG
  clear cP h3 H3
  go_wp2_with fail
  refine cG.out.mono ?_
  rintro e W4 ⟨rfl, h4, -⟩
  obtain ⟨X4, hX4⟩ : ∃ X, X = W4.alloc (.cells #[.string (txt []), .string (txt []), .int .u32 0, .int .i64 0, .int .u64 0] 33) := ⟨_, rfl⟩
  have b4 : Below W4.heap.size W4 X4 := by rw [hX4]; exact (Below.refl _ W4).alloc (Nat.le_refl _) _
  have H4 := hide (h4.on b4)
  have cD := hide (delete_d H4.out (key := [97]) (by decide))
  rw [show txt [97] = ⟨#[97]⟩ from rfl, show kfd [97] (new0 2).it = none from rfl] at cD
  simp only [Option.isSome_none] at cD
  rw [hX4] at cD
  clear cG h4 b4 hX4 H4
  go_wp2_with fail
  refine cD.out.mono ?_
  rintro e W5 ⟨rfl, h5, -⟩
  have HB := hide h5.bel
  have cE := hide (dead_any (some ⟨c, 0, none⟩) ⟨#[]⟩ ⟨#[]⟩ 0 0 0 4611686018427387904 W5)
  unfold iV at cE
  rw [show deadB 0 4611686018427387904 = false from rfl] at cE
  clear cD h5
  go_wp2_with fail
  refine cE.out.mono ?_
  rintro e W6 ⟨rfl, b6⟩
  have HE := hide (HB.out.trans (b6.mono HB.out.size))
  clear cE b6 HB
  go_wp2
  go_ret
  exact ⟨rfl, HE.out⟩

theorem laidOut : laidOutB Tryd.prog = true := by kernel_rfl
theorem own : ownKnob Tryd.prog.godebug = none := by kernel_rfl
/-- What the row lists: the table of trailing zeros. -/
theorem table {W : World} (h : laidMetH Tryd.prog Rows.dramKnownRow.laid W) : Slb.Tab W :=
  Slb.Tab.of (Lib.tabIs_of_head (rest := []) (g := 0) (t := 147) (e := 5) (n := 64) (by kernel_rfl) (by kernel_rfl) (by kernel_rfl) (by kernel_rfl) (by kernel_rfl) (by kernel_rfl) (show laidMet Tryd.prog Rows.dramKnownRow.laid W from h))
/-- What the walk gives, for every argument and every world that holds the table. -/
theorem contract (H : Type) (enc : TypeId × Value → H) (W : World) (base : Nat) (args : Array Value) (ds gs : List (DataW H)) (before : List MemPlace)
    (hval : ∀ (j : Nat) t v, Tryd.f3.params[j]? = some t → args[j]? = some v → Value.okWide Tryd.prog W .any base t v)
    (hW : DataW.Whole enc Tryd.prog Tryd.f3.params.toList Rows.dramKnownSpec.vars false W args.toList ds gs before) (hsz : (DataW.weightsEach Tryd.prog (Tryd.f3.params.toList ++ (OpenSpec.ofChange Rows.dramKnownSpec).bare.plain.varTypes Tryd.prog) (ds ++ gs)).all (· ≤ reachBytes) = true) (hL : laidMetH Tryd.prog Rows.dramKnownRow.laid W) :
    Calls Tryd.prog 3 args W fun e W' => ∃ v, e = .returned v ∧ Rows.dramKnownSpec.post enc Tryd.prog Tryd.f3 false true false false W args v W' := by
  have hW' := hW
  obtain ⟨p, q, hA0, hV, rfl, hfz, hnd⟩ := hW
  have hA : DataW.TrodAll enc Tryd.prog W 0 (fun _ => true) true Tryd.f3.params.toList args.toList ds p := hA0
  rw [Tryd.params3] at hA hval hsz
  obtain ⟨rfl, rfl, rfl⟩ := trodAll_none hA
  obtain ⟨rfl, rfl⟩ := trodVars_none hV
  clear hA0
  simp only [List.append_nil] at hW'
  refine (walk W  (table hL)).mono fun e W' ⟨he, bel⟩ => ?_
  subst he
  exact ⟨_, rfl, _, _, _, [], _, [], hW', trodAll_mk1 (shut_bool Tryd.underlying4 _), trodAll_mk0, rfl, bel.frame _, fun h => by cases h⟩

/-- The witness: what the initialisers leave is met. -/
theorem laid_met (os : Os) : laidMet Tryd.prog Rows.dramKnownRow.laid ((World.doorLaid Tryd.prog 14 os).forCall (fun _ _ => 0) ⟨#[], #[], []⟩).memory :=
  laidMet_of_run' 8 (by kernel_rfl) (by kernel_rfl)
theorem reads (os : Os) {H : Type} (enc : TypeId × Value → H) : ∃ places, DataW.whole enc Tryd.prog ((World.doorLaid Tryd.prog 14 os).forCall (fun _ _ => 0) ⟨#[], #[], []⟩).memory Tryd.f3.params.toList Rows.dramKnownSpec.vars false (#[] : Array Value).toList 8 = some ([], [], places) :=
  ⟨[], by kernel_rfl⟩

set_option maxRecDepth 100000 in
theorem lifted (os : Os) (started : os.Started) (H : Type) (enc : TypeId × Value → H) (F : Stop.Interp) :
    ReturnsInHanded {} Tryd.checked os 3 .any ((OpenSpec.ofChange Rows.dramKnownSpec).preRow enc Tryd.prog Tryd.f3 Rows.dramKnownRow.domain false Rows.dramKnownRow.laid) (((OpenSpec.ofChange Rows.dramKnownSpec).at F).post enc Tryd.prog Tryd.f3 false true false false) := by
  obtain ⟨places, hx⟩ := reads os enc
  refine returnsInHanded_of_row (C := Tryd.checked) (s := OpenSpec.ofChange Rows.dramKnownSpec) own started (by kernel_rfl) Tryd.func3
    (witness_row_at (enc := enc) (C := Tryd.checked) false (World.doorLaid Tryd.prog 14 os) #[] rfl (by kernel_rfl) (by kernel_rfl) (by kernel_rfl)
      (OpenSpec.preRow_of_cond 8 hx (by kernel_rfl) (fun k hk => by cases hk) (by kernel_rfl) (laid_met os))) ?_
  intro W base args ds gs before hval hW _ _ hsz hL _ _
  exact contract H enc W base args ds gs before hval hW hsz hL

theorem said : Rows.DramKnownSaid :=
  OpenClaim.holds_of_cond 3 Tryd.f3 rfl rfl rfl rfl rfl rfl rfl ⟨rfl, rfl, rfl, rfl, rfl⟩ rfl rfl rfl rfl rfl (by kernel_rfl) Tryd.func3 (by kernel_rfl)
    (of_decide_eq_true (by kernel_rfl)) (by unfold Func.isWrapper; first | (rw [if_pos (by decide +kernel)]; kernel_rfl) | (rw [if_neg (by decide +kernel)]; exact ⟨rfl, rfl⟩))
    (fun os started H enc _ F => by rw [OpenClaim.pre_eq_preRow]; exact lifted os started H enc F)

theorem plain (f : FuncId) (fn : Func) (hf : Tryd.pinned.checked.prog.funcNamed Rows.dramKnownRow.func = some f) (hfn : Tryd.pinned.checked.prog.funcs[f]? = some fn) :
    false = Tryd.pinned.checked.prog.looks [] ∧ ∀ (j : Nat) t, fn.params[j]? = some t → Tryd.pinned.checked.prog.wantsStandIn t = false := by
  obtain rfl : f = 3 := Option.some.inj ((show Tryd.prog.funcNamed Rows.dramKnownRow.func = some 3 by kernel_rfl).symm.trans hf) |>.symm
  obtain rfl : fn = Tryd.f3 := (Option.some.inj (Tryd.func3.symm.trans hfn)).symm
  refine ⟨by kernel_rfl, fun j t ht => ?_⟩
  rw [Tryd.params3] at ht
  simp at ht

theorem card : Rows.DramKnownCardSaid :=
  Claim7.holds_tied_plain_at .later [] _ _ _ _ said (fun _ h => by cases h) (by kernel_rfl) (fun _ h => by cases h) dramKnown_row_tie rfl ⟨rfl, rfl⟩ (by kernel_rfl) rfl plain (by kernel_rfl)
end Go.Proofs.YtdkiegkgnimapaaDoor.dramKnown
namespace Go.Proofs.YtdkiegkgnimapaaDoor
theorem dramKnown_holds : Rows.DramKnownCardSaid := dramKnown.card
#print axioms dramKnown_holds
end Go.Proofs.YtdkiegkgnimapaaDoor
