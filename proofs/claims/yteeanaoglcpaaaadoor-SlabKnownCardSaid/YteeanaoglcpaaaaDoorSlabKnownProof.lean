/-
  The chapter's bounds answer as told: proof of the law 'SlabKnown'. No conditions.
-/
import Derived.Test.YteeanaoglcpaaaaDoorCards
import Derived.Test.YteeanaoglcpaaaaDoorTie
import Derived.WalkKit
import Derived.ProofKit
import Derived.OpenShut
import Derived.ShutString
import Derived.ChangeOld
import Derived.Deep.DeepHandedRow
import Derived.Lib.LaidTab
import Derived.Stop.LaidErr
import Derived.LaidMore
import Derived.Test.YteeanaoglcpaaaaDoorAwake
namespace Go.Proofs.YteeanaoglcpaaaaDoor.slabKnown
open Go.ChangeShapes Go.WideShapes Go.ChangeAt Go.RowKit Go.Deep Go.Shelf Math
set_option linter.unusedVariables false
set_option linter.unusedSimpArgs false


set_option maxHeartbeats 4000000 in
set_option maxRecDepth 8000 in
/-- The walk: the Go text returns true, and writes nothing that was there. -/
theorem walk (w : World)  (htab : Tab w) :
    Calls Tryd.prog 3 #[] w fun e w' => e = .returned (.bool true) ∧ Below w.heap.size w w' := by
  have ca := hide (awake_any w htab)
  go_enter Tryd.func3, Tryd.ntmps3
  go_wp2_with fail
  refine ca.out.mono ?_
  rintro e w1 ⟨rfl, h1⟩
  have B1 := hide h1
  have T := hide htab
  have c1 : Hid (Calls Tryd.prog 10 #[.int .i64 0] w1 fun e W' => e = .returned (.tuple #[.pointer none, .int .i64 1]) ∧ W' = w1) := new_bad 0 w1 (by omega)
  have c2 : Hid (Calls Tryd.prog 10 #[.int .i64 1025] w1 fun e W' => e = .returned (.tuple #[.pointer none, .int .i64 1]) ∧ W' = w1) := new_bad 1025 w1 (by omega)
  have cN := hide (new_l B1.out T.out 2 (by omega) (by omega))
  clear h1 ca htab
  go_wp2_with fail
  refine c1.out.mono ?_
  rintro e wx ⟨rfl, hx⟩
  obtain rfl : w1 = wx := hx.symm
  clear hx c1
  go_wp2_with fail
  refine c2.out.mono ?_
  rintro e wx ⟨rfl, hx⟩
  obtain rfl : w1 = wx := hx.symm
  clear hx c2
  go_wp2_with fail
  refine cN.out.mono ?_
  rintro e w2 ⟨f, s, rfl, h2, _, _, _⟩
  have c3 : Hid (Calls Tryd.prog 11 #[.pointer (some ⟨f, 0, none⟩), .int .i64 6] w2 fun e W' => e = .returned (.tuple #[.int .i64 0, .int .i64 1]) ∧ W' = w2) := take_bad f 6 (by omega) w2
  have c4 : Hid (Calls Tryd.prog 12 #[.pointer (some ⟨f, 0, none⟩), .int .i64 0] w2 fun e W' => e = .returned (.int .i64 5) ∧ Sl w f s (List.replicate 2 blank) W') := by
    refine (free_l h2 0 (by omega)).mono ?_
    rintro e W ⟨rfl, h, _⟩
    exact ⟨rfl, h⟩
  clear cN h2
  go_wp2_with fail
  refine c3.out.mono ?_
  rintro e wx ⟨rfl, hx⟩
  obtain rfl : w2 = wx := hx.symm
  clear hx c3
  go_wp2_with fail
  refine c4.out.mono ?_
  rintro e w3 ⟨rfl, h3⟩
  have c5 : Hid (∀ z : Int, Calls Tryd.prog 13 #[.int .i64 z] w3 fun e W' => e = .returned (.int .i64 (cls z)) ∧ W' = w3) := fun z => class_any z w3
  have d1 : Hid (Calls Tryd.prog 13 #[.int .i64 (-1)] w3 fun e W' => e = .returned (.int .i64 (-1)) ∧ W' = w3) := c5.out (-1)
  have d2 : Hid (Calls Tryd.prog 13 #[.int .i64 2049] w3 fun e W' => e = .returned (.int .i64 (-1)) ∧ W' = w3) := c5.out 2049
  have d3 : Hid (Calls Tryd.prog 13 #[.int .i64 0] w3 fun e W' => e = .returned (.int .i64 0) ∧ W' = w3) := c5.out 0
  have d4 : Hid (Calls Tryd.prog 14 #[.int .i64 6] w3 fun e W' => e = .returned (.int .i64 0) ∧ W' = w3) := chunk_bad 6 (by omega) w3
  have d5 : Hid (Calls Tryd.prog 15 #[.pointer (some ⟨f, 0, none⟩), .int .i64 (-1)] w3 fun e W' => e = .returned (.int .i64 (-1)) ∧ Sl w f s (List.replicate 2 blank) W') := by
    refine (of_l h3 (-1) (by omega)).mono ?_
    rintro e W ⟨rfl, h, _⟩
    exact ⟨rfl, h⟩
  clear c4 h3 c5
  go_wp2_with fail
  refine d1.out.mono ?_
  rintro e wx ⟨rfl, hx⟩
  obtain rfl : w3 = wx := hx.symm
  clear hx d1
  go_wp2_with fail
  refine d2.out.mono ?_
  rintro e wx ⟨rfl, hx⟩
  obtain rfl : w3 = wx := hx.symm
  clear hx d2
  go_wp2_with fail
  refine d3.out.mono ?_
  rintro e wx ⟨rfl, hx⟩
  obtain rfl : w3 = wx := hx.symm
  clear hx d3
  go_wp2_with fail
  refine d4.out.mono ?_
  rintro e wx ⟨rfl, hx⟩
  obtain rfl : w3 = wx := hx.symm
  clear hx d4
  go_wp2_with fail
  refine d5.out.mono ?_
  rintro e w4 ⟨rfl, h4⟩
  have d6 : Hid (Calls Tryd.prog 16 #[.pointer (some ⟨f, 0, none⟩)] w4 fun e W' => e = .returned (.int .i64 2) ∧ Sl w f s (List.replicate 2 blank) W') := by
    refine (left_l h4).mono ?_
    rintro e W ⟨rfl, h, _⟩
    exact ⟨rfl, h⟩
  clear d5 h4
  go_wp2_with fail
  refine d6.out.mono ?_
  rintro e w5 ⟨rfl, h5⟩
  have B := hide h5.bel
  clear d6 h5
  go_wp2
  go_ret
  exact ⟨rfl, B.out⟩

theorem own : ownKnob Tryd.prog.godebug = none := by kernel_rfl
/-- What the row lists: the table of trailing zeros. -/
theorem table {W : World} (h : laidMetH Tryd.prog Rows.slabKnownRow.laid W) : Tab W :=
  Tab.of (Lib.tabIs_of_head (rest := []) (g := 0) (t := 58) (e := 5) (n := 64) (by kernel_rfl) (by kernel_rfl) (by kernel_rfl) (by kernel_rfl) (by kernel_rfl) (by kernel_rfl) (show laidMet Tryd.prog Rows.slabKnownRow.laid W from h))
/-- What the walk gives, for every argument and every world that holds the table. -/
theorem contract (H : Type) (enc : TypeId × Value → H) (W : World) (base : Nat) (args : Array Value) (ds gs : List (DataW H)) (before : List MemPlace)
    (hval : ∀ (j : Nat) t v, Tryd.f3.params[j]? = some t → args[j]? = some v → Value.okWide Tryd.prog W .any base t v)
    (hW : DataW.Whole enc Tryd.prog Tryd.f3.params.toList Rows.slabKnownSpec.vars false W args.toList ds gs before) (hL : laidMetH Tryd.prog Rows.slabKnownRow.laid W) :
    Calls Tryd.prog 3 args W fun e W' => ∃ v, e = .returned v ∧ Rows.slabKnownSpec.post enc Tryd.prog Tryd.f3 false true false false W args v W' := by
  have hW' := hW
  obtain ⟨p, q, hA0, hV, rfl, hfz, hnd⟩ := hW
  have hA : DataW.TrodAll enc Tryd.prog W 0 (fun _ => true) true Tryd.f3.params.toList args.toList ds p := hA0
  rw [Tryd.params3] at hA hval
  obtain ⟨rfl, rfl, rfl⟩ := trodAll_none hA
  obtain ⟨rfl, rfl⟩ := trodVars_none hV
  clear hA0
  simp only [List.append_nil] at hW'
  refine (walk W  (table hL)).mono fun e W' ⟨he, bel⟩ => ?_
  subst he
  exact ⟨_, rfl, _, _, _, [], _, [], hW', trodAll_mk1 (shut_bool Tryd.underlying4 _), trodAll_mk0, rfl, bel.frame _, fun h => by cases h⟩

/-- The witness: what the initialisers leave is met. -/
theorem laid_met (os : Os) : laidMet Tryd.prog Rows.slabKnownRow.laid ((World.doorLaid Tryd.prog 14 os).forCall (fun _ _ => 0) ⟨#[], #[], []⟩).memory :=
  laidMet_of_run' 8 (by kernel_rfl) (by kernel_rfl)
theorem reads (os : Os) {H : Type} (enc : TypeId × Value → H) : ∃ places, DataW.whole enc Tryd.prog ((World.doorLaid Tryd.prog 14 os).forCall (fun _ _ => 0) ⟨#[], #[], []⟩).memory Tryd.f3.params.toList Rows.slabKnownSpec.vars false (#[] : Array Value).toList 8 = some ([], [], places) :=
  ⟨[], by kernel_rfl⟩

set_option maxRecDepth 100000 in
theorem lifted (os : Os) (started : os.Started) (H : Type) (enc : TypeId × Value → H) (F : Stop.Interp) :
    ReturnsInHanded {} Tryd.checked os 3 .any ((OpenSpec.ofChange Rows.slabKnownSpec).preRow enc Tryd.prog Tryd.f3 Rows.slabKnownRow.domain false Rows.slabKnownRow.laid) (((OpenSpec.ofChange Rows.slabKnownSpec).at F).post enc Tryd.prog Tryd.f3 false true false false) := by
  obtain ⟨places, hx⟩ := reads os enc
  refine returnsInHanded_of_row (C := Tryd.checked) (s := OpenSpec.ofChange Rows.slabKnownSpec) own started (by kernel_rfl) Tryd.func3
    (witness_row_at (enc := enc) (C := Tryd.checked) false (World.doorLaid Tryd.prog 14 os) #[] rfl (by kernel_rfl) (by kernel_rfl) (by kernel_rfl)
      (OpenSpec.preRow_of_cond 8 hx (by kernel_rfl) (fun k hk => by cases hk) (by kernel_rfl) (laid_met os))) ?_
  intro W base args ds gs before hval hW _ _ _ hL _ _
  exact contract H enc W base args ds gs before hval hW hL

theorem said : Rows.SlabKnownSaid :=
  OpenClaim.holds_of_cond 3 Tryd.f3 rfl rfl rfl rfl rfl rfl rfl ⟨rfl, rfl, rfl, rfl, rfl⟩ rfl rfl rfl rfl rfl (by kernel_rfl) Tryd.func3 (by kernel_rfl)
    (of_decide_eq_true (by kernel_rfl)) (by unfold Func.isWrapper; first | (rw [if_pos (by decide +kernel)]; kernel_rfl) | (rw [if_neg (by decide +kernel)]; exact ⟨rfl, rfl⟩))
    (fun os started H enc _ F => by rw [OpenClaim.pre_eq_preRow]; exact lifted os started H enc F)

theorem plain (f : FuncId) (fn : Func) (hf : Tryd.pinned.checked.prog.funcNamed Rows.slabKnownRow.func = some f) (hfn : Tryd.pinned.checked.prog.funcs[f]? = some fn) :
    false = Tryd.pinned.checked.prog.looks [] ∧ ∀ (j : Nat) t, fn.params[j]? = some t → Tryd.pinned.checked.prog.wantsStandIn t = false := by
  obtain rfl : f = 3 := Option.some.inj ((show Tryd.prog.funcNamed Rows.slabKnownRow.func = some 3 by kernel_rfl).symm.trans hf) |>.symm
  obtain rfl : fn = Tryd.f3 := (Option.some.inj (Tryd.func3.symm.trans hfn)).symm
  refine ⟨by kernel_rfl, fun j t ht => ?_⟩
  rw [Tryd.params3] at ht
  simp at ht

theorem card : Rows.SlabKnownCardSaid :=
  Claim7.holds_tied_plain_at .later [] _ _ _ _ said (fun _ h => by cases h) (by kernel_rfl) (fun _ h => by cases h) slabKnown_row_tie rfl ⟨rfl, rfl⟩ (by kernel_rfl) rfl plain (by kernel_rfl)
end Go.Proofs.YteeanaoglcpaaaaDoor.slabKnown
namespace Go.Proofs.YteeanaoglcpaaaaDoor
theorem slabKnown_holds : Rows.SlabKnownCardSaid := slabKnown.card
#print axioms slabKnown_holds
end Go.Proofs.YteeanaoglcpaaaaDoor
