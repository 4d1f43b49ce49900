/-
  WordsKnown answers true: the examples of chapter 2 answer as they are told. Conditions: none (the library's tables read as their initialisers lay them).
-/
import Derived.Test.YtffmmpahenogdaaDoorCards
import Derived.Test.YtffmmpahenogdaaDoorTie
import Derived.WalkKit
import Derived.ProofKit
import Derived.OpenShut
import Derived.ShutString
import Derived.ChangeOld
import Derived.Deep.DeepHandedRow
import Derived.Lib.LaidTab
import Derived.Stop.LaidErr
import Derived.LaidMore
import Derived.Test.YtffmmpahenogdaaDoorAwake
namespace Go.Proofs.YtffmmpahenogdaaDoor.wordsKnown
open Go.ChangeShapes Go.WideShapes Go.ChangeAt Go.RowKit
open Go.ChangeMaps (open_string shut_string)
set_option linter.unusedVariables false


set_option maxHeartbeats 4000000 in
set_option maxRecDepth 1000000 in
/-- The walk: the Go text returns true, and writes nothing that was there. -/
theorem walk  (w : World) (htab : Tab w) :
    Calls Tryd.prog 3 #[] w fun e w' => e = .returned (.bool true) ∧ Below w.heap.size w w' := by
  go_enter Tryd.func3, Tryd.ntmps3
  go_wp2_with fail
  refine (awake_any _ htab).mono ?_
  rintro e w1 ⟨rfl, b1⟩
  have HB1 : Hid (Below w.heap.size w w1) := b1
  have s1 := b1.size
  clear b1
  go_wp2_with fail
  refine (number_any _ _).mono ?_
  rintro e w2 ⟨rfl, b2⟩
  rw [show numOk (ByteArray.mk #[49, 56, 52, 52, 54, 55, 52, 52, 48, 55, 51, 55, 48, 57, 53, 53, 49, 54, 49, 54]).data.toList = false by decide]
  have HB2 : Hid (Below w.heap.size w w2) := HB1.out.trans (b2.mono s1)
  have s2 := b2.size
  clear b2 HB1
  go_wp2_with fail
  refine (number_any _ _).mono ?_
  rintro e w3 ⟨rfl, b3⟩
  rw [show numOk (ByteArray.mk #[]).data.toList = false by decide]
  have HB3 : Hid (Below w.heap.size w w3) := HB2.out.trans (b3.mono (by omega))
  have s3 := b3.size
  clear b3 HB2
  go_wp2_with fail
  refine (signed_any _ _).mono ?_
  rintro e w4 ⟨rfl, b4⟩
  rw [show sgnV (ByteArray.mk #[45, 48]).data.toList = 0 by decide, show sgnOk (ByteArray.mk #[45, 48]).data.toList = true by decide]
  have HB4 : Hid (Below w.heap.size w w4) := HB3.out.trans (b4.mono (by omega))
  have s4 := b4.size
  clear b4 HB3
  go_wp2_with fail
  refine (signed_any _ _).mono ?_
  rintro e w5 ⟨rfl, b5⟩
  rw [show sgnOk (ByteArray.mk #[57, 50, 50, 51, 51, 55, 50, 48, 51, 54, 56, 53, 52, 55, 55, 53, 56, 48, 56]).data.toList = false by decide]
  have HB5 : Hid (Below w.heap.size w w5) := HB4.out.trans (b5.mono (by omega))
  have s5 := b5.size
  clear b5 HB4
  go_wp2_with fail
  refine (signed_any _ _).mono ?_
  rintro e w6 ⟨rfl, b6⟩
  rw [show sgnV (ByteArray.mk #[45, 57, 50, 50, 51, 51, 55, 50, 48, 51, 54, 56, 53, 52, 55, 55, 53, 56, 48, 56]).data.toList = -9223372036854775808 by decide, show sgnOk (ByteArray.mk #[45, 57, 50, 50, 51, 51, 55, 50, 48, 51, 54, 56, 53, 52, 55, 55, 53, 56, 48, 56]).data.toList = true by decide]
  have HB6 : Hid (Below w.heap.size w w6) := HB5.out.trans (b6.mono (by omega))
  have s6 := b6.size
  clear b6 HB5
  go_wp2_with fail
  refine (key_any _ _ (by decide)).mono ?_
  rintro e w7 ⟨rfl, b7⟩
  rw [show isKey (ByteArray.mk #[]).data.toList = false by decide]
  have HB7 : Hid (Below w.heap.size w w7) := HB6.out.trans (b7.mono (by omega))
  have s7 := b7.size
  clear b7 HB6
  go_wp2_with fail
  refine (key_any _ _ (by decide)).mono ?_
  rintro e w8 ⟨rfl, b8⟩
  rw [show isKey (ByteArray.mk #[255]).data.toList = false by decide]
  have HB8 : Hid (Below w.heap.size w w8) := HB7.out.trans (b8.mono (by omega))
  have s8 := b8.size
  clear b8 HB7
  go_wp2_with fail
  refine (split_any _ _ (by decide)).mono ?_
  rintro e w9 ⟨v, rfl, hO, b9⟩
  have hsp : spl [] (ByteArray.mk #[32, 32]).data.toList = [] := by decide
  rw [hsp] at hO
  obtain ⟨ao, cap, rfl⟩ : ∃ ao cap, v = .slice ao 0 cap := by
    rcases Joins.ownsRow_forms hO with ⟨rfl, _⟩ | ⟨g, cap, rfl⟩
    · exact ⟨_, _, rfl⟩
    · exact ⟨_, _, rfl⟩
  have HB9 : Hid (Below w.heap.size w w9) := HB8.out.trans (b9.mono (by omega))
  have s9 := b9.size
  clear b9 HB8 hO hsp
  go_wp2_with fail
  refine (shown_any _ _ (by decide)).mono ?_
  rintro e w10 ⟨rfl, b10⟩
  rw [show shown (ByteArray.mk #[127, 34]).data.toList = [92, 49, 55, 55, 92, 48, 52, 50] by decide]
  have HB10 : Hid (Below w.heap.size w w10) := HB9.out.trans (b10.mono (by omega))
  clear b10 HB9
  go_wp2
  go_ret
  exact ⟨rfl, HB10.out⟩

theorem own : ownKnob Tryd.prog.godebug = none := by kernel_rfl
/-- What the row lists: the table of powers of ten. -/
theorem table {W : World} (h : laidMetH Tryd.prog Rows.wordsKnownRow.laid W) : Tab W :=
  Lib.tabIs_of_head (rest := []) (g := 0) (t := 69) (e := 23) (n := 20) (by kernel_rfl) (by kernel_rfl) (by kernel_rfl) (by kernel_rfl) (by kernel_rfl) (by kernel_rfl) (show laidMet Tryd.prog Rows.wordsKnownRow.laid W from h).tail.tail
/-- What the walk gives, for every argument and every world that holds the table. -/
theorem contract (H : Type) (enc : TypeId × Value → H) (W : World) (base : Nat) (args : Array Value) (ds gs : List (DataW H)) (before : List MemPlace)
    (hval : ∀ (j : Nat) t v, Tryd.f3.params[j]? = some t → args[j]? = some v → Value.okWide Tryd.prog W .any base t v)
    (hW : DataW.Whole enc Tryd.prog Tryd.f3.params.toList Rows.wordsKnownSpec.vars false W args.toList ds gs before) (hL : laidMetH Tryd.prog Rows.wordsKnownRow.laid W) :
    Calls Tryd.prog 3 args W fun e W' => ∃ v, e = .returned v ∧ Rows.wordsKnownSpec.post enc Tryd.prog Tryd.f3 false true false false W args v W' := by
  have hW' := hW
  obtain ⟨p, q, hA0, hV, rfl, hfz, hnd⟩ := hW
  have hA : DataW.TrodAll enc Tryd.prog W 0 (fun _ => true) true Tryd.f3.params.toList args.toList ds p := hA0
  rw [Tryd.params3] at hA hval
  obtain ⟨rfl, rfl, rfl⟩ := trodAll_none hA
  obtain ⟨rfl, rfl⟩ := trodVars_none hV
  clear hA0
  simp only [List.append_nil] at hW'
  refine (walk  W (table hL)).mono fun e W' ⟨he, bel⟩ => ?_
  subst he
  exact ⟨_, rfl, _, _, _, [], _, [], hW', trodAll_mk1 (shut_bool Tryd.underlying4 _), trodAll_mk0, rfl, bel.frame _, fun h => by cases h⟩

theorem laid_met (os : Os) : laidMet Tryd.prog Rows.wordsKnownRow.laid ((World.doorLaid Tryd.prog 24 os).forCall (fun _ _ => 0) ⟨#[], #[], []⟩).memory :=
  laidMet_of_run' 8 (by kernel_rfl) (by kernel_rfl)
theorem reads (os : Os) {H : Type} (enc : TypeId × Value → H) : ∃ places, DataW.whole enc Tryd.prog ((World.doorLaid Tryd.prog 24 os).forCall (fun _ _ => 0) ⟨#[], #[], []⟩).memory Tryd.f3.params.toList Rows.wordsKnownSpec.vars false (#[] : Array Value).toList 8 = some ([], [], places) :=
  ⟨[], by kernel_rfl⟩

set_option maxRecDepth 100000 in
theorem lifted (os : Os) (started : os.Started) (H : Type) (enc : TypeId × Value → H) (F : Stop.Interp) :
    ReturnsInHanded {} Tryd.checked os 3 .any ((OpenSpec.ofChange Rows.wordsKnownSpec).preRow enc Tryd.prog Tryd.f3 Rows.wordsKnownRow.domain false Rows.wordsKnownRow.laid) (((OpenSpec.ofChange Rows.wordsKnownSpec).at F).post enc Tryd.prog Tryd.f3 false true false false) := by
  obtain ⟨places, hx⟩ := reads os enc
  refine returnsInHanded_of_row (C := Tryd.checked) (s := OpenSpec.ofChange Rows.wordsKnownSpec) own started (by kernel_rfl) Tryd.func3
    (witness_row_at (enc := enc) (C := Tryd.checked) false (World.doorLaid Tryd.prog 24 os) #[] rfl (by kernel_rfl) (by kernel_rfl) (by kernel_rfl)
      (OpenSpec.preRow_of_cond 8 hx (by kernel_rfl) (fun k hk => by cases hk) (by kernel_rfl) (laid_met os))) ?_
  intro W base args ds gs before hval hW _ _ _ hL _ _
  exact contract H enc W base args ds gs before hval hW hL

theorem said : Rows.WordsKnownSaid :=
  OpenClaim.holds_of_cond 3 Tryd.f3 rfl rfl rfl rfl rfl rfl rfl ⟨rfl, rfl, rfl, rfl, rfl⟩ rfl rfl rfl rfl rfl (by kernel_rfl) Tryd.func3 (by kernel_rfl)
    (of_decide_eq_true (by kernel_rfl)) (by unfold Func.isWrapper; first | (rw [if_pos (by decide +kernel)]; kernel_rfl) | (rw [if_neg (by decide +kernel)]; exact ⟨rfl, rfl⟩))
    (fun os started H enc _ F => by rw [OpenClaim.pre_eq_preRow]; exact lifted os started H enc F)

theorem plain (f : FuncId) (fn : Func) (hf : Tryd.pinned.checked.prog.funcNamed Rows.wordsKnownRow.func = some f) (hfn : Tryd.pinned.checked.prog.funcs[f]? = some fn) :
    false = Tryd.pinned.checked.prog.looks [] ∧ ∀ (j : Nat) t, fn.params[j]? = some t → Tryd.pinned.checked.prog.wantsStandIn t = false := by
  obtain rfl : f = 3 := Option.some.inj ((show Tryd.prog.funcNamed Rows.wordsKnownRow.func = some 3 by kernel_rfl).symm.trans hf) |>.symm
  obtain rfl : fn = Tryd.f3 := (Option.some.inj (Tryd.func3.symm.trans hfn)).symm
  refine ⟨by kernel_rfl, fun j t ht => ?_⟩
  rw [Tryd.params3] at ht
  simp at ht

theorem card : Rows.WordsKnownCardSaid :=
  Claim7.holds_tied_plain_at .later [] _ _ _ _ said (fun _ h => by cases h) (by kernel_rfl) (fun _ h => by cases h) wordsKnown_row_tie rfl ⟨rfl, rfl⟩ (by kernel_rfl) rfl plain (by kernel_rfl)
end Go.Proofs.YtffmmpahenogdaaDoor.wordsKnown
namespace Go.Proofs.YtffmmpahenogdaaDoor
theorem wordsKnown_holds : Rows.WordsKnownCardSaid := wordsKnown.card
#print axioms wordsKnown_holds
end Go.Proofs.YtffmmpahenogdaaDoor
