/-
  WordsBack answers true for every number and every count: a number that is written is read; noughts ahead make no difference, up to twenty digits. Conditions: none (the library's tables read as their initialisers lay them).
-/
import Derived.Test.YtffmmpahenogdaaDoorCards
import Derived.Test.YtffmmpahenogdaaDoorTie
import Derived.WalkKit
import Derived.ProofKit
import Derived.OpenShut
import Derived.ShutString
import Derived.ChangeOld
import Derived.Deep.DeepHandedRow
import Derived.Lib.LaidTab
import Derived.Stop.LaidErr
import Derived.LaidMore
import Derived.Test.YtffmmpahenogdaaDoorAwake
import Derived.Test.YtffmmpahenogdaaDoorDigits
import Derived.Test.YtffmmpahenogdaaDoorText
namespace Go.Proofs.YtffmmpahenogdaaDoor.wordsBack
open Go.ChangeShapes Go.WideShapes Go.ChangeAt Go.RowKit
open Go.ChangeMaps (open_string shut_string)
set_option linter.unusedVariables false

theorem below_drewN {B : Nat} {a w : World} (h : Below B a w) (k : Nat) : Below B a (w.drewN k) :=
  ⟨h.os, h.tape, h.output, h.size, h.block⟩

theorem cat_data1 (x : UInt8) (T : ByteArray) : ((ByteArray.mk #[x]) ++ T).data.toList = x :: T.data.toList := by
  rw [ByteArray.data_append]; simp
theorem cat_sizes (a b : ByteArray) : (a ++ b).size = a.size + b.size := by
  rw [← size8, ← size8, ← size8, ByteArray.data_append]; simp
set_option maxHeartbeats 4000000 in
set_option maxRecDepth 1000000 in
/-- The walk: the Go text returns true, and writes nothing that was there. -/
theorem walk (a0 : Int) (w0 : (Lit.int .u64 a0).wf = true) (a1 : Int) (w1 : (Lit.int .i64 a1).wf = true) (w : World) (htab : Tab w) :
    Calls Tryd.prog 7 #[.int .u64 a0, .int .i64 a1] w fun e w' => e = .returned (.bool true) ∧ Below w.heap.size w w' := by
  have hw0 := w0
  simp only [Lit.wf, IntKind.min, IntKind.max, IntKind.signed, IntKind.bits, Bool.and_eq_true] at hw0
  obtain ⟨n, rfl⟩ := Int.eq_ofNat_of_zero_le (show 0 ≤ a0 by simp at hw0; omega)
  have hn : n ≤ 18446744073709551615 := by simp at hw0; omega
  have hlen := digit_len n hn
  have HL : Hid (n ≤ 18446744073709551615) := hn
  clear hw0 hn w0 w1
  go_enter Tryd.func7, Tryd.ntmps7
  go_wp2_with fail
  refine (awake_any _ htab).mono ?_
  rintro e w1 ⟨rfl, b1⟩
  have HB1 : Hid (Below w.heap.size w w1) := b1
  have s1 := b1.size
  clear b1
  go_wp2_with fail
  refine (text_any n (by have := HL.out; omega) _ (htab.later HB1.out)).mono ?_
  rintro e w2 ⟨rfl, b2⟩
  have HB2 : Hid (Below w.heap.size w w2) := HB1.out.trans (b2.mono s1)
  clear b2 HB1 s1
  go_wp2_with fail
  refine (refText_any (n + 1) n (by omega) (by have := HL.out; omega) _).mono ?_
  rintro e w3 ⟨rfl, k, rfl⟩
  have HB3 : Hid (Below w.heap.size w (w2.drewN k)) := below_drewN HB2.out k
  generalize w2.drewN k = w3 at HB3
  clear HB2
  have s3 := HB3.out.size
  generalize hT0 : (⟨(digits n).toArray⟩ : ByteArray) = T0
  have HT0 : Hid (T0.data.toList = digits n ∧ T0.size = (digits n).length) := by
    have h1 : T0.data.toList = digits n := by rw [← hT0]
    exact ⟨h1, by rw [← h1, size8]⟩
  have HLen : Hid (1 ≤ (digits n).length ∧ (digits n).length ≤ 20) := hlen
  clear hT0 hlen
  go_wp2
  go_loop [5, 6] (fun t i => ∃ (T : ByteArray) (j : Nat), t = .string T ∧ i = .int .i64 j ∧ Hid (T.data.toList = List.replicate j 48 ++ digits n) ∧ Hid (T.size = j + (digits n).length) ∧ T.size ≤ 20 ∧ j ≤ 20) (fun t _ => 20 - strLen t)
  case atStart => exact ⟨T0, 0, rfl, rfl, by simp only [Hid]; rw [HT0.out.1]; rfl, by have := HT0.out.2; simp only [Hid]; omega, by have := HT0.out.2; have := HLen.out; omega, by omega⟩
  case round =>
    obtain ⟨T, j, rfl, rfl, HT, hs, h20, hj20⟩ := hrel
    by_cases hc : (j : Int) < a1 ∧ T.size < 20
    · have c1 := hc.1
      have c2 : (T.size : Int) < 20 := by omega
      have c3 : T.size < 20 := hc.2
      clear hc
      go_wp2
      go_round
      case rel =>
        refine ⟨(ByteArray.mk #[48]) ++ T, j + 1, rfl, by go_num, ?_, ?_, ?_, by have := hs.out; omega⟩
        · simp only [Hid]
          rw [cat_data1, HT.out]
          rfl
        · simp only [Hid]; rw [cat_sizes]; have := hs.out; show 1 + T.size = _; omega
        · rw [cat_sizes]; show 1 + T.size ≤ _; omega
      case measure =>
        simp only [strLen]
        rw [cat_sizes]; show 20 - (1 + T.size) < _; omega
    · have hexit : Calls Tryd.prog 10 #[.string T] w3 fun e w' => e = .returned (.tuple #[.int .u64 (n : Int), .bool true]) ∧ Below w3.heap.size w3 w' := by
        refine (number_any T w3).mono ?_
        rintro e w4 ⟨rfl, b4⟩
        obtain ⟨e1, e2⟩ := num_some T.data.toList n (by rw [HT.out]; exact number_zeros n j HL.out (by have := hs.out; omega))
        rw [e1, e2]
        exact ⟨rfl, b4⟩
      have hno : ∀ (U : ByteArray) (wz : World), U.size = 21 + T.size → Calls Tryd.prog 10 #[.string U] wz fun e w' => e = .returned (.tuple #[.int .u64 0, .bool false]) ∧ Below wz.heap.size wz w' := by
        intro U wz hU
        refine (number_any U wz).mono ?_
        rintro e w4 ⟨rfl, b4⟩
        obtain ⟨e1, e2⟩ := num_none _ (number_long U.data.toList (by rw [size8]; omega))
        rw [e1, e2]
        exact ⟨rfl, b4⟩
      by_cases c1 : (j : Int) < a1
      · have c2 : ¬ (T.size : Int) < 20 := by omega
        clear hc
        go_wp2_with fail
        refine hexit.mono ?_
        rintro e w4 ⟨rfl, b4⟩
        have HB4 : Hid (Below w.heap.size w w4) := HB3.out.trans (b4.mono s3)
        have s4 := b4.size
        clear b4
        go_wp2_with fail
        refine (hno _ _ (cat_sizes _ T)).mono ?_
        rintro e w5 ⟨rfl, b5⟩
        have HB5 : Hid (Below w.heap.size w w5) := HB4.out.trans (b5.mono (by omega))
        clear b5
        go_wp2
        go_ret
        exact ⟨rfl, HB5.out⟩
      · clear hc
        go_wp2_with fail
        refine hexit.mono ?_
        rintro e w4 ⟨rfl, b4⟩
        have HB4 : Hid (Below w.heap.size w w4) := HB3.out.trans (b4.mono s3)
        have s4 := b4.size
        clear b4
        go_wp2_with fail
        refine (hno _ _ (cat_sizes _ T)).mono ?_
        rintro e w5 ⟨rfl, b5⟩
        have HB5 : Hid (Below w.heap.size w w5) := HB4.out.trans (b5.mono (by omega))
        clear b5
        go_wp2
        go_ret
        exact ⟨rfl, HB5.out⟩

theorem own : ownKnob Tryd.prog.godebug = none := by kernel_rfl
/-- What the row lists: the table of powers of ten. -/
theorem table {W : World} (h : laidMetH Tryd.prog Rows.wordsBackRow.laid W) : Tab W :=
  Lib.tabIs_of_head (rest := []) (g := 0) (t := 69) (e := 23) (n := 20) (by kernel_rfl) (by kernel_rfl) (by kernel_rfl) (by kernel_rfl) (by kernel_rfl) (by kernel_rfl) (show laidMet Tryd.prog Rows.wordsBackRow.laid W from h).tail.tail
/-- What the walk gives, for every argument and every world that holds the table. -/
theorem contract (H : Type) (enc : TypeId × Value → H) (W : World) (base : Nat) (args : Array Value) (ds gs : List (DataW H)) (before : List MemPlace)
    (hval : ∀ (j : Nat) t v, Tryd.f7.params[j]? = some t → args[j]? = some v → Value.okWide Tryd.prog W .any base t v)
    (hW : DataW.Whole enc Tryd.prog Tryd.f7.params.toList Rows.wordsBackSpec.vars false W args.toList ds gs before) (hL : laidMetH Tryd.prog Rows.wordsBackRow.laid W) :
    Calls Tryd.prog 7 args W fun e W' => ∃ v, e = .returned v ∧ Rows.wordsBackSpec.post enc Tryd.prog Tryd.f7 false true false false W args v W' := by
  have hW' := hW
  obtain ⟨p, q, hA0, hV, rfl, hfz, hnd⟩ := hW
  have hA : DataW.TrodAll enc Tryd.prog W 0 (fun _ => true) true Tryd.f7.params.toList args.toList ds p := hA0
  rw [Tryd.params7] at hA hval
  obtain ⟨v0, vs0, d0, ds0, p0, q0, hargs, rfl, rfl, h0, r0⟩ := trodAll_cons hA
  obtain ⟨v1, vs1, d1, ds1, p1, q1, rfl, rfl, rfl, h1, r1⟩ := trodAll_cons r0
  obtain ⟨rfl, rfl, rfl⟩ := trodAll_nil r1
  obtain rfl : args = #[v0, v1] := by cases args; simp_all
  obtain ⟨rfl, rfl⟩ := trodVars_none hV
  obtain ⟨a0, rfl, rfl, rfl, w0⟩ := open_int Tryd.underlying23 (hval 0 23 v0 rfl rfl) h0
  obtain ⟨a1, rfl, rfl, rfl, w1⟩ := open_int Tryd.underlying3 (hval 1 3 v1 rfl rfl) h1
  clear hA0
  simp only [List.append_nil] at hW'
  refine (walk a0 w0 a1 w1 W (table hL)).mono fun e W' ⟨he, bel⟩ => ?_
  subst he
  exact ⟨_, rfl, _, _, _, [], _, [], hW', trodAll_mk1 (shut_bool Tryd.underlying4 _), (trodAll_cons_mk (shut_int Tryd.underlying23 w0) (trodAll_cons_mk (shut_int Tryd.underlying3 w1) trodAll_mk0)), rfl, bel.frame _, fun h => by cases h⟩

theorem laid_met (os : Os) : laidMet Tryd.prog Rows.wordsBackRow.laid ((World.doorLaid Tryd.prog 24 os).forCall (fun _ _ => 0) ⟨#[], #[.int .u64 0, .int .i64 0], []⟩).memory :=
  laidMet_of_run' 8 (by kernel_rfl) (by kernel_rfl)
theorem reads (os : Os) {H : Type} (enc : TypeId × Value → H) : ∃ places, DataW.whole enc Tryd.prog ((World.doorLaid Tryd.prog 24 os).forCall (fun _ _ => 0) ⟨#[], #[.int .u64 0, .int .i64 0], []⟩).memory Tryd.f7.params.toList Rows.wordsBackSpec.vars false (#[.int .u64 0, .int .i64 0] : Array Value).toList 8 = some ([.lit (.int .u64 0), .lit (.int .i64 0)], [], places) :=
  ⟨[], by kernel_rfl⟩

set_option maxRecDepth 100000 in
theorem lifted (os : Os) (started : os.Started) (H : Type) (enc : TypeId × Value → H) (F : Stop.Interp) :
    ReturnsInHanded {} Tryd.checked os 7 .any ((OpenSpec.ofChange Rows.wordsBackSpec).preRow enc Tryd.prog Tryd.f7 Rows.wordsBackRow.domain false Rows.wordsBackRow.laid) (((OpenSpec.ofChange Rows.wordsBackSpec).at F).post enc Tryd.prog Tryd.f7 false true false false) := by
  obtain ⟨places, hx⟩ := reads os enc
  refine returnsInHanded_of_row (C := Tryd.checked) (s := OpenSpec.ofChange Rows.wordsBackSpec) own started (by kernel_rfl) Tryd.func7
    (witness_row_at (enc := enc) (C := Tryd.checked) false (World.doorLaid Tryd.prog 24 os) #[.int .u64 0, .int .i64 0] rfl (by kernel_rfl) (by kernel_rfl) (by kernel_rfl)
      (OpenSpec.preRow_of_cond 8 hx (by kernel_rfl) (fun k hk => by cases hk) (by kernel_rfl) (laid_met os))) ?_
  intro W base args ds gs before hval hW _ _ _ hL _ _
  exact contract H enc W base args ds gs before hval hW hL

theorem said : Rows.WordsBackSaid :=
  OpenClaim.holds_of_cond 7 Tryd.f7 rfl rfl rfl rfl rfl rfl rfl ⟨rfl, rfl, rfl, rfl, rfl⟩ rfl rfl rfl rfl rfl (by kernel_rfl) Tryd.func7 (by kernel_rfl)
    (of_decide_eq_true (by kernel_rfl)) (by unfold Func.isWrapper; first | (rw [if_pos (by decide +kernel)]; kernel_rfl) | (rw [if_neg (by decide +kernel)]; exact ⟨rfl, rfl⟩))
    (fun os started H enc _ F => by rw [OpenClaim.pre_eq_preRow]; exact lifted os started H enc F)

theorem plain (f : FuncId) (fn : Func) (hf : Tryd.pinned.checked.prog.funcNamed Rows.wordsBackRow.func = some f) (hfn : Tryd.pinned.checked.prog.funcs[f]? = some fn) :
    false = Tryd.pinned.checked.prog.looks [] ∧ ∀ (j : Nat) t, fn.params[j]? = some t → Tryd.pinned.checked.prog.wantsStandIn t = false := by
  obtain rfl : f = 7 := Option.some.inj ((show Tryd.prog.funcNamed Rows.wordsBackRow.func = some 7 by kernel_rfl).symm.trans hf) |>.symm
  obtain rfl : fn = Tryd.f7 := (Option.some.inj (Tryd.func7.symm.trans hfn)).symm
  refine ⟨by kernel_rfl, fun j t ht => ?_⟩
  rw [Tryd.params7] at ht
  have hm : t ∈ [23, 3] := by simpa using Array.mem_of_getElem? ht
  have hall : ([23, 3].all fun u => !Tryd.prog.wantsStandIn u) = true := by kernel_rfl
  exact (show Tryd.prog.wantsStandIn t = false by simpa using List.all_eq_true.1 hall t hm)

theorem card : Rows.WordsBackCardSaid :=
  Claim7.holds_tied_plain_at .later [] _ _ _ _ said (fun _ h => by cases h) (by kernel_rfl) (fun _ h => by cases h) wordsBack_row_tie rfl ⟨rfl, rfl⟩ (by kernel_rfl) rfl plain (by kernel_rfl)
end Go.Proofs.YtffmmpahenogdaaDoor.wordsBack
namespace Go.Proofs.YtffmmpahenogdaaDoor
theorem wordsBack_holds : Rows.WordsBackCardSaid := wordsBack.card
#print axioms wordsBack_holds
end Go.Proofs.YtffmmpahenogdaaDoor
