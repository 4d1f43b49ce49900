/-
  WordsSigns answers true for every number: with a sign it is the number without it, turned, within its bounds; a sign alone is none. Conditions: none (the library's tables read as their initialisers lay them).
-/
import Derived.Test.YtffmmpahenogdabDoorCards
import Derived.Test.YtffmmpahenogdabDoorTie
import Derived.WalkKit
import Derived.ProofKit
import Derived.OpenShut
import Derived.ShutString
import Derived.ChangeOld
import Derived.Deep.DeepHandedRow
import Derived.Lib.LaidTab
import Derived.Stop.LaidErr
import Derived.LaidMore
import Derived.Test.YtffmmpahenogdabDoorAwake
import Derived.Test.YtffmmpahenogdabDoorDigits
namespace Go.Proofs.YtffmmpahenogdabDoor.wordsSigns
open Go.ChangeShapes Go.WideShapes Go.ChangeAt Go.RowKit
open Go.ChangeMaps (open_string shut_string)
set_option linter.unusedVariables false

theorem head_not (x : UInt8) (n : Nat) (h : n ≤ 18446744073709551615) (hx : ¬ (48 ≤ x.toNat ∧ x.toNat ≤ 57)) : Lib.hasPrefix (digits n) [x] = false := by
  cases hp : Lib.hasPrefix (digits n) [x] with
  | false => rfl
  | true =>
    exfalso
    obtain ⟨t, ht⟩ := List.isPrefixOf_iff_prefix.1 hp
    have hd := num_digits (n + 1) n (by omega) h
    rw [← ht] at hd
    simp only [List.cons_append, List.nil_append, num] at hd
    rw [if_neg (by omega)] at hd
    simp at hd
theorem number_other (x : UInt8) (l : List UInt8) (hx : ¬ (48 ≤ x.toNat ∧ x.toNat ≤ 57)) : number (x :: l) = none := by
  unfold number
  split
  · simp only [num]
    rw [if_neg (by omega)]
  · rfl
theorem signed_plain (n : Nat) (h : n ≤ 18446744073709551615) : signed (digits n) = if n < 9223372036854775808 then some (n : Int) else none := by
  unfold signed
  rw [head_not 45 n h (by decide), number_digits n h]
  rfl
theorem signed_minus (n : Nat) (h : n ≤ 18446744073709551615) : signed (45 :: digits n) = if n ≤ 9223372036854775808 then some (-(n : Int)) else none := by
  unfold signed
  have h1 : Lib.hasPrefix (45 :: digits n) [45] = true := by simp [Lib.hasPrefix, List.isPrefixOf]
  have h2 : Lib.trimPrefix (45 :: digits n) [45] = digits n := by
    unfold Lib.trimPrefix
    rw [if_pos h1]
    rfl
  rw [h1, h2, number_digits n h]
  rfl
theorem signed_other (l : List UInt8) : signed (43 :: l) = none := by
  unfold signed
  have h1 : Lib.hasPrefix (43 :: l) [45] = false := by simp [Lib.hasPrefix, List.isPrefixOf]
  rw [h1, number_other 43 l (by decide)]
  rfl
theorem cat_one (x : UInt8) (l : List UInt8) : ((ByteArray.mk #[x]) ++ (ByteArray.mk l.toArray)).data.toList = x :: l := by
  rw [ByteArray.data_append]; simp

/-- What the six calls answer. -/
theorem six (n : Nat) (h : n ≤ 18446744073709551615) (x y : Bool) (a b : Int)
    (h1 : signed (digits n) = if x then some a else none) (ha : x = false → a = 0)
    (h2 : signed (45 :: digits n) = if y then some b else none) (hb : y = false → b = 0) :
    sgnV (digits n) = a ∧ sgnOk (digits n) = x ∧ sgnV (45 :: digits n) = b ∧ sgnOk (45 :: digits n) = y := by
  cases x <;> cases y
  · obtain ⟨e1, e2⟩ := sgn_none _ h1
    obtain ⟨e3, e4⟩ := sgn_none _ h2
    exact ⟨by rw [e1, ha rfl], e2, by rw [e3, hb rfl], e4⟩
  · obtain ⟨e1, e2⟩ := sgn_none _ h1
    obtain ⟨e3, e4⟩ := sgn_some _ _ h2
    exact ⟨by rw [e1, ha rfl], e2, e3, e4⟩
  · obtain ⟨e1, e2⟩ := sgn_some _ _ h1
    obtain ⟨e3, e4⟩ := sgn_none _ h2
    exact ⟨e1, e2, by rw [e3, hb rfl], e4⟩
  · obtain ⟨e1, e2⟩ := sgn_some _ _ h1
    obtain ⟨e3, e4⟩ := sgn_some _ _ h2
    exact ⟨e1, e2, e3, e4⟩
set_option maxHeartbeats 4000000 in
set_option maxRecDepth 1000000 in
/-- The walk: the Go text returns true, and writes nothing that was there. -/
theorem walk (a0 : Int) (w0 : (Lit.int .u64 a0).wf = true) (w : World) (htab : Tab w) :
    Calls Tryd.prog 6 #[.int .u64 a0] w fun e w' => e = .returned (.bool true) ∧ Below w.heap.size w w' := by
  have hw0 := w0
  simp only [Lit.wf, IntKind.min, IntKind.max, IntKind.signed, IntKind.bits, Bool.and_eq_true] at hw0
  obtain ⟨n, rfl⟩ := Int.eq_ofNat_of_zero_le (show 0 ≤ a0 by simp at hw0; omega)
  have hn : n ≤ 18446744073709551615 := by simp at hw0; omega
  clear hw0 w0
  have HN : Hid (n ≤ 18446744073709551615) := hn
  have HP := signed_plain n hn
  have HM := signed_minus n hn
  have hlen := digit_len n hn
  obtain ⟨n1, n2⟩ := num_none _ (number_other 45 (digits n) (by decide))
  obtain ⟨g1, g2⟩ := sgn_none _ (signed_other (digits n))
  have hsz : (ByteArray.mk (digits n).toArray).size = (digits n).length := by rw [← size8]
  clear hn
  by_cases hc : n < 9223372036854775808
  · obtain ⟨q1, q2, q3, q4⟩ := six n HN.out true true (n : Int) (-(n : Int)) (by rw [HP, if_pos hc]; rfl) (fun h => by cases h) (by rw [HM, if_pos (by omega)]; rfl) (fun h => by cases h)
    have k1 : ((n : Int) ≤ 9223372036854775807) = True := by simp; omega
    have k2 : ((n : Int) ≤ 9223372036854775808) = True := by simp; omega
    have k3 : IntKind.u64.wrap (n : Int) = (n : Int) := by rw [IntKind.wrap_u64]; omega
    have k4 : wrap64 (-(-(n : Int))) = (n : Int) := by unfold wrap64; omega
    have k5 : wrap64 (n : Int) = (n : Int) := by unfold wrap64; omega
    clear hc HP HM
    go_enter Tryd.func6, Tryd.ntmps6
    go_wp2_with fail
    refine (awake_any _ htab).mono ?_
    rintro e wa ⟨rfl, b1⟩
    have HB1 : Hid (Below w.heap.size w wa) := b1
    have s1 := b1.size
    clear b1
    go_wp2_with fail
    refine (text_any n (by have := HN.out; omega) _ (htab.later HB1.out)).mono ?_
    rintro e wb ⟨rfl, b2⟩
    have HB2 : Hid (Below w.heap.size w wb) := HB1.out.trans (b2.mono s1)
    have s2 := b2.size
    clear b2 HB1
    go_wp2_with fail
    refine (signed_any _ _).mono ?_
    rintro e wc ⟨rfl, b3⟩
    rw [show (ByteArray.mk (digits n).toArray).data.toList = digits n from rfl, q1, q2]
    have HB3 : Hid (Below w.heap.size w wc) := HB2.out.trans (b3.mono (by omega))
    have s3 := b3.size
    clear b3 HB2
    go_wp2_with fail
    refine (signed_any _ _).mono ?_
    rintro e wd ⟨rfl, b4⟩
    rw [cat_one, q3, q4]
    have HB4 : Hid (Below w.heap.size w wd) := HB3.out.trans (b4.mono (by omega))
    have s4 := b4.size
    clear b4 HB3
    go_wp2_with fail
    refine (number_any _ _).mono ?_
    rintro e we ⟨rfl, b5⟩
    rw [cat_one, n1, n2]
    have HB5 : Hid (Below w.heap.size w we) := HB4.out.trans (b5.mono (by omega))
    have s5 := b5.size
    clear b5 HB4
    go_wp2_with fail
    refine (signed_any _ _).mono ?_
    rintro e wf ⟨rfl, b6⟩
    rw [show sgnV (ByteArray.mk #[45]).data.toList = 0 by decide, show sgnOk (ByteArray.mk #[45]).data.toList = false by decide]
    have HB6 : Hid (Below w.heap.size w wf) := HB5.out.trans (b6.mono (by omega))
    have s6 := b6.size
    clear b6 HB5
    go_wp2_with fail
    refine (signed_any _ _).mono ?_
    rintro e wg ⟨rfl, b7⟩
    rw [cat_one, g1, g2]
    have HB7 : Hid (Below w.heap.size w wg) := HB6.out.trans (b7.mono (by omega))
    clear b7 HB6
    go_wp2
    go_ret
    exact ⟨by simp, HB7.out⟩
  by_cases hd : n = 9223372036854775808
  · obtain ⟨q1, q2, q3, q4⟩ := six n HN.out false true 0 (-9223372036854775808) (by rw [HP, if_neg hc]; rfl) (fun _ => rfl) (by rw [HM, if_pos (by omega), hd]; rfl) (fun h => by cases h)
    have k1 : ((n : Int) ≤ 9223372036854775807) = False := by simp; omega
    have k2 : ((n : Int) ≤ 9223372036854775808) = True := by simp; omega
    have k6 : (9223372036854775808 : Int) = (n : Int) := by omega
    have k8 : IntKind.u64.wrap (wrap64 9223372036854775808) = (n : Int) := by rw [IntKind.wrap_u64]; unfold wrap64; omega
    have K6 : Hid ((9223372036854775808 : Int) = (n : Int)) := k6
    clear hc hd k6 HP HM
    go_enter Tryd.func6, Tryd.ntmps6
    go_wp2_with fail
    refine (awake_any _ htab).mono ?_
    rintro e wa ⟨rfl, b1⟩
    have HB1 : Hid (Below w.heap.size w wa) := b1
    have s1 := b1.size
    clear b1
    go_wp2_with fail
    refine (text_any n (by have := HN.out; omega) _ (htab.later HB1.out)).mono ?_
    rintro e wb ⟨rfl, b2⟩
    have HB2 : Hid (Below w.heap.size w wb) := HB1.out.trans (b2.mono s1)
    have s2 := b2.size
    clear b2 HB1
    go_wp2_with fail
    refine (signed_any _ _).mono ?_
    rintro e wc ⟨rfl, b3⟩
    rw [show (ByteArray.mk (digits n).toArray).data.toList = digits n from rfl, q1, q2]
    have HB3 : Hid (Below w.heap.size w wc) := HB2.out.trans (b3.mono (by omega))
    have s3 := b3.size
    clear b3 HB2
    go_wp2_with fail
    refine (signed_any _ _).mono ?_
    rintro e wd ⟨rfl, b4⟩
    rw [cat_one, q3, q4]
    have HB4 : Hid (Below w.heap.size w wd) := HB3.out.trans (b4.mono (by omega))
    have s4 := b4.size
    clear b4 HB3
    go_wp2_with fail
    refine (number_any _ _).mono ?_
    rintro e we ⟨rfl, b5⟩
    rw [cat_one, n1, n2]
    have HB5 : Hid (Below w.heap.size w we) := HB4.out.trans (b5.mono (by omega))
    have s5 := b5.size
    clear b5 HB4
    go_wp2_with fail
    refine (signed_any _ _).mono ?_
    rintro e wf ⟨rfl, b6⟩
    rw [show sgnV (ByteArray.mk #[45]).data.toList = 0 by decide, show sgnOk (ByteArray.mk #[45]).data.toList = false by decide]
    have HB6 : Hid (Below w.heap.size w wf) := HB5.out.trans (b6.mono (by omega))
    have s6 := b6.size
    clear b6 HB5
    go_wp2_with fail
    refine (signed_any _ _).mono ?_
    rintro e wg ⟨rfl, b7⟩
    rw [cat_one, g1, g2]
    have HB7 : Hid (Below w.heap.size w wg) := HB6.out.trans (b7.mono (by omega))
    clear b7 HB6
    go_wp2
    go_ret
    exact ⟨by simp, HB7.out⟩
  have hq : ¬ n ≤ 9223372036854775808 := by omega
  obtain ⟨q1, q2, q3, q4⟩ := six n HN.out false false 0 0 (by rw [HP, if_neg hc]; rfl) (fun _ => rfl) (by rw [HM, if_neg hq]; rfl) (fun _ => rfl)
  have k1 : ((n : Int) ≤ 9223372036854775807) = False := by simp; omega
  have k2 : ((n : Int) ≤ 9223372036854775808) = False := by simp; omega
  clear hc hd hq HP HM
  go_enter Tryd.func6, Tryd.ntmps6
  go_wp2_with fail
  refine (awake_any _ htab).mono ?_
  rintro e wa ⟨rfl, b1⟩
  have HB1 : Hid (Below w.heap.size w wa) := b1
  have s1 := b1.size
  clear b1
  go_wp2_with fail
  refine (text_any n (by have := HN.out; omega) _ (htab.later HB1.out)).mono ?_
  rintro e wb ⟨rfl, b2⟩
  have HB2 : Hid (Below w.heap.size w wb) := HB1.out.trans (b2.mono s1)
  have s2 := b2.size
  clear b2 HB1
  go_wp2_with fail
  refine (signed_any _ _).mono ?_
  rintro e wc ⟨rfl, b3⟩
  rw [show (ByteArray.mk (digits n).toArray).data.toList = digits n from rfl, q1, q2]
  have HB3 : Hid (Below w.heap.size w wc) := HB2.out.trans (b3.mono (by omega))
  have s3 := b3.size
  clear b3 HB2
  go_wp2_with fail
  refine (signed_any _ _).mono ?_
  rintro e wd ⟨rfl, b4⟩
  rw [cat_one, q3, q4]
  have HB4 : Hid (Below w.heap.size w wd) := HB3.out.trans (b4.mono (by omega))
  have s4 := b4.size
  clear b4 HB3
  go_wp2_with fail
  refine (number_any _ _).mono ?_
  rintro e we ⟨rfl, b5⟩
  rw [cat_one, n1, n2]
  have HB5 : Hid (Below w.heap.size w we) := HB4.out.trans (b5.mono (by omega))
  have s5 := b5.size
  clear b5 HB4
  go_wp2_with fail
  refine (signed_any _ _).mono ?_
  rintro e wf ⟨rfl, b6⟩
  rw [show sgnV (ByteArray.mk #[45]).data.toList = 0 by decide, show sgnOk (ByteArray.mk #[45]).data.toList = false by decide]
  have HB6 : Hid (Below w.heap.size w wf) := HB5.out.trans (b6.mono (by omega))
  have s6 := b6.size
  clear b6 HB5
  go_wp2_with fail
  refine (signed_any _ _).mono ?_
  rintro e wg ⟨rfl, b7⟩
  rw [cat_one, g1, g2]
  have HB7 : Hid (Below w.heap.size w wg) := HB6.out.trans (b7.mono (by omega))
  clear b7 HB6
  go_wp2
  go_ret
  exact ⟨by simp, HB7.out⟩

theorem own : ownKnob Tryd.prog.godebug = none := by kernel_rfl
/-- What the row lists: the table of powers of ten. -/
theorem table {W : World} (h : laidMetH Tryd.prog Rows.wordsSignsRow.laid W) : Tab W :=
  Lib.tabIs_of_head (rest := []) (g := 0) (t := 68) (e := 31) (n := 20) (by kernel_rfl) (by kernel_rfl) (by kernel_rfl) (by kernel_rfl) (by kernel_rfl) (by kernel_rfl) (show laidMet Tryd.prog Rows.wordsSignsRow.laid W from h).tail.tail
/-- What the walk gives, for every argument and every world that holds the table. -/
theorem contract (H : Type) (enc : TypeId × Value → H) (W : World) (base : Nat) (args : Array Value) (ds gs : List (DataW H)) (before : List MemPlace)
    (hval : ∀ (j : Nat) t v, Tryd.f6.params[j]? = some t → args[j]? = some v → Value.okWide Tryd.prog W .any base t v)
    (hW : DataW.Whole enc Tryd.prog Tryd.f6.params.toList Rows.wordsSignsSpec.vars false W args.toList ds gs before) (hL : laidMetH Tryd.prog Rows.wordsSignsRow.laid W) :
    Calls Tryd.prog 6 args W fun e W' => ∃ v, e = .returned v ∧ Rows.wordsSignsSpec.post enc Tryd.prog Tryd.f6 false true false false W args v W' := by
  have hW' := hW
  obtain ⟨p, q, hA0, hV, rfl, hfz, hnd⟩ := hW
  have hA : DataW.TrodAll enc Tryd.prog W 0 (fun _ => true) true Tryd.f6.params.toList args.toList ds p := hA0
  rw [Tryd.params6] at hA hval
  obtain ⟨v0, vs0, d0, ds0, p0, q0, hargs, rfl, rfl, h0, r0⟩ := trodAll_cons hA
  obtain ⟨rfl, rfl, rfl⟩ := trodAll_nil r0
  obtain rfl : args = #[v0] := by cases args; simp_all
  obtain ⟨rfl, rfl⟩ := trodVars_none hV
  obtain ⟨a0, rfl, rfl, rfl, w0⟩ := open_int Tryd.underlying31 (hval 0 31 v0 rfl rfl) h0
  clear hA0
  simp only [List.append_nil] at hW'
  refine (walk a0 w0 W (table hL)).mono fun e W' ⟨he, bel⟩ => ?_
  subst he
  exact ⟨_, rfl, _, _, _, [], _, [], hW', trodAll_mk1 (shut_bool Tryd.underlying4 _), (trodAll_cons_mk (shut_int Tryd.underlying31 w0) trodAll_mk0), rfl, bel.frame _, fun h => by cases h⟩

theorem laid_met (os : Os) : laidMet Tryd.prog Rows.wordsSignsRow.laid ((World.doorLaid Tryd.prog 24 os).forCall (fun _ _ => 0) ⟨#[], #[.int .u64 0], []⟩).memory :=
  laidMet_of_run' 8 (by kernel_rfl) (by kernel_rfl)
theorem reads (os : Os) {H : Type} (enc : TypeId × Value → H) : ∃ places, DataW.whole enc Tryd.prog ((World.doorLaid Tryd.prog 24 os).forCall (fun _ _ => 0) ⟨#[], #[.int .u64 0], []⟩).memory Tryd.f6.params.toList Rows.wordsSignsSpec.vars false (#[.int .u64 0] : Array Value).toList 8 = some ([.lit (.int .u64 0)], [], places) :=
  ⟨[], by kernel_rfl⟩

set_option maxRecDepth 100000 in
theorem lifted (os : Os) (started : os.Started) (H : Type) (enc : TypeId × Value → H) (F : Stop.Interp) :
    ReturnsInHanded {} Tryd.checked os 6 .any ((OpenSpec.ofChange Rows.wordsSignsSpec).preRow enc Tryd.prog Tryd.f6 Rows.wordsSignsRow.domain false Rows.wordsSignsRow.laid) (((OpenSpec.ofChange Rows.wordsSignsSpec).at F).post enc Tryd.prog Tryd.f6 false true false false) := by
  obtain ⟨places, hx⟩ := reads os enc
  refine returnsInHanded_of_row (C := Tryd.checked) (s := OpenSpec.ofChange Rows.wordsSignsSpec) own started (by kernel_rfl) Tryd.func6
    (witness_row_at (enc := enc) (C := Tryd.checked) false (World.doorLaid Tryd.prog 24 os) #[.int .u64 0] rfl (by kernel_rfl) (by kernel_rfl) (by kernel_rfl)
      (OpenSpec.preRow_of_cond 8 hx (by kernel_rfl) (fun k hk => by cases hk) (by kernel_rfl) (laid_met os))) ?_
  intro W base args ds gs before hval hW _ _ _ hL _ _
  exact contract H enc W base args ds gs before hval hW hL

theorem said : Rows.WordsSignsSaid :=
  OpenClaim.holds_of_cond 6 Tryd.f6 rfl rfl rfl rfl rfl rfl rfl ⟨rfl, rfl, rfl, rfl, rfl⟩ rfl rfl rfl rfl rfl (by kernel_rfl) Tryd.func6 (by kernel_rfl)
    (of_decide_eq_true (by kernel_rfl)) (by unfold Func.isWrapper; first | (rw [if_pos (by decide +kernel)]; kernel_rfl) | (rw [if_neg (by decide +kernel)]; exact ⟨rfl, rfl⟩))
    (fun os started H enc _ F => by rw [OpenClaim.pre_eq_preRow]; exact lifted os started H enc F)

theorem plain (f : FuncId) (fn : Func) (hf : Tryd.pinned.checked.prog.funcNamed Rows.wordsSignsRow.func = some f) (hfn : Tryd.pinned.checked.prog.funcs[f]? = some fn) :
    false = Tryd.pinned.checked.prog.looks [] ∧ ∀ (j : Nat) t, fn.params[j]? = some t → Tryd.pinned.checked.prog.wantsStandIn t = false := by
  obtain rfl : f = 6 := Option.some.inj ((show Tryd.prog.funcNamed Rows.wordsSignsRow.func = some 6 by kernel_rfl).symm.trans hf) |>.symm
  obtain rfl : fn = Tryd.f6 := (Option.some.inj (Tryd.func6.symm.trans hfn)).symm
  refine ⟨by kernel_rfl, fun j t ht => ?_⟩
  rw [Tryd.params6] at ht
  have hm : t ∈ [31] := by simpa using Array.mem_of_getElem? ht
  have hall : ([31].all fun u => !Tryd.prog.wantsStandIn u) = true := by kernel_rfl
  exact (show Tryd.prog.wantsStandIn t = false by simpa using List.all_eq_true.1 hall t hm)

theorem card : Rows.WordsSignsCardSaid :=
  Claim7.holds_tied_plain_at .later [] _ _ _ _ said (fun _ h => by cases h) (by kernel_rfl) (fun _ h => by cases h) wordsSigns_row_tie rfl ⟨rfl, rfl⟩ (by kernel_rfl) rfl plain (by kernel_rfl)
end Go.Proofs.YtffmmpahenogdabDoor.wordsSigns
namespace Go.Proofs.YtffmmpahenogdabDoor
theorem wordsSigns_holds : Rows.WordsSignsCardSaid := wordsSigns.card
#print axioms wordsSigns_holds
end Go.Proofs.YtffmmpahenogdabDoor
