/-
  WordsKeys answers true for every two texts and every byte: two keys together are one, if they are short enough; with a byte that no key may have between them they are none. Conditions: none (the library's tables read as their initialisers lay them).
-/
import Derived.Test.YtffmmpahenogdabDoorCards
import Derived.Test.YtffmmpahenogdabDoorTie
import Derived.WalkKit
import Derived.ProofKit
import Derived.OpenShut
import Derived.ShutString
import Derived.ChangeOld
import Derived.Deep.DeepHandedRow
import Derived.Lib.LaidTab
import Derived.Stop.LaidErr
import Derived.LaidMore
import Derived.Test.YtffmmpahenogdabDoorAwake
import Derived.Test.YtffmmpahenogdabDoorPut
namespace Go.Proofs.YtffmmpahenogdabDoor.wordsKeys
open Go.ChangeShapes Go.WideShapes Go.ChangeAt Go.RowKit
open Go.ChangeMaps (open_string shut_string)
set_option linter.unusedVariables false

theorem isKey_size (s : ByteArray) (h : isKey s.data.toList = true) : 1 ≤ s.size ∧ s.size ≤ 250 := by
  obtain ⟨h1, h2, _⟩ := key_parts h
  rw [size8] at h1 h2
  exact ⟨h1, h2⟩
set_option maxHeartbeats 4000000 in
set_option maxRecDepth 1000000 in
/-- The walk: the Go text returns true, and writes nothing that was there. -/
theorem walk (a0 : ByteArray) (w0 : a0.size ≤ maxLen) (a1 : ByteArray) (w1 : a1.size ≤ maxLen) (a2 : Int) (w2 : (Lit.int .u8 a2).wf = true) (w : World) (htab : Tab w) :
    Calls Tryd.prog 3 #[.string a0, .string a1, .int .u8 a2] w fun e w' => e = .returned (.bool true) ∧ Below w.heap.size w w' := by
  have hw2 := w2
  simp only [Lit.wf, IntKind.min, IntKind.max, IntKind.signed, IntKind.bits, Bool.and_eq_true] at hw2
  obtain ⟨y, rfl⟩ : ∃ y : UInt8, a2 = (y.toNat : Int) := by
    refine ⟨UInt8.ofNat a2.toNat, ?_⟩
    simp at hw2
    simp
    omega
  clear hw2 w2
  have hy := y.toNat_lt
  cases hka : isKey a0.data.toList with
  | false =>
    go_enter Tryd.func3, Tryd.ntmps3
    go_wp2_with fail
    refine (awake_any _ htab).mono ?_
    rintro e wa ⟨rfl, b1⟩
    have HB1 : Hid (Below w.heap.size w wa) := b1
    have s1 := b1.size
    clear b1
    go_wp2_with fail
    refine (key_any _ _ w0).mono ?_
    rintro e wb ⟨rfl, b2⟩
    rw [hka]
    have HB2 : Hid (Below w.heap.size w wb) := HB1.out.trans (b2.mono s1)
    clear b2 HB1
    go_wp2
    go_ret
    exact ⟨rfl, HB2.out⟩
  | true =>
    cases hkb : isKey a1.data.toList with
    | false =>
      go_enter Tryd.func3, Tryd.ntmps3
      go_wp2_with fail
      refine (awake_any _ htab).mono ?_
      rintro e wa ⟨rfl, b1⟩
      have HB1 : Hid (Below w.heap.size w wa) := b1
      have s1 := b1.size
      clear b1
      go_wp2_with fail
      refine (key_any _ _ w0).mono ?_
      rintro e wb ⟨rfl, b2⟩
      rw [hka]
      have HB2 : Hid (Below w.heap.size w wb) := HB1.out.trans (b2.mono s1)
      have s2 := b2.size
      clear b2 HB1
      go_wp2_with fail
      refine (key_any _ _ w1).mono ?_
      rintro e wc ⟨rfl, b3⟩
      rw [hkb]
      have HB3 : Hid (Below w.heap.size w wc) := HB2.out.trans (b3.mono (by omega))
      clear b3 HB2
      go_wp2
      go_ret
      exact ⟨rfl, HB3.out⟩
    | true =>
      obtain ⟨p1, p2⟩ := isKey_size a0 hka
      obtain ⟨q1, q2⟩ := isKey_size a1 hkb
      have hcat : (a0 ++ a1).data.toList = a0.data.toList ++ a1.data.toList := cat_data a0 a1
      by_cases hlong : 250 < a0.size + a1.size
      · have hli : (250 : Int) < (a0.size : Int) + (a1.size : Int) := by omega
        have HK : Hid (isKey (a0 ++ a1).data.toList = false) := key_long (by rw [size8, cat_sizes]; exact hlong)
        go_enter Tryd.func3, Tryd.ntmps3
        go_wp2_with fail
        refine (awake_any _ htab).mono ?_
        rintro e wa ⟨rfl, b1⟩
        have HB1 : Hid (Below w.heap.size w wa) := b1
        have s1 := b1.size
        clear b1
        go_wp2_with fail
        refine (key_any _ _ w0).mono ?_
        rintro e wb ⟨rfl, b2⟩
        rw [hka]
        have HB2 : Hid (Below w.heap.size w wb) := HB1.out.trans (b2.mono s1)
        have s2 := b2.size
        clear b2 HB1
        go_wp2_with fail
        refine (key_any _ _ w1).mono ?_
        rintro e wc ⟨rfl, b3⟩
        rw [hkb]
        have HB3 : Hid (Below w.heap.size w wc) := HB2.out.trans (b3.mono (by omega))
        have s3 := b3.size
        clear b3 HB2
        go_wp2_with fail
        refine (key_any _ _ (by rw [cat_sizes]; unfold maxLen; omega)).mono ?_
        rintro e wd ⟨rfl, b4⟩
        rw [HK.out]
        have HB4 : Hid (Below w.heap.size w wd) := HB3.out.trans (b4.mono (by omega))
        clear b4 HB3
        go_wp2
        go_ret
        exact ⟨rfl, HB4.out⟩
      · have hli : ¬ (250 : Int) < (a0.size : Int) + (a1.size : Int) := by omega
        have HK : Hid (isKey (a0 ++ a1).data.toList = true) := by
          simp only [Hid]; rw [hcat]; exact key_cat hka hkb (by rw [size8, size8]; omega)
        by_cases hbad : y.toNat ≤ 32 ∨ y.toNat = 127 ∨ 128 ≤ y.toNat
        · have HS : Hid (isKey (a0 ++ (ByteArray.mk #[y]) ++ a1).data.toList = false) := by
            simp only [Hid]
            rw [cat_data, cat_data]
            exact key_spoilt y hka hkb hbad
          have hcv : ∀ W : World, (convert 24 9 (.slice (some ⟨W.heap.size, 0, none⟩) 1 1)).run Tryd.prog (W.alloc (.cells #[.int .u8 (y.toNat : Int)] 5)) = .ok (.string (ByteArray.mk #[y])) (W.alloc (.cells #[.int .u8 (y.toNat : Int)] 5)) := by
            intro W
            have h := run_convert_bytes_back (P := Tryd.prog) (W.alloc (.cells #[.int .u8 (y.toNat : Int)] 5)) 24 9 5 ⟨W.heap.size, 0, none⟩ 1 [y] Tryd.underlying24 Tryd.underlying5 Tryd.underlying9 (fun j hj => by
              have : j = 0 := by simpa using hj
              subst this
              simp [Addr.add])
            exact h
          have hcase : ((y.toNat : Int) ≤ 32) ∨ (¬ ((y.toNat : Int) ≤ 32) ∧ ((y.toNat : Int) == 127) = true) ∨ (¬ ((y.toNat : Int) ≤ 32) ∧ ((y.toNat : Int) == 127) = false ∧ (128 : Int) ≤ (y.toNat : Int)) := by
            by_cases c1 : (y.toNat : Int) ≤ 32
            · exact .inl c1
            · by_cases c2 : (y.toNat : Int) = 127
              · exact .inr (.inl ⟨c1, by simp [c2]⟩)
              · exact .inr (.inr ⟨c1, by simp [c2], by omega⟩)
          clear hbad
          rcases hcase with hb | ⟨hb, hb2⟩ | ⟨hb, hb2, hb3⟩
          all_goals (
            go_enter Tryd.func3, Tryd.ntmps3
            go_wp2_with fail
            refine (awake_any _ htab).mono ?_
            rintro e wa ⟨rfl, b1⟩
            have HB1 : Hid (Below w.heap.size w wa) := b1
            have s1 := b1.size
            clear b1
            go_wp2_with fail
            refine (key_any _ _ w0).mono ?_
            rintro e wb ⟨rfl, b2⟩
            rw [hka]
            have HB2 : Hid (Below w.heap.size w wb) := HB1.out.trans (b2.mono s1)
            have s2 := b2.size
            clear b2 HB1
            go_wp2_with fail
            refine (key_any _ _ w1).mono ?_
            rintro e wc ⟨rfl, b3⟩
            rw [hkb]
            have HB3 : Hid (Below w.heap.size w wc) := HB2.out.trans (b3.mono (by omega))
            have s3 := b3.size
            clear b3 HB2
            go_wp2_with fail
            refine (key_any _ _ (by rw [cat_sizes]; unfold maxLen; omega)).mono ?_
            rintro e wd ⟨rfl, b4⟩
            rw [HK.out]
            have HB4 : Hid (Below w.heap.size w wd) := HB3.out.trans (b4.mono (by omega))
            have s4 := b4.size
            clear b4 HB3
            go_wp2_with fail
            refine (key_any (a0 ++ (ByteArray.mk #[y]) ++ a1) _ (by rw [cat_sizes, cat_sizes]; show a0.size + 1 + a1.size ≤ maxLen; unfold maxLen; omega)).mono ?_
            rintro e we ⟨rfl, b5⟩
            rw [HS.out]
            have HB5 : Hid (Below w.heap.size w we) := (HB4.out.alloc (by omega) _).trans (b5.mono (by simp; omega))
            clear b5 HB4
            go_wp2
            go_ret
            exact ⟨rfl, HB5.out⟩)
        · have g1 : ¬ (y.toNat : Int) ≤ 32 := by omega
          have g2 : ((y.toNat : Int) == 127) = false := by simp; omega
          have g3 : ¬ (128 : Int) ≤ (y.toNat : Int) := by omega
          go_enter Tryd.func3, Tryd.ntmps3
          go_wp2_with fail
          refine (awake_any _ htab).mono ?_
          rintro e wa ⟨rfl, b1⟩
          have HB1 : Hid (Below w.heap.size w wa) := b1
          have s1 := b1.size
          clear b1
          go_wp2_with fail
          refine (key_any _ _ w0).mono ?_
          rintro e wb ⟨rfl, b2⟩
          rw [hka]
          have HB2 : Hid (Below w.heap.size w wb) := HB1.out.trans (b2.mono s1)
          have s2 := b2.size
          clear b2 HB1
          go_wp2_with fail
          refine (key_any _ _ w1).mono ?_
          rintro e wc ⟨rfl, b3⟩
          rw [hkb]
          have HB3 : Hid (Below w.heap.size w wc) := HB2.out.trans (b3.mono (by omega))
          have s3 := b3.size
          clear b3 HB2
          go_wp2_with fail
          refine (key_any _ _ (by rw [cat_sizes]; unfold maxLen; omega)).mono ?_
          rintro e wd ⟨rfl, b4⟩
          rw [HK.out]
          have HB4 : Hid (Below w.heap.size w wd) := HB3.out.trans (b4.mono (by omega))
          clear b4 HB3
          go_wp2
          go_ret
          exact ⟨rfl, HB4.out⟩

theorem own : ownKnob Tryd.prog.godebug = none := by kernel_rfl
/-- What the row lists: the table of powers of ten. -/
theorem table {W : World} (h : laidMetH Tryd.prog Rows.wordsKeysRow.laid W) : Tab W :=
  Lib.tabIs_of_head (rest := []) (g := 0) (t := 68) (e := 31) (n := 20) (by kernel_rfl) (by kernel_rfl) (by kernel_rfl) (by kernel_rfl) (by kernel_rfl) (by kernel_rfl) (show laidMet Tryd.prog Rows.wordsKeysRow.laid W from h).tail.tail
/-- What the walk gives, for every argument and every world that holds the table. -/
theorem contract (H : Type) (enc : TypeId × Value → H) (W : World) (base : Nat) (args : Array Value) (ds gs : List (DataW H)) (before : List MemPlace)
    (hval : ∀ (j : Nat) t v, Tryd.f3.params[j]? = some t → args[j]? = some v → Value.okWide Tryd.prog W .any base t v)
    (hW : DataW.Whole enc Tryd.prog Tryd.f3.params.toList Rows.wordsKeysSpec.vars false W args.toList ds gs before) (hL : laidMetH Tryd.prog Rows.wordsKeysRow.laid W) :
    Calls Tryd.prog 3 args W fun e W' => ∃ v, e = .returned v ∧ Rows.wordsKeysSpec.post enc Tryd.prog Tryd.f3 false true false false W args v W' := by
  have hW' := hW
  obtain ⟨p, q, hA0, hV, rfl, hfz, hnd⟩ := hW
  have hA : DataW.TrodAll enc Tryd.prog W 0 (fun _ => true) true Tryd.f3.params.toList args.toList ds p := hA0
  rw [Tryd.params3] at hA hval
  obtain ⟨v0, vs0, d0, ds0, p0, q0, hargs, rfl, rfl, h0, r0⟩ := trodAll_cons hA
  obtain ⟨v1, vs1, d1, ds1, p1, q1, rfl, rfl, rfl, h1, r1⟩ := trodAll_cons r0
  obtain ⟨v2, vs2, d2, ds2, p2, q2, rfl, rfl, rfl, h2, r2⟩ := trodAll_cons r1
  obtain ⟨rfl, rfl, rfl⟩ := trodAll_nil r2
  obtain rfl : args = #[v0, v1, v2] := by cases args; simp_all
  obtain ⟨rfl, rfl⟩ := trodVars_none hV
  obtain ⟨a0, rfl, rfl, rfl, w0⟩ := open_string Tryd.underlying9 (hval 0 9 v0 rfl rfl) h0
  obtain ⟨a1, rfl, rfl, rfl, w1⟩ := open_string Tryd.underlying9 (hval 1 9 v1 rfl rfl) h1
  obtain ⟨a2, rfl, rfl, rfl, w2⟩ := open_int Tryd.underlying5 (hval 2 5 v2 rfl rfl) h2
  clear hA0
  simp only [List.append_nil] at hW'
  refine (walk a0 w0 a1 w1 a2 w2 W (table hL)).mono fun e W' ⟨he, bel⟩ => ?_
  subst he
  exact ⟨_, rfl, _, _, _, [], _, [], hW', trodAll_mk1 (shut_bool Tryd.underlying4 _), (trodAll_cons_mk (shut_string Tryd.underlying9 w0) (trodAll_cons_mk (shut_string Tryd.underlying9 w1) (trodAll_cons_mk (shut_int Tryd.underlying5 w2) trodAll_mk0))), rfl, bel.frame _, fun h => by cases h⟩

theorem laid_met (os : Os) : laidMet Tryd.prog Rows.wordsKeysRow.laid ((World.doorLaid Tryd.prog 24 os).forCall (fun _ _ => 0) ⟨#[], #[.string ByteArray.empty, .string ByteArray.empty, .int .u8 0], []⟩).memory :=
  laidMet_of_run' 8 (by kernel_rfl) (by kernel_rfl)
theorem reads (os : Os) {H : Type} (enc : TypeId × Value → H) : ∃ places, DataW.whole enc Tryd.prog ((World.doorLaid Tryd.prog 24 os).forCall (fun _ _ => 0) ⟨#[], #[.string ByteArray.empty, .string ByteArray.empty, .int .u8 0], []⟩).memory Tryd.f3.params.toList Rows.wordsKeysSpec.vars false (#[.string ByteArray.empty, .string ByteArray.empty, .int .u8 0] : Array Value).toList 8 = some ([.lit (.string []), .lit (.string []), .lit (.int .u8 0)], [], places) :=
  ⟨[], by kernel_rfl⟩

set_option maxRecDepth 100000 in
theorem lifted (os : Os) (started : os.Started) (H : Type) (enc : TypeId × Value → H) (F : Stop.Interp) :
    ReturnsInHanded {} Tryd.checked os 3 .any ((OpenSpec.ofChange Rows.wordsKeysSpec).preRow enc Tryd.prog Tryd.f3 Rows.wordsKeysRow.domain false Rows.wordsKeysRow.laid) (((OpenSpec.ofChange Rows.wordsKeysSpec).at F).post enc Tryd.prog Tryd.f3 false true false false) := by
  obtain ⟨places, hx⟩ := reads os enc
  refine returnsInHanded_of_row (C := Tryd.checked) (s := OpenSpec.ofChange Rows.wordsKeysSpec) own started (by kernel_rfl) Tryd.func3
    (witness_row_at (enc := enc) (C := Tryd.checked) false (World.doorLaid Tryd.prog 24 os) #[.string ByteArray.empty, .string ByteArray.empty, .int .u8 0] rfl (by kernel_rfl) (by kernel_rfl) (by kernel_rfl)
      (OpenSpec.preRow_of_cond 8 hx (by kernel_rfl) (fun k hk => by cases hk) (by kernel_rfl) (laid_met os))) ?_
  intro W base args ds gs before hval hW _ _ _ hL _ _
  exact contract H enc W base args ds gs before hval hW hL

theorem said : Rows.WordsKeysSaid :=
  OpenClaim.holds_of_cond 3 Tryd.f3 rfl rfl rfl rfl rfl rfl rfl ⟨rfl, rfl, rfl, rfl, rfl⟩ rfl rfl rfl rfl rfl (by kernel_rfl) Tryd.func3 (by kernel_rfl)
    (of_decide_eq_true (by kernel_rfl)) (by unfold Func.isWrapper; first | (rw [if_pos (by decide +kernel)]; kernel_rfl) | (rw [if_neg (by decide +kernel)]; exact ⟨rfl, rfl⟩))
    (fun os started H enc _ F => by rw [OpenClaim.pre_eq_preRow]; exact lifted os started H enc F)

theorem plain (f : FuncId) (fn : Func) (hf : Tryd.pinned.checked.prog.funcNamed Rows.wordsKeysRow.func = some f) (hfn : Tryd.pinned.checked.prog.funcs[f]? = some fn) :
    false = Tryd.pinned.checked.prog.looks [] ∧ ∀ (j : Nat) t, fn.params[j]? = some t → Tryd.pinned.checked.prog.wantsStandIn t = false := by
  obtain rfl : f = 3 := Option.some.inj ((show Tryd.prog.funcNamed Rows.wordsKeysRow.func = some 3 by kernel_rfl).symm.trans hf) |>.symm
  obtain rfl : fn = Tryd.f3 := (Option.some.inj (Tryd.func3.symm.trans hfn)).symm
  refine ⟨by kernel_rfl, fun j t ht => ?_⟩
  rw [Tryd.params3] at ht
  have hm : t ∈ [9, 9, 5] := by simpa using Array.mem_of_getElem? ht
  have hall : ([9, 9, 5].all fun u => !Tryd.prog.wantsStandIn u) = true := by kernel_rfl
  exact (show Tryd.prog.wantsStandIn t = false by simpa using List.all_eq_true.1 hall t hm)

theorem card : Rows.WordsKeysCardSaid :=
  Claim7.holds_tied_plain_at .later [] _ _ _ _ said (fun _ h => by cases h) (by kernel_rfl) (fun _ h => by cases h) wordsKeys_row_tie rfl ⟨rfl, rfl⟩ (by kernel_rfl) rfl plain (by kernel_rfl)
end Go.Proofs.YtffmmpahenogdabDoor.wordsKeys
namespace Go.Proofs.YtffmmpahenogdabDoor
theorem wordsKeys_holds : Rows.WordsKeysCardSaid := wordsKeys.card
#print axioms wordsKeys_holds
end Go.Proofs.YtffmmpahenogdabDoor
