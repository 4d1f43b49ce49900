/-
  WordsJoined answers true for every two lines: the words of two lines put together by a blank are those of both. Conditions: none (the library's tables read as their initialisers lay them).
-/
import Derived.Test.YtffmmpahenogdabDoorCards
import Derived.Test.YtffmmpahenogdabDoorTie
import Derived.WalkKit
import Derived.ProofKit
import Derived.OpenShut
import Derived.ShutString
import Derived.ChangeOld
import Derived.Deep.DeepHandedRow
import Derived.Lib.LaidTab
import Derived.Stop.LaidErr
import Derived.LaidMore
import Derived.Test.YtffmmpahenogdabDoorAwake
import Derived.Test.YtffmmpahenogdabDoorJoin
namespace Go.Proofs.YtffmmpahenogdabDoor.wordsJoined
open Go.ChangeShapes Go.WideShapes Go.ChangeAt Go.RowKit
open Go.ChangeMaps (open_string shut_string)
set_option linter.unusedVariables false

theorem cat_sizes (a b : ByteArray) : (a ++ b).size = a.size + b.size := by
  rw [← size8, ← size8, ← size8, ByteArray.data_append]; simp
theorem cat_blank (a b : ByteArray) : (a ++ (ByteArray.mk #[32]) ++ b).data.toList = a.data.toList ++ 32 :: b.data.toList := by
  rw [ByteArray.data_append, ByteArray.data_append]; simp
set_option maxHeartbeats 4000000 in
set_option maxRecDepth 1000000 in
/-- The walk: the Go text returns true, and writes nothing that was there. -/
theorem walk (a0 : ByteArray) (w0 : a0.size ≤ maxLen) (a1 : ByteArray) (w1 : a1.size ≤ maxLen) (w : World) (htab : Tab w) :
    Calls Tryd.prog 4 #[.string a0, .string a1] w fun e w' => e = .returned (.bool true) ∧ Below w.heap.size w w' := by
  by_cases hl0 : 500 < a0.size
  · have hli : (500 : Int) < a0.size := by omega
    go_enter Tryd.func4, Tryd.ntmps4
    go_wp2_with fail
    refine (awake_any _ htab).mono ?_
    rintro e w1 ⟨rfl, b1⟩
    go_wp2
    go_ret
    exact ⟨rfl, b1⟩
  have hli : ¬ (500 : Int) < a0.size := by omega
  by_cases hl1 : 500 < a1.size
  · have hlj : (500 : Int) < a1.size := by omega
    go_enter Tryd.func4, Tryd.ntmps4
    go_wp2_with fail
    refine (awake_any _ htab).mono ?_
    rintro e w1 ⟨rfl, b1⟩
    go_wp2
    go_ret
    exact ⟨rfl, b1⟩
  have hlj : ¬ (500 : Int) < a1.size := by omega
  have hx500 : (spl [] a0.data.toList).length ≤ 500 := by
    have := spl_len a0.data.toList []
    rw [size8] at this
    simp at this
    omega
  have hy500 : (spl [] a1.data.toList).length ≤ 500 := by
    have := spl_len a1.data.toList []
    rw [size8] at this
    simp at this
    omega
  go_enter Tryd.func4, Tryd.ntmps4
  go_wp2_with fail
  refine (awake_any _ htab).mono ?_
  rintro e wa ⟨rfl, b1⟩
  have HB1 : Hid (Below w.heap.size w wa) := b1
  have s1 := b1.size
  clear b1
  go_wp2_with fail
  refine (split_any _ _ (by omega)).mono ?_
  rintro e wb ⟨vx, rfl, hOx, b2⟩
  have HB2 : Hid (Below w.heap.size w wb) := HB1.out.trans (b2.mono s1)
  have s2 := b2.size
  clear b2 HB1
  obtain ⟨ax, cx, rfl, fx⟩ := hOx.form
  clear hOx
  go_wp2_with fail
  refine (split_any _ _ (by omega)).mono ?_
  rintro e wc ⟨vy, rfl, hOy, b3⟩
  have HB3 : Hid (Below w.heap.size w wc) := HB2.out.trans (b3.mono (by omega))
  have s3 := b3.size
  obtain ⟨ay, cy, rfl, fy⟩ := hOy.form
  have FX : Hid (Below wb.heap.size wb wc) := b3
  clear hOy b3 HB2
  go_wp2_with fail
  refine (split_any _ _ (by rw [cat_sizes, cat_sizes]; show a0.size + 1 + a1.size ≤ 10000; omega)).mono ?_
  rintro e wz ⟨vz, rfl, hOz, b4⟩
  have HB4 : Hid (Below w.heap.size w wz) := HB3.out.trans (b4.mono (by omega))
  have s4 := b4.size
  rw [cat_blank, spl_join] at hOz
  generalize spl [] a0.data.toList = xs at *
  generalize spl [] a1.data.toList = ys at *
  obtain ⟨az, cz, rfl, fz⟩ := hOz.form
  have HX : Hid (∀ wq : World, Below wz.heap.size wz wq → ∀ j x, xs[j]? = some x → ∃ g, ax = some ⟨g, 0, none⟩ ∧ wq.cell? ⟨g, j, none⟩ = some (strV x)) :=
    fun wq hq => fx wq ((FX.out.trans (b4.mono s3)).trans (hq.mono (by omega)))
  have HY : Hid (∀ wq : World, Below wz.heap.size wz wq → ∀ j x, ys[j]? = some x → ∃ g, ay = some ⟨g, 0, none⟩ ∧ wq.cell? ⟨g, j, none⟩ = some (strV x)) :=
    fun wq hq => fy wq (b4.trans (hq.mono s4))
  have HZ : Hid (∀ wq : World, Below wz.heap.size wz wq → ∀ j x, (xs ++ ys)[j]? = some x → ∃ g, az = some ⟨g, 0, none⟩ ∧ wq.cell? ⟨g, j, none⟩ = some (strV x)) := fz
  clear fx fy fz hOz FX b4 HB3
  have hlen : (xs ++ ys).length = xs.length + ys.length := List.length_append
  rw [hlen]
  generalize hnx : xs.length = nx at *
  generalize hny : ys.length = ny at *
  have HNX : Hid (xs.length = nx) := hnx
  have HNY : Hid (ys.length = ny) := hny
  clear hnx hny hlen
  go_wp2
  go_loopw [8] (fun i wq => ∃ (pos : Nat), i = .int .i64 pos ∧ pos ≤ nx + ny ∧ Hid (∃ k, wq = wz.drewN k)) (fun i _ => nx + ny - (intOf i).toNat)
  case atStart => exact ⟨0, rfl, by omega, ⟨0, rfl⟩⟩
  case round =>
    obtain ⟨pos, rfl, hpos, HW⟩ := hrel
    by_cases hp : pos < nx + ny
    · have hbw : Below wz.heap.size wz wr := by
        obtain ⟨k, hk⟩ := HW.out
        rw [hk]
        exact ⟨rfl, rfl, rfl, Nat.le_refl _, fun _ _ => rfl⟩
      by_cases hpx : pos < nx
      · obtain ⟨t, ht⟩ : ∃ t, xs[pos]? = some t := ⟨xs[pos]'(by rw [HNX.out]; exact hpx), List.getElem?_eq_getElem _⟩
        have htz : (xs ++ ys)[pos]? = some t := by rw [List.getElem?_append_left (by rw [HNX.out]; exact hpx)]; exact ht
        obtain ⟨g1, rfl, c1⟩ := HX.out wr hbw pos t ht
        obtain ⟨g2, rfl, c2⟩ := HZ.out wr hbw pos t htz
        unfold strV at c1 c2
        clear ht htz
        have k3 : (pos : Int) < (nx : Int) + (ny : Int) := by omega
        have k4 : (pos : Int) < (nx : Int) := by omega
        have k5 : (nx ≤ pos) = False := by simp; omega
        go_wp2_with fail
        go_quiet (fail)
        clear k3 k4 k5 c1 c2
        go_wp2
        go_roundw
        case rel =>
          refine ⟨pos + 1, by go_num, by omega, ?_⟩
          obtain ⟨k, hk⟩ := HW.out
          rw [hk, World.drewN_drewN]
          exact ⟨_, rfl⟩
        case measure => simp [intOf]; omega
      · obtain ⟨t, ht⟩ : ∃ t, ys[pos - nx]? = some t := ⟨ys[pos - nx]'(by rw [HNY.out]; omega), List.getElem?_eq_getElem _⟩
        have htz : (xs ++ ys)[pos]? = some t := by rw [List.getElem?_append_right (by rw [HNX.out]; omega), HNX.out]; exact ht
        obtain ⟨g1, rfl, c1⟩ := HY.out wr hbw (pos - nx) t ht
        obtain ⟨g2, rfl, c2⟩ := HZ.out wr hbw pos t htz
        unfold strV at c1 c2
        have k3 : (pos : Int) < (nx : Int) + (ny : Int) := by omega
        have k4 : (nx : Int) ≤ (pos : Int) := by omega
        clear ht htz
        go_wp2_with fail
        go_quiet (fail)
        clear k3 k4 c1 c2
        go_wp2
        go_roundw
        case rel =>
          refine ⟨pos + 1, by go_num, by omega, ?_⟩
          obtain ⟨k, hk⟩ := HW.out
          rw [hk, World.drewN_drewN]
          exact ⟨_, rfl⟩
        case measure => simp [intOf]; omega
    · go_wp2
      go_ret
      obtain ⟨k, hk⟩ := HW.out
      rw [hk]
      exact ⟨rfl, ⟨HB4.out.os, HB4.out.tape, HB4.out.output, HB4.out.size, HB4.out.block⟩⟩

theorem own : ownKnob Tryd.prog.godebug = none := by kernel_rfl
/-- What the row lists: the table of powers of ten. -/
theorem table {W : World} (h : laidMetH Tryd.prog Rows.wordsJoinedRow.laid W) : Tab W :=
  Lib.tabIs_of_head (rest := []) (g := 0) (t := 68) (e := 31) (n := 20) (by kernel_rfl) (by kernel_rfl) (by kernel_rfl) (by kernel_rfl) (by kernel_rfl) (by kernel_rfl) (show laidMet Tryd.prog Rows.wordsJoinedRow.laid W from h).tail.tail
/-- What the walk gives, for every argument and every world that holds the table. -/
theorem contract (H : Type) (enc : TypeId × Value → H) (W : World) (base : Nat) (args : Array Value) (ds gs : List (DataW H)) (before : List MemPlace)
    (hval : ∀ (j : Nat) t v, Tryd.f4.params[j]? = some t → args[j]? = some v → Value.okWide Tryd.prog W .any base t v)
    (hW : DataW.Whole enc Tryd.prog Tryd.f4.params.toList Rows.wordsJoinedSpec.vars false W args.toList ds gs before) (hL : laidMetH Tryd.prog Rows.wordsJoinedRow.laid W) :
    Calls Tryd.prog 4 args W fun e W' => ∃ v, e = .returned v ∧ Rows.wordsJoinedSpec.post enc Tryd.prog Tryd.f4 false true false false W args v W' := by
  have hW' := hW
  obtain ⟨p, q, hA0, hV, rfl, hfz, hnd⟩ := hW
  have hA : DataW.TrodAll enc Tryd.prog W 0 (fun _ => true) true Tryd.f4.params.toList args.toList ds p := hA0
  rw [Tryd.params4] at hA hval
  obtain ⟨v0, vs0, d0, ds0, p0, q0, hargs, rfl, rfl, h0, r0⟩ := trodAll_cons hA
  obtain ⟨v1, vs1, d1, ds1, p1, q1, rfl, rfl, rfl, h1, r1⟩ := trodAll_cons r0
  obtain ⟨rfl, rfl, rfl⟩ := trodAll_nil r1
  obtain rfl : args = #[v0, v1] := by cases args; simp_all
  obtain ⟨rfl, rfl⟩ := trodVars_none hV
  obtain ⟨a0, rfl, rfl, rfl, w0⟩ := open_string Tryd.underlying9 (hval 0 9 v0 rfl rfl) h0
  obtain ⟨a1, rfl, rfl, rfl, w1⟩ := open_string Tryd.underlying9 (hval 1 9 v1 rfl rfl) h1
  clear hA0
  simp only [List.append_nil] at hW'
  refine (walk a0 w0 a1 w1 W (table hL)).mono fun e W' ⟨he, bel⟩ => ?_
  subst he
  exact ⟨_, rfl, _, _, _, [], _, [], hW', trodAll_mk1 (shut_bool Tryd.underlying4 _), (trodAll_cons_mk (shut_string Tryd.underlying9 w0) (trodAll_cons_mk (shut_string Tryd.underlying9 w1) trodAll_mk0)), rfl, bel.frame _, fun h => by cases h⟩

theorem laid_met (os : Os) : laidMet Tryd.prog Rows.wordsJoinedRow.laid ((World.doorLaid Tryd.prog 24 os).forCall (fun _ _ => 0) ⟨#[], #[.string ByteArray.empty, .string ByteArray.empty], []⟩).memory :=
  laidMet_of_run' 8 (by kernel_rfl) (by kernel_rfl)
theorem reads (os : Os) {H : Type} (enc : TypeId × Value → H) : ∃ places, DataW.whole enc Tryd.prog ((World.doorLaid Tryd.prog 24 os).forCall (fun _ _ => 0) ⟨#[], #[.string ByteArray.empty, .string ByteArray.empty], []⟩).memory Tryd.f4.params.toList Rows.wordsJoinedSpec.vars false (#[.string ByteArray.empty, .string ByteArray.empty] : Array Value).toList 8 = some ([.lit (.string []), .lit (.string [])], [], places) :=
  ⟨[], by kernel_rfl⟩

set_option maxRecDepth 100000 in
theorem lifted (os : Os) (started : os.Started) (H : Type) (enc : TypeId × Value → H) (F : Stop.Interp) :
    ReturnsInHanded {} Tryd.checked os 4 .any ((OpenSpec.ofChange Rows.wordsJoinedSpec).preRow enc Tryd.prog Tryd.f4 Rows.wordsJoinedRow.domain false Rows.wordsJoinedRow.laid) (((OpenSpec.ofChange Rows.wordsJoinedSpec).at F).post enc Tryd.prog Tryd.f4 false true false false) := by
  obtain ⟨places, hx⟩ := reads os enc
  refine returnsInHanded_of_row (C := Tryd.checked) (s := OpenSpec.ofChange Rows.wordsJoinedSpec) own started (by kernel_rfl) Tryd.func4
    (witness_row_at (enc := enc) (C := Tryd.checked) false (World.doorLaid Tryd.prog 24 os) #[.string ByteArray.empty, .string ByteArray.empty] rfl (by kernel_rfl) (by kernel_rfl) (by kernel_rfl)
      (OpenSpec.preRow_of_cond 8 hx (by kernel_rfl) (fun k hk => by cases hk) (by kernel_rfl) (laid_met os))) ?_
  intro W base args ds gs before hval hW _ _ _ hL _ _
  exact contract H enc W base args ds gs before hval hW hL

theorem said : Rows.WordsJoinedSaid :=
  OpenClaim.holds_of_cond 4 Tryd.f4 rfl rfl rfl rfl rfl rfl rfl ⟨rfl, rfl, rfl, rfl, rfl⟩ rfl rfl rfl rfl rfl (by kernel_rfl) Tryd.func4 (by kernel_rfl)
    (of_decide_eq_true (by kernel_rfl)) (by unfold Func.isWrapper; first | (rw [if_pos (by decide +kernel)]; kernel_rfl) | (rw [if_neg (by decide +kernel)]; exact ⟨rfl, rfl⟩))
    (fun os started H enc _ F => by rw [OpenClaim.pre_eq_preRow]; exact lifted os started H enc F)

theorem plain (f : FuncId) (fn : Func) (hf : Tryd.pinned.checked.prog.funcNamed Rows.wordsJoinedRow.func = some f) (hfn : Tryd.pinned.checked.prog.funcs[f]? = some fn) :
    false = Tryd.pinned.checked.prog.looks [] ∧ ∀ (j : Nat) t, fn.params[j]? = some t → Tryd.pinned.checked.prog.wantsStandIn t = false := by
  obtain rfl : f = 4 := Option.some.inj ((show Tryd.prog.funcNamed Rows.wordsJoinedRow.func = some 4 by kernel_rfl).symm.trans hf) |>.symm
  obtain rfl : fn = Tryd.f4 := (Option.some.inj (Tryd.func4.symm.trans hfn)).symm
  refine ⟨by kernel_rfl, fun j t ht => ?_⟩
  rw [Tryd.params4] at ht
  have hm : t ∈ [9, 9] := by simpa using Array.mem_of_getElem? ht
  have hall : ([9, 9].all fun u => !Tryd.prog.wantsStandIn u) = true := by kernel_rfl
  exact (show Tryd.prog.wantsStandIn t = false by simpa using List.all_eq_true.1 hall t hm)

theorem card : Rows.WordsJoinedCardSaid :=
  Claim7.holds_tied_plain_at .later [] _ _ _ _ said (fun _ h => by cases h) (by kernel_rfl) (fun _ h => by cases h) wordsJoined_row_tie rfl ⟨rfl, rfl⟩ (by kernel_rfl) rfl plain (by kernel_rfl)
end Go.Proofs.YtffmmpahenogdabDoor.wordsJoined
namespace Go.Proofs.YtffmmpahenogdabDoor
theorem wordsJoined_holds : Rows.WordsJoinedCardSaid := wordsJoined.card
#print axioms wordsJoined_holds
end Go.Proofs.YtffmmpahenogdabDoor
