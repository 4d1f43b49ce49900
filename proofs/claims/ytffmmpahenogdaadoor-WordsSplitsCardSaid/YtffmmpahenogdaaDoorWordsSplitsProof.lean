/-
  WordsSplits answers true for every line: its words are what the document says; put together by single blanks they are split the same. Conditions: none (the library's tables read as their initialisers lay them).
-/
import Derived.Test.YtffmmpahenogdaaDoorCards
import Derived.Test.YtffmmpahenogdaaDoorTie
import Derived.WalkKit
import Derived.ProofKit
import Derived.OpenShut
import Derived.ShutString
import Derived.ChangeOld
import Derived.Deep.DeepHandedRow
import Derived.Lib.LaidTab
import Derived.Stop.LaidErr
import Derived.LaidMore
import Derived.Test.YtffmmpahenogdaaDoorAwake
import Derived.Test.YtffmmpahenogdaaDoorRefSplit
namespace Go.Proofs.YtffmmpahenogdaaDoor.wordsSplits
open Go.ChangeShapes Go.WideShapes Go.ChangeAt Go.RowKit
open Go.ChangeMaps (open_string shut_string)
set_option linter.unusedVariables false

theorem spl_words (l : List UInt8) : ∀ w : List UInt8, (∀ y ∈ w, y ≠ 32) → ∀ x ∈ spl w l, x ≠ [] ∧ ∀ y ∈ x, y ≠ 32 := by
  induction l with
  | nil =>
    intro w hw x hx
    simp only [spl] at hx
    split at hx
    · simp at hx
    · rename_i h
      simp at hx
      subst hx
      exact ⟨h, hw⟩
  | cons b t ih =>
    intro w hw x hx
    simp only [spl] at hx
    split at hx
    · split at hx
      · exact ih [] (by simp) x hx
      · rename_i h
        rcases List.mem_cons.1 hx with rfl | hx
        · exact ⟨h, hw⟩
        · exact ih [] (by simp) x hx
    · rename_i hb
      refine ih (w ++ [b]) ?_ x hx
      intro y hy
      rcases List.mem_append.1 hy with hy | hy
      · exact hw y hy
      · simp at hy; subst hy; exact hb
theorem spl_flat (l : List UInt8) : ∀ w : List UInt8, (spl w l).flatten.length ≤ w.length + l.length := by
  induction l with
  | nil => intro w; simp only [spl]; split <;> simp
  | cons b t ih =>
    intro w
    simp only [spl]
    split
    · split
      · have := ih []; simp only [List.length_nil, List.length_cons] at this ⊢; omega
      · have := ih []
        simp only [List.flatten_cons, List.length_append, List.length_nil, List.length_cons] at this ⊢
        omega
    · have := ih (w ++ [b]); simp only [List.length_append, List.length_cons, List.length_nil] at this ⊢; omega
theorem spl_word (x : List UInt8) (h : x ≠ []) (hb : ∀ y ∈ x, y ≠ 32) : spl [] x = [x] := by
  have := spl_run x [] [] hb
  rw [List.append_nil, List.nil_append] at this
  rw [this]
  simp [spl, h]
theorem flat_take (ws : List (List UInt8)) (k : Nat) (x : List UInt8) (h : ws[k]? = some x) : (ws.take (k + 1)).flatten.length = (ws.take k).flatten.length + x.length := by
  rw [List.take_add_one, h]
  simp
theorem flat_le (ws : List (List UInt8)) (k : Nat) : (ws.take k).flatten.length ≤ ws.flatten.length := by
  have h : ws.flatten = (ws.take k).flatten ++ (ws.drop k).flatten := by rw [← List.flatten_append, List.take_append_drop]
  rw [h, List.length_append]
  omega
set_option maxHeartbeats 4000000 in
set_option maxRecDepth 1000000 in
/-- The walk: the Go text returns true, and writes nothing that was there. -/
theorem walk (a0 : ByteArray) (w0 : a0.size ≤ maxLen) (w : World) (htab : Tab w) :
    Calls Tryd.prog 5 #[.string a0] w fun e w' => e = .returned (.bool true) ∧ Below w.heap.size w w' := by
  by_cases hl : 3000 < a0.size
  · have hli : (3000 : Int) < a0.size := by omega
    go_enter Tryd.func5, Tryd.ntmps5
    go_wp2_with fail
    refine (awake_any _ htab).mono ?_
    rintro e w1 ⟨rfl, b1⟩
    go_wp2
    go_ret
    exact ⟨rfl, b1⟩
  have hli : ¬ (3000 : Int) < a0.size := by omega
  have hx3 : (spl [] a0.data.toList).length ≤ 3000 := by
    have := spl_len a0.data.toList []
    rw [size8] at this
    simp at this
    omega
  have HF : Hid ((spl [] a0.data.toList).flatten.length ≤ 3000) := by
    have := spl_flat a0.data.toList []
    rw [size8] at this
    simp only [List.length_nil] at this
    simp only [Hid]
    omega
  have HWd : Hid (∀ x ∈ spl [] a0.data.toList, x ≠ [] ∧ ∀ y ∈ x, y ≠ 32) := spl_words _ [] (by simp)
  go_enter Tryd.func5, Tryd.ntmps5
  go_wp2_with fail
  refine (awake_any _ htab).mono ?_
  rintro e wa ⟨rfl, b1⟩
  have HB1 : Hid (Below w.heap.size w wa) := b1
  have s1 := b1.size
  clear b1
  go_wp2_with fail
  refine (split_any _ _ (by omega)).mono ?_
  rintro e wb ⟨vx, rfl, hOx, b2⟩
  have HB2 : Hid (Below w.heap.size w wb) := HB1.out.trans (b2.mono s1)
  have s2 := b2.size
  clear b2 HB1
  obtain ⟨ax, cx, rfl, fx⟩ := hOx.form
  clear hOx
  go_wp2_with fail
  refine (refSplit_any _ _ (by omega)).mono ?_
  rintro e wz ⟨vy, rfl, hOy, b3⟩
  have HB3 : Hid (Below w.heap.size w wz) := HB2.out.trans (b3.mono (by omega))
  have s3 := b3.size
  obtain ⟨ay, cy, rfl, fy⟩ := hOy.form
  clear hOy HB2
  generalize spl [] a0.data.toList = xs at *
  have HX : Hid (∀ wq : World, Below wz.heap.size wz wq → ∀ j x, xs[j]? = some x → ∃ g, ax = some ⟨g, 0, none⟩ ∧ wq.cell? ⟨g, j, none⟩ = some (strV x)) :=
    fun wq hq => fx wq (b3.trans (hq.mono s3))
  have HY : Hid (∀ wq : World, Below wz.heap.size wz wq → ∀ j x, xs[j]? = some x → ∃ g, ay = some ⟨g, 0, none⟩ ∧ wq.cell? ⟨g, j, none⟩ = some (strV x)) := fy
  clear fx fy b3
  generalize hnx : xs.length = nx at *
  have HNX : Hid (xs.length = nx) := hnx
  clear hnx
  go_wp2
  go_loopw [5, 6] (fun t i wq => ∃ (T : ByteArray) (pos : Nat), t = .string T ∧ i = .int .i64 pos ∧ pos ≤ nx ∧ T.size ≤ 6000 ∧ Hid (T.size ≤ (xs.take pos).flatten.length + pos) ∧ Hid (pos = 0 → T.data.toList = []) ∧ Hid (spl [] T.data.toList = xs.take pos) ∧ Hid (∃ k, wq = wz.drewN k)) (fun _ i _ => nx - (intOf i).toNat)
  case atStart => exact ⟨⟨#[]⟩, 0, rfl, rfl, by omega, Nat.zero_le _, Nat.zero_le _, fun _ => rfl, rfl, ⟨0, rfl⟩⟩
  case round =>
    obtain ⟨T, pos, rfl, rfl, hpos, hT, HT, HT0, HTs, HW⟩ := hrel
    have hbw : Below wz.heap.size wz wr := by
      obtain ⟨k, hk⟩ := HW.out
      rw [hk]
      exact ⟨rfl, rfl, rfl, Nat.le_refl _, fun _ _ => rfl⟩
    by_cases hp : pos < nx
    · obtain ⟨t, ht⟩ : ∃ t, xs[pos]? = some t := ⟨xs[pos]'(by rw [HNX.out]; exact hp), List.getElem?_eq_getElem _⟩
      obtain ⟨w1, w2⟩ := HWd.out t (List.mem_of_getElem? ht)
      obtain ⟨g1, rfl, c1⟩ := HX.out wr hbw pos t ht
      obtain ⟨g2, rfl, c2⟩ := HY.out wr hbw pos t ht
      have HTK : Hid (xs.take (pos + 1) = xs.take pos ++ [t]) := by simp only [Hid]; rw [List.take_add_one, ht]; rfl
      have HFL : Hid ((xs.take (pos + 1)).flatten.length = (xs.take pos).flatten.length + t.length) := flat_take xs pos t ht
      have HFM : Hid ((xs.take (pos + 1)).flatten.length ≤ 3000) := Nat.le_trans (flat_le xs (pos + 1)) HF.out
      have HSW : Hid (spl [] t = [t]) := spl_word t w1 w2
      clear ht w2
      unfold strV at c1 c2
      have hts : (⟨t.toArray⟩ : ByteArray).size = t.length := by rw [← size8]
      have hne : (⟨t.toArray⟩ : ByteArray).toList.isEmpty = false := by
        rw [Lib.toList_data]
        cases t with
        | nil => exact absurd rfl w1
        | cons _ _ => rfl
      have HU : Hid ((⟨t.toArray⟩ : ByteArray).data.toList = t) := rfl
      clear w1
      have htl : t.length ≤ 3000 := by have := HFL.out; have := HFM.out; omega
      generalize (⟨t.toArray⟩ : ByteArray) = U at c1 c2 hts hne HU
      by_cases h0 : pos = 0
      · subst h0
        have hT0 : T.size = 0 := by rw [← size8, HT0.out rfl]; rfl
        have HTe : Hid (T.data.toList = []) := HT0.out rfl
        go_wp2_with fail
        go_quiet (fail)
        go_wp2
        go_roundw
        case rel =>
          refine ⟨T ++ U, 0 + 1, by first | rfl | simp, by first | rfl | go_num, by omega, by rw [cat_siz]; omega, ?_, fun h => by omega, ?_, ?_⟩
          · have := HFL.out
            simp only [Hid]
            rw [cat_siz]
            omega
          · simp only [Hid]
            rw [HTK.out, cat_dat, HTe.out, HU.out, List.nil_append, HSW.out]
            rfl
          · obtain ⟨k, hk⟩ := HW.out
            rw [hk, World.drewN_drewN]
            exact ⟨_, rfl⟩
        case measure => simp [intOf]; omega
      · have hpi : (0 : Int) < (pos : Int) := by omega
        have hc : (xs.take pos).flatten.length ≤ 3000 := Nat.le_trans (flat_le xs pos) HF.out
        have hT6 : T.size ≤ (xs.take pos).flatten.length + pos := HT.out
        have hT7 : T.size + 1 + U.size ≤ 6000 := by have := HFL.out; have := HFM.out; omega
        clear hc hT6
        go_wp2_with fail
        go_quiet (fail)
        go_wp2
        go_roundw
        case rel =>
          have hsz3 : (T ++ (ByteArray.mk #[32]) ++ U).size = T.size + 1 + U.size := by rw [cat_siz, cat_siz]; rfl
          refine ⟨T ++ (ByteArray.mk #[32]) ++ U, pos + 1, by first | rfl | simp, by go_num, by omega, by omega, ?_, fun h => by omega, ?_, ?_⟩
          · have h1 := HFL.out
            have h2 := HT.out
            simp only [Hid]
            omega
          · simp only [Hid]
            have hd : (T ++ (ByteArray.mk #[32]) ++ U).data.toList = T.data.toList ++ 32 :: t := by
              rw [cat_dat, cat_dat, HU.out]
              simp
            rw [hd, spl_join, HTs.out, HSW.out, HTK.out]
          · obtain ⟨k, hk⟩ := HW.out
            rw [hk, World.drewN_drewN]
            exact ⟨_, rfl⟩
        case measure => simp [intOf]; omega
    · obtain rfl : pos = nx := by omega
      go_wp2_with fail
      refine (split_any _ _ (by omega)).mono ?_
      rintro e we ⟨vz, rfl, hOz, b4⟩
      rw [HTs.out, List.take_of_length_le (by rw [HNX.out]; exact Nat.le_refl _)] at hOz
      obtain ⟨az, cz, rfl, _⟩ := hOz.form
      rw [HNX.out]
      clear hOz
      have hsw : w.heap.size ≤ wr.heap.size := Nat.le_trans (HB3.out.size) hbw.size
      have HB4 : Hid (Below w.heap.size w we) := (HB3.out.trans (hbw.mono (HB3.out.size))).trans (b4.mono hsw)
      clear b4
      go_wp2
      go_ret
      exact ⟨by simp, HB4.out⟩

theorem own : ownKnob Tryd.prog.godebug = none := by kernel_rfl
/-- What the row lists: the table of powers of ten. -/
theorem table {W : World} (h : laidMetH Tryd.prog Rows.wordsSplitsRow.laid W) : Tab W :=
  Lib.tabIs_of_head (rest := []) (g := 0) (t := 69) (e := 23) (n := 20) (by kernel_rfl) (by kernel_rfl) (by kernel_rfl) (by kernel_rfl) (by kernel_rfl) (by kernel_rfl) (show laidMet Tryd.prog Rows.wordsSplitsRow.laid W from h).tail.tail
/-- What the walk gives, for every argument and every world that holds the table. -/
theorem contract (H : Type) (enc : TypeId × Value → H) (W : World) (base : Nat) (args : Array Value) (ds gs : List (DataW H)) (before : List MemPlace)
    (hval : ∀ (j : Nat) t v, Tryd.f5.params[j]? = some t → args[j]? = some v → Value.okWide Tryd.prog W .any base t v)
    (hW : DataW.Whole enc Tryd.prog Tryd.f5.params.toList Rows.wordsSplitsSpec.vars false W args.toList ds gs before) (hL : laidMetH Tryd.prog Rows.wordsSplitsRow.laid W) :
    Calls Tryd.prog 5 args W fun e W' => ∃ v, e = .returned v ∧ Rows.wordsSplitsSpec.post enc Tryd.prog Tryd.f5 false true false false W args v W' := by
  have hW' := hW
  obtain ⟨p, q, hA0, hV, rfl, hfz, hnd⟩ := hW
  have hA : DataW.TrodAll enc Tryd.prog W 0 (fun _ => true) true Tryd.f5.params.toList args.toList ds p := hA0
  rw [Tryd.params5] at hA hval
  obtain ⟨v0, vs0, d0, ds0, p0, q0, hargs, rfl, rfl, h0, r0⟩ := trodAll_cons hA
  obtain ⟨rfl, rfl, rfl⟩ := trodAll_nil r0
  obtain rfl : args = #[v0] := by cases args; simp_all
  obtain ⟨rfl, rfl⟩ := trodVars_none hV
  obtain ⟨a0, rfl, rfl, rfl, w0⟩ := open_string Tryd.underlying9 (hval 0 9 v0 rfl rfl) h0
  clear hA0
  simp only [List.append_nil] at hW'
  refine (walk a0 w0 W (table hL)).mono fun e W' ⟨he, bel⟩ => ?_
  subst he
  exact ⟨_, rfl, _, _, _, [], _, [], hW', trodAll_mk1 (shut_bool Tryd.underlying4 _), (trodAll_cons_mk (shut_string Tryd.underlying9 w0) trodAll_mk0), rfl, bel.frame _, fun h => by cases h⟩

theorem laid_met (os : Os) : laidMet Tryd.prog Rows.wordsSplitsRow.laid ((World.doorLaid Tryd.prog 24 os).forCall (fun _ _ => 0) ⟨#[], #[.string ByteArray.empty], []⟩).memory :=
  laidMet_of_run' 8 (by kernel_rfl) (by kernel_rfl)
theorem reads (os : Os) {H : Type} (enc : TypeId × Value → H) : ∃ places, DataW.whole enc Tryd.prog ((World.doorLaid Tryd.prog 24 os).forCall (fun _ _ => 0) ⟨#[], #[.string ByteArray.empty], []⟩).memory Tryd.f5.params.toList Rows.wordsSplitsSpec.vars false (#[.string ByteArray.empty] : Array Value).toList 8 = some ([.lit (.string [])], [], places) :=
  ⟨[], by kernel_rfl⟩

set_option maxRecDepth 100000 in
theorem lifted (os : Os) (started : os.Started) (H : Type) (enc : TypeId × Value → H) (F : Stop.Interp) :
    ReturnsInHanded {} Tryd.checked os 5 .any ((OpenSpec.ofChange Rows.wordsSplitsSpec).preRow enc Tryd.prog Tryd.f5 Rows.wordsSplitsRow.domain false Rows.wordsSplitsRow.laid) (((OpenSpec.ofChange Rows.wordsSplitsSpec).at F).post enc Tryd.prog Tryd.f5 false true false false) := by
  obtain ⟨places, hx⟩ := reads os enc
  refine returnsInHanded_of_row (C := Tryd.checked) (s := OpenSpec.ofChange Rows.wordsSplitsSpec) own started (by kernel_rfl) Tryd.func5
    (witness_row_at (enc := enc) (C := Tryd.checked) false (World.doorLaid Tryd.prog 24 os) #[.string ByteArray.empty] rfl (by kernel_rfl) (by kernel_rfl) (by kernel_rfl)
      (OpenSpec.preRow_of_cond 8 hx (by kernel_rfl) (fun k hk => by cases hk) (by kernel_rfl) (laid_met os))) ?_
  intro W base args ds gs before hval hW _ _ _ hL _ _
  exact contract H enc W base args ds gs before hval hW hL

theorem said : Rows.WordsSplitsSaid :=
  OpenClaim.holds_of_cond 5 Tryd.f5 rfl rfl rfl rfl rfl rfl rfl ⟨rfl, rfl, rfl, rfl, rfl⟩ rfl rfl rfl rfl rfl (by kernel_rfl) Tryd.func5 (by kernel_rfl)
    (of_decide_eq_true (by kernel_rfl)) (by unfold Func.isWrapper; first | (rw [if_pos (by decide +kernel)]; kernel_rfl) | (rw [if_neg (by decide +kernel)]; exact ⟨rfl, rfl⟩))
    (fun os started H enc _ F => by rw [OpenClaim.pre_eq_preRow]; exact lifted os started H enc F)

theorem plain (f : FuncId) (fn : Func) (hf : Tryd.pinned.checked.prog.funcNamed Rows.wordsSplitsRow.func = some f) (hfn : Tryd.pinned.checked.prog.funcs[f]? = some fn) :
    false = Tryd.pinned.checked.prog.looks [] ∧ ∀ (j : Nat) t, fn.params[j]? = some t → Tryd.pinned.checked.prog.wantsStandIn t = false := by
  obtain rfl : f = 5 := Option.some.inj ((show Tryd.prog.funcNamed Rows.wordsSplitsRow.func = some 5 by kernel_rfl).symm.trans hf) |>.symm
  obtain rfl : fn = Tryd.f5 := (Option.some.inj (Tryd.func5.symm.trans hfn)).symm
  refine ⟨by kernel_rfl, fun j t ht => ?_⟩
  rw [Tryd.params5] at ht
  have hm : t ∈ [9] := by simpa using Array.mem_of_getElem? ht
  have hall : ([9].all fun u => !Tryd.prog.wantsStandIn u) = true := by kernel_rfl
  exact (show Tryd.prog.wantsStandIn t = false by simpa using List.all_eq_true.1 hall t hm)

theorem card : Rows.WordsSplitsCardSaid :=
  Claim7.holds_tied_plain_at .later [] _ _ _ _ said (fun _ h => by cases h) (by kernel_rfl) (fun _ h => by cases h) wordsSplits_row_tie rfl ⟨rfl, rfl⟩ (by kernel_rfl) rfl plain (by kernel_rfl)
end Go.Proofs.YtffmmpahenogdaaDoor.wordsSplits
namespace Go.Proofs.YtffmmpahenogdaaDoor
theorem wordsSplits_holds : Rows.WordsSplitsCardSaid := wordsSplits.card
#print axioms wordsSplits_holds
end Go.Proofs.YtffmmpahenogdaaDoor
