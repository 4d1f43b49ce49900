/-
  A chunk that was given back is the next of its class, and is given back once: proof of the law 'SlabAgain'. No conditions.
-/
import Derived.Test.YteeanaoglcpaaaaDoorCards
import Derived.Test.YteeanaoglcpaaaaDoorTie
import Derived.WalkKit
import Derived.ProofKit
import Derived.OpenShut
import Derived.ShutString
import Derived.ChangeOld
import Derived.Deep.DeepHandedRow
import Derived.Lib.LaidTab
import Derived.Stop.LaidErr
import Derived.LaidMore
import Derived.Test.YteeanaoglcpaaaaDoorInts
import Derived.Test.YteeanaoglcpaaaaDoorSt
namespace Go.Proofs.YteeanaoglcpaaaaDoor.slabAgain
open Go.ChangeShapes Go.WideShapes Go.ChangeAt Go.RowKit Go.Deep Go.Shelf Math
set_option linter.unusedVariables false
set_option linter.unusedSimpArgs false

theorem wf_i64 {z : Int} (h : (Lit.int .i64 z).wf = true) : -9223372036854775808 ≤ z ∧ z ≤ 9223372036854775807 := by
  have h1 : IntKind.i64.min = -9223372036854775808 := rfl
  have h2 : IntKind.i64.max = 9223372036854775807 := rfl
  simp [Lit.wf, h1, h2] at h
  exact h
/-- The numbers of the first m chunks. -/
def nums (c m : Nat) : List Int := (List.range m).map fun i => (num c i : Int)
theorem nums_len (c m : Nat) : (nums c m).length = m := by simp [nums]
theorem nums_succ (c m : Nat) : nums c m ++ [(num c m : Int)] = nums c (m + 1) := by simp [nums, List.range_succ]
theorem nums_get {c m i : Nat} (h : i < m) : (nums c m)[i]? = some (num c i : Int) := by simp [nums, h]
theorem num_lt {c i n : Nat} (hc : c < 6) (h : i < n * many c) : num c i < 64 * n := by
  obtain ⟨d1, d2⟩ := num_div (i := i) hc
  have : i / many c < n := Nat.div_lt_of_lt_mul (by rw [Nat.mul_comm]; exact h)
  have h3 : num c i % 64 < 64 := Nat.mod_lt _ (by decide)
  omega
set_option maxHeartbeats 4000000 in
set_option maxRecDepth 8000 in
/-- The walk: the Go text returns true, and writes nothing that was there. -/
theorem walk (w : World) (a0 : Int) (w0 : (Lit.int .i64 a0).wf = true) (a1 : Int) (w1 : (Lit.int .i64 a1).wf = true) (a2 : Int) (w2 : (Lit.int .i64 a2).wf = true) (a3 : Int) (w3 : (Lit.int .i64 a3).wf = true) (htab : Tab w) :
    Calls Tryd.prog 7 #[.int .i64 a0, .int .i64 a1, .int .i64 a2, .int .i64 a3] w fun e w' => e = .returned (.bool true) ∧ Below w.heap.size w w' := by
  have ca := hide (awake_any w htab)
  by_cases x0 : a0 < 1
  · clear w0 w1 w2 w3
    go_enter Tryd.func7, Tryd.ntmps7
    go_wp2_with fail
    refine ca.out.mono ?_
    rintro e w1 ⟨rfl, h1⟩
    have B1 := hide h1
    clear h1 ca
    go_wp2
    go_ret
    exact ⟨rfl, B1.out⟩
  by_cases x1 : 20 < a0
  · clear w0 w1 w2 w3
    go_enter Tryd.func7, Tryd.ntmps7
    go_wp2_with fail
    refine ca.out.mono ?_
    rintro e w1 ⟨rfl, h1⟩
    have B1 := hide h1
    clear h1 ca
    go_wp2
    go_ret
    exact ⟨rfl, B1.out⟩
  by_cases x2 : a1 < 0
  · clear w0 w1 w2 w3
    go_enter Tryd.func7, Tryd.ntmps7
    go_wp2_with fail
    refine ca.out.mono ?_
    rintro e w1 ⟨rfl, h1⟩
    have B1 := hide h1
    clear h1 ca
    go_wp2
    go_ret
    exact ⟨rfl, B1.out⟩
  by_cases x3 : 5 < a1
  · clear w0 w1 w2 w3
    go_enter Tryd.func7, Tryd.ntmps7
    go_wp2_with fail
    refine ca.out.mono ?_
    rintro e w1 ⟨rfl, h1⟩
    have B1 := hide h1
    clear h1 ca
    go_wp2
    go_ret
    exact ⟨rfl, B1.out⟩
  by_cases x4 : a2 < 1
  · clear w0 w1 w2 w3
    go_enter Tryd.func7, Tryd.ntmps7
    go_wp2_with fail
    refine ca.out.mono ?_
    rintro e w1 ⟨rfl, h1⟩
    have B1 := hide h1
    clear h1 ca
    go_wp2
    go_ret
    exact ⟨rfl, B1.out⟩
  by_cases x5 : 60 < a2
  · clear w0 w1 w2 w3
    go_enter Tryd.func7, Tryd.ntmps7
    go_wp2_with fail
    refine ca.out.mono ?_
    rintro e w1 ⟨rfl, h1⟩
    have B1 := hide h1
    clear h1 ca
    go_wp2
    go_ret
    exact ⟨rfl, B1.out⟩
  by_cases x6 : a3 < 0
  · clear w0 w1 w2 w3
    go_enter Tryd.func7, Tryd.ntmps7
    go_wp2_with fail
    refine ca.out.mono ?_
    rintro e w1 ⟨rfl, h1⟩
    have B1 := hide h1
    clear h1 ca
    go_wp2
    go_ret
    exact ⟨rfl, B1.out⟩
  have hw3 := wf_i64 w3
  obtain ⟨n, rfl⟩ : ∃ n : Nat, a0 = (n : Int) := ⟨a0.toNat, by omega⟩
  obtain ⟨c, rfl⟩ : ∃ n : Nat, a1 = (n : Int) := ⟨a1.toNat, by omega⟩
  obtain ⟨N, rfl⟩ : ∃ n : Nat, a2 = (n : Int) := ⟨a2.toNat, by omega⟩
  obtain ⟨A, rfl⟩ : ∃ n : Nat, a3 = (n : Int) := ⟨a3.toNat, by omega⟩
  have hc : c < 6 := by omega
  have hM := many_pos c hc
  have hM6 := many_le c
  have h1n : 1 ≤ n := by omega
  have hnM : 1 ≤ n * many c := Nat.mul_pos (by omega) (by omega)
  obtain ⟨P, hP⟩ : ∃ P, P = n * many c := ⟨_, rfl⟩
  rw [← hP] at hnM
  have HP := hide hP
  have HC := hide hc
  have T := hide htab
  have hn20 : n ≤ 20 := by omega
  have hA9 : (A : Int) ≤ 9223372036854775807 := hw3.2
  have hN1 : 1 ≤ N := by omega
  have hN6 : N ≤ 60 := by omega
  clear w0 w1 w2 w3 hw3 htab hP hM hM6
  go_enter Tryd.func7, Tryd.ntmps7
  go_wp2_with fail
  refine ca.out.mono ?_
  rintro e w1 ⟨rfl, h1⟩
  have cN := hide (new_l h1 T.out n h1n (by omega))
  clear h1 ca
  go_wp2_with fail
  refine cN.out.mono ?_
  rintro e w2 ⟨f, s, rfl, h2, _, _, _⟩
  have S2 := hide h2
  clear h2 cN
  go_wp2_with fail
  go_loopg [11, 12] N (fun kx s11 s12 wr => ∃ (i m : Nat) (va : Option Addr) (vc : Nat), s12 = .int .i64 i ∧ s11 = .slice va m vc ∧ i ≤ N ∧ m ≤ i ∧ N - i ≤ kx ∧ Hid (m = min i P ∧ Sl w f s (St blank c n m) wr ∧ NR w (.slice va m vc) (nums c m) wr))
  case atStart => exact ⟨0, 0, none, 0, rfl, rfl, Nat.zero_le _, Nat.le_refl _, by omega, by omega, by rw [St_zero]; exact S2.out, NR.nil _ _⟩
  case round =>
    obtain ⟨i, m, va, vc, rfl, rfl, hiN, hmi, hkx, I⟩ := hrel
    obtain ⟨im, iS, iR⟩ := I.out
    have IM := hide im
    have IS := hide iS
    have IR := hide iR
    clear I im iS iR
    by_cases hlt : i < N
    · have hlt2 : (i : Int) < (N : Int) := by omega
      by_cases hfull : m < P
      · have hst := St_take (z := blank) (n := n) (m := m) (blank_ok c) HC.out (by rw [← HP.out]; exact hfull)
        have ct : Hid (Calls Tryd.prog 11 #[.pointer (some ⟨f, 0, none⟩), .int .i64 (c : Int)] wr fun e W' => e = .returned (.tuple #[.int .i64 (num c m : Int), .int .i64 0]) ∧ Sl w f s (St blank c n (m + 1)) W' ∧ NR w (.slice va m vc) (nums c m) W') := by
          refine (take_at IS.out c HC.out hst.1 hst.2.1 hst.2.2).mono ?_
          rintro e W ⟨rfl, h, k⟩
          exact ⟨rfl, h, IR.out.keep IS.out.inn k⟩
        clear hst
        obtain ⟨x, hx⟩ : ∃ x : Int, x = (num c m : Int) := ⟨_, rfl⟩
        rw [← hx] at ct
        have HX := hide hx
        clear hx
        go_wp2_with fail
        refine ct.out.mono ?_
        rintro e w3 ⟨rfl, h3, r3⟩
        obtain ⟨ua, uc, w4, hrun, hnr, hk4⟩ := app_int r3 h3.bel.size x (by rw [nums_len]; omega)
        rw [nums_len] at hrun hnr
        have S4 := hide (h3.off r3 hk4)
        have HR := hide hrun
        have R4 := hide hnr
        clear h3 r3 ct hrun hnr hk4
        go_wp2_with (at_builtin; refine Lib.wpList_append_run _ rfl _ _ _ _ rfl _ _ rfl rfl _ _ (HR.out _) ?_)
        go_roundg (N - (i + 1))
        case measure => omega
        case rel => exact ⟨i + 1, m + 1, ua, uc, by go_num, rfl, by omega, by omega, by omega, by have := IM.out; omega, S4.out, by rw [← nums_succ, ← HX.out]; exact R4.out⟩
      · have hmP : m = P := by have := IM.out; omega
        have hst := St_full (z := blank) (n := n) HC.out (b := c) HC.out
        rw [← HP.out, ← hmP] at hst
        have ct : Hid (Calls Tryd.prog 11 #[.pointer (some ⟨f, 0, none⟩), .int .i64 (c : Int)] wr fun e W' => e = .returned (.tuple #[.int .i64 0, .int .i64 7]) ∧ Sl w f s (St blank c n m) W' ∧ NR w (.slice va m vc) (nums c m) W') := by
          refine (take_at IS.out c HC.out (k := 0) hst.1 hst.2.1 hst.2.2).mono ?_
          rintro e W ⟨rfl, h, k⟩
          exact ⟨rfl, h, IR.out.keep IS.out.inn k⟩
        clear hst hmP
        go_wp2_with fail
        refine ct.out.mono ?_
        rintro e w3 ⟨rfl, h3, r3⟩
        have S3 := hide h3
        have R3 := hide r3
        clear h3 r3 ct
        go_wp2
        go_roundg (N - (i + 1))
        case measure => omega
        case rel => exact ⟨i + 1, m, va, vc, by go_num, rfl, by omega, by omega, by omega, by have := IM.out; omega, S3.out, R3.out⟩
    · obtain rfl : i = N := by omega
      have hlt2 : ¬ (i : Int) < (i : Int) := by omega
      have hm1 : 1 ≤ m := by have := IM.out; omega
      have hmP : m ≤ P := by have := IM.out; omega
      obtain ⟨q, hq⟩ : ∃ q, q = A % m := ⟨_, rfl⟩
      have hqm : q < m := by rw [hq]; exact Nat.mod_lt _ (by omega)
      have hq1 : (A : Int) % (m : Int) = (q : Int) := by rw [hq]; omega
      have hq2 : ((A : Int).tmod (m : Int)) = (q : Int) := by rw [Int.tmod_eq_emod_of_nonneg (by omega), hq1]
      obtain ⟨g, cp, hv, hcell, hg, hcap⟩ := IR.out.cell (nums_get hqm)
      rw [nums_len] at hv hcap
      simp only [Value.slice.injEq, true_and] at hv
      obtain ⟨rfl, rfl⟩ := hv
      obtain ⟨k, hk⟩ : ∃ k, k = num c q := ⟨_, rfl⟩
      rw [← hk] at hcell
      have hk9 : k < 64 * n := by rw [hk]; exact num_lt HC.out (by rw [← HP.out]; omega)
      obtain ⟨t1, t2, t3, t4⟩ := St_hole (z := blank) (n := n) (m := m) (i := q) (blank_ok c) HC.out (by rw [← HP.out]; exact hmP) hqm
      rw [← hk] at t1 t2 t3 t4
      have cf : Hid (Calls Tryd.prog 12 #[.pointer (some ⟨f, 0, none⟩), .int .i64 (k : Int)] wr fun e W' => e = .returned (.int .i64 0) ∧ Sl w f s (clr (St blank c n m) k) W') := by
        refine (free_l IS.out (k : Int) (by omega)).mono ?_
        rintro e W ⟨rfl, h, _⟩
        unfold frE frL at *
        rw [t1] at h ⊢
        rw [Int.toNat_natCast] at h
        exact ⟨rfl, h⟩
      have cg : Hid (∀ W, Sl w f s (clr (St blank c n m) k) W → Calls Tryd.prog 12 #[.pointer (some ⟨f, 0, none⟩), .int .i64 (k : Int)] W fun e W' => e = .returned (.int .i64 5) ∧ Sl w f s (clr (St blank c n m) k) W') := fun W hS => by
        refine (free_l hS (k : Int) (by omega)).mono ?_
        rintro e W ⟨rfl, h, _⟩
        unfold frE frL at *
        rw [t2] at h ⊢
        exact ⟨rfl, h⟩
      have ct : Hid (∀ W, Sl w f s (clr (St blank c n m) k) W → Calls Tryd.prog 11 #[.pointer (some ⟨f, 0, none⟩), .int .i64 (c : Int)] W fun e W' => e = .returned (.tuple #[.int .i64 (k : Int), .int .i64 0]) ∧ Below w.heap.size w W') := fun W hS => by
        refine (take_at hS c HC.out t3 t4 rfl).mono ?_
        rintro e W ⟨rfl, h, _⟩
        exact ⟨rfl, h.bel⟩
      clear t1 t2 t3 t4 IS IR IM hk hq hmP S2
      have hm0 : ((m : Int) == 0) = false := by simp; omega
      have hqm2 : (q : Int) < (m : Int) := by omega
      go_wp2_with fail
      refine cf.out.mono ?_
      rintro e w5 ⟨rfl, h5⟩
      have cg5 := hide (cg.out w5 h5)
      clear cf cg h5
      go_wp2_with fail
      refine cg5.out.mono ?_
      rintro e w6 ⟨rfl, h6⟩
      have ct6 := hide (ct.out w6 h6)
      clear cg5 ct h6
      go_wp2_with fail
      refine ct6.out.mono ?_
      rintro e w7 ⟨rfl, h7⟩
      have B7 := hide h7
      clear ct6 h7
      go_wp2
      go_ret
      exact ⟨rfl, B7.out⟩

theorem own : ownKnob Tryd.prog.godebug = none := by kernel_rfl
/-- What the row lists: the table of trailing zeros. -/
theorem table {W : World} (h : laidMetH Tryd.prog Rows.slabAgainRow.laid W) : Tab W :=
  Tab.of (Lib.tabIs_of_head (rest := []) (g := 0) (t := 58) (e := 5) (n := 64) (by kernel_rfl) (by kernel_rfl) (by kernel_rfl) (by kernel_rfl) (by kernel_rfl) (by kernel_rfl) (show laidMet Tryd.prog Rows.slabAgainRow.laid W from h))
/-- What the walk gives, for every argument and every world that holds the table. -/
theorem contract (H : Type) (enc : TypeId × Value → H) (W : World) (base : Nat) (args : Array Value) (ds gs : List (DataW H)) (before : List MemPlace)
    (hval : ∀ (j : Nat) t v, Tryd.f7.params[j]? = some t → args[j]? = some v → Value.okWide Tryd.prog W .any base t v)
    (hW : DataW.Whole enc Tryd.prog Tryd.f7.params.toList Rows.slabAgainSpec.vars false W args.toList ds gs before) (hL : laidMetH Tryd.prog Rows.slabAgainRow.laid W) :
    Calls Tryd.prog 7 args W fun e W' => ∃ v, e = .returned v ∧ Rows.slabAgainSpec.post enc Tryd.prog Tryd.f7 false true false false W args v W' := by
  have hW' := hW
  obtain ⟨p, q, hA0, hV, rfl, hfz, hnd⟩ := hW
  have hA : DataW.TrodAll enc Tryd.prog W 0 (fun _ => true) true Tryd.f7.params.toList args.toList ds p := hA0
  rw [Tryd.params7] at hA hval
  obtain ⟨v0, vs0, d0, ds0, p0, q0, hargs, rfl, rfl, h0, r0⟩ := trodAll_cons hA
  obtain ⟨v1, vs1, d1, ds1, p1, q1, rfl, rfl, rfl, h1, r1⟩ := trodAll_cons r0
  obtain ⟨v2, vs2, d2, ds2, p2, q2, rfl, rfl, rfl, h2, r2⟩ := trodAll_cons r1
  obtain ⟨v3, vs3, d3, ds3, p3, q3, rfl, rfl, rfl, h3, r3⟩ := trodAll_cons r2
  obtain ⟨rfl, rfl, rfl⟩ := trodAll_nil r3
  obtain rfl : args = #[v0, v1, v2, v3] := by cases args; simp_all
  obtain ⟨rfl, rfl⟩ := trodVars_none hV
  obtain ⟨a0, rfl, rfl, rfl, w0⟩ := open_int Tryd.underlying3 (hval 0 3 v0 rfl rfl) h0
  obtain ⟨a1, rfl, rfl, rfl, w1⟩ := open_int Tryd.underlying3 (hval 1 3 v1 rfl rfl) h1
  obtain ⟨a2, rfl, rfl, rfl, w2⟩ := open_int Tryd.underlying3 (hval 2 3 v2 rfl rfl) h2
  obtain ⟨a3, rfl, rfl, rfl, w3⟩ := open_int Tryd.underlying3 (hval 3 3 v3 rfl rfl) h3
  clear hA0
  simp only [List.append_nil] at hW'
  refine (walk W a0 w0 a1 w1 a2 w2 a3 w3 (table hL)).mono fun e W' ⟨he, bel⟩ => ?_
  subst he
  exact ⟨_, rfl, _, _, _, [], _, [], hW', trodAll_mk1 (shut_bool Tryd.underlying4 _), (trodAll_cons_mk (shut_int Tryd.underlying3 w0) (trodAll_cons_mk (shut_int Tryd.underlying3 w1) (trodAll_cons_mk (shut_int Tryd.underlying3 w2) (trodAll_cons_mk (shut_int Tryd.underlying3 w3) trodAll_mk0)))), rfl, bel.frame _, fun h => by cases h⟩

/-- The witness: what the initialisers leave is met. -/
theorem laid_met (os : Os) : laidMet Tryd.prog Rows.slabAgainRow.laid ((World.doorLaid Tryd.prog 14 os).forCall (fun _ _ => 0) ⟨#[], #[.int .i64 0, .int .i64 0, .int .i64 0, .int .i64 0], []⟩).memory :=
  laidMet_of_run' 8 (by kernel_rfl) (by kernel_rfl)
theorem reads (os : Os) {H : Type} (enc : TypeId × Value → H) : ∃ places, DataW.whole enc Tryd.prog ((World.doorLaid Tryd.prog 14 os).forCall (fun _ _ => 0) ⟨#[], #[.int .i64 0, .int .i64 0, .int .i64 0, .int .i64 0], []⟩).memory Tryd.f7.params.toList Rows.slabAgainSpec.vars false (#[.int .i64 0, .int .i64 0, .int .i64 0, .int .i64 0] : Array Value).toList 8 = some ([.lit (.int .i64 0), .lit (.int .i64 0), .lit (.int .i64 0), .lit (.int .i64 0)], [], places) :=
  ⟨[], by kernel_rfl⟩

set_option maxRecDepth 100000 in
theorem lifted (os : Os) (started : os.Started) (H : Type) (enc : TypeId × Value → H) (F : Stop.Interp) :
    ReturnsInHanded {} Tryd.checked os 7 .any ((OpenSpec.ofChange Rows.slabAgainSpec).preRow enc Tryd.prog Tryd.f7 Rows.slabAgainRow.domain false Rows.slabAgainRow.laid) (((OpenSpec.ofChange Rows.slabAgainSpec).at F).post enc Tryd.prog Tryd.f7 false true false false) := by
  obtain ⟨places, hx⟩ := reads os enc
  refine returnsInHanded_of_row (C := Tryd.checked) (s := OpenSpec.ofChange Rows.slabAgainSpec) own started (by kernel_rfl) Tryd.func7
    (witness_row_at (enc := enc) (C := Tryd.checked) false (World.doorLaid Tryd.prog 14 os) #[.int .i64 0, .int .i64 0, .int .i64 0, .int .i64 0] rfl (by kernel_rfl) (by kernel_rfl) (by kernel_rfl)
      (OpenSpec.preRow_of_cond 8 hx (by kernel_rfl) (fun k hk => by cases hk) (by kernel_rfl) (laid_met os))) ?_
  intro W base args ds gs before hval hW _ _ _ hL _ _
  exact contract H enc W base args ds gs before hval hW hL

theorem said : Rows.SlabAgainSaid :=
  OpenClaim.holds_of_cond 7 Tryd.f7 rfl rfl rfl rfl rfl rfl rfl ⟨rfl, rfl, rfl, rfl, rfl⟩ rfl rfl rfl rfl rfl (by kernel_rfl) Tryd.func7 (by kernel_rfl)
    (of_decide_eq_true (by kernel_rfl)) (by unfold Func.isWrapper; first | (rw [if_pos (by decide +kernel)]; kernel_rfl) | (rw [if_neg (by decide +kernel)]; exact ⟨rfl, rfl⟩))
    (fun os started H enc _ F => by rw [OpenClaim.pre_eq_preRow]; exact lifted os started H enc F)

theorem plain (f : FuncId) (fn : Func) (hf : Tryd.pinned.checked.prog.funcNamed Rows.slabAgainRow.func = some f) (hfn : Tryd.pinned.checked.prog.funcs[f]? = some fn) :
    false = Tryd.pinned.checked.prog.looks [] ∧ ∀ (j : Nat) t, fn.params[j]? = some t → Tryd.pinned.checked.prog.wantsStandIn t = false := by
  obtain rfl : f = 7 := Option.some.inj ((show Tryd.prog.funcNamed Rows.slabAgainRow.func = some 7 by kernel_rfl).symm.trans hf) |>.symm
  obtain rfl : fn = Tryd.f7 := (Option.some.inj (Tryd.func7.symm.trans hfn)).symm
  refine ⟨by kernel_rfl, fun j t ht => ?_⟩
  rw [Tryd.params7] at ht
  have hm : t ∈ [3, 3, 3, 3] := by simpa using Array.mem_of_getElem? ht
  have hall : ([3, 3, 3, 3].all fun u => !Tryd.prog.wantsStandIn u) = true := by kernel_rfl
  exact (show Tryd.prog.wantsStandIn t = false by simpa using List.all_eq_true.1 hall t hm)

theorem card : Rows.SlabAgainCardSaid :=
  Claim7.holds_tied_plain_at .later [] _ _ _ _ said (fun _ h => by cases h) (by kernel_rfl) (fun _ h => by cases h) slabAgain_row_tie rfl ⟨rfl, rfl⟩ (by kernel_rfl) rfl plain (by kernel_rfl)
end Go.Proofs.YteeanaoglcpaaaaDoor.slabAgain
namespace Go.Proofs.YteeanaoglcpaaaaDoor
theorem slabAgain_holds : Rows.SlabAgainCardSaid := slabAgain.card
#print axioms slabAgain_holds
end Go.Proofs.YteeanaoglcpaaaaDoor
