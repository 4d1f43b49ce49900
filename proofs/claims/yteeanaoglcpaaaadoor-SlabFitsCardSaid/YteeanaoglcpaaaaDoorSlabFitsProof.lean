/-
  A class is the least that fits, a page of it has as many chunks as fit: proof of the law 'SlabFits'. No conditions.
-/
import Derived.Test.YteeanaoglcpaaaaDoorCards
import Derived.Test.YteeanaoglcpaaaaDoorTie
import Derived.WalkKit
import Derived.ProofKit
import Derived.OpenShut
import Derived.ShutString
import Derived.ChangeOld
import Derived.Deep.DeepHandedRow
import Derived.Lib.LaidTab
import Derived.Stop.LaidErr
import Derived.LaidMore
import Derived.Test.YteeanaoglcpaaaaDoorAwake
import Derived.Test.YteeanaoglcpaaaaDoorSt
namespace Go.Proofs.YteeanaoglcpaaaaDoor.slabFits
open Go.ChangeShapes Go.WideShapes Go.ChangeAt Go.RowKit Go.Deep Go.Shelf Math
set_option linter.unusedVariables false
set_option linter.unusedSimpArgs false

theorem cls_spec (z : Int) (h0 : 0 ≤ z) (h1 : z ≤ 2048) : ∃ c : Nat, c < 6 ∧ cls z = (c : Int) ∧ z ≤ ((64 * 2 ^ c : Nat) : Int) ∧ (0 < c → ((64 * 2 ^ (c - 1) : Nat) : Int) < z) := by
  unfold cls
  rw [if_neg (by omega)]
  by_cases a0 : z ≤ 64
  · exact ⟨0, by omega, by rw [if_pos a0]; rfl, by simpa using a0, by omega⟩
  rw [if_neg a0]
  by_cases a1 : z ≤ 128
  · exact ⟨1, by omega, by rw [if_pos a1]; rfl, by simpa using a1, fun _ => by simp; omega⟩
  rw [if_neg a1]
  by_cases a2 : z ≤ 256
  · exact ⟨2, by omega, by rw [if_pos a2]; rfl, by simpa using a2, fun _ => by simp; omega⟩
  rw [if_neg a2]
  by_cases a3 : z ≤ 512
  · exact ⟨3, by omega, by rw [if_pos a3]; rfl, by simpa using a3, fun _ => by simp; omega⟩
  rw [if_neg a3]
  by_cases a4 : z ≤ 1024
  · exact ⟨4, by omega, by rw [if_pos a4]; rfl, by simpa using a4, fun _ => by simp; omega⟩
  rw [if_neg a4]
  exact ⟨5, by omega, by rw [if_pos h1]; rfl, by simpa using h1, fun _ => by simp; omega⟩
theorem cls_out (z : Int) (h : z < 0 ∨ 2048 < z) : cls z = -1 := by
  unfold cls
  rcases h with h | h
  · rw [if_pos h]
  · rw [if_neg (by omega), if_neg (by omega), if_neg (by omega), if_neg (by omega), if_neg (by omega), if_neg (by omega), if_neg (by omega)]
theorem quo_many (c : Nat) (hc : c < 6) : (4096 : Int) / ((64 * 2 ^ c : Nat) : Int) = (many c : Int) ∧ 1 ≤ 64 * 2 ^ c ∧ 64 * 2 ^ c ≤ 2048 := by
  rcases (show c = 0 ∨ c = 1 ∨ c = 2 ∨ c = 3 ∨ c = 4 ∨ c = 5 by omega) with rfl | rfl | rfl | rfl | rfl | rfl <;> decide
set_option maxHeartbeats 4000000 in
set_option maxRecDepth 8000 in
/-- The walk: the Go text returns true, and writes nothing that was there. -/
theorem walk (w : World) (a0 : Int) (w0 : (Lit.int .i64 a0).wf = true) (htab : Tab w) :
    Calls Tryd.prog 6 #[.int .i64 a0] w fun e w' => e = .returned (.bool true) ∧ Below w.heap.size w w' := by
  have ca := hide (awake_any w htab)
  have hwf := w0
  have cc : Hid (∀ W, Calls Tryd.prog 13 #[.int .i64 a0] W fun e w' => e = .returned (.int .i64 (cls a0)) ∧ w' = W) := fun W => class_any a0 W
  by_cases hout : a0 < 0 ∨ 2048 < a0
  · rw [cls_out a0 hout] at cc
    by_cases h0 : a0 < 0
    · clear hout
      go_enter Tryd.func6, Tryd.ntmps6
      go_wp2_with fail
      refine ca.out.mono ?_
      rintro e w1 ⟨rfl, h1⟩
      have B1 := hide h1
      clear h1 ca
      go_wp2_with fail
      refine (cc.out _).mono ?_
      rintro e wx ⟨rfl, hx⟩
      obtain rfl : w1 = wx := hx.symm
      clear hx cc
      go_wp2
      go_ret
      exact ⟨rfl, B1.out⟩
    · have h2 : 2048 < a0 := by omega
      clear hout
      go_enter Tryd.func6, Tryd.ntmps6
      go_wp2_with fail
      refine ca.out.mono ?_
      rintro e w1 ⟨rfl, h1⟩
      have B1 := hide h1
      clear h1 ca
      go_wp2_with fail
      refine (cc.out _).mono ?_
      rintro e wx ⟨rfl, hx⟩
      obtain rfl : w1 = wx := hx.symm
      clear hx cc
      go_wp2
      go_ret
      exact ⟨rfl, B1.out⟩
  · obtain ⟨c, hc, he, hle, hlow⟩ := cls_spec a0 (by omega) (by omega)
    rw [he] at cc
    have n1 : ¬ a0 < 0 := by omega
    have n2 : ¬ 2048 < a0 := by omega
    have n3 : ¬ (c : Int) < 0 := by omega
    have n4 : ¬ 5 < (c : Int) := by omega
    obtain ⟨qm, q1, q2⟩ := quo_many c hc
    have ck : Hid (∀ W, Calls Tryd.prog 14 #[.int .i64 (c : Int)] W fun e w' => e = .returned (.int .i64 ((64 * 2 ^ c : Nat) : Int)) ∧ w' = W) := fun W => chunk_ok c hc W
    have cp : Hid (0 < c → ∀ W, Calls Tryd.prog 14 #[.int .i64 ((c : Int) - 1)] W fun e w' => e = .returned (.int .i64 ((64 * 2 ^ (c - 1) : Nat) : Int)) ∧ w' = W) := fun h W => by
      have := chunk_ok (c - 1) (by omega) W
      rw [show ((c - 1 : Nat) : Int) = (c : Int) - 1 by omega] at this
      exact this
    obtain ⟨M, hM⟩ : ∃ M, M = 64 * 2 ^ c := ⟨_, rfl⟩
    rw [← hM] at ck hle qm q1 q2
    obtain ⟨N, hN⟩ : ∃ N, N = 64 * 2 ^ (c - 1) := ⟨_, rfl⟩
    rw [← hN] at cp hlow
    obtain ⟨m, hm⟩ : ∃ m, m = many c := ⟨_, rfl⟩
    rw [← hm] at qm
    have Hm := hide hm
    have hm64 : m ≤ 64 := by rw [hm]; exact many_le c
    have n5 : ¬ (M : Int) < a0 := by omega
    have T := hide htab
    have HC := hide hc
    clear hM hN hout he hm hle
    have key : ∀ (w1 : World) (hb : Below w.heap.size w w1), True := fun _ _ => trivial
    go_enter Tryd.func6, Tryd.ntmps6
    go_wp2_with fail
    refine ca.out.mono ?_
    rintro e w1 ⟨rfl, h1⟩
    have B1 := hide h1
    have cN := hide (new_l h1 T.out 1 (by omega) (by omega))
    clear h1 ca htab key
    go_wp2_with fail
    refine (cc.out _).mono ?_
    rintro e wx ⟨rfl, hx⟩
    obtain rfl : w1 = wx := hx.symm
    clear hx cc
    go_wp2_with fail
    refine (ck.out _).mono ?_
    rintro e wx ⟨rfl, hx⟩
    obtain rfl : w1 = wx := hx.symm
    clear hx
    by_cases hc0 : 0 < c
    · have p1 : (0 : Int) < (c : Int) := by omega
      have p2 := hlow hc0
      have p3 : ¬ a0 ≤ (N : Int) := by omega
      have cq := hide (cp.out hc0 w1)
      clear hlow cp
      go_wp2_with fail
      refine cq.out.mono ?_
      rintro e wx ⟨rfl, hx⟩
      obtain rfl : w1 = wx := hx.symm
      clear hx cq hc0
      go_wp2_with fail
      refine cN.out.mono ?_
      rintro e w2 ⟨f, s, rfl, h2, _, _, _⟩
      have S2 := hide h2
      clear h2 cN
      go_wp2_with fail
      go_loopg [6] (m + 1) (fun kx s6 wr => ∃ k : Nat, s6 = .int .i64 k ∧ k ≤ m ∧ m - k ≤ kx ∧ Hid (Sl w f s (St blank c 1 k) wr))
      case atStart => exact ⟨0, rfl, Nat.zero_le _, by omega, by show Sl _ _ _ _ _; rw [St_zero]; exact S2.out⟩
      case round =>
        obtain ⟨k, rfl, hkm, hkx, I⟩ := hrel
        go_wp2_with fail
        refine (ck.out _).mono ?_
        rintro e wx ⟨rfl, hx⟩
        obtain rfl : wr = wx := hx.symm
        clear hx
        by_cases hlt : k < m
        · have hlt2 : (k : Int) < (m : Int) := by omega
          have hst := St_take (z := blank) (n := 1) (m := k) (blank_ok c) HC.out (by rw [← Hm.out]; omega)
          have ct : Hid (Calls Tryd.prog 11 #[.pointer (some ⟨f, 0, none⟩), .int .i64 (c : Int)] wr fun e W' => e = .returned (.tuple #[.int .i64 (k : Int), .int .i64 0]) ∧ Sl w f s (St blank c 1 (k + 1)) W') := by
            refine (take_at I.out c HC.out (k := k) (e' := 0) (l' := St blank c 1 (k + 1)) ?_ hst.2.1 hst.2.2).mono ?_
            · rw [hst.1]
              unfold num
              rw [← Hm.out, Nat.div_eq_of_lt hlt, Nat.mod_eq_of_lt hlt]
              omega
            · rintro e W ⟨rfl, h, _⟩
              exact ⟨rfl, h⟩
          clear hst
          go_wp2_with fail
          refine ct.out.mono ?_
          rintro e w3 ⟨rfl, h3⟩
          have S3 := hide h3
          clear h3 ct
          go_wp2
          go_roundg (m - (k + 1))
          case measure => omega
          case rel => exact ⟨k + 1, by go_num, by omega, by omega, S3.out⟩
        · obtain rfl : k = m := by omega
          have hlt2 : ¬ (k : Int) < (k : Int) := by omega
          have hst := St_full (z := blank) (n := 1) HC.out (b := c) HC.out
          rw [show 1 * many c = k by rw [Nat.one_mul, Hm.out]] at hst
          have ct : Hid (Calls Tryd.prog 11 #[.pointer (some ⟨f, 0, none⟩), .int .i64 (c : Int)] wr fun e W' => e = .returned (.tuple #[.int .i64 0, .int .i64 7]) ∧ Sl w f s (St blank c 1 k) W') := by
            refine (take_at I.out c HC.out (k := 0) (e' := 7) (l' := St blank c 1 k) hst.1 hst.2.1 hst.2.2).mono ?_
            rintro e W ⟨rfl, h, _⟩
            exact ⟨rfl, h⟩
          clear hst
          go_wp2_with fail
          refine ct.out.mono ?_
          rintro e w3 ⟨rfl, h3⟩
          have B3 := hide h3.bel
          clear h3 ct
          go_wp2
          go_ret
          exact ⟨rfl, B3.out⟩
    · have p1 : ¬ (0 : Int) < (c : Int) := by omega
      clear hlow cp hc0
      go_wp2_with fail
      refine cN.out.mono ?_
      rintro e w2 ⟨f, s, rfl, h2, _, _, _⟩
      have S2 := hide h2
      clear h2 cN
      go_wp2_with fail
      go_loopg [6] (m + 1) (fun kx s6 wr => ∃ k : Nat, s6 = .int .i64 k ∧ k ≤ m ∧ m - k ≤ kx ∧ Hid (Sl w f s (St blank c 1 k) wr))
      case atStart => exact ⟨0, rfl, Nat.zero_le _, by omega, by show Sl _ _ _ _ _; rw [St_zero]; exact S2.out⟩
      case round =>
        obtain ⟨k, rfl, hkm, hkx, I⟩ := hrel
        go_wp2_with fail
        refine (ck.out _).mono ?_
        rintro e wx ⟨rfl, hx⟩
        obtain rfl : wr = wx := hx.symm
        clear hx
        by_cases hlt : k < m
        · have hlt2 : (k : Int) < (m : Int) := by omega
          have hst := St_take (z := blank) (n := 1) (m := k) (blank_ok c) HC.out (by rw [← Hm.out]; omega)
          have ct : Hid (Calls Tryd.prog 11 #[.pointer (some ⟨f, 0, none⟩), .int .i64 (c : Int)] wr fun e W' => e = .returned (.tuple #[.int .i64 (k : Int), .int .i64 0]) ∧ Sl w f s (St blank c 1 (k + 1)) W') := by
            refine (take_at I.out c HC.out (k := k) (e' := 0) (l' := St blank c 1 (k + 1)) ?_ hst.2.1 hst.2.2).mono ?_
            · rw [hst.1]
              unfold num
              rw [← Hm.out, Nat.div_eq_of_lt hlt, Nat.mod_eq_of_lt hlt]
              omega
            · rintro e W ⟨rfl, h, _⟩
              exact ⟨rfl, h⟩
          clear hst
          go_wp2_with fail
          refine ct.out.mono ?_
          rintro e w3 ⟨rfl, h3⟩
          have S3 := hide h3
          clear h3 ct
          go_wp2
          go_roundg (m - (k + 1))
          case measure => omega
          case rel => exact ⟨k + 1, by go_num, by omega, by omega, S3.out⟩
        · obtain rfl : k = m := by omega
          have hlt2 : ¬ (k : Int) < (k : Int) := by omega
          have hst := St_full (z := blank) (n := 1) HC.out (b := c) HC.out
          rw [show 1 * many c = k by rw [Nat.one_mul, Hm.out]] at hst
          have ct : Hid (Calls Tryd.prog 11 #[.pointer (some ⟨f, 0, none⟩), .int .i64 (c : Int)] wr fun e W' => e = .returned (.tuple #[.int .i64 0, .int .i64 7]) ∧ Sl w f s (St blank c 1 k) W') := by
            refine (take_at I.out c HC.out (k := 0) (e' := 7) (l' := St blank c 1 k) hst.1 hst.2.1 hst.2.2).mono ?_
            rintro e W ⟨rfl, h, _⟩
            exact ⟨rfl, h⟩
          clear hst
          go_wp2_with fail
          refine ct.out.mono ?_
          rintro e w3 ⟨rfl, h3⟩
          have B3 := hide h3.bel
          clear h3 ct
          go_wp2
          go_ret
          exact ⟨rfl, B3.out⟩

theorem own : ownKnob Tryd.prog.godebug = none := by kernel_rfl
/-- What the row lists: the table of trailing zeros. -/
theorem table {W : World} (h : laidMetH Tryd.prog Rows.slabFitsRow.laid W) : Tab W :=
  Tab.of (Lib.tabIs_of_head (rest := []) (g := 0) (t := 58) (e := 5) (n := 64) (by kernel_rfl) (by kernel_rfl) (by kernel_rfl) (by kernel_rfl) (by kernel_rfl) (by kernel_rfl) (show laidMet Tryd.prog Rows.slabFitsRow.laid W from h))
/-- What the walk gives, for every argument and every world that holds the table. -/
theorem contract (H : Type) (enc : TypeId × Value → H) (W : World) (base : Nat) (args : Array Value) (ds gs : List (DataW H)) (before : List MemPlace)
    (hval : ∀ (j : Nat) t v, Tryd.f6.params[j]? = some t → args[j]? = some v → Value.okWide Tryd.prog W .any base t v)
    (hW : DataW.Whole enc Tryd.prog Tryd.f6.params.toList Rows.slabFitsSpec.vars false W args.toList ds gs before) (hL : laidMetH Tryd.prog Rows.slabFitsRow.laid W) :
    Calls Tryd.prog 6 args W fun e W' => ∃ v, e = .returned v ∧ Rows.slabFitsSpec.post enc Tryd.prog Tryd.f6 false true false false W args v W' := by
  have hW' := hW
  obtain ⟨p, q, hA0, hV, rfl, hfz, hnd⟩ := hW
  have hA : DataW.TrodAll enc Tryd.prog W 0 (fun _ => true) true Tryd.f6.params.toList args.toList ds p := hA0
  rw [Tryd.params6] at hA hval
  obtain ⟨v0, vs0, d0, ds0, p0, q0, hargs, rfl, rfl, h0, r0⟩ := trodAll_cons hA
  obtain ⟨rfl, rfl, rfl⟩ := trodAll_nil r0
  obtain rfl : args = #[v0] := by cases args; simp_all
  obtain ⟨rfl, rfl⟩ := trodVars_none hV
  obtain ⟨a0, rfl, rfl, rfl, w0⟩ := open_int Tryd.underlying3 (hval 0 3 v0 rfl rfl) h0
  clear hA0
  simp only [List.append_nil] at hW'
  refine (walk W a0 w0 (table hL)).mono fun e W' ⟨he, bel⟩ => ?_
  subst he
  exact ⟨_, rfl, _, _, _, [], _, [], hW', trodAll_mk1 (shut_bool Tryd.underlying4 _), (trodAll_cons_mk (shut_int Tryd.underlying3 w0) trodAll_mk0), rfl, bel.frame _, fun h => by cases h⟩

/-- The witness: what the initialisers leave is met. -/
theorem laid_met (os : Os) : laidMet Tryd.prog Rows.slabFitsRow.laid ((World.doorLaid Tryd.prog 14 os).forCall (fun _ _ => 0) ⟨#[], #[.int .i64 0], []⟩).memory :=
  laidMet_of_run' 8 (by kernel_rfl) (by kernel_rfl)
theorem reads (os : Os) {H : Type} (enc : TypeId × Value → H) : ∃ places, DataW.whole enc Tryd.prog ((World.doorLaid Tryd.prog 14 os).forCall (fun _ _ => 0) ⟨#[], #[.int .i64 0], []⟩).memory Tryd.f6.params.toList Rows.slabFitsSpec.vars false (#[.int .i64 0] : Array Value).toList 8 = some ([.lit (.int .i64 0)], [], places) :=
  ⟨[], by kernel_rfl⟩

set_option maxRecDepth 100000 in
theorem lifted (os : Os) (started : os.Started) (H : Type) (enc : TypeId × Value → H) (F : Stop.Interp) :
    ReturnsInHanded {} Tryd.checked os 6 .any ((OpenSpec.ofChange Rows.slabFitsSpec).preRow enc Tryd.prog Tryd.f6 Rows.slabFitsRow.domain false Rows.slabFitsRow.laid) (((OpenSpec.ofChange Rows.slabFitsSpec).at F).post enc Tryd.prog Tryd.f6 false true false false) := by
  obtain ⟨places, hx⟩ := reads os enc
  refine returnsInHanded_of_row (C := Tryd.checked) (s := OpenSpec.ofChange Rows.slabFitsSpec) own started (by kernel_rfl) Tryd.func6
    (witness_row_at (enc := enc) (C := Tryd.checked) false (World.doorLaid Tryd.prog 14 os) #[.int .i64 0] rfl (by kernel_rfl) (by kernel_rfl) (by kernel_rfl)
      (OpenSpec.preRow_of_cond 8 hx (by kernel_rfl) (fun k hk => by cases hk) (by kernel_rfl) (laid_met os))) ?_
  intro W base args ds gs before hval hW _ _ _ hL _ _
  exact contract H enc W base args ds gs before hval hW hL

theorem said : Rows.SlabFitsSaid :=
  OpenClaim.holds_of_cond 6 Tryd.f6 rfl rfl rfl rfl rfl rfl rfl ⟨rfl, rfl, rfl, rfl, rfl⟩ rfl rfl rfl rfl rfl (by kernel_rfl) Tryd.func6 (by kernel_rfl)
    (of_decide_eq_true (by kernel_rfl)) (by unfold Func.isWrapper; first | (rw [if_pos (by decide +kernel)]; kernel_rfl) | (rw [if_neg (by decide +kernel)]; exact ⟨rfl, rfl⟩))
    (fun os started H enc _ F => by rw [OpenClaim.pre_eq_preRow]; exact lifted os started H enc F)

theorem plain (f : FuncId) (fn : Func) (hf : Tryd.pinned.checked.prog.funcNamed Rows.slabFitsRow.func = some f) (hfn : Tryd.pinned.checked.prog.funcs[f]? = some fn) :
    false = Tryd.pinned.checked.prog.looks [] ∧ ∀ (j : Nat) t, fn.params[j]? = some t → Tryd.pinned.checked.prog.wantsStandIn t = false := by
  obtain rfl : f = 6 := Option.some.inj ((show Tryd.prog.funcNamed Rows.slabFitsRow.func = some 6 by kernel_rfl).symm.trans hf) |>.symm
  obtain rfl : fn = Tryd.f6 := (Option.some.inj (Tryd.func6.symm.trans hfn)).symm
  refine ⟨by kernel_rfl, fun j t ht => ?_⟩
  rw [Tryd.params6] at ht
  have hm : t ∈ [3] := by simpa using Array.mem_of_getElem? ht
  have hall : ([3].all fun u => !Tryd.prog.wantsStandIn u) = true := by kernel_rfl
  exact (show Tryd.prog.wantsStandIn t = false by simpa using List.all_eq_true.1 hall t hm)

theorem card : Rows.SlabFitsCardSaid :=
  Claim7.holds_tied_plain_at .later [] _ _ _ _ said (fun _ h => by cases h) (by kernel_rfl) (fun _ h => by cases h) slabFits_row_tie rfl ⟨rfl, rfl⟩ (by kernel_rfl) rfl plain (by kernel_rfl)
end Go.Proofs.YteeanaoglcpaaaaDoor.slabFits
namespace Go.Proofs.YteeanaoglcpaaaaDoor
theorem slabFits_holds : Rows.SlabFitsCardSaid := slabFits.card
#print axioms slabFits_holds
end Go.Proofs.YteeanaoglcpaaaaDoor
