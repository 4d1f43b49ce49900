/-
  A page whose chunks are all free is handed on to another class: proof of the law 'SlabMoves'. No conditions.
-/
import Derived.Test.YteeanaoglcpaaaaDoorCards
import Derived.Test.YteeanaoglcpaaaaDoorTie
import Derived.WalkKit
import Derived.ProofKit
import Derived.OpenShut
import Derived.ShutString
import Derived.ChangeOld
import Derived.Deep.DeepHandedRow
import Derived.Lib.LaidTab
import Derived.Stop.LaidErr
import Derived.LaidMore
import Derived.Test.YteeanaoglcpaaaaDoorInts
import Derived.Test.YteeanaoglcpaaaaDoorSt
namespace Go.Proofs.YteeanaoglcpaaaaDoor.slabMoves
open Go.ChangeShapes Go.WideShapes Go.ChangeAt Go.RowKit Go.Deep Go.Shelf Math
set_option linter.unusedVariables false
set_option linter.unusedSimpArgs false

theorem wf_i64 {z : Int} (h : (Lit.int .i64 z).wf = true) : -9223372036854775808 ≤ z ∧ z ≤ 9223372036854775807 := by
  have h1 : IntKind.i64.min = -9223372036854775808 := rfl
  have h2 : IntKind.i64.max = 9223372036854775807 := rfl
  simp [Lit.wf, h1, h2] at h
  exact h
/-- The numbers of the first m chunks. -/
def nums (c m : Nat) : List Int := (List.range m).map fun i => (num c i : Int)
theorem nums_len (c m : Nat) : (nums c m).length = m := by simp [nums]
theorem nums_succ (c m : Nat) : nums c m ++ [(num c m : Int)] = nums c (m + 1) := by simp [nums, List.range_succ]
theorem nums_get {c m i : Nat} (h : i < m) : (nums c m)[i]? = some (num c i : Int) := by simp [nums, h]
theorem num_lt {c i n : Nat} (hc : c < 6) (h : i < n * many c) : num c i < 64 * n := by
  obtain ⟨d1, d2⟩ := num_div (i := i) hc
  have : i / many c < n := Nat.div_lt_of_lt_mul (by rw [Nat.mul_comm]; exact h)
  have h3 : num c i % 64 < 64 := Nat.mod_lt _ (by decide)
  omega
theorem quo_many (c : Nat) (hc : c < 6) : (4096 : Int) / ((64 * 2 ^ c : Nat) : Int) = (many c : Int) ∧ 1 ≤ 64 * 2 ^ c ∧ 64 * 2 ^ c ≤ 2048 := by
  rcases (show c = 0 ∨ c = 1 ∨ c = 2 ∨ c = 3 ∨ c = 4 ∨ c = 5 by omega) with rfl | rfl | rfl | rfl | rfl | rfl <;> decide
set_option maxHeartbeats 4000000 in
set_option maxRecDepth 8000 in
/-- The walk: the Go text returns true, and writes nothing that was there. -/
theorem walk (w : World) (a0 : Int) (w0 : (Lit.int .i64 a0).wf = true) (a1 : Int) (w1 : (Lit.int .i64 a1).wf = true) (a2 : Int) (w2 : (Lit.int .i64 a2).wf = true) (htab : Tab w) :
    Calls Tryd.prog 8 #[.int .i64 a0, .int .i64 a1, .int .i64 a2] w fun e w' => e = .returned (.bool true) ∧ Below w.heap.size w w' := by
  have ca := hide (awake_any w htab)
  by_cases x0 : a0 < 1
  · clear w0 w1 w2
    go_enter Tryd.func8, Tryd.ntmps8
    go_wp2_with fail
    refine ca.out.mono ?_
    rintro e w1 ⟨rfl, h1⟩
    have B1 := hide h1
    clear h1 ca
    go_wp2
    go_ret
    exact ⟨rfl, B1.out⟩
  by_cases x1 : 12 < a0
  · clear w0 w1 w2
    go_enter Tryd.func8, Tryd.ntmps8
    go_wp2_with fail
    refine ca.out.mono ?_
    rintro e w1 ⟨rfl, h1⟩
    have B1 := hide h1
    clear h1 ca
    go_wp2
    go_ret
    exact ⟨rfl, B1.out⟩
  by_cases x2 : a1 < 0
  · clear w0 w1 w2
    go_enter Tryd.func8, Tryd.ntmps8
    go_wp2_with fail
    refine ca.out.mono ?_
    rintro e w1 ⟨rfl, h1⟩
    have B1 := hide h1
    clear h1 ca
    go_wp2
    go_ret
    exact ⟨rfl, B1.out⟩
  by_cases x3 : 5 < a1
  · clear w0 w1 w2
    go_enter Tryd.func8, Tryd.ntmps8
    go_wp2_with fail
    refine ca.out.mono ?_
    rintro e w1 ⟨rfl, h1⟩
    have B1 := hide h1
    clear h1 ca
    go_wp2
    go_ret
    exact ⟨rfl, B1.out⟩
  by_cases x4 : a2 < 0
  · clear w0 w1 w2
    go_enter Tryd.func8, Tryd.ntmps8
    go_wp2_with fail
    refine ca.out.mono ?_
    rintro e w1 ⟨rfl, h1⟩
    have B1 := hide h1
    clear h1 ca
    go_wp2
    go_ret
    exact ⟨rfl, B1.out⟩
  by_cases x5 : 5 < a2
  · clear w0 w1 w2
    go_enter Tryd.func8, Tryd.ntmps8
    go_wp2_with fail
    refine ca.out.mono ?_
    rintro e w1 ⟨rfl, h1⟩
    have B1 := hide h1
    clear h1 ca
    go_wp2
    go_ret
    exact ⟨rfl, B1.out⟩
  by_cases x6 : a1 = a2
  · clear w0 w1 w2
    subst x6
    go_enter Tryd.func8, Tryd.ntmps8
    go_wp2_with fail
    refine ca.out.mono ?_
    rintro e w1 ⟨rfl, h1⟩
    have B1 := hide h1
    clear h1 ca
    go_wp2
    go_ret
    exact ⟨rfl, B1.out⟩
  obtain ⟨n, rfl⟩ : ∃ n : Nat, a0 = (n : Int) := ⟨a0.toNat, by omega⟩
  obtain ⟨a, rfl⟩ : ∃ n : Nat, a1 = (n : Int) := ⟨a1.toNat, by omega⟩
  obtain ⟨b, rfl⟩ : ∃ n : Nat, a2 = (n : Int) := ⟨a2.toNat, by omega⟩
  have ha : a < 6 := by omega
  have hb : b < 6 := by omega
  have hab : a ≠ b := by omega
  have x7 : ((a : Int) == (b : Int)) = false := by simp; omega
  have ma := many_le a
  have mb := many_le b
  have h1n : 1 ≤ n := by omega
  have hn12 : n ≤ 12 := by omega
  obtain ⟨P, hP⟩ : ∃ P, P = n * many a := ⟨_, rfl⟩
  obtain ⟨R, hR⟩ : ∃ R, R = n * many b := ⟨_, rfl⟩
  have hP9 : P ≤ 768 := by rw [hP]; exact Nat.le_trans (Nat.mul_le_mul hn12 ma) (by decide)
  have hR9 : R ≤ 768 := by rw [hR]; exact Nat.le_trans (Nat.mul_le_mul hn12 mb) (by decide)
  have HP := hide hP
  have HR := hide hR
  have HA := hide ha
  have HB := hide hb
  have HAB := hide hab
  have T := hide htab
  have zok : Hid (Zok ⟨(a : Int), 0⟩ b) := ⟨rfl, by show (a : Int) ≠ _; omega, by show (-1 : Int) ≤ (a : Int); omega⟩
  obtain ⟨qm, q1, q2⟩ := quo_many b hb
  have ck : Hid (∀ W, Calls Tryd.prog 14 #[.int .i64 (b : Int)] W fun e w' => e = .returned (.int .i64 ((64 * 2 ^ b : Nat) : Int)) ∧ w' = W) := fun W => chunk_ok b hb W
  obtain ⟨M, hM⟩ : ∃ M, M = 64 * 2 ^ b := ⟨_, rfl⟩
  rw [← hM] at ck qm q1 q2
  obtain ⟨m6, hm6⟩ : ∃ m, m = many b := ⟨_, rfl⟩
  rw [← hm6] at qm
  have hm64 : m6 ≤ 64 := by rw [hm6]; exact mb
  have hmul : (n : Int) * (m6 : Int) = (R : Int) := by rw [hR, hm6]; simp
  clear w0 w1 w2 htab hP hR ma mb hab x6 hM hm6
  go_enter Tryd.func8, Tryd.ntmps8
  go_wp2_with fail
  refine ca.out.mono ?_
  rintro e w1 ⟨rfl, h1⟩
  have cN := hide (new_l h1 T.out n h1n (by omega))
  clear h1 ca
  go_wp2_with fail
  refine cN.out.mono ?_
  rintro e w2 ⟨f, s, rfl, h2, _, _, _⟩
  have S2 := hide h2
  clear h2 cN
  go_wp2_with fail
  go_loopg [9] (P + 1) (fun kx s9 wr => ∃ (m : Nat) (va : Option Addr) (vc : Nat), s9 = .slice va m vc ∧ m ≤ P ∧ P - m ≤ kx ∧ Hid (Sl w f s (St blank a n m) wr ∧ NR w (.slice va m vc) (nums a m) wr))
  case atStart => exact ⟨0, none, 0, rfl, Nat.zero_le _, by omega, by rw [St_zero]; exact S2.out, NR.nil _ _⟩
  case round =>
    obtain ⟨m, va, vc, rfl, hmP, hkx, I⟩ := hrel
    obtain ⟨iS, iR⟩ := I.out
    have IS := hide iS
    have IR := hide iR
    clear I iS iR
    by_cases hfull : m < P
    · have hst := St_take (z := blank) (n := n) (m := m) (blank_ok a) HA.out (by rw [← HP.out]; exact hfull)
      have ct : Hid (Calls Tryd.prog 11 #[.pointer (some ⟨f, 0, none⟩), .int .i64 (a : Int)] wr fun e W' => e = .returned (.tuple #[.int .i64 (num a m : Int), .int .i64 0]) ∧ Sl w f s (St blank a n (m + 1)) W' ∧ NR w (.slice va m vc) (nums a m) W') := by
        refine (take_at IS.out a HA.out hst.1 hst.2.1 hst.2.2).mono ?_
        rintro e W ⟨rfl, h, k⟩
        exact ⟨rfl, h, IR.out.keep IS.out.inn k⟩
      clear hst
      obtain ⟨x, hx⟩ : ∃ x : Int, x = (num a m : Int) := ⟨_, rfl⟩
      rw [← hx] at ct
      have HX := hide hx
      clear hx
      go_wp2_with fail
      refine ct.out.mono ?_
      rintro e w3 ⟨rfl, h3, r3⟩
      obtain ⟨ua, uc, w4, hrun, hnr, hk4⟩ := app_int r3 h3.bel.size x (by rw [nums_len]; omega)
      rw [nums_len] at hrun hnr
      have S4 := hide (h3.off r3 hk4)
      have HRN := hide hrun
      have R4 := hide hnr
      clear h3 r3 ct hrun hnr hk4
      go_wp2_with (at_builtin; refine Lib.wpList_append_run _ rfl _ _ _ _ rfl _ _ rfl rfl _ _ (HRN.out _) ?_)
      go_roundg (P - (m + 1))
      case measure => omega
      case rel => exact ⟨m + 1, ua, uc, rfl, by omega, by omega, S4.out, by rw [← nums_succ, ← HX.out]; exact R4.out⟩
    · obtain rfl : m = P := by omega
      have hst : ∀ q : Nat, q < 6 → _ := fun q hq => St_full (z := blank) (n := n) HA.out (b := q) hq
      rw [← HP.out] at hst
      have ct : Hid (∀ q : Nat, q < 6 → ∀ W, Sl w f s (St blank a n m) W → NR w (.slice va m vc) (nums a m) W → Calls Tryd.prog 11 #[.pointer (some ⟨f, 0, none⟩), .int .i64 (q : Int)] W fun e W' => e = .returned (.tuple #[.int .i64 0, .int .i64 7]) ∧ Sl w f s (St blank a n m) W' ∧ NR w (.slice va m vc) (nums a m) W') := fun q hq W hS hRw => by
        refine (take_at hS q hq (k := 0) (hst q hq).1 (hst q hq).2.1 (hst q hq).2.2).mono ?_
        rintro e W ⟨rfl, h, k⟩
        exact ⟨rfl, h, hRw.keep hS.inn k⟩
      have c1 := hide (ct.out a HA.out wr IS.out IR.out)
      clear hst hfull
      go_wp2_with fail
      refine c1.out.mono ?_
      rintro e w3 ⟨rfl, h3, r3⟩
      have c2 := hide (ct.out b HB.out w3 h3 r3)
      clear h3 r3 c1 ct
      go_wp2_with fail
      refine c2.out.mono ?_
      rintro e w4 ⟨rfl, h4, r4⟩
      have S4 : Hid (Sl w f s (Fs a n 0) w4) := by
        show Sl _ _ _ _ _
        rw [← Fs_start (z := blank) HA.out, ← HP.out]
        exact h4
      have R4 := hide r4
      clear h4 r4 c2 IS IR S2
      go_wp2_with fail
      go_loopg [14] m (fun kx s14 wr => ∃ i : Nat, s14 = .int .i64 i ∧ i ≤ m ∧ m - i ≤ kx ∧ Hid (Sl w f s (Fs a n i) wr ∧ NR w (.slice va m vc) (nums a m) wr))
      case atStart => exact ⟨0, rfl, Nat.zero_le _, by omega, S4.out, R4.out⟩
      case round =>
        obtain ⟨i, rfl, him, hkx2, J⟩ := hrel
        by_cases hlt : i < m
        · have hlt2 : (i : Int) < (m : Int) := by omega
          obtain ⟨g, cp, hv, hcell, hg, hcap⟩ := J.out.2.cell (nums_get hlt)
          rw [nums_len] at hv hcap
          simp only [Value.slice.injEq, true_and] at hv
          obtain ⟨rfl, rfl⟩ := hv
          have hstep := Fs_step (n := n) (i := i) HA.out (by rw [← HP.out]; exact hlt)
          have hk9 : num a i < 64 * n := num_lt HA.out (by rw [← HP.out]; omega)
          obtain ⟨k, hk⟩ : ∃ k, k = num a i := ⟨_, rfl⟩
          rw [← hk] at hcell hstep hk9
          have cf : Hid (Calls Tryd.prog 12 #[.pointer (some ⟨f, 0, none⟩), .int .i64 (k : Int)] wr fun e W' => e = .returned (.int .i64 0) ∧ Sl w f s (Fs a n (i + 1)) W' ∧ NR w (.slice (some ⟨g, 0, none⟩) m vc) (nums a m) W') := by
            refine (free_l J.out.1 (k : Int) (by omega)).mono ?_
            rintro e W ⟨rfl, h, kp⟩
            unfold frE frL at *
            rw [hstep.1] at h ⊢
            rw [Int.toNat_natCast] at h
            simp only [if_true] at h
            rw [hstep.2] at h
            exact ⟨rfl, h, J.out.2.keep J.out.1.inn kp⟩
          clear hstep hk
          go_wp2_with fail
          refine cf.out.mono ?_
          rintro e w5 ⟨rfl, h5, r5⟩
          have S5 := hide h5
          have R5 := hide r5
          clear h5 r5 cf hcell
          go_wp2
          go_roundg (m - (i + 1))
          case measure => omega
          case rel => exact ⟨i + 1, by go_num, by omega, by omega, S5.out, R5.out⟩
        · obtain rfl : i = m := by omega
          have hlt2 : ¬ (i : Int) < (i : Int) := by omega
          have S5 : Hid (Sl w f s (St ⟨(a : Int), 0⟩ b n 0) wr) := by
            show Sl _ _ _ _ _
            rw [St_zero, ← Fs_end, ← HP.out]
            exact J.out.1
          clear J S4 R4
          go_wp2_with fail
          go_loopg [15] (R + 1) (fun kx s15 wr => ∃ k : Nat, s15 = .int .i64 k ∧ k ≤ R ∧ R - k ≤ kx ∧ Hid (Sl w f s (St ⟨(a : Int), 0⟩ b n k) wr))
          case atStart => exact ⟨0, rfl, Nat.zero_le _, by omega, S5.out⟩
          case round =>
            obtain ⟨k, rfl, hkR, hkx3, J⟩ := hrel
            by_cases hl3 : k < R
            · have hst := St_take (n := n) (m := k) zok.out HB.out (by rw [← HR.out]; exact hl3)
              have ct : Hid (Calls Tryd.prog 11 #[.pointer (some ⟨f, 0, none⟩), .int .i64 (b : Int)] wr fun e W' => ∃ x : Int, e = .returned (.tuple #[.int .i64 x, .int .i64 0]) ∧ Sl w f s (St ⟨(a : Int), 0⟩ b n (k + 1)) W') := by
                refine (take_at J.out b HB.out hst.1 hst.2.1 hst.2.2).mono ?_
                rintro e W ⟨rfl, h, _⟩
                exact ⟨_, rfl, h⟩
              clear hst
              go_wp2_with fail
              refine ct.out.mono ?_
              rintro e w6 ⟨x, rfl, h6⟩
              have S6 := hide h6
              clear h6 ct
              go_wp2
              go_roundg (R - (k + 1))
              case measure => omega
              case rel => exact ⟨k + 1, by go_num, by omega, by omega, S6.out⟩
            · obtain rfl : k = R := by omega
              have hst := St_full (z := ⟨(a : Int), 0⟩) (n := n) HB.out (b := b) HB.out
              rw [← HR.out] at hst
              have ct : Hid (Calls Tryd.prog 11 #[.pointer (some ⟨f, 0, none⟩), .int .i64 (b : Int)] wr fun e W' => e = .returned (.tuple #[.int .i64 0, .int .i64 7]) ∧ Sl w f s (St ⟨(a : Int), 0⟩ b n k) W') := by
                refine (take_at J.out b HB.out (k := 0) hst.1 hst.2.1 hst.2.2).mono ?_
                rintro e W ⟨rfl, h, _⟩
                exact ⟨rfl, h⟩
              obtain ⟨o1, o2⟩ := ownd_St (z := ⟨(a : Int), 0⟩) (n := n) HB.out
              rw [← HR.out] at o1 o2
              have cp1 : Hid (∀ W, Sl w f s (St ⟨(a : Int), 0⟩ b n k) W → Calls Tryd.prog 22 #[.pointer (some ⟨f, 0, none⟩), .int .i64 (a : Int)] W fun e W' => e = .returned (.int .i64 0) ∧ Sl w f s (St ⟨(a : Int), 0⟩ b n k) W') := fun W hS => by
                refine (pages_l hS (a : Int) (by have := HA.out; omega)).mono ?_
                rintro e W ⟨rfl, h, _⟩
                exact ⟨by rw [o2 (a : Int) (by have := HAB.out; omega)]; rfl, h⟩
              have cp2 : Hid (∀ W, Sl w f s (St ⟨(a : Int), 0⟩ b n k) W → Calls Tryd.prog 22 #[.pointer (some ⟨f, 0, none⟩), .int .i64 (b : Int)] W fun e W' => e = .returned (.int .i64 (n : Int)) ∧ Below w.heap.size w W') := fun W hS => by
                refine (pages_l hS (b : Int) (by have := HB.out; omega)).mono ?_
                rintro e W ⟨rfl, h, _⟩
                exact ⟨by rw [o1], h.bel⟩
              clear hst o1 o2
              go_wp2_with fail
              refine ct.out.mono ?_
              rintro e w6 ⟨rfl, h6⟩
              have cq := hide (cp1.out w6 h6)
              clear h6 ct cp1
              go_wp2_with fail
              refine (ck.out _).mono ?_
              rintro e wx ⟨rfl, hx⟩
              obtain rfl : w6 = wx := hx.symm
              clear hx ck
              go_wp2_with fail
              refine cq.out.mono ?_
              rintro e w7 ⟨rfl, h7⟩
              have cq2 := hide (cp2.out w7 h7)
              clear h7 cq cp2
              go_wp2_with fail
              refine cq2.out.mono ?_
              rintro e w8 ⟨rfl, h8⟩
              have B8 := hide h8
              clear h8 cq2
              go_wp2
              go_ret
              exact ⟨rfl, B8.out⟩

theorem own : ownKnob Tryd.prog.godebug = none := by kernel_rfl
/-- What the row lists: the table of trailing zeros. -/
theorem table {W : World} (h : laidMetH Tryd.prog Rows.slabMovesRow.laid W) : Tab W :=
  Tab.of (Lib.tabIs_of_head (rest := []) (g := 0) (t := 58) (e := 5) (n := 64) (by kernel_rfl) (by kernel_rfl) (by kernel_rfl) (by kernel_rfl) (by kernel_rfl) (by kernel_rfl) (show laidMet Tryd.prog Rows.slabMovesRow.laid W from h))
/-- What the walk gives, for every argument and every world that holds the table. -/
theorem contract (H : Type) (enc : TypeId × Value → H) (W : World) (base : Nat) (args : Array Value) (ds gs : List (DataW H)) (before : List MemPlace)
    (hval : ∀ (j : Nat) t v, Tryd.f8.params[j]? = some t → args[j]? = some v → Value.okWide Tryd.prog W .any base t v)
    (hW : DataW.Whole enc Tryd.prog Tryd.f8.params.toList Rows.slabMovesSpec.vars false W args.toList ds gs before) (hL : laidMetH Tryd.prog Rows.slabMovesRow.laid W) :
    Calls Tryd.prog 8 args W fun e W' => ∃ v, e = .returned v ∧ Rows.slabMovesSpec.post enc Tryd.prog Tryd.f8 false true false false W args v W' := by
  have hW' := hW
  obtain ⟨p, q, hA0, hV, rfl, hfz, hnd⟩ := hW
  have hA : DataW.TrodAll enc Tryd.prog W 0 (fun _ => true) true Tryd.f8.params.toList args.toList ds p := hA0
  rw [Tryd.params8] at hA hval
  obtain ⟨v0, vs0, d0, ds0, p0, q0, hargs, rfl, rfl, h0, r0⟩ := trodAll_cons hA
  obtain ⟨v1, vs1, d1, ds1, p1, q1, rfl, rfl, rfl, h1, r1⟩ := trodAll_cons r0
  obtain ⟨v2, vs2, d2, ds2, p2, q2, rfl, rfl, rfl, h2, r2⟩ := trodAll_cons r1
  obtain ⟨rfl, rfl, rfl⟩ := trodAll_nil r2
  obtain rfl : args = #[v0, v1, v2] := by cases args; simp_all
  obtain ⟨rfl, rfl⟩ := trodVars_none hV
  obtain ⟨a0, rfl, rfl, rfl, w0⟩ := open_int Tryd.underlying3 (hval 0 3 v0 rfl rfl) h0
  obtain ⟨a1, rfl, rfl, rfl, w1⟩ := open_int Tryd.underlying3 (hval 1 3 v1 rfl rfl) h1
  obtain ⟨a2, rfl, rfl, rfl, w2⟩ := open_int Tryd.underlying3 (hval 2 3 v2 rfl rfl) h2
  clear hA0
  simp only [List.append_nil] at hW'
  refine (walk W a0 w0 a1 w1 a2 w2 (table hL)).mono fun e W' ⟨he, bel⟩ => ?_
  subst he
  exact ⟨_, rfl, _, _, _, [], _, [], hW', trodAll_mk1 (shut_bool Tryd.underlying4 _), (trodAll_cons_mk (shut_int Tryd.underlying3 w0) (trodAll_cons_mk (shut_int Tryd.underlying3 w1) (trodAll_cons_mk (shut_int Tryd.underlying3 w2) trodAll_mk0))), rfl, bel.frame _, fun h => by cases h⟩

/-- The witness: what the initialisers leave is met. -/
theorem laid_met (os : Os) : laidMet Tryd.prog Rows.slabMovesRow.laid ((World.doorLaid Tryd.prog 14 os).forCall (fun _ _ => 0) ⟨#[], #[.int .i64 0, .int .i64 0, .int .i64 0], []⟩).memory :=
  laidMet_of_run' 8 (by kernel_rfl) (by kernel_rfl)
theorem reads (os : Os) {H : Type} (enc : TypeId × Value → H) : ∃ places, DataW.whole enc Tryd.prog ((World.doorLaid Tryd.prog 14 os).forCall (fun _ _ => 0) ⟨#[], #[.int .i64 0, .int .i64 0, .int .i64 0], []⟩).memory Tryd.f8.params.toList Rows.slabMovesSpec.vars false (#[.int .i64 0, .int .i64 0, .int .i64 0] : Array Value).toList 8 = some ([.lit (.int .i64 0), .lit (.int .i64 0), .lit (.int .i64 0)], [], places) :=
  ⟨[], by kernel_rfl⟩

set_option maxRecDepth 100000 in
theorem lifted (os : Os) (started : os.Started) (H : Type) (enc : TypeId × Value → H) (F : Stop.Interp) :
    ReturnsInHanded {} Tryd.checked os 8 .any ((OpenSpec.ofChange Rows.slabMovesSpec).preRow enc Tryd.prog Tryd.f8 Rows.slabMovesRow.domain false Rows.slabMovesRow.laid) (((OpenSpec.ofChange Rows.slabMovesSpec).at F).post enc Tryd.prog Tryd.f8 false true false false) := by
  obtain ⟨places, hx⟩ := reads os enc
  refine returnsInHanded_of_row (C := Tryd.checked) (s := OpenSpec.ofChange Rows.slabMovesSpec) own started (by kernel_rfl) Tryd.func8
    (witness_row_at (enc := enc) (C := Tryd.checked) false (World.doorLaid Tryd.prog 14 os) #[.int .i64 0, .int .i64 0, .int .i64 0] rfl (by kernel_rfl) (by kernel_rfl) (by kernel_rfl)
      (OpenSpec.preRow_of_cond 8 hx (by kernel_rfl) (fun k hk => by cases hk) (by kernel_rfl) (laid_met os))) ?_
  intro W base args ds gs before hval hW _ _ _ hL _ _
  exact contract H enc W base args ds gs before hval hW hL

theorem said : Rows.SlabMovesSaid :=
  OpenClaim.holds_of_cond 8 Tryd.f8 rfl rfl rfl rfl rfl rfl rfl ⟨rfl, rfl, rfl, rfl, rfl⟩ rfl rfl rfl rfl rfl (by kernel_rfl) Tryd.func8 (by kernel_rfl)
    (of_decide_eq_true (by kernel_rfl)) (by unfold Func.isWrapper; first | (rw [if_pos (by decide +kernel)]; kernel_rfl) | (rw [if_neg (by decide +kernel)]; exact ⟨rfl, rfl⟩))
    (fun os started H enc _ F => by rw [OpenClaim.pre_eq_preRow]; exact lifted os started H enc F)

theorem plain (f : FuncId) (fn : Func) (hf : Tryd.pinned.checked.prog.funcNamed Rows.slabMovesRow.func = some f) (hfn : Tryd.pinned.checked.prog.funcs[f]? = some fn) :
    false = Tryd.pinned.checked.prog.looks [] ∧ ∀ (j : Nat) t, fn.params[j]? = some t → Tryd.pinned.checked.prog.wantsStandIn t = false := by
  obtain rfl : f = 8 := Option.some.inj ((show Tryd.prog.funcNamed Rows.slabMovesRow.func = some 8 by kernel_rfl).symm.trans hf) |>.symm
  obtain rfl : fn = Tryd.f8 := (Option.some.inj (Tryd.func8.symm.trans hfn)).symm
  refine ⟨by kernel_rfl, fun j t ht => ?_⟩
  rw [Tryd.params8] at ht
  have hm : t ∈ [3, 3, 3] := by simpa using Array.mem_of_getElem? ht
  have hall : ([3, 3, 3].all fun u => !Tryd.prog.wantsStandIn u) = true := by kernel_rfl
  exact (show Tryd.prog.wantsStandIn t = false by simpa using List.all_eq_true.1 hall t hm)

theorem card : Rows.SlabMovesCardSaid :=
  Claim7.holds_tied_plain_at .later [] _ _ _ _ said (fun _ h => by cases h) (by kernel_rfl) (fun _ h => by cases h) slabMoves_row_tie rfl ⟨rfl, rfl⟩ (by kernel_rfl) rfl plain (by kernel_rfl)
end Go.Proofs.YteeanaoglcpaaaaDoor.slabMoves
namespace Go.Proofs.YteeanaoglcpaaaaDoor
theorem slabMoves_holds : Rows.SlabMovesCardSaid := slabMoves.card
#print axioms slabMoves_holds
end Go.Proofs.YteeanaoglcpaaaaDoor
