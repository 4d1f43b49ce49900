/-
  The power goes at just the call that was named: for every three numbers the call returns true; no condition.
-/
import Derived.Test.YthnfdgjikbjgoaaRows
import Derived.WalkKit
import Derived.ProofKit
import Derived.OpenShut
import Derived.ChangeOld
import Derived.Below
import Derived.Test.YthnfdgjikbjgoaaAwake
namespace Go.Proofs.Ythnfdgjikbjgoaa.flashArms
open Go.ChangeShapes Go.WideShapes Go.ChangeAt Go.RowKit
set_option linter.unusedVariables false      -- a walk need not use every 'w<i>' (that an integer argument fits its kind)

theorem own : ownKnob Try.prog.godebug = none := by kernel_rfl

/-! The walk: the Go text returns true, and writes nothing that was there. -/
/-- What is known of the device behind k writes. -/
structure Inv (S : Dv) (p n k : Nat) : Prop where
  len : S.cs.length = p
  ahead : k < n → S.off = false ∧ S.armed = n - k ∧ S.losses = 0
  past : n ≤ k → S.off = true ∧ S.losses = 1

theorem inv_err {S : Dv} {p n k : Nat} (h : Inv S p n k) (hn : 1 ≤ n) (at0 : Int) (h0 : 0 ≤ at0) (h1 : at0 < (p : Int)) (b : ByteArray) (hb : b.size ≤ 384) : S.writeErr at0 b = if k + 1 < n then 0 else 4 := by
  have hh : S.has at0 = true := by simp [Dv.has, h.len, h0, h1]
  unfold Dv.writeErr Dv.putErr
  rw [if_neg (by omega), if_neg (by simp [hh])]
  by_cases hk : k < n
  · obtain ⟨ho, ha, _⟩ := h.ahead hk
    have hg : S.gone = decide (n - k = 1) := by simp [Dv.gone, ho, ha]
    rw [hg]
    by_cases h2 : k + 1 < n
    · rw [if_neg (by simp; omega), if_pos h2]
    · rw [if_pos (by simp; omega), if_neg h2]
  · obtain ⟨ho, _⟩ := h.past (by omega)
    have hg : S.gone = true := by simp [Dv.gone, ho]
    rw [if_pos hg, if_neg (by omega)]

theorem inv_step {S : Dv} {p n k : Nat} (h : Inv S p n k) (at0 : Int) (h0 : 0 ≤ at0) (h1 : at0 < (p : Int)) (b : ByteArray) (hb : b.size ≤ 384) : Inv (S.writeDo at0 b) p n (k + 1) := by
  have hh : S.has at0 = true := by simp [Dv.has, h.len, h0, h1]
  unfold Dv.writeDo Dv.putDo
  rw [if_neg (by omega), if_neg (by simp [hh])]
  by_cases hk : k < n
  · obtain ⟨ho, ha, hl⟩ := h.ahead hk
    have hg : S.gone = decide (n - k = 1) := by simp [Dv.gone, ho, ha]
    by_cases h2 : n - k = 1
    · have hu : S.used = { S with armed := 0, off := true, losses := wrap64 (S.losses + 1) } := by
        unfold Dv.used
        rw [if_neg (by simp [ho]; omega), if_pos (by omega)]
      rw [if_pos (by simp [hg, h2]), hu]
      refine ⟨h.len, fun h3 => by omega, fun _ => ⟨rfl, ?_⟩⟩
      show wrap64 (S.losses + 1) = 1
      rw [hl]; unfold wrap64; omega
    · have hu : S.used = { S with armed := S.armed - 1 } := by
        unfold Dv.used
        rw [if_neg (by simp [ho]; omega), if_neg (by omega)]
      rw [if_neg (by simp [hg, h2]), hu]
      refine ⟨by show (putAt _ _ _).length = _; rw [putAt_length]; exact h.len, fun h3 => ⟨ho, ?_, hl⟩, fun h3 => by omega⟩
      show S.armed - 1 = _
      omega
  · obtain ⟨ho, hl⟩ := h.past (by omega)
    have hg : S.gone = true := by simp [Dv.gone, ho]
    have hu : S.used = S := by unfold Dv.used; rw [if_pos (.inl ho)]
    rw [if_pos hg, hu]
    exact ⟨h.len, fun h3 => by omega, fun _ => ⟨ho, hl⟩⟩

theorem inv_start (p n : Nat) (hn : 1 ≤ n) : Inv ((Dv.fresh p).arm (n : Int)) p n 0 :=
  ⟨by simp [Dv.arm, Dv.fresh], fun _ => ⟨rfl, by simp [Dv.arm], rfl⟩, fun h => by omega⟩

set_option maxHeartbeats 400000 in
theorem count_any (b : Bool) (w : World) : Calls Try.prog 28 #[.bool b] w fun e w' => e = .returned (.int .i64 (if b then 1 else 0)) ∧ w' = w := by
  cases b
  · go_enter Try.func28, Try.ntmps28
    go_wp2
    go_ret
    exact ⟨rfl, rfl⟩
  · go_enter Try.func28, Try.ntmps28
    go_wp2
    go_ret
    exact ⟨rfl, rfl⟩

set_option maxHeartbeats 2000000 in
theorem walk (a0 : Int) (a1 : Int) (a2 : Int) (w0 : (Lit.int .i64 a0).wf = true) (w1 : (Lit.int .i64 a1).wf = true) (w2 : (Lit.int .i64 a2).wf = true) (w : World) :
    Calls Try.prog 8 #[.int .i64 a0, .int .i64 a1, .int .i64 a2] w fun e w' => e = .returned (.bool true) ∧ Below w.heap.size w w' := by
  clear w0 w1 w2
  by_cases hall : 1 ≤ a0 ∧ a0 ≤ 20 ∧ 1 ≤ a1 ∧ a1 ≤ 40 ∧ 0 ≤ a2 ∧ a2 ≤ 60
  · obtain ⟨x1, x2, x3, x4, x5, x6⟩ := hall
    obtain ⟨p, rfl⟩ : ∃ p : Nat, a0 = (p : Int) := ⟨a0.toNat, by omega⟩
    obtain ⟨n, rfl⟩ : ∃ n : Nat, a1 = (n : Int) := ⟨a1.toNat, by omega⟩
    obtain ⟨many, rfl⟩ : ∃ m : Nat, a2 = (m : Int) := ⟨a2.toNat, by omega⟩
    have y1 : ¬ (p : Int) < 1 := by omega
    have y2 : ¬ (20 : Int) < (p : Int) := by omega
    have y3 : ¬ (n : Int) < 1 := by omega
    have y4 : ¬ (40 : Int) < (n : Int) := by omega
    have y5 : ¬ (many : Int) < 0 := by omega
    have y6 : ¬ (60 : Int) < (many : Int) := by omega
    go_enter Try.func8, Try.ntmps8
    go_wp2_with fail
    refine (awake_any _).mono ?_
    rintro e w0 ⟨rfl, b0⟩
    have B0 := hide b0
    clear b0
    go_wp2_with fail
    refine (new_at p (by omega) (by omega) _).mono ?_
    rintro e w1 ⟨d, F1, rfl, h1, f1, b1⟩
    have H1 := hide h1
    have s0 := B0.out.size
    have Q1 : Hid (Since w.heap.size w w1 F1) := ⟨B0.out.trans (b1.mono s0), Nat.le_trans s0 b1.size, fun k hk => Nat.le_trans s0 (f1 k hk)⟩
    clear h1 f1 b1 s0 B0
    go_wp2_with fail
    refine (arm_at d F1 _ _ H1.out (n : Int) (by omega)).mono ?_
    rintro e w2 ⟨rfl, h2, m2⟩
    have H2 := hide h2
    have Q2 := hide (Q1.out.keep m2)
    clear h2 m2
    go_wp2
    go_loopg [9] (many + 1) (fun kx s9 wr => ∃ i : Nat, s9 = .int .i64 i ∧ 1 ≤ i ∧ i ≤ many + 1 ∧ many + 1 - i ≤ kx ∧ Hid (∃ F S, DvAt wr d F S ∧ Inv S p n (i - 1) ∧ Since w.heap.size w wr F))
    case atStart => exact ⟨1, rfl, by omega, by omega, by omega, F1, _, H2.out, inv_start p n (by omega), Q2.out⟩
    case round =>
      obtain ⟨i, rfl, hi1, him, hg, I⟩ := hrel
      obtain ⟨F, S, hd, hinv, hs⟩ := I.out
      have HD := hide hd
      have HI := hide hinv
      have HS := hide hs
      clear I hd hinv hs
      by_cases hlt : i ≤ many
      · have z1 : (i : Int) ≤ (many : Int) := by omega
        have z2 : ¬ ((p : Int) = 0) := by omega
        go_wp2_with fail
        have hx0 : (i : Int) = ((UInt8.ofNat i).toNat : Int) := by
          have : (UInt8.ofNat i).toNat = i := by rw [UInt8.toNat_ofNat']; omega
          rw [this]
        have ha0 : (0 : Int) ≤ (i : Int) % (p : Int) := Int.emod_nonneg _ (by omega)
        have ha1 : (i : Int) % (p : Int) < (p : Int) := Int.emod_lt_of_pos _ (by omega)
        have hsz : (⟨[UInt8.ofNat i].toArray⟩ : ByteArray).size ≤ 384 := by show (1 : Nat) ≤ 384; decide
        have E := hide (inv_err HI.out (by omega) ((i : Int) % (p : Int)) ha0 ha1 ⟨[UInt8.ofNat i].toArray⟩ hsz)
        have N := hide (inv_step HI.out ((i : Int) % (p : Int)) ha0 ha1 ⟨[UInt8.ofNat i].toArray⟩ hsz)
        refine (write_at d F S ((i : Int) % (p : Int)) (some ⟨wr.heap.size, 0, none⟩) 1 1 wr.heap.size [UInt8.ofNat i] rfl _ (bs_one wr (UInt8.ofNat i) (i : Int) hx0) (fun h => by cases h) (fun _ => not_old HD.out) (HD.out.alloc _)).mono ?_
        rintro e w3 ⟨rfl, F3, h3, m3⟩
        rw [E.out]
        have H3 := hide h3
        have Q3 := hide ((HS.out.alloc _).moves m3)
        have e1 : i - 1 + 1 = i := by omega
        rw [e1] at N ⊢
        have NN := N
        clear h3 m3 hx0 ha0 ha1 hsz E N e1
        by_cases hin : i < n
        · rw [if_pos hin]
          have hin2 : (i : Int) < (n : Int) := by omega
          go_wp2
          go_roundg (many + 1 - (i + 1))
          case measure => omega
          case rel => exact ⟨i + 1, rfl, by omega, by omega, by omega, F3, _, H3.out, NN.out, Q3.out⟩
        · rw [if_neg hin]
          have hin2 : ¬ (i : Int) < (n : Int) := by omega
          go_wp2
          go_roundg (many + 1 - (i + 1))
          case measure => omega
          case rel => exact ⟨i + 1, rfl, by omega, by omega, by omega, F3, _, H3.out, NN.out, Q3.out⟩
      · have hie : i = many + 1 := by omega
        subst hie
        have z1 : ¬ (((many + 1 : Nat) : Int) ≤ (many : Int)) := by omega
        have c14 := hide (power_at d F S _ HD.out)
        have c15 := hide (losses_at d F S _ HD.out)
        rw [show many + 1 - 1 = many by omega] at HI
        by_cases hin : many < n
        · obtain ⟨ho, _, hl⟩ := HI.out.ahead hin
          rw [ho] at c14
          rw [hl] at c15
          have hin2 : (many : Int) < (n : Int) := by omega
          have hin3 : ¬ (n : Int) ≤ (many : Int) := by omega
          clear ho hl
          go_wp2_with (first | (go_at_call 14; refine c14.out.mono ?_; rintro e w' ⟨rfl, rfl⟩) | (go_at_call 15; refine c15.out.mono ?_; rintro e w' ⟨rfl, rfl⟩) | (go_at_call 28; refine (count_any _ _).mono ?_; rintro e w' ⟨rfl, rfl⟩))
          go_ret
          exact ⟨rfl, HS.out.1⟩
        · obtain ⟨ho, hl⟩ := HI.out.past (by omega)
          rw [ho] at c14
          rw [hl] at c15
          have hin2 : ¬ (many : Int) < (n : Int) := by omega
          have hin3 : (n : Int) ≤ (many : Int) := by omega
          clear ho hl
          go_wp2_with (first | (go_at_call 14; refine c14.out.mono ?_; rintro e w' ⟨rfl, rfl⟩) | (go_at_call 15; refine c15.out.mono ?_; rintro e w' ⟨rfl, rfl⟩) | (go_at_call 28; refine (count_any _ _).mono ?_; rintro e w' ⟨rfl, rfl⟩))
          go_ret
          exact ⟨rfl, HS.out.1⟩
  · have hc : a0 < 1 ∨ (¬ a0 < 1 ∧ 20 < a0) ∨ (¬ a0 < 1 ∧ ¬ 20 < a0 ∧ a1 < 1) ∨ (¬ a0 < 1 ∧ ¬ 20 < a0 ∧ ¬ a1 < 1 ∧ 40 < a1) ∨ (¬ a0 < 1 ∧ ¬ 20 < a0 ∧ ¬ a1 < 1 ∧ ¬ 40 < a1 ∧ a2 < 0) ∨ (¬ a0 < 1 ∧ ¬ 20 < a0 ∧ ¬ a1 < 1 ∧ ¬ 40 < a1 ∧ ¬ a2 < 0 ∧ 60 < a2) := by omega
    clear hall
    rcases hc with h1 | ⟨h1, h2⟩ | ⟨h1, h2, h3⟩ | ⟨h1, h2, h3, h4⟩ | ⟨h1, h2, h3, h4, h5⟩ | ⟨h1, h2, h3, h4, h5, h6⟩
    all_goals (
      go_enter Try.func8, Try.ntmps8
      go_wp2_with fail
      refine (awake_any _).mono ?_
      rintro e w0 ⟨rfl, b0⟩
      have B0 := hide b0
      clear b0
      go_wp2
      go_ret
      exact ⟨rfl, B0.out⟩)

/-! ### THE ROW's STEP: WRITTEN OUT: LEAVE IT -/
set_option maxRecDepth 100000 in
theorem lifted (os : Os) (started : os.Started) (H : Type) (enc : TypeId × Value → H) :
    ReturnsInHanded {} Try.checked os 8 .any (Rows.flashArmsSpec.pre6 enc Try.prog Try.f8 Rows.flashArmsRow.domain false) (Rows.flashArmsSpec.post enc Try.prog Try.f8 false true false false) := by
  refine returnsInHanded_of_change (C := Try.checked) own started (by kernel_rfl) Try.func8
    (ChangeSpec.witness6 (enc := enc) (C := Try.checked) false ⟨#[], #[.int .i64 0, .int .i64 0, .int .i64 0], []⟩ 8 (by kernel_rfl) (by kernel_rfl) (by kernel_rfl) (by kernel_rfl)) ?_
  intro W base args ds gs before hval0 hW hcnd _
  have hval : ∀ (j : Nat) t v, Try.f8.params[j]? = some t → args[j]? = some v → Value.okWide Try.prog W .any base t v := hval0
  have hW' := hW
  obtain ⟨p, q, hA0, hV, rfl, hfz, hnd⟩ := hW
  have hA : DataW.TrodAll enc Try.prog W 0 (fun _ => true) true Try.f8.params.toList args.toList ds p := hA0
  rw [Try.params8] at hA hval
  obtain ⟨v0, vs0, d0, ds0, p0, q0, hargs, rfl, rfl, h0, r0⟩ := trodAll_cons hA
  obtain ⟨v1, vs1, d1, ds1, p1, q1, rfl, rfl, rfl, h1, r1⟩ := trodAll_cons r0
  obtain ⟨v2, vs2, d2, ds2, p2, q2, rfl, rfl, rfl, h2, r2⟩ := trodAll_cons r1
  obtain ⟨rfl, rfl, rfl⟩ := trodAll_nil r2
  obtain rfl : args = #[v0, v1, v2] := by cases args; simp_all
  obtain ⟨rfl, rfl⟩ := trodVars_none hV
  obtain ⟨a0, rfl, rfl, rfl, w0⟩ := open_int Try.underlying3 (hval 0 3 v0 rfl rfl) h0
  obtain ⟨a1, rfl, rfl, rfl, w1⟩ := open_int Try.underlying3 (hval 1 3 v1 rfl rfl) h1
  obtain ⟨a2, rfl, rfl, rfl, w2⟩ := open_int Try.underlying3 (hval 2 3 v2 rfl rfl) h2
  clear hA0 hval0
  refine (walk a0 a1 a2 w0 w1 w2 W).mono fun e W' ⟨he, bel⟩ => ?_
  subst he
  exact ⟨_, rfl, _, _, _, [], _, [], hW', trodAll_mk1 (shut_bool Try.underlying4 _), (trodAll_cons_mk (shut_int Try.underlying3 w0) (trodAll_cons_mk (shut_int Try.underlying3 w1) (trodAll_cons_mk (shut_int Try.underlying3 w2) trodAll_mk0))), rfl, bel.frame _, fun h => by cases h⟩

theorem over : Rows.flashArmsRow.holds Try.pinned (OpenSpec.ofChange Rows.flashArmsSpec) :=
  OpenClaim.holds_of_wide 8 Try.f8 rfl rfl rfl rfl rfl rfl rfl ⟨rfl, rfl, rfl, rfl, rfl⟩ rfl rfl rfl rfl rfl (by kernel_rfl) Try.func8 (by kernel_rfl)
    (of_decide_eq_true (by kernel_rfl)) (by unfold Func.isWrapper; first | (rw [if_pos (by decide +kernel)]; kernel_rfl) | (rw [if_neg (by decide +kernel)]; exact ⟨rfl, rfl⟩))
    (fun os started H enc _ => lifted os started H enc)

/-- ████ THE STATEMENT ████ -/
theorem proved : Rows.FlashArmsSaid :=
  over
end Go.Proofs.Ythnfdgjikbjgoaa.flashArms
namespace Go.Proofs.Ythnfdgjikbjgoaa
theorem flashArms_holds : Rows.FlashArmsSaid := flashArms.proved
#print axioms flashArms_holds
end Go.Proofs.Ythnfdgjikbjgoaa
