/-
  The examples of chapter 3 answer as they are told: for every start the call returns true; no condition.
-/
import Derived.Test.YthnfdgjikbjgoaaRows
import Derived.WalkKit
import Derived.ProofKit
import Derived.OpenShut
import Derived.ChangeOld
import Derived.Below
import Derived.Test.YthnfdgjikbjgoaaAwake
namespace Go.Proofs.Ythnfdgjikbjgoaa.flashKnown
open Go.ChangeShapes Go.WideShapes Go.ChangeAt Go.RowKit
set_option linter.unusedVariables false      -- a walk need not use every 'w<i>' (that an integer argument fits its kind)

theorem own : ownKnob Try.prog.godebug = none := by kernel_rfl

/-! The walk: the Go text returns true, and writes nothing that was there. -/
def k1 : Dv := (Dv.fresh 1).arm 2
def k2 : Dv := k1.writeDo 0 ⟨[1].toArray⟩
def k3 : Dv := k2.flushDo
def k4 : Dv := k3.writeDo 0 ⟨[].toArray⟩
theorem k4_losses : k4.losses = 1 := by
  have h : k4.losses = wrap64 (0 + 1) := rfl
  rw [h]; unfold wrap64; omega
set_option maxHeartbeats 2000000 in
theorem walk  (w : World) :
    Calls Try.prog 3 #[] w fun e w' => e = .returned (.bool true) ∧ Below w.heap.size w w' := by
  go_enter Try.func3, Try.ntmps3
  go_wp2_with fail
  refine (awake_any _).mono ?_
  rintro e w0 ⟨rfl, b0⟩
  have B0 := hide b0
  clear b0
  go_wp2_with fail
  refine (new_bad 0 (.inl (by decide)) _).mono ?_
  rintro e w' ⟨rfl, rfl⟩
  go_wp2_with fail
  refine (new_bad 4097 (.inr (by decide)) _).mono ?_
  rintro e w' ⟨rfl, rfl⟩
  go_wp2_with fail
  refine (new_at 1 (by decide) (by decide) _).mono ?_
  rintro e w1 ⟨d, F1, rfl, h1, f1, b1⟩
  have H1 := hide h1
  have s0 := B0.out.size
  have Q1 : Hid (Since w.heap.size w w1 F1) := ⟨B0.out.trans (b1.mono s0), Nat.le_trans s0 b1.size, fun k hk => Nat.le_trans s0 (f1 k hk)⟩
  clear h1 f1 b1 s0 B0
  go_wp2_with fail
  refine (arm_at d F1 _ _ H1.out 2 (by decide)).mono ?_
  rintro e w2 ⟨rfl, h2, m2⟩
  have H2 : Hid (DvAt w2 d F1 k1) := h2
  have Q2 := hide (Q1.out.keep m2)
  clear h2 m2
  go_wp2_with fail
  refine (write_at d F1 k1 0 (some ⟨w2.heap.size, 0, none⟩) 1 1 w2.heap.size [1] rfl _ (bs_one w2 1 1 rfl) (fun h => by cases h) (fun _ => not_old H2.out) (H2.out.alloc _)).mono ?_
  rintro e w3 ⟨rfl, F3, h3, m3⟩
  rw [show k1.writeErr 0 ⟨[1].toArray⟩ = 0 from rfl]
  have H3 : Hid (DvAt w3 d F3 k2) := h3
  have Q3 := hide ((Q2.out.alloc _).moves m3)
  clear h3 m3
  go_wp2_with fail
  refine (flush_at d F3 k2 _ H3.out).mono ?_
  rintro e w4 ⟨rfl, F4, h4, m4⟩
  rw [show k2.flushErr = 4 from rfl]
  have H4 : Hid (DvAt w4 d F4 k3) := h4
  have Q4 := hide (Q3.out.moves m4)
  clear h4 m4
  go_wp2_with fail
  refine (write_at d F4 k3 0 none 0 0 0 [] rfl _ (.inl rfl) (fun _ => rfl) (fun h => absurd rfl h) H4.out).mono ?_
  rintro e w5 ⟨rfl, F5, h5, m5⟩
  rw [show k3.writeErr 0 ⟨[].toArray⟩ = 4 from rfl]
  have H5 : Hid (DvAt w5 d F5 k4) := h5
  have Q5 := hide (Q4.out.moves m5)
  clear h5 m5
  have c14 := hide (power_at d F5 k4 _ H5.out)
  have c15 := hide (losses_at d F5 k4 _ H5.out)
  rw [show (!k4.off) = false from rfl] at c14
  rw [k4_losses] at c15
  go_wp2_with fail
  refine c14.out.mono ?_
  rintro e w' ⟨rfl, rfl⟩
  go_wp2_with fail
  refine c15.out.mono ?_
  rintro e w' ⟨rfl, rfl⟩
  go_wp2_with fail
  refine (write_at d F5 k4 1 none 0 0 0 [] rfl _ (.inl rfl) (fun _ => rfl) (fun h => absurd rfl h) H5.out).mono ?_
  rintro e w6 ⟨rfl, F6, h6, m6⟩
  rw [show k4.writeErr 1 ⟨[].toArray⟩ = 1 from rfl]
  have Q6 := hide (Q5.out.moves m6)
  clear h6 m6
  go_wp2
  go_ret
  exact ⟨rfl, Q6.out.1⟩

/-! ### THE ROW's STEP: WRITTEN OUT: LEAVE IT -/
set_option maxRecDepth 100000 in
theorem lifted (os : Os) (started : os.Started) (H : Type) (enc : TypeId × Value → H) :
    ReturnsInHanded {} Try.checked os 3 .any (Rows.flashKnownSpec.pre6 enc Try.prog Try.f3 Rows.flashKnownRow.domain false) (Rows.flashKnownSpec.post enc Try.prog Try.f3 false true false false) := by
  refine returnsInHanded_of_change (C := Try.checked) own started (by kernel_rfl) Try.func3
    (ChangeSpec.witness6 (enc := enc) (C := Try.checked) false ⟨#[], #[], []⟩ 8 (by kernel_rfl) (by kernel_rfl) (by kernel_rfl) (by kernel_rfl)) ?_
  intro W base args ds gs before hval0 hW hcnd _
  have hval : ∀ (j : Nat) t v, Try.f3.params[j]? = some t → args[j]? = some v → Value.okWide Try.prog W .any base t v := hval0
  have hW' := hW
  obtain ⟨p, q, hA0, hV, rfl, hfz, hnd⟩ := hW
  have hA : DataW.TrodAll enc Try.prog W 0 (fun _ => true) true Try.f3.params.toList args.toList ds p := hA0
  rw [Try.params3] at hA hval
  obtain ⟨rfl, rfl, rfl⟩ := trodAll_none hA
  obtain ⟨rfl, rfl⟩ := trodVars_none hV
  clear hA0 hval0
  refine (walk W).mono fun e W' ⟨he, bel⟩ => ?_
  subst he
  exact ⟨_, rfl, _, _, _, [], _, [], hW', trodAll_mk1 (shut_bool Try.underlying4 _), trodAll_mk0, rfl, bel.frame _, fun h => by cases h⟩

theorem over : Rows.flashKnownRow.holds Try.pinned (OpenSpec.ofChange Rows.flashKnownSpec) :=
  OpenClaim.holds_of_wide 3 Try.f3 rfl rfl rfl rfl rfl rfl rfl ⟨rfl, rfl, rfl, rfl, rfl⟩ rfl rfl rfl rfl rfl (by kernel_rfl) Try.func3 (by kernel_rfl)
    (of_decide_eq_true (by kernel_rfl)) (by unfold Func.isWrapper; first | (rw [if_pos (by decide +kernel)]; kernel_rfl) | (rw [if_neg (by decide +kernel)]; exact ⟨rfl, rfl⟩))
    (fun os started H enc _ => lifted os started H enc)

/-- ████ THE STATEMENT ████ -/
theorem proved : Rows.FlashKnownSaid :=
  over
end Go.Proofs.Ythnfdgjikbjgoaa.flashKnown
namespace Go.Proofs.Ythnfdgjikbjgoaa
theorem flashKnown_holds : Rows.FlashKnownSaid := flashKnown.proved
#print axioms flashKnown_holds
end Go.Proofs.Ythnfdgjikbjgoaa
