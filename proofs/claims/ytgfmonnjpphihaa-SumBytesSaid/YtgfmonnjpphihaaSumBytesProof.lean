/-
  SumBytes answers true for every key and every two bytes: keys that differ in their last byte alone have different hashes, and a hash goes on byte by byte.
  Conditions: none.
-/
import Derived.Test.YtgfmonnjpphihaaRows
import Derived.WalkKit
import Derived.ProofKit
import Derived.OpenShut
import Derived.ShutString
import Derived.ChangeOld
import Derived.Below
import Derived.Test.YtgfmonnjpphihaaAwake
import Derived.Test.YtgfmonnjpphihaaStr
namespace Go.Proofs.Ytgfmonnjpphihaa.sumBytes
open Go.ChangeShapes Go.WideShapes Go.ChangeAt Go.RowKit
open Go.ChangeMaps (open_string shut_string)
set_option linter.unusedVariables false      -- a walk need not use every 'w<i>' (that an integer argument fits its kind)

theorem own : ownKnob Try.prog.godebug = none := by kernel_rfl

/-! The walk: the Go text returns true, and writes nothing that was there. -/
theorem byte_range {x : Int} (h : (Lit.int .u8 x).wf = true) : 0 ≤ x ∧ x ≤ 255 := by
  simp [Lit.wf] at h
  revert h
  simp [IntKind.min, IntKind.max, IntKind.bits, IntKind.signed]

set_option maxHeartbeats 400000 in
theorem walk (a0 : ByteArray) (a1 : Int) (a2 : Int) (w0 : a0.size ≤ maxLen) (w1 : (Lit.int .u8 a1).wf = true) (w2 : (Lit.int .u8 a2).wf = true) (w : World) :
    Calls Try.prog 7 #[.string a0, .int .u8 a1, .int .u8 a2] w fun e w' => e = .returned (.bool true) ∧ Below w.heap.size w w' := by
  obtain ⟨x0, x1⟩ := byte_range w1
  obtain ⟨y0, y1⟩ := byte_range w2
  clear w1 w2
  by_cases hl : 1000 < a0.size
  · go_enter Try.func7, Try.ntmps7
    go_wp2_with fail
    refine (awake_any _).mono ?_
    rintro e w1 ⟨rfl, hb⟩
    go_wp2
    go_ret
    exact ⟨rfl, hb⟩
  by_cases hne : a1 = a2
  · subst hne
    go_enter Try.func7, Try.ntmps7
    go_wp2_with fail
    refine (awake_any _).mono ?_
    rintro e w1 ⟨rfl, hb⟩
    go_wp2
    go_ret
    exact ⟨rfl, hb⟩
  have hcv := run_str_one
  have k1 := Math.hashS_ne Math.offset a0 a1 a2 Math.offset_range.1 Math.offset_range.2 x0 x1 y0 y1 hne
  have k2 := Math.hashS_ne Math.second0 a0 a1 a2 Math.second0_range.1 Math.second0_range.2 x0 x1 y0 y1 hne
  have k3 : (Math.hashS Math.offset (a0 ++ Math.strOf [a1]) == IntKind.u64.wrap (bits .xor .u64 (Math.hashS Math.offset a0) a1 * 1099511628211)) = true := by
    rw [Math.hashS_one Math.offset a0 a1 x0 x1]; exact beq_self_eq_true _
  have hb12 : (a1 == a2) = false := by simpa using hne
  have s1 : (a0 ++ Math.strOf [a1]).size ≤ maxLen := by rw [ByteArray.size_append, Math.strOf_size]; simp; unfold maxLen; omega
  have s2 : (a0 ++ Math.strOf [a2]).size ≤ maxLen := by rw [ByteArray.size_append, Math.strOf_size]; simp; unfold maxLen; omega
  have S1 : Hid ((a0 ++ Math.strOf [a1]).size ≤ maxLen) := s1
  have S2 : Hid ((a0 ++ Math.strOf [a2]).size ≤ maxLen) := s2
  have z1 : (Math.strOf [a1]).size = 1 := Math.strOf_size _
  have z2 : (Math.strOf [a2]).size = 1 := Math.strOf_size _
  clear hne s1 s2
  go_enter Try.func7, Try.ntmps7
  go_wp2_with fail
  refine (awake_any _).mono ?_
  rintro e w1 ⟨rfl, hb⟩
  have HB : Hid (Below w.heap.size w w1) := hb
  have hsz := hb.size
  clear hb
  go_wp2_with fail
  refine (hash_at _ _ S1.out).mono ?_
  rintro e w' ⟨rfl, rfl⟩
  go_wp2_with fail
  refine (hash_at _ _ S2.out).mono ?_
  rintro e w' ⟨rfl, rfl⟩
  go_wp2_with fail
  refine (second_at _ _ S1.out).mono ?_
  rintro e w' ⟨rfl, rfl⟩
  go_wp2_with fail
  refine (second_at _ _ S2.out).mono ?_
  rintro e w' ⟨rfl, rfl⟩
  go_wp2_with fail
  refine (hash_at _ _ S1.out).mono ?_
  rintro e w' ⟨rfl, rfl⟩
  go_wp2_with fail
  refine (hash_at _ _ w0).mono ?_
  rintro e w' ⟨rfl, rfl⟩
  go_wp2_with fail
  go_ret
  exact ⟨rfl, (HB.out.alloc hsz _).alloc (by simp; omega) _⟩

/-! ### THE ROW's STEP: WRITTEN OUT: LEAVE IT -/
set_option maxRecDepth 100000 in
theorem lifted (os : Os) (started : os.Started) (H : Type) (enc : TypeId × Value → H) :
    ReturnsInHanded {} Try.checked os 7 .any (Rows.sumBytesSpec.pre6 enc Try.prog Try.f7 Rows.sumBytesRow.domain false) (Rows.sumBytesSpec.post enc Try.prog Try.f7 false true false false) := by
  refine returnsInHanded_of_change (C := Try.checked) own started (by kernel_rfl) Try.func7
    (ChangeSpec.witness6 (enc := enc) (C := Try.checked) false ⟨#[], #[.string ByteArray.empty, .int .u8 0, .int .u8 0], []⟩ 8 (by kernel_rfl) (by kernel_rfl) (by kernel_rfl) (by kernel_rfl)) ?_
  intro W base args ds gs before hval0 hW hcnd _
  have hval : ∀ (j : Nat) t v, Try.f7.params[j]? = some t → args[j]? = some v → Value.okWide Try.prog W .any base t v := hval0
  have hW' := hW
  obtain ⟨p, q, hA0, hV, rfl, hfz, hnd⟩ := hW
  have hA : DataW.TrodAll enc Try.prog W 0 (fun _ => true) true Try.f7.params.toList args.toList ds p := hA0
  rw [Try.params7] at hA hval
  obtain ⟨v0, vs0, d0, ds0, p0, q0, hargs, rfl, rfl, h0, r0⟩ := trodAll_cons hA
  obtain ⟨v1, vs1, d1, ds1, p1, q1, rfl, rfl, rfl, h1, r1⟩ := trodAll_cons r0
  obtain ⟨v2, vs2, d2, ds2, p2, q2, rfl, rfl, rfl, h2, r2⟩ := trodAll_cons r1
  obtain ⟨rfl, rfl, rfl⟩ := trodAll_nil r2
  obtain rfl : args = #[v0, v1, v2] := by cases args; simp_all
  obtain ⟨rfl, rfl⟩ := trodVars_none hV
  obtain ⟨a0, rfl, rfl, rfl, w0⟩ := open_string Try.underlying9 (hval 0 9 v0 rfl rfl) h0
  obtain ⟨a1, rfl, rfl, rfl, w1⟩ := open_int Try.underlying5 (hval 1 5 v1 rfl rfl) h1
  obtain ⟨a2, rfl, rfl, rfl, w2⟩ := open_int Try.underlying5 (hval 2 5 v2 rfl rfl) h2
  clear hA0 hval0
  refine (walk a0 a1 a2 w0 w1 w2 W).mono fun e W' ⟨he, bel⟩ => ?_
  subst he
  exact ⟨_, rfl, _, _, _, [], _, [], hW', trodAll_mk1 (shut_bool Try.underlying4 _), (trodAll_cons_mk (shut_string Try.underlying9 w0) (trodAll_cons_mk (shut_int Try.underlying5 w1) (trodAll_cons_mk (shut_int Try.underlying5 w2) trodAll_mk0))), rfl, bel.frame _, fun h => by cases h⟩

theorem over : Rows.sumBytesRow.holds Try.pinned (OpenSpec.ofChange Rows.sumBytesSpec) :=
  OpenClaim.holds_of_wide 7 Try.f7 rfl rfl rfl rfl rfl rfl rfl ⟨rfl, rfl, rfl, rfl, rfl⟩ rfl rfl rfl rfl rfl (by kernel_rfl) Try.func7 (by kernel_rfl)
    (of_decide_eq_true (by kernel_rfl)) (by unfold Func.isWrapper; first | (rw [if_pos (by decide +kernel)]; kernel_rfl) | (rw [if_neg (by decide +kernel)]; exact ⟨rfl, rfl⟩))
    (fun os started H enc _ => lifted os started H enc)

/-- ████ THE STATEMENT ████ -/
theorem proved : Rows.SumBytesSaid :=
  over
end Go.Proofs.Ytgfmonnjpphihaa.sumBytes
namespace Go.Proofs.Ytgfmonnjpphihaa
theorem sumBytes_holds : Rows.SumBytesSaid := sumBytes.proved
#print axioms sumBytes_holds
end Go.Proofs.Ytgfmonnjpphihaa
