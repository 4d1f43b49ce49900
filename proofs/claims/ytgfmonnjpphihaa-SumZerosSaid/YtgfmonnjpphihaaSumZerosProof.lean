/-
  SumZeros answers true for every key and every number: bytes 0 behind a key multiply its hash by the prime, each once more, and go on with a sum as any bytes do.
  Conditions: none.
-/
import Derived.Test.YtgfmonnjpphihaaRows
import Derived.WalkKit
import Derived.ProofKit
import Derived.OpenShut
import Derived.ShutString
import Derived.ChangeOld
import Derived.Below
import Derived.Test.YtgfmonnjpphihaaAwake
import Derived.Test.YtgfmonnjpphihaaStr
namespace Go.Proofs.Ytgfmonnjpphihaa.sumZeros
open Go.ChangeShapes Go.WideShapes Go.ChangeAt Go.RowKit
open Go.ChangeMaps (open_string shut_string)
set_option linter.unusedVariables false      -- a walk need not use every 'w<i>' (that an integer argument fits its kind)

theorem own : ownKnob Try.prog.godebug = none := by kernel_rfl

/-! The walk: the Go text returns true, and writes nothing that was there. -/
set_option maxHeartbeats 800000 in
theorem walk (a0 : ByteArray) (a1 : Int) (w0 : a0.size ≤ maxLen) (w1 : (Lit.int .i64 a1).wf = true) (w : World) :
    Calls Try.prog 8 #[.string a0, .int .i64 a1] w fun e w' => e = .returned (.bool true) ∧ Below w.heap.size w w' := by
  have W1 : -9223372036854775808 ≤ a1 ∧ a1 ≤ 9223372036854775807 := by
    simp [Lit.wf] at w1; revert w1; simp [IntKind.min, IntKind.bits, IntKind.signed]
  obtain ⟨m0, m1⟩ := W1
  clear w1
  by_cases hl : 500 < a0.size
  · go_enter Try.func8, Try.ntmps8
    go_wp2_with fail
    refine (awake_any _).mono ?_
    rintro e w1 ⟨rfl, hb⟩
    go_wp2
    go_ret
    exact ⟨rfl, hb⟩
  by_cases hn1 : a1 < 1
  · go_enter Try.func8, Try.ntmps8
    go_wp2_with fail
    refine (awake_any _).mono ?_
    rintro e w1 ⟨rfl, hb⟩
    go_wp2
    go_ret
    exact ⟨rfl, hb⟩
  by_cases hn2 : 200 < a1
  · go_enter Try.func8, Try.ntmps8
    go_wp2_with fail
    refine (awake_any _).mono ?_
    rintro e w1 ⟨rfl, hb⟩
    go_wp2
    go_ret
    exact ⟨rfl, hb⟩
  obtain ⟨n, rfl⟩ := Int.eq_ofNat_of_zero_le (show 0 ≤ a1 by omega)
  clear m0 m1
  have hmk := run_make_zeros n (by omega)
  have hcv := run_str_made (List.replicate n 0) n (by simp) (zeros_range n)
  have hcb := run_bytes
  have hbs : ∀ W s, (Lib.bytesWorld W 5 s).heap.size = W.heap.size + 1 := fun W s => Lib.bytesWorld_size W 5 s
  have z1 : (Math.strOf (List.replicate n 0)).size = n := by rw [Math.strOf_size]; simp
  have S1 : Hid ((a0 ++ Math.strOf (List.replicate n 0)).size ≤ maxLen) := by
    unfold Hid; rw [ByteArray.size_append, z1]; unfold maxLen; omega
  have k1 : (Math.hashS Math.offset (a0 ++ Math.strOf (List.replicate n 0)) == Math.zeros (Math.hashS Math.offset a0) n) = true := by
    rw [Math.hashS_zeros]; exact beq_self_eq_true _
  have k2 := Math.more_zeros a0 n
  have HZ : Hid (∀ k, IntKind.u64.wrap (Math.zeros (Math.hashS Math.offset a0) k * 1099511628211) = Math.zeros (Math.hashS Math.offset a0) (k + 1)) := by
    have hr := Math.hashS_range Math.offset a0 Math.offset_range.1 Math.offset_range.2
    exact fun k => Math.zeros_succ _ k hr.1 hr.2
  have HZ0 : Hid (Math.hashS Math.offset a0 = Math.zeros (Math.hashS Math.offset a0) 0) := rfl
  go_enter Try.func8, Try.ntmps8
  go_wp2_with fail
  refine (awake_any _).mono ?_
  rintro e w1 ⟨rfl, hb⟩
  have HB : Hid (Below w.heap.size w w1) := hb
  have hsz := hb.size
  clear hb
  go_wp2_with fail
  refine (hash_at _ _ w0).mono ?_
  rintro e w' ⟨rfl, rfl⟩
  go_wp2_with fail
  go_loop [5, 6] (fun t i => ∃ k : Nat, k ≤ n ∧ i = .int .i64 k ∧ t = .int .u64 (Math.zeros (Math.hashS Math.offset a0) k)) (fun _ i => n - (intOf i).toNat)
  case atStart => exact ⟨0, Nat.zero_le _, rfl, rfl⟩
  case round =>
    obtain ⟨k, hk, rfl, rfl⟩ := hrel
    by_cases hlt : k < n
    · go_wp2
      go_round
      case rel => exact ⟨k + 1, by omega, by go_num, by rw [HZ.out]⟩
      case measure => simp [intOf]; omega
    · have hkn : k = n := by omega
      subst hkn
      go_wp2_with fail
      refine (hash_at _ _ S1.out).mono ?_
      rintro e w2 ⟨rfl, rfl⟩
      go_wp2_with fail
      refine (crc_at _ _ _ (Math.bytesOf (a0 ++ Math.strOf (List.replicate k 0))) _ ?hn1 ?hm1 ?hr1).mono ?_
      case hn1 => rw [Math.bytesOf_length, ByteArray.size_append, z1]
      case hm1 => unfold maxLen; omega
      case hr1 => exact reads_bytes_at _ _ _ (by simp)
      rintro e w2 ⟨rfl, hw2⟩
      subst hw2
      go_wp2_with fail
      refine (crc_at _ _ _ (Math.bytesOf a0) _ ?hn2 ?hm2 ?hr2).mono ?_
      case hn2 => rw [Math.bytesOf_length]
      case hm2 => exact w0
      case hr2 => exact reads_bytes_at _ _ _ (by simp [hbs])
      rintro e w2 ⟨rfl, hw2⟩
      subst hw2
      go_wp2_with fail
      refine (more_at _ _ _ _ (List.replicate k 0) _ ?hn3 ?hm3 ?hr3).mono ?_
      case hn3 => simp
      case hm3 => unfold maxLen; omega
      case hr3 => exact ((Reads.made w' (List.replicate k 0) (0, 0) _ rfl (zeros_range k)).later (below_bytes _ _)).later (below_bytes _ _)
      rintro e w2 ⟨rfl, hw2⟩
      subst hw2
      go_wp2_with fail
      go_ret
      refine ⟨rfl, ?_⟩
      have b1 := HB.out.alloc hsz (.cells (cellsOf (List.replicate k 0)) 5)
      have b2 := b1.trans ((below_bytes (w'.alloc (.cells (cellsOf (List.replicate k 0)) 5)) (a0 ++ Math.strOf (List.replicate k 0))).mono (by simp; omega))
      exact b2.trans ((below_bytes _ a0).mono (by rw [hbs]; simp; omega))

/-! ### THE ROW's STEP: WRITTEN OUT: LEAVE IT -/
set_option maxRecDepth 100000 in
theorem lifted (os : Os) (started : os.Started) (H : Type) (enc : TypeId × Value → H) :
    ReturnsInHanded {} Try.checked os 8 .any (Rows.sumZerosSpec.pre6 enc Try.prog Try.f8 Rows.sumZerosRow.domain false) (Rows.sumZerosSpec.post enc Try.prog Try.f8 false true false false) := by
  refine returnsInHanded_of_change (C := Try.checked) own started (by kernel_rfl) Try.func8
    (ChangeSpec.witness6 (enc := enc) (C := Try.checked) false ⟨#[], #[.string ByteArray.empty, .int .i64 0], []⟩ 8 (by kernel_rfl) (by kernel_rfl) (by kernel_rfl) (by kernel_rfl)) ?_
  intro W base args ds gs before hval0 hW hcnd _
  have hval : ∀ (j : Nat) t v, Try.f8.params[j]? = some t → args[j]? = some v → Value.okWide Try.prog W .any base t v := hval0
  have hW' := hW
  obtain ⟨p, q, hA0, hV, rfl, hfz, hnd⟩ := hW
  have hA : DataW.TrodAll enc Try.prog W 0 (fun _ => true) true Try.f8.params.toList args.toList ds p := hA0
  rw [Try.params8] at hA hval
  obtain ⟨v0, vs0, d0, ds0, p0, q0, hargs, rfl, rfl, h0, r0⟩ := trodAll_cons hA
  obtain ⟨v1, vs1, d1, ds1, p1, q1, rfl, rfl, rfl, h1, r1⟩ := trodAll_cons r0
  obtain ⟨rfl, rfl, rfl⟩ := trodAll_nil r1
  obtain rfl : args = #[v0, v1] := by cases args; simp_all
  obtain ⟨rfl, rfl⟩ := trodVars_none hV
  obtain ⟨a0, rfl, rfl, rfl, w0⟩ := open_string Try.underlying9 (hval 0 9 v0 rfl rfl) h0
  obtain ⟨a1, rfl, rfl, rfl, w1⟩ := open_int Try.underlying3 (hval 1 3 v1 rfl rfl) h1
  clear hA0 hval0
  refine (walk a0 a1 w0 w1 W).mono fun e W' ⟨he, bel⟩ => ?_
  subst he
  exact ⟨_, rfl, _, _, _, [], _, [], hW', trodAll_mk1 (shut_bool Try.underlying4 _), (trodAll_cons_mk (shut_string Try.underlying9 w0) (trodAll_cons_mk (shut_int Try.underlying3 w1) trodAll_mk0)), rfl, bel.frame _, fun h => by cases h⟩

theorem over : Rows.sumZerosRow.holds Try.pinned (OpenSpec.ofChange Rows.sumZerosSpec) :=
  OpenClaim.holds_of_wide 8 Try.f8 rfl rfl rfl rfl rfl rfl rfl ⟨rfl, rfl, rfl, rfl, rfl⟩ rfl rfl rfl rfl rfl (by kernel_rfl) Try.func8 (by kernel_rfl)
    (of_decide_eq_true (by kernel_rfl)) (by unfold Func.isWrapper; first | (rw [if_pos (by decide +kernel)]; kernel_rfl) | (rw [if_neg (by decide +kernel)]; exact ⟨rfl, rfl⟩))
    (fun os started H enc _ => lifted os started H enc)

/-- ████ THE STATEMENT ████ -/
theorem proved : Rows.SumZerosSaid :=
  over
end Go.Proofs.Ytgfmonnjpphihaa.sumZeros
namespace Go.Proofs.Ytgfmonnjpphihaa
theorem sumZeros_holds : Rows.SumZerosSaid := sumZeros.proved
#print axioms sumZeros_holds
end Go.Proofs.Ytgfmonnjpphihaa
