/-
  SumLinear answers true for every two slices of bytes: the sums of two texts of one length differ as that of their difference does from that of noughts.
  Conditions: none.
-/
import Derived.Test.YtgfmonnjpphihaaRows
import Derived.WalkKit
import Derived.ProofKit
import Derived.OpenShut
import Derived.ShutString
import Derived.ChangeOld
import Derived.Below
import Derived.Deep.RegionHeld3
import Derived.Deep.AppendLies
import Derived.Deep.RegionLaw
import Derived.Test.YtgfmonnjpphihaaAwake
import Derived.Test.YtgfmonnjpphihaaCopy
import Derived.Test.YtgfmonnjpphihaaStr
namespace Go.Proofs.Ytgfmonnjpphihaa.sumLinear
open Go.ChangeShapes Go.WideShapes Go.ChangeAt Go.RowKit
open Go.ChangeMaps (open_string shut_string)
set_option linter.unusedVariables false

theorem own : ownKnob Try.prog.godebug = none := by kernel_rfl
theorem laidOut : laidOutB Try.prog = true := by kernel_rfl

/-! The walk: the Go text returns true, and writes nothing that was there. -/
theorem cell_kept {W : World} {a : Addr} {v : Value} (o : Obj) (h : W.cell? a = some v) : (W.alloc o).cell? a = some v := cell_later ((Below.refl _ _).alloc (Nat.le_refl _) _) h

/-- The bytes of two lists, one against the other. -/
def xorL (a b : List Int) : List Int := List.zipWith (fun x y => bits .xor .u8 x y) a b
theorem xorL_length (a b : List Int) (h : a.length = b.length) : (xorL a b).length = a.length := by unfold xorL; simp [h]
theorem xorL_get (a b : List Int) (h : a.length = b.length) (i : Nat) (hi : i < a.length) : (xorL a b).getD i 0 = bits .xor .u8 (a.getD i 0) (b.getD i 0) := by
  unfold xorL
  simp only [List.getD_eq_getElem?_getD]
  rw [List.getElem?_zipWith, List.getElem?_eq_getElem hi, List.getElem?_eq_getElem (show i < b.length by omega)]
  rfl
theorem xorL_range (a b : List Int) (h : a.length = b.length) (ha : ∀ i, 0 ≤ a.getD i 0 ∧ a.getD i 0 ≤ 255) (hb : ∀ i, 0 ≤ b.getD i 0 ∧ b.getD i 0 ≤ 255) : ∀ i, 0 ≤ (xorL a b).getD i 0 ∧ (xorL a b).getD i 0 ≤ 255 := by
  intro i
  by_cases hi : i < a.length
  · rw [xorL_get a b h i hi]
    exact (Math.xor_byte _ _ (ha i).1 (ha i).2 (hb i).1 (hb i).2).2
  · rw [List.getD_eq_getElem?_getD, List.getElem?_eq_none (by rw [xorL_length a b h]; omega)]; simp

theorem round_step {w1 wr w2 : World} {u : Value} {k g cap : Nat} {lx : List Int} {v : Int} {o : Obj}
    (hown : w2.ownsRow w1.heap.size 5 1 (.slice (some ⟨g, 0, none⟩) (k + 1) cap) (k + 1) ((lx.take k).map (Value.int .u8) ++ [Value.int .u8 v]))
    (hgrow : (wr.alloc o).drew.grownBy w2 u.ownBlock) (HO : wr.ownsRow w1.heap.size 5 1 u k ((lx.take k).map (Value.int .u8))) (HBE : Below w1.heap.size w1 wr)
    (hsz : w1.heap.size ≤ wr.heap.size) (hk : k < lx.length) (hv : lx.getD k 0 = v) :
    w2.ownsRow w1.heap.size 5 1 (.slice (some ⟨g, 0, none⟩) (k + 1) cap) (k + 1) ((lx.take (k + 1)).map (Value.int .u8)) ∧ Below w1.heap.size w1 w2 := by
  refine ⟨?_, ((HBE.alloc hsz o).drew).grown hgrow (by simp; omega) (fun j e => (HO.lt j e).1)⟩
  rw [take_succ_getD lx k hk, List.map_append, hv]
  exact hown

set_option maxHeartbeats 2000000 in
theorem walk (a0 : Option Addr) (len0 cap0 : Nat) (z0 : List Int) (a1 : Option Addr) (len1 cap1 : Nat) (z1 : List Int) (w : World) (w0 : IsRow .u8 w a0 len0 cap0 z0) (w1 : IsRow .u8 w a1 len1 cap1 z1) :
    Calls Try.prog 6 #[.slice a0 len0 cap0, .slice a1 len1 cap1] w fun e w' => e = .returned (.bool true) ∧ Below w.heap.size w w' := by
  obtain ⟨i0, hi, hi2⟩ := Option.map_eq_some_iff.1 info5
  simp only [Prod.mk.injEq] at hi2
  obtain ⟨hz0, hz1, hz2⟩ := hi2
  have HI : Hid (Try.prog.info? 5 = some i0 ∧ i0.zero = some (.int .u8 0) ∧ i0.size = 1 ∧ i0.bytes = 1) := ⟨hi, hz0, hz1, hz2⟩
  clear hi hz0 hz1 hz2
  obtain ⟨hlenA, hrA, hnilA, hmaxA⟩ := w0.reads
  obtain ⟨hlenB, hrB, hnilB, hmaxB⟩ := w1.reads
  generalize z0.take len0 = la at hlenA hrA
  generalize z1.take len1 = lb at hlenB hrB
  clear w0 w1 hnilA hnilB
  by_cases hne : len0 = len1
  case neg =>
    have hne' : ((len0 : Int) != (len1 : Int)) = true := by simp; omega
    go_enter Try.func6, Try.ntmps6
    go_wp2_with fail
    refine (awake_any _).mono ?_
    rintro e w1 ⟨rfl, hb⟩
    go_wp2
    go_ret
    exact ⟨rfl, hb⟩
  subst hne
  by_cases hl1 : 3000 < len0
  · go_enter Try.func6, Try.ntmps6
    go_wp2_with fail
    refine (awake_any _).mono ?_
    rintro e w1 ⟨rfl, hb⟩
    go_wp2
    go_ret
    exact ⟨rfl, hb⟩
  have hAB : la.length = lb.length := by omega
  have HRA : Hid (Reads w a0 la) := hrA
  have HRB : Hid (Reads w a1 lb) := hrB
  have HL : Hid (la.length = len0 ∧ lb.length = len0) := ⟨hlenA, hlenB⟩
  have HX : Hid (∀ i, i < la.length → (xorL la lb).getD i 0 = bits .xor .u8 (la.getD i 0) (lb.getD i 0)) := xorL_get la lb hAB
  have HXL : Hid ((xorL la lb).length = len0) := by unfold Hid; rw [xorL_length la lb hAB]; exact hlenA
  have HXR : Hid (∀ i, 0 ≤ (xorL la lb).getD i 0 ∧ (xorL la lb).getD i 0 ≤ 255) := xorL_range la lb hAB hrA.2 hrB.2
  have HFIN : Hid (Math.more 0#32 la ^^^ Math.more 0#32 lb = Math.more 0#32 (xorL la lb) ^^^ Math.more 0#32 (List.replicate len0 0)) := by
    have := Math.more_linear la lb (xorL la lb) hAB (xorL_length la lb hAB) (fun i hi => by
      rw [xorL_get la lb hAB i hi]
      exact (Math.xor_byte _ _ (hrA.2 i).1 (hrA.2 i).2 (hrB.2 i).1 (hrB.2 i).2).1)
    rw [hlenA] at this
    exact this
  clear hrA hrB hlenA hlenB hAB hmaxA hmaxB
  generalize xorL la lb = lx at HX HXL HXR HFIN
  go_enter Try.func6, Try.ntmps6
  go_wp2_with fail
  refine (awake_any _).mono ?_
  rintro e w1 ⟨rfl, hb⟩
  have HRA1 : Hid (Reads w1 a0 la) := HRA.out.later hb
  have HRB1 : Hid (Reads w1 a1 lb) := HRB.out.later hb
  have HB : Hid (Below w.heap.size w w1) := hb
  have hsz := hb.size
  clear hb HRA HRB
  go_wp2_with fail
  go_loopw [5, 6] (fun v i wr => ∃ k : Nat, k ≤ len0 ∧ i = .int .i64 k ∧ wr.ownsRow w1.heap.size 5 1 v k ((lx.take k).map (Value.int .u8)) ∧ Below w1.heap.size w1 wr) (fun _ i _ => len0 - (intOf i).toNat)
  case atStart => exact ⟨0, Nat.zero_le _, rfl, World.ownsRow_nil _ _ _ _, Below.refl _ _⟩
  case round =>
    obtain ⟨k, hk, rfl, hown, hbel⟩ := hrel
    by_cases hlt : k < len0
    · obtain ⟨ba, offa, rfl, hca0⟩ := HRA1.out.1 k (by rw [HL.out.1]; exact hlt)
      obtain ⟨bb, offb, rfl, hcb0⟩ := HRB1.out.1 k (by rw [HL.out.2]; exact hlt)
      have hca := cell_later hbel hca0
      have hcb := cell_later hbel hcb0
      have HV : Hid (lx.getD k 0 = bits .xor .u8 (la.getD k 0) (lb.getD k 0)) := HX.out k (by rw [HL.out.1]; exact hlt)
      generalize la.getD k 0 = xa at hca HV
      generalize lb.getD k 0 = xb at hcb HV
      clear hca0 hcb0
      have hkI : (k : Int) < (len0 : Int) := by omega
      have hkI0 : (0 : Int) ≤ (k : Int) := by omega
      have HO : Hid (wr.ownsRow w1.heap.size 5 1 u5 k ((lx.take k).map (Value.int .u8))) := hown
      have HBE : Hid (Below w1.heap.size w1 wr) := hbel
      have hsz2 := hbel.size
      clear hown hbel
      go_wp2_with fail
      go_region_law (refine step_append_lies _ rfl (.tmp 25) (.tmp 35) 28 rfl w1.heap.size 5 i0 (.int .u8 0) 1 1 Try.underlying28 HI.out.1 HI.out.2.1 HI.out.2.2.1 HI.out.2.2.2 rfl (by decide) u5 k ((lx.take k).map (Value.int .u8)) (by rfl) (by exact HO.out.alloc _) ⟨wr.heap.size, 0, none⟩ 1 1 [.int .u8 (bits .xor .u8 xa xb)] (by rfl) rfl (by exact cell_one_new _ _ _) (by intro u hu; simp at hu; subst hu; rfl) (by decide) (by unfold maxLen; omega) (by omega) (by simp; omega) (wr.heap.size + 1) (by simp) ?_; intro g cap w2 hown hgrow _ _)
      all_goals
        have hrel2 := round_step hown hgrow HO.out HBE.out hsz2 (by have := HXL.out; omega) HV.out
        clear hown hgrow
        go_wp2
        go_roundw
        case rel => first | exact ⟨k + 1, by omega, by go_num, hrel2.1, hrel2.2⟩ | ((repeat apply Exists.intro); exact ⟨⟨k + 1, by omega, by go_num, hrel2.1, hrel2.2⟩, rfl⟩)
        case measure => simp [intOf]; omega
    · have hkl : k = len0 := by omega
      subst hkl
      obtain ⟨ax, cx, rfl⟩ := ownsRow_slice hown
      have hlx : lx.take k = lx := List.take_of_length_le (by have := HXL.out; omega)
      rw [hlx] at hown
      have HRX : Hid (Reads wr ax lx) := (ownsRow_reads hown HXR.out).2
      have HRA2 : Hid (Reads wr a0 la) := HRA1.out.later hbel
      have HRB2 : Hid (Reads wr a1 lb) := HRB1.out.later hbel
      have HBW : Hid (Below w.heap.size w wr) := HB.out.trans (hbel.mono hsz)
      have hsz2 : w.heap.size ≤ wr.heap.size := by have := hbel.size; omega
      clear hown hbel HRA1 HRB1 HB hlx
      have hmk := run_make_zeros k (by omega)
      have kfin : (bits .xor .u32 (Math.U (Math.more 0#32 la)) (Math.U (Math.more 0#32 lb)) == bits .xor .u32 (Math.U (Math.more 0#32 lx)) (Math.U (Math.more 0#32 (List.replicate k 0)))) = true := by
        rw [Math.xor_U, Math.xor_U, Math.B_U, Math.B_U, Math.B_U, Math.B_U, HFIN.out]; exact beq_self_eq_true _
      have CA : Hid (∀ W, Below wr.heap.size wr W → Calls Try.prog 10 #[.slice a0 k cap0] W fun e w' => e = .returned (.int .u32 (Math.U (Math.more 0#32 la))) ∧ w' = W) :=
        fun W hW => crc_at _ _ _ la W HL.out.1 (by unfold maxLen; omega) (HRA2.out.later hW)
      have CB : Hid (∀ W, Below wr.heap.size wr W → Calls Try.prog 10 #[.slice a1 k cap1] W fun e w' => e = .returned (.int .u32 (Math.U (Math.more 0#32 lb))) ∧ w' = W) :=
        fun W hW => crc_at _ _ _ lb W HL.out.2 (by unfold maxLen; omega) (HRB2.out.later hW)
      have CX : Hid (∀ W, Below wr.heap.size wr W → Calls Try.prog 10 #[.slice ax k cx] W fun e w' => e = .returned (.int .u32 (Math.U (Math.more 0#32 lx))) ∧ w' = W) :=
        fun W hW => crc_at _ _ _ lx W HXL.out (by unfold maxLen; omega) (HRX.out.later hW)
      have CZ : Hid (∀ W, Reads W (some ⟨wr.heap.size, 0, none⟩) (List.replicate k 0) → Calls Try.prog 10 #[.slice (some ⟨wr.heap.size, 0, none⟩) k k] W fun e w' => e = .returned (.int .u32 (Math.U (Math.more 0#32 (List.replicate k 0)))) ∧ w' = W) :=
        fun W hW => crc_at _ _ _ (List.replicate k 0) W (by simp) (by unfold maxLen; omega) hW
      clear HRA2 HRB2 HRX HFIN HXR HX HXL HL HI
      go_wp2_with fail
      go_region_with (first
        | (go_at_call_of 10 (Value.slice a0 k cap0); refine (CA.out _ ?_).mono ?_; (first | exact (Below.refl _ _).drew | exact ((Below.refl _ _).alloc (Nat.le_refl _) _).drew); rintro e w' ⟨rfl, rfl⟩)
        | (go_at_call_of 10 (Value.slice a1 k cap1); refine (CB.out _ ?_).mono ?_; (first | exact (Below.refl _ _).drew | exact ((Below.refl _ _).alloc (Nat.le_refl _) _).drew); rintro e w' ⟨rfl, rfl⟩)
        | (go_at_call_of 10 (Value.slice ax k cx); refine (CX.out _ ?_).mono ?_; (first | exact (Below.refl _ _).drew | exact ((Below.refl _ _).alloc (Nat.le_refl _) _).drew); rintro e w' ⟨rfl, rfl⟩)
        | (go_at_call 10; refine (CZ.out _ ?_).mono ?_; exact Reads.made wr (List.replicate k 0) (0, 0) _ rfl (zeros_range k); rintro e w' ⟨rfl, rfl⟩))
      all_goals (go_wp2; go_ret)
      all_goals exact ⟨rfl, (HBW.out.alloc hsz2 _).drew⟩

/-! ### THE ROW's STEP: WRITTEN OUT: LEAVE IT -/
set_option maxRecDepth 100000 in
theorem lifted (os : Os) (started : os.Started) (H : Type) (enc : TypeId × Value → H) :
    ReturnsInHanded {} Try.checked os 6 .any (Rows.sumLinearSpec.pre6 enc Try.prog Try.f6 Rows.sumLinearRow.domain false) (Rows.sumLinearSpec.post enc Try.prog Try.f6 false true false false) := by
  refine returnsInHanded_of_change (C := Try.checked) own started (by kernel_rfl) Try.func6
    (ChangeSpec.witness6 (enc := enc) (C := Try.checked) false ⟨#[], #[.slice none 0 0, .slice none 0 0], []⟩ 8 (by kernel_rfl) (by kernel_rfl) (by kernel_rfl) (by kernel_rfl)) ?_
  intro W base args ds gs before hval0 hW hcnd _
  have hval : ∀ (j : Nat) t v, Try.f6.params[j]? = some t → args[j]? = some v → Value.okWide Try.prog W .any base t v := hval0
  have hW' := hW
  obtain ⟨p, q, hA0, hV, rfl, hfz, hnd⟩ := hW
  have hA : DataW.TrodAll enc Try.prog W 0 (fun _ => true) true Try.f6.params.toList args.toList ds p := hA0
  rw [Try.params6] at hA hval
  obtain ⟨v0, vs0, d0, ds0, p0, q0, hargs, rfl, rfl, h0, r0⟩ := trodAll_cons hA
  obtain ⟨v1, vs1, d1, ds1, p1, q1, rfl, rfl, rfl, h1, r1⟩ := trodAll_cons r0
  obtain ⟨rfl, rfl, rfl⟩ := trodAll_nil r1
  obtain rfl : args = #[v0, v1] := by cases args; simp_all
  obtain ⟨rfl, rfl⟩ := trodVars_none hV
  obtain ⟨a0, len0, cap0, rfl⟩ := okWide_slice Try.underlying28 (hval 0 28 v0 rfl rfl)
  have k0 := h0
  have lt0 : ∀ x ∈ p0, x.block < W.heap.size := by obtain ⟨m, hm⟩ := k0; exact DataW.trod_lt m _ _ _ hm
  obtain ⟨z0, w0⟩ : ∃ zs, IsRow .u8 W a0 len0 cap0 zs := by
    obtain ⟨fuel, hf⟩ := h0
    rcases open_ints Try.underlying28 Try.underlying5 (by kernel_rfl) hf with ⟨hcs, _⟩ | ⟨x, l, c, zs, hcs, _, hl, hm, hz, _, hcell, hwz⟩
    · simp [Value.cells] at hcs
      obtain ⟨rfl, rfl, rfl⟩ := hcs
      exact ⟨[], .inl ⟨rfl, rfl, rfl, rfl⟩⟩
    · simp [Value.cells] at hcs
      obtain ⟨rfl, rfl, rfl⟩ := hcs
      exact ⟨zs, .inr ⟨_, rfl, hl, hm, by simpa using hz, hcell, hwz⟩⟩
  obtain ⟨a1, len1, cap1, rfl⟩ := okWide_slice Try.underlying28 (hval 1 28 v1 rfl rfl)
  have k1 := h1
  have lt1 : ∀ x ∈ p1, x.block < W.heap.size := by obtain ⟨m, hm⟩ := k1; exact DataW.trod_lt m _ _ _ hm
  obtain ⟨z1, w1⟩ : ∃ zs, IsRow .u8 W a1 len1 cap1 zs := by
    obtain ⟨fuel, hf⟩ := h1
    rcases open_ints Try.underlying28 Try.underlying5 (by kernel_rfl) hf with ⟨hcs, _⟩ | ⟨x, l, c, zs, hcs, _, hl, hm, hz, _, hcell, hwz⟩
    · simp [Value.cells] at hcs
      obtain ⟨rfl, rfl, rfl⟩ := hcs
      exact ⟨[], .inl ⟨rfl, rfl, rfl, rfl⟩⟩
    · simp [Value.cells] at hcs
      obtain ⟨rfl, rfl, rfl⟩ := hcs
      exact ⟨zs, .inr ⟨_, rfl, hl, hm, by simpa using hz, hcell, hwz⟩⟩
  clear hA0 hval0
  refine (walk a0 len0 cap0 z0 a1 len1 cap1 z1 W w0 w1).mono fun e W' ⟨he, bel⟩ => ?_
  subst he
  exact ⟨_, rfl, _, _, _, [], _, [], hW', trodAll_mk1 (shut_bool Try.underlying4 _), (trodAll_cons_mk (Below.trod laidOut (by kernel_rfl) (of_decide_eq_true (by kernel_rfl)) k0 bel lt0) (trodAll_cons_mk (Below.trod laidOut (by kernel_rfl) (of_decide_eq_true (by kernel_rfl)) k1 bel lt1) trodAll_mk0)), rfl, bel.frame _, fun h => by cases h⟩

theorem over : Rows.sumLinearRow.holds Try.pinned (OpenSpec.ofChange Rows.sumLinearSpec) :=
  OpenClaim.holds_of_wide 6 Try.f6 rfl rfl rfl rfl rfl rfl rfl ⟨rfl, rfl, rfl, rfl, rfl⟩ rfl rfl rfl rfl rfl (by kernel_rfl) Try.func6 (by kernel_rfl)
    (of_decide_eq_true (by kernel_rfl)) (by unfold Func.isWrapper; first | (rw [if_pos (by decide +kernel)]; kernel_rfl) | (rw [if_neg (by decide +kernel)]; exact ⟨rfl, rfl⟩))
    (fun os started H enc _ => lifted os started H enc)

/-- ████ THE STATEMENT ████ -/
theorem proved : Rows.SumLinearSaid := over
end Go.Proofs.Ytgfmonnjpphihaa.sumLinear
namespace Go.Proofs.Ytgfmonnjpphihaa
theorem sumLinear_holds : Rows.SumLinearSaid := sumLinear.proved
#print axioms sumLinear_holds
end Go.Proofs.Ytgfmonnjpphihaa
