/-
  SumOn answers true for every slice of bytes and every two numbers: summed in two parts it is the sum of the whole, and a changed bit changes it.
  Conditions: none.
-/
import Derived.Test.YtgfmonnjpphihaaRows
import Derived.WalkKit
import Derived.ProofKit
import Derived.OpenShut
import Derived.ShutString
import Derived.ChangeOld
import Derived.Below
import Derived.Deep.QuietTactic
import Derived.BigQuiet
import Derived.Test.YtgfmonnjpphihaaAwake
import Derived.Test.YtgfmonnjpphihaaCopy
namespace Go.Proofs.Ytgfmonnjpphihaa.sumOn
open Go.ChangeShapes Go.WideShapes Go.ChangeAt Go.RowKit
open Go.ChangeMaps (open_string shut_string)
set_option linter.unusedVariables false

theorem own : ownKnob Try.prog.godebug = none := by kernel_rfl
theorem laidOut : laidOutB Try.prog = true := by kernel_rfl

/-! The walk: the Go text returns true, and writes nothing that was there. -/
set_option maxHeartbeats 1000000 in
theorem walk (a0 : Option Addr) (len0 cap0 : Nat) (z0 : List Int) (a1 : Int) (a2 : Int) (w : World) (w0 : IsRow .u8 w a0 len0 cap0 z0) (w1 : (Lit.int .i64 a1).wf = true) (w2 : (Lit.int .i64 a2).wf = true) :
    Calls Try.prog 5 #[.slice a0 len0 cap0, .int .i64 a1, .int .i64 a2] w fun e w' => e = .returned (.bool true) ∧ Below w.heap.size w w' := by
  obtain ⟨c0, c1⟩ := int_range w1
  obtain ⟨t0, t1⟩ := int_range w2
  clear w1 w2
  obtain ⟨hlen, hr0, hnil, hmax⟩ := w0.reads
  have hcap : len0 ≤ cap0 := by
    rcases w0 with ⟨_, h1, h2, _⟩ | ⟨_, _, h1, _⟩
    · omega
    · exact h1
  generalize z0.take len0 = l at hlen hr0
  have HR : Hid (Reads w a0 l) := hr0
  have HL : Hid (l.length = len0) := hlen
  have HN : Hid (a0 = none → cap0 = 0) := hnil
  clear hr0 hlen hnil w0
  by_cases hl1 : 5000 < len0
  · go_enter Try.func5, Try.ntmps5
    go_wp2_with fail
    refine (awake_any _).mono ?_
    rintro e w1 ⟨rfl, hb⟩
    go_wp2
    go_ret
    exact ⟨rfl, hb⟩
  by_cases hc1 : a1 < 0
  · go_enter Try.func5, Try.ntmps5
    go_wp2_with fail
    refine (awake_any _).mono ?_
    rintro e w1 ⟨rfl, hb⟩
    go_wp2
    go_ret
    exact ⟨rfl, hb⟩
  by_cases hc2 : (len0 : Int) < a1
  · go_enter Try.func5, Try.ntmps5
    go_wp2_with fail
    refine (awake_any _).mono ?_
    rintro e w1 ⟨rfl, hb⟩
    go_wp2
    go_ret
    exact ⟨rfl, hb⟩
  obtain ⟨k, rfl⟩ := Int.eq_ofNat_of_zero_le (show 0 ≤ a1 by omega)
  clear c0 c1
  have hs1 := run_slice_to a0 len0 cap0 k (by omega)
  have hs2 := run_slice_from a0 len0 cap0 k (by omega)
  have kk : (Math.U (Math.more (Math.B (Math.U (Math.more 0#32 (l.take k)))) (l.drop k)) != Math.U (Math.more 0#32 (l.take len0))) = false := by
    rw [Math.B_U, ← Math.more_append, List.take_append_drop, List.take_of_length_le (by rw [HL.out]; exact Nat.le_refl _)]; simp
  go_enter Try.func5, Try.ntmps5
  go_wp2_with fail
  refine (awake_any _).mono ?_
  rintro e w1 ⟨rfl, hb⟩
  have HR1 : Hid (Reads w1 a0 l) := HR.out.later hb
  have HB : Hid (Below w.heap.size w w1) := hb
  have hsz := hb.size
  clear hb HR
  go_wp2_with fail
  go_quiet ((first
    | (go_at_call 10; exact Calls.quiet_of_same (crc_pre _ _ _ l _ (by have := HL.out; omega) (by omega) (HR1.out.drewN _)))
    | (go_at_call 11; exact Calls.quiet_of_same (more_at _ _ _ _ (l.drop k) _ (by have := HL.out; rw [List.length_drop]; omega) (by omega) ((HR1.out.drop k cap0 (by have := HL.out; omega)).drewN _)))))
  clear hs1 hs2 kk hmax
  generalize hw2 : w1.drewN nq = w2
  have HR2 : Hid (Reads w2 a0 l) := by rw [← hw2]; exact HR1.out.drewN _
  have HB2 : Hid (Below w.heap.size w w2) := by rw [← hw2]; exact below_drewN HB.out _
  have hsz2 : w.heap.size ≤ w2.heap.size := HB2.out.size
  clear hw2 HB HR1 hsz
  by_cases ht1 : a2 < 0
  · go_wp2
    go_ret
    exact ⟨rfl, HB2.out⟩
  by_cases ht2 : 8 * (len0 : Int) ≤ a2
  · go_wp2
    go_ret
    exact ⟨rfl, HB2.out⟩
  obtain ⟨m, rfl⟩ := Int.eq_ofNat_of_zero_le (show 0 ≤ a2 by omega)
  clear t0 t1
  go_wp2_with (at_builtin; refine wpList_append_bytes rfl _ _ rfl w2.heap.size _ 0 [] rfl (World.ownsRow_made _ #[] 0 (Nat.le_refl _) (by unfold maxLen; omega) rfl) a0 len0 cap0 l rfl HL.out (HR2.out.later ((Below.refl _ _).alloc (Nat.le_refl _) _)) HN.out (by omega) (by simp) ?_)
  intro a' c' w3 hown hg
  obtain ⟨p, hp⟩ : ∃ p, p = m / 8 := ⟨_, rfl⟩
  obtain ⟨q, hq⟩ : ∃ q, q = m % 8 := ⟨_, rfl⟩
  have hpl : p < l.length := by have := HL.out; omega
  obtain ⟨g, rfl, hbg, hcell, hfz, hset⟩ := own_byte hown p hpl
  have hbw : Below w2.heap.size w2 w3 := ((Below.refl _ _).alloc (Nat.le_refl _) _).grown hg (by simp) (fun k e => by simp [Value.ownBlock] at e; omega)
  have HB3 : Hid (Below w.heap.size w w3) := HB2.out.trans (hbw.mono hsz2)
  have HO : Hid (∀ z, (w3.setCell ⟨g, p, none⟩ (.int .u8 z)).ownsRow w2.heap.size 5 1 (.slice (some ⟨g, 0, none⟩) len0 c') len0 ((l.set p z).map (Value.int .u8))) := hset
  have HX : Hid (∀ i, 0 ≤ l.getD i 0 ∧ l.getD i 0 ≤ 255) := HR2.out.2
  have hx := HR2.out.2 p
  obtain ⟨hx0, hx1⟩ := hx
  have HE : Hid (l.getD p 0 = l.getD p 0) := rfl
  have hdiv : (m : Int) / 8 = (p : Int) := by omega
  have hmod : (m : Int) % 8 = (q : Int) := by omega
  have hq8 : q < 8 := by omega
  have HP : Hid (p = m / 8) := hp
  have HBW : Hid (Below w2.heap.size w2 w3) := hbw
  clear hown hg hbw HB2 hset hp hq
  generalize hxx : l.getD p 0 = x at hcell hx0 hx1
  have HXX : Hid (l.getD p 0 = x) := hxx
  clear hxx HE
  obtain ⟨b0, b1⟩ := bit_range q hq8
  obtain ⟨f0, f1, f2⟩ := flip_byte x _ hx0 hx1 b0 b1
  have HF : Hid (0 ≤ bits .xor .u8 x (2 ^ q % 256) ∧ bits .xor .u8 x (2 ^ q % 256) ≤ 255) := ⟨f0, f1⟩
  have kf := more_set_ne l p hpl HX.out _ f0 f1 (by rw [HXX.out]; exact f2)
  have kf2 : (Math.U (Math.more 0#32 (l.set p (bits .xor .u8 x (2 ^ q % 256)))) != Math.U (Math.more 0#32 (l.take len0))) = true := by
    rw [List.take_of_length_le (by rw [HL.out]; exact Nat.le_refl _)]; exact kf
  clear b0 b1 f0 f1 f2 kf
  go_wp2_with fail
  generalize bits .xor .u8 x (2 ^ q % 256) = z at HF kf2 ⊢
  have hO := HO.out z
  obtain ⟨hOl, hOr⟩ := ownsRow_reads hO (set_range HX.out p z HF.out.1 HF.out.2)
  refine (crc_at _ _ _ (l.set p z) _ ?hn ?hm ?hr).mono ?_
  case hn => exact hOl
  case hm => unfold maxLen; omega
  case hr => exact hOr
  rintro e w4 ⟨rfl, hw4⟩
  subst hw4
  clear hO hOl hOr HO
  go_wp2_with fail
  refine (crc_pre _ _ _ l _ ?hn2 ?hm2 ?hr2).mono ?_
  case hn2 => rw [HL.out]; exact Nat.le_refl _
  case hm2 => unfold maxLen; omega
  case hr2 => exact HR2.out.later (HBW.out.setCell (by exact hbg) _)
  rintro e w4 ⟨rfl, hw4⟩
  subst hw4
  go_wp2_with fail
  go_ret
  exact ⟨rfl, HB3.out.setCell (by show _ ≤ g; omega) _⟩

/-! ### THE ROW's STEP: WRITTEN OUT: LEAVE IT -/
set_option maxRecDepth 100000 in
theorem lifted (os : Os) (started : os.Started) (H : Type) (enc : TypeId × Value → H) :
    ReturnsInHanded {} Try.checked os 5 .any (Rows.sumOnSpec.pre6 enc Try.prog Try.f5 Rows.sumOnRow.domain false) (Rows.sumOnSpec.post enc Try.prog Try.f5 false true false false) := by
  refine returnsInHanded_of_change (C := Try.checked) own started (by kernel_rfl) Try.func5
    (ChangeSpec.witness6 (enc := enc) (C := Try.checked) false ⟨#[], #[.slice none 0 0, .int .i64 0, .int .i64 0], []⟩ 8 (by kernel_rfl) (by kernel_rfl) (by kernel_rfl) (by kernel_rfl)) ?_
  intro W base args ds gs before hval0 hW hcnd _
  have hval : ∀ (j : Nat) t v, Try.f5.params[j]? = some t → args[j]? = some v → Value.okWide Try.prog W .any base t v := hval0
  have hW' := hW
  obtain ⟨p, q, hA0, hV, rfl, hfz, hnd⟩ := hW
  have hA : DataW.TrodAll enc Try.prog W 0 (fun _ => true) true Try.f5.params.toList args.toList ds p := hA0
  rw [Try.params5] at hA hval
  obtain ⟨v0, vs0, d0, ds0, p0, q0, hargs, rfl, rfl, h0, r0⟩ := trodAll_cons hA
  obtain ⟨v1, vs1, d1, ds1, p1, q1, rfl, rfl, rfl, h1, r1⟩ := trodAll_cons r0
  obtain ⟨v2, vs2, d2, ds2, p2, q2, rfl, rfl, rfl, h2, r2⟩ := trodAll_cons r1
  obtain ⟨rfl, rfl, rfl⟩ := trodAll_nil r2
  obtain rfl : args = #[v0, v1, v2] := by cases args; simp_all
  obtain ⟨rfl, rfl⟩ := trodVars_none hV
  obtain ⟨a0, len0, cap0, rfl⟩ := okWide_slice Try.underlying28 (hval 0 28 v0 rfl rfl)
  have k0 := h0
  have lt0 : ∀ x ∈ p0, x.block < W.heap.size := by obtain ⟨m, hm⟩ := k0; exact DataW.trod_lt m _ _ _ hm
  obtain ⟨z0, w0⟩ : ∃ zs, IsRow .u8 W a0 len0 cap0 zs := by
    obtain ⟨fuel, hf⟩ := h0
    rcases open_ints Try.underlying28 Try.underlying5 (by kernel_rfl) hf with ⟨hcs, _⟩ | ⟨x, l, c, zs, hcs, _, hl, hm, hz, _, hcell, hwz⟩
    · simp [Value.cells] at hcs
      obtain ⟨rfl, rfl, rfl⟩ := hcs
      exact ⟨[], .inl ⟨rfl, rfl, rfl, rfl⟩⟩
    · simp [Value.cells] at hcs
      obtain ⟨rfl, rfl, rfl⟩ := hcs
      exact ⟨zs, .inr ⟨_, rfl, hl, hm, by simpa using hz, hcell, hwz⟩⟩
  obtain ⟨a1, rfl, rfl, rfl, w1⟩ := open_int Try.underlying3 (hval 1 3 v1 rfl rfl) h1
  obtain ⟨a2, rfl, rfl, rfl, w2⟩ := open_int Try.underlying3 (hval 2 3 v2 rfl rfl) h2
  clear hA0 hval0
  refine (walk a0 len0 cap0 z0 a1 a2 W w0 w1 w2).mono fun e W' ⟨he, bel⟩ => ?_
  subst he
  exact ⟨_, rfl, _, _, _, [], _, [], hW', trodAll_mk1 (shut_bool Try.underlying4 _), (trodAll_cons_mk (Below.trod laidOut (by kernel_rfl) (of_decide_eq_true (by kernel_rfl)) k0 bel lt0) (trodAll_cons_mk (shut_int Try.underlying3 w1) (trodAll_cons_mk (shut_int Try.underlying3 w2) trodAll_mk0))), rfl, bel.frame _, fun h => by cases h⟩

theorem over : Rows.sumOnRow.holds Try.pinned (OpenSpec.ofChange Rows.sumOnSpec) :=
  OpenClaim.holds_of_wide 5 Try.f5 rfl rfl rfl rfl rfl rfl rfl ⟨rfl, rfl, rfl, rfl, rfl⟩ rfl rfl rfl rfl rfl (by kernel_rfl) Try.func5 (by kernel_rfl)
    (of_decide_eq_true (by kernel_rfl)) (by unfold Func.isWrapper; first | (rw [if_pos (by decide +kernel)]; kernel_rfl) | (rw [if_neg (by decide +kernel)]; exact ⟨rfl, rfl⟩))
    (fun os started H enc _ => lifted os started H enc)

/-- ████ THE STATEMENT ████ -/
theorem proved : Rows.SumOnSaid := over
end Go.Proofs.Ytgfmonnjpphihaa.sumOn
namespace Go.Proofs.Ytgfmonnjpphihaa
theorem sumOn_holds : Rows.SumOnSaid := sumOn.proved
#print axioms sumOn_holds
end Go.Proofs.Ytgfmonnjpphihaa
