/-
  SumBursts answers true for every slice of bytes, every place and every four bytes: any change within four bytes one behind the other changes the sum.
  Conditions: none.
-/
import Derived.Test.YtgfmonnjpphihabRows
import Derived.WalkKit
import Derived.ProofKit
import Derived.OpenShut
import Derived.ShutString
import Derived.ChangeOld
import Derived.Below
import Derived.Deep.RegionWith
import Derived.Laws.IdiomArrays
import Derived.ChangeKeysEq
import Derived.Test.YtgfmonnjpphihabAwake
import Derived.Test.YtgfmonnjpphihabFour
namespace Go.Proofs.Ytgfmonnjpphihab.sumBursts
open Go.ChangeShapes Go.WideShapes Go.ChangeAt Go.RowKit
open Go.ChangeMaps (open_string shut_string)
set_option linter.unusedVariables false

theorem own : ownKnob Try.prog.godebug = none := by kernel_rfl
theorem laidOut : laidOutB Try.prog = true := by kernel_rfl

theorem below_box {w w1 : World} {o : Obj} (hb : Below (w.alloc o).heap.size (w.alloc o) w1) : Below w.heap.size w w1 :=
  ((Below.refl _ _).alloc (Nat.le_refl _) o).trans (hb.mono (by simp))
theorem box_cells {w w1 : World} {y0 y1 y2 y3 : Value} (hb : Below (w.alloc (.cells #[y0, y1, y2, y3] 23)).heap.size (w.alloc (.cells #[y0, y1, y2, y3] 23)) w1) :
    w1.cell? ⟨w.heap.size, 0, none⟩ = some y0 ∧ w1.cell? ⟨w.heap.size, 1, none⟩ = some y1 ∧ w1.cell? ⟨w.heap.size, 2, none⟩ = some y2 ∧ w1.cell? ⟨w.heap.size, 3, none⟩ = some y3 := by
  refine ⟨cell_later hb ?_, cell_later hb ?_, cell_later hb ?_, cell_later hb ?_⟩ <;> simp [World.cell?, World.alloc, -World.alloc_eq]

theorem list4 {α : Type} (l : List α) (h : (⟨l⟩ : Array α).size = 4) : ∃ a b c d, l = [a, b, c, d] := by
  match l, h with
  | [a, b, c, d], _ => exact ⟨a, b, c, d, rfl⟩

/-- Four bytes against four noughts. -/
theorem eq_four (y0 y1 y2 y3 : Int) (r : Bool) (hr : r = (y0 == 0 && (y1 == 0 && (y2 == 0 && y3 == 0)))) (w : World) :
    (Op.equalIn 10000 23 (.agg #[.int .u8 y0, .int .u8 y1, .int .u8 y2, .int .u8 y3]) (.agg #[.int .u8 0, .int .u8 0, .int .u8 0, .int .u8 0])).run Try.prog w = .ok r w := by
  obtain ⟨i, hi, _⟩ := Option.map_eq_some_iff.1 info5
  have hc : Try.prog.cellsOf 5 = 1 := by kernel_rfl
  have hp : Try.prog.plainKey 5 = true := by kernel_rfl
  rw [run_equalIn_array w 9999 _ _ Try.underlying23 hi, hc, show List.range 4 = [0, 1, 2, 3] from rfl]
  have P : ∀ (xs : Array Value) (k : Nat) (v : Value), xs[k]? = some v → (part 5 xs k).run Try.prog w = .ok v w := fun xs k v h => run_part_plain w hp h
  have E : ∀ a b : Int, (Op.equalIn 9999 5 (.int .u8 a) (.int .u8 b)).run Try.prog w = .ok (a == b) w := fun a b => run_equalIn_int w 9998 5 .u8 .u8 a b Try.underlying5
  have a0 := P #[.int .u8 y0, .int .u8 y1, .int .u8 y2, .int .u8 y3] 0 (.int .u8 y0) rfl
  have a1 := P #[.int .u8 y0, .int .u8 y1, .int .u8 y2, .int .u8 y3] 1 (.int .u8 y1) rfl
  have a2 := P #[.int .u8 y0, .int .u8 y1, .int .u8 y2, .int .u8 y3] 2 (.int .u8 y2) rfl
  have a3 := P #[.int .u8 y0, .int .u8 y1, .int .u8 y2, .int .u8 y3] 3 (.int .u8 y3) rfl
  have b0 := P #[.int .u8 0, .int .u8 0, .int .u8 0, .int .u8 0] 0 (.int .u8 0) rfl
  have b1 := P #[.int .u8 0, .int .u8 0, .int .u8 0, .int .u8 0] 1 (.int .u8 0) rfl
  have b2 := P #[.int .u8 0, .int .u8 0, .int .u8 0, .int .u8 0] 2 (.int .u8 0) rfl
  have b3 := P #[.int .u8 0, .int .u8 0, .int .u8 0, .int .u8 0] 3 (.int .u8 0) rfl
  subst hr
  simp only [Op.eqItems, Sem.run_bind, Nat.mul_one, a0, b0, Result.andThen_ok, E]
  cases h0 : (y0 == 0)
  · simp
  simp only [Bool.not_true, Bool.false_eq_true, if_false, Sem.run_bind, a1, b1, Result.andThen_ok, E, Bool.true_and]
  cases h1 : (y1 == 0)
  · simp
  simp only [Bool.not_true, Bool.false_eq_true, if_false, Sem.run_bind, a2, b2, Result.andThen_ok, E, Bool.true_and]
  cases h2 : (y2 == 0)
  · simp
  simp only [Bool.not_true, Bool.false_eq_true, if_false, Sem.run_bind, a3, b3, Result.andThen_ok, E, Bool.true_and]
  cases h3 : (y3 == 0) <;> simp

/-- The byte of the change at place k. -/
theorem box_at {w1 wr : World} {N : Nat} {y0 y1 y2 y3 : Int} (h : w1.cell? ⟨N, 0, none⟩ = some (.int .u8 y0) ∧ w1.cell? ⟨N, 1, none⟩ = some (.int .u8 y1) ∧ w1.cell? ⟨N, 2, none⟩ = some (.int .u8 y2) ∧ w1.cell? ⟨N, 3, none⟩ = some (.int .u8 y3))
    (hb : Below w1.heap.size w1 wr) (k : Nat) (hk : k < 4) : wr.cell? ⟨N, k, none⟩ = some (.int .u8 ([y0, y1, y2, y3].getD k 0)) := by
  have : k = 0 ∨ k = 1 ∨ k = 2 ∨ k = 3 := by omega
  rcases this with rfl | rfl | rfl | rfl
  · exact cell_later hb h.1
  · exact cell_later hb h.2.1
  · exact cell_later hb h.2.2.1
  · exact cell_later hb h.2.2.2

/-! The walk: the Go text returns true, and writes nothing that was there. -/
set_option maxHeartbeats 2000000 in
theorem walk (a0 : Option Addr) (len0 cap0 : Nat) (z0 : List Int) (a1 : Int) (y0 y1 y2 y3 : Int) (w : World) (w0 : IsRow .u8 w a0 len0 cap0 z0) (w1 : (Lit.int .i64 a1).wf = true)
    (v0 : 0 ≤ y0 ∧ y0 ≤ 255) (v1 : 0 ≤ y1 ∧ y1 ≤ 255) (v2 : 0 ≤ y2 ∧ y2 ≤ 255) (v3 : 0 ≤ y3 ∧ y3 ≤ 255) :
    Calls Try.prog 3 #[.slice a0 len0 cap0, .int .i64 a1, .agg #[.int .u8 y0, .int .u8 y1, .int .u8 y2, .int .u8 y3]] w fun e w' => e = .returned (.bool true) ∧ Below w.heap.size w w' := by
  obtain ⟨c0, c1⟩ := int_range w1
  clear w1
  obtain ⟨hlen, hr0, hnil, hmax⟩ := w0.reads
  generalize z0.take len0 = l at hlen hr0
  have HR : Hid (Reads w a0 l) := hr0
  have HL : Hid (l.length = len0) := hlen
  have HN : Hid (a0 = none → cap0 = 0) := hnil
  clear hr0 hlen hnil w0
  by_cases hl1 : 3000 < len0
  · go_enter Try.func3, Try.ntmps3
    go_wp2_with fail
    refine (awake_any _).mono ?_
    rintro e w1 ⟨rfl, hb⟩
    go_wp2
    go_ret
    exact ⟨rfl, below_box hb⟩
  by_cases hc1 : a1 < 0
  · go_enter Try.func3, Try.ntmps3
    go_wp2_with fail
    refine (awake_any _).mono ?_
    rintro e w1 ⟨rfl, hb⟩
    go_wp2
    go_ret
    exact ⟨rfl, below_box hb⟩
  by_cases hc2 : (len0 : Int) - 4 < a1
  · go_enter Try.func3, Try.ntmps3
    go_wp2_with fail
    refine (awake_any _).mono ?_
    rintro e w1 ⟨rfl, hb⟩
    go_wp2
    go_ret
    exact ⟨rfl, below_box hb⟩
  obtain ⟨p, rfl⟩ := Int.eq_ofNat_of_zero_le (show 0 ≤ a1 by omega)
  clear c0 c1
  by_cases hy : y0 = 0 ∧ y1 = 0 ∧ y2 = 0 ∧ y3 = 0
  · have heq := eq_four y0 y1 y2 y3 true (by obtain ⟨rfl, rfl, rfl, rfl⟩ := hy; rfl)
    clear hy
    go_enter Try.func3, Try.ntmps3
    go_wp2_with fail
    refine (awake_any _).mono ?_
    rintro e w1 ⟨rfl, hb⟩
    have HB : Hid (Below w.heap.size w w1) := below_box hb
    obtain ⟨hb0, hb1, hb2, hb3⟩ := box_cells hb
    clear hb
    go_wp2
    go_ret
    exact ⟨rfl, HB.out⟩
  have heq := eq_four y0 y1 y2 y3 false (by
    symm
    simp only [Bool.and_eq_false_iff, beq_eq_false_iff_ne]
    by_cases e0 : y0 = 0
    · by_cases e1 : y1 = 0
      · by_cases e2 : y2 = 0
        · exact .inr (.inr (.inr fun e3 => hy ⟨e0, e1, e2, e3⟩))
        · exact .inr (.inr (.inl e2))
      · exact .inr (.inl e1)
    · exact .inl e0)
  have HY : Hid (¬ (y0 = 0 ∧ y1 = 0 ∧ y2 = 0 ∧ y3 = 0)) := hy
  clear hy
  go_enter Try.func3, Try.ntmps3
  go_wp2_with fail
  refine (awake_any _).mono ?_
  rintro e w1 ⟨rfl, hb⟩
  have HB : Hid (Below w.heap.size w w1) := below_box hb
  have hbox := box_cells hb
  have HR1 : Hid (Reads w1 a0 l) := HR.out.later (below_box hb)
  have hsz : w.heap.size + 1 ≤ w1.heap.size := by have := hb.size; simp at this; omega
  obtain ⟨hb0, hb1, hb2, hb3⟩ := hbox
  have HX : Hid (w1.cell? ⟨w.heap.size, 0, none⟩ = some (.int .u8 y0) ∧ w1.cell? ⟨w.heap.size, 1, none⟩ = some (.int .u8 y1) ∧ w1.cell? ⟨w.heap.size, 2, none⟩ = some (.int .u8 y2) ∧ w1.cell? ⟨w.heap.size, 3, none⟩ = some (.int .u8 y3)) := ⟨hb0, hb1, hb2, hb3⟩
  clear hb HR
  go_wp2_with (at_builtin; refine wpList_append_bytes rfl _ _ rfl w1.heap.size _ 0 [] rfl (World.ownsRow_made _ #[] 0 (Nat.le_refl _) (by unfold maxLen; omega) rfl) a0 len0 cap0 l rfl HL.out (HR1.out.later ((Below.refl _ _).alloc (Nat.le_refl _) _)) HN.out (by omega) (by simp) ?_)
  intro a' c' w2 hown hg
  have hbw : Below w1.heap.size w1 w2 := ((Below.refl _ _).alloc (Nat.le_refl _) _).grown hg (by simp) (fun k e => by simp [Value.ownBlock] at e; omega)
  have hpl : p < l.length := by have := HL.out; omega
  obtain ⟨g, hga, hbg, hj1, hj2, hj3⟩ := own_byte hown p hpl
  subst hga
  clear hj1 hj2 hj3
  have HO : Hid (w2.ownsRow w1.heap.size 5 1 (.slice (some ⟨g, 0, none⟩) len0 c') len0 (l.map (Value.int .u8))) := hown
  have HBW : Hid (Below w1.heap.size w1 w2) := hbw
  clear hown hg hbw hb0 hb1 hb2 hb3 heq
  go_wp2_with fail
  go_loopw [8] (fun i wr => ∃ k : Nat, k ≤ 4 ∧ i = .int .i64 k ∧ wr.ownsRow w1.heap.size 5 1 (.slice (some ⟨g, 0, none⟩) len0 c') len0 ((upd l (four l p y0 y1 y2 y3) p k).map (Value.int .u8)) ∧ Below w1.heap.size w1 wr) (fun i _ => 4 - (intOf i).toNat)
  case atStart => exact ⟨0, Nat.zero_le _, rfl, by rw [upd_zero]; exact HO.out, HBW.out⟩
  case round =>
    obtain ⟨k, hk, rfl, hown, hbel⟩ := hrel
    by_cases hlt : k < 4
    · have hpk : p + k < l.length := by have := HL.out; omega
      obtain ⟨g', hg', _, hcell, hfz, hset⟩ := own_byte hown (p + k) (by rw [upd_length _ _ _ _ (by omega) (by simp [four]; omega)]; exact hpk)
      have hgg : g' = g := by injection hg' with h1; injection h1 with h2; exact h2.symm
      subst hgg
      have hcy := box_at HX.out hbel k hlt
      have HS : Hid (∀ z, z = (four l p y0 y1 y2 y3).getD k 0 → (wr.setCell ⟨g', p + k, none⟩ (.int .u8 z)).ownsRow w1.heap.size 5 1 (.slice (some ⟨g', 0, none⟩) len0 c') len0 ((upd l (four l p y0 y1 y2 y3) p (k + 1)).map (Value.int .u8))) := by
        intro z hz
        have := hset z
        rw [hz, upd_set _ _ _ _ hpk (by simp [four]; omega)] at this
        rw [hz]; exact this
      have HBE : Hid (Below w1.heap.size w1 wr) := hbel
      rw [upd_get _ _ _ _ hpk (by simp [four]; omega)] at hcell
      have HG := four_get l p y0 y1 y2 y3 k hlt
      generalize l.getD (p + k) 0 = x at hcell HG
      generalize [y0, y1, y2, y3].getD k 0 = y at hcy HG
      have HZ : Hid ((four l p y0 y1 y2 y3).getD k 0 = bits .xor .u8 x y) := HG
      clear HG hset hown hbel hg'
      have hkI : (k : Int) < 4 := by omega
      have hkI0 : (0 : Int) ≤ (k : Int) := by omega
      have hpI : (p : Int) + (k : Int) < (len0 : Int) := by omega
      go_wp2_with fail
      go_region
      all_goals
        go_wp2
        go_roundw
        case rel =>
          have hr := HS.out _ HZ.out.symm
          have hb := HBE.out.setCell (show w1.heap.size ≤ (⟨g', p + k, none⟩ : Addr).block from hbg) (.int .u8 (bits .xor .u8 x y))
          first | exact ⟨k + 1, by omega, by go_num, hr, hb.drew⟩ | ((repeat apply Exists.intro); exact ⟨⟨k + 1, by omega, by go_num, hr, hb.drew⟩, rfl⟩)
        case measure => simp [intOf]; omega
    · have hk4 : k = 4 := by omega
      subst hk4
      have hrange := upd_range l (four l p y0 y1 y2 y3) p 4 HR1.out.2 (four_range l p y0 y1 y2 y3 HR1.out.2 v0 v1 v2 v3)
      have HF : Hid ((Math.U (Math.more 0#32 (upd l (four l p y0 y1 y2 y3) p 4)) != Math.U (Math.more 0#32 l)) = true) :=
        more_four_ne l p (by have := HL.out; omega) HR1.out.2 y0 y1 y2 y3 v0 v1 v2 v3 HY.out
      obtain ⟨hlu, hru⟩ := ownsRow_reads hown hrange
      generalize upd l (four l p y0 y1 y2 y3) p 4 = lu at hlu hru HF
      have HRU : Hid (Reads wr (some ⟨g, 0, none⟩) lu) := hru
      have HLU : Hid (lu.length = len0) := hlu
      have HRB : Hid (Reads wr a0 l) := HR1.out.later hbel
      have HBF : Hid (Below w.heap.size w wr) := HB.out.trans (hbel.mono (by omega))
      have kf := HF.out
      clear hrange hown hbel hlu hru HF HO HX HB HR1 HY HBW
      go_wp2_with fail
      refine (crc_at _ _ _ lu _ HLU.out hmax HRU.out).mono ?_
      rintro e w4 ⟨rfl, hw4⟩
      subst hw4
      go_wp2_with fail
      refine (crc_at _ _ _ l _ HL.out hmax HRB.out).mono ?_
      rintro e w4 ⟨rfl, hw4⟩
      subst hw4
      go_wp2_with fail
      go_ret
      exact ⟨rfl, HBF.out⟩

/-! ### THE ROW's STEP: WRITTEN OUT: LEAVE IT -/
set_option maxRecDepth 100000 in
theorem lifted (os : Os) (started : os.Started) (H : Type) (enc : TypeId × Value → H) :
    ReturnsInHanded {} Try.checked os 3 .any (Rows.sumBurstsSpec.pre6 enc Try.prog Try.f3 Rows.sumBurstsRow.domain false) (Rows.sumBurstsSpec.post enc Try.prog Try.f3 false true false false) := by
  refine returnsInHanded_of_change (C := Try.checked) own started (by kernel_rfl) Try.func3
    (ChangeSpec.witness6 (enc := enc) (C := Try.checked) false ⟨#[], #[.slice none 0 0, .int .i64 0, .agg #[.int .u8 0, .int .u8 0, .int .u8 0, .int .u8 0]], []⟩ 8 (by kernel_rfl) (by kernel_rfl) (by kernel_rfl) (by kernel_rfl)) ?_
  intro W base args ds gs before hval0 hW hcnd _
  have hval : ∀ (j : Nat) t v, Try.f3.params[j]? = some t → args[j]? = some v → Value.okWide Try.prog W .any base t v := hval0
  have hW' := hW
  obtain ⟨p, q, hA0, hV, rfl, hfz, hnd⟩ := hW
  have hA : DataW.TrodAll enc Try.prog W 0 (fun _ => true) true Try.f3.params.toList args.toList ds p := hA0
  rw [Try.params3] at hA hval
  obtain ⟨v0, vs0, d0, ds0, p0, q0, hargs, rfl, rfl, h0, r0⟩ := trodAll_cons hA
  obtain ⟨v1, vs1, d1, ds1, p1, q1, rfl, rfl, rfl, h1, r1⟩ := trodAll_cons r0
  obtain ⟨v2, vs2, d2, ds2, p2, q2, rfl, rfl, rfl, h2, r2⟩ := trodAll_cons r1
  obtain ⟨rfl, rfl, rfl⟩ := trodAll_nil r2
  obtain rfl : args = #[v0, v1, v2] := by cases args; simp_all
  obtain ⟨rfl, rfl⟩ := trodVars_none hV
  obtain ⟨a0, len0, cap0, rfl⟩ := okWide_slice Try.underlying22 (hval 0 22 v0 rfl rfl)
  have k0 := h0
  have lt0 : ∀ x ∈ p0, x.block < W.heap.size := by obtain ⟨m, hm⟩ := k0; exact DataW.trod_lt m _ _ _ hm
  obtain ⟨z0, w0⟩ : ∃ zs, IsRow .u8 W a0 len0 cap0 zs := by
    obtain ⟨fuel, hf⟩ := h0
    rcases open_ints Try.underlying22 Try.underlying5 (by kernel_rfl) hf with ⟨hcs, _⟩ | ⟨x, l, c, zs, hcs, _, hl, hm, hz, _, hcell, hwz⟩
    · simp [Value.cells] at hcs
      obtain ⟨rfl, rfl, rfl⟩ := hcs
      exact ⟨[], .inl ⟨rfl, rfl, rfl, rfl⟩⟩
    · simp [Value.cells] at hcs
      obtain ⟨rfl, rfl, rfl⟩ := hcs
      exact ⟨zs, .inr ⟨_, rfl, hl, hm, by simpa using hz, hcell, hwz⟩⟩
  obtain ⟨a1, rfl, rfl, rfl, w1⟩ := open_int Try.underlying3 (hval 1 3 v1 rfl rfl) h1
  obtain ⟨cs, rfl, hszc, _⟩ : ∃ cs, v2 = .agg cs ∧ cs.size = Try.prog.cellsOf 23 ∧ Row.okWide Try.prog W .any base 23 cs := by
    have := hval 2 23 v2 rfl rfl
    simpa [Value.okWide, Try.underlying23] using this
  rw [show Try.prog.cellsOf 23 = 4 by kernel_rfl] at hszc
  obtain ⟨lc⟩ := cs
  obtain ⟨e0, e1, e2, e3, rfl⟩ := list4 lc hszc
  have k2 := h2
  have lt2 : ∀ x ∈ p2, x.block < W.heap.size := by obtain ⟨m, hm⟩ := k2; exact DataW.trod_lt m _ _ _ hm
  obtain ⟨fuel2, hf2⟩ := h2
  obtain ⟨g0, g1, g2, g3, m2, _, hy0, hy1, hy2, hy3⟩ := trod_array4 Try.underlying23 (by kernel_rfl) hf2
  obtain ⟨x0, q0, _, u0⟩ := DataW.trod_int Try.underlying5 hy0
  obtain ⟨x1, q1, _, u1⟩ := DataW.trod_int Try.underlying5 hy1
  obtain ⟨x2, q2, _, u2⟩ := DataW.trod_int Try.underlying5 hy2
  obtain ⟨x3, q3, _, u3⟩ := DataW.trod_int Try.underlying5 hy3
  simp at q0 q1 q2 q3
  subst q0 q1 q2 q3
  clear hA0 hval0
  refine (walk a0 len0 cap0 z0 a1 x0 x1 x2 x3 W w0 w1 (byte_range u0) (byte_range u1) (byte_range u2) (byte_range u3)).mono fun e W' ⟨he, bel⟩ => ?_
  subst he
  exact ⟨_, rfl, _, _, _, [], _, [], hW', trodAll_mk1 (shut_bool Try.underlying4 _), (trodAll_cons_mk (Below.trod laidOut (by kernel_rfl) (of_decide_eq_true (by kernel_rfl)) k0 bel lt0) (trodAll_cons_mk (shut_int Try.underlying3 w1) (trodAll_cons_mk (Below.trod laidOut (by kernel_rfl) (of_decide_eq_true (by kernel_rfl)) k2 bel lt2) trodAll_mk0))), rfl, bel.frame _, fun h => by cases h⟩

theorem over : Rows.sumBurstsRow.holds Try.pinned (OpenSpec.ofChange Rows.sumBurstsSpec) :=
  OpenClaim.holds_of_wide 3 Try.f3 rfl rfl rfl rfl rfl rfl rfl ⟨rfl, rfl, rfl, rfl, rfl⟩ rfl rfl rfl rfl rfl (by kernel_rfl) Try.func3 (by kernel_rfl)
    (of_decide_eq_true (by kernel_rfl)) (by unfold Func.isWrapper; first | (rw [if_pos (by decide +kernel)]; kernel_rfl) | (rw [if_neg (by decide +kernel)]; exact ⟨rfl, rfl⟩))
    (fun os started H enc _ => lifted os started H enc)

/-- ████ THE STATEMENT ████ -/
theorem proved : Rows.SumBurstsSaid := over
end Go.Proofs.Ytgfmonnjpphihab.sumBursts
namespace Go.Proofs.Ytgfmonnjpphihab
theorem sumBursts_holds : Rows.SumBurstsSaid := sumBursts.proved
#print axioms sumBursts_holds
end Go.Proofs.Ytgfmonnjpphihab
