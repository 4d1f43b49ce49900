/-
  DramClear at its seat: a tied card.
-/
import Derived.Test.YtdkiegkgnimapaaDoorCards
import Derived.Test.YtdkiegkgnimapaaDoorTie
import Derived.WalkKit
import Derived.ProofKit
import Derived.OpenShut
import Derived.ShutString
import Derived.ChangeOld
import Derived.Deep.DeepHandedRow
import Derived.Lib.LaidTab
import Derived.Stop.LaidErr
import Derived.LaidMore
import Derived.Test.YtdkiegkgnimapaaDoorCr
namespace Go.Proofs.YtdkiegkgnimapaaDoor.dramClear
open Go.ChangeShapes Go.WideShapes Go.ChangeAt Go.RowKit Go.Deep Go.Shelf Drm
open Tbl (txt)
open Slb (size_of)
set_option linter.unusedVariables false
set_option linter.unusedSimpArgs false


set_option maxHeartbeats 4000000 in
set_option maxRecDepth 8000 in
/-- The walk: the Go text returns true, and writes nothing that was there. -/
theorem walk (w : World) (a0 : Int) (w0 : (Lit.int .i64 a0).wf = true) (a1 : Option Addr) (len1 cap1 : Nat) (z1 : List It) (w1 : ItsAt w a1 len1 z1) (htab : Slb.Tab w) :
    Calls Tryd.prog 7 #[.int .i64 a0, .slice a1 len1 cap1] w fun e w' => e = .returned (.bool true) ∧ Below w.heap.size w w' := by
  have ca := hide (awake_any w htab)
  by_cases x0 : a0 < 1
  · clear w0 w1
    go_enter Tryd.func7, Tryd.ntmps7
    go_wp2_with fail
    refine ca.out.mono ?_
    rintro e W1 ⟨rfl, h1⟩
    have B1 := hide h1
    clear h1 ca
    go_wp2
    go_ret
    exact ⟨rfl, B1.out⟩
  by_cases x1 : 6 < a0
  · clear w0 w1
    go_enter Tryd.func7, Tryd.ntmps7
    go_wp2_with fail
    refine ca.out.mono ?_
    rintro e W1 ⟨rfl, h1⟩
    have B1 := hide h1
    clear h1 ca
    go_wp2
    go_ret
    exact ⟨rfl, B1.out⟩
  by_cases x2 : (40 : Int) < (len1 : Int)
  · clear w0 w1
    go_enter Tryd.func7, Tryd.ntmps7
    go_wp2_with fail
    refine ca.out.mono ?_
    rintro e W1 ⟨rfl, h1⟩
    have B1 := hide h1
    clear h1 ca
    go_wp2
    go_ret
    exact ⟨rfl, B1.out⟩
  obtain ⟨n, rfl⟩ : ∃ n : Nat, a0 = (n : Int) := ⟨a0.toNat, by omega⟩
  have HW := hide w1
  have HT := hide htab
  have HN : Hid (1 ≤ n ∧ n ≤ 6) := by show _ ∧ _; omega
  have hnP : n ≤ 6 := by omega
  have hlM : len1 ≤ 40 := by omega
  clear w0 w1 htab
  go_enter Tryd.func7, Tryd.ntmps7
  go_wp2_with fail
  refine ca.out.mono ?_
  rintro e W1 ⟨rfl, b1⟩
  have cN := hide (new_d b1 HT.out n HN.out.1 (by have := HN.out.2; omega))
  clear ca b1
  go_wp2_with fail
  refine cN.out.mono ?_
  rintro e W2 ⟨c, rfl, h2, -, -⟩
  have H2 := hide h2
  clear cN h2 x0 x1 x2
  go_wp2
  go_loopg [7] len1 (fun kx s7 wr => ∃ (i : Nat) (d : Dm), s7 = .int .i64 i ∧ Hid (i ≤ len1 ∧ len1 - i ≤ kx ∧ DL w c d wr ∧ d.pg.length = n))
  case atStart => exact ⟨0, _, rfl, Nat.zero_le _, Nat.le_refl _, H2.out, by simp [new0]⟩
  case round =>
    clear H2
    obtain ⟨i, d, rfl, I⟩ := hrel
    by_cases hlt : i < len1
    · have hlt2 : (i : Int) < (len1 : Int) := by omega
      obtain ⟨b, o, ⟨k, v, fl, ex, ve⟩, rfl, hx, hraw, ⟨q0, q1, q2, q3, q4⟩⟩ := HW.out.at I.out.2.2.1.bel i hlt
      simp only at q0 q1 q2 q3 q4
      obtain ⟨kb, hkb⟩ : ∃ kb, kb = txt k := ⟨_, rfl⟩
      obtain ⟨vb, hvb⟩ : ∃ vb, vb = txt v := ⟨_, rfl⟩
      rw [← hkb] at q0
      rw [← hvb] at q1
      have HKB := hide hkb
      have HVB := hide hvb
      have HR := hide hraw
      have HK := hide I.out.2.1
      clear hx hraw hkb hvb
      cases hmb : mayBe k.length v.length ve.toNat with
      | false =>
        have cT := hide (put_bad I.out.2.2.1 kb vb fl ex ve.toNat false (by rw [HKB.out, HVB.out, txt_sz, txt_sz]; exact hmb))
        rw [show ((ve.toNat : Nat) : Int) = ve from Int.toNat_of_nonneg HR.out.2.2.2.2.1] at cT
        unfold iV at cT
        have HP := hide I.out.2.2.2
        clear hmb I
        go_wp2_with fail
        refine cT.out.mono ?_
        rintro e W5 ⟨rfl, h5, -⟩
        have H5 := hide h5
        clear cT h5 q0 q1 q2 q3 q4
        go_wp2
        go_roundg (len1 - (i + 1))
        case measure => have := HK.out; omega
        case rel => exact ⟨i + 1, d, rfl, by omega, Nat.le_refl _, H5.out, HP.out⟩
      | true =>
        have hok : It.ok ⟨k, v, fl, ex, ve⟩ := ok_of HR.out hmb
        have hk6 := (kls_ok hok).1
        have cT := hide (put_ok I.out.2.2.1 ⟨⟨k, v, fl, ex, ve⟩, false⟩ hok)
        have HP := hide ((I.out.2.2.1.iv.put hk6 (o := ⟨⟨k, v, fl, ex, ve⟩, false⟩) hok).2.trans I.out.2.2.2)
        unfold itV at cT
        simp only at cT
        rw [← HKB.out, ← HVB.out] at cT
        clear hmb hok hk6 I
        go_wp2_with fail
        refine cT.out.mono ?_
        rintro e W5 ⟨va, q, vc, rfl, -, h5, -, -⟩
        have H5 := hide h5
        clear cT h5 q0 q1 q2 q3 q4
        go_wp2
        go_roundg (len1 - (i + 1))
        case measure => have := HK.out; omega
        case rel => exact ⟨i + 1, _, rfl, by omega, Nat.le_refl _, H5.out, HP.out⟩
    · have hlt2 : ¬ (i : Int) < (len1 : Int) := by omega
      have cC := hide (clear_d I.out.2.2.1)
      have HP := hide I.out.2.2.2
      clear I
      obtain ⟨zb, hzb⟩ : ∃ zb, zb = txt bigV := ⟨_, rfl⟩
      have HZ := hide hzb
      have cB : Hid (∀ k W, Calls Tryd.prog 19 #[.string k] W fun e w' => e = .returned (.agg #[.string k, .string zb, .int .u32 0, .int .i64 0, .int .u64 1]) ∧ Below W.heap.size W w') := fun k W => big_at k zb hzb W
      clear hzb
      go_wp2_with fail
      refine cC.out.mono ?_
      rintro e W3 ⟨rfl, l, -, hl2, h3, -⟩
      have hz := dropAll_it l d (fun x hx => (hl2 x).2 hx)
      have hpg := (dropAll_pg l d).trans HP.out
      obtain ⟨d3, hd3⟩ : ∃ d3, d3 = dropAll l d := ⟨_, rfl⟩
      rw [← hd3] at h3 hz hpg
      have H3 := hide h3
      have h5 := none5 h3.iv hz
      have cL := hide (len_d H3.out)
      rw [hz] at cL
      simp only [List.length_nil] at cL
      have cI := hide (items_d H3.out)
      unfold ItP at cI
      rw [none_items h3.iv hz 6 (Nat.le_refl _)] at cI
      simp only [List.length_nil] at cI
      have H5 := hide h5
      have HZI := hide hz
      have HPG := hide hpg
      clear cC hl2 h3 hz hpg hd3 h5 HP
      go_wp2_with fail
      refine cL.out.mono ?_
      rintro e wx ⟨rfl, hx⟩
      obtain rfl : W3 = wx := hx.symm
      clear hx cL
      go_wp2_with fail
      refine cI.out.mono ?_
      rintro e W4 ⟨ia, ic, rfl, -, h4, -⟩
      have H4 := hide h4
      clear cI h4 H3
      go_wp2
      go_loopg [8] (2 * n) (fun kx s8 wr => ∃ (i : Nat) (d : Dm), s8 = .int .i64 i ∧ Hid (i ≤ 2 * n ∧ 2 * n - i ≤ kx ∧ DL w c d wr ∧ d.pg.length = n ∧ All5 d.pg ∧ d.it.length = i ∧ ∀ k ∈ kys d.it, ∃ j, j < i ∧ k = [UInt8.ofNat (j + 1)]))
      case atStart => exact ⟨0, d3, rfl, Nat.zero_le _, Nat.le_refl _, H4.out, HPG.out, H5.out, by rw [HZI.out]; rfl, fun k hk => by rw [HZI.out] at hk; simp [kys] at hk⟩
      case round =>
        clear H4 H5 HZI HPG
        obtain ⟨i, d, rfl, I⟩ := hrel
        obtain ⟨i1, i2, i3, i4, i5, i6, i7⟩ := I.out
        by_cases hlt : i < 2 * n
        · have hlt2 : (i : Int) < 2 * (n : Int) := by omega
          have hi12 : i ≤ 12 := by omega
          have hto : ((UInt8.ofNat (i + 1)).toNat : Int) = (i : Int) + 1 := by
            rw [UInt8.toNat_ofNat', Nat.mod_eq_of_lt (by omega)]
            omega
          have hnk : [UInt8.ofNat (i + 1)] ∉ kys d.it := fun hm => by
            obtain ⟨j, hj, he⟩ := i7 _ hm
            have h1 := congrArg (fun l => l.map UInt8.toNat) he
            simp only [List.map_cons, List.map_nil, List.cons.injEq, and_true] at h1
            rw [UInt8.toNat_ofNat', UInt8.toNat_ofNat', Nat.mod_eq_of_lt (by omega), Nat.mod_eq_of_lt (by omega)] at h1
            omega
          obtain ⟨m1, m2, m3, m4⟩ := more5 i3.iv i5 (o := ⟨bigI [UInt8.ofNat (i + 1)], false⟩) hnk (by rw [i4, i6]; exact hlt)
          have HIN : Hid (∀ W', DL w c (putD 5 ⟨bigI [UInt8.ofNat (i + 1)], false⟩ d) W' → i + 1 ≤ 2 * n ∧ 2 * n - (i + 1) ≤ 2 * n - (i + 1) ∧ DL w c (putD 5 ⟨bigI [UInt8.ofNat (i + 1)], false⟩ d) W' ∧ (putD 5 ⟨bigI [UInt8.ofNat (i + 1)], false⟩ d).pg.length = n ∧ All5 (putD 5 ⟨bigI [UInt8.ofNat (i + 1)], false⟩ d).pg ∧ (putD 5 ⟨bigI [UInt8.ofNat (i + 1)], false⟩ d).it.length = i + 1 ∧ ∀ k ∈ kys (putD 5 ⟨bigI [UInt8.ofNat (i + 1)], false⟩ d).it, ∃ j, j < i + 1 ∧ k = [UInt8.ofNat (j + 1)]) := fun W' h => by
            refine ⟨by omega, Nat.le_refl _, h, ?_, m3, by rw [m2, i6], fun k hk => ?_⟩
            · exact (i3.iv.put (cl := 5) (by decide) (o := ⟨bigI [UInt8.ofNat (i + 1)], false⟩) (bigI_ok (by simp) (by simp))).2.trans i4
            · rw [m4] at hk
              rcases List.mem_append.1 hk with h1 | h1
              · obtain ⟨j, h2, h3⟩ := i7 k h1
                exact ⟨j, by omega, h3⟩
              · exact ⟨i, by omega, List.mem_singleton.1 h1⟩
          obtain ⟨kb, hkb⟩ : ∃ kb, kb = txt [UInt8.ofNat (i + 1)] := ⟨_, rfl⟩
          obtain ⟨X0, hX0⟩ : ∃ X, X = wr.alloc (.cells #[.int .u8 ((i : Int) + 1)] 5) := ⟨_, rfl⟩
          have b0 : Below wr.heap.size wr X0 := by rw [hX0]; exact (Below.refl _ wr).alloc (Nat.le_refl _) _
          have hcv : (convert 52 9 (.slice (some ⟨wr.heap.size, 0, none⟩) 1 1)).run Tryd.prog X0 = .ok (.string kb) X0 := by
            rw [hkb]
            refine conv1 (UInt8.ofNat (i + 1)) ?_
            rw [hto, hX0]
            exact (Blk.new wr [.int .u8 ((i : Int) + 1)] 5).cell rfl
          have H0 := hide (i3.on b0)
          have HX0 := hide hX0
          have HKB := hide hkb
          have HG := hide m1
          have HK := hide i2
          rw [hX0] at hcv
          clear i1 i2 i3 i4 i5 i6 i7 I hnk m1 m2 m3 m4 hkb hX0 b0 hto
          go_wp2_with fail
          refine (cB.out _ _).mono ?_
          rintro e W5 ⟨rfl, b5⟩
          rw [← HX0.out] at b5
          have cA := hide (put_big (H0.out.on b5) [UInt8.ofNat (i + 1)] (by simp) (by simp) false kb zb HKB.out HZ.out)
          clear b5 H0 HX0 hcv
          go_wp2_with fail
          refine cA.out.mono ?_
          rintro e W6 ⟨va, q, vc, rfl, hq, h6, -, -⟩
          rw [HG.out] at hq
          obtain rfl : q = 0 := hq
          have H6 := hide (HIN.out W6 h6)
          clear cA h6 HIN HG
          go_wp2
          go_roundg (2 * n - (i + 1))
          case measure => have := HK.out; omega
          case rel => exact ⟨i + 1, _, rfl, H6.out⟩
        · have hlt2 : ¬ (i : Int) < 2 * (n : Int) := by omega
          have hnk : [109, 111, 114, 101] ∉ kys d.it := fun hm => by
            obtain ⟨j, _, he⟩ := i7 _ hm
            have := congrArg List.length he
            simp at this
          obtain ⟨m1, m2⟩ := last5 i3.iv i5 (o := ⟨bigI [109, 111, 114, 101], false⟩) hnk (by rw [i4, i6]; omega)
          have hln : (((putD 5 ⟨bigI [109, 111, 114, 101], false⟩ d).it.length : Nat) : Int) = 2 * (n : Int) := by
            rw [m2, i6]
            omega
          have H3 := hide i3
          have HG := hide m1
          have HLN := hide hln
          clear i1 i2 i3 i4 i5 i6 i7 I hnk m1 m2 hln
          go_wp2_with fail
          refine (cB.out _ _).mono ?_
          rintro e W5 ⟨rfl, b5⟩
          have cA := hide (put_big (H3.out.on b5) [109, 111, 114, 101] (by simp) (by simp) false ⟨#[109, 111, 114, 101]⟩ zb rfl HZ.out)
          clear b5 H3
          go_wp2_with fail
          refine cA.out.mono ?_
          rintro e W6 ⟨va, q, vc, rfl, hq, h6, -, -⟩
          rw [HG.out] at hq
          obtain rfl : q = 1 := hq
          have H6 := hide h6
          have cL := hide (len_d H6.out)
          rw [HLN.out] at cL
          clear cA h6 HG
          go_wp2_with fail
          refine cL.out.mono ?_
          rintro e wx ⟨rfl, hx⟩
          obtain rfl : W6 = wx := hx.symm
          have HE := hide H6.out.bel
          clear hx cL H6 HLN
          go_wp2
          go_ret
          exact ⟨rfl, HE.out⟩

theorem laidOut : laidOutB Tryd.prog = true := by kernel_rfl
theorem own : ownKnob Tryd.prog.godebug = none := by kernel_rfl
/-- What the row lists: the table of trailing zeros. -/
theorem table {W : World} (h : laidMetH Tryd.prog Rows.dramClearRow.laid W) : Slb.Tab W :=
  Slb.Tab.of (Lib.tabIs_of_head (rest := []) (g := 0) (t := 147) (e := 5) (n := 64) (by kernel_rfl) (by kernel_rfl) (by kernel_rfl) (by kernel_rfl) (by kernel_rfl) (by kernel_rfl) (show laidMet Tryd.prog Rows.dramClearRow.laid W from h))
set_option maxRecDepth 100000 in
/-- What the walk gives, for every argument and every world that holds the table. -/
theorem contract (H : Type) (enc : TypeId × Value → H) (W : World) (base : Nat) (args : Array Value) (ds gs : List (DataW H)) (before : List MemPlace)
    (hval : ∀ (j : Nat) t v, Tryd.f7.params[j]? = some t → args[j]? = some v → Value.okWide Tryd.prog W .any base t v)
    (hW : DataW.Whole enc Tryd.prog Tryd.f7.params.toList Rows.dramClearSpec.vars false W args.toList ds gs before) (hsz : (DataW.weightsEach Tryd.prog (Tryd.f7.params.toList ++ (OpenSpec.ofChange Rows.dramClearSpec).bare.plain.varTypes Tryd.prog) (ds ++ gs)).all (· ≤ reachBytes) = true) (hL : laidMetH Tryd.prog Rows.dramClearRow.laid W) :
    Calls Tryd.prog 7 args W fun e W' => ∃ v, e = .returned v ∧ Rows.dramClearSpec.post enc Tryd.prog Tryd.f7 false true false false W args v W' := by
  have hW' := hW
  obtain ⟨p, q, hA0, hV, rfl, hfz, hnd⟩ := hW
  have hA : DataW.TrodAll enc Tryd.prog W 0 (fun _ => true) true Tryd.f7.params.toList args.toList ds p := hA0
  rw [Tryd.params7] at hA hval hsz
  obtain ⟨v0, vs0, d0, ds0, p0, q0, hargs, rfl, rfl, h0, r0⟩ := trodAll_cons hA
  obtain ⟨v1, vs1, d1, ds1, p1, q1, rfl, rfl, rfl, h1, r1⟩ := trodAll_cons r0
  obtain ⟨rfl, rfl, rfl⟩ := trodAll_nil r1
  obtain rfl : args = #[v0, v1] := by cases args; simp_all
  obtain ⟨rfl, rfl⟩ := trodVars_none hV
  obtain ⟨a0, rfl, rfl, rfl, w0⟩ := open_int Tryd.underlying3 (hval 0 3 v0 rfl rfl) h0
  obtain ⟨a1, len1, cap1, rfl⟩ := okWide_slice Tryd.underlying47 (hval 1 47 v1 rfl rfl)
  have k1 := h1
  have lt1 : ∀ x ∈ p1, x.block < W.heap.size := by obtain ⟨m, hm⟩ := k1; exact DataW.trod_lt m _ _ _ hm
  obtain ⟨z1, w1⟩ : ∃ xs, ItsAt W a1 len1 xs := by
    obtain ⟨fuel, hf⟩ := h1
    exact its_open hf (fun n hn => by
      have := List.all_eq_true.1 hsz n (DataW.weights_mem_each (j := 1) (t := 47) rfl rfl n hn)
      simpa using this)
  clear hA0
  try simp only [List.append_nil] at hW'
  refine (walk W a0 w0 a1 len1 cap1 z1 w1 (table hL)).mono fun e W' ⟨he, bel⟩ => ?_
  subst he
  exact ⟨_, rfl, _, _, _, [], _, [], hW', trodAll_mk1 (shut_bool Tryd.underlying4 _), (trodAll_cons_mk (shut_int Tryd.underlying3 w0) (trodAll_cons_mk (Below.trod laidOut (by kernel_rfl) (of_decide_eq_true (by kernel_rfl)) k1 bel lt1) trodAll_mk0)), rfl, bel.frame _, fun h => by cases h⟩

/-- The witness: what the initialisers leave is met. -/
theorem laid_met (os : Os) : laidMet Tryd.prog Rows.dramClearRow.laid ((World.doorLaid Tryd.prog 14 os).forCall (fun _ _ => 0) ⟨#[], #[.int .i64 0, .slice none 0 0], []⟩).memory :=
  laidMet_of_run' 8 (by kernel_rfl) (by kernel_rfl)
theorem reads (os : Os) {H : Type} (enc : TypeId × Value → H) : ∃ xs places, DataW.whole enc Tryd.prog ((World.doorLaid Tryd.prog 14 os).forCall (fun _ _ => 0) ⟨#[], #[.int .i64 0, .slice none 0 0], []⟩).memory Tryd.f7.params.toList Rows.dramClearSpec.vars false (#[.int .i64 0, .slice none 0 0] : Array Value).toList 8 = some (xs, [], places) :=
  by
  have h : (DataW.whole enc Tryd.prog ((World.doorLaid Tryd.prog 14 os).forCall (fun _ _ => 0) ⟨#[], #[.int .i64 0, .slice none 0 0], []⟩).memory Tryd.f7.params.toList Rows.dramClearSpec.vars false (#[.int .i64 0, .slice none 0 0] : Array Value).toList 8).map (fun r => r.2.1.isEmpty) = some true := by kernel_rfl
  obtain ⟨⟨xs, gs, pl⟩, h1, h2⟩ := Option.map_eq_some_iff.1 h
  have h3 : gs = [] := List.isEmpty_iff.1 h2
  subst h3
  exact ⟨xs, pl, h1⟩

set_option maxRecDepth 100000 in
theorem lifted (os : Os) (started : os.Started) (H : Type) (enc : TypeId × Value → H) (F : Stop.Interp) :
    ReturnsInHanded {} Tryd.checked os 7 .any ((OpenSpec.ofChange Rows.dramClearSpec).preRow enc Tryd.prog Tryd.f7 Rows.dramClearRow.domain false Rows.dramClearRow.laid) (((OpenSpec.ofChange Rows.dramClearSpec).at F).post enc Tryd.prog Tryd.f7 false true false false) := by
  obtain ⟨xs, places, hx⟩ := reads os enc
  refine returnsInHanded_of_row (C := Tryd.checked) (s := OpenSpec.ofChange Rows.dramClearSpec) own started (by kernel_rfl) Tryd.func7
    (witness_row_at (enc := enc) (C := Tryd.checked) false (World.doorLaid Tryd.prog 14 os) #[.int .i64 0, .slice none 0 0] rfl (by kernel_rfl) (by kernel_rfl) (by kernel_rfl)
      (OpenSpec.preRow_of_cond 8 hx (by kernel_rfl) (fun k hk => by cases hk) (by kernel_rfl) (laid_met os))) ?_
  intro W base args ds gs before hval hW _ _ hsz hL _ _
  exact contract H enc W base args ds gs before hval hW hsz hL

theorem said : Rows.DramClearSaid :=
  OpenClaim.holds_of_cond 7 Tryd.f7 rfl rfl rfl rfl rfl rfl rfl ⟨rfl, rfl, rfl, rfl, rfl⟩ rfl rfl rfl rfl rfl (by kernel_rfl) Tryd.func7 (by kernel_rfl)
    (of_decide_eq_true (by kernel_rfl)) (by unfold Func.isWrapper; first | (rw [if_pos (by decide +kernel)]; kernel_rfl) | (rw [if_neg (by decide +kernel)]; exact ⟨rfl, rfl⟩))
    (fun os started H enc _ F => by rw [OpenClaim.pre_eq_preRow]; exact lifted os started H enc F)

theorem plain (f : FuncId) (fn : Func) (hf : Tryd.pinned.checked.prog.funcNamed Rows.dramClearRow.func = some f) (hfn : Tryd.pinned.checked.prog.funcs[f]? = some fn) :
    false = Tryd.pinned.checked.prog.looks [] ∧ ∀ (j : Nat) t, fn.params[j]? = some t → Tryd.pinned.checked.prog.wantsStandIn t = false := by
  obtain rfl : f = 7 := Option.some.inj ((show Tryd.prog.funcNamed Rows.dramClearRow.func = some 7 by kernel_rfl).symm.trans hf) |>.symm
  obtain rfl : fn = Tryd.f7 := (Option.some.inj (Tryd.func7.symm.trans hfn)).symm
  refine ⟨by kernel_rfl, fun j t ht => ?_⟩
  rw [Tryd.params7] at ht
  have hm : t ∈ [3, 47] := by simpa using Array.mem_of_getElem? ht
  have hall : ([3, 47].all fun u => !Tryd.prog.wantsStandIn u) = true := by kernel_rfl
  exact (show Tryd.prog.wantsStandIn t = false by simpa using List.all_eq_true.1 hall t hm)

theorem card : Rows.DramClearCardSaid :=
  Claim7.holds_tied_plain_at .later [] _ _ _ _ said (fun _ h => by cases h) (by kernel_rfl) (fun _ h => by cases h) dramClear_row_tie rfl ⟨rfl, rfl⟩ (by kernel_rfl) rfl plain (by kernel_rfl)
end Go.Proofs.YtdkiegkgnimapaaDoor.dramClear
namespace Go.Proofs.YtdkiegkgnimapaaDoor
theorem dramClear_holds : Rows.DramClearCardSaid := dramClear.card
#print axioms dramClear_holds
end Go.Proofs.YtdkiegkgnimapaaDoor
