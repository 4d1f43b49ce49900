/-
  DramUsed at its seat: a tied card.
-/
import Derived.Test.YtdkiegkgnimapabDoorCards
import Derived.Test.YtdkiegkgnimapabDoorTie
import Derived.WalkKit
import Derived.ProofKit
import Derived.OpenShut
import Derived.ShutString
import Derived.ChangeOld
import Derived.Deep.DeepHandedRow
import Derived.Lib.LaidTab
import Derived.Stop.LaidErr
import Derived.LaidMore
import Derived.Test.YtdkiegkgnimapabDoorUs
namespace Go.Proofs.YtdkiegkgnimapabDoor.dramUsed
open Go.ChangeShapes Go.WideShapes Go.ChangeAt Go.RowKit Go.Deep Go.Shelf Drm
open Tbl (txt)
open Slb (size_of)
set_option linter.unusedVariables false
set_option linter.unusedSimpArgs false


theorem uk_txt : txt uK = ⟨#[117, 115, 101, 100]⟩ := rfl
/-- Get of the one that is held. -/
theorem get_used {w : World} {c n i : Nat} {j0 : Int} {d : Dm} {W : World} (h : DL w c d W) (H : Held n i j0 d) (zb : ByteArray) (hz : zb = txt bigV) : Calls Tryd.prog 8 #[.pointer (some ⟨c, 0, none⟩), .string ⟨#[117, 115, 101, 100]⟩, .int .i64 0] W fun e W' => e = .returned (.tuple #[.agg #[.string ⟨#[117, 115, 101, 100]⟩, .string zb, .int .u32 0, .int .i64 0, .int .u64 1], .bool true]) ∧ DL w c (tchD j0 d) W' := by
  subst hz
  refine Calls.mono (get_some h (key := uK) (by decide) 0 H.fd H.lk) ?_
  rintro e W' ⟨rfl, h2, -⟩
  exact ⟨rfl, h2⟩
/-- A text of two bytes. -/
theorem conv2 {W : World} {N : Nat} (z y : UInt8) (h : W.cell? ⟨N, 0, none⟩ = some (.int .u8 (z.toNat : Int))) (h2 : W.cell? ⟨N, 1, none⟩ = some (.int .u8 (y.toNat : Int))) : (convert 37 9 (.slice (some ⟨N, 0, none⟩) 2 2)).run Tryd.prog W = .ok (.string (txt [z, y])) W := by
  exact run_convert_bytes_back W 37 9 5 ⟨N, 0, none⟩ 2 [z, y] Tryd.underlying37 Tryd.underlying5 Tryd.underlying9 (fun j hj => by
    have : j < 2 := by simpa using hj
    rw [Addr.add_lit, Nat.zero_add]
    match j, this with
    | 0, _ => rw [h]; rfl
    | 1, _ => rw [h2]; rfl)
set_option maxHeartbeats 4000000 in
set_option maxRecDepth 8000 in
/-- The walk: the Go text returns true, and writes nothing that was there. -/
theorem walk (w : World) (a0 : Int) (w0 : (Lit.int .i64 a0).wf = true) (a1 : Int) (w1 : (Lit.int .i64 a1).wf = true) (htab : Slb.Tab w) :
    Calls Tryd.prog 3 #[.int .i64 a0, .int .i64 a1] w fun e w' => e = .returned (.bool true) ∧ Below w.heap.size w w' := by
  have ca := hide (awake_any w htab)
  by_cases x0 : a0 < 4
  · clear w0 w1
    go_enter Tryd.func3, Tryd.ntmps3
    go_wp2_with fail
    refine ca.out.mono ?_
    rintro e W1 ⟨rfl, h1⟩
    have B1 := hide h1
    clear h1 ca
    go_wp2
    go_ret
    exact ⟨rfl, B1.out⟩
  by_cases x1 : 10 < a0
  · clear w0 w1
    go_enter Tryd.func3, Tryd.ntmps3
    go_wp2_with fail
    refine ca.out.mono ?_
    rintro e W1 ⟨rfl, h1⟩
    have B1 := hide h1
    clear h1 ca
    go_wp2
    go_ret
    exact ⟨rfl, B1.out⟩
  by_cases x2 : a1 < 0
  · clear w0 w1
    go_enter Tryd.func3, Tryd.ntmps3
    go_wp2_with fail
    refine ca.out.mono ?_
    rintro e W1 ⟨rfl, h1⟩
    have B1 := hide h1
    clear h1 ca
    go_wp2
    go_ret
    exact ⟨rfl, B1.out⟩
  by_cases x3 : 40 < a1
  · clear w0 w1
    go_enter Tryd.func3, Tryd.ntmps3
    go_wp2_with fail
    refine ca.out.mono ?_
    rintro e W1 ⟨rfl, h1⟩
    have B1 := hide h1
    clear h1 ca
    go_wp2
    go_ret
    exact ⟨rfl, B1.out⟩
  obtain ⟨n, rfl⟩ : ∃ n : Nat, a0 = (n : Int) := ⟨a0.toNat, by omega⟩
  obtain ⟨m, rfl⟩ : ∃ m : Nat, a1 = (m : Int) := ⟨a1.toNat, by omega⟩
  have HT := hide htab
  have HN : Hid (4 ≤ n ∧ n ≤ 10) := by show _ ∧ _; omega
  have hm40 : m ≤ 40 := by omega
  obtain ⟨zb, hzb⟩ : ∃ zb, zb = txt bigV := ⟨_, rfl⟩
  have HZ := hide hzb
  have cB : Hid (∀ k W, Calls Tryd.prog 7 #[.string k] W fun e w' => e = .returned (.agg #[.string k, .string zb, .int .u32 0, .int .i64 0, .int .u64 1]) ∧ Below W.heap.size W w') := fun k W => big_at k zb hzb W
  clear w0 w1 htab hzb
  go_enter Tryd.func3, Tryd.ntmps3
  go_wp2_with fail
  refine ca.out.mono ?_
  rintro e W1 ⟨rfl, b1⟩
  have cN := hide (new_d b1 HT.out n (by have := HN.out; omega) (by have := HN.out; omega))
  clear ca b1
  go_wp2_with fail
  refine cN.out.mono ?_
  rintro e W2 ⟨c, rfl, h2, -, -⟩
  have H2 := hide h2
  clear cN h2 x0 x1 x2 x3
  go_wp2_with fail
  refine (cB.out _ _).mono ?_
  rintro e W3 ⟨rfl, b3⟩
  have cA := hide (put_big (H2.out.on b3) uK (by decide) (by decide) false ⟨#[117, 115, 101, 100]⟩ zb rfl HZ.out)
  clear b3 H2
  go_wp2_with fail
  refine cA.out.mono ?_
  rintro e W4 ⟨va, q, vc, rfl, -, h4, -, -⟩
  obtain ⟨j0, s1, s2⟩ := held_first (n := n) (by have := HN.out; omega) (by have := HN.out; omega)
  have H4 := hide (And.intro h4 (And.intro s1 s2))
  clear cA h4 s1 s2
  go_wp2
  go_loopg [7] m (fun kx s7 wr => ∃ (i : Nat) (d : Dm), s7 = .int .i64 i ∧ Hid (i ≤ m ∧ m - i ≤ kx ∧ DL w c d wr ∧ Held n i j0 d ∧ Sgm.Shr (d.sg 5)))
  case atStart => exact ⟨0, _, rfl, Nat.zero_le _, Nat.le_refl _, H4.out⟩
  case round =>
    clear H4
    obtain ⟨i, d, rfl, I⟩ := hrel
    obtain ⟨i1, i2, i3, i4, i5⟩ := I.out
    by_cases hlt : i < m
    · have hlt2 : (i : Int) < (m : Int) := by omega
      have hi40 : i < 40 := by omega
      have cG := hide (get_used i3 i4 zb HZ.out)
      have hto : ((UInt8.ofNat (i + 1)).toNat : Int) = (i : Int) + 1 := by
        rw [UInt8.toNat_ofNat', Nat.mod_eq_of_lt (by omega)]
        omega
      have HST := hide (held_step i3.iv i4 i5 (by have := HN.out; omega) (by omega))
      have HK := hide i2
      clear i1 i2 i3 i4 i5 I
      go_wp2_with fail
      refine cG.out.mono ?_
      rintro e W5 ⟨rfl, h5⟩
      obtain ⟨X5, hX5⟩ : ∃ X, X = W5.alloc (.cells #[.string ⟨#[117, 115, 101, 100]⟩, .string zb, .int .u32 0, .int .i64 0, .int .u64 1] 33) := ⟨_, rfl⟩
      have b5 : Below W5.heap.size W5 X5 := by rw [hX5]; exact (Below.refl _ W5).alloc (Nat.le_refl _) _
      obtain ⟨X6, hX6⟩ : ∃ X, X = X5.alloc (.cells #[.int .u8 ((i : Int) + 1), .int .u8 120] 5) := ⟨_, rfl⟩
      have b6 : Below X5.heap.size X5 X6 := by rw [hX6]; exact (Below.refl _ X5).alloc (Nat.le_refl _) _
      obtain ⟨kb, hkb⟩ : ∃ kb, kb = txt (xK i) := ⟨_, rfl⟩
      have hcv : (convert 37 9 (.slice (some ⟨X5.heap.size, 0, none⟩) 2 2)).run Tryd.prog X6 = .ok (.string kb) X6 := by
        rw [hkb]
        refine conv2 (UInt8.ofNat (i + 1)) 120 ?_ ?_
        · rw [hto, hX6]
          exact (Blk.new X5 [.int .u8 ((i : Int) + 1), .int .u8 120] 5).cell rfl
        · rw [hX6]
          exact (Blk.new X5 [.int .u8 ((i : Int) + 1), .int .u8 120] 5).cell rfl
      have H6 := hide ((h5.on b5).on b6)
      have HX6 := hide (hX6.trans (by rw [hX5]))
      have HKB := hide hkb
      rw [hX6, hX5] at hcv
      rw [World.size_alloc] at hcv
      clear cG h5 b5 b6 hX5 hX6 hkb hto
      go_wp2_with fail
      refine (cB.out _ _).mono ?_
      rintro e W7 ⟨rfl, b7⟩
      rw [← HX6.out] at b7
      have cA := hide (put_big (H6.out.on b7) (xK i) (by simp [xK]) (by simp [xK]) false kb zb HKB.out HZ.out)
      clear b7 H6 HX6 hcv
      go_wp2_with fail
      refine cA.out.mono ?_
      rintro e W8 ⟨va2, q2, vc2, rfl, -, h8, -, -⟩
      have H8 := hide (And.intro h8 HST.out)
      clear cA h8 HST
      go_wp2
      go_roundg (m - (i + 1))
      case measure => have := HK.out; omega
      case rel => exact ⟨i + 1, _, rfl, by omega, Nat.le_refl _, H8.out⟩
    · have hlt2 : ¬ (i : Int) < (m : Int) := by omega
      have cG := hide (get_used i3 i4 zb HZ.out)
      clear i1 i2 i3 i4 i5 I
      go_wp2_with fail
      refine cG.out.mono ?_
      rintro e W5 ⟨rfl, h5⟩
      have HE : Hid (Below w.heap.size w (W5.alloc (.cells #[.string ⟨#[117, 115, 101, 100]⟩, .string zb, .int .u32 0, .int .i64 0, .int .u64 1] 33))) := h5.bel.alloc h5.bel.size _
      clear cG h5
      go_wp2
      go_ret
      exact ⟨rfl, HE.out⟩

theorem laidOut : laidOutB Tryd.prog = true := by kernel_rfl
theorem own : ownKnob Tryd.prog.godebug = none := by kernel_rfl
/-- What the row lists: the table of trailing zeros. -/
theorem table {W : World} (h : laidMetH Tryd.prog Rows.dramUsedRow.laid W) : Slb.Tab W :=
  Slb.Tab.of (Lib.tabIs_of_head (rest := []) (g := 0) (t := 140) (e := 5) (n := 64) (by kernel_rfl) (by kernel_rfl) (by kernel_rfl) (by kernel_rfl) (by kernel_rfl) (by kernel_rfl) (show laidMet Tryd.prog Rows.dramUsedRow.laid W from h))
set_option maxRecDepth 100000 in
/-- What the walk gives, for every argument and every world that holds the table. -/
theorem contract (H : Type) (enc : TypeId × Value → H) (W : World) (base : Nat) (args : Array Value) (ds gs : List (DataW H)) (before : List MemPlace)
    (hval : ∀ (j : Nat) t v, Tryd.f3.params[j]? = some t → args[j]? = some v → Value.okWide Tryd.prog W .any base t v)
    (hW : DataW.Whole enc Tryd.prog Tryd.f3.params.toList Rows.dramUsedSpec.vars false W args.toList ds gs before) (hsz : (DataW.weightsEach Tryd.prog (Tryd.f3.params.toList ++ (OpenSpec.ofChange Rows.dramUsedSpec).bare.plain.varTypes Tryd.prog) (ds ++ gs)).all (· ≤ reachBytes) = true) (hL : laidMetH Tryd.prog Rows.dramUsedRow.laid W) :
    Calls Tryd.prog 3 args W fun e W' => ∃ v, e = .returned v ∧ Rows.dramUsedSpec.post enc Tryd.prog Tryd.f3 false true false false W args v W' := by
  have hW' := hW
  obtain ⟨p, q, hA0, hV, rfl, hfz, hnd⟩ := hW
  have hA : DataW.TrodAll enc Tryd.prog W 0 (fun _ => true) true Tryd.f3.params.toList args.toList ds p := hA0
  rw [Tryd.params3] at hA hval hsz
  obtain ⟨v0, vs0, d0, ds0, p0, q0, hargs, rfl, rfl, h0, r0⟩ := trodAll_cons hA
  obtain ⟨v1, vs1, d1, ds1, p1, q1, rfl, rfl, rfl, h1, r1⟩ := trodAll_cons r0
  obtain ⟨rfl, rfl, rfl⟩ := trodAll_nil r1
  obtain rfl : args = #[v0, v1] := by cases args; simp_all
  obtain ⟨rfl, rfl⟩ := trodVars_none hV
  obtain ⟨a0, rfl, rfl, rfl, w0⟩ := open_int Tryd.underlying3 (hval 0 3 v0 rfl rfl) h0
  obtain ⟨a1, rfl, rfl, rfl, w1⟩ := open_int Tryd.underlying3 (hval 1 3 v1 rfl rfl) h1
  clear hA0
  simp only [List.append_nil] at hW'
  refine (walk W a0 w0 a1 w1 (table hL)).mono fun e W' ⟨he, bel⟩ => ?_
  subst he
  exact ⟨_, rfl, _, _, _, [], _, [], hW', trodAll_mk1 (shut_bool Tryd.underlying4 _), (trodAll_cons_mk (shut_int Tryd.underlying3 w0) (trodAll_cons_mk (shut_int Tryd.underlying3 w1) trodAll_mk0)), rfl, bel.frame _, fun h => by cases h⟩

/-- The witness: what the initialisers leave is met. -/
theorem laid_met (os : Os) : laidMet Tryd.prog Rows.dramUsedRow.laid ((World.doorLaid Tryd.prog 14 os).forCall (fun _ _ => 0) ⟨#[], #[.int .i64 0, .int .i64 0], []⟩).memory :=
  laidMet_of_run' 8 (by kernel_rfl) (by kernel_rfl)
theorem reads (os : Os) {H : Type} (enc : TypeId × Value → H) : ∃ places, DataW.whole enc Tryd.prog ((World.doorLaid Tryd.prog 14 os).forCall (fun _ _ => 0) ⟨#[], #[.int .i64 0, .int .i64 0], []⟩).memory Tryd.f3.params.toList Rows.dramUsedSpec.vars false (#[.int .i64 0, .int .i64 0] : Array Value).toList 8 = some ([.lit (.int .i64 0), .lit (.int .i64 0)], [], places) :=
  ⟨[], by kernel_rfl⟩

set_option maxRecDepth 100000 in
theorem lifted (os : Os) (started : os.Started) (H : Type) (enc : TypeId × Value → H) (F : Stop.Interp) :
    ReturnsInHanded {} Tryd.checked os 3 .any ((OpenSpec.ofChange Rows.dramUsedSpec).preRow enc Tryd.prog Tryd.f3 Rows.dramUsedRow.domain false Rows.dramUsedRow.laid) (((OpenSpec.ofChange Rows.dramUsedSpec).at F).post enc Tryd.prog Tryd.f3 false true false false) := by
  obtain ⟨places, hx⟩ := reads os enc
  refine returnsInHanded_of_row (C := Tryd.checked) (s := OpenSpec.ofChange Rows.dramUsedSpec) own started (by kernel_rfl) Tryd.func3
    (witness_row_at (enc := enc) (C := Tryd.checked) false (World.doorLaid Tryd.prog 14 os) #[.int .i64 0, .int .i64 0] rfl (by kernel_rfl) (by kernel_rfl) (by kernel_rfl)
      (OpenSpec.preRow_of_cond 8 hx (by kernel_rfl) (fun k hk => by cases hk) (by kernel_rfl) (laid_met os))) ?_
  intro W base args ds gs before hval hW _ _ hsz hL _ _
  exact contract H enc W base args ds gs before hval hW hsz hL

theorem said : Rows.DramUsedSaid :=
  OpenClaim.holds_of_cond 3 Tryd.f3 rfl rfl rfl rfl rfl rfl rfl ⟨rfl, rfl, rfl, rfl, rfl⟩ rfl rfl rfl rfl rfl (by kernel_rfl) Tryd.func3 (by kernel_rfl)
    (of_decide_eq_true (by kernel_rfl)) (by unfold Func.isWrapper; first | (rw [if_pos (by decide +kernel)]; kernel_rfl) | (rw [if_neg (by decide +kernel)]; exact ⟨rfl, rfl⟩))
    (fun os started H enc _ F => by rw [OpenClaim.pre_eq_preRow]; exact lifted os started H enc F)

theorem plain (f : FuncId) (fn : Func) (hf : Tryd.pinned.checked.prog.funcNamed Rows.dramUsedRow.func = some f) (hfn : Tryd.pinned.checked.prog.funcs[f]? = some fn) :
    false = Tryd.pinned.checked.prog.looks [] ∧ ∀ (j : Nat) t, fn.params[j]? = some t → Tryd.pinned.checked.prog.wantsStandIn t = false := by
  obtain rfl : f = 3 := Option.some.inj ((show Tryd.prog.funcNamed Rows.dramUsedRow.func = some 3 by kernel_rfl).symm.trans hf) |>.symm
  obtain rfl : fn = Tryd.f3 := (Option.some.inj (Tryd.func3.symm.trans hfn)).symm
  refine ⟨by kernel_rfl, fun j t ht => ?_⟩
  rw [Tryd.params3] at ht
  have hm : t ∈ [3, 3] := by simpa using Array.mem_of_getElem? ht
  have hall : ([3, 3].all fun u => !Tryd.prog.wantsStandIn u) = true := by kernel_rfl
  exact (show Tryd.prog.wantsStandIn t = false by simpa using List.all_eq_true.1 hall t hm)

theorem card : Rows.DramUsedCardSaid :=
  Claim7.holds_tied_plain_at .later [] _ _ _ _ said (fun _ h => by cases h) (by kernel_rfl) (fun _ h => by cases h) dramUsed_row_tie rfl ⟨rfl, rfl⟩ (by kernel_rfl) rfl plain (by kernel_rfl)
end Go.Proofs.YtdkiegkgnimapabDoor.dramUsed
namespace Go.Proofs.YtdkiegkgnimapabDoor
theorem dramUsed_holds : Rows.DramUsedCardSaid := dramUsed.card
#print axioms dramUsed_holds
end Go.Proofs.YtdkiegkgnimapabDoor
