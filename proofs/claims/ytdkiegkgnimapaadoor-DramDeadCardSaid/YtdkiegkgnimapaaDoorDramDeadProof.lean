/-
  DramDead at its seat: a tied card.
-/
import Derived.Test.YtdkiegkgnimapaaDoorCards
import Derived.Test.YtdkiegkgnimapaaDoorTie
import Derived.WalkKit
import Derived.ProofKit
import Derived.OpenShut
import Derived.ShutString
import Derived.ChangeOld
import Derived.Deep.DeepHandedRow
import Derived.Lib.LaidTab
import Derived.Stop.LaidErr
import Derived.LaidMore
import Derived.Test.YtdkiegkgnimapaaDoorAr
namespace Go.Proofs.YtdkiegkgnimapaaDoor.dramDead
open Go.ChangeShapes Go.WideShapes Go.ChangeAt Go.RowKit Go.Deep Go.Shelf Drm
open Tbl (txt)
open Slb (size_of)
set_option linter.unusedVariables false
set_option linter.unusedSimpArgs false


theorem ok_of {x : It} (h : x.raw) (hm : mayBe x.k.length x.v.length x.ve.toNat = true) : x.ok := by
  unfold mayBe at hm
  simp only [Bool.and_eq_true, decide_eq_true_eq] at hm
  obtain ⟨⟨⟨h1, h2⟩, h3⟩, h4⟩ := hm
  obtain ⟨_, _, h5, h6, h7⟩ := h
  exact ⟨h1, h2, h3, h5, h6, by omega⟩
/-- What stands behind a Put. -/
theorem put_it {d : Dm} (h : Iv d) {cl : Nat} (hcl : cl < 6) {o : Ou} (ho : o.x.ok) : ∃ i, kfd o.x.k (putD cl o d).it = some i ∧ lok i (putD cl o d).it = some o := by
  obtain ⟨h1, h2, _, h4⟩ := h.del o.x.k
  obtain ⟨r1, r2, r3, r4⟩ := room_iv hcl _ _ (Nat.le_refl _) h1
  have hk : o.x.k ∉ kys (room cl (delD o.x.k d)).1.it := fun hm => h2 ((r4.map _).subset hm)
  have hf := (r1.fresh hcl r2).1
  refine ⟨(Slb.tkC cl (room cl (delD o.x.k d)).1.pg : Int), ?_, ?_⟩
  · show kfd o.x.k ((room cl (delD o.x.k d)).1.it ++ [_]) = _
    rw [kfd_snoc hk, if_pos rfl]
  · show lok _ ((room cl (delD o.x.k d)).1.it ++ [_]) = _
    rw [lok_snoc hf, if_pos rfl]
theorem drop_kfd {d : Dm} (h : Iv d) {k : List UInt8} {i : Int} (hk : kfd k d.it = some i) : kfd k (dropD i d).it = none := by
  have := (h.del k).2.1
  rw [delD_some hk] at this
  exact kfd_none.2 this
theorem eq_q (kb vb : ByteArray) (f e n : Int) (W : World) : (binOp .eql 33 (.agg #[.string kb, .string vb, .int .u32 f, .int .i64 e, .int .u64 n]) (.agg #[.string kb, .string vb, .int .u32 f, .int .i64 e, .int .u64 n])).run Tryd.prog W = .ok (.bool true) W := by
  have := run_eql_it ⟨kb.data.toList, vb.data.toList, f, e, n⟩ ⟨kb.data.toList, vb.data.toList, f, e, n⟩ W
  rw [eqI_refl] at this
  unfold itV at this
  simp only [txt_of] at this
  exact this
theorem txt_nil : txt [] = ⟨#[]⟩ := rfl
set_option maxHeartbeats 4000000 in
set_option maxRecDepth 8000 in
/-- The walk: the Go text returns true, and writes nothing that was there. -/
theorem walk (w : World) (z0 : It) (w0 : z0.raw) (a1 : Int) (w1 : (Lit.int .i64 a1).wf = true) (htab : Slb.Tab w) :
    Calls Tryd.prog 6 #[itV z0, .int .i64 a1] w fun e w' => e = .returned (.bool true) ∧ Below w.heap.size w w' := by

  obtain ⟨kb, hkb⟩ : ∃ kb, kb = txt z0.k := ⟨_, rfl⟩
  obtain ⟨vb, hvb⟩ : ∃ vb, vb = txt z0.v := ⟨_, rfl⟩
  obtain ⟨W0, hW0⟩ : ∃ W0, W0 = w.alloc (.cells #[.string kb, .string vb, .int .u32 z0.fl, .int .i64 z0.ex, .int .u64 z0.ve] 33) := ⟨_, rfl⟩
  obtain ⟨B, hB⟩ : ∃ B, B = w.heap.size := ⟨_, rfl⟩
  have b0 : Below w.heap.size w W0 := by rw [hW0]; exact (Below.refl _ w).alloc (Nat.le_refl _) _
  have k0 : Blk W0 B (L5 kb vb z0.fl z0.ex z0.ve) 33 := by rw [hW0, hB]; exact Blk.new w _ 33
  have cA := hide (awake_any W0 (htab.later b0))
  rw [hW0] at cA
  have HT := hide htab
  have HB0 := hide b0
  have HK0 := hide k0
  have HW0 := hide hW0
  have HB := hide hB
  have HKB := hide hkb
  have HVB := hide hvb
  have HR := hide w0
  unfold itV
  rw [← hkb, ← hvb]
  clear htab b0 k0 hW0 hB hkb hvb w0 w1
  go_enter Tryd.func6, Tryd.ntmps6
  go_wp2_with fail
  refine cA.out.mono ?_
  rintro e W1 ⟨rfl, b1⟩
  rw [← HW0.out] at b1
  rw [← HB.out]
  have HB1 := hide (HB0.out.trans (b1.mono HB0.out.size))
  have HK1 := hide (HK0.out.same (b1.block _ HK0.out.lt))
  have cN := hide (new_d HB1.out HT.out 3 (by decide) (by decide))
  clear cA b1 HB0 HK0 HW0
  go_wp2_with fail
  refine cN.out.mono ?_
  rintro e W2 ⟨c, rfl, h2, b2, -⟩
  have H2 := hide h2
  have HK2 := hide (HK1.out.same (b2.block _ HK1.out.lt))
  clear cN h2 b2 HK1 HB1
  obtain ⟨x0, x1, x2, x3, x4, -⟩ := cells5 HK2.out
  cases hm : mayBe z0.k.length z0.v.length z0.ve.toNat with
  | false =>
    have cP := hide (put_bad H2.out kb vb z0.fl z0.ex z0.ve.toNat true (by rw [HKB.out, HVB.out, txt_sz, txt_sz]; exact hm))
    rw [show ((z0.ve.toNat : Nat) : Int) = z0.ve from Int.toNat_of_nonneg HR.out.2.2.2.2.1] at cP
    unfold iV at cP
    clear H2 hm HK2 HR HKB HVB
    go_wp2_with fail
    refine cP.out.mono ?_
    rintro e W3 ⟨rfl, h3, -⟩
    have H3 := hide h3
    have cL := hide (len_d H3.out)
    rw [show (new0 3).it.length = 0 from rfl] at cL
    clear cP h3
    go_wp2_with fail
    refine cL.out.mono ?_
    rintro e wx ⟨rfl, hx⟩
    obtain rfl : W3 = wx := hx.symm
    clear hx cL
    have HE := hide H3.out.bel
    clear H3
    go_wp2
    go_ret
    exact ⟨rfl, HE.out⟩
  | true =>
    have hok := ok_of HR.out hm
    have hk6 := (kls_ok hok).1
    obtain ⟨i, hi1, hi2⟩ := put_it (Iv.new 3 (by decide) (by decide)) hk6 (o := ⟨z0, true⟩) hok
    have HI1 := hide hi1
    have HI2 := hide hi2
    have HKL : Hid (z0.k.length ≤ 281474976710656) := by show _ ≤ _; have := hok.2.1; omega
    have cP := hide (put_ok H2.out ⟨z0, true⟩ hok)
    obtain ⟨d1, hd1⟩ : ∃ d1, d1 = putD (kls z0) ⟨z0, true⟩ (new0 3) := ⟨_, rfl⟩
    have HD1 := hide hd1
    simp only [← hd1] at HI1 HI2
    unfold itV at cP
    simp only [← HKB.out, ← HVB.out] at cP
    clear H2 hm HR hok hk6 hi1 hi2 hd1
    go_wp2_with fail
    refine cP.out.mono ?_
    rintro e W3 ⟨va, n, vc, rfl, -, h3, -, o3⟩
    simp only [← HD1.out] at h3
    have HK3 := hide (HK2.out.offD o3 rfl)
    have H3 := hide h3
    clear cP h3 o3 HK2 x0 x1 x2 x3 x4
    obtain ⟨x0, x1, x2, x3, x4, -⟩ := cells5 HK3.out
    have cP1 := hide (peek_some H3.out HKL.out HI1.out HI2.out)
    have cD : Hid (∀ W, Calls Tryd.prog 13 #[.pointer (some ⟨c, 0, none⟩), .agg #[.string kb, .string vb, .int .u32 z0.fl, .int .i64 z0.ex, .int .u64 z0.ve], .int .i64 a1] W fun r w' => r = .returned (.bool (deadB z0.ex a1)) ∧ Below W.heap.size W w') := fun W => dead_any (some ⟨c, 0, none⟩) kb vb z0.fl z0.ex z0.ve a1 W
    unfold ouV at cP1
    rw [← HKB.out, ← HVB.out] at cP1
    have hq := eq_q kb vb z0.fl z0.ex z0.ve
    have hz := eq_q ⟨#[]⟩ ⟨#[]⟩ 0 0 0
    by_cases h0 : z0.ex = 0
    · have i0 : (z0.ex != 0) = false := by simp [h0]

      have DD : deadB z0.ex a1 = false := by simp [deadB, h0]
      rw [DD] at cD
      have HDD := hide DD
      clear h0 DD
      go_wp2_with fail
      refine cP1.out.mono ?_
      rintro e W4 ⟨rfl, h4, o4⟩
      obtain ⟨X4, hX4⟩ : ∃ X, X = W4.alloc (.cells #[.string kb, .string vb, .int .u32 z0.fl, .int .i64 z0.ex, .int .u64 z0.ve, .bool true] 42) := ⟨_, rfl⟩
      have b4 : Below W4.heap.size W4 X4 := by rw [hX4]; exact (Below.refl _ W4).alloc (Nat.le_refl _) _
      obtain ⟨P1, hP1⟩ : ∃ B, B = W4.heap.size := ⟨_, rfl⟩
      have KP : Blk X4 P1 (L6 kb vb z0.fl z0.ex z0.ve true) 42 := by rw [hX4, hP1]; exact Blk.new W4 _ 42
      have H4 := hide (h4.on b4)
      have HK4 := hide ((HK3.out.offD o4 rfl).same (b4.block _ (HK3.out.offD o4 rfl).lt))
      have HKP := hide KP
      have cG := hide (get_some H4.out HKL.out a1 HI1.out HI2.out)
      skip
      rw [HDD.out] at cG
      simp only [Bool.false_eq_true, if_true, if_false, Bool.not_true, Bool.not_false] at cG
      unfold itV at cG
      simp only [← HKB.out, ← HVB.out, txt_nil] at cG
      rw [hX4] at cG
      have HX4 := hide hX4
      have HP1 := hide hP1
      have x0' := (cells5 HK4.out).1
      rw [hX4] at x0'
      clear cP1 h4 o4 b4 KP HK3 x0 x1 x2 x3 x4 hX4 hP1 H3
      go_wp2_with fail
      refine cG.out.mono ?_
      rintro e W5 ⟨rfl, h5, o5⟩
      rw [← HX4.out] at o5
      rw [← HP1.out]
      obtain ⟨X5, hX5⟩ : ∃ X, X = W5.alloc (.cells #[.string kb, .string vb, .int .u32 z0.fl, .int .i64 z0.ex, .int .u64 z0.ve] 33) := ⟨_, rfl⟩
      have b5 : Below W5.heap.size W5 X5 := by rw [hX5]; exact (Below.refl _ W5).alloc (Nat.le_refl _) _
      obtain ⟨Y1, hY1⟩ : ∃ B, B = W5.heap.size := ⟨_, rfl⟩
      have KY : Blk X5 Y1 (L5 kb vb z0.fl z0.ex z0.ve) 33 := by rw [hX5, hY1]; exact Blk.new W5 _ 33
      have H5 := hide (h5.on b5)
      have HK5 := hide ((HK4.out.offD o5 rfl).same (b5.block _ (HK4.out.offD o5 rfl).lt))
      have HP5 := hide ((HKP.out.offD o5 rfl).same (b5.block _ (HKP.out.offD o5 rfl).lt))
      have HKY := hide KY
      have HY1 := hide hY1
      have cQ := hide (peek_some H5.out HKL.out HI1.out HI2.out)
      unfold ouV at cQ
      simp only [← HKB.out, ← HVB.out, txt_nil] at cQ
      rw [hX5] at cQ
      have x0'' := (cells5 HK5.out).1
      rw [hX5] at x0''
      have HX5 := hide hX5
      clear cG h5 o5 b5 KY HK4 HKP x0' hX5 hY1 HX4 HP1 H4
      go_wp2_with fail
      refine cQ.out.mono ?_
      rintro e W6 ⟨rfl, h6, o6⟩
      rw [← HX5.out] at o6
      rw [← HY1.out]
      obtain ⟨X6, hX6⟩ : ∃ X, X = W6.alloc (.cells #[.string kb, .string vb, .int .u32 z0.fl, .int .i64 z0.ex, .int .u64 z0.ve, .bool true] 42) := ⟨_, rfl⟩
      have b6 : Below W6.heap.size W6 X6 := by rw [hX6]; exact (Below.refl _ W6).alloc (Nat.le_refl _) _
      have k6 := (HK5.out.offD o6 rfl).same (b6.block _ (HK5.out.offD o6 rfl).lt)
      have p6 := (HP5.out.offD o6 rfl).same (b6.block _ (HP5.out.offD o6 rfl).lt)
      have y6 := (HKY.out.offD o6 rfl).same (b6.block _ (HKY.out.offD o6 rfl).lt)
      have HE6 := hide (h6.on b6).bel
      have HX6 := hide hX6
      rw [hX6] at k6 p6 y6
      obtain ⟨x0, x1, x2, x3, x4, -⟩ := cells5 k6
      obtain ⟨p0, p1, p2, p3, p4, p5, -⟩ := cells6 p6
      obtain ⟨y0, y1, y2, y3, y4, -⟩ := cells5 y6
      clear cQ h6 o6 b6 hX6 HK5 HP5 HKY x0'' HX5 HY1 H5 k6 p6 y6
      go_wp2_with fail
      refine (cD.out _).mono ?_
      rintro e W7 ⟨rfl, b7⟩
      rw [← HX6.out] at b7
      have HE := hide (HE6.out.trans (b7.mono HE6.out.size))
      clear b7 HE6 HX6 cD x0 x1 x2 x3 x4 p0 p1 p2 p3 p4 p5 y0 y1 y2 y3 y4
      go_wp2
      go_ret
      exact ⟨rfl, HE.out⟩
    · have i0 : (z0.ex != 0) = true := by simpa using h0
      by_cases h1 : z0.ex ≤ a1
      · have i1 : (z0.ex ≤ a1) = True := eq_true h1

        have DD : deadB z0.ex a1 = true := by simp [deadB, h0, h1]
        rw [DD] at cD
        have HDD := hide DD
        clear h0 h1 DD
        go_wp2_with fail
        refine cP1.out.mono ?_
        rintro e W4 ⟨rfl, h4, o4⟩
        obtain ⟨X4, hX4⟩ : ∃ X, X = W4.alloc (.cells #[.string kb, .string vb, .int .u32 z0.fl, .int .i64 z0.ex, .int .u64 z0.ve, .bool true] 42) := ⟨_, rfl⟩
        have b4 : Below W4.heap.size W4 X4 := by rw [hX4]; exact (Below.refl _ W4).alloc (Nat.le_refl _) _
        obtain ⟨P1, hP1⟩ : ∃ B, B = W4.heap.size := ⟨_, rfl⟩
        have KP : Blk X4 P1 (L6 kb vb z0.fl z0.ex z0.ve true) 42 := by rw [hX4, hP1]; exact Blk.new W4 _ 42
        have H4 := hide (h4.on b4)
        have HK4 := hide ((HK3.out.offD o4 rfl).same (b4.block _ (HK3.out.offD o4 rfl).lt))
        have HKP := hide KP
        have cG := hide (get_some H4.out HKL.out a1 HI1.out HI2.out)
        skip
        rw [HDD.out] at cG
        simp only [Bool.false_eq_true, if_true, if_false, Bool.not_true, Bool.not_false] at cG
        unfold itV zIt at cG
        simp only [← HKB.out, ← HVB.out, txt_nil] at cG
        rw [hX4] at cG
        have HX4 := hide hX4
        have HP1 := hide hP1
        have x0' := (cells5 HK4.out).1
        rw [hX4] at x0'
        clear cP1 h4 o4 b4 KP HK3 x0 x1 x2 x3 x4 hX4 hP1 H3
        go_wp2_with fail
        refine cG.out.mono ?_
        rintro e W5 ⟨rfl, h5, o5⟩
        rw [← HX4.out] at o5
        rw [← HP1.out]
        obtain ⟨X5, hX5⟩ : ∃ X, X = W5.alloc (.cells #[.string ⟨#[]⟩, .string ⟨#[]⟩, .int .u32 0, .int .i64 0, .int .u64 0] 33) := ⟨_, rfl⟩
        have b5 : Below W5.heap.size W5 X5 := by rw [hX5]; exact (Below.refl _ W5).alloc (Nat.le_refl _) _
        obtain ⟨Y1, hY1⟩ : ∃ B, B = W5.heap.size := ⟨_, rfl⟩
        have KY : Blk X5 Y1 (L5 ⟨#[]⟩ ⟨#[]⟩ 0 0 0) 33 := by rw [hX5, hY1]; exact Blk.new W5 _ 33
        have H5 := hide (h5.on b5)
        have HK5 := hide ((HK4.out.offD o5 rfl).same (b5.block _ (HK4.out.offD o5 rfl).lt))
        have HP5 := hide ((HKP.out.offD o5 rfl).same (b5.block _ (HKP.out.offD o5 rfl).lt))
        have HKY := hide KY
        have HY1 := hide hY1
        have cQ := hide (peek_none H5.out HKL.out (drop_kfd H4.out.iv HI1.out))
        unfold ouV zOu zIt at cQ
        simp only [← HKB.out, ← HVB.out, txt_nil] at cQ
        rw [hX5] at cQ
        have x0'' := (cells5 HK5.out).1
        rw [hX5] at x0''
        have HX5 := hide hX5
        clear cG h5 o5 b5 KY HK4 HKP x0' hX5 hY1 HX4 HP1 H4
        go_wp2_with fail
        refine cQ.out.mono ?_
        rintro e W6 ⟨rfl, h6, o6⟩
        rw [← HX5.out] at o6
        rw [← HY1.out]
        obtain ⟨X6, hX6⟩ : ∃ X, X = W6.alloc (.cells #[.string ⟨#[]⟩, .string ⟨#[]⟩, .int .u32 0, .int .i64 0, .int .u64 0, .bool false] 42) := ⟨_, rfl⟩
        have b6 : Below W6.heap.size W6 X6 := by rw [hX6]; exact (Below.refl _ W6).alloc (Nat.le_refl _) _
        have k6 := (HK5.out.offD o6 rfl).same (b6.block _ (HK5.out.offD o6 rfl).lt)
        have p6 := (HP5.out.offD o6 rfl).same (b6.block _ (HP5.out.offD o6 rfl).lt)
        have y6 := (HKY.out.offD o6 rfl).same (b6.block _ (HKY.out.offD o6 rfl).lt)
        have HE6 := hide (h6.on b6).bel
        have HX6 := hide hX6
        rw [hX6] at k6 p6 y6
        obtain ⟨x0, x1, x2, x3, x4, -⟩ := cells5 k6
        obtain ⟨p0, p1, p2, p3, p4, p5, -⟩ := cells6 p6
        obtain ⟨y0, y1, y2, y3, y4, -⟩ := cells5 y6
        clear cQ h6 o6 b6 hX6 HK5 HP5 HKY x0'' HX5 HY1 H5 k6 p6 y6
        go_wp2_with fail
        refine (cD.out _).mono ?_
        rintro e W7 ⟨rfl, b7⟩
        rw [← HX6.out] at b7
        have HE := hide (HE6.out.trans (b7.mono HE6.out.size))
        clear b7 HE6 HX6 cD x0 x1 x2 x3 x4 p0 p1 p2 p3 p4 p5 y0 y1 y2 y3 y4
        go_wp2
        go_ret
        exact ⟨rfl, HE.out⟩
      · have i1 : (z0.ex ≤ a1) = False := eq_false h1

        have DD : deadB z0.ex a1 = false := by simp [deadB, h0, h1]
        rw [DD] at cD
        have HDD := hide DD
        clear h0 h1 DD
        go_wp2_with fail
        refine cP1.out.mono ?_
        rintro e W4 ⟨rfl, h4, o4⟩
        obtain ⟨X4, hX4⟩ : ∃ X, X = W4.alloc (.cells #[.string kb, .string vb, .int .u32 z0.fl, .int .i64 z0.ex, .int .u64 z0.ve, .bool true] 42) := ⟨_, rfl⟩
        have b4 : Below W4.heap.size W4 X4 := by rw [hX4]; exact (Below.refl _ W4).alloc (Nat.le_refl _) _
        obtain ⟨P1, hP1⟩ : ∃ B, B = W4.heap.size := ⟨_, rfl⟩
        have KP : Blk X4 P1 (L6 kb vb z0.fl z0.ex z0.ve true) 42 := by rw [hX4, hP1]; exact Blk.new W4 _ 42
        have H4 := hide (h4.on b4)
        have HK4 := hide ((HK3.out.offD o4 rfl).same (b4.block _ (HK3.out.offD o4 rfl).lt))
        have HKP := hide KP
        have cG := hide (get_some H4.out HKL.out a1 HI1.out HI2.out)
        skip
        rw [HDD.out] at cG
        simp only [Bool.false_eq_true, if_true, if_false, Bool.not_true, Bool.not_false] at cG
        unfold itV at cG
        simp only [← HKB.out, ← HVB.out, txt_nil] at cG
        rw [hX4] at cG
        have HX4 := hide hX4
        have HP1 := hide hP1
        have x0' := (cells5 HK4.out).1
        rw [hX4] at x0'
        clear cP1 h4 o4 b4 KP HK3 x0 x1 x2 x3 x4 hX4 hP1 H3
        go_wp2_with fail
        refine cG.out.mono ?_
        rintro e W5 ⟨rfl, h5, o5⟩
        rw [← HX4.out] at o5
        rw [← HP1.out]
        obtain ⟨X5, hX5⟩ : ∃ X, X = W5.alloc (.cells #[.string kb, .string vb, .int .u32 z0.fl, .int .i64 z0.ex, .int .u64 z0.ve] 33) := ⟨_, rfl⟩
        have b5 : Below W5.heap.size W5 X5 := by rw [hX5]; exact (Below.refl _ W5).alloc (Nat.le_refl _) _
        obtain ⟨Y1, hY1⟩ : ∃ B, B = W5.heap.size := ⟨_, rfl⟩
        have KY : Blk X5 Y1 (L5 kb vb z0.fl z0.ex z0.ve) 33 := by rw [hX5, hY1]; exact Blk.new W5 _ 33
        have H5 := hide (h5.on b5)
        have HK5 := hide ((HK4.out.offD o5 rfl).same (b5.block _ (HK4.out.offD o5 rfl).lt))
        have HP5 := hide ((HKP.out.offD o5 rfl).same (b5.block _ (HKP.out.offD o5 rfl).lt))
        have HKY := hide KY
        have HY1 := hide hY1
        have cQ := hide (peek_some H5.out HKL.out HI1.out HI2.out)
        unfold ouV at cQ
        simp only [← HKB.out, ← HVB.out, txt_nil] at cQ
        rw [hX5] at cQ
        have x0'' := (cells5 HK5.out).1
        rw [hX5] at x0''
        have HX5 := hide hX5
        clear cG h5 o5 b5 KY HK4 HKP x0' hX5 hY1 HX4 HP1 H4
        go_wp2_with fail
        refine cQ.out.mono ?_
        rintro e W6 ⟨rfl, h6, o6⟩
        rw [← HX5.out] at o6
        rw [← HY1.out]
        obtain ⟨X6, hX6⟩ : ∃ X, X = W6.alloc (.cells #[.string kb, .string vb, .int .u32 z0.fl, .int .i64 z0.ex, .int .u64 z0.ve, .bool true] 42) := ⟨_, rfl⟩
        have b6 : Below W6.heap.size W6 X6 := by rw [hX6]; exact (Below.refl _ W6).alloc (Nat.le_refl _) _
        have k6 := (HK5.out.offD o6 rfl).same (b6.block _ (HK5.out.offD o6 rfl).lt)
        have p6 := (HP5.out.offD o6 rfl).same (b6.block _ (HP5.out.offD o6 rfl).lt)
        have y6 := (HKY.out.offD o6 rfl).same (b6.block _ (HKY.out.offD o6 rfl).lt)
        have HE6 := hide (h6.on b6).bel
        have HX6 := hide hX6
        rw [hX6] at k6 p6 y6
        obtain ⟨x0, x1, x2, x3, x4, -⟩ := cells5 k6
        obtain ⟨p0, p1, p2, p3, p4, p5, -⟩ := cells6 p6
        obtain ⟨y0, y1, y2, y3, y4, -⟩ := cells5 y6
        clear cQ h6 o6 b6 hX6 HK5 HP5 HKY x0'' HX5 HY1 H5 k6 p6 y6
        go_wp2_with fail
        refine (cD.out _).mono ?_
        rintro e W7 ⟨rfl, b7⟩
        rw [← HX6.out] at b7
        have HE := hide (HE6.out.trans (b7.mono HE6.out.size))
        clear b7 HE6 HX6 cD x0 x1 x2 x3 x4 p0 p1 p2 p3 p4 p5 y0 y1 y2 y3 y4
        go_wp2
        go_ret
        exact ⟨rfl, HE.out⟩

theorem laidOut : laidOutB Tryd.prog = true := by kernel_rfl
theorem own : ownKnob Tryd.prog.godebug = none := by kernel_rfl
/-- What the row lists: the table of trailing zeros. -/
theorem table {W : World} (h : laidMetH Tryd.prog Rows.dramDeadRow.laid W) : Slb.Tab W :=
  Slb.Tab.of (Lib.tabIs_of_head (rest := []) (g := 0) (t := 147) (e := 5) (n := 64) (by kernel_rfl) (by kernel_rfl) (by kernel_rfl) (by kernel_rfl) (by kernel_rfl) (by kernel_rfl) (show laidMet Tryd.prog Rows.dramDeadRow.laid W from h))
set_option maxRecDepth 100000 in
/-- What the walk gives, for every argument and every world that holds the table. -/
theorem contract (H : Type) (enc : TypeId × Value → H) (W : World) (base : Nat) (args : Array Value) (ds gs : List (DataW H)) (before : List MemPlace)
    (hval : ∀ (j : Nat) t v, Tryd.f6.params[j]? = some t → args[j]? = some v → Value.okWide Tryd.prog W .any base t v)
    (hW : DataW.Whole enc Tryd.prog Tryd.f6.params.toList Rows.dramDeadSpec.vars false W args.toList ds gs before) (hsz : (DataW.weightsEach Tryd.prog (Tryd.f6.params.toList ++ (OpenSpec.ofChange Rows.dramDeadSpec).bare.plain.varTypes Tryd.prog) (ds ++ gs)).all (· ≤ reachBytes) = true) (hL : laidMetH Tryd.prog Rows.dramDeadRow.laid W) :
    Calls Tryd.prog 6 args W fun e W' => ∃ v, e = .returned v ∧ Rows.dramDeadSpec.post enc Tryd.prog Tryd.f6 false true false false W args v W' := by
  have hW' := hW
  obtain ⟨p, q, hA0, hV, rfl, hfz, hnd⟩ := hW
  have hA : DataW.TrodAll enc Tryd.prog W 0 (fun _ => true) true Tryd.f6.params.toList args.toList ds p := hA0
  rw [Tryd.params6] at hA hval hsz
  obtain ⟨v0, vs0, d0, ds0, p0, q0, hargs, rfl, rfl, h0, r0⟩ := trodAll_cons hA
  obtain ⟨v1, vs1, d1, ds1, p1, q1, rfl, rfl, rfl, h1, r1⟩ := trodAll_cons r0
  obtain ⟨rfl, rfl, rfl⟩ := trodAll_nil r1
  obtain rfl : args = #[v0, v1] := by cases args; simp_all
  obtain ⟨rfl, rfl⟩ := trodVars_none hV
  obtain ⟨cs0, rfl, hcs0⟩ := okWide_struct Tryd.underlying33 (hval 0 33 v0 rfl rfl)
  have k0 := h0
  have lt0 : ∀ x ∈ p0, x.block < W.heap.size := by obtain ⟨m, hm⟩ := k0; exact DataW.trod_lt m _ _ _ hm
  obtain ⟨z0, w0, rfl⟩ : ∃ t : It, t.raw ∧ cs0 = (itL t).toArray := by
    obtain ⟨fuel, hf⟩ := h0
    exact item_param hf (fun n hn => by
      have := List.all_eq_true.1 hsz n (DataW.weights_mem_each (j := 0) (t := 33) rfl rfl n hn)
      simpa using this) hcs0
  obtain ⟨a1, rfl, rfl, rfl, w1⟩ := open_int Tryd.underlying2 (hval 1 2 v1 rfl rfl) h1
  clear hA0
  try simp only [List.append_nil] at hW'
  refine (walk W z0 w0 a1 w1 (table hL)).mono fun e W' ⟨he, bel⟩ => ?_
  subst he
  exact ⟨_, rfl, _, _, _, [], _, [], hW', trodAll_mk1 (shut_bool Tryd.underlying4 _), (trodAll_cons_mk (Below.trod laidOut (by kernel_rfl) (of_decide_eq_true (by kernel_rfl)) k0 bel lt0) (trodAll_cons_mk (shut_int Tryd.underlying2 w1) trodAll_mk0)), rfl, bel.frame _, fun h => by cases h⟩

/-- The witness: what the initialisers leave is met. -/
theorem laid_met (os : Os) : laidMet Tryd.prog Rows.dramDeadRow.laid ((World.doorLaid Tryd.prog 14 os).forCall (fun _ _ => 0) ⟨#[], #[.agg #[.string ⟨#[]⟩, .string ⟨#[]⟩, .int .u32 0, .int .i64 0, .int .u64 0], .int .i64 0], []⟩).memory :=
  laidMet_of_run' 8 (by kernel_rfl) (by kernel_rfl)
theorem reads (os : Os) {H : Type} (enc : TypeId × Value → H) : ∃ xs places, DataW.whole enc Tryd.prog ((World.doorLaid Tryd.prog 14 os).forCall (fun _ _ => 0) ⟨#[], #[.agg #[.string ⟨#[]⟩, .string ⟨#[]⟩, .int .u32 0, .int .i64 0, .int .u64 0], .int .i64 0], []⟩).memory Tryd.f6.params.toList Rows.dramDeadSpec.vars false (#[.agg #[.string ⟨#[]⟩, .string ⟨#[]⟩, .int .u32 0, .int .i64 0, .int .u64 0], .int .i64 0] : Array Value).toList 8 = some (xs, [], places) :=
  by
  have h : (DataW.whole enc Tryd.prog ((World.doorLaid Tryd.prog 14 os).forCall (fun _ _ => 0) ⟨#[], #[.agg #[.string ⟨#[]⟩, .string ⟨#[]⟩, .int .u32 0, .int .i64 0, .int .u64 0], .int .i64 0], []⟩).memory Tryd.f6.params.toList Rows.dramDeadSpec.vars false (#[.agg #[.string ⟨#[]⟩, .string ⟨#[]⟩, .int .u32 0, .int .i64 0, .int .u64 0], .int .i64 0] : Array Value).toList 8).map (fun r => r.2.1.isEmpty) = some true := by kernel_rfl
  obtain ⟨⟨xs, gs, pl⟩, h1, h2⟩ := Option.map_eq_some_iff.1 h
  have h3 : gs = [] := List.isEmpty_iff.1 h2
  subst h3
  exact ⟨xs, pl, h1⟩

set_option maxRecDepth 100000 in
theorem lifted (os : Os) (started : os.Started) (H : Type) (enc : TypeId × Value → H) (F : Stop.Interp) :
    ReturnsInHanded {} Tryd.checked os 6 .any ((OpenSpec.ofChange Rows.dramDeadSpec).preRow enc Tryd.prog Tryd.f6 Rows.dramDeadRow.domain false Rows.dramDeadRow.laid) (((OpenSpec.ofChange Rows.dramDeadSpec).at F).post enc Tryd.prog Tryd.f6 false true false false) := by
  obtain ⟨xs, places, hx⟩ := reads os enc
  refine returnsInHanded_of_row (C := Tryd.checked) (s := OpenSpec.ofChange Rows.dramDeadSpec) own started (by kernel_rfl) Tryd.func6
    (witness_row_at (enc := enc) (C := Tryd.checked) false (World.doorLaid Tryd.prog 14 os) #[.agg #[.string ⟨#[]⟩, .string ⟨#[]⟩, .int .u32 0, .int .i64 0, .int .u64 0], .int .i64 0] rfl (by kernel_rfl) (by kernel_rfl) (by kernel_rfl)
      (OpenSpec.preRow_of_cond 8 hx (by kernel_rfl) (fun k hk => by cases hk) (by kernel_rfl) (laid_met os))) ?_
  intro W base args ds gs before hval hW _ _ hsz hL _ _
  exact contract H enc W base args ds gs before hval hW hsz hL

theorem said : Rows.DramDeadSaid :=
  OpenClaim.holds_of_cond 6 Tryd.f6 rfl rfl rfl rfl rfl rfl rfl ⟨rfl, rfl, rfl, rfl, rfl⟩ rfl rfl rfl rfl rfl (by kernel_rfl) Tryd.func6 (by kernel_rfl)
    (of_decide_eq_true (by kernel_rfl)) (by unfold Func.isWrapper; first | (rw [if_pos (by decide +kernel)]; kernel_rfl) | (rw [if_neg (by decide +kernel)]; exact ⟨rfl, rfl⟩))
    (fun os started H enc _ F => by rw [OpenClaim.pre_eq_preRow]; exact lifted os started H enc F)

theorem plain (f : FuncId) (fn : Func) (hf : Tryd.pinned.checked.prog.funcNamed Rows.dramDeadRow.func = some f) (hfn : Tryd.pinned.checked.prog.funcs[f]? = some fn) :
    false = Tryd.pinned.checked.prog.looks [] ∧ ∀ (j : Nat) t, fn.params[j]? = some t → Tryd.pinned.checked.prog.wantsStandIn t = false := by
  obtain rfl : f = 6 := Option.some.inj ((show Tryd.prog.funcNamed Rows.dramDeadRow.func = some 6 by kernel_rfl).symm.trans hf) |>.symm
  obtain rfl : fn = Tryd.f6 := (Option.some.inj (Tryd.func6.symm.trans hfn)).symm
  refine ⟨by kernel_rfl, fun j t ht => ?_⟩
  rw [Tryd.params6] at ht
  have hm : t ∈ [33, 2] := by simpa using Array.mem_of_getElem? ht
  have hall : ([33, 2].all fun u => !Tryd.prog.wantsStandIn u) = true := by kernel_rfl
  exact (show Tryd.prog.wantsStandIn t = false by simpa using List.all_eq_true.1 hall t hm)

theorem card : Rows.DramDeadCardSaid :=
  Claim7.holds_tied_plain_at .later [] _ _ _ _ said (fun _ h => by cases h) (by kernel_rfl) (fun _ h => by cases h) dramDead_row_tie rfl ⟨rfl, rfl⟩ (by kernel_rfl) rfl plain (by kernel_rfl)
end Go.Proofs.YtdkiegkgnimapaaDoor.dramDead
namespace Go.Proofs.YtdkiegkgnimapaaDoor
theorem dramDead_holds : Rows.DramDeadCardSaid := dramDead.card
#print axioms dramDead_holds
end Go.Proofs.YtdkiegkgnimapaaDoor
