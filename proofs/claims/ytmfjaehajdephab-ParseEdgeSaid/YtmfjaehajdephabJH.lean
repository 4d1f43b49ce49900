/- Texts joined. -/
import Derived.Test.YtmfjaehajdephabJG
import Derived.Lib.SlBytesConst
/-
  data of a parser: a bad chunk.
-/
namespace Go.Proofs.Ytmfjaehajdephab
open Go.Shelf Go.RowKit Go.Deep
set_option linter.unusedVariables false
set_option linter.unusedSimpArgs false
set_option maxRecDepth 1000000

set_option maxHeartbeats 1000000 in
theorem data_bad (w : World) (p : Nat) (v : Value) (beg seen : Nat) (over : Bool) (c : Cm) (a0 : Option Addr) (n0 c0 : Nat) (left gone : Nat) (F : List UInt8) (N L g : Nat) (F1 : List UInt8) (h : PM w p v beg seen over c (.slice a0 n0 c0) left gone F N) (hN : N ≤ 1000000) (hrow : RowT w a0 n0 c.keys) (hlg : LgQ p seen over c (.slice a0 n0 c0) left gone F N L g F1) (hL : L ≤ 2147483647) (hf : L ≤ F1.length) (hk : endsI (F1.drop L) = -1) :
    Calls Try.prog 23 #[.pointer (some ⟨p, 0, none⟩)] w (DtQ w p v (badC chunkT) true seen true cmZ (fun k => k = .slice none 0 0) 0 0 (F1.drop L) N) := by
  have B0 := (Below.refl w.heap.size w).alloc (Nat.le_refl _) (cmO cmZ (.slice none 0 0))
  have HQ0 := hide (QAt.later h B0)
  have HT0 := hide (heap_alloc_new w (cmO cmZ (.slice none 0 0)))
  have HP := hide h.blk.lt
  have HB0 := hide B0
  have HR0 := hide (hrow.later B0)
  have HLG := hide hlg
  clear h hrow hlg B0
  go_enter Try.func23, Try.ntmps23
  go_wp2_with fail
  refine Calls.mono (HLG.out _ v beg HQ0.out) ?_
  rintro e w1 ⟨rfl, v1, beg1, Q1, k1, o1⟩
  obtain ⟨a, ca, hB, hFN, hoff, hspot, hnil, hall⟩ := QAt.all Q1
  obtain ⟨n, hn⟩ : ∃ n, n = F1.length := ⟨_, rfl⟩
  rw [← hn] at hB hall hFN
  have hF : n ≤ 1000000 := by omega
  have HT1 : Hid (w1.heap[w.heap.size]? = some (cmO cmZ (.slice none 0 0))) := (k1.block _ (lt_of_at _ ⟨_, HT0.out⟩) (by have := HP.out; simp; omega)).trans HT0.out
  have HK1 : Hid (Keep [p] w w1) := (Keep.of_below HB0.out).trans k1 (fun x hx => .inl hx)
  have HO1 : Hid (∀ g, v1.ownBlock = some g → v.ownBlock = some g ∨ w.heap.size ≤ g) := fun g hg => (o1 g hg).imp id (fun h => Nat.le_trans HB0.out.size h)
  have HR1 : Hid (RowT w1 a0 n0 c.keys) := HR0.out.keepF (fun x hx hxp => by
    obtain ⟨cs, fz, hc⟩ := HR0.out.kind x hx
    simp only [List.mem_singleton] at hxp
    rw [hxp, HQ0.out.blk] at hc
    simp at hc) k1
  have HQ1 := hide Q1
  have HALL := hide hall
  have HBS := hide hB
  have HN := hide hn
  have HSP := hide hspot
  have HNL := hide hnil
  have hFN2 := hide hFN
  clear Q1 k1 o1 hall hB hn hspot hnil hoff hFN HQ0 HT0 HB0 HR0 HLG
  go_wp2_with fail
  refine Calls.mono (HALL.out _ ?_) ?_
  · exact HQ1.out.blk
  rintro e w2 ⟨rfl, m, rfl⟩
  obtain ⟨W2, hW2⟩ : ∃ W2, W2 = w1.drewN m := ⟨_, rfl⟩
  rw [← hW2]
  have HQ2 : Hid (PM W2 p v1 beg1 seen over c (.slice a0 n0 c0) L g F1 N) := by rw [hW2]; exact HQ1.out.drewN m
  have HT2 : Hid (W2.heap[w.heap.size]? = some (cmO cmZ (.slice none 0 0))) := by rw [hW2]; exact HT1.out
  have HK2 : Hid (Keep [p] w W2) := by rw [hW2]; exact ⟨HK1.out.os, HK1.out.tape, HK1.out.output, HK1.out.size, HK1.out.block⟩
  have HR2 : Hid (RowT W2 a0 n0 c.keys) := by rw [hW2]; exact HR1.out.later (below_drewN _ _ _)
  have HBS2 : Hid (BS W2 a n ca F1) := by rw [hW2]; exact HBS.out.heap rfl
  have d16 : W2.cell? ⟨p, 16, none⟩ = some (.int .i64 (L : Int)) := QAt.cellR HQ2.out 14 rfl
  have HLT : Hid (w.heap.size < W2.heap.size) := lt_of_at _ ⟨_, HT2.out⟩
  clear hW2 HQ1 HT1 HK1 HR1 HBS HALL
  have hf2 : ¬ ((n : Int) < (L : Int)) := by have := HN.out; omega
  have hLn : L ≤ n := by omega
  obtain ⟨mm, hmm, hm1, hm2, hm3⟩ : ∃ mm : Nat, (min ((L : Int) + 2) (n : Int) = (mm : Int)) ∧ L ≤ mm ∧ mm ≤ n ∧ mm = min (L + 2) n := ⟨min (L + 2) n, by omega, by omega, by omega, rfl⟩
  have HW2 : Hid (IntKind.i64.wrap ((L : Int) + 2) = (L : Int) + 2) := by show _ = _; rw [IntKind.wrap_i64]; omega
  have HMM := hide hmm
  obtain ⟨a4, c4, hsl, hb4⟩ := mid_bs HBS2.out HSP.out L mm hm1 hm2 HNL.out
  obtain ⟨n4, hn4⟩ : ∃ n4, n4 = mm - L := ⟨_, rfl⟩
  rw [← hn4] at hsl hb4
  have HSL : Hid (∀ X, (Instr.sliceAt 26 (.slice a n ca) (some (.int .i64 (L : Int))) (some (.int .i64 (mm : Int))) none).run Try.prog X = .ok (.slice a4 n4 c4) X) := hsl
  obtain ⟨tx, htx⟩ : ∃ tx : ByteArray, tx = ⟨((F1.take mm).drop L).toArray⟩ := ⟨_, rfl⟩
  have HCV : Hid (∀ W, Below W2.heap.size W2 W → (convert 26 9 (.slice a4 n4 c4)).run Try.prog W = .ok (.string tx) W) := fun W hW => by rw [htx]; exact str_bs (hb4.later hW)
  have htwo : tx.data.toList = (F1.drop L).take 2 := by
    rw [htx]
    show (F1.take mm).drop L = (F1.drop L).take 2
    rw [List.drop_take, hm3]
    by_cases hq : L + 2 ≤ n
    · rw [Nat.min_eq_left hq]; congr 1; omega
    · rw [Nat.min_eq_right (by omega), List.take_of_length_le (by rw [List.length_drop, ← HN.out]; omega), List.take_of_length_le (by rw [List.length_drop, ← HN.out]; omega)]
  obtain ⟨k1, hk1⟩ : ∃ k1, k1 = endsI (F1.drop L) := ⟨_, rfl⟩
  have hends : endsI tx.data.toList = k1 := by rw [htwo, hk1]; unfold endsI; rw [endsP_two]
  have HCE : Hid (∀ us W, DtC W2 c (.slice a0 n0 c0) k1 us W → us 21 = none → Calls Try.prog 42 #[.string tx] W fun e w2 => ∃ v, e = .returned v ∧ DtC W2 c (.slice a0 n0 c0) k1 (setU us 19 v) w2) := fun us W hc ha => by
    refine (ends_any tx W).mono ?_
    rintro e w2 ⟨rfl, hb⟩
    rw [hends]
    exact ⟨_, rfl, hc.s19 ha hb⟩
  rw [← hk1] at hk
  clear hmm hsl hb4 htx htwo hends hm1 hm2 hm3 hn4 hk1
  have HKZ := hide hk
  have HLF : Hid (L ≤ F1.length) := hf
  clear hf hk
  go_wp2
  refine wp_region_par (by kernel_rfl) (by kernel_rfl) (fun jx => ([.pointer (some ⟨p, 0, none⟩), .pointer (some ⟨p, 0, none⟩), .pointer (some ⟨p, 4, none⟩), .agg #[.string c.what, .string c.verb, .slice a0 n0 c0, .string c.data, .int .u32 c.fl, .int .i64 c.ex, .int .u64 c.cs, .int .u64 c.y, .bool c.wc, .bool c.wt, .bool c.dn, .bool c.q], .slice a n ca, .pointer (some ⟨p, 0, none⟩), .pointer (some ⟨p, 0, none⟩), .pointer (some ⟨p, 16, none⟩), .int .i64 (L : Int), .pointer (some ⟨p, 0, none⟩), .pointer (some ⟨p, 0, none⟩), .pointer (some ⟨p, 16, none⟩), .int .i64 (L : Int), .int .i64 ((L : Int) + 2), .slice a n ca, .int .i64 (n : Int), .int .i64 (mm : Int), .slice a4 n4 c4, .string tx, undef, undef, undef, .int .i64 k1] : List Value).getD jx undef) [19, 20, 21] (fun z hz => by simp at hz; rcases hz with rfl | rfl | rfl <;> decide) (DtC W2 c (.slice a0 n0 c0) k1) (DtC.new) ?_ ?_
  · intro jx ox hi us w' ev hc hbef haft hin hout hold hcst hfn
    have hltx : jx < 23 := by
      have := (Array.getElem?_eq_some_iff.1 hi).1
      simpa using this
    match jx, hltx with
    | 0, _ =>
      simp only [List.getElem?_toArray, List.getElem?_cons_zero, List.getElem?_cons_succ, Option.some.injEq] at hi
      subst hi
      have ha21 : us 21 = none := haft 21 rfl (by kernel_rfl)
      have e0 : ev (.tmp 0) = .pointer (some ⟨p, 0, none⟩) := hout 0 (by kernel_rfl) (show (0 : Nat) < 85 by decide)
      refine ⟨fun hno => absurd hno (by decide), fun _ => ?_⟩
      simp [execOp, e0, hcst, go_sem]
    | 1, _ =>
      simp only [List.getElem?_toArray, List.getElem?_cons_zero, List.getElem?_cons_succ, Option.some.injEq] at hi
      subst hi
      have ha21 : us 21 = none := haft 21 rfl (by kernel_rfl)
      have e0 : ev (.tmp 21) = .pointer (some ⟨p, 0, none⟩) := hin 21 0 ⟨0, .data⟩ (by kernel_rfl) (by simp) rfl rfl (show (21 : Nat) < 85 by decide)
      refine ⟨fun hno => absurd hno (by decide), fun _ => ?_⟩
      simp [execOp, e0, hcst, go_sem]
    | 2, _ =>
      simp only [List.getElem?_toArray, List.getElem?_cons_zero, List.getElem?_cons_succ, Option.some.injEq] at hi
      subst hi
      have ha21 : us 21 = none := haft 21 rfl (by kernel_rfl)
      have e0 : ev (.tmp 22) = .pointer (some ⟨p, 0, none⟩) := hin 22 1 ⟨1, .data⟩ (by kernel_rfl) (by simp) rfl rfl (show (22 : Nat) < 85 by decide)
      refine ⟨fun hno => absurd hno (by decide), fun _ => ?_⟩
      simp [execOp, e0, hcst, go_sem]
    | 3, _ =>
      simp only [List.getElem?_toArray, List.getElem?_cons_zero, List.getElem?_cons_succ, Option.some.injEq] at hi
      subst hi
      have ha21 : us 21 = none := haft 21 rfl (by kernel_rfl)
      have e0 : ev (.tmp 23) = .pointer (some ⟨p, 4, none⟩) := hin 23 2 ⟨2, .data⟩ (by kernel_rfl) (by simp) rfl rfl (show (23 : Nat) < 85 by decide)
      refine ⟨fun hno => absurd hno (by decide), fun _ => ?_⟩
      have q2 := load_held (HQ2.out.later hc.bel)
      simp only [execOp, e0, Instr.loadAt, Instr.sureAddr, Sem.run_bind, Sem.run_pure, Result.andThen_ok, q2]
      rfl
    | 4, _ =>
      simp only [List.getElem?_toArray, List.getElem?_cons_zero, List.getElem?_cons_succ, Option.some.injEq] at hi
      subst hi
      have e0 : ev (.tmp 4) = .slice a n ca := hout 4 (by kernel_rfl) (show (4 : Nat) < 85 by decide)
      refine ⟨fun hno => absurd hno (by decide), fun _ => ?_⟩
      simp [execOp, e0, hcst, go_sem]
    | 5, _ =>
      simp only [List.getElem?_toArray, List.getElem?_cons_zero, List.getElem?_cons_succ, Option.some.injEq] at hi
      subst hi
      have e0 : ev (.tmp 0) = .pointer (some ⟨p, 0, none⟩) := hout 0 (by kernel_rfl) (show (0 : Nat) < 85 by decide)
      refine ⟨fun hno => absurd hno (by decide), fun _ => ?_⟩
      simp [execOp, e0, hcst, go_sem]
    | 6, _ =>
      simp only [List.getElem?_toArray, List.getElem?_cons_zero, List.getElem?_cons_succ, Option.some.injEq] at hi
      subst hi
      have e0 : ev (.tmp 26) = .pointer (some ⟨p, 0, none⟩) := hin 26 5 ⟨5, .data⟩ (by kernel_rfl) (by simp) rfl rfl (show (26 : Nat) < 85 by decide)
      refine ⟨fun hno => absurd hno (by decide), fun _ => ?_⟩
      simp [execOp, e0, hcst, go_sem]
    | 7, _ =>
      simp only [List.getElem?_toArray, List.getElem?_cons_zero, List.getElem?_cons_succ, Option.some.injEq] at hi
      subst hi
      have e0 : ev (.tmp 27) = .pointer (some ⟨p, 0, none⟩) := hin 27 6 ⟨6, .data⟩ (by kernel_rfl) (by simp) rfl rfl (show (27 : Nat) < 85 by decide)
      refine ⟨fun hno => absurd hno (by decide), fun _ => ?_⟩
      simp [execOp, e0, hcst, go_sem]
    | 8, _ =>
      simp only [List.getElem?_toArray, List.getElem?_cons_zero, List.getElem?_cons_succ, Option.some.injEq] at hi
      subst hi
      have e0 : ev (.tmp 28) = .pointer (some ⟨p, 16, none⟩) := hin 28 7 ⟨7, .data⟩ (by kernel_rfl) (by simp) rfl rfl (show (28 : Nat) < 85 by decide)
      refine ⟨fun hno => absurd hno (by decide), fun _ => ?_⟩
      have q2 : w'.cell? ⟨p, 16, none⟩ = some (.int .i64 (L : Int)) := QAt.cellR (HQ2.out.later hc.bel) 14 rfl
      simp [execOp, e0, hcst, go_sem, q2]
    | 9, _ =>
      simp only [List.getElem?_toArray, List.getElem?_cons_zero, List.getElem?_cons_succ, Option.some.injEq] at hi
      subst hi
      have e0 : ev (.tmp 0) = .pointer (some ⟨p, 0, none⟩) := hout 0 (by kernel_rfl) (show (0 : Nat) < 85 by decide)
      refine ⟨fun hno => absurd hno (by decide), fun _ => ?_⟩
      simp [execOp, e0, hcst, go_sem]
    | 10, _ =>
      simp only [List.getElem?_toArray, List.getElem?_cons_zero, List.getElem?_cons_succ, Option.some.injEq] at hi
      subst hi
      have e0 : ev (.tmp 30) = .pointer (some ⟨p, 0, none⟩) := hin 30 9 ⟨9, .data⟩ (by kernel_rfl) (by simp) rfl rfl (show (30 : Nat) < 85 by decide)
      refine ⟨fun hno => absurd hno (by decide), fun _ => ?_⟩
      simp [execOp, e0, hcst, go_sem]
    | 11, _ =>
      simp only [List.getElem?_toArray, List.getElem?_cons_zero, List.getElem?_cons_succ, Option.some.injEq] at hi
      subst hi
      have e0 : ev (.tmp 31) = .pointer (some ⟨p, 0, none⟩) := hin 31 10 ⟨10, .data⟩ (by kernel_rfl) (by simp) rfl rfl (show (31 : Nat) < 85 by decide)
      refine ⟨fun hno => absurd hno (by decide), fun _ => ?_⟩
      simp [execOp, e0, hcst, go_sem]
    | 12, _ =>
      simp only [List.getElem?_toArray, List.getElem?_cons_zero, List.getElem?_cons_succ, Option.some.injEq] at hi
      subst hi
      have e0 : ev (.tmp 32) = .pointer (some ⟨p, 16, none⟩) := hin 32 11 ⟨11, .data⟩ (by kernel_rfl) (by simp) rfl rfl (show (32 : Nat) < 85 by decide)
      refine ⟨fun hno => absurd hno (by decide), fun _ => ?_⟩
      have q2 : w'.cell? ⟨p, 16, none⟩ = some (.int .i64 (L : Int)) := QAt.cellR (HQ2.out.later hc.bel) 14 rfl
      simp [execOp, e0, hcst, go_sem, q2]
    | 13, _ =>
      simp only [List.getElem?_toArray, List.getElem?_cons_zero, List.getElem?_cons_succ, Option.some.injEq] at hi
      subst hi
      have e0 : ev (.tmp 33) = .int .i64 (L : Int) := hin 33 12 ⟨12, .data⟩ (by kernel_rfl) (by simp) rfl rfl (show (33 : Nat) < 85 by decide)
      refine ⟨fun hno => absurd hno (by decide), fun _ => ?_⟩
      have q1 := HW2.out
      simp [execOp, e0, hcst, go_sem, q1]
    | 14, _ =>
      simp only [List.getElem?_toArray, List.getElem?_cons_zero, List.getElem?_cons_succ, Option.some.injEq] at hi
      subst hi
      have e0 : ev (.tmp 4) = .slice a n ca := hout 4 (by kernel_rfl) (show (4 : Nat) < 85 by decide)
      refine ⟨fun hno => absurd hno (by decide), fun _ => ?_⟩
      simp [execOp, e0, hcst, go_sem]
    | 15, _ =>
      simp only [List.getElem?_toArray, List.getElem?_cons_zero, List.getElem?_cons_succ, Option.some.injEq] at hi
      subst hi
      have e0 : ev (.tmp 35) = .slice a n ca := hin 35 14 ⟨14, .data⟩ (by kernel_rfl) (by simp) rfl rfl (show (35 : Nat) < 85 by decide)
      refine ⟨fun hno => absurd hno (by decide), fun _ => ?_⟩
      simp [execOp, e0, hcst, go_sem, resolve, invoke, builtin]
    | 16, _ =>
      simp only [List.getElem?_toArray, List.getElem?_cons_zero, List.getElem?_cons_succ, Option.some.injEq] at hi
      subst hi
      have e0 : ev (.tmp 34) = .int .i64 ((L : Int) + 2) := hin 34 13 ⟨13, .data⟩ (by kernel_rfl) (by simp) rfl rfl (show (34 : Nat) < 85 by decide)
      have e1 : ev (.tmp 36) = .int .i64 (n : Int) := hin 36 15 ⟨15, .data⟩ (by kernel_rfl) (by simp) rfl rfl (show (36 : Nat) < 85 by decide)
      refine ⟨fun hno => absurd hno (by decide), fun _ => ?_⟩
      have q1 := HMM.out
      simp [execOp, e0, e1, hcst, go_sem, q1, resolve, invoke, builtin]
    | 17, _ =>
      simp only [List.getElem?_toArray, List.getElem?_cons_zero, List.getElem?_cons_succ, Option.some.injEq] at hi
      subst hi
      have e0 : ev (.tmp 25) = .slice a n ca := hin 25 4 ⟨4, .data⟩ (by kernel_rfl) (by simp) rfl rfl (show (25 : Nat) < 85 by decide)
      have e1 : ev (.tmp 29) = .int .i64 (L : Int) := hin 29 8 ⟨8, .data⟩ (by kernel_rfl) (by simp) rfl rfl (show (29 : Nat) < 85 by decide)
      have e2 : ev (.tmp 37) = .int .i64 (mm : Int) := hin 37 16 ⟨16, .data⟩ (by kernel_rfl) (by simp) rfl rfl (show (37 : Nat) < 85 by decide)
      refine ⟨fun hno => absurd hno (by decide), fun _ => ?_⟩
      have q1 := HSL.out w'
      simp [execOp, e0, e1, e2, hcst, go_sem, q1]
    | 18, _ =>
      simp only [List.getElem?_toArray, List.getElem?_cons_zero, List.getElem?_cons_succ, Option.some.injEq] at hi
      subst hi
      have ha19 : us 19 = none := haft 19 rfl (by kernel_rfl)
      have e0 : ev (.tmp 38) = .slice a4 n4 c4 := hin 38 17 ⟨17, .data⟩ (by kernel_rfl) (by simp) rfl rfl (show (38 : Nat) < 85 by decide)
      refine ⟨fun hno => absurd hno (by decide), fun _ => ?_⟩
      have q1 := HCV.out w' hc.bel
      simp [execOp, e0, hcst, go_sem, q1]
    | 19, _ =>
      simp only [List.getElem?_toArray, List.getElem?_cons_zero, List.getElem?_cons_succ, Option.some.injEq] at hi
      subst hi
      have ha21 : us 21 = none := haft 21 rfl (by kernel_rfl)
      have e0 : ev (.tmp 39) = .string tx := hin 39 18 ⟨18, .data⟩ (by kernel_rfl) (by simp) rfl rfl (show (39 : Nat) < 85 by decide)
      refine ⟨fun _ hz => ?_, fun hno => absurd hno (by decide)⟩
      refine .inl (.inr ⟨42, #[.string tx], ?_, HCE.out us w' hc ha21⟩)
      have ef := hfn 42
      simp [execOp, resolve, invoke, ef, hcst, e0, Result.andThen]
      exact enter70 _ _
    | 20, _ =>
      simp only [List.getElem?_toArray, List.getElem?_cons_zero, List.getElem?_cons_succ, Option.some.injEq] at hi
      subst hi
      have ha21 : us 21 = none := haft 21 rfl (by kernel_rfl)
      refine ⟨fun _ hz => ?_, fun hno => absurd hno (by decide)⟩
      refine .inl (.inl ⟨_, _, ?_, DtC.s20 hc ha21⟩)
      simp [execOp, hcst, go_sem, cmZ]
    | 21, _ =>
      simp only [List.getElem?_toArray, List.getElem?_cons_zero, List.getElem?_cons_succ, Option.some.injEq] at hi
      subst hi
      have hb19 : (us 19).isSome = true := hbef 19 rfl (by kernel_rfl)
      have hb20 : (us 20).isSome = true := hbef 20 rfl (by kernel_rfl)
      have e0 : ev (.tmp 5) = (us 20).getD undef := hin 5 20 ⟨20, .data⟩ (by kernel_rfl) (by simp) rfl rfl (show (5 : Nat) < 85 by decide)
      have e1 : ev (.tmp 24) = .agg #[.string c.what, .string c.verb, .slice a0 n0 c0, .string c.data, .int .u32 c.fl, .int .i64 c.ex, .int .u64 c.cs, .int .u64 c.y, .bool c.wc, .bool c.wt, .bool c.dn, .bool c.q] := hin 24 3 ⟨3, .data⟩ (by kernel_rfl) (by simp) rfl rfl (show (24 : Nat) < 85 by decide)
      refine ⟨fun _ hz => ?_, fun hno => absurd hno (by decide)⟩
      obtain ⟨u20, hu20⟩ := Option.isSome_iff_exists.1 hb20
      obtain ⟨b8, W', q3, q4, q5⟩ := DtC.s21 hc hu20 hz
      rw [hu20, Option.getD_some, q3] at e0
      refine .inr ⟨W', ?_, q5⟩
      simp only [execOp, e0, e1, Instr.storeAt, Instr.sureAddr, Sem.run_bind, Sem.run_pure, Result.andThen_ok, q4]
    | 22, _ =>
      simp only [List.getElem?_toArray, List.getElem?_cons_zero, List.getElem?_cons_succ, Option.some.injEq] at hi
      subst hi
      have hb19 : (us 19).isSome = true := hbef 19 rfl (by kernel_rfl)
      have hb20 : (us 20).isSome = true := hbef 20 rfl (by kernel_rfl)
      have hb21 : (us 21).isSome = true := hbef 21 rfl (by kernel_rfl)
      have e0 : ev (.tmp 40) = (us 19).getD undef := hin 40 19 ⟨19, .data⟩ (by kernel_rfl) (by simp) rfl rfl (show (40 : Nat) < 85 by decide)
      refine ⟨fun hno => absurd hno (by decide), fun _ => ?_⟩
      obtain ⟨u19, hu19⟩ := Option.isSome_iff_exists.1 hb19
      have q1 := hc.call _ hu19
      rw [hu19, Option.getD_some, q1] at e0
      simp [execOp, e0, hcst, go_sem]
  · intro us w7 hus hc
    obtain ⟨z21, b5, d19, d20, d21, l5, e5⟩ := DtC.done hc hus
    rw [lexF_same (V' := fun jx => ([.pointer (some ⟨p, 0, none⟩), .pointer (some ⟨p, 0, none⟩), .pointer (some ⟨p, 4, none⟩), .agg #[.string c.what, .string c.verb, .slice a0 n0 c0, .string c.data, .int .u32 c.fl, .int .i64 c.ex, .int .u64 c.cs, .int .u64 c.y, .bool c.wc, .bool c.wt, .bool c.dn, .bool c.q], .slice a n ca, .pointer (some ⟨p, 0, none⟩), .pointer (some ⟨p, 0, none⟩), .pointer (some ⟨p, 16, none⟩), .int .i64 (L : Int), .pointer (some ⟨p, 0, none⟩), .pointer (some ⟨p, 0, none⟩), .pointer (some ⟨p, 16, none⟩), .int .i64 (L : Int), .int .i64 ((L : Int) + 2), .slice a n ca, .int .i64 (n : Int), .int .i64 (mm : Int), .slice a4 n4 c4, .string tx, (.int .i64 k1), (.pointer (some ⟨b5, 0, none⟩)), z21, .int .i64 k1] : List Value).getD jx undef) _ 0 _ (fun jx _ hj => by
      have hlt : jx < 23 := by simpa using hj
      match jx, hlt with
      | 0, _ => rfl
      | 1, _ => rfl
      | 2, _ => rfl
      | 3, _ => rfl
      | 4, _ => rfl
      | 5, _ => rfl
      | 6, _ => rfl
      | 7, _ => rfl
      | 8, _ => rfl
      | 9, _ => rfl
      | 10, _ => rfl
      | 11, _ => rfl
      | 12, _ => rfl
      | 13, _ => rfl
      | 14, _ => rfl
      | 15, _ => rfl
      | 16, _ => rfl
      | 17, _ => rfl
      | 18, _ => rfl
      | 19, _ => exact (by unfold parV; rw [if_pos (by decide), d19]; rfl)
      | 20, _ => exact (by unfold parV; rw [if_pos (by decide), d20]; rfl)
      | 21, _ => exact (by unfold parV; rw [if_pos (by decide), d21]; rfl)
      | 22, _ => rfl
      | jy + 23, hy => exact absurd hy (by omega))]
    simp only [lexF, Act.put, List.setIfInBounds_toArray, List.set_cons_succ, List.set_cons_zero, List.getD_cons_succ, List.getD_cons_zero]
    have HQ3 : Hid (PM w7 p v1 beg1 seen over c (.slice a0 n0 c0) L g F1 N) := HQ2.out.later hc.bel
    have HT3 : Hid (w7.heap[w.heap.size]? = some (cmO cmZ (.slice none 0 0))) := (hc.bel.block _ HLT.out).trans HT2.out
    have HK3 : Hid (Keep [p] w w7) := HK2.out.trans (Keep.of_below (F := [p]) hc.bel) (fun x hx => .inl hx)
    have HR3 : Hid (RowT w7 a0 n0 c.keys) := HR2.out.later hc.bel
    have HN3 : Hid (w7.heap[b5]? = some (cmO c (.slice a0 n0 c0))) := e5
    have HBS3 : Hid (BS w7 a n ca F1) := HBS2.out.later hc.bel
    have h5t : b5 ≠ w.heap.size := by have := HLT.out; omega
    have h5p : b5 ≠ p := by have := HLT.out; have := HP.out; omega
    have hpt : p ≠ w.heap.size := by have := HP.out; omega
    have h5l : w.heap.size ≤ b5 := by have := HLT.out; omega
    clear hc hus d19 d20 d21 l5 e5 HCE HCV HSL HQ2 HT2 HK2 HR2 d16
    have hkz := HKZ.out
    clear HKZ
    subst hkz
    go_wp2_with fail
    refine (bad_any _ _).mono ?_
    rintro e W8 ⟨rfl, hb⟩
    have Q8 := HQ3.out.later hb
    have T8 := (hb.block _ (lt_of_at _ ⟨_, HT3.out⟩)).trans HT3.out
    have N8 := (hb.block _ (lt_of_at _ ⟨_, HN3.out⟩)).trans HN3.out
    have K8 : Keep [p] w W8 := HK3.out.trans (Keep.of_below (F := [p]) hb) (fun x hx => .inl hx)
    have HTh := there_cmz N8
    clear hb HQ3 HT3 HN3 HK3 HR3 HBS3
    simp only []
    go_step
    refine store_stepA (r := (badV ⟨#[67, 76, 73, 69, 78, 84, 95, 69, 82, 82, 79, 82, 32, 98, 97, 100, 32, 100, 97, 116, 97, 32, 99, 104, 117, 110, 107]⟩)) (a := none) (n := 0) (c := 0) rfl _ _ rfl b5 rfl rfl HTh ?_
    have hkc := keep_cm W8 b5 (badV ⟨#[67, 76, 73, 69, 78, 84, 95, 69, 82, 82, 79, 82, 32, 98, 97, 100, 32, 100, 97, 116, 97, 32, 99, 104, 117, 110, 107]⟩) (.slice none 0 0)
    have QX := QAt.far Q8 hkc (fun k hk => by simp only [List.mem_singleton] at hk; subst hk; exact ⟨h5p, cm_no5 N8⟩)
    have TX := (hkc.block _ (lt_of_at _ ⟨_, T8⟩) (by simp; omega)).trans T8
    have NX := heap_cm N8 (badV ⟨#[67, 76, 73, 69, 78, 84, 95, 69, 82, 82, 79, 82, 32, 98, 97, 100, 32, 100, 97, 116, 97, 32, 99, 104, 117, 110, 107]⟩) (.slice none 0 0)
    have KX := K8.trans hkc (fun x hx => .inr (by simp only [List.mem_singleton] at hx; omega))
    clear hkc Q8 T8 N8 K8 HTh
    generalize W8.setCells b5 0 (cmL (badV ⟨#[67, 76, 73, 69, 78, 84, 95, 69, 82, 82, 79, 82, 32, 98, 97, 100, 32, 100, 97, 116, 97, 32, 99, 104, 117, 110, 107]⟩) (.slice none 0 0)) = X0 at *
    have z3 : X0.cell? ⟨p, 3, none⟩ = some (.bool over) := QX.cellR 1 rfl
    have y3 : X0.frozen? ⟨p, 3, none⟩ = false := QX.blk.frozen 3
    have HQX : Hid (QAt (X0.setCell ⟨p, 3, none⟩ (.bool true)) p v1 beg1 (pR seen true c (.slice a0 n0 c0) L g) 51 F1 N) := QX.setR 1 (.bool true)
    have kx : Keep [p] X0 (X0.setCell ⟨p, 3, none⟩ (.bool true)) := (Keep.refl _ _).setCell (.inl (by simp)) _
    have HTX : Hid ((X0.setCell ⟨p, 3, none⟩ (.bool true)).heap[w.heap.size]? = some (cmO cmZ (.slice none 0 0))) := (kx.block _ (lt_of_at _ ⟨_, TX⟩) (by simp; omega)).trans TX
    have HNX : Hid ((X0.setCell ⟨p, 3, none⟩ (.bool true)).heap[b5]? = some (cmO (badV ⟨#[67, 76, 73, 69, 78, 84, 95, 69, 82, 82, 79, 82, 32, 98, 97, 100, 32, 100, 97, 116, 97, 32, 99, 104, 117, 110, 107]⟩) (.slice none 0 0))) := (kx.block _ (lt_of_at _ ⟨_, NX⟩) (by simp; omega)).trans NX
    have HKX := hide (KX.trans kx (fun x hx => .inl hx))
    clear QX TX NX KX kx
    go_wp2
    generalize X0.setCell ⟨p, 3, none⟩ (.bool true) = X at *
    obtain ⟨ar, har⟩ : ∃ ar : Option Addr, ar = none := ⟨_, rfl⟩
    obtain ⟨nr, hnr⟩ : ∃ nr : Nat, nr = 0 := ⟨_, rfl⟩
    obtain ⟨cr, hcr⟩ : ∃ cr : Nat, cr = 0 := ⟨_, rfl⟩
    have HRX : Hid (RowT X ar nr (Cm.keys (badV ⟨#[67, 76, 73, 69, 78, 84, 95, 69, 82, 82, 79, 82, 32, 98, 97, 100, 32, 100, 97, 116, 97, 32, 99, 104, 117, 110, 107]⟩))) := by rw [har, hnr]; exact RowT.nil
    replace HNX : Hid (X.heap[b5]? = some (cmO (badV ⟨#[67, 76, 73, 69, 78, 84, 95, 69, 82, 82, 79, 82, 32, 98, 97, 100, 32, 100, 97, 116, 97, 32, 99, 104, 117, 110, 107]⟩) (.slice ar nr cr))) := by rw [har, hnr, hcr]; exact HNX.out
    clear har hnr hcr
    obtain ⟨lk, hlk⟩ : ∃ lk, lk = L := ⟨_, rfl⟩
    have HLK : Hid (IntKind.i64.wrap (L : Int) = (lk : Int)) := by show _ = _; rw [IntKind.wrap_i64]; omega
    replace HLF : Hid (lk ≤ F1.length) := by rw [hlk]; exact HLF.out
    have HLKE := hide hlk
    clear hlk
    have HSX : Hid (w.heap.size < X.heap.size) := lt_of_at _ ⟨_, HTX.out⟩
    refine wp_region_liy (by kernel_rfl) (by kernel_rfl) (fun jx => ([.pointer (some ⟨p, 0, none⟩), .pointer (some ⟨p, 0, none⟩), .pointer (some ⟨p, 0, none⟩), .pointer (some ⟨p, 0, none⟩), .pointer (some ⟨p, 0, none⟩), .pointer (some ⟨p, 16, none⟩), .int .i64 (L : Int), .int .i64 0, .int .i64 ((lk : Nat) : Int), undef] : List Value).getD jx undef) [9] (by kernel_rfl) (by decide) (by decide) (UsC X p v1 (pR seen true c (.slice a0 n0 c0) L g) (F1.drop lk) N) ((Below.refl _ _).drew) ?_ ?_
    · intro jx ox hi us w' ev hc hul hbef haft hin hout hold hcst hfn
      have hltx : jx < 10 := by
        have := (Array.getElem?_eq_some_iff.1 hi).1
        simpa using this
      match jx, hltx with
      | 0, _ =>
        simp only [List.getElem?_toArray, List.getElem?_cons_zero, List.getElem?_cons_succ, Option.some.injEq] at hi
        subst hi
        have e0 : ev (.tmp 0) = .pointer (some ⟨p, 0, none⟩) := hout 0 (by kernel_rfl) (show (0 : Nat) < 85 by decide)
        refine ⟨fun mx hmx => absurd hmx (by simp [zpos]), fun _ => ?_⟩
        simp [execOp, e0, hcst, go_sem]
      | 1, _ =>
        simp only [List.getElem?_toArray, List.getElem?_cons_zero, List.getElem?_cons_succ, Option.some.injEq] at hi
        subst hi
        have e0 : ev (.tmp 64) = .pointer (some ⟨p, 0, none⟩) := hin 64 0 ⟨0, .data⟩ (by kernel_rfl) (by simp) rfl rfl (show (64 : Nat) < 85 by decide)
        refine ⟨fun mx hmx => absurd hmx (by simp [zpos]), fun _ => ?_⟩
        simp [execOp, e0, hcst, go_sem]
      | 2, _ =>
        simp only [List.getElem?_toArray, List.getElem?_cons_zero, List.getElem?_cons_succ, Option.some.injEq] at hi
        subst hi
        have ha0 : us.length ≤ 0 := haft 0 9 rfl (by kernel_rfl)
        have e0 : ev (.tmp 65) = .pointer (some ⟨p, 0, none⟩) := hin 65 1 ⟨1, .data⟩ (by kernel_rfl) (by simp) rfl rfl (show (65 : Nat) < 85 by decide)
        refine ⟨fun mx hmx => absurd hmx (by simp [zpos]), fun _ => ?_⟩
        simp [execOp, e0, hcst, go_sem]
      | 3, _ =>
        simp only [List.getElem?_toArray, List.getElem?_cons_zero, List.getElem?_cons_succ, Option.some.injEq] at hi
        subst hi
        have e0 : ev (.tmp 0) = .pointer (some ⟨p, 0, none⟩) := hout 0 (by kernel_rfl) (show (0 : Nat) < 85 by decide)
        refine ⟨fun mx hmx => absurd hmx (by simp [zpos]), fun _ => ?_⟩
        simp [execOp, e0, hcst, go_sem]
      | 4, _ =>
        simp only [List.getElem?_toArray, List.getElem?_cons_zero, List.getElem?_cons_succ, Option.some.injEq] at hi
        subst hi
        have e0 : ev (.tmp 67) = .pointer (some ⟨p, 0, none⟩) := hin 67 3 ⟨3, .data⟩ (by kernel_rfl) (by simp) rfl rfl (show (67 : Nat) < 85 by decide)
        refine ⟨fun mx hmx => absurd hmx (by simp [zpos]), fun _ => ?_⟩
        simp [execOp, e0, hcst, go_sem]
      | 5, _ =>
        simp only [List.getElem?_toArray, List.getElem?_cons_zero, List.getElem?_cons_succ, Option.some.injEq] at hi
        subst hi
        have e0 : ev (.tmp 68) = .pointer (some ⟨p, 0, none⟩) := hin 68 4 ⟨4, .data⟩ (by kernel_rfl) (by simp) rfl rfl (show (68 : Nat) < 85 by decide)
        refine ⟨fun mx hmx => absurd hmx (by simp [zpos]), fun _ => ?_⟩
        simp [execOp, e0, hcst, go_sem]
      | 6, _ =>
        simp only [List.getElem?_toArray, List.getElem?_cons_zero, List.getElem?_cons_succ, Option.some.injEq] at hi
        subst hi
        have e0 : ev (.tmp 69) = .pointer (some ⟨p, 16, none⟩) := hin 69 5 ⟨5, .data⟩ (by kernel_rfl) (by simp) rfl rfl (show (69 : Nat) < 85 by decide)
        refine ⟨fun mx hmx => absurd hmx (by simp [zpos]), fun _ => ?_⟩
        have q2 : w'.cell? ⟨p, 16, none⟩ = some (.int .i64 (L : Int)) := by
          match us, hc with
          | [], hc => exact QAt.cellR (HQX.out.later hc) 14 rfl
          | [_], hc => obtain ⟨_, _, q, _⟩ := hc; exact QAt.cellR q 14 rfl
        simp [execOp, e0, hcst, go_sem, q2]
      | 7, _ =>
        simp only [List.getElem?_toArray, List.getElem?_cons_zero, List.getElem?_cons_succ, Option.some.injEq] at hi
        subst hi
        have e0 : ev (.tmp 6) = .int .i64 0 := hout 6 (by kernel_rfl) (show (6 : Nat) < 85 by decide)
        refine ⟨fun mx hmx => absurd hmx (by simp [zpos]), fun _ => ?_⟩
        simp [execOp, e0, hcst, go_sem]
      | 8, _ =>
        simp only [List.getElem?_toArray, List.getElem?_cons_zero, List.getElem?_cons_succ, Option.some.injEq] at hi
        subst hi
        have ha0 : us.length ≤ 0 := haft 0 9 rfl (by kernel_rfl)
        have e0 : ev (.tmp 70) = .int .i64 (L : Int) := hin 70 6 ⟨6, .data⟩ (by kernel_rfl) (by simp) rfl rfl (show (70 : Nat) < 85 by decide)
        have e1 : ev (.tmp 71) = .int .i64 0 := hin 71 7 ⟨7, .data⟩ (by kernel_rfl) (by simp) rfl rfl (show (71 : Nat) < 85 by decide)
        refine ⟨fun mx hmx => absurd hmx (by simp [zpos]), fun _ => ?_⟩
        have q1 := HLK.out
        simp [execOp, e0, e1, hcst, go_sem, q1]
      | 9, _ =>
        simp only [List.getElem?_toArray, List.getElem?_cons_zero, List.getElem?_cons_succ, Option.some.injEq] at hi
        subst hi
        have e0 : ev (.tmp 66) = .pointer (some ⟨p, 0, none⟩) := hin 66 2 ⟨2, .data⟩ (by kernel_rfl) (by simp) rfl rfl (show (66 : Nat) < 85 by decide)
        have e1 : ev (.tmp 72) = .int .i64 ((lk : Nat) : Int) := hin 72 8 ⟨8, .data⟩ (by kernel_rfl) (by simp) rfl rfl (show (72 : Nat) < 85 by decide)
        refine ⟨fun mx hmx hus => ?_, fun hno => absurd hno (by decide)⟩
        obtain rfl : 0 = mx := Option.some.inj hmx
        have h0 : us = [] := List.eq_nil_of_length_eq_zero hus
        subst h0
        refine .inl (.inr ⟨39, #[.pointer (some ⟨p, 0, none⟩), .int .i64 ((lk : Nat) : Int)], ?_, UsC.call HQX.out HLF.out hN hc⟩)
        have ef := hfn 39
        simp [execOp, resolve, invoke, ef, hcst, e0, e1, Result.andThen]
        exact enter67 _ _
    · intro us w9 husl hc
      obtain ⟨u, rfl, v', beg', q9, k9, o9⟩ := UsC.done hc husl
      rw [lexF_same (V' := fun jx => ([.pointer (some ⟨p, 0, none⟩), .pointer (some ⟨p, 0, none⟩), .pointer (some ⟨p, 0, none⟩), .pointer (some ⟨p, 0, none⟩), .pointer (some ⟨p, 0, none⟩), .pointer (some ⟨p, 16, none⟩), .int .i64 (L : Int), .int .i64 0, .int .i64 ((lk : Nat) : Int), u] : List Value).getD jx undef) _ 0 _ (fun jx _ hj => by
        have hlt : jx < 10 := by simpa using hj
        match jx, hlt with
        | 0, _ => rfl
        | 1, _ => rfl
        | 2, _ => rfl
        | 3, _ => rfl
        | 4, _ => rfl
        | 5, _ => rfl
        | 6, _ => rfl
        | 7, _ => rfl
        | 8, _ => rfl
        | 9, _ => rfl)]
      simp only [lexF, Act.put, List.setIfInBounds_toArray, List.set_cons_succ, List.set_cons_zero, List.getD_cons_succ, List.getD_cons_zero]
      have HQ9 := hide q9
      have HT9 : Hid (w9.heap[w.heap.size]? = some (cmO cmZ (.slice none 0 0))) := (k9.block _ (lt_of_at _ ⟨_, HTX.out⟩) (by simp; omega)).trans HTX.out
      have HN9 : Hid (w9.heap[b5]? = some (cmO (badV ⟨#[67, 76, 73, 69, 78, 84, 95, 69, 82, 82, 79, 82, 32, 98, 97, 100, 32, 100, 97, 116, 97, 32, 99, 104, 117, 110, 107]⟩) (.slice ar nr cr))) := (k9.block _ (lt_of_at _ ⟨_, HNX.out⟩) (by simp; omega)).trans HNX.out
      have HK9 : Hid (Keep [p] w w9) := HKX.out.trans k9 (fun x hx => .inl hx)
      have HR9 : Hid (RowT w9 ar nr (Cm.keys (badV ⟨#[67, 76, 73, 69, 78, 84, 95, 69, 82, 82, 79, 82, 32, 98, 97, 100, 32, 100, 97, 116, 97, 32, 99, 104, 117, 110, 107]⟩))) := HRX.out.keepF (fun x hx hxp => by
        obtain ⟨cs, fz, hc⟩ := HRX.out.kind x hx
        simp only [List.mem_singleton] at hxp
        rw [hxp, HQX.out.blk] at hc
        simp at hc) k9
      have HO9 : Hid (∀ g, v'.ownBlock = some g → v.ownBlock = some g ∨ w.heap.size ≤ g) := fun g hg => by
        rcases o9 g hg with h | h
        · exact HO1.out g h
        · exact .inr (Nat.le_trans (Nat.le_of_lt HSX.out) h)
      have HTh := there_held q9
      clear q9 k9 o9 hc HQX HTX HNX HKX HRX
      repeat (fail_if_success (refine store_stepP cmZ none 0 0 rfl _ _ rfl p rfl rfl HTh ?_)); go_step
      refine store_stepP cmZ none 0 0 rfl _ _ rfl p rfl rfl HTh ?_
      have QY := HQ9.out.setCm cmZ (.slice none 0 0)
      have KY : Keep [p] w9 (w9.setCells p 4 (cmL cmZ (.slice none 0 0))) := (Keep.refl _ _).setCells (.inl (by simp)) _ _
      have TY := (KY.block _ (lt_of_at _ ⟨_, HT9.out⟩) (by simp; omega)).trans HT9.out
      have NY := (KY.block _ (lt_of_at _ ⟨_, HN9.out⟩) (by simp; omega)).trans HN9.out
      have RY := HR9.out.keepF (F := [p]) (fun x hx hxp => by
        obtain ⟨cs, fz, hc⟩ := HR9.out.kind x hx
        simp only [List.mem_singleton] at hxp
        rw [hxp, HQ9.out.blk] at hc
        simp at hc) KY
      have KW := HK9.out.trans KY (fun x hx => .inl hx)
      clear HTh HQ9 HT9 HN9 HK9 HR9 KY
      generalize w9.setCells p 4 (cmL cmZ (.slice none 0 0)) = Y at *
      have z16 : Y.cell? ⟨p, 16, none⟩ = some (.int .i64 (L : Int)) := QY.cellR 14 rfl
      have z17 : Y.cell? ⟨p, 17, none⟩ = some (.int .i64 (g : Int)) := QY.cellR 15 rfl
      have y16 : Y.frozen? ⟨p, 16, none⟩ = false := QY.blk.frozen 16
      have y17 : Y.frozen? ⟨p, 17, none⟩ = false := QY.blk.frozen 17
      have HQZ : Hid (QAt ((Y.setCell ⟨p, 16, none⟩ (.int .i64 0)).setCell ⟨p, 17, none⟩ (.int .i64 0)) p v' beg' (pR seen true cmZ (.slice none 0 0) 0 0) 51 (F1.drop lk) N) := (QY.setR 14 (.int .i64 0)).setR 15 (.int .i64 0)
      have KZ : Keep [p] Y ((Y.setCell ⟨p, 16, none⟩ (.int .i64 0)).setCell ⟨p, 17, none⟩ (.int .i64 0)) := ((Keep.refl _ _).setCell (.inl (by simp)) _).setCell (.inl (by simp)) _
      have HTZ : Hid (((Y.setCell ⟨p, 16, none⟩ (.int .i64 0)).setCell ⟨p, 17, none⟩ (.int .i64 0)).heap[w.heap.size]? = some (cmO cmZ (.slice none 0 0))) := (KZ.block _ (lt_of_at _ ⟨_, TY⟩) (by simp; omega)).trans TY
      have HKZ2 := hide (KW.trans KZ (fun x hx => .inl hx))
      have HRZ : Hid (RowT ((Y.setCell ⟨p, 16, none⟩ (.int .i64 0)).setCell ⟨p, 17, none⟩ (.int .i64 0)) ar nr (Cm.keys (badV ⟨#[67, 76, 73, 69, 78, 84, 95, 69, 82, 82, 79, 82, 32, 98, 97, 100, 32, 100, 97, 116, 97, 32, 99, 104, 117, 110, 107]⟩))) := RY.keepF (F := [p]) (fun x hx hxp => by
        obtain ⟨cs, fz, hc⟩ := RY.kind x hx
        simp only [List.mem_singleton] at hxp
        rw [hxp, QY.blk] at hc
        simp at hc) KZ
      obtain ⟨p0, p1, p2, p3, p4, p5, p6, p7, p8, p9, p10, p11⟩ := CmAt.of NY
      obtain ⟨q0, q1, q2, q3, q4, q5, q6, q7, q8, q9, q10, q11⟩ := CmAt.of TY
      obtain ⟨j0, j1, j2, j3, j4, j5, j6, j7, j8, j9, j10, j11⟩ := CmFz.of TY
      clear QY KZ TY NY RY KW
      go_wp2
      rw [set12]
      generalize (Y.setCell ⟨p, 16, none⟩ (.int .i64 0)).setCell ⟨p, 17, none⟩ (.int .i64 0) = Z9 at *
      have HH := heap_cm HTZ.out (badV ⟨#[67, 76, 73, 69, 78, 84, 95, 69, 82, 82, 79, 82, 32, 98, 97, 100, 32, 100, 97, 116, 97, 32, 99, 104, 117, 110, 107]⟩) (.slice ar nr cr)
      have HKK := keep_cm Z9 w.heap.size (badV ⟨#[67, 76, 73, 69, 78, 84, 95, 69, 82, 82, 79, 82, 32, 98, 97, 100, 32, 100, 97, 116, 97, 32, 99, 104, 117, 110, 107]⟩) (.slice ar nr cr)
      have HQF := QAt.far HQZ.out HKK (fun k hk => by simp only [List.mem_singleton] at hk; subst hk; exact ⟨by omega, cm_no5 HTZ.out⟩)
      have HRF := keep_row HRZ.out HTZ.out (badV ⟨#[67, 76, 73, 69, 78, 84, 95, 69, 82, 82, 79, 82, 32, 98, 97, 100, 32, 100, 97, 116, 97, 32, 99, 104, 117, 110, 107]⟩) (.slice ar nr cr)
      exact ret_cm2 rfl w.heap.size (badV ⟨#[67, 76, 73, 69, 78, 84, 95, 69, 82, 82, 79, 82, 32, 98, 97, 100, 32, 100, 97, 116, 97, 32, 99, 104, 117, 110, 107]⟩) (.slice ar nr cr) rfl HH rfl ⟨ar, nr, cr, v', beg', _, rfl, HRF, rfl, (by have h9 := HLKE.out; rw [h9] at HQF; exact HQF), HKZ2.out.trans HKK (fun x hx => .inr (by simp only [List.mem_singleton] at hx; omega)), HO9.out⟩
end Go.Proofs.Ytmfjaehajdephab

/-
  data of a parser: the data is there.
-/
namespace Go.Proofs.Ytmfjaehajdephab
open Go.Shelf Go.RowKit Go.Deep
set_option linter.unusedVariables false
set_option linter.unusedSimpArgs false
set_option maxRecDepth 1000000

/-- With other data. -/
abbrev withCm (c : Cm) (d : ByteArray) : Cm := ⟨c.what, c.verb, c.keys, d, c.fl, c.ex, c.cs, c.y, c.wc, c.wt, c.dn, c.q⟩
set_option maxHeartbeats 1000000 in
theorem data_ok1 (w : World) (p : Nat) (v : Value) (beg seen : Nat) (over : Bool) (c : Cm) (a0 : Option Addr) (n0 c0 : Nat) (left gone : Nat) (F : List UInt8) (N L g : Nat) (F1 : List UInt8) (h : PM w p v beg seen over c (.slice a0 n0 c0) left gone F N) (hN : N ≤ 1000000) (hrow : RowT w a0 n0 c.keys) (hlg : LgQ p seen over c (.slice a0 n0 c0) left gone F N L g F1) (hL : L ≤ 2147483647) (kk : Nat) (hk12 : kk = 1 ∨ kk = 2) (hf : L + kk ≤ F1.length) (hk : endsI (F1.drop L) = (kk : Int)) (hs : (c.what.toList == [115, 116, 111, 114, 101]) = true) :
    Calls Try.prog 23 #[.pointer (some ⟨p, 0, none⟩)] w (DtQ w p v (withCm c ⟨(F1.take L).toArray⟩) true seen over cmZ (fun k => k = .slice none 0 0) 0 0 (F1.drop (L + kk)) N) := by
  have B0 := (Below.refl w.heap.size w).alloc (Nat.le_refl _) (cmO cmZ (.slice none 0 0))
  have HQ0 := hide (QAt.later h B0)
  have HT0 := hide (heap_alloc_new w (cmO cmZ (.slice none 0 0)))
  have HP := hide h.blk.lt
  have HB0 := hide B0
  have HR0 := hide (hrow.later B0)
  have HLG := hide hlg
  clear h hrow hlg B0
  go_enter Try.func23, Try.ntmps23
  go_wp2_with fail
  refine Calls.mono (HLG.out _ v beg HQ0.out) ?_
  rintro e w1 ⟨rfl, v1, beg1, Q1, k1, o1⟩
  obtain ⟨a, ca, hB, hFN, hoff, hspot, hnil, hall⟩ := QAt.all Q1
  obtain ⟨n, hn⟩ : ∃ n, n = F1.length := ⟨_, rfl⟩
  rw [← hn] at hB hall hFN
  have hF : n ≤ 1000000 := by omega
  have HT1 : Hid (w1.heap[w.heap.size]? = some (cmO cmZ (.slice none 0 0))) := (k1.block _ (lt_of_at _ ⟨_, HT0.out⟩) (by have := HP.out; simp; omega)).trans HT0.out
  have HK1 : Hid (Keep [p] w w1) := (Keep.of_below HB0.out).trans k1 (fun x hx => .inl hx)
  have HO1 : Hid (∀ g, v1.ownBlock = some g → v.ownBlock = some g ∨ w.heap.size ≤ g) := fun g hg => (o1 g hg).imp id (fun h => Nat.le_trans HB0.out.size h)
  have HR1 : Hid (RowT w1 a0 n0 c.keys) := HR0.out.keepF (fun x hx hxp => by
    obtain ⟨cs, fz, hc⟩ := HR0.out.kind x hx
    simp only [List.mem_singleton] at hxp
    rw [hxp, HQ0.out.blk] at hc
    simp at hc) k1
  have HQ1 := hide Q1
  have HALL := hide hall
  have HBS := hide hB
  have HN := hide hn
  have HSP := hide hspot
  have HNL := hide hnil
  have hFN2 := hide hFN
  clear Q1 k1 o1 hall hB hn hspot hnil hoff hFN HQ0 HT0 HB0 HR0 HLG
  go_wp2_with fail
  refine Calls.mono (HALL.out _ ?_) ?_
  · exact HQ1.out.blk
  rintro e w2 ⟨rfl, m, rfl⟩
  obtain ⟨W2, hW2⟩ : ∃ W2, W2 = w1.drewN m := ⟨_, rfl⟩
  rw [← hW2]
  have HQ2 : Hid (PM W2 p v1 beg1 seen over c (.slice a0 n0 c0) L g F1 N) := by rw [hW2]; exact HQ1.out.drewN m
  have HT2 : Hid (W2.heap[w.heap.size]? = some (cmO cmZ (.slice none 0 0))) := by rw [hW2]; exact HT1.out
  have HK2 : Hid (Keep [p] w W2) := by rw [hW2]; exact ⟨HK1.out.os, HK1.out.tape, HK1.out.output, HK1.out.size, HK1.out.block⟩
  have HR2 : Hid (RowT W2 a0 n0 c.keys) := by rw [hW2]; exact HR1.out.later (below_drewN _ _ _)
  have HBS2 : Hid (BS W2 a n ca F1) := by rw [hW2]; exact HBS.out.heap rfl
  have d16 : W2.cell? ⟨p, 16, none⟩ = some (.int .i64 (L : Int)) := QAt.cellR HQ2.out 14 rfl
  have HLT : Hid (w.heap.size < W2.heap.size) := lt_of_at _ ⟨_, HT2.out⟩
  clear hW2 HQ1 HT1 HK1 HR1 HBS HALL
  have hf2 : ¬ ((n : Int) < (L : Int)) := by have := HN.out; omega
  have hLn : L ≤ n := by omega
  obtain ⟨mm, hmm, hm1, hm2, hm3⟩ : ∃ mm : Nat, (min ((L : Int) + 2) (n : Int) = (mm : Int)) ∧ L ≤ mm ∧ mm ≤ n ∧ mm = min (L + 2) n := ⟨min (L + 2) n, by omega, by omega, by omega, rfl⟩
  have HW2 : Hid (IntKind.i64.wrap ((L : Int) + 2) = (L : Int) + 2) := by show _ = _; rw [IntKind.wrap_i64]; omega
  have HMM := hide hmm
  obtain ⟨a4, c4, hsl, hb4⟩ := mid_bs HBS2.out HSP.out L mm hm1 hm2 HNL.out
  obtain ⟨n4, hn4⟩ : ∃ n4, n4 = mm - L := ⟨_, rfl⟩
  rw [← hn4] at hsl hb4
  have HSL : Hid (∀ X, (Instr.sliceAt 26 (.slice a n ca) (some (.int .i64 (L : Int))) (some (.int .i64 (mm : Int))) none).run Try.prog X = .ok (.slice a4 n4 c4) X) := hsl
  obtain ⟨tx, htx⟩ : ∃ tx : ByteArray, tx = ⟨((F1.take mm).drop L).toArray⟩ := ⟨_, rfl⟩
  have HCV : Hid (∀ W, Below W2.heap.size W2 W → (convert 26 9 (.slice a4 n4 c4)).run Try.prog W = .ok (.string tx) W) := fun W hW => by rw [htx]; exact str_bs (hb4.later hW)
  have htwo : tx.data.toList = (F1.drop L).take 2 := by
    rw [htx]
    show (F1.take mm).drop L = (F1.drop L).take 2
    rw [List.drop_take, hm3]
    by_cases hq : L + 2 ≤ n
    · rw [Nat.min_eq_left hq]; congr 1; omega
    · rw [Nat.min_eq_right (by omega), List.take_of_length_le (by rw [List.length_drop, ← HN.out]; omega), List.take_of_length_le (by rw [List.length_drop, ← HN.out]; omega)]
  obtain ⟨k1, hk1⟩ : ∃ k1, k1 = endsI (F1.drop L) := ⟨_, rfl⟩
  have hends : endsI tx.data.toList = k1 := by rw [htwo, hk1]; unfold endsI; rw [endsP_two]
  have HCE : Hid (∀ us W, DtC W2 c (.slice a0 n0 c0) k1 us W → us 21 = none → Calls Try.prog 42 #[.string tx] W fun e w2 => ∃ v, e = .returned v ∧ DtC W2 c (.slice a0 n0 c0) k1 (setU us 19 v) w2) := fun us W hc ha => by
    refine (ends_any tx W).mono ?_
    rintro e w2 ⟨rfl, hb⟩
    rw [hends]
    exact ⟨_, rfl, hc.s19 ha hb⟩
  rw [← hk1] at hk
  clear hmm hsl hb4 htx htwo hends hm1 hm2 hm3 hn4 hk1
  have HKZ := hide hk
  have HLF0 : Hid (L + kk ≤ F1.length) := hf
  have HSS := hide hs
  have hkk2 : kk ≤ 2 := by omega
  have hkk1 : 1 ≤ kk := by omega
  clear hf hk hs hk12
  go_wp2
  refine wp_region_par (by kernel_rfl) (by kernel_rfl) (fun jx => ([.pointer (some ⟨p, 0, none⟩), .pointer (some ⟨p, 0, none⟩), .pointer (some ⟨p, 4, none⟩), .agg #[.string c.what, .string c.verb, .slice a0 n0 c0, .string c.data, .int .u32 c.fl, .int .i64 c.ex, .int .u64 c.cs, .int .u64 c.y, .bool c.wc, .bool c.wt, .bool c.dn, .bool c.q], .slice a n ca, .pointer (some ⟨p, 0, none⟩), .pointer (some ⟨p, 0, none⟩), .pointer (some ⟨p, 16, none⟩), .int .i64 (L : Int), .pointer (some ⟨p, 0, none⟩), .pointer (some ⟨p, 0, none⟩), .pointer (some ⟨p, 16, none⟩), .int .i64 (L : Int), .int .i64 ((L : Int) + 2), .slice a n ca, .int .i64 (n : Int), .int .i64 (mm : Int), .slice a4 n4 c4, .string tx, undef, undef, undef, .int .i64 k1] : List Value).getD jx undef) [19, 20, 21] (fun z hz => by simp at hz; rcases hz with rfl | rfl | rfl <;> decide) (DtC W2 c (.slice a0 n0 c0) k1) (DtC.new) ?_ ?_
  · intro jx ox hi us w' ev hc hbef haft hin hout hold hcst hfn
    have hltx : jx < 23 := by
      have := (Array.getElem?_eq_some_iff.1 hi).1
      simpa using this
    match jx, hltx with
    | 0, _ =>
      simp only [List.getElem?_toArray, List.getElem?_cons_zero, List.getElem?_cons_succ, Option.some.injEq] at hi
      subst hi
      have ha21 : us 21 = none := haft 21 rfl (by kernel_rfl)
      have e0 : ev (.tmp 0) = .pointer (some ⟨p, 0, none⟩) := hout 0 (by kernel_rfl) (show (0 : Nat) < 85 by decide)
      refine ⟨fun hno => absurd hno (by decide), fun _ => ?_⟩
      simp [execOp, e0, hcst, go_sem]
    | 1, _ =>
      simp only [List.getElem?_toArray, List.getElem?_cons_zero, List.getElem?_cons_succ, Option.some.injEq] at hi
      subst hi
      have ha21 : us 21 = none := haft 21 rfl (by kernel_rfl)
      have e0 : ev (.tmp 21) = .pointer (some ⟨p, 0, none⟩) := hin 21 0 ⟨0, .data⟩ (by kernel_rfl) (by simp) rfl rfl (show (21 : Nat) < 85 by decide)
      refine ⟨fun hno => absurd hno (by decide), fun _ => ?_⟩
      simp [execOp, e0, hcst, go_sem]
    | 2, _ =>
      simp only [List.getElem?_toArray, List.getElem?_cons_zero, List.getElem?_cons_succ, Option.some.injEq] at hi
      subst hi
      have ha21 : us 21 = none := haft 21 rfl (by kernel_rfl)
      have e0 : ev (.tmp 22) = .pointer (some ⟨p, 0, none⟩) := hin 22 1 ⟨1, .data⟩ (by kernel_rfl) (by simp) rfl rfl (show (22 : Nat) < 85 by decide)
      refine ⟨fun hno => absurd hno (by decide), fun _ => ?_⟩
      simp [execOp, e0, hcst, go_sem]
    | 3, _ =>
      simp only [List.getElem?_toArray, List.getElem?_cons_zero, List.getElem?_cons_succ, Option.some.injEq] at hi
      subst hi
      have ha21 : us 21 = none := haft 21 rfl (by kernel_rfl)
      have e0 : ev (.tmp 23) = .pointer (some ⟨p, 4, none⟩) := hin 23 2 ⟨2, .data⟩ (by kernel_rfl) (by simp) rfl rfl (show (23 : Nat) < 85 by decide)
      refine ⟨fun hno => absurd hno (by decide), fun _ => ?_⟩
      have q2 := load_held (HQ2.out.later hc.bel)
      simp only [execOp, e0, Instr.loadAt, Instr.sureAddr, Sem.run_bind, Sem.run_pure, Result.andThen_ok, q2]
      rfl
    | 4, _ =>
      simp only [List.getElem?_toArray, List.getElem?_cons_zero, List.getElem?_cons_succ, Option.some.injEq] at hi
      subst hi
      have e0 : ev (.tmp 4) = .slice a n ca := hout 4 (by kernel_rfl) (show (4 : Nat) < 85 by decide)
      refine ⟨fun hno => absurd hno (by decide), fun _ => ?_⟩
      simp [execOp, e0, hcst, go_sem]
    | 5, _ =>
      simp only [List.getElem?_toArray, List.getElem?_cons_zero, List.getElem?_cons_succ, Option.some.injEq] at hi
      subst hi
      have e0 : ev (.tmp 0) = .pointer (some ⟨p, 0, none⟩) := hout 0 (by kernel_rfl) (show (0 : Nat) < 85 by decide)
      refine ⟨fun hno => absurd hno (by decide), fun _ => ?_⟩
      simp [execOp, e0, hcst, go_sem]
    | 6, _ =>
      simp only [List.getElem?_toArray, List.getElem?_cons_zero, List.getElem?_cons_succ, Option.some.injEq] at hi
      subst hi
      have e0 : ev (.tmp 26) = .pointer (some ⟨p, 0, none⟩) := hin 26 5 ⟨5, .data⟩ (by kernel_rfl) (by simp) rfl rfl (show (26 : Nat) < 85 by decide)
      refine ⟨fun hno => absurd hno (by decide), fun _ => ?_⟩
      simp [execOp, e0, hcst, go_sem]
    | 7, _ =>
      simp only [List.getElem?_toArray, List.getElem?_cons_zero, List.getElem?_cons_succ, Option.some.injEq] at hi
      subst hi
      have e0 : ev (.tmp 27) = .pointer (some ⟨p, 0, none⟩) := hin 27 6 ⟨6, .data⟩ (by kernel_rfl) (by simp) rfl rfl (show (27 : Nat) < 85 by decide)
      refine ⟨fun hno => absurd hno (by decide), fun _ => ?_⟩
      simp [execOp, e0, hcst, go_sem]
    | 8, _ =>
      simp only [List.getElem?_toArray, List.getElem?_cons_zero, List.getElem?_cons_succ, Option.some.injEq] at hi
      subst hi
      have e0 : ev (.tmp 28) = .pointer (some ⟨p, 16, none⟩) := hin 28 7 ⟨7, .data⟩ (by kernel_rfl) (by simp) rfl rfl (show (28 : Nat) < 85 by decide)
      refine ⟨fun hno => absurd hno (by decide), fun _ => ?_⟩
      have q2 : w'.cell? ⟨p, 16, none⟩ = some (.int .i64 (L : Int)) := QAt.cellR (HQ2.out.later hc.bel) 14 rfl
      simp [execOp, e0, hcst, go_sem, q2]
    | 9, _ =>
      simp only [List.getElem?_toArray, List.getElem?_cons_zero, List.getElem?_cons_succ, Option.some.injEq] at hi
      subst hi
      have e0 : ev (.tmp 0) = .pointer (some ⟨p, 0, none⟩) := hout 0 (by kernel_rfl) (show (0 : Nat) < 85 by decide)
      refine ⟨fun hno => absurd hno (by decide), fun _ => ?_⟩
      simp [execOp, e0, hcst, go_sem]
    | 10, _ =>
      simp only [List.getElem?_toArray, List.getElem?_cons_zero, List.getElem?_cons_succ, Option.some.injEq] at hi
      subst hi
      have e0 : ev (.tmp 30) = .pointer (some ⟨p, 0, none⟩) := hin 30 9 ⟨9, .data⟩ (by kernel_rfl) (by simp) rfl rfl (show (30 : Nat) < 85 by decide)
      refine ⟨fun hno => absurd hno (by decide), fun _ => ?_⟩
      simp [execOp, e0, hcst, go_sem]
    | 11, _ =>
      simp only [List.getElem?_toArray, List.getElem?_cons_zero, List.getElem?_cons_succ, Option.some.injEq] at hi
      subst hi
      have e0 : ev (.tmp 31) = .pointer (some ⟨p, 0, none⟩) := hin 31 10 ⟨10, .data⟩ (by kernel_rfl) (by simp) rfl rfl (show (31 : Nat) < 85 by decide)
      refine ⟨fun hno => absurd hno (by decide), fun _ => ?_⟩
      simp [execOp, e0, hcst, go_sem]
    | 12, _ =>
      simp only [List.getElem?_toArray, List.getElem?_cons_zero, List.getElem?_cons_succ, Option.some.injEq] at hi
      subst hi
      have e0 : ev (.tmp 32) = .pointer (some ⟨p, 16, none⟩) := hin 32 11 ⟨11, .data⟩ (by kernel_rfl) (by simp) rfl rfl (show (32 : Nat) < 85 by decide)
      refine ⟨fun hno => absurd hno (by decide), fun _ => ?_⟩
      have q2 : w'.cell? ⟨p, 16, none⟩ = some (.int .i64 (L : Int)) := QAt.cellR (HQ2.out.later hc.bel) 14 rfl
      simp [execOp, e0, hcst, go_sem, q2]
    | 13, _ =>
      simp only [List.getElem?_toArray, List.getElem?_cons_zero, List.getElem?_cons_succ, Option.some.injEq] at hi
      subst hi
      have e0 : ev (.tmp 33) = .int .i64 (L : Int) := hin 33 12 ⟨12, .data⟩ (by kernel_rfl) (by simp) rfl rfl (show (33 : Nat) < 85 by decide)
      refine ⟨fun hno => absurd hno (by decide), fun _ => ?_⟩
      have q1 := HW2.out
      simp [execOp, e0, hcst, go_sem, q1]
    | 14, _ =>
      simp only [List.getElem?_toArray, List.getElem?_cons_zero, List.getElem?_cons_succ, Option.some.injEq] at hi
      subst hi
      have e0 : ev (.tmp 4) = .slice a n ca := hout 4 (by kernel_rfl) (show (4 : Nat) < 85 by decide)
      refine ⟨fun hno => absurd hno (by decide), fun _ => ?_⟩
      simp [execOp, e0, hcst, go_sem]
    | 15, _ =>
      simp only [List.getElem?_toArray, List.getElem?_cons_zero, List.getElem?_cons_succ, Option.some.injEq] at hi
      subst hi
      have e0 : ev (.tmp 35) = .slice a n ca := hin 35 14 ⟨14, .data⟩ (by kernel_rfl) (by simp) rfl rfl (show (35 : Nat) < 85 by decide)
      refine ⟨fun hno => absurd hno (by decide), fun _ => ?_⟩
      simp [execOp, e0, hcst, go_sem, resolve, invoke, builtin]
    | 16, _ =>
      simp only [List.getElem?_toArray, List.getElem?_cons_zero, List.getElem?_cons_succ, Option.some.injEq] at hi
      subst hi
      have e0 : ev (.tmp 34) = .int .i64 ((L : Int) + 2) := hin 34 13 ⟨13, .data⟩ (by kernel_rfl) (by simp) rfl rfl (show (34 : Nat) < 85 by decide)
      have e1 : ev (.tmp 36) = .int .i64 (n : Int) := hin 36 15 ⟨15, .data⟩ (by kernel_rfl) (by simp) rfl rfl (show (36 : Nat) < 85 by decide)
      refine ⟨fun hno => absurd hno (by decide), fun _ => ?_⟩
      have q1 := HMM.out
      simp [execOp, e0, e1, hcst, go_sem, q1, resolve, invoke, builtin]
    | 17, _ =>
      simp only [List.getElem?_toArray, List.getElem?_cons_zero, List.getElem?_cons_succ, Option.some.injEq] at hi
      subst hi
      have e0 : ev (.tmp 25) = .slice a n ca := hin 25 4 ⟨4, .data⟩ (by kernel_rfl) (by simp) rfl rfl (show (25 : Nat) < 85 by decide)
      have e1 : ev (.tmp 29) = .int .i64 (L : Int) := hin 29 8 ⟨8, .data⟩ (by kernel_rfl) (by simp) rfl rfl (show (29 : Nat) < 85 by decide)
      have e2 : ev (.tmp 37) = .int .i64 (mm : Int) := hin 37 16 ⟨16, .data⟩ (by kernel_rfl) (by simp) rfl rfl (show (37 : Nat) < 85 by decide)
      refine ⟨fun hno => absurd hno (by decide), fun _ => ?_⟩
      have q1 := HSL.out w'
      simp [execOp, e0, e1, e2, hcst, go_sem, q1]
    | 18, _ =>
      simp only [List.getElem?_toArray, List.getElem?_cons_zero, List.getElem?_cons_succ, Option.some.injEq] at hi
      subst hi
      have ha19 : us 19 = none := haft 19 rfl (by kernel_rfl)
      have e0 : ev (.tmp 38) = .slice a4 n4 c4 := hin 38 17 ⟨17, .data⟩ (by kernel_rfl) (by simp) rfl rfl (show (38 : Nat) < 85 by decide)
      refine ⟨fun hno => absurd hno (by decide), fun _ => ?_⟩
      have q1 := HCV.out w' hc.bel
      simp [execOp, e0, hcst, go_sem, q1]
    | 19, _ =>
      simp only [List.getElem?_toArray, List.getElem?_cons_zero, List.getElem?_cons_succ, Option.some.injEq] at hi
      subst hi
      have ha21 : us 21 = none := haft 21 rfl (by kernel_rfl)
      have e0 : ev (.tmp 39) = .string tx := hin 39 18 ⟨18, .data⟩ (by kernel_rfl) (by simp) rfl rfl (show (39 : Nat) < 85 by decide)
      refine ⟨fun _ hz => ?_, fun hno => absurd hno (by decide)⟩
      refine .inl (.inr ⟨42, #[.string tx], ?_, HCE.out us w' hc ha21⟩)
      have ef := hfn 42
      simp [execOp, resolve, invoke, ef, hcst, e0, Result.andThen]
      exact enter70 _ _
    | 20, _ =>
      simp only [List.getElem?_toArray, List.getElem?_cons_zero, List.getElem?_cons_succ, Option.some.injEq] at hi
      subst hi
      have ha21 : us 21 = none := haft 21 rfl (by kernel_rfl)
      refine ⟨fun _ hz => ?_, fun hno => absurd hno (by decide)⟩
      refine .inl (.inl ⟨_, _, ?_, DtC.s20 hc ha21⟩)
      simp [execOp, hcst, go_sem, cmZ]
    | 21, _ =>
      simp only [List.getElem?_toArray, List.getElem?_cons_zero, List.getElem?_cons_succ, Option.some.injEq] at hi
      subst hi
      have hb19 : (us 19).isSome = true := hbef 19 rfl (by kernel_rfl)
      have hb20 : (us 20).isSome = true := hbef 20 rfl (by kernel_rfl)
      have e0 : ev (.tmp 5) = (us 20).getD undef := hin 5 20 ⟨20, .data⟩ (by kernel_rfl) (by simp) rfl rfl (show (5 : Nat) < 85 by decide)
      have e1 : ev (.tmp 24) = .agg #[.string c.what, .string c.verb, .slice a0 n0 c0, .string c.data, .int .u32 c.fl, .int .i64 c.ex, .int .u64 c.cs, .int .u64 c.y, .bool c.wc, .bool c.wt, .bool c.dn, .bool c.q] := hin 24 3 ⟨3, .data⟩ (by kernel_rfl) (by simp) rfl rfl (show (24 : Nat) < 85 by decide)
      refine ⟨fun _ hz => ?_, fun hno => absurd hno (by decide)⟩
      obtain ⟨u20, hu20⟩ := Option.isSome_iff_exists.1 hb20
      obtain ⟨b8, W', q3, q4, q5⟩ := DtC.s21 hc hu20 hz
      rw [hu20, Option.getD_some, q3] at e0
      refine .inr ⟨W', ?_, q5⟩
      simp only [execOp, e0, e1, Instr.storeAt, Instr.sureAddr, Sem.run_bind, Sem.run_pure, Result.andThen_ok, q4]
    | 22, _ =>
      simp only [List.getElem?_toArray, List.getElem?_cons_zero, List.getElem?_cons_succ, Option.some.injEq] at hi
      subst hi
      have hb19 : (us 19).isSome = true := hbef 19 rfl (by kernel_rfl)
      have hb20 : (us 20).isSome = true := hbef 20 rfl (by kernel_rfl)
      have hb21 : (us 21).isSome = true := hbef 21 rfl (by kernel_rfl)
      have e0 : ev (.tmp 40) = (us 19).getD undef := hin 40 19 ⟨19, .data⟩ (by kernel_rfl) (by simp) rfl rfl (show (40 : Nat) < 85 by decide)
      refine ⟨fun hno => absurd hno (by decide), fun _ => ?_⟩
      obtain ⟨u19, hu19⟩ := Option.isSome_iff_exists.1 hb19
      have q1 := hc.call _ hu19
      rw [hu19, Option.getD_some, q1] at e0
      simp [execOp, e0, hcst, go_sem]
  · intro us w7 hus hc
    obtain ⟨z21, b5, d19, d20, d21, l5, e5⟩ := DtC.done hc hus
    rw [lexF_same (V' := fun jx => ([.pointer (some ⟨p, 0, none⟩), .pointer (some ⟨p, 0, none⟩), .pointer (some ⟨p, 4, none⟩), .agg #[.string c.what, .string c.verb, .slice a0 n0 c0, .string c.data, .int .u32 c.fl, .int .i64 c.ex, .int .u64 c.cs, .int .u64 c.y, .bool c.wc, .bool c.wt, .bool c.dn, .bool c.q], .slice a n ca, .pointer (some ⟨p, 0, none⟩), .pointer (some ⟨p, 0, none⟩), .pointer (some ⟨p, 16, none⟩), .int .i64 (L : Int), .pointer (some ⟨p, 0, none⟩), .pointer (some ⟨p, 0, none⟩), .pointer (some ⟨p, 16, none⟩), .int .i64 (L : Int), .int .i64 ((L : Int) + 2), .slice a n ca, .int .i64 (n : Int), .int .i64 (mm : Int), .slice a4 n4 c4, .string tx, (.int .i64 k1), (.pointer (some ⟨b5, 0, none⟩)), z21, .int .i64 k1] : List Value).getD jx undef) _ 0 _ (fun jx _ hj => by
      have hlt : jx < 23 := by simpa using hj
      match jx, hlt with
      | 0, _ => rfl
      | 1, _ => rfl
      | 2, _ => rfl
      | 3, _ => rfl
      | 4, _ => rfl
      | 5, _ => rfl
      | 6, _ => rfl
      | 7, _ => rfl
      | 8, _ => rfl
      | 9, _ => rfl
      | 10, _ => rfl
      | 11, _ => rfl
      | 12, _ => rfl
      | 13, _ => rfl
      | 14, _ => rfl
      | 15, _ => rfl
      | 16, _ => rfl
      | 17, _ => rfl
      | 18, _ => rfl
      | 19, _ => exact (by unfold parV; rw [if_pos (by decide), d19]; rfl)
      | 20, _ => exact (by unfold parV; rw [if_pos (by decide), d20]; rfl)
      | 21, _ => exact (by unfold parV; rw [if_pos (by decide), d21]; rfl)
      | 22, _ => rfl
      | jy + 23, hy => exact absurd hy (by omega))]
    simp only [lexF, Act.put, List.setIfInBounds_toArray, List.set_cons_succ, List.set_cons_zero, List.getD_cons_succ, List.getD_cons_zero]
    have HQ3 : Hid (PM w7 p v1 beg1 seen over c (.slice a0 n0 c0) L g F1 N) := HQ2.out.later hc.bel
    have HT3 : Hid (w7.heap[w.heap.size]? = some (cmO cmZ (.slice none 0 0))) := (hc.bel.block _ HLT.out).trans HT2.out
    have HK3 : Hid (Keep [p] w w7) := HK2.out.trans (Keep.of_below (F := [p]) hc.bel) (fun x hx => .inl hx)
    have HR3 : Hid (RowT w7 a0 n0 c.keys) := HR2.out.later hc.bel
    have HN3 : Hid (w7.heap[b5]? = some (cmO c (.slice a0 n0 c0))) := e5
    have HBS3 : Hid (BS w7 a n ca F1) := HBS2.out.later hc.bel
    have h5t : b5 ≠ w.heap.size := by have := HLT.out; omega
    have h5p : b5 ≠ p := by have := HLT.out; have := HP.out; omega
    have hpt : p ≠ w.heap.size := by have := HP.out; omega
    have h5l : w.heap.size ≤ b5 := by have := HLT.out; omega
    clear hc hus d19 d20 d21 l5 e5 HCE HCV HSL HQ2 HT2 HK2 HR2 d16
    have hkz := HKZ.out
    clear HKZ
    subst hkz
    have hk0 : ((kk : Int) == 0) = false := by rw [beq_eq_false_iff_ne]; omega
    have hk1 : ((kk : Int) < 0) = False := by simp
    have hs := HSS.out
    have nn0 := (CmAt.of HN3.out).c0
    have n3 := (CmAt.of HN3.out).c3
    have m3 := (CmFz.of HN3.out).f3
    have r16 : w7.cell? ⟨p, 16, none⟩ = some (.int .i64 (L : Int)) := QAt.cellR HQ3.out 14 rfl
    have hhd := run_head a n ca L (by have := HBS3.out.cap; omega)
    have hcv : (convert 26 9 (.slice a L ca)).run Try.prog w7 = .ok (.string ⟨(F1.take L).toArray⟩) w7 := str_bs (HBS3.out.pre L hLn)
    obtain ⟨dd, hdd⟩ : ∃ dd : ByteArray, dd = ⟨(F1.take L).toArray⟩ := ⟨_, rfl⟩
    rw [← hdd] at hcv
    have kx : Keep [b5] w7 (w7.setCell ⟨b5, 3, none⟩ (.string dd)) := (Keep.refl _ _).setCell (.inl (by simp)) _
    have HQX : Hid (QAt (w7.setCell ⟨b5, 3, none⟩ (.string dd)) p v1 beg1 (pR seen over c (.slice a0 n0 c0) L g) 51 F1 N) := QAt.far HQ3.out kx (fun k hk => by simp only [List.mem_singleton] at hk; subst hk; exact ⟨h5p, cm_no5 HN3.out⟩)
    have HTX : Hid ((w7.setCell ⟨b5, 3, none⟩ (.string dd)).heap[w.heap.size]? = some (cmO cmZ (.slice none 0 0))) := (kx.block _ (lt_of_at _ ⟨_, HT3.out⟩) (by simp only [List.mem_singleton]; omega)).trans HT3.out
    have HNX : Hid ((w7.setCell ⟨b5, 3, none⟩ (.string dd)).heap[b5]? = some (cmO (withCm c ⟨(F1.take L).toArray⟩) (.slice a0 n0 c0))) := by
      have hB : Blk w7 b5 (cmL c (.slice a0 n0 c0)) 33 := HN3.out
      have := hB.set 3 (.string dd)
      rw [hdd] at this ⊢
      exact this
    have HKX := hide (HK3.out.trans kx (fun x hx => .inr (by simp only [List.mem_singleton] at hx; omega)))
    have HRX : Hid (RowT (w7.setCell ⟨b5, 3, none⟩ (.string dd)) a0 n0 (Cm.keys (withCm c ⟨(F1.take L).toArray⟩))) := HR3.out.keepF (row_off HR3.out HN3.out) kx
    clear kx hdd
    go_wp2
    generalize w7.setCell ⟨b5, 3, none⟩ (.string dd) = X at *
    obtain ⟨ar, har⟩ : ∃ ar : Option Addr, ar = a0 := ⟨_, rfl⟩
    obtain ⟨nr, hnr⟩ : ∃ nr : Nat, nr = n0 := ⟨_, rfl⟩
    obtain ⟨cr, hcr⟩ : ∃ cr : Nat, cr = c0 := ⟨_, rfl⟩
    replace HRX : Hid (RowT X ar nr (Cm.keys (withCm c ⟨(F1.take L).toArray⟩))) := by rw [har, hnr]; exact HRX.out
    replace HNX : Hid (X.heap[b5]? = some (cmO (withCm c ⟨(F1.take L).toArray⟩) (.slice ar nr cr))) := by rw [har, hnr, hcr]; exact HNX.out
    clear har hnr hcr
    obtain ⟨lk, hlk⟩ : ∃ lk, lk = L + kk := ⟨_, rfl⟩
    have HLK : Hid (IntKind.i64.wrap ((L : Int) + (kk : Int)) = (lk : Int)) := by show _ = _; rw [IntKind.wrap_i64]; omega
    have HLF : Hid (lk ≤ F1.length) := by rw [hlk]; exact HLF0.out
    have HLKE := hide hlk
    clear hlk
    have HSX : Hid (w.heap.size < X.heap.size) := lt_of_at _ ⟨_, HTX.out⟩
    refine wp_region_liy (by kernel_rfl) (by kernel_rfl) (fun jx => ([.pointer (some ⟨p, 0, none⟩), .pointer (some ⟨p, 0, none⟩), .pointer (some ⟨p, 0, none⟩), .pointer (some ⟨p, 0, none⟩), .pointer (some ⟨p, 0, none⟩), .pointer (some ⟨p, 16, none⟩), .int .i64 (L : Int), .int .i64 (kk : Int), .int .i64 ((lk : Nat) : Int), undef] : List Value).getD jx undef) [9] (by kernel_rfl) (by decide) (by decide) (UsC X p v1 (pR seen over c (.slice a0 n0 c0) L g) (F1.drop lk) N) ((Below.refl _ _).drew) ?_ ?_
    · intro jx ox hi us w' ev hc hul hbef haft hin hout hold hcst hfn
      have hltx : jx < 10 := by
        have := (Array.getElem?_eq_some_iff.1 hi).1
        simpa using this
      match jx, hltx with
      | 0, _ =>
        simp only [List.getElem?_toArray, List.getElem?_cons_zero, List.getElem?_cons_succ, Option.some.injEq] at hi
        subst hi
        have e0 : ev (.tmp 0) = .pointer (some ⟨p, 0, none⟩) := hout 0 (by kernel_rfl) (show (0 : Nat) < 85 by decide)
        refine ⟨fun mx hmx => absurd hmx (by simp [zpos]), fun _ => ?_⟩
        simp [execOp, e0, hcst, go_sem]
      | 1, _ =>
        simp only [List.getElem?_toArray, List.getElem?_cons_zero, List.getElem?_cons_succ, Option.some.injEq] at hi
        subst hi
        have e0 : ev (.tmp 64) = .pointer (some ⟨p, 0, none⟩) := hin 64 0 ⟨0, .data⟩ (by kernel_rfl) (by simp) rfl rfl (show (64 : Nat) < 85 by decide)
        refine ⟨fun mx hmx => absurd hmx (by simp [zpos]), fun _ => ?_⟩
        simp [execOp, e0, hcst, go_sem]
      | 2, _ =>
        simp only [List.getElem?_toArray, List.getElem?_cons_zero, List.getElem?_cons_succ, Option.some.injEq] at hi
        subst hi
        have ha0 : us.length ≤ 0 := haft 0 9 rfl (by kernel_rfl)
        have e0 : ev (.tmp 65) = .pointer (some ⟨p, 0, none⟩) := hin 65 1 ⟨1, .data⟩ (by kernel_rfl) (by simp) rfl rfl (show (65 : Nat) < 85 by decide)
        refine ⟨fun mx hmx => absurd hmx (by simp [zpos]), fun _ => ?_⟩
        simp [execOp, e0, hcst, go_sem]
      | 3, _ =>
        simp only [List.getElem?_toArray, List.getElem?_cons_zero, List.getElem?_cons_succ, Option.some.injEq] at hi
        subst hi
        have e0 : ev (.tmp 0) = .pointer (some ⟨p, 0, none⟩) := hout 0 (by kernel_rfl) (show (0 : Nat) < 85 by decide)
        refine ⟨fun mx hmx => absurd hmx (by simp [zpos]), fun _ => ?_⟩
        simp [execOp, e0, hcst, go_sem]
      | 4, _ =>
        simp only [List.getElem?_toArray, List.getElem?_cons_zero, List.getElem?_cons_succ, Option.some.injEq] at hi
        subst hi
        have e0 : ev (.tmp 67) = .pointer (some ⟨p, 0, none⟩) := hin 67 3 ⟨3, .data⟩ (by kernel_rfl) (by simp) rfl rfl (show (67 : Nat) < 85 by decide)
        refine ⟨fun mx hmx => absurd hmx (by simp [zpos]), fun _ => ?_⟩
        simp [execOp, e0, hcst, go_sem]
      | 5, _ =>
        simp only [List.getElem?_toArray, List.getElem?_cons_zero, List.getElem?_cons_succ, Option.some.injEq] at hi
        subst hi
        have e0 : ev (.tmp 68) = .pointer (some ⟨p, 0, none⟩) := hin 68 4 ⟨4, .data⟩ (by kernel_rfl) (by simp) rfl rfl (show (68 : Nat) < 85 by decide)
        refine ⟨fun mx hmx => absurd hmx (by simp [zpos]), fun _ => ?_⟩
        simp [execOp, e0, hcst, go_sem]
      | 6, _ =>
        simp only [List.getElem?_toArray, List.getElem?_cons_zero, List.getElem?_cons_succ, Option.some.injEq] at hi
        subst hi
        have e0 : ev (.tmp 69) = .pointer (some ⟨p, 16, none⟩) := hin 69 5 ⟨5, .data⟩ (by kernel_rfl) (by simp) rfl rfl (show (69 : Nat) < 85 by decide)
        refine ⟨fun mx hmx => absurd hmx (by simp [zpos]), fun _ => ?_⟩
        have q2 : w'.cell? ⟨p, 16, none⟩ = some (.int .i64 (L : Int)) := by
          match us, hc with
          | [], hc => exact QAt.cellR (HQX.out.later hc) 14 rfl
          | [_], hc => obtain ⟨_, _, q, _⟩ := hc; exact QAt.cellR q 14 rfl
        simp [execOp, e0, hcst, go_sem, q2]
      | 7, _ =>
        simp only [List.getElem?_toArray, List.getElem?_cons_zero, List.getElem?_cons_succ, Option.some.injEq] at hi
        subst hi
        have e0 : ev (.tmp 6) = .int .i64 (kk : Int) := hout 6 (by kernel_rfl) (show (6 : Nat) < 85 by decide)
        refine ⟨fun mx hmx => absurd hmx (by simp [zpos]), fun _ => ?_⟩
        simp [execOp, e0, hcst, go_sem]
      | 8, _ =>
        simp only [List.getElem?_toArray, List.getElem?_cons_zero, List.getElem?_cons_succ, Option.some.injEq] at hi
        subst hi
        have ha0 : us.length ≤ 0 := haft 0 9 rfl (by kernel_rfl)
        have e0 : ev (.tmp 70) = .int .i64 (L : Int) := hin 70 6 ⟨6, .data⟩ (by kernel_rfl) (by simp) rfl rfl (show (70 : Nat) < 85 by decide)
        have e1 : ev (.tmp 71) = .int .i64 (kk : Int) := hin 71 7 ⟨7, .data⟩ (by kernel_rfl) (by simp) rfl rfl (show (71 : Nat) < 85 by decide)
        refine ⟨fun mx hmx => absurd hmx (by simp [zpos]), fun _ => ?_⟩
        have q1 := HLK.out
        simp [execOp, e0, e1, hcst, go_sem, q1]
      | 9, _ =>
        simp only [List.getElem?_toArray, List.getElem?_cons_zero, List.getElem?_cons_succ, Option.some.injEq] at hi
        subst hi
        have e0 : ev (.tmp 66) = .pointer (some ⟨p, 0, none⟩) := hin 66 2 ⟨2, .data⟩ (by kernel_rfl) (by simp) rfl rfl (show (66 : Nat) < 85 by decide)
        have e1 : ev (.tmp 72) = .int .i64 ((lk : Nat) : Int) := hin 72 8 ⟨8, .data⟩ (by kernel_rfl) (by simp) rfl rfl (show (72 : Nat) < 85 by decide)
        refine ⟨fun mx hmx hus => ?_, fun hno => absurd hno (by decide)⟩
        obtain rfl : 0 = mx := Option.some.inj hmx
        have h0 : us = [] := List.eq_nil_of_length_eq_zero hus
        subst h0
        refine .inl (.inr ⟨39, #[.pointer (some ⟨p, 0, none⟩), .int .i64 ((lk : Nat) : Int)], ?_, UsC.call HQX.out HLF.out hN hc⟩)
        have ef := hfn 39
        simp [execOp, resolve, invoke, ef, hcst, e0, e1, Result.andThen]
        exact enter67 _ _
    · intro us w9 husl hc
      obtain ⟨u, rfl, v', beg', q9, k9, o9⟩ := UsC.done hc husl
      rw [lexF_same (V' := fun jx => ([.pointer (some ⟨p, 0, none⟩), .pointer (some ⟨p, 0, none⟩), .pointer (some ⟨p, 0, none⟩), .pointer (some ⟨p, 0, none⟩), .pointer (some ⟨p, 0, none⟩), .pointer (some ⟨p, 16, none⟩), .int .i64 (L : Int), .int .i64 (kk : Int), .int .i64 ((lk : Nat) : Int), u] : List Value).getD jx undef) _ 0 _ (fun jx _ hj => by
        have hlt : jx < 10 := by simpa using hj
        match jx, hlt with
        | 0, _ => rfl
        | 1, _ => rfl
        | 2, _ => rfl
        | 3, _ => rfl
        | 4, _ => rfl
        | 5, _ => rfl
        | 6, _ => rfl
        | 7, _ => rfl
        | 8, _ => rfl
        | 9, _ => rfl)]
      simp only [lexF, Act.put, List.setIfInBounds_toArray, List.set_cons_succ, List.set_cons_zero, List.getD_cons_succ, List.getD_cons_zero]
      have HQ9 := hide q9
      have HT9 : Hid (w9.heap[w.heap.size]? = some (cmO cmZ (.slice none 0 0))) := (k9.block _ (lt_of_at _ ⟨_, HTX.out⟩) (by simp; omega)).trans HTX.out
      have HN9 : Hid (w9.heap[b5]? = some (cmO (withCm c ⟨(F1.take L).toArray⟩) (.slice ar nr cr))) := (k9.block _ (lt_of_at _ ⟨_, HNX.out⟩) (by simp; omega)).trans HNX.out
      have HK9 : Hid (Keep [p] w w9) := HKX.out.trans k9 (fun x hx => .inl hx)
      have HR9 : Hid (RowT w9 ar nr (Cm.keys (withCm c ⟨(F1.take L).toArray⟩))) := HRX.out.keepF (fun x hx hxp => by
        obtain ⟨cs, fz, hc⟩ := HRX.out.kind x hx
        simp only [List.mem_singleton] at hxp
        rw [hxp, HQX.out.blk] at hc
        simp at hc) k9
      have HO9 : Hid (∀ g, v'.ownBlock = some g → v.ownBlock = some g ∨ w.heap.size ≤ g) := fun g hg => by
        rcases o9 g hg with h | h
        · exact HO1.out g h
        · exact .inr (Nat.le_trans (Nat.le_of_lt HSX.out) h)
      have HTh := there_held q9
      clear q9 k9 o9 hc HQX HTX HNX HKX HRX
      repeat (fail_if_success (refine store_stepP cmZ none 0 0 rfl _ _ rfl p rfl rfl HTh ?_)); go_step
      refine store_stepP cmZ none 0 0 rfl _ _ rfl p rfl rfl HTh ?_
      have QY := HQ9.out.setCm cmZ (.slice none 0 0)
      have KY : Keep [p] w9 (w9.setCells p 4 (cmL cmZ (.slice none 0 0))) := (Keep.refl _ _).setCells (.inl (by simp)) _ _
      have TY := (KY.block _ (lt_of_at _ ⟨_, HT9.out⟩) (by simp; omega)).trans HT9.out
      have NY := (KY.block _ (lt_of_at _ ⟨_, HN9.out⟩) (by simp; omega)).trans HN9.out
      have RY := HR9.out.keepF (F := [p]) (fun x hx hxp => by
        obtain ⟨cs, fz, hc⟩ := HR9.out.kind x hx
        simp only [List.mem_singleton] at hxp
        rw [hxp, HQ9.out.blk] at hc
        simp at hc) KY
      have KW := HK9.out.trans KY (fun x hx => .inl hx)
      clear HTh HQ9 HT9 HN9 HK9 HR9 KY
      generalize w9.setCells p 4 (cmL cmZ (.slice none 0 0)) = Y at *
      have z16 : Y.cell? ⟨p, 16, none⟩ = some (.int .i64 (L : Int)) := QY.cellR 14 rfl
      have z17 : Y.cell? ⟨p, 17, none⟩ = some (.int .i64 (g : Int)) := QY.cellR 15 rfl
      have y16 : Y.frozen? ⟨p, 16, none⟩ = false := QY.blk.frozen 16
      have y17 : Y.frozen? ⟨p, 17, none⟩ = false := QY.blk.frozen 17
      have HQZ : Hid (QAt ((Y.setCell ⟨p, 16, none⟩ (.int .i64 0)).setCell ⟨p, 17, none⟩ (.int .i64 0)) p v' beg' (pR seen over cmZ (.slice none 0 0) 0 0) 51 (F1.drop lk) N) := (QY.setR 14 (.int .i64 0)).setR 15 (.int .i64 0)
      have KZ : Keep [p] Y ((Y.setCell ⟨p, 16, none⟩ (.int .i64 0)).setCell ⟨p, 17, none⟩ (.int .i64 0)) := ((Keep.refl _ _).setCell (.inl (by simp)) _).setCell (.inl (by simp)) _
      have HTZ : Hid (((Y.setCell ⟨p, 16, none⟩ (.int .i64 0)).setCell ⟨p, 17, none⟩ (.int .i64 0)).heap[w.heap.size]? = some (cmO cmZ (.slice none 0 0))) := (KZ.block _ (lt_of_at _ ⟨_, TY⟩) (by simp; omega)).trans TY
      have HKZ2 := hide (KW.trans KZ (fun x hx => .inl hx))
      have HRZ : Hid (RowT ((Y.setCell ⟨p, 16, none⟩ (.int .i64 0)).setCell ⟨p, 17, none⟩ (.int .i64 0)) ar nr (Cm.keys (withCm c ⟨(F1.take L).toArray⟩))) := RY.keepF (F := [p]) (fun x hx hxp => by
        obtain ⟨cs, fz, hc⟩ := RY.kind x hx
        simp only [List.mem_singleton] at hxp
        rw [hxp, QY.blk] at hc
        simp at hc) KZ
      obtain ⟨p0, p1, p2, p3, p4, p5, p6, p7, p8, p9, p10, p11⟩ := CmAt.of NY
      obtain ⟨q0, q1, q2, q3, q4, q5, q6, q7, q8, q9, q10, q11⟩ := CmAt.of TY
      obtain ⟨j0, j1, j2, j3, j4, j5, j6, j7, j8, j9, j10, j11⟩ := CmFz.of TY
      clear QY KZ TY NY RY KW
      go_wp2
      rw [set12]
      generalize (Y.setCell ⟨p, 16, none⟩ (.int .i64 0)).setCell ⟨p, 17, none⟩ (.int .i64 0) = Z9 at *
      have HH := heap_cm HTZ.out (withCm c ⟨(F1.take L).toArray⟩) (.slice ar nr cr)
      have HKK := keep_cm Z9 w.heap.size (withCm c ⟨(F1.take L).toArray⟩) (.slice ar nr cr)
      have HQF := QAt.far HQZ.out HKK (fun k hk => by simp only [List.mem_singleton] at hk; subst hk; exact ⟨by omega, cm_no5 HTZ.out⟩)
      have HRF := keep_row HRZ.out HTZ.out (withCm c ⟨(F1.take L).toArray⟩) (.slice ar nr cr)
      exact ret_cm2 rfl w.heap.size (withCm c ⟨(F1.take L).toArray⟩) (.slice ar nr cr) rfl HH rfl ⟨ar, nr, cr, v', beg', _, rfl, HRF, rfl, (by have h9 := HLKE.out; rw [h9] at HQF; exact HQF), HKZ2.out.trans HKK (fun x hx => .inr (by simp only [List.mem_singleton] at hx; omega)), HO9.out⟩
set_option maxHeartbeats 1000000 in
theorem data_ok0 (w : World) (p : Nat) (v : Value) (beg seen : Nat) (over : Bool) (c : Cm) (a0 : Option Addr) (n0 c0 : Nat) (left gone : Nat) (F : List UInt8) (N L g : Nat) (F1 : List UInt8) (h : PM w p v beg seen over c (.slice a0 n0 c0) left gone F N) (hN : N ≤ 1000000) (hrow : RowT w a0 n0 c.keys) (hlg : LgQ p seen over c (.slice a0 n0 c0) left gone F N L g F1) (hL : L ≤ 2147483647) (kk : Nat) (hk12 : kk = 1 ∨ kk = 2) (hf : L + kk ≤ F1.length) (hk : endsI (F1.drop L) = (kk : Int)) (hs : (c.what.toList == [115, 116, 111, 114, 101]) = false) :
    Calls Try.prog 23 #[.pointer (some ⟨p, 0, none⟩)] w (DtQ w p v c true seen over cmZ (fun k => k = .slice none 0 0) 0 0 (F1.drop (L + kk)) N) := by
  have B0 := (Below.refl w.heap.size w).alloc (Nat.le_refl _) (cmO cmZ (.slice none 0 0))
  have HQ0 := hide (QAt.later h B0)
  have HT0 := hide (heap_alloc_new w (cmO cmZ (.slice none 0 0)))
  have HP := hide h.blk.lt
  have HB0 := hide B0
  have HR0 := hide (hrow.later B0)
  have HLG := hide hlg
  clear h hrow hlg B0
  go_enter Try.func23, Try.ntmps23
  go_wp2_with fail
  refine Calls.mono (HLG.out _ v beg HQ0.out) ?_
  rintro e w1 ⟨rfl, v1, beg1, Q1, k1, o1⟩
  obtain ⟨a, ca, hB, hFN, hoff, hspot, hnil, hall⟩ := QAt.all Q1
  obtain ⟨n, hn⟩ : ∃ n, n = F1.length := ⟨_, rfl⟩
  rw [← hn] at hB hall hFN
  have hF : n ≤ 1000000 := by omega
  have HT1 : Hid (w1.heap[w.heap.size]? = some (cmO cmZ (.slice none 0 0))) := (k1.block _ (lt_of_at _ ⟨_, HT0.out⟩) (by have := HP.out; simp; omega)).trans HT0.out
  have HK1 : Hid (Keep [p] w w1) := (Keep.of_below HB0.out).trans k1 (fun x hx => .inl hx)
  have HO1 : Hid (∀ g, v1.ownBlock = some g → v.ownBlock = some g ∨ w.heap.size ≤ g) := fun g hg => (o1 g hg).imp id (fun h => Nat.le_trans HB0.out.size h)
  have HR1 : Hid (RowT w1 a0 n0 c.keys) := HR0.out.keepF (fun x hx hxp => by
    obtain ⟨cs, fz, hc⟩ := HR0.out.kind x hx
    simp only [List.mem_singleton] at hxp
    rw [hxp, HQ0.out.blk] at hc
    simp at hc) k1
  have HQ1 := hide Q1
  have HALL := hide hall
  have HBS := hide hB
  have HN := hide hn
  have HSP := hide hspot
  have HNL := hide hnil
  have hFN2 := hide hFN
  clear Q1 k1 o1 hall hB hn hspot hnil hoff hFN HQ0 HT0 HB0 HR0 HLG
  go_wp2_with fail
  refine Calls.mono (HALL.out _ ?_) ?_
  · exact HQ1.out.blk
  rintro e w2 ⟨rfl, m, rfl⟩
  obtain ⟨W2, hW2⟩ : ∃ W2, W2 = w1.drewN m := ⟨_, rfl⟩
  rw [← hW2]
  have HQ2 : Hid (PM W2 p v1 beg1 seen over c (.slice a0 n0 c0) L g F1 N) := by rw [hW2]; exact HQ1.out.drewN m
  have HT2 : Hid (W2.heap[w.heap.size]? = some (cmO cmZ (.slice none 0 0))) := by rw [hW2]; exact HT1.out
  have HK2 : Hid (Keep [p] w W2) := by rw [hW2]; exact ⟨HK1.out.os, HK1.out.tape, HK1.out.output, HK1.out.size, HK1.out.block⟩
  have HR2 : Hid (RowT W2 a0 n0 c.keys) := by rw [hW2]; exact HR1.out.later (below_drewN _ _ _)
  have HBS2 : Hid (BS W2 a n ca F1) := by rw [hW2]; exact HBS.out.heap rfl
  have d16 : W2.cell? ⟨p, 16, none⟩ = some (.int .i64 (L : Int)) := QAt.cellR HQ2.out 14 rfl
  have HLT : Hid (w.heap.size < W2.heap.size) := lt_of_at _ ⟨_, HT2.out⟩
  clear hW2 HQ1 HT1 HK1 HR1 HBS HALL
  have hf2 : ¬ ((n : Int) < (L : Int)) := by have := HN.out; omega
  have hLn : L ≤ n := by omega
  obtain ⟨mm, hmm, hm1, hm2, hm3⟩ : ∃ mm : Nat, (min ((L : Int) + 2) (n : Int) = (mm : Int)) ∧ L ≤ mm ∧ mm ≤ n ∧ mm = min (L + 2) n := ⟨min (L + 2) n, by omega, by omega, by omega, rfl⟩
  have HW2 : Hid (IntKind.i64.wrap ((L : Int) + 2) = (L : Int) + 2) := by show _ = _; rw [IntKind.wrap_i64]; omega
  have HMM := hide hmm
  obtain ⟨a4, c4, hsl, hb4⟩ := mid_bs HBS2.out HSP.out L mm hm1 hm2 HNL.out
  obtain ⟨n4, hn4⟩ : ∃ n4, n4 = mm - L := ⟨_, rfl⟩
  rw [← hn4] at hsl hb4
  have HSL : Hid (∀ X, (Instr.sliceAt 26 (.slice a n ca) (some (.int .i64 (L : Int))) (some (.int .i64 (mm : Int))) none).run Try.prog X = .ok (.slice a4 n4 c4) X) := hsl
  obtain ⟨tx, htx⟩ : ∃ tx : ByteArray, tx = ⟨((F1.take mm).drop L).toArray⟩ := ⟨_, rfl⟩
  have HCV : Hid (∀ W, Below W2.heap.size W2 W → (convert 26 9 (.slice a4 n4 c4)).run Try.prog W = .ok (.string tx) W) := fun W hW => by rw [htx]; exact str_bs (hb4.later hW)
  have htwo : tx.data.toList = (F1.drop L).take 2 := by
    rw [htx]
    show (F1.take mm).drop L = (F1.drop L).take 2
    rw [List.drop_take, hm3]
    by_cases hq : L + 2 ≤ n
    · rw [Nat.min_eq_left hq]; congr 1; omega
    · rw [Nat.min_eq_right (by omega), List.take_of_length_le (by rw [List.length_drop, ← HN.out]; omega), List.take_of_length_le (by rw [List.length_drop, ← HN.out]; omega)]
  obtain ⟨k1, hk1⟩ : ∃ k1, k1 = endsI (F1.drop L) := ⟨_, rfl⟩
  have hends : endsI tx.data.toList = k1 := by rw [htwo, hk1]; unfold endsI; rw [endsP_two]
  have HCE : Hid (∀ us W, DtC W2 c (.slice a0 n0 c0) k1 us W → us 21 = none → Calls Try.prog 42 #[.string tx] W fun e w2 => ∃ v, e = .returned v ∧ DtC W2 c (.slice a0 n0 c0) k1 (setU us 19 v) w2) := fun us W hc ha => by
    refine (ends_any tx W).mono ?_
    rintro e w2 ⟨rfl, hb⟩
    rw [hends]
    exact ⟨_, rfl, hc.s19 ha hb⟩
  rw [← hk1] at hk
  clear hmm hsl hb4 htx htwo hends hm1 hm2 hm3 hn4 hk1
  have HKZ := hide hk
  have HLF0 : Hid (L + kk ≤ F1.length) := hf
  have HSS := hide hs
  have hkk2 : kk ≤ 2 := by omega
  have hkk1 : 1 ≤ kk := by omega
  clear hf hk hs hk12
  go_wp2
  refine wp_region_par (by kernel_rfl) (by kernel_rfl) (fun jx => ([.pointer (some ⟨p, 0, none⟩), .pointer (some ⟨p, 0, none⟩), .pointer (some ⟨p, 4, none⟩), .agg #[.string c.what, .string c.verb, .slice a0 n0 c0, .string c.data, .int .u32 c.fl, .int .i64 c.ex, .int .u64 c.cs, .int .u64 c.y, .bool c.wc, .bool c.wt, .bool c.dn, .bool c.q], .slice a n ca, .pointer (some ⟨p, 0, none⟩), .pointer (some ⟨p, 0, none⟩), .pointer (some ⟨p, 16, none⟩), .int .i64 (L : Int), .pointer (some ⟨p, 0, none⟩), .pointer (some ⟨p, 0, none⟩), .pointer (some ⟨p, 16, none⟩), .int .i64 (L : Int), .int .i64 ((L : Int) + 2), .slice a n ca, .int .i64 (n : Int), .int .i64 (mm : Int), .slice a4 n4 c4, .string tx, undef, undef, undef, .int .i64 k1] : List Value).getD jx undef) [19, 20, 21] (fun z hz => by simp at hz; rcases hz with rfl | rfl | rfl <;> decide) (DtC W2 c (.slice a0 n0 c0) k1) (DtC.new) ?_ ?_
  · intro jx ox hi us w' ev hc hbef haft hin hout hold hcst hfn
    have hltx : jx < 23 := by
      have := (Array.getElem?_eq_some_iff.1 hi).1
      simpa using this
    match jx, hltx with
    | 0, _ =>
      simp only [List.getElem?_toArray, List.getElem?_cons_zero, List.getElem?_cons_succ, Option.some.injEq] at hi
      subst hi
      have ha21 : us 21 = none := haft 21 rfl (by kernel_rfl)
      have e0 : ev (.tmp 0) = .pointer (some ⟨p, 0, none⟩) := hout 0 (by kernel_rfl) (show (0 : Nat) < 85 by decide)
      refine ⟨fun hno => absurd hno (by decide), fun _ => ?_⟩
      simp [execOp, e0, hcst, go_sem]
    | 1, _ =>
      simp only [List.getElem?_toArray, List.getElem?_cons_zero, List.getElem?_cons_succ, Option.some.injEq] at hi
      subst hi
      have ha21 : us 21 = none := haft 21 rfl (by kernel_rfl)
      have e0 : ev (.tmp 21) = .pointer (some ⟨p, 0, none⟩) := hin 21 0 ⟨0, .data⟩ (by kernel_rfl) (by simp) rfl rfl (show (21 : Nat) < 85 by decide)
      refine ⟨fun hno => absurd hno (by decide), fun _ => ?_⟩
      simp [execOp, e0, hcst, go_sem]
    | 2, _ =>
      simp only [List.getElem?_toArray, List.getElem?_cons_zero, List.getElem?_cons_succ, Option.some.injEq] at hi
      subst hi
      have ha21 : us 21 = none := haft 21 rfl (by kernel_rfl)
      have e0 : ev (.tmp 22) = .pointer (some ⟨p, 0, none⟩) := hin 22 1 ⟨1, .data⟩ (by kernel_rfl) (by simp) rfl rfl (show (22 : Nat) < 85 by decide)
      refine ⟨fun hno => absurd hno (by decide), fun _ => ?_⟩
      simp [execOp, e0, hcst, go_sem]
    | 3, _ =>
      simp only [List.getElem?_toArray, List.getElem?_cons_zero, List.getElem?_cons_succ, Option.some.injEq] at hi
      subst hi
      have ha21 : us 21 = none := haft 21 rfl (by kernel_rfl)
      have e0 : ev (.tmp 23) = .pointer (some ⟨p, 4, none⟩) := hin 23 2 ⟨2, .data⟩ (by kernel_rfl) (by simp) rfl rfl (show (23 : Nat) < 85 by decide)
      refine ⟨fun hno => absurd hno (by decide), fun _ => ?_⟩
      have q2 := load_held (HQ2.out.later hc.bel)
      simp only [execOp, e0, Instr.loadAt, Instr.sureAddr, Sem.run_bind, Sem.run_pure, Result.andThen_ok, q2]
      rfl
    | 4, _ =>
      simp only [List.getElem?_toArray, List.getElem?_cons_zero, List.getElem?_cons_succ, Option.some.injEq] at hi
      subst hi
      have e0 : ev (.tmp 4) = .slice a n ca := hout 4 (by kernel_rfl) (show (4 : Nat) < 85 by decide)
      refine ⟨fun hno => absurd hno (by decide), fun _ => ?_⟩
      simp [execOp, e0, hcst, go_sem]
    | 5, _ =>
      simp only [List.getElem?_toArray, List.getElem?_cons_zero, List.getElem?_cons_succ, Option.some.injEq] at hi
      subst hi
      have e0 : ev (.tmp 0) = .pointer (some ⟨p, 0, none⟩) := hout 0 (by kernel_rfl) (show (0 : Nat) < 85 by decide)
      refine ⟨fun hno => absurd hno (by decide), fun _ => ?_⟩
      simp [execOp, e0, hcst, go_sem]
    | 6, _ =>
      simp only [List.getElem?_toArray, List.getElem?_cons_zero, List.getElem?_cons_succ, Option.some.injEq] at hi
      subst hi
      have e0 : ev (.tmp 26) = .pointer (some ⟨p, 0, none⟩) := hin 26 5 ⟨5, .data⟩ (by kernel_rfl) (by simp) rfl rfl (show (26 : Nat) < 85 by decide)
      refine ⟨fun hno => absurd hno (by decide), fun _ => ?_⟩
      simp [execOp, e0, hcst, go_sem]
    | 7, _ =>
      simp only [List.getElem?_toArray, List.getElem?_cons_zero, List.getElem?_cons_succ, Option.some.injEq] at hi
      subst hi
      have e0 : ev (.tmp 27) = .pointer (some ⟨p, 0, none⟩) := hin 27 6 ⟨6, .data⟩ (by kernel_rfl) (by simp) rfl rfl (show (27 : Nat) < 85 by decide)
      refine ⟨fun hno => absurd hno (by decide), fun _ => ?_⟩
      simp [execOp, e0, hcst, go_sem]
    | 8, _ =>
      simp only [List.getElem?_toArray, List.getElem?_cons_zero, List.getElem?_cons_succ, Option.some.injEq] at hi
      subst hi
      have e0 : ev (.tmp 28) = .pointer (some ⟨p, 16, none⟩) := hin 28 7 ⟨7, .data⟩ (by kernel_rfl) (by simp) rfl rfl (show (28 : Nat) < 85 by decide)
      refine ⟨fun hno => absurd hno (by decide), fun _ => ?_⟩
      have q2 : w'.cell? ⟨p, 16, none⟩ = some (.int .i64 (L : Int)) := QAt.cellR (HQ2.out.later hc.bel) 14 rfl
      simp [execOp, e0, hcst, go_sem, q2]
    | 9, _ =>
      simp only [List.getElem?_toArray, List.getElem?_cons_zero, List.getElem?_cons_succ, Option.some.injEq] at hi
      subst hi
      have e0 : ev (.tmp 0) = .pointer (some ⟨p, 0, none⟩) := hout 0 (by kernel_rfl) (show (0 : Nat) < 85 by decide)
      refine ⟨fun hno => absurd hno (by decide), fun _ => ?_⟩
      simp [execOp, e0, hcst, go_sem]
    | 10, _ =>
      simp only [List.getElem?_toArray, List.getElem?_cons_zero, List.getElem?_cons_succ, Option.some.injEq] at hi
      subst hi
      have e0 : ev (.tmp 30) = .pointer (some ⟨p, 0, none⟩) := hin 30 9 ⟨9, .data⟩ (by kernel_rfl) (by simp) rfl rfl (show (30 : Nat) < 85 by decide)
      refine ⟨fun hno => absurd hno (by decide), fun _ => ?_⟩
      simp [execOp, e0, hcst, go_sem]
    | 11, _ =>
      simp only [List.getElem?_toArray, List.getElem?_cons_zero, List.getElem?_cons_succ, Option.some.injEq] at hi
      subst hi
      have e0 : ev (.tmp 31) = .pointer (some ⟨p, 0, none⟩) := hin 31 10 ⟨10, .data⟩ (by kernel_rfl) (by simp) rfl rfl (show (31 : Nat) < 85 by decide)
      refine ⟨fun hno => absurd hno (by decide), fun _ => ?_⟩
      simp [execOp, e0, hcst, go_sem]
    | 12, _ =>
      simp only [List.getElem?_toArray, List.getElem?_cons_zero, List.getElem?_cons_succ, Option.some.injEq] at hi
      subst hi
      have e0 : ev (.tmp 32) = .pointer (some ⟨p, 16, none⟩) := hin 32 11 ⟨11, .data⟩ (by kernel_rfl) (by simp) rfl rfl (show (32 : Nat) < 85 by decide)
      refine ⟨fun hno => absurd hno (by decide), fun _ => ?_⟩
      have q2 : w'.cell? ⟨p, 16, none⟩ = some (.int .i64 (L : Int)) := QAt.cellR (HQ2.out.later hc.bel) 14 rfl
      simp [execOp, e0, hcst, go_sem, q2]
    | 13, _ =>
      simp only [List.getElem?_toArray, List.getElem?_cons_zero, List.getElem?_cons_succ, Option.some.injEq] at hi
      subst hi
      have e0 : ev (.tmp 33) = .int .i64 (L : Int) := hin 33 12 ⟨12, .data⟩ (by kernel_rfl) (by simp) rfl rfl (show (33 : Nat) < 85 by decide)
      refine ⟨fun hno => absurd hno (by decide), fun _ => ?_⟩
      have q1 := HW2.out
      simp [execOp, e0, hcst, go_sem, q1]
    | 14, _ =>
      simp only [List.getElem?_toArray, List.getElem?_cons_zero, List.getElem?_cons_succ, Option.some.injEq] at hi
      subst hi
      have e0 : ev (.tmp 4) = .slice a n ca := hout 4 (by kernel_rfl) (show (4 : Nat) < 85 by decide)
      refine ⟨fun hno => absurd hno (by decide), fun _ => ?_⟩
      simp [execOp, e0, hcst, go_sem]
    | 15, _ =>
      simp only [List.getElem?_toArray, List.getElem?_cons_zero, List.getElem?_cons_succ, Option.some.injEq] at hi
      subst hi
      have e0 : ev (.tmp 35) = .slice a n ca := hin 35 14 ⟨14, .data⟩ (by kernel_rfl) (by simp) rfl rfl (show (35 : Nat) < 85 by decide)
      refine ⟨fun hno => absurd hno (by decide), fun _ => ?_⟩
      simp [execOp, e0, hcst, go_sem, resolve, invoke, builtin]
    | 16, _ =>
      simp only [List.getElem?_toArray, List.getElem?_cons_zero, List.getElem?_cons_succ, Option.some.injEq] at hi
      subst hi
      have e0 : ev (.tmp 34) = .int .i64 ((L : Int) + 2) := hin 34 13 ⟨13, .data⟩ (by kernel_rfl) (by simp) rfl rfl (show (34 : Nat) < 85 by decide)
      have e1 : ev (.tmp 36) = .int .i64 (n : Int) := hin 36 15 ⟨15, .data⟩ (by kernel_rfl) (by simp) rfl rfl (show (36 : Nat) < 85 by decide)
      refine ⟨fun hno => absurd hno (by decide), fun _ => ?_⟩
      have q1 := HMM.out
      simp [execOp, e0, e1, hcst, go_sem, q1, resolve, invoke, builtin]
    | 17, _ =>
      simp only [List.getElem?_toArray, List.getElem?_cons_zero, List.getElem?_cons_succ, Option.some.injEq] at hi
      subst hi
      have e0 : ev (.tmp 25) = .slice a n ca := hin 25 4 ⟨4, .data⟩ (by kernel_rfl) (by simp) rfl rfl (show (25 : Nat) < 85 by decide)
      have e1 : ev (.tmp 29) = .int .i64 (L : Int) := hin 29 8 ⟨8, .data⟩ (by kernel_rfl) (by simp) rfl rfl (show (29 : Nat) < 85 by decide)
      have e2 : ev (.tmp 37) = .int .i64 (mm : Int) := hin 37 16 ⟨16, .data⟩ (by kernel_rfl) (by simp) rfl rfl (show (37 : Nat) < 85 by decide)
      refine ⟨fun hno => absurd hno (by decide), fun _ => ?_⟩
      have q1 := HSL.out w'
      simp [execOp, e0, e1, e2, hcst, go_sem, q1]
    | 18, _ =>
      simp only [List.getElem?_toArray, List.getElem?_cons_zero, List.getElem?_cons_succ, Option.some.injEq] at hi
      subst hi
      have ha19 : us 19 = none := haft 19 rfl (by kernel_rfl)
      have e0 : ev (.tmp 38) = .slice a4 n4 c4 := hin 38 17 ⟨17, .data⟩ (by kernel_rfl) (by simp) rfl rfl (show (38 : Nat) < 85 by decide)
      refine ⟨fun hno => absurd hno (by decide), fun _ => ?_⟩
      have q1 := HCV.out w' hc.bel
      simp [execOp, e0, hcst, go_sem, q1]
    | 19, _ =>
      simp only [List.getElem?_toArray, List.getElem?_cons_zero, List.getElem?_cons_succ, Option.some.injEq] at hi
      subst hi
      have ha21 : us 21 = none := haft 21 rfl (by kernel_rfl)
      have e0 : ev (.tmp 39) = .string tx := hin 39 18 ⟨18, .data⟩ (by kernel_rfl) (by simp) rfl rfl (show (39 : Nat) < 85 by decide)
      refine ⟨fun _ hz => ?_, fun hno => absurd hno (by decide)⟩
      refine .inl (.inr ⟨42, #[.string tx], ?_, HCE.out us w' hc ha21⟩)
      have ef := hfn 42
      simp [execOp, resolve, invoke, ef, hcst, e0, Result.andThen]
      exact enter70 _ _
    | 20, _ =>
      simp only [List.getElem?_toArray, List.getElem?_cons_zero, List.getElem?_cons_succ, Option.some.injEq] at hi
      subst hi
      have ha21 : us 21 = none := haft 21 rfl (by kernel_rfl)
      refine ⟨fun _ hz => ?_, fun hno => absurd hno (by decide)⟩
      refine .inl (.inl ⟨_, _, ?_, DtC.s20 hc ha21⟩)
      simp [execOp, hcst, go_sem, cmZ]
    | 21, _ =>
      simp only [List.getElem?_toArray, List.getElem?_cons_zero, List.getElem?_cons_succ, Option.some.injEq] at hi
      subst hi
      have hb19 : (us 19).isSome = true := hbef 19 rfl (by kernel_rfl)
      have hb20 : (us 20).isSome = true := hbef 20 rfl (by kernel_rfl)
      have e0 : ev (.tmp 5) = (us 20).getD undef := hin 5 20 ⟨20, .data⟩ (by kernel_rfl) (by simp) rfl rfl (show (5 : Nat) < 85 by decide)
      have e1 : ev (.tmp 24) = .agg #[.string c.what, .string c.verb, .slice a0 n0 c0, .string c.data, .int .u32 c.fl, .int .i64 c.ex, .int .u64 c.cs, .int .u64 c.y, .bool c.wc, .bool c.wt, .bool c.dn, .bool c.q] := hin 24 3 ⟨3, .data⟩ (by kernel_rfl) (by simp) rfl rfl (show (24 : Nat) < 85 by decide)
      refine ⟨fun _ hz => ?_, fun hno => absurd hno (by decide)⟩
      obtain ⟨u20, hu20⟩ := Option.isSome_iff_exists.1 hb20
      obtain ⟨b8, W', q3, q4, q5⟩ := DtC.s21 hc hu20 hz
      rw [hu20, Option.getD_some, q3] at e0
      refine .inr ⟨W', ?_, q5⟩
      simp only [execOp, e0, e1, Instr.storeAt, Instr.sureAddr, Sem.run_bind, Sem.run_pure, Result.andThen_ok, q4]
    | 22, _ =>
      simp only [List.getElem?_toArray, List.getElem?_cons_zero, List.getElem?_cons_succ, Option.some.injEq] at hi
      subst hi
      have hb19 : (us 19).isSome = true := hbef 19 rfl (by kernel_rfl)
      have hb20 : (us 20).isSome = true := hbef 20 rfl (by kernel_rfl)
      have hb21 : (us 21).isSome = true := hbef 21 rfl (by kernel_rfl)
      have e0 : ev (.tmp 40) = (us 19).getD undef := hin 40 19 ⟨19, .data⟩ (by kernel_rfl) (by simp) rfl rfl (show (40 : Nat) < 85 by decide)
      refine ⟨fun hno => absurd hno (by decide), fun _ => ?_⟩
      obtain ⟨u19, hu19⟩ := Option.isSome_iff_exists.1 hb19
      have q1 := hc.call _ hu19
      rw [hu19, Option.getD_some, q1] at e0
      simp [execOp, e0, hcst, go_sem]
  · intro us w7 hus hc
    obtain ⟨z21, b5, d19, d20, d21, l5, e5⟩ := DtC.done hc hus
    rw [lexF_same (V' := fun jx => ([.pointer (some ⟨p, 0, none⟩), .pointer (some ⟨p, 0, none⟩), .pointer (some ⟨p, 4, none⟩), .agg #[.string c.what, .string c.verb, .slice a0 n0 c0, .string c.data, .int .u32 c.fl, .int .i64 c.ex, .int .u64 c.cs, .int .u64 c.y, .bool c.wc, .bool c.wt, .bool c.dn, .bool c.q], .slice a n ca, .pointer (some ⟨p, 0, none⟩), .pointer (some ⟨p, 0, none⟩), .pointer (some ⟨p, 16, none⟩), .int .i64 (L : Int), .pointer (some ⟨p, 0, none⟩), .pointer (some ⟨p, 0, none⟩), .pointer (some ⟨p, 16, none⟩), .int .i64 (L : Int), .int .i64 ((L : Int) + 2), .slice a n ca, .int .i64 (n : Int), .int .i64 (mm : Int), .slice a4 n4 c4, .string tx, (.int .i64 k1), (.pointer (some ⟨b5, 0, none⟩)), z21, .int .i64 k1] : List Value).getD jx undef) _ 0 _ (fun jx _ hj => by
      have hlt : jx < 23 := by simpa using hj
      match jx, hlt with
      | 0, _ => rfl
      | 1, _ => rfl
      | 2, _ => rfl
      | 3, _ => rfl
      | 4, _ => rfl
      | 5, _ => rfl
      | 6, _ => rfl
      | 7, _ => rfl
      | 8, _ => rfl
      | 9, _ => rfl
      | 10, _ => rfl
      | 11, _ => rfl
      | 12, _ => rfl
      | 13, _ => rfl
      | 14, _ => rfl
      | 15, _ => rfl
      | 16, _ => rfl
      | 17, _ => rfl
      | 18, _ => rfl
      | 19, _ => exact (by unfold parV; rw [if_pos (by decide), d19]; rfl)
      | 20, _ => exact (by unfold parV; rw [if_pos (by decide), d20]; rfl)
      | 21, _ => exact (by unfold parV; rw [if_pos (by decide), d21]; rfl)
      | 22, _ => rfl
      | jy + 23, hy => exact absurd hy (by omega))]
    simp only [lexF, Act.put, List.setIfInBounds_toArray, List.set_cons_succ, List.set_cons_zero, List.getD_cons_succ, List.getD_cons_zero]
    have HQ3 : Hid (PM w7 p v1 beg1 seen over c (.slice a0 n0 c0) L g F1 N) := HQ2.out.later hc.bel
    have HT3 : Hid (w7.heap[w.heap.size]? = some (cmO cmZ (.slice none 0 0))) := (hc.bel.block _ HLT.out).trans HT2.out
    have HK3 : Hid (Keep [p] w w7) := HK2.out.trans (Keep.of_below (F := [p]) hc.bel) (fun x hx => .inl hx)
    have HR3 : Hid (RowT w7 a0 n0 c.keys) := HR2.out.later hc.bel
    have HN3 : Hid (w7.heap[b5]? = some (cmO c (.slice a0 n0 c0))) := e5
    have HBS3 : Hid (BS w7 a n ca F1) := HBS2.out.later hc.bel
    have h5t : b5 ≠ w.heap.size := by have := HLT.out; omega
    have h5p : b5 ≠ p := by have := HLT.out; have := HP.out; omega
    have hpt : p ≠ w.heap.size := by have := HP.out; omega
    have h5l : w.heap.size ≤ b5 := by have := HLT.out; omega
    clear hc hus d19 d20 d21 l5 e5 HCE HCV HSL HQ2 HT2 HK2 HR2 d16
    have hkz := HKZ.out
    clear HKZ
    subst hkz
    have hk0 : ((kk : Int) == 0) = false := by rw [beq_eq_false_iff_ne]; omega
    have hk1 : ((kk : Int) < 0) = False := by simp
    have hs := HSS.out
    have nn0 := (CmAt.of HN3.out).c0
    have HQX := HQ3
    have HTX := HT3
    have HNX := HN3
    have HKX := HK3
    have HRX := HR3
    go_wp2
    generalize w7 = X at *
    obtain ⟨ar, har⟩ : ∃ ar : Option Addr, ar = a0 := ⟨_, rfl⟩
    obtain ⟨nr, hnr⟩ : ∃ nr : Nat, nr = n0 := ⟨_, rfl⟩
    obtain ⟨cr, hcr⟩ : ∃ cr : Nat, cr = c0 := ⟨_, rfl⟩
    replace HRX : Hid (RowT X ar nr (Cm.keys c)) := by rw [har, hnr]; exact HRX.out
    replace HNX : Hid (X.heap[b5]? = some (cmO c (.slice ar nr cr))) := by rw [har, hnr, hcr]; exact HNX.out
    clear har hnr hcr
    obtain ⟨lk, hlk⟩ : ∃ lk, lk = L + kk := ⟨_, rfl⟩
    have HLK : Hid (IntKind.i64.wrap ((L : Int) + (kk : Int)) = (lk : Int)) := by show _ = _; rw [IntKind.wrap_i64]; omega
    have HLF : Hid (lk ≤ F1.length) := by rw [hlk]; exact HLF0.out
    have HLKE := hide hlk
    clear hlk
    have HSX : Hid (w.heap.size < X.heap.size) := lt_of_at _ ⟨_, HTX.out⟩
    refine wp_region_liy (by kernel_rfl) (by kernel_rfl) (fun jx => ([.pointer (some ⟨p, 0, none⟩), .pointer (some ⟨p, 0, none⟩), .pointer (some ⟨p, 0, none⟩), .pointer (some ⟨p, 0, none⟩), .pointer (some ⟨p, 0, none⟩), .pointer (some ⟨p, 16, none⟩), .int .i64 (L : Int), .int .i64 (kk : Int), .int .i64 ((lk : Nat) : Int), undef] : List Value).getD jx undef) [9] (by kernel_rfl) (by decide) (by decide) (UsC X p v1 (pR seen over c (.slice a0 n0 c0) L g) (F1.drop lk) N) ((Below.refl _ _).drew) ?_ ?_
    · intro jx ox hi us w' ev hc hul hbef haft hin hout hold hcst hfn
      have hltx : jx < 10 := by
        have := (Array.getElem?_eq_some_iff.1 hi).1
        simpa using this
      match jx, hltx with
      | 0, _ =>
        simp only [List.getElem?_toArray, List.getElem?_cons_zero, List.getElem?_cons_succ, Option.some.injEq] at hi
        subst hi
        have e0 : ev (.tmp 0) = .pointer (some ⟨p, 0, none⟩) := hout 0 (by kernel_rfl) (show (0 : Nat) < 85 by decide)
        refine ⟨fun mx hmx => absurd hmx (by simp [zpos]), fun _ => ?_⟩
        simp [execOp, e0, hcst, go_sem]
      | 1, _ =>
        simp only [List.getElem?_toArray, List.getElem?_cons_zero, List.getElem?_cons_succ, Option.some.injEq] at hi
        subst hi
        have e0 : ev (.tmp 64) = .pointer (some ⟨p, 0, none⟩) := hin 64 0 ⟨0, .data⟩ (by kernel_rfl) (by simp) rfl rfl (show (64 : Nat) < 85 by decide)
        refine ⟨fun mx hmx => absurd hmx (by simp [zpos]), fun _ => ?_⟩
        simp [execOp, e0, hcst, go_sem]
      | 2, _ =>
        simp only [List.getElem?_toArray, List.getElem?_cons_zero, List.getElem?_cons_succ, Option.some.injEq] at hi
        subst hi
        have ha0 : us.length ≤ 0 := haft 0 9 rfl (by kernel_rfl)
        have e0 : ev (.tmp 65) = .pointer (some ⟨p, 0, none⟩) := hin 65 1 ⟨1, .data⟩ (by kernel_rfl) (by simp) rfl rfl (show (65 : Nat) < 85 by decide)
        refine ⟨fun mx hmx => absurd hmx (by simp [zpos]), fun _ => ?_⟩
        simp [execOp, e0, hcst, go_sem]
      | 3, _ =>
        simp only [List.getElem?_toArray, List.getElem?_cons_zero, List.getElem?_cons_succ, Option.some.injEq] at hi
        subst hi
        have e0 : ev (.tmp 0) = .pointer (some ⟨p, 0, none⟩) := hout 0 (by kernel_rfl) (show (0 : Nat) < 85 by decide)
        refine ⟨fun mx hmx => absurd hmx (by simp [zpos]), fun _ => ?_⟩
        simp [execOp, e0, hcst, go_sem]
      | 4, _ =>
        simp only [List.getElem?_toArray, List.getElem?_cons_zero, List.getElem?_cons_succ, Option.some.injEq] at hi
        subst hi
        have e0 : ev (.tmp 67) = .pointer (some ⟨p, 0, none⟩) := hin 67 3 ⟨3, .data⟩ (by kernel_rfl) (by simp) rfl rfl (show (67 : Nat) < 85 by decide)
        refine ⟨fun mx hmx => absurd hmx (by simp [zpos]), fun _ => ?_⟩
        simp [execOp, e0, hcst, go_sem]
      | 5, _ =>
        simp only [List.getElem?_toArray, List.getElem?_cons_zero, List.getElem?_cons_succ, Option.some.injEq] at hi
        subst hi
        have e0 : ev (.tmp 68) = .pointer (some ⟨p, 0, none⟩) := hin 68 4 ⟨4, .data⟩ (by kernel_rfl) (by simp) rfl rfl (show (68 : Nat) < 85 by decide)
        refine ⟨fun mx hmx => absurd hmx (by simp [zpos]), fun _ => ?_⟩
        simp [execOp, e0, hcst, go_sem]
      | 6, _ =>
        simp only [List.getElem?_toArray, List.getElem?_cons_zero, List.getElem?_cons_succ, Option.some.injEq] at hi
        subst hi
        have e0 : ev (.tmp 69) = .pointer (some ⟨p, 16, none⟩) := hin 69 5 ⟨5, .data⟩ (by kernel_rfl) (by simp) rfl rfl (show (69 : Nat) < 85 by decide)
        refine ⟨fun mx hmx => absurd hmx (by simp [zpos]), fun _ => ?_⟩
        have q2 : w'.cell? ⟨p, 16, none⟩ = some (.int .i64 (L : Int)) := by
          match us, hc with
          | [], hc => exact QAt.cellR (HQX.out.later hc) 14 rfl
          | [_], hc => obtain ⟨_, _, q, _⟩ := hc; exact QAt.cellR q 14 rfl
        simp [execOp, e0, hcst, go_sem, q2]
      | 7, _ =>
        simp only [List.getElem?_toArray, List.getElem?_cons_zero, List.getElem?_cons_succ, Option.some.injEq] at hi
        subst hi
        have e0 : ev (.tmp 6) = .int .i64 (kk : Int) := hout 6 (by kernel_rfl) (show (6 : Nat) < 85 by decide)
        refine ⟨fun mx hmx => absurd hmx (by simp [zpos]), fun _ => ?_⟩
        simp [execOp, e0, hcst, go_sem]
      | 8, _ =>
        simp only [List.getElem?_toArray, List.getElem?_cons_zero, List.getElem?_cons_succ, Option.some.injEq] at hi
        subst hi
        have ha0 : us.length ≤ 0 := haft 0 9 rfl (by kernel_rfl)
        have e0 : ev (.tmp 70) = .int .i64 (L : Int) := hin 70 6 ⟨6, .data⟩ (by kernel_rfl) (by simp) rfl rfl (show (70 : Nat) < 85 by decide)
        have e1 : ev (.tmp 71) = .int .i64 (kk : Int) := hin 71 7 ⟨7, .data⟩ (by kernel_rfl) (by simp) rfl rfl (show (71 : Nat) < 85 by decide)
        refine ⟨fun mx hmx => absurd hmx (by simp [zpos]), fun _ => ?_⟩
        have q1 := HLK.out
        simp [execOp, e0, e1, hcst, go_sem, q1]
      | 9, _ =>
        simp only [List.getElem?_toArray, List.getElem?_cons_zero, List.getElem?_cons_succ, Option.some.injEq] at hi
        subst hi
        have e0 : ev (.tmp 66) = .pointer (some ⟨p, 0, none⟩) := hin 66 2 ⟨2, .data⟩ (by kernel_rfl) (by simp) rfl rfl (show (66 : Nat) < 85 by decide)
        have e1 : ev (.tmp 72) = .int .i64 ((lk : Nat) : Int) := hin 72 8 ⟨8, .data⟩ (by kernel_rfl) (by simp) rfl rfl (show (72 : Nat) < 85 by decide)
        refine ⟨fun mx hmx hus => ?_, fun hno => absurd hno (by decide)⟩
        obtain rfl : 0 = mx := Option.some.inj hmx
        have h0 : us = [] := List.eq_nil_of_length_eq_zero hus
        subst h0
        refine .inl (.inr ⟨39, #[.pointer (some ⟨p, 0, none⟩), .int .i64 ((lk : Nat) : Int)], ?_, UsC.call HQX.out HLF.out hN hc⟩)
        have ef := hfn 39
        simp [execOp, resolve, invoke, ef, hcst, e0, e1, Result.andThen]
        exact enter67 _ _
    · intro us w9 husl hc
      obtain ⟨u, rfl, v', beg', q9, k9, o9⟩ := UsC.done hc husl
      rw [lexF_same (V' := fun jx => ([.pointer (some ⟨p, 0, none⟩), .pointer (some ⟨p, 0, none⟩), .pointer (some ⟨p, 0, none⟩), .pointer (some ⟨p, 0, none⟩), .pointer (some ⟨p, 0, none⟩), .pointer (some ⟨p, 16, none⟩), .int .i64 (L : Int), .int .i64 (kk : Int), .int .i64 ((lk : Nat) : Int), u] : List Value).getD jx undef) _ 0 _ (fun jx _ hj => by
        have hlt : jx < 10 := by simpa using hj
        match jx, hlt with
        | 0, _ => rfl
        | 1, _ => rfl
        | 2, _ => rfl
        | 3, _ => rfl
        | 4, _ => rfl
        | 5, _ => rfl
        | 6, _ => rfl
        | 7, _ => rfl
        | 8, _ => rfl
        | 9, _ => rfl)]
      simp only [lexF, Act.put, List.setIfInBounds_toArray, List.set_cons_succ, List.set_cons_zero, List.getD_cons_succ, List.getD_cons_zero]
      have HQ9 := hide q9
      have HT9 : Hid (w9.heap[w.heap.size]? = some (cmO cmZ (.slice none 0 0))) := (k9.block _ (lt_of_at _ ⟨_, HTX.out⟩) (by simp; omega)).trans HTX.out
      have HN9 : Hid (w9.heap[b5]? = some (cmO c (.slice ar nr cr))) := (k9.block _ (lt_of_at _ ⟨_, HNX.out⟩) (by simp; omega)).trans HNX.out
      have HK9 : Hid (Keep [p] w w9) := HKX.out.trans k9 (fun x hx => .inl hx)
      have HR9 : Hid (RowT w9 ar nr (Cm.keys c)) := HRX.out.keepF (fun x hx hxp => by
        obtain ⟨cs, fz, hc⟩ := HRX.out.kind x hx
        simp only [List.mem_singleton] at hxp
        rw [hxp, HQX.out.blk] at hc
        simp at hc) k9
      have HO9 : Hid (∀ g, v'.ownBlock = some g → v.ownBlock = some g ∨ w.heap.size ≤ g) := fun g hg => by
        rcases o9 g hg with h | h
        · exact HO1.out g h
        · exact .inr (Nat.le_trans (Nat.le_of_lt HSX.out) h)
      have HTh := there_held q9
      clear q9 k9 o9 hc HQX HTX HNX HKX HRX
      repeat (fail_if_success (refine store_stepP cmZ none 0 0 rfl _ _ rfl p rfl rfl HTh ?_)); go_step
      refine store_stepP cmZ none 0 0 rfl _ _ rfl p rfl rfl HTh ?_
      have QY := HQ9.out.setCm cmZ (.slice none 0 0)
      have KY : Keep [p] w9 (w9.setCells p 4 (cmL cmZ (.slice none 0 0))) := (Keep.refl _ _).setCells (.inl (by simp)) _ _
      have TY := (KY.block _ (lt_of_at _ ⟨_, HT9.out⟩) (by simp; omega)).trans HT9.out
      have NY := (KY.block _ (lt_of_at _ ⟨_, HN9.out⟩) (by simp; omega)).trans HN9.out
      have RY := HR9.out.keepF (F := [p]) (fun x hx hxp => by
        obtain ⟨cs, fz, hc⟩ := HR9.out.kind x hx
        simp only [List.mem_singleton] at hxp
        rw [hxp, HQ9.out.blk] at hc
        simp at hc) KY
      have KW := HK9.out.trans KY (fun x hx => .inl hx)
      clear HTh HQ9 HT9 HN9 HK9 HR9 KY
      generalize w9.setCells p 4 (cmL cmZ (.slice none 0 0)) = Y at *
      have z16 : Y.cell? ⟨p, 16, none⟩ = some (.int .i64 (L : Int)) := QY.cellR 14 rfl
      have z17 : Y.cell? ⟨p, 17, none⟩ = some (.int .i64 (g : Int)) := QY.cellR 15 rfl
      have y16 : Y.frozen? ⟨p, 16, none⟩ = false := QY.blk.frozen 16
      have y17 : Y.frozen? ⟨p, 17, none⟩ = false := QY.blk.frozen 17
      have HQZ : Hid (QAt ((Y.setCell ⟨p, 16, none⟩ (.int .i64 0)).setCell ⟨p, 17, none⟩ (.int .i64 0)) p v' beg' (pR seen over cmZ (.slice none 0 0) 0 0) 51 (F1.drop lk) N) := (QY.setR 14 (.int .i64 0)).setR 15 (.int .i64 0)
      have KZ : Keep [p] Y ((Y.setCell ⟨p, 16, none⟩ (.int .i64 0)).setCell ⟨p, 17, none⟩ (.int .i64 0)) := ((Keep.refl _ _).setCell (.inl (by simp)) _).setCell (.inl (by simp)) _
      have HTZ : Hid (((Y.setCell ⟨p, 16, none⟩ (.int .i64 0)).setCell ⟨p, 17, none⟩ (.int .i64 0)).heap[w.heap.size]? = some (cmO cmZ (.slice none 0 0))) := (KZ.block _ (lt_of_at _ ⟨_, TY⟩) (by simp; omega)).trans TY
      have HKZ2 := hide (KW.trans KZ (fun x hx => .inl hx))
      have HRZ : Hid (RowT ((Y.setCell ⟨p, 16, none⟩ (.int .i64 0)).setCell ⟨p, 17, none⟩ (.int .i64 0)) ar nr (Cm.keys c)) := RY.keepF (F := [p]) (fun x hx hxp => by
        obtain ⟨cs, fz, hc⟩ := RY.kind x hx
        simp only [List.mem_singleton] at hxp
        rw [hxp, QY.blk] at hc
        simp at hc) KZ
      obtain ⟨p0, p1, p2, p3, p4, p5, p6, p7, p8, p9, p10, p11⟩ := CmAt.of NY
      obtain ⟨q0, q1, q2, q3, q4, q5, q6, q7, q8, q9, q10, q11⟩ := CmAt.of TY
      obtain ⟨j0, j1, j2, j3, j4, j5, j6, j7, j8, j9, j10, j11⟩ := CmFz.of TY
      clear QY KZ TY NY RY KW
      go_wp2
      rw [set12]
      generalize (Y.setCell ⟨p, 16, none⟩ (.int .i64 0)).setCell ⟨p, 17, none⟩ (.int .i64 0) = Z9 at *
      have HH := heap_cm HTZ.out c (.slice ar nr cr)
      have HKK := keep_cm Z9 w.heap.size c (.slice ar nr cr)
      have HQF := QAt.far HQZ.out HKK (fun k hk => by simp only [List.mem_singleton] at hk; subst hk; exact ⟨by omega, cm_no5 HTZ.out⟩)
      have HRF := keep_row HRZ.out HTZ.out c (.slice ar nr cr)
      exact ret_cm2 rfl w.heap.size c (.slice ar nr cr) rfl HH rfl ⟨ar, nr, cr, v', beg', _, rfl, HRF, rfl, (by have h9 := HLKE.out; rw [h9] at HQF; exact HQF), HKZ2.out.trans HKK (fun x hx => .inr (by simp only [List.mem_singleton] at hx; omega)), HO9.out⟩
end Go.Proofs.Ytmfjaehajdephab
