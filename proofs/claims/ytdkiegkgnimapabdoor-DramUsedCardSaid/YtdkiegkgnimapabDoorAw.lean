/- 'awake' answers true and turns nothing that was there. -/
import Derived.Test.YtdkiegkgnimapabDoorAw0
import Derived.BigRegion
set_option linter.unusedVariables false
set_option linter.unusedSimpArgs false
set_option maxRecDepth 8000
namespace Go.Proofs.YtdkiegkgnimapabDoor
open Go.RowKit Go.Deep Drm Go.Shelf
open Tbl (txt)
open Slb (size_of)
theorem enter19 (args : Array Value) (w : World) : (callFunc 7 args).run Tryd.prog w = .ok (.enter 7 args) w := enters_of Tryd.func7 (by kernel_rfl) rfl args w
theorem enter15 (args : Array Value) (w : World) : (callFunc 11 args).run Tryd.prog w = .ok (.enter 11 args) w := enters_of Tryd.func11 (by kernel_rfl) rfl args w
theorem enter13 (args : Array Value) (w : World) : (callFunc 14 args).run Tryd.prog w = .ok (.enter 14 args) w := enters_of Tryd.func14 (by kernel_rfl) rfl args w
def AwC (A W : World) : Prop := Below A.heap.size A W
theorem AwC.on {A W W' : World} (h : AwC A W) (b : Below W.heap.size W W') : AwC A W' := Below.trans h (b.mono (Below.size h))

/-- The i-th of a row of outs. -/
theorem gr_at {B n vc : Nat} {va : Option Addr} {xs : List Ou} {W : World} (h : GR ouK B (.slice va n vc) xs W) {i : Nat} {o : Ou} (hx : xs[i]? = some o) : ∃ g, va = some ⟨g, 0, none⟩ ∧ W.cell? ⟨g, i * 6 + 0, none⟩ = some (.string (txt o.x.k)) ∧ W.cell? ⟨g, i * 6 + 1, none⟩ = some (.string (txt o.x.v)) ∧ W.cell? ⟨g, i * 6 + 2, none⟩ = some (.int .u32 o.x.fl) ∧ W.cell? ⟨g, i * 6 + 3, none⟩ = some (.int .i64 o.x.ex) ∧ W.cell? ⟨g, i * 6 + 4, none⟩ = some (.int .u64 o.x.ve) ∧ W.cell? ⟨g, i * 6 + 5, none⟩ = some (.bool o.c) := by
  have key : ∀ (r : Nat) (u : Value), (ouK.enc o)[r]? = some u → ∃ g, va = some ⟨g, 0, none⟩ ∧ W.cell? ⟨g, i * 6 + r, none⟩ = some u := fun r u hu => by
    obtain ⟨g, c, hv, hc, -⟩ := h.cell hx hu
    simp only [Value.slice.injEq] at hv
    exact ⟨g, hv.1, hc⟩
  obtain ⟨g, hg, c0⟩ := key 0 _ rfl
  refine ⟨g, hg, c0, ?_, ?_, ?_, ?_, ?_⟩
  · obtain ⟨g', hg', c1⟩ := key 1 _ rfl
    rw [hg] at hg'; cases hg'; exact c1
  · obtain ⟨g', hg', c1⟩ := key 2 _ rfl
    rw [hg] at hg'; cases hg'; exact c1
  · obtain ⟨g', hg', c1⟩ := key 3 _ rfl
    rw [hg] at hg'; cases hg'; exact c1
  · obtain ⟨g', hg', c1⟩ := key 4 _ rfl
    rw [hg] at hg'; cases hg'; exact c1
  · obtain ⟨g', hg', c1⟩ := key 5 _ rfl
    rw [hg] at hg'; cases hg'; exact c1
/-- Put as a law calls it: of a great one. -/
theorem put_big {w0 W : World} {c : Nat} {d : Dm} (h : DL w0 c d W) (k : List UInt8) (h1 : 1 ≤ k.length) (h2 : k.length ≤ 250) (b : Bool) (kb zb : ByteArray) (hk : kb = txt k) (hz : zb = txt bigV) :
    Calls Tryd.prog 6 #[.pointer (some ⟨c, 0, none⟩), .agg #[.string kb, .string zb, .int .u32 0, .int .i64 0, .int .u64 1], .bool b] W fun e W' => ∃ va n vc, e = .returned (.tuple #[.slice va n vc, .int .i64 0]) ∧ n = (putG 5 ⟨bigI k, b⟩ d).length ∧ DL w0 c (putD 5 ⟨bigI k, b⟩ d) W' ∧ GR ouK W.heap.size (.slice va n vc) (putG 5 ⟨bigI k, b⟩ d) W' ∧ OffD W W' := by
  subst hk hz
  refine Calls.mono (put_ok h ⟨bigI k, b⟩ (bigI_ok h1 h2)) ?_
  rintro e W' ⟨va, n, vc, rfl, h3, h4, h5, h6⟩
  simp only [kls_big h1 h2] at h3 h4 h5
  exact ⟨va, n, vc, rfl, h3, h4, h5, h6⟩
theorem big_at (k : ByteArray) (zb : ByteArray) (hz : zb = txt bigV) (w : World) : Calls Tryd.prog 7 #[.string k] w fun e w' => e = .returned (.agg #[.string k, .string zb, .int .u32 0, .int .i64 0, .int .u64 1]) ∧ Below w.heap.size w w' := by
  subst hz
  exact big_any k w
theorem eq_same (k zb : ByteArray) (W : World) : (binOp .eql 33 (.agg #[.string k, .string zb, .int .u32 0, .int .i64 0, .int .u64 1]) (.agg #[.string k, .string zb, .int .u32 0, .int .i64 0, .int .u64 1])).run Tryd.prog W = .ok (.bool true) W := by
  have := run_eql_it ⟨k.data.toList, zb.data.toList, 0, 0, 1⟩ ⟨k.data.toList, zb.data.toList, 0, 0, 1⟩ W
  rw [eqI_refl] at this
  unfold itV at this
  simp only [txt_of] at this
  exact this
set_option maxHeartbeats 8000000 in
theorem awake_any (w : World) (ht : Slb.Tab w) : Calls Tryd.prog 4 #[] w fun e w' => e = .returned (.bool true) ∧ Below w.heap.size w w' := by
  obtain ⟨zb, hzb⟩ : ∃ zb, zb = txt bigV := ⟨_, rfl⟩
  have HZ := hide hzb
  have cB : Hid (∀ k W, Calls Tryd.prog 7 #[.string k] W fun e w' => e = .returned (.agg #[.string k, .string zb, .int .u32 0, .int .i64 0, .int .u64 1]) ∧ Below W.heap.size W w') := fun k W => big_at k zb hzb W
  have cN := hide (new_d (Below.refl w.heap.size w) ht 1 (by decide) (by decide))
  clear hzb ht
  go_enter Tryd.func4, Tryd.ntmps4
  go_wp2_with fail
  refine cN.out.mono ?_
  rintro e W1 ⟨c, rfl, h1, -, -⟩
  have H1 := hide h1
  clear cN h1
  go_wp2_with fail
  refine (cB.out _ _).mono ?_
  rintro e W2 ⟨rfl, b2⟩
  have cA := hide (put_big (H1.out.on b2) [97] (by decide) (by decide) false ⟨#[97]⟩ zb rfl HZ.out)
  clear b2 H1
  go_wp2_with fail
  refine cA.out.mono ?_
  rintro e W3 ⟨va, n, vc, rfl, hn, h3, -, -⟩
  obtain rfl : n = 0 := hn
  have H3 : Hid (DL w c d1 W3) := h3
  clear cA h3
  go_wp2_with fail
  refine (cB.out _ _).mono ?_
  rintro e W4 ⟨rfl, b4⟩
  have cA := hide (put_big (H3.out.on b4) [98] (by decide) (by decide) true ⟨#[98]⟩ zb rfl HZ.out)
  clear b4 H3
  go_wp2_with fail
  refine cA.out.mono ?_
  rintro e W5 ⟨va2, n2, vc2, rfl, hn, h5, -, -⟩
  obtain rfl : n2 = 0 := hn
  have H5 : Hid (DL w c d2 W5) := h5
  clear cA h5
  go_wp2_with fail
  refine (cB.out _ _).mono ?_
  rintro e W6 ⟨rfl, b6⟩
  have cA := hide (put_big (H5.out.on b6) [99] (by decide) (by decide) false ⟨#[99]⟩ zb rfl HZ.out)
  clear b6 H5
  go_wp2_with fail
  refine cA.out.mono ?_
  rintro e W7 ⟨va3, n3, vc3, rfl, hn, h7, r7, -⟩
  obtain rfl : n3 = 1 := hn
  have H7 : Hid (DL w c d3 W7) := h7
  have R7 : Hid (GR ouK W6.heap.size (.slice va3 1 vc3) [oA] W7) := r7
  clear cA h7 r7
  have cG := hide (get_some H7.out (key := [98]) (by decide) 5 f3 l3)
  rw [show deadB oB.x.ex 5 = false from rfl] at cG
  simp only [Bool.false_eq_true, if_false, Bool.not_false] at cG
  unfold itV at cG
  rw [show oB.x.v = bigV from rfl, ← HZ.out, show txt oB.x.k = ⟨#[98]⟩ from rfl, show txt [98] = ⟨#[98]⟩ from rfl, show oB.x.fl = 0 from rfl, show oB.x.ex = 0 from rfl, show oB.x.ve = 1 from rfl] at cG
  clear H7
  go_wp2_with fail
  refine cG.out.mono ?_
  rintro e W8 ⟨rfl, h8, o8⟩
  have R8 := hide (R7.out.offD o8 rfl)
  obtain ⟨X8, hX8⟩ : ∃ X, X = W8.alloc (.cells #[.string ⟨#[98]⟩, .string zb, .int .u32 0, .int .i64 0, .int .u64 1] 33) := ⟨_, rfl⟩
  have b8 : Below W8.heap.size W8 X8 := by rw [hX8]; exact (Below.refl _ W8).alloc (Nat.le_refl _) _
  obtain ⟨B9, hB9⟩ : ∃ B, B = W8.heap.size := ⟨_, rfl⟩
  have k8 : Blk X8 B9 (L5 ⟨#[98]⟩ zb 0 0 1) 33 := by rw [hX8, hB9]; exact Blk.new W8 _ 33
  have H8 : Hid (DL w c d4 X8) := h8.on b8
  have R9 := hide (R8.out.below b8)
  have K8 := hide k8
  have cP := hide (peek_some H8.out (key := [98]) (by decide) (show kfd [98] d4.it = some 1 from f3) (show lok 1 d4.it = some oB from l3))
  unfold ouV at cP
  rw [show oB.x.v = bigV from rfl, ← HZ.out, show txt oB.x.k = ⟨#[98]⟩ from rfl, show txt [98] = ⟨#[98]⟩ from rfl, show oB.x.fl = 0 from rfl, show oB.x.ex = 0 from rfl, show oB.x.ve = 1 from rfl, show oB.c = true from rfl] at cP
  rw [hX8] at cP
  have HX8 := hide hX8
  have HB9 := hide hB9
  clear cG h8 o8 b8 k8 R7 R8 hX8 hB9
  go_wp2_with fail
  refine cP.out.mono ?_
  rintro e W9 ⟨rfl, h9, o9⟩
  rw [← HX8.out] at o9
  rw [← HB9.out]
  obtain ⟨X9, hX9⟩ : ∃ X, X = W9.alloc (.cells #[.string ⟨#[98]⟩, .string zb, .int .u32 0, .int .i64 0, .int .u64 1, .bool true] 40) := ⟨_, rfl⟩
  have b9 : Below W9.heap.size W9 X9 := by rw [hX9]; exact (Below.refl _ W9).alloc (Nat.le_refl _) _
  obtain ⟨BB, hBB⟩ : ∃ B, B = W9.heap.size := ⟨_, rfl⟩
  have k9 : Blk X9 BB (L6 ⟨#[98]⟩ zb 0 0 1 true) 40 := by rw [hX9, hBB]; exact Blk.new W9 _ 40
  have H9 := hide (h9.on b9)
  have RA := hide ((R9.out.offD o9 rfl).below b9)
  have KA := hide ((K8.out.offD o9 rfl).same (b9.block _ (K8.out.offD o9 rfl).lt))
  have KB := hide k9
  have cI := hide (items_d H9.out)
  rw [hX9] at cI
  have HX9 := hide hX9
  have HBB := hide hBB
  clear cP h9 o9 b9 k9 R9 K8 hX9 hBB HX8 HB9
  go_wp2_with fail
  refine cI.out.mono ?_
  rintro e W10 ⟨ia, ic, rfl, -, h10, b10⟩
  rw [← HX9.out] at b10
  rw [← HBB.out, n4]
  have H10 := hide h10
  have RC := hide (RA.out.below b10)
  have KC := hide (KA.out.same (b10.block _ KA.out.lt))
  have KD := hide (KB.out.same (b10.block _ KB.out.lt))
  have cL := hide (len_d H10.out)
  rw [n4'] at cL
  clear cI h10 b10 RA KA KB H9 HX9 HBB
  go_wp2_with fail
  refine cL.out.mono ?_
  rintro e wx ⟨rfl, hx⟩
  obtain rfl : W10 = wx := hx.symm
  clear hx cL
  have cD := hide (delete_d H10.out (key := [98]) (by decide))
  rw [show kfd [98] d4.it = some 1 from f3, show txt [98] = ⟨#[98]⟩ from rfl] at cD
  simp only [Option.isSome_some] at cD
  clear H10
  go_wp2_with fail
  refine cD.out.mono ?_
  rintro e W11 ⟨rfl, h11, o11⟩
  have R11 := hide (RC.out.offD o11 rfl)
  have K11 := hide (KC.out.offD o11 rfl)
  have L11 := hide (KD.out.offD o11 rfl)
  have cC := hide (clear_d h11)
  clear cD h11 o11 RC KC KD
  go_wp2_with fail
  refine cC.out.mono ?_
  rintro e W12 ⟨rfl, l, -, hl2, h12, o12⟩
  have hz : (dropAll l (delD [98] d4)).it.length = 0 := by rw [dropAll_it l _ (fun x hx => (hl2 x).2 hx)]; rfl
  have H12 := hide h12
  have R12 := R11.out.offD o12 rfl
  have K12 := K11.out.offD o12 rfl
  have L12 := L11.out.offD o12 rfl
  obtain ⟨gg, rfl, q0, q1, q2, q3, q4, q5⟩ := gr_at R12 (i := 0) rfl
  rw [show txt oA.x.k = ⟨#[97]⟩ from rfl] at q0
  rw [show oA.x.v = bigV from rfl, ← HZ.out] at q1
  rw [show oA.x.fl = 0 from rfl] at q2
  rw [show oA.x.ex = 0 from rfl] at q3
  rw [show oA.x.ve = 1 from rfl] at q4
  rw [show oA.c = false from rfl] at q5
  simp only [Nat.zero_mul, Nat.zero_add] at q0 q1 q2 q3 q4 q5
  have HQ5 := block_lt_of_cell q5
  have HGG : Hid (∀ W', AwC W12 W' → W'.cell? ⟨gg, 0, none⟩ = some (.string ⟨#[97]⟩) ∧ W'.cell? ⟨gg, 1, none⟩ = some (.string zb) ∧ W'.cell? ⟨gg, 2, none⟩ = some (.int .u32 0) ∧ W'.cell? ⟨gg, 3, none⟩ = some (.int .i64 0) ∧ W'.cell? ⟨gg, 4, none⟩ = some (.int .u64 1) ∧ W'.cell? ⟨gg, 5, none⟩ = some (.bool false)) := fun W' b =>
    ⟨(Below.cell b (p := ⟨gg, 0, none⟩) HQ5).trans q0, (Below.cell b (p := ⟨gg, 1, none⟩) HQ5).trans q1, (Below.cell b (p := ⟨gg, 2, none⟩) HQ5).trans q2, (Below.cell b (p := ⟨gg, 3, none⟩) HQ5).trans q3, (Below.cell b (p := ⟨gg, 4, none⟩) HQ5).trans q4, (Below.cell b (p := ⟨gg, 5, none⟩) HQ5).trans q5⟩
  have HK9 : Hid (∀ W', AwC W12 W' → Blk W' B9 (L5 ⟨#[98]⟩ zb 0 0 1) 33) := fun W' b => K12.same (Below.block b _ K12.lt)
  have HKB : Hid (∀ W', AwC W12 W' → Blk W' BB (L6 ⟨#[98]⟩ zb 0 0 1 true) 40) := fun W' b => L12.same (Below.block b _ L12.lt)
  have cL : Hid (∀ W', AwC W12 W' → Calls Tryd.prog 11 #[.pointer (some ⟨c, 0, none⟩)] W' fun e W2 => e = .returned (.int .i64 0) ∧ W2 = W') := fun W' b => by
    have := len_d (H12.out.on b)
    rw [hz] at this
    exact this
  have cD : Hid (∀ now W, Calls Tryd.prog 14 #[.pointer (some ⟨c, 0, none⟩), .agg #[.string ⟨#[]⟩, .string ⟨#[]⟩, .int .u32 0, .int .i64 5, .int .u64 0], .int .i64 now] W fun r w' => r = .returned (.bool (deadB 5 now)) ∧ Below W.heap.size W w') := fun now W => dead_any (some ⟨c, 0, none⟩) ⟨#[]⟩ ⟨#[]⟩ 0 5 0 now W
  have c5 := hide (cD.out 5)
  have c4 := hide (cD.out 4)
  rw [show deadB 5 5 = true from rfl] at c5
  rw [show deadB 5 4 = false from rfl] at c4
  have hq1 := eq_same ⟨#[97]⟩ zb
  have hq2 := eq_same ⟨#[98]⟩ zb
  have HA : Hid (AwC W12 { W12 with drawn := W12.drawn + 1 }) := (⟨rfl, rfl, rfl, Nat.le_refl _, fun _ _ => rfl⟩ : Below W12.heap.size W12 { W12 with drawn := W12.drawn + 1 })
  have HBW := hide H12.out.bel
  clear cC o12 R12 K12 L12 h12 hl2 R11 K11 L11 q0 q1 q2 q3 q4 q5 HQ5 H12 cD hz
  go_wp2_with fail
  simp only [List.append_eq, List.cons_append, List.nil_append]
  refine wp_region_guard (by kernel_rfl) (by kernel_rfl) (fun jx => ([.int .i64 0, .bool true, .bool true, .slice va 0 vc, .int .i64 0, .bool true, .bool true, .bool true, .int .i64 0, .bool true, .bool true, .bool true, .slice va2 0 vc2, .int .i64 0, .bool true, .bool true, .bool true, .int .i64 0, .bool true, .bool true, .bool true, .slice (some ⟨gg, 0, none⟩) 1 vc3, .int .i64 1, .bool true, .bool true, .bool true, .slice (some ⟨gg, 0, none⟩) 1 vc3, .pointer (some ⟨gg, 0, none⟩), .pointer (some ⟨gg, 0, none⟩), .agg #[.string ⟨#[97]⟩, .string zb, .int .u32 0, .int .i64 0, .int .u64 1], .agg #[.string ⟨#[97]⟩, .string zb, .int .u32 0, .int .i64 0, .int .u64 1], .bool true, .bool true, .bool true, .slice (some ⟨gg, 0, none⟩) 1 vc3, .pointer (some ⟨gg, 0, none⟩), .pointer (some ⟨gg, 5, none⟩), .bool false, .bool true, .bool true, .bool true, .bool true] ++ [.bool true, .bool true, .agg #[.string ⟨#[98]⟩, .string zb, .int .u32 0, .int .i64 0, .int .u64 1], .agg #[.string ⟨#[98]⟩, .string zb, .int .u32 0, .int .i64 0, .int .u64 1], .bool true, .bool true, .bool true, .bool true, .bool true, .bool true, .pointer (some ⟨BB, 5, none⟩), .bool true, .bool true, .bool true, .slice ia 2 ic, .int .i64 2, .bool true, .bool true, .bool true, .int .i64 2, .bool true, .bool true, .bool true, .bool true, .bool true, .bool true, .pointer (some ⟨c, 0, none⟩), .int .i64 0, .bool true, .bool true, .bool true, .pointer (some ⟨c, 0, none⟩), .agg #[.string ⟨#[]⟩, .string ⟨#[]⟩, .int .u32 0, .int .i64 5, .int .u64 0], .bool true, .bool true, .bool true, .pointer (some ⟨c, 0, none⟩), .agg #[.string ⟨#[]⟩, .string ⟨#[]⟩, .int .u32 0, .int .i64 5, .int .u64 0], .bool false, .bool true, .bool true, .bool true] : List Value).getD jx undef) (AwC W12) (size_of (n := 145) (by kernel_rfl) rfl) (HA.out) ?_ ?_
  · intro jx ox hi w' ev hc hin hout hcst hfn
    have hltx : jx < 84 := by
      have := (Array.getElem?_eq_some_iff.1 hi).1
      simpa using this
    match jx, hltx with
    | 0, _ =>
      simp only [List.getElem?_toArray, List.getElem?_cons_zero, List.getElem?_cons_succ, Option.some.injEq] at hi
      subst hi
      rw [if_pos (by first | rfl | simp [wantV])]
      have e0 : ev (.tmp 4) = .int .i64 0 := hout 4 (by kernel_rfl) (show (4 : Nat) < 145 by decide)
      refine .inl ⟨w', ?_, hc⟩
      show _ = Result.ok (Next.value (.int .i64 0)) w'
      simp [execOp, e0, hcst, go_sem]
    | 1, _ =>
      simp only [List.getElem?_toArray, List.getElem?_cons_zero, List.getElem?_cons_succ, Option.some.injEq] at hi
      subst hi
      rw [if_pos (by first | rfl | simp [wantV])]
      have e0 : ev (.tmp 62) = .int .i64 0 := hin 62 0 ⟨0, .data⟩ (by kernel_rfl) (by simp) rfl rfl (show (62 : Nat) < 145 by decide)
      refine .inl ⟨w', ?_, hc⟩
      show _ = Result.ok (Next.value (.bool true)) w'
      simp [execOp, e0, hcst, go_sem]
    | 2, _ =>
      simp only [List.getElem?_toArray, List.getElem?_cons_zero, List.getElem?_cons_succ, Option.some.injEq] at hi
      subst hi
      rw [if_pos (by first | rfl | simp [wantV])]
      have e0 : ev (.tmp 63) = .bool true := hin 63 1 ⟨1, .data⟩ (by kernel_rfl) (by simp) rfl rfl (show (63 : Nat) < 145 by decide)
      refine .inl ⟨w', ?_, hc⟩
      show _ = Result.ok (Next.value (.bool true)) w'
      simp [execOp, e0, hcst, go_sem]
    | 3, _ =>
      simp only [List.getElem?_toArray, List.getElem?_cons_zero, List.getElem?_cons_succ, Option.some.injEq] at hi
      subst hi
      rw [if_pos (by first | rfl | simp [wantV])]
      have e0 : ev (.tmp 3) = .slice va 0 vc := hout 3 (by kernel_rfl) (show (3 : Nat) < 145 by decide)
      refine .inl ⟨w', ?_, hc⟩
      show _ = Result.ok (Next.value (.slice va 0 vc)) w'
      simp [execOp, e0, hcst, go_sem]
    | 4, _ =>
      simp only [List.getElem?_toArray, List.getElem?_cons_zero, List.getElem?_cons_succ, Option.some.injEq] at hi
      subst hi
      rw [if_pos (by first | rfl | simp [wantV])]
      have e0 : ev (.tmp 65) = .slice va 0 vc := hin 65 3 ⟨3, .data⟩ (by kernel_rfl) (by simp) rfl rfl (show (65 : Nat) < 145 by decide)
      refine .inl ⟨w', ?_, hc⟩
      show _ = Result.ok (Next.value (.int .i64 0)) w'
      simp [execOp, e0, hcst, go_sem]
    | 5, _ =>
      simp only [List.getElem?_toArray, List.getElem?_cons_zero, List.getElem?_cons_succ, Option.some.injEq] at hi
      subst hi
      rw [if_pos (by first | rfl | simp [wantV])]
      have e0 : ev (.tmp 66) = .int .i64 0 := hin 66 4 ⟨4, .data⟩ (by kernel_rfl) (by simp) rfl rfl (show (66 : Nat) < 145 by decide)
      refine .inl ⟨w', ?_, hc⟩
      show _ = Result.ok (Next.value (.bool true)) w'
      simp [execOp, e0, hcst, go_sem]
    | 6, _ =>
      simp only [List.getElem?_toArray, List.getElem?_cons_zero, List.getElem?_cons_succ, Option.some.injEq] at hi
      subst hi
      rw [if_pos (by first | rfl | simp [wantV])]
      have e0 : ev (.tmp 64) = .bool true := hin 64 2 ⟨2, .data⟩ (by kernel_rfl) (by simp) rfl rfl (show (64 : Nat) < 145 by decide)
      have e1 : ev (.tmp 67) = .bool true := hin 67 5 ⟨5, .data⟩ (by kernel_rfl) (by simp) rfl rfl (show (67 : Nat) < 145 by decide)
      refine .inl ⟨w', ?_, hc⟩
      show _ = Result.ok (Next.value (.bool true)) w'
      simp [execOp, e0, e1, hcst, go_sem]
    | 7, _ =>
      simp only [List.getElem?_toArray, List.getElem?_cons_zero, List.getElem?_cons_succ, Option.some.injEq] at hi
      subst hi
      rw [if_pos (by first | rfl | simp [wantV])]
      have e0 : ev (.tmp 68) = .bool true := hin 68 6 ⟨6, .data⟩ (by kernel_rfl) (by simp) rfl rfl (show (68 : Nat) < 145 by decide)
      refine .inl ⟨w', ?_, hc⟩
      show _ = Result.ok (Next.value (.bool true)) w'
      simp [execOp, e0, hcst, go_sem]
    | 8, _ =>
      simp only [List.getElem?_toArray, List.getElem?_cons_zero, List.getElem?_cons_succ, Option.some.injEq] at hi
      subst hi
      rw [if_pos (by first | rfl | simp [wantV])]
      have e0 : ev (.tmp 6) = .int .i64 0 := hout 6 (by kernel_rfl) (show (6 : Nat) < 145 by decide)
      refine .inl ⟨w', ?_, hc⟩
      show _ = Result.ok (Next.value (.int .i64 0)) w'
      simp [execOp, e0, hcst, go_sem]
    | 9, _ =>
      simp only [List.getElem?_toArray, List.getElem?_cons_zero, List.getElem?_cons_succ, Option.some.injEq] at hi
      subst hi
      rw [if_pos (by first | rfl | simp [wantV])]
      have e0 : ev (.tmp 70) = .int .i64 0 := hin 70 8 ⟨8, .data⟩ (by kernel_rfl) (by simp) rfl rfl (show (70 : Nat) < 145 by decide)
      refine .inl ⟨w', ?_, hc⟩
      show _ = Result.ok (Next.value (.bool true)) w'
      simp [execOp, e0, hcst, go_sem]
    | 10, _ =>
      simp only [List.getElem?_toArray, List.getElem?_cons_zero, List.getElem?_cons_succ, Option.some.injEq] at hi
      subst hi
      rw [if_pos (by first | rfl | simp [wantV])]
      have e0 : ev (.tmp 69) = .bool true := hin 69 7 ⟨7, .data⟩ (by kernel_rfl) (by simp) rfl rfl (show (69 : Nat) < 145 by decide)
      have e1 : ev (.tmp 71) = .bool true := hin 71 9 ⟨9, .data⟩ (by kernel_rfl) (by simp) rfl rfl (show (71 : Nat) < 145 by decide)
      refine .inl ⟨w', ?_, hc⟩
      show _ = Result.ok (Next.value (.bool true)) w'
      simp [execOp, e0, e1, hcst, go_sem]
    | 11, _ =>
      simp only [List.getElem?_toArray, List.getElem?_cons_zero, List.getElem?_cons_succ, Option.some.injEq] at hi
      subst hi
      rw [if_pos (by first | rfl | simp [wantV])]
      have e0 : ev (.tmp 72) = .bool true := hin 72 10 ⟨10, .data⟩ (by kernel_rfl) (by simp) rfl rfl (show (72 : Nat) < 145 by decide)
      refine .inl ⟨w', ?_, hc⟩
      show _ = Result.ok (Next.value (.bool true)) w'
      simp [execOp, e0, hcst, go_sem]
    | 12, _ =>
      simp only [List.getElem?_toArray, List.getElem?_cons_zero, List.getElem?_cons_succ, Option.some.injEq] at hi
      subst hi
      rw [if_pos (by first | rfl | simp [wantV])]
      have e0 : ev (.tmp 5) = .slice va2 0 vc2 := hout 5 (by kernel_rfl) (show (5 : Nat) < 145 by decide)
      refine .inl ⟨w', ?_, hc⟩
      show _ = Result.ok (Next.value (.slice va2 0 vc2)) w'
      simp [execOp, e0, hcst, go_sem]
    | 13, _ =>
      simp only [List.getElem?_toArray, List.getElem?_cons_zero, List.getElem?_cons_succ, Option.some.injEq] at hi
      subst hi
      rw [if_pos (by first | rfl | simp [wantV])]
      have e0 : ev (.tmp 74) = .slice va2 0 vc2 := hin 74 12 ⟨12, .data⟩ (by kernel_rfl) (by simp) rfl rfl (show (74 : Nat) < 145 by decide)
      refine .inl ⟨w', ?_, hc⟩
      show _ = Result.ok (Next.value (.int .i64 0)) w'
      simp [execOp, e0, hcst, go_sem]
    | 14, _ =>
      simp only [List.getElem?_toArray, List.getElem?_cons_zero, List.getElem?_cons_succ, Option.some.injEq] at hi
      subst hi
      rw [if_pos (by first | rfl | simp [wantV])]
      have e0 : ev (.tmp 75) = .int .i64 0 := hin 75 13 ⟨13, .data⟩ (by kernel_rfl) (by simp) rfl rfl (show (75 : Nat) < 145 by decide)
      refine .inl ⟨w', ?_, hc⟩
      show _ = Result.ok (Next.value (.bool true)) w'
      simp [execOp, e0, hcst, go_sem]
    | 15, _ =>
      simp only [List.getElem?_toArray, List.getElem?_cons_zero, List.getElem?_cons_succ, Option.some.injEq] at hi
      subst hi
      rw [if_pos (by first | rfl | simp [wantV])]
      have e0 : ev (.tmp 73) = .bool true := hin 73 11 ⟨11, .data⟩ (by kernel_rfl) (by simp) rfl rfl (show (73 : Nat) < 145 by decide)
      have e1 : ev (.tmp 76) = .bool true := hin 76 14 ⟨14, .data⟩ (by kernel_rfl) (by simp) rfl rfl (show (76 : Nat) < 145 by decide)
      refine .inl ⟨w', ?_, hc⟩
      show _ = Result.ok (Next.value (.bool true)) w'
      simp [execOp, e0, e1, hcst, go_sem]
    | 16, _ =>
      simp only [List.getElem?_toArray, List.getElem?_cons_zero, List.getElem?_cons_succ, Option.some.injEq] at hi
      subst hi
      rw [if_pos (by first | rfl | simp [wantV])]
      have e0 : ev (.tmp 77) = .bool true := hin 77 15 ⟨15, .data⟩ (by kernel_rfl) (by simp) rfl rfl (show (77 : Nat) < 145 by decide)
      refine .inl ⟨w', ?_, hc⟩
      show _ = Result.ok (Next.value (.bool true)) w'
      simp [execOp, e0, hcst, go_sem]
    | 17, _ =>
      simp only [List.getElem?_toArray, List.getElem?_cons_zero, List.getElem?_cons_succ, Option.some.injEq] at hi
      subst hi
      rw [if_pos (by first | rfl | simp [wantV])]
      have e0 : ev (.tmp 8) = .int .i64 0 := hout 8 (by kernel_rfl) (show (8 : Nat) < 145 by decide)
      refine .inl ⟨w', ?_, hc⟩
      show _ = Result.ok (Next.value (.int .i64 0)) w'
      simp [execOp, e0, hcst, go_sem]
    | 18, _ =>
      simp only [List.getElem?_toArray, List.getElem?_cons_zero, List.getElem?_cons_succ, Option.some.injEq] at hi
      subst hi
      rw [if_pos (by first | rfl | simp [wantV])]
      have e0 : ev (.tmp 79) = .int .i64 0 := hin 79 17 ⟨17, .data⟩ (by kernel_rfl) (by simp) rfl rfl (show (79 : Nat) < 145 by decide)
      refine .inl ⟨w', ?_, hc⟩
      show _ = Result.ok (Next.value (.bool true)) w'
      simp [execOp, e0, hcst, go_sem]
    | 19, _ =>
      simp only [List.getElem?_toArray, List.getElem?_cons_zero, List.getElem?_cons_succ, Option.some.injEq] at hi
      subst hi
      rw [if_pos (by first | rfl | simp [wantV])]
      have e0 : ev (.tmp 78) = .bool true := hin 78 16 ⟨16, .data⟩ (by kernel_rfl) (by simp) rfl rfl (show (78 : Nat) < 145 by decide)
      have e1 : ev (.tmp 80) = .bool true := hin 80 18 ⟨18, .data⟩ (by kernel_rfl) (by simp) rfl rfl (show (80 : Nat) < 145 by decide)
      refine .inl ⟨w', ?_, hc⟩
      show _ = Result.ok (Next.value (.bool true)) w'
      simp [execOp, e0, e1, hcst, go_sem]
    | 20, _ =>
      simp only [List.getElem?_toArray, List.getElem?_cons_zero, List.getElem?_cons_succ, Option.some.injEq] at hi
      subst hi
      rw [if_pos (by first | rfl | simp [wantV])]
      have e0 : ev (.tmp 81) = .bool true := hin 81 19 ⟨19, .data⟩ (by kernel_rfl) (by simp) rfl rfl (show (81 : Nat) < 145 by decide)
      refine .inl ⟨w', ?_, hc⟩
      show _ = Result.ok (Next.value (.bool true)) w'
      simp [execOp, e0, hcst, go_sem]
    | 21, _ =>
      simp only [List.getElem?_toArray, List.getElem?_cons_zero, List.getElem?_cons_succ, Option.some.injEq] at hi
      subst hi
      rw [if_pos (by first | rfl | simp [wantV])]
      have e0 : ev (.tmp 7) = .slice (some ⟨gg, 0, none⟩) 1 vc3 := hout 7 (by kernel_rfl) (show (7 : Nat) < 145 by decide)
      refine .inl ⟨w', ?_, hc⟩
      show _ = Result.ok (Next.value (.slice (some ⟨gg, 0, none⟩) 1 vc3)) w'
      simp [execOp, e0, hcst, go_sem]
    | 22, _ =>
      simp only [List.getElem?_toArray, List.getElem?_cons_zero, List.getElem?_cons_succ, Option.some.injEq] at hi
      subst hi
      rw [if_pos (by first | rfl | simp [wantV])]
      have e0 : ev (.tmp 83) = .slice (some ⟨gg, 0, none⟩) 1 vc3 := hin 83 21 ⟨21, .data⟩ (by kernel_rfl) (by simp) rfl rfl (show (83 : Nat) < 145 by decide)
      refine .inl ⟨w', ?_, hc⟩
      show _ = Result.ok (Next.value (.int .i64 1)) w'
      simp [execOp, e0, hcst, go_sem]
    | 23, _ =>
      simp only [List.getElem?_toArray, List.getElem?_cons_zero, List.getElem?_cons_succ, Option.some.injEq] at hi
      subst hi
      rw [if_pos (by first | rfl | simp [wantV])]
      have e0 : ev (.tmp 84) = .int .i64 1 := hin 84 22 ⟨22, .data⟩ (by kernel_rfl) (by simp) rfl rfl (show (84 : Nat) < 145 by decide)
      refine .inl ⟨w', ?_, hc⟩
      show _ = Result.ok (Next.value (.bool true)) w'
      simp [execOp, e0, hcst, go_sem]
    | 24, _ =>
      simp only [List.getElem?_toArray, List.getElem?_cons_zero, List.getElem?_cons_succ, Option.some.injEq] at hi
      subst hi
      rw [if_pos (by first | rfl | simp [wantV])]
      have e0 : ev (.tmp 82) = .bool true := hin 82 20 ⟨20, .data⟩ (by kernel_rfl) (by simp) rfl rfl (show (82 : Nat) < 145 by decide)
      have e1 : ev (.tmp 85) = .bool true := hin 85 23 ⟨23, .data⟩ (by kernel_rfl) (by simp) rfl rfl (show (85 : Nat) < 145 by decide)
      refine .inl ⟨w', ?_, hc⟩
      show _ = Result.ok (Next.value (.bool true)) w'
      simp [execOp, e0, e1, hcst, go_sem]
    | 25, _ =>
      simp only [List.getElem?_toArray, List.getElem?_cons_zero, List.getElem?_cons_succ, Option.some.injEq] at hi
      subst hi
      rw [if_pos (by first | rfl | simp [wantV])]
      have e0 : ev (.tmp 86) = .bool true := hin 86 24 ⟨24, .data⟩ (by kernel_rfl) (by simp) rfl rfl (show (86 : Nat) < 145 by decide)
      refine .inl ⟨w', ?_, hc⟩
      show _ = Result.ok (Next.value (.bool true)) w'
      simp [execOp, e0, hcst, go_sem]
    | 26, _ =>
      simp only [List.getElem?_toArray, List.getElem?_cons_zero, List.getElem?_cons_succ, Option.some.injEq] at hi
      subst hi
      rw [if_pos (by first | rfl | simp [wantV])]
      have e0 : ev (.tmp 7) = .slice (some ⟨gg, 0, none⟩) 1 vc3 := hout 7 (by kernel_rfl) (show (7 : Nat) < 145 by decide)
      refine .inl ⟨w', ?_, hc⟩
      show _ = Result.ok (Next.value (.slice (some ⟨gg, 0, none⟩) 1 vc3)) w'
      simp [execOp, e0, hcst, go_sem]
    | 27, _ =>
      simp only [List.getElem?_toArray, List.getElem?_cons_zero, List.getElem?_cons_succ, Option.some.injEq] at hi
      subst hi
      rw [if_pos (by first | rfl | simp [wantV])]
      have e0 : ev (.tmp 88) = .slice (some ⟨gg, 0, none⟩) 1 vc3 := hin 88 26 ⟨26, .data⟩ (by kernel_rfl) (by simp) rfl rfl (show (88 : Nat) < 145 by decide)
      refine .inl ⟨w', ?_, hc⟩
      show _ = Result.ok (Next.value (.pointer (some ⟨gg, 0, none⟩))) w'
      simp [execOp, e0, hcst, go_sem]
    | 28, _ =>
      simp only [List.getElem?_toArray, List.getElem?_cons_zero, List.getElem?_cons_succ, Option.some.injEq] at hi
      subst hi
      rw [if_pos (by first | rfl | simp [wantV])]
      have e0 : ev (.tmp 89) = .pointer (some ⟨gg, 0, none⟩) := hin 89 27 ⟨27, .data⟩ (by kernel_rfl) (by simp) rfl rfl (show (89 : Nat) < 145 by decide)
      refine .inl ⟨w', ?_, hc⟩
      show _ = Result.ok (Next.value (.pointer (some ⟨gg, 0, none⟩))) w'
      simp [execOp, e0, hcst, go_sem]
    | 29, _ =>
      simp only [List.getElem?_toArray, List.getElem?_cons_zero, List.getElem?_cons_succ, Option.some.injEq] at hi
      subst hi
      rw [if_pos (by first | rfl | simp [wantV])]
      have e0 : ev (.tmp 90) = .pointer (some ⟨gg, 0, none⟩) := hin 90 28 ⟨28, .data⟩ (by kernel_rfl) (by simp) rfl rfl (show (90 : Nat) < 145 by decide)
      refine .inl ⟨w', ?_, hc⟩
      show _ = Result.ok (Next.value (.agg #[.string ⟨#[97]⟩, .string zb, .int .u32 0, .int .i64 0, .int .u64 1])) w'
      obtain ⟨q0, q1, q2, q3, q4, q5⟩ := HGG.out w' hc
      simp [execOp, e0, hcst, go_sem, q0, q1, q2, q3, q4]
    | 30, _ =>
      simp only [List.getElem?_toArray, List.getElem?_cons_zero, List.getElem?_cons_succ, Option.some.injEq] at hi
      subst hi
      rw [if_pos (by first | rfl | simp [wantV])]
      refine .inr (.inr ⟨7, #[.string ⟨#[97]⟩], ?_, ?_⟩)
      · have ef := hfn 7
        simp [execOp, resolve, invoke, ef, hcst, Result.andThen]
        exact enter19 _ _
      · refine (cB.out _ w').mono ?_
        rintro e w9 ⟨rfl, b9⟩
        exact ⟨rfl, AwC.on hc b9⟩
    | 31, _ =>
      simp only [List.getElem?_toArray, List.getElem?_cons_zero, List.getElem?_cons_succ, Option.some.injEq] at hi
      subst hi
      rw [if_pos (by first | rfl | simp [wantV])]
      have e0 : ev (.tmp 91) = .agg #[.string ⟨#[97]⟩, .string zb, .int .u32 0, .int .i64 0, .int .u64 1] := hin 91 29 ⟨29, .data⟩ (by kernel_rfl) (by simp) rfl rfl (show (91 : Nat) < 145 by decide)
      have e1 : ev (.tmp 92) = .agg #[.string ⟨#[97]⟩, .string zb, .int .u32 0, .int .i64 0, .int .u64 1] := hin 92 30 ⟨30, .data⟩ (by kernel_rfl) (by simp) rfl rfl (show (92 : Nat) < 145 by decide)
      refine .inl ⟨w', ?_, hc⟩
      show _ = Result.ok (Next.value (.bool true)) w'
      have q := hq1 w'
      simp [execOp, e0, e1, hcst, eqGuard, q, Result.andThen, pure, Sem.run]
    | 32, _ =>
      simp only [List.getElem?_toArray, List.getElem?_cons_zero, List.getElem?_cons_succ, Option.some.injEq] at hi
      subst hi
      rw [if_pos (by first | rfl | simp [wantV])]
      have e0 : ev (.tmp 87) = .bool true := hin 87 25 ⟨25, .data⟩ (by kernel_rfl) (by simp) rfl rfl (show (87 : Nat) < 145 by decide)
      have e1 : ev (.tmp 93) = .bool true := hin 93 31 ⟨31, .data⟩ (by kernel_rfl) (by simp) rfl rfl (show (93 : Nat) < 145 by decide)
      refine .inl ⟨w', ?_, hc⟩
      show _ = Result.ok (Next.value (.bool true)) w'
      simp [execOp, e0, e1, hcst, go_sem]
    | 33, _ =>
      simp only [List.getElem?_toArray, List.getElem?_cons_zero, List.getElem?_cons_succ, Option.some.injEq] at hi
      subst hi
      rw [if_pos (by first | rfl | simp [wantV])]
      have e0 : ev (.tmp 94) = .bool true := hin 94 32 ⟨32, .data⟩ (by kernel_rfl) (by simp) rfl rfl (show (94 : Nat) < 145 by decide)
      refine .inl ⟨w', ?_, hc⟩
      show _ = Result.ok (Next.value (.bool true)) w'
      simp [execOp, e0, hcst, go_sem]
    | 34, _ =>
      simp only [List.getElem?_toArray, List.getElem?_cons_zero, List.getElem?_cons_succ, Option.some.injEq] at hi
      subst hi
      rw [if_pos (by first | rfl | simp [wantV])]
      have e0 : ev (.tmp 7) = .slice (some ⟨gg, 0, none⟩) 1 vc3 := hout 7 (by kernel_rfl) (show (7 : Nat) < 145 by decide)
      refine .inl ⟨w', ?_, hc⟩
      show _ = Result.ok (Next.value (.slice (some ⟨gg, 0, none⟩) 1 vc3)) w'
      simp [execOp, e0, hcst, go_sem]
    | 35, _ =>
      simp only [List.getElem?_toArray, List.getElem?_cons_zero, List.getElem?_cons_succ, Option.some.injEq] at hi
      subst hi
      rw [if_pos (by first | rfl | simp [wantV])]
      have e0 : ev (.tmp 96) = .slice (some ⟨gg, 0, none⟩) 1 vc3 := hin 96 34 ⟨34, .data⟩ (by kernel_rfl) (by simp) rfl rfl (show (96 : Nat) < 145 by decide)
      refine .inl ⟨w', ?_, hc⟩
      show _ = Result.ok (Next.value (.pointer (some ⟨gg, 0, none⟩))) w'
      simp [execOp, e0, hcst, go_sem]
    | 36, _ =>
      simp only [List.getElem?_toArray, List.getElem?_cons_zero, List.getElem?_cons_succ, Option.some.injEq] at hi
      subst hi
      rw [if_pos (by first | rfl | simp [wantV])]
      have e0 : ev (.tmp 97) = .pointer (some ⟨gg, 0, none⟩) := hin 97 35 ⟨35, .data⟩ (by kernel_rfl) (by simp) rfl rfl (show (97 : Nat) < 145 by decide)
      refine .inl ⟨w', ?_, hc⟩
      show _ = Result.ok (Next.value (.pointer (some ⟨gg, 5, none⟩))) w'
      simp [execOp, e0, hcst, go_sem]
    | 37, _ =>
      simp only [List.getElem?_toArray, List.getElem?_cons_zero, List.getElem?_cons_succ, Option.some.injEq] at hi
      subst hi
      rw [if_pos (by first | rfl | simp [wantV])]
      have e0 : ev (.tmp 98) = .pointer (some ⟨gg, 5, none⟩) := hin 98 36 ⟨36, .data⟩ (by kernel_rfl) (by simp) rfl rfl (show (98 : Nat) < 145 by decide)
      refine .inl ⟨w', ?_, hc⟩
      show _ = Result.ok (Next.value (.bool false)) w'
      obtain ⟨q0, q1, q2, q3, q4, q5⟩ := HGG.out w' hc
      simp [execOp, e0, hcst, go_sem, q5]
    | 38, _ =>
      simp only [List.getElem?_toArray, List.getElem?_cons_zero, List.getElem?_cons_succ, Option.some.injEq] at hi
      subst hi
      rw [if_pos (by first | rfl | simp [wantV])]
      have e0 : ev (.tmp 99) = .bool false := hin 99 37 ⟨37, .data⟩ (by kernel_rfl) (by simp) rfl rfl (show (99 : Nat) < 145 by decide)
      refine .inl ⟨w', ?_, hc⟩
      show _ = Result.ok (Next.value (.bool true)) w'
      simp [execOp, e0, hcst, go_sem]
    | 39, _ =>
      simp only [List.getElem?_toArray, List.getElem?_cons_zero, List.getElem?_cons_succ, Option.some.injEq] at hi
      subst hi
      rw [if_pos (by first | rfl | simp [wantV])]
      have e0 : ev (.tmp 95) = .bool true := hin 95 33 ⟨33, .data⟩ (by kernel_rfl) (by simp) rfl rfl (show (95 : Nat) < 145 by decide)
      have e1 : ev (.tmp 100) = .bool true := hin 100 38 ⟨38, .data⟩ (by kernel_rfl) (by simp) rfl rfl (show (100 : Nat) < 145 by decide)
      refine .inl ⟨w', ?_, hc⟩
      show _ = Result.ok (Next.value (.bool true)) w'
      simp [execOp, e0, e1, hcst, go_sem]
    | 40, _ =>
      simp only [List.getElem?_toArray, List.getElem?_cons_zero, List.getElem?_cons_succ, Option.some.injEq] at hi
      subst hi
      rw [if_pos (by first | rfl | simp [wantV])]
      have e0 : ev (.tmp 101) = .bool true := hin 101 39 ⟨39, .data⟩ (by kernel_rfl) (by simp) rfl rfl (show (101 : Nat) < 145 by decide)
      refine .inl ⟨w', ?_, hc⟩
      show _ = Result.ok (Next.value (.bool true)) w'
      simp [execOp, e0, hcst, go_sem]
    | 41, _ =>
      simp only [List.getElem?_toArray, List.getElem?_cons_zero, List.getElem?_cons_succ, Option.some.injEq] at hi
      subst hi
      rw [if_pos (by first | rfl | simp [wantV])]
      have e0 : ev (.tmp 10) = .bool true := hout 10 (by kernel_rfl) (show (10 : Nat) < 145 by decide)
      refine .inl ⟨w', ?_, hc⟩
      show _ = Result.ok (Next.value (.bool true)) w'
      simp [execOp, e0, hcst, go_sem]
    | 42, _ =>
      simp only [List.getElem?_toArray, List.getElem?_cons_zero, List.getElem?_cons_succ, Option.some.injEq] at hi
      subst hi
      rw [if_pos (by first | rfl | simp [wantV])]
      have e0 : ev (.tmp 102) = .bool true := hin 102 40 ⟨40, .data⟩ (by kernel_rfl) (by simp) rfl rfl (show (102 : Nat) < 145 by decide)
      have e1 : ev (.tmp 103) = .bool true := hin 103 41 ⟨41, .data⟩ (by kernel_rfl) (by simp) rfl rfl (show (103 : Nat) < 145 by decide)
      refine .inl ⟨w', ?_, hc⟩
      show _ = Result.ok (Next.value (.bool true)) w'
      simp [execOp, e0, e1, hcst, go_sem]
    | 43, _ =>
      simp only [List.getElem?_toArray, List.getElem?_cons_zero, List.getElem?_cons_succ, Option.some.injEq] at hi
      subst hi
      rw [if_pos (by first | rfl | simp [wantV])]
      have e0 : ev (.tmp 104) = .bool true := hin 104 42 ⟨42, .data⟩ (by kernel_rfl) (by simp) rfl rfl (show (104 : Nat) < 145 by decide)
      refine .inl ⟨w', ?_, hc⟩
      show _ = Result.ok (Next.value (.bool true)) w'
      simp [execOp, e0, hcst, go_sem]
    | 44, _ =>
      simp only [List.getElem?_toArray, List.getElem?_cons_zero, List.getElem?_cons_succ, Option.some.injEq] at hi
      subst hi
      rw [if_pos (by first | rfl | simp [wantV])]
      have e0 : ev (.tmp 9) = .pointer (some ⟨B9, 0, none⟩) := hout 9 (by kernel_rfl) (show (9 : Nat) < 145 by decide)
      refine .inl ⟨w', ?_, hc⟩
      show _ = Result.ok (Next.value (.agg #[.string ⟨#[98]⟩, .string zb, .int .u32 0, .int .i64 0, .int .u64 1])) w'
      obtain ⟨q0, q1, q2, q3, q4, -⟩ := cells5 (HK9.out w' hc)
      simp [execOp, e0, hcst, go_sem, q0, q1, q2, q3, q4]
    | 45, _ =>
      simp only [List.getElem?_toArray, List.getElem?_cons_zero, List.getElem?_cons_succ, Option.some.injEq] at hi
      subst hi
      rw [if_pos (by first | rfl | simp [wantV])]
      refine .inr (.inr ⟨7, #[.string ⟨#[98]⟩], ?_, ?_⟩)
      · have ef := hfn 7
        simp [execOp, resolve, invoke, ef, hcst, Result.andThen]
        exact enter19 _ _
      · refine (cB.out _ w').mono ?_
        rintro e w9 ⟨rfl, b9⟩
        exact ⟨rfl, AwC.on hc b9⟩
    | 46, _ =>
      simp only [List.getElem?_toArray, List.getElem?_cons_zero, List.getElem?_cons_succ, Option.some.injEq] at hi
      subst hi
      rw [if_pos (by first | rfl | simp [wantV])]
      have e0 : ev (.tmp 106) = .agg #[.string ⟨#[98]⟩, .string zb, .int .u32 0, .int .i64 0, .int .u64 1] := hin 106 44 ⟨44, .data⟩ (by kernel_rfl) (by simp) rfl rfl (show (106 : Nat) < 145 by decide)
      have e1 : ev (.tmp 107) = .agg #[.string ⟨#[98]⟩, .string zb, .int .u32 0, .int .i64 0, .int .u64 1] := hin 107 45 ⟨45, .data⟩ (by kernel_rfl) (by simp) rfl rfl (show (107 : Nat) < 145 by decide)
      refine .inl ⟨w', ?_, hc⟩
      show _ = Result.ok (Next.value (.bool true)) w'
      have q := hq2 w'
      simp [execOp, e0, e1, hcst, eqGuard, q, Result.andThen, pure, Sem.run]
    | 47, _ =>
      simp only [List.getElem?_toArray, List.getElem?_cons_zero, List.getElem?_cons_succ, Option.some.injEq] at hi
      subst hi
      rw [if_pos (by first | rfl | simp [wantV])]
      have e0 : ev (.tmp 105) = .bool true := hin 105 43 ⟨43, .data⟩ (by kernel_rfl) (by simp) rfl rfl (show (105 : Nat) < 145 by decide)
      have e1 : ev (.tmp 108) = .bool true := hin 108 46 ⟨46, .data⟩ (by kernel_rfl) (by simp) rfl rfl (show (108 : Nat) < 145 by decide)
      refine .inl ⟨w', ?_, hc⟩
      show _ = Result.ok (Next.value (.bool true)) w'
      simp [execOp, e0, e1, hcst, go_sem]
    | 48, _ =>
      simp only [List.getElem?_toArray, List.getElem?_cons_zero, List.getElem?_cons_succ, Option.some.injEq] at hi
      subst hi
      rw [if_pos (by first | rfl | simp [wantV])]
      have e0 : ev (.tmp 109) = .bool true := hin 109 47 ⟨47, .data⟩ (by kernel_rfl) (by simp) rfl rfl (show (109 : Nat) < 145 by decide)
      refine .inl ⟨w', ?_, hc⟩
      show _ = Result.ok (Next.value (.bool true)) w'
      simp [execOp, e0, hcst, go_sem]
    | 49, _ =>
      simp only [List.getElem?_toArray, List.getElem?_cons_zero, List.getElem?_cons_succ, Option.some.injEq] at hi
      subst hi
      rw [if_pos (by first | rfl | simp [wantV])]
      have e0 : ev (.tmp 12) = .bool true := hout 12 (by kernel_rfl) (show (12 : Nat) < 145 by decide)
      refine .inl ⟨w', ?_, hc⟩
      show _ = Result.ok (Next.value (.bool true)) w'
      simp [execOp, e0, hcst, go_sem]
    | 50, _ =>
      simp only [List.getElem?_toArray, List.getElem?_cons_zero, List.getElem?_cons_succ, Option.some.injEq] at hi
      subst hi
      rw [if_pos (by first | rfl | simp [wantV])]
      have e0 : ev (.tmp 110) = .bool true := hin 110 48 ⟨48, .data⟩ (by kernel_rfl) (by simp) rfl rfl (show (110 : Nat) < 145 by decide)
      have e1 : ev (.tmp 111) = .bool true := hin 111 49 ⟨49, .data⟩ (by kernel_rfl) (by simp) rfl rfl (show (111 : Nat) < 145 by decide)
      refine .inl ⟨w', ?_, hc⟩
      show _ = Result.ok (Next.value (.bool true)) w'
      simp [execOp, e0, e1, hcst, go_sem]
    | 51, _ =>
      simp only [List.getElem?_toArray, List.getElem?_cons_zero, List.getElem?_cons_succ, Option.some.injEq] at hi
      subst hi
      rw [if_pos (by first | rfl | simp [wantV])]
      have e0 : ev (.tmp 112) = .bool true := hin 112 50 ⟨50, .data⟩ (by kernel_rfl) (by simp) rfl rfl (show (112 : Nat) < 145 by decide)
      refine .inl ⟨w', ?_, hc⟩
      show _ = Result.ok (Next.value (.bool true)) w'
      simp [execOp, e0, hcst, go_sem]
    | 52, _ =>
      simp only [List.getElem?_toArray, List.getElem?_cons_zero, List.getElem?_cons_succ, Option.some.injEq] at hi
      subst hi
      rw [if_pos (by first | rfl | simp [wantV])]
      have e0 : ev (.tmp 11) = .pointer (some ⟨BB, 0, none⟩) := hout 11 (by kernel_rfl) (show (11 : Nat) < 145 by decide)
      refine .inl ⟨w', ?_, hc⟩
      show _ = Result.ok (Next.value (.pointer (some ⟨BB, 5, none⟩))) w'
      simp [execOp, e0, hcst, go_sem]
    | 53, _ =>
      simp only [List.getElem?_toArray, List.getElem?_cons_zero, List.getElem?_cons_succ, Option.some.injEq] at hi
      subst hi
      rw [if_pos (by first | rfl | simp [wantV])]
      have e0 : ev (.tmp 114) = .pointer (some ⟨BB, 5, none⟩) := hin 114 52 ⟨52, .data⟩ (by kernel_rfl) (by simp) rfl rfl (show (114 : Nat) < 145 by decide)
      refine .inl ⟨w', ?_, hc⟩
      show _ = Result.ok (Next.value (.bool true)) w'
      obtain ⟨q0, q1, q2, q3, q4, q5, -⟩ := cells6 (HKB.out w' hc)
      simp [execOp, e0, hcst, go_sem, q5]
    | 54, _ =>
      simp only [List.getElem?_toArray, List.getElem?_cons_zero, List.getElem?_cons_succ, Option.some.injEq] at hi
      subst hi
      rw [if_pos (by first | rfl | simp [wantV])]
      have e0 : ev (.tmp 113) = .bool true := hin 113 51 ⟨51, .data⟩ (by kernel_rfl) (by simp) rfl rfl (show (113 : Nat) < 145 by decide)
      have e1 : ev (.tmp 115) = .bool true := hin 115 53 ⟨53, .data⟩ (by kernel_rfl) (by simp) rfl rfl (show (115 : Nat) < 145 by decide)
      refine .inl ⟨w', ?_, hc⟩
      show _ = Result.ok (Next.value (.bool true)) w'
      simp [execOp, e0, e1, hcst, go_sem]
    | 55, _ =>
      simp only [List.getElem?_toArray, List.getElem?_cons_zero, List.getElem?_cons_succ, Option.some.injEq] at hi
      subst hi
      rw [if_pos (by first | rfl | simp [wantV])]
      have e0 : ev (.tmp 116) = .bool true := hin 116 54 ⟨54, .data⟩ (by kernel_rfl) (by simp) rfl rfl (show (116 : Nat) < 145 by decide)
      refine .inl ⟨w', ?_, hc⟩
      show _ = Result.ok (Next.value (.bool true)) w'
      simp [execOp, e0, hcst, go_sem]
    | 56, _ =>
      simp only [List.getElem?_toArray, List.getElem?_cons_zero, List.getElem?_cons_succ, Option.some.injEq] at hi
      subst hi
      rw [if_pos (by first | rfl | simp [wantV])]
      have e0 : ev (.tmp 13) = .slice ia 2 ic := hout 13 (by kernel_rfl) (show (13 : Nat) < 145 by decide)
      refine .inl ⟨w', ?_, hc⟩
      show _ = Result.ok (Next.value (.slice ia 2 ic)) w'
      simp [execOp, e0, hcst, go_sem]
    | 57, _ =>
      simp only [List.getElem?_toArray, List.getElem?_cons_zero, List.getElem?_cons_succ, Option.some.injEq] at hi
      subst hi
      rw [if_pos (by first | rfl | simp [wantV])]
      have e0 : ev (.tmp 118) = .slice ia 2 ic := hin 118 56 ⟨56, .data⟩ (by kernel_rfl) (by simp) rfl rfl (show (118 : Nat) < 145 by decide)
      refine .inl ⟨w', ?_, hc⟩
      show _ = Result.ok (Next.value (.int .i64 2)) w'
      simp [execOp, e0, hcst, go_sem]
    | 58, _ =>
      simp only [List.getElem?_toArray, List.getElem?_cons_zero, List.getElem?_cons_succ, Option.some.injEq] at hi
      subst hi
      rw [if_pos (by first | rfl | simp [wantV])]
      have e0 : ev (.tmp 119) = .int .i64 2 := hin 119 57 ⟨57, .data⟩ (by kernel_rfl) (by simp) rfl rfl (show (119 : Nat) < 145 by decide)
      refine .inl ⟨w', ?_, hc⟩
      show _ = Result.ok (Next.value (.bool true)) w'
      simp [execOp, e0, hcst, go_sem]
    | 59, _ =>
      simp only [List.getElem?_toArray, List.getElem?_cons_zero, List.getElem?_cons_succ, Option.some.injEq] at hi
      subst hi
      rw [if_pos (by first | rfl | simp [wantV])]
      have e0 : ev (.tmp 117) = .bool true := hin 117 55 ⟨55, .data⟩ (by kernel_rfl) (by simp) rfl rfl (show (117 : Nat) < 145 by decide)
      have e1 : ev (.tmp 120) = .bool true := hin 120 58 ⟨58, .data⟩ (by kernel_rfl) (by simp) rfl rfl (show (120 : Nat) < 145 by decide)
      refine .inl ⟨w', ?_, hc⟩
      show _ = Result.ok (Next.value (.bool true)) w'
      simp [execOp, e0, e1, hcst, go_sem]
    | 60, _ =>
      simp only [List.getElem?_toArray, List.getElem?_cons_zero, List.getElem?_cons_succ, Option.some.injEq] at hi
      subst hi
      rw [if_pos (by first | rfl | simp [wantV])]
      have e0 : ev (.tmp 121) = .bool true := hin 121 59 ⟨59, .data⟩ (by kernel_rfl) (by simp) rfl rfl (show (121 : Nat) < 145 by decide)
      refine .inl ⟨w', ?_, hc⟩
      show _ = Result.ok (Next.value (.bool true)) w'
      simp [execOp, e0, hcst, go_sem]
    | 61, _ =>
      simp only [List.getElem?_toArray, List.getElem?_cons_zero, List.getElem?_cons_succ, Option.some.injEq] at hi
      subst hi
      rw [if_pos (by first | rfl | simp [wantV])]
      have e0 : ev (.tmp 14) = .int .i64 2 := hout 14 (by kernel_rfl) (show (14 : Nat) < 145 by decide)
      refine .inl ⟨w', ?_, hc⟩
      show _ = Result.ok (Next.value (.int .i64 2)) w'
      simp [execOp, e0, hcst, go_sem]
    | 62, _ =>
      simp only [List.getElem?_toArray, List.getElem?_cons_zero, List.getElem?_cons_succ, Option.some.injEq] at hi
      subst hi
      rw [if_pos (by first | rfl | simp [wantV])]
      have e0 : ev (.tmp 123) = .int .i64 2 := hin 123 61 ⟨61, .data⟩ (by kernel_rfl) (by simp) rfl rfl (show (123 : Nat) < 145 by decide)
      refine .inl ⟨w', ?_, hc⟩
      show _ = Result.ok (Next.value (.bool true)) w'
      simp [execOp, e0, hcst, go_sem]
    | 63, _ =>
      simp only [List.getElem?_toArray, List.getElem?_cons_zero, List.getElem?_cons_succ, Option.some.injEq] at hi
      subst hi
      rw [if_pos (by first | rfl | simp [wantV])]
      have e0 : ev (.tmp 122) = .bool true := hin 122 60 ⟨60, .data⟩ (by kernel_rfl) (by simp) rfl rfl (show (122 : Nat) < 145 by decide)
      have e1 : ev (.tmp 124) = .bool true := hin 124 62 ⟨62, .data⟩ (by kernel_rfl) (by simp) rfl rfl (show (124 : Nat) < 145 by decide)
      refine .inl ⟨w', ?_, hc⟩
      show _ = Result.ok (Next.value (.bool true)) w'
      simp [execOp, e0, e1, hcst, go_sem]
    | 64, _ =>
      simp only [List.getElem?_toArray, List.getElem?_cons_zero, List.getElem?_cons_succ, Option.some.injEq] at hi
      subst hi
      rw [if_pos (by first | rfl | simp [wantV])]
      have e0 : ev (.tmp 125) = .bool true := hin 125 63 ⟨63, .data⟩ (by kernel_rfl) (by simp) rfl rfl (show (125 : Nat) < 145 by decide)
      refine .inl ⟨w', ?_, hc⟩
      show _ = Result.ok (Next.value (.bool true)) w'
      simp [execOp, e0, hcst, go_sem]
    | 65, _ =>
      simp only [List.getElem?_toArray, List.getElem?_cons_zero, List.getElem?_cons_succ, Option.some.injEq] at hi
      subst hi
      rw [if_pos (by first | rfl | simp [wantV])]
      have e0 : ev (.tmp 15) = .bool true := hout 15 (by kernel_rfl) (show (15 : Nat) < 145 by decide)
      refine .inl ⟨w', ?_, hc⟩
      show _ = Result.ok (Next.value (.bool true)) w'
      simp [execOp, e0, hcst, go_sem]
    | 66, _ =>
      simp only [List.getElem?_toArray, List.getElem?_cons_zero, List.getElem?_cons_succ, Option.some.injEq] at hi
      subst hi
      rw [if_pos (by first | rfl | simp [wantV])]
      have e0 : ev (.tmp 126) = .bool true := hin 126 64 ⟨64, .data⟩ (by kernel_rfl) (by simp) rfl rfl (show (126 : Nat) < 145 by decide)
      have e1 : ev (.tmp 127) = .bool true := hin 127 65 ⟨65, .data⟩ (by kernel_rfl) (by simp) rfl rfl (show (127 : Nat) < 145 by decide)
      refine .inl ⟨w', ?_, hc⟩
      show _ = Result.ok (Next.value (.bool true)) w'
      simp [execOp, e0, e1, hcst, go_sem]
    | 67, _ =>
      simp only [List.getElem?_toArray, List.getElem?_cons_zero, List.getElem?_cons_succ, Option.some.injEq] at hi
      subst hi
      rw [if_pos (by first | rfl | simp [wantV])]
      have e0 : ev (.tmp 128) = .bool true := hin 128 66 ⟨66, .data⟩ (by kernel_rfl) (by simp) rfl rfl (show (128 : Nat) < 145 by decide)
      refine .inl ⟨w', ?_, hc⟩
      show _ = Result.ok (Next.value (.bool true)) w'
      simp [execOp, e0, hcst, go_sem]
    | 68, _ =>
      simp only [List.getElem?_toArray, List.getElem?_cons_zero, List.getElem?_cons_succ, Option.some.injEq] at hi
      subst hi
      rw [if_pos (by first | rfl | simp [wantV])]
      have e0 : ev (.tmp 1) = .pointer (some ⟨c, 0, none⟩) := hout 1 (by kernel_rfl) (show (1 : Nat) < 145 by decide)
      refine .inl ⟨w', ?_, hc⟩
      show _ = Result.ok (Next.value (.pointer (some ⟨c, 0, none⟩))) w'
      simp [execOp, e0, hcst, go_sem]
    | 69, _ =>
      simp only [List.getElem?_toArray, List.getElem?_cons_zero, List.getElem?_cons_succ, Option.some.injEq] at hi
      subst hi
      rw [if_pos (by first | rfl | simp [wantV])]
      have e0 : ev (.tmp 130) = .pointer (some ⟨c, 0, none⟩) := hin 130 68 ⟨68, .data⟩ (by kernel_rfl) (by simp) rfl rfl (show (130 : Nat) < 145 by decide)
      refine .inr (.inr ⟨11, #[.pointer (some ⟨c, 0, none⟩)], ?_, ?_⟩)
      · have ef := hfn 11
        simp [execOp, resolve, invoke, ef, hcst, e0, Result.andThen]
        exact enter15 _ _
      · refine (cL.out w' hc).mono ?_
        rintro e w9 ⟨rfl, rfl⟩
        exact ⟨rfl, hc⟩
    | 70, _ =>
      simp only [List.getElem?_toArray, List.getElem?_cons_zero, List.getElem?_cons_succ, Option.some.injEq] at hi
      subst hi
      rw [if_pos (by first | rfl | simp [wantV])]
      have e0 : ev (.tmp 131) = .int .i64 0 := hin 131 69 ⟨69, .data⟩ (by kernel_rfl) (by simp) rfl rfl (show (131 : Nat) < 145 by decide)
      refine .inl ⟨w', ?_, hc⟩
      show _ = Result.ok (Next.value (.bool true)) w'
      simp [execOp, e0, hcst, go_sem]
    | 71, _ =>
      simp only [List.getElem?_toArray, List.getElem?_cons_zero, List.getElem?_cons_succ, Option.some.injEq] at hi
      subst hi
      rw [if_pos (by first | rfl | simp [wantV])]
      have e0 : ev (.tmp 129) = .bool true := hin 129 67 ⟨67, .data⟩ (by kernel_rfl) (by simp) rfl rfl (show (129 : Nat) < 145 by decide)
      have e1 : ev (.tmp 132) = .bool true := hin 132 70 ⟨70, .data⟩ (by kernel_rfl) (by simp) rfl rfl (show (132 : Nat) < 145 by decide)
      refine .inl ⟨w', ?_, hc⟩
      show _ = Result.ok (Next.value (.bool true)) w'
      simp [execOp, e0, e1, hcst, go_sem]
    | 72, _ =>
      simp only [List.getElem?_toArray, List.getElem?_cons_zero, List.getElem?_cons_succ, Option.some.injEq] at hi
      subst hi
      rw [if_pos (by first | rfl | simp [wantV])]
      have e0 : ev (.tmp 133) = .bool true := hin 133 71 ⟨71, .data⟩ (by kernel_rfl) (by simp) rfl rfl (show (133 : Nat) < 145 by decide)
      refine .inl ⟨w', ?_, hc⟩
      show _ = Result.ok (Next.value (.bool true)) w'
      simp [execOp, e0, hcst, go_sem]
    | 73, _ =>
      simp only [List.getElem?_toArray, List.getElem?_cons_zero, List.getElem?_cons_succ, Option.some.injEq] at hi
      subst hi
      rw [if_pos (by first | rfl | simp [wantV])]
      have e0 : ev (.tmp 1) = .pointer (some ⟨c, 0, none⟩) := hout 1 (by kernel_rfl) (show (1 : Nat) < 145 by decide)
      refine .inl ⟨w', ?_, hc⟩
      show _ = Result.ok (Next.value (.pointer (some ⟨c, 0, none⟩))) w'
      simp [execOp, e0, hcst, go_sem]
    | 74, _ =>
      simp only [List.getElem?_toArray, List.getElem?_cons_zero, List.getElem?_cons_succ, Option.some.injEq] at hi
      subst hi
      rw [if_pos (by first | rfl | simp [wantV])]
      refine .inl ⟨w', ?_, hc⟩
      show _ = Result.ok (Next.value (.agg #[.string ⟨#[]⟩, .string ⟨#[]⟩, .int .u32 0, .int .i64 5, .int .u64 0])) w'
      simp [execOp, hcst, go_sem]
    | 75, _ =>
      simp only [List.getElem?_toArray, List.getElem?_cons_zero, List.getElem?_cons_succ, Option.some.injEq] at hi
      subst hi
      rw [if_pos (by first | rfl | simp [wantV])]
      have e0 : ev (.tmp 135) = .pointer (some ⟨c, 0, none⟩) := hin 135 73 ⟨73, .data⟩ (by kernel_rfl) (by simp) rfl rfl (show (135 : Nat) < 145 by decide)
      have e1 : ev (.tmp 136) = .agg #[.string ⟨#[]⟩, .string ⟨#[]⟩, .int .u32 0, .int .i64 5, .int .u64 0] := hin 136 74 ⟨74, .data⟩ (by kernel_rfl) (by simp) rfl rfl (show (136 : Nat) < 145 by decide)
      refine .inr (.inr ⟨14, #[.pointer (some ⟨c, 0, none⟩), .agg #[.string ⟨#[]⟩, .string ⟨#[]⟩, .int .u32 0, .int .i64 5, .int .u64 0], .int .i64 5], ?_, ?_⟩)
      · have ef := hfn 14
        simp [execOp, resolve, invoke, ef, hcst, e0, e1, Result.andThen]
        exact enter13 _ _
      · refine (c5.out w').mono ?_
        rintro e w9 ⟨rfl, b9⟩
        exact ⟨rfl, AwC.on hc b9⟩
    | 76, _ =>
      simp only [List.getElem?_toArray, List.getElem?_cons_zero, List.getElem?_cons_succ, Option.some.injEq] at hi
      subst hi
      rw [if_pos (by first | rfl | simp [wantV])]
      have e0 : ev (.tmp 134) = .bool true := hin 134 72 ⟨72, .data⟩ (by kernel_rfl) (by simp) rfl rfl (show (134 : Nat) < 145 by decide)
      have e1 : ev (.tmp 137) = .bool true := hin 137 75 ⟨75, .data⟩ (by kernel_rfl) (by simp) rfl rfl (show (137 : Nat) < 145 by decide)
      refine .inl ⟨w', ?_, hc⟩
      show _ = Result.ok (Next.value (.bool true)) w'
      simp [execOp, e0, e1, hcst, go_sem]
    | 77, _ =>
      simp only [List.getElem?_toArray, List.getElem?_cons_zero, List.getElem?_cons_succ, Option.some.injEq] at hi
      subst hi
      rw [if_pos (by first | rfl | simp [wantV])]
      have e0 : ev (.tmp 138) = .bool true := hin 138 76 ⟨76, .data⟩ (by kernel_rfl) (by simp) rfl rfl (show (138 : Nat) < 145 by decide)
      refine .inl ⟨w', ?_, hc⟩
      show _ = Result.ok (Next.value (.bool true)) w'
      simp [execOp, e0, hcst, go_sem]
    | 78, _ =>
      simp only [List.getElem?_toArray, List.getElem?_cons_zero, List.getElem?_cons_succ, Option.some.injEq] at hi
      subst hi
      rw [if_pos (by first | rfl | simp [wantV])]
      have e0 : ev (.tmp 1) = .pointer (some ⟨c, 0, none⟩) := hout 1 (by kernel_rfl) (show (1 : Nat) < 145 by decide)
      refine .inl ⟨w', ?_, hc⟩
      show _ = Result.ok (Next.value (.pointer (some ⟨c, 0, none⟩))) w'
      simp [execOp, e0, hcst, go_sem]
    | 79, _ =>
      simp only [List.getElem?_toArray, List.getElem?_cons_zero, List.getElem?_cons_succ, Option.some.injEq] at hi
      subst hi
      rw [if_pos (by first | rfl | simp [wantV])]
      refine .inl ⟨w', ?_, hc⟩
      show _ = Result.ok (Next.value (.agg #[.string ⟨#[]⟩, .string ⟨#[]⟩, .int .u32 0, .int .i64 5, .int .u64 0])) w'
      simp [execOp, hcst, go_sem]
    | 80, _ =>
      simp only [List.getElem?_toArray, List.getElem?_cons_zero, List.getElem?_cons_succ, Option.some.injEq] at hi
      subst hi
      rw [if_pos (by first | rfl | simp [wantV])]
      have e0 : ev (.tmp 140) = .pointer (some ⟨c, 0, none⟩) := hin 140 78 ⟨78, .data⟩ (by kernel_rfl) (by simp) rfl rfl (show (140 : Nat) < 145 by decide)
      have e1 : ev (.tmp 141) = .agg #[.string ⟨#[]⟩, .string ⟨#[]⟩, .int .u32 0, .int .i64 5, .int .u64 0] := hin 141 79 ⟨79, .data⟩ (by kernel_rfl) (by simp) rfl rfl (show (141 : Nat) < 145 by decide)
      refine .inr (.inr ⟨14, #[.pointer (some ⟨c, 0, none⟩), .agg #[.string ⟨#[]⟩, .string ⟨#[]⟩, .int .u32 0, .int .i64 5, .int .u64 0], .int .i64 4], ?_, ?_⟩)
      · have ef := hfn 14
        simp [execOp, resolve, invoke, ef, hcst, e0, e1, Result.andThen]
        exact enter13 _ _
      · refine (c4.out w').mono ?_
        rintro e w9 ⟨rfl, b9⟩
        exact ⟨rfl, AwC.on hc b9⟩
    | 81, _ =>
      simp only [List.getElem?_toArray, List.getElem?_cons_zero, List.getElem?_cons_succ, Option.some.injEq] at hi
      subst hi
      rw [if_pos (by first | rfl | simp [wantV])]
      have e0 : ev (.tmp 142) = .bool false := hin 142 80 ⟨80, .data⟩ (by kernel_rfl) (by simp) rfl rfl (show (142 : Nat) < 145 by decide)
      refine .inl ⟨w', ?_, hc⟩
      show _ = Result.ok (Next.value (.bool true)) w'
      simp [execOp, e0, hcst, go_sem]
    | 82, _ =>
      simp only [List.getElem?_toArray, List.getElem?_cons_zero, List.getElem?_cons_succ, Option.some.injEq] at hi
      subst hi
      rw [if_pos (by first | rfl | simp [wantV])]
      have e0 : ev (.tmp 139) = .bool true := hin 139 77 ⟨77, .data⟩ (by kernel_rfl) (by simp) rfl rfl (show (139 : Nat) < 145 by decide)
      have e1 : ev (.tmp 143) = .bool true := hin 143 81 ⟨81, .data⟩ (by kernel_rfl) (by simp) rfl rfl (show (143 : Nat) < 145 by decide)
      refine .inl ⟨w', ?_, hc⟩
      show _ = Result.ok (Next.value (.bool true)) w'
      simp [execOp, e0, e1, hcst, go_sem]
    | 83, _ =>
      simp only [List.getElem?_toArray, List.getElem?_cons_zero, List.getElem?_cons_succ, Option.some.injEq] at hi
      subst hi
      rw [if_pos (by first | rfl | simp [wantV])]
      have e0 : ev (.tmp 144) = .bool true := hin 144 82 ⟨82, .data⟩ (by kernel_rfl) (by simp) rfl rfl (show (144 : Nat) < 145 by decide)
      refine .inl ⟨w', ?_, hc⟩
      show _ = Result.ok (Next.value (.bool true)) w'
      simp [execOp, e0, hcst, go_sem]
  · intro w7 hc
    simp only [lexF, List.cons_append, List.nil_append, Act.put, List.setIfInBounds_toArray, List.set_cons_succ, List.set_cons_zero, List.getD_cons_succ, List.getD_cons_zero]
    have HE : Hid (Below w.heap.size w w7) := HBW.out.trans (Below.mono hc HBW.out.size)
    clear hc HA HGG HK9 HKB cL c5 c4 cB
    go_wp2
    go_ret
    exact ⟨rfl, HE.out⟩
end Go.Proofs.YtdkiegkgnimapabDoor
