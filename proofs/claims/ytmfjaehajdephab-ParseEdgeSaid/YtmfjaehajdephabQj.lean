/-
  line of a parser: One of it.
-/
import Derived.Test.YtmfjaehajdephabJF
import Derived.Lib.SlBytesConst
namespace Go.Proofs.Ytmfjaehajdephab
open Go.Shelf Go.RowKit Go.Deep
set_option linter.unusedVariables false
set_option linter.unusedSimpArgs false
set_option maxRecDepth 1000000

/-- What line leaves when it has read a line: what One says of it. -/
def LnQ (w : World) (p : Nat) (v : Value) (R : Cm × Option Nat) (c : Cm) (kv : Value) (left gone : Nat) (F : List UInt8) (N : Nat) (e : Ending) (w' : World) : Prop :=
  ∃ a n cc v' beg', e = .returned (.tuple #[cmV R.1 (.slice a n cc), .int .i64 (sizeI R.2), .bool true]) ∧ RowT w' a n R.1.keys ∧ PM w' p v' beg' 0 false c kv left gone F N ∧ PMv w p v v' w'
set_option maxHeartbeats 400000 in
theorem line_one (w : World) (p : Nat) (v : Value) (beg seen : Nat) (over : Bool) (c : Cm) (kv : Value) (left gone : Nat) (F : List UInt8) (N : Nat) (h : PM w p v beg seen over c kv left gone F N) (hN : N ≤ 1000000) (hsn : seen ≤ F.length) (hno : ∀ x ∈ F.take seen, x ≠ 10) (hA : endP F < F.length) (hB2 : (cutP (F.take (endP F))).length ≤ 2048) :
    Calls Try.prog 22 #[.pointer (some ⟨p, 0, none⟩)] w fun e w' => LnQ w p v (oneP (cutP (F.take (endP F)))) c kv left gone (F.drop (endP F + 1)) N e w' := by
  obtain ⟨a, ca, hB, hFN, hoff, hspot, hnil, hall⟩ := QAt.all h
  have hqs := endP_seen F seen hsn hno
  obtain ⟨a2, c2, hts, hTB⟩ := tail_bs hB hspot seen hsn hnil
  have hen := endP_le F
  obtain ⟨n, hn⟩ : ∃ n, n = F.length := ⟨_, rfl⟩
  obtain ⟨q, hq⟩ : ∃ q, q = endP F := ⟨_, rfl⟩
  obtain ⟨d, hd⟩ : ∃ d, d = endP (F.drop seen) := ⟨_, rfl⟩
  rw [← hn] at hB hall hen hsn hts hTB
  rw [← hq] at hqs hen
  rw [← hd] at hqs
  have hF : n ≤ 1000000 := by omega
  have HQS := hide hqs
  obtain ⟨tl, htl⟩ : ∃ tl, tl = (cutP (F.take q)).length := ⟨_, rfl⟩
  have htq : tl ≤ q := by
    have := cutP_len (F.take q)
    rw [List.length_take, ← hn] at this
    omega
  have hh1 := run_head a n ca q (by have := hB.cap; omega)
  have hTX := hB.pre q hen
  have hwr : IntKind.i64.wrap ((seen : Int) + (d : Int)) = (q : Int) := by rw [IntKind.wrap_i64]; omega
  clear hqs
  have B0 := (Below.refl w.heap.size w).alloc (Nat.le_refl _) (cmO cmZ (.slice none 0 0))
  have HQ1 := hide (QAt.later h B0)
  have HT1 := hide (heap_alloc_new w (cmO cmZ (.slice none 0 0)))
  have HP := hide h.blk.lt
  have HALL := hide hall
  have HTS : Hid (∀ X, (Instr.sliceAt 26 (.slice a n ca) (some (.int .i64 (seen : Int))) none none).run Try.prog X = .ok (.slice a2 (n - seen) c2) X) := hts
  have HTB := hide hTB
  have HTX := hide hTX
  have HWR := hide hwr
  have HN := hide hn
  have HQQ := hide hq
  have HDD := hide hd
  have HTL := hide htl
  have HB0 := hide B0
  have HBS := hide hB
  have htlb : tl ≤ 2048 := by rw [htl, hq]; exact hB2
  clear hB2
  have htb : (tl : Int) ≤ 2048 := by omega
  obtain ⟨TX, hTX8⟩ : ∃ TX, TX = cutP (F.take (endP F)) := ⟨_, rfl⟩
  have HTT : Hid ((F.take q).take tl = TX) := by show (F.take q).take tl = TX; rw [hTX8, htl, hq]; exact (cutP_take _).symm
  have HTS8 : Hid ((mk8 TX).size ≤ 4900) := by show (mk8 TX).size ≤ 4900; have : (mk8 TX).size = TX.length := rfl; rw [this, hTX8, ← hq, ← htl]; omega
  have HTP := hTX.pre tl htq
  rw [HTT.out] at HTP
  rw [← hTX8]
  clear hTX8
  have HTP := hide HTP
  obtain ⟨k, hk⟩ : ∃ k, k = min (q + 1) n := ⟨_, rfl⟩
  have hmin : min ((q : Int) + 1) (n : Int) = (k : Int) := by rw [hk]; omega
  have hkn : k ≤ n := by rw [hk]; omega
  have hwq : IntKind.i64.wrap ((q : Int) + 1) = (q : Int) + 1 := by rw [IntKind.wrap_i64]; omega
  have HKE : Hid (k = min (endP F + 1) F.length) := by show k = _; rw [hk, hq, hn]
  have hwn : q < n := by rw [hq, hn]; exact hA
  have hwh : ((q : Int) < (n : Int)) = True := by simp; omega
  have HDE : Hid (decide (endP F = F.length) = false) := by show decide _ = false; rw [decide_eq_false]; omega
  clear hA hk hwn
  clear h hall hB hts hTB hTX hn hq hd htl B0 hoff hspot hnil hno
  obtain ⟨ns, hns⟩ : ∃ ns, ns = n - seen := ⟨_, rfl⟩
  rw [← hns] at HTS HTB
  have hns6 : ns ≤ 1000000 := by omega
  clear hns
  go_enter Try.func22, Try.ntmps22
  go_wp2_with fail
  refine Calls.mono (HALL.out _ ?_) ?_
  · exact HQ1.out.blk
  rintro e w1 ⟨rfl, m, rfl⟩
  go_wp2
  obtain ⟨W0, hW0⟩ : ∃ W0, W0 = ((w.alloc (.cells #[.string ⟨#[]⟩, .string ⟨#[]⟩, .slice none 0 0, .string ⟨#[]⟩, .int .u32 0, .int .i64 0, .int .u64 0, .int .u64 0, .bool false, .bool false, .bool false, .bool false] 33)).drewN m) := ⟨_, rfl⟩
  rw [← hW0]
  have HQ2 : Hid (QAt W0 p v beg (pR seen over c kv left gone) 51 F N) := by rw [hW0]; exact HQ1.out.drewN m
  have HT2 : Hid (W0.heap[w.heap.size]? = some (cmO cmZ (.slice none 0 0))) := by rw [hW0]; exact HT1.out
  have HB2 : Hid (Below w.heap.size w W0) := by rw [hW0]; exact HB0.out.trans ((below_drewN _ m _))
  have HTB2 : Hid (∀ W, Below W0.heap.size W0 W → BS W a2 ns c2 (F.drop seen)) := fun W hW => by
    refine BS.later ?_ hW
    have := HTB.out.later (HB2.out.mono (Nat.le_refl _))
    exact this
  clear hW0 HQ1 HT1 HB0
  have HCL : Hid (∀ W, LnC W0 (d : Int) [] W → Calls Try.prog 38 #[.slice a2 ns c2] W fun e w2 => ∃ v, e = .returned v ∧ LnC W0 (d : Int) ([] ++ [v]) w2) := fun W hc => by
    refine (ending_any a2 ns c2 (F.drop seen) W (HTB2.out W hc.2) hns6).mono ?_
    rintro e w2 ⟨rfl, hb⟩
    refine ⟨_, rfl, ?_, hc.2.trans (hb.mono hc.2.size)⟩
    rw [← HDD.out]
  clear HTB2 HTB
  refine wp_region_liy (by kernel_rfl) (by kernel_rfl) (fun jx => ([.pointer (some ⟨p, 0, none⟩), .pointer (some ⟨p, 0, none⟩), .pointer (some ⟨p, 2, none⟩), .int .i64 (seen : Int), .slice a n ca, .pointer (some ⟨p, 0, none⟩), .pointer (some ⟨p, 0, none⟩), .pointer (some ⟨p, 2, none⟩), .int .i64 (seen : Int), .slice a2 ns c2, undef, .int .i64 (q : Int), .int .i64 (q : Int)] : List Value).getD jx undef) [10] (by kernel_rfl) (by decide) (by decide) (LnC W0 (d : Int)) (⟨rfl, (Below.refl _ _).drew⟩) ?_ ?_
  · intro jx ox hi us w' ev hc hul hbef haft hin hout hold hcst hfn
    have hltx : jx < 13 := by
      have := (Array.getElem?_eq_some_iff.1 hi).1
      simpa using this
    match jx, hltx with
    | 0, _ =>
      simp only [List.getElem?_toArray, List.getElem?_cons_zero, List.getElem?_cons_succ, Option.some.injEq] at hi
      subst hi
      have e0 : ev (.tmp 0) = .pointer (some ⟨p, 0, none⟩) := hout 0 (by kernel_rfl) (show (0 : Nat) < 78 by decide)
      refine ⟨fun mx hmx => absurd hmx (by simp [zpos]), fun _ => ?_⟩
      simp [execOp, e0, hcst, go_sem]
    | 1, _ =>
      simp only [List.getElem?_toArray, List.getElem?_cons_zero, List.getElem?_cons_succ, Option.some.injEq] at hi
      subst hi
      have e0 : ev (.tmp 15) = .pointer (some ⟨p, 0, none⟩) := hin 15 0 ⟨0, .data⟩ (by kernel_rfl) (by simp) rfl rfl (show (15 : Nat) < 78 by decide)
      refine ⟨fun mx hmx => absurd hmx (by simp [zpos]), fun _ => ?_⟩
      simp [execOp, e0, hcst, go_sem]
    | 2, _ =>
      simp only [List.getElem?_toArray, List.getElem?_cons_zero, List.getElem?_cons_succ, Option.some.injEq] at hi
      subst hi
      have e0 : ev (.tmp 16) = .pointer (some ⟨p, 0, none⟩) := hin 16 1 ⟨1, .data⟩ (by kernel_rfl) (by simp) rfl rfl (show (16 : Nat) < 78 by decide)
      refine ⟨fun mx hmx => absurd hmx (by simp [zpos]), fun _ => ?_⟩
      simp [execOp, e0, hcst, go_sem]
    | 3, _ =>
      simp only [List.getElem?_toArray, List.getElem?_cons_zero, List.getElem?_cons_succ, Option.some.injEq] at hi
      subst hi
      have e0 : ev (.tmp 17) = .pointer (some ⟨p, 2, none⟩) := hin 17 2 ⟨2, .data⟩ (by kernel_rfl) (by simp) rfl rfl (show (17 : Nat) < 78 by decide)
      refine ⟨fun mx hmx => absurd hmx (by simp [zpos]), fun _ => ?_⟩
      have q2 : w'.cell? ⟨p, 2, none⟩ = some (.int .i64 (seen : Int)) := (HQ2.out.later hc.bel).cellR 0 rfl
      simp [execOp, e0, hcst, go_sem, q2]
    | 4, _ =>
      simp only [List.getElem?_toArray, List.getElem?_cons_zero, List.getElem?_cons_succ, Option.some.injEq] at hi
      subst hi
      have e0 : ev (.tmp 5) = .slice a n ca := hout 5 (by kernel_rfl) (show (5 : Nat) < 78 by decide)
      refine ⟨fun mx hmx => absurd hmx (by simp [zpos]), fun _ => ?_⟩
      simp [execOp, e0, hcst, go_sem]
    | 5, _ =>
      simp only [List.getElem?_toArray, List.getElem?_cons_zero, List.getElem?_cons_succ, Option.some.injEq] at hi
      subst hi
      have e0 : ev (.tmp 0) = .pointer (some ⟨p, 0, none⟩) := hout 0 (by kernel_rfl) (show (0 : Nat) < 78 by decide)
      refine ⟨fun mx hmx => absurd hmx (by simp [zpos]), fun _ => ?_⟩
      simp [execOp, e0, hcst, go_sem]
    | 6, _ =>
      simp only [List.getElem?_toArray, List.getElem?_cons_zero, List.getElem?_cons_succ, Option.some.injEq] at hi
      subst hi
      have e0 : ev (.tmp 20) = .pointer (some ⟨p, 0, none⟩) := hin 20 5 ⟨5, .data⟩ (by kernel_rfl) (by simp) rfl rfl (show (20 : Nat) < 78 by decide)
      refine ⟨fun mx hmx => absurd hmx (by simp [zpos]), fun _ => ?_⟩
      simp [execOp, e0, hcst, go_sem]
    | 7, _ =>
      simp only [List.getElem?_toArray, List.getElem?_cons_zero, List.getElem?_cons_succ, Option.some.injEq] at hi
      subst hi
      have e0 : ev (.tmp 21) = .pointer (some ⟨p, 0, none⟩) := hin 21 6 ⟨6, .data⟩ (by kernel_rfl) (by simp) rfl rfl (show (21 : Nat) < 78 by decide)
      refine ⟨fun mx hmx => absurd hmx (by simp [zpos]), fun _ => ?_⟩
      simp [execOp, e0, hcst, go_sem]
    | 8, _ =>
      simp only [List.getElem?_toArray, List.getElem?_cons_zero, List.getElem?_cons_succ, Option.some.injEq] at hi
      subst hi
      have e0 : ev (.tmp 22) = .pointer (some ⟨p, 2, none⟩) := hin 22 7 ⟨7, .data⟩ (by kernel_rfl) (by simp) rfl rfl (show (22 : Nat) < 78 by decide)
      refine ⟨fun mx hmx => absurd hmx (by simp [zpos]), fun _ => ?_⟩
      have q2 : w'.cell? ⟨p, 2, none⟩ = some (.int .i64 (seen : Int)) := (HQ2.out.later hc.bel).cellR 0 rfl
      simp [execOp, e0, hcst, go_sem, q2]
    | 9, _ =>
      simp only [List.getElem?_toArray, List.getElem?_cons_zero, List.getElem?_cons_succ, Option.some.injEq] at hi
      subst hi
      have ha0 : us.length ≤ 0 := haft 0 10 rfl (by kernel_rfl)
      have e0 : ev (.tmp 19) = .slice a n ca := hin 19 4 ⟨4, .data⟩ (by kernel_rfl) (by simp) rfl rfl (show (19 : Nat) < 78 by decide)
      have e1 : ev (.tmp 23) = .int .i64 (seen : Int) := hin 23 8 ⟨8, .data⟩ (by kernel_rfl) (by simp) rfl rfl (show (23 : Nat) < 78 by decide)
      refine ⟨fun mx hmx => absurd hmx (by simp [zpos]), fun _ => ?_⟩
      have q1 := HTS.out w'
      simp [execOp, e0, e1, hcst, go_sem, q1]
    | 10, _ =>
      simp only [List.getElem?_toArray, List.getElem?_cons_zero, List.getElem?_cons_succ, Option.some.injEq] at hi
      subst hi
      have e0 : ev (.tmp 24) = .slice a2 ns c2 := hin 24 9 ⟨9, .data⟩ (by kernel_rfl) (by simp) rfl rfl (show (24 : Nat) < 78 by decide)
      refine ⟨fun mx hmx hus => ?_, fun hno => absurd hno (by decide)⟩
      obtain rfl : 0 = mx := Option.some.inj hmx
      have h0 : us = [] := List.eq_nil_of_length_eq_zero hus
      subst h0
      refine .inl (.inr ⟨38, #[.slice a2 ns c2], ?_, HCL.out w' hc⟩)
      have ef := hfn 38
      simp [execOp, resolve, invoke, ef, hcst, e0, Result.andThen]
      exact enter66 _ _
    | 11, _ =>
      simp only [List.getElem?_toArray, List.getElem?_cons_zero, List.getElem?_cons_succ, Option.some.injEq] at hi
      subst hi
      have hb0 : 0 < us.length := hbef 0 10 rfl (by kernel_rfl)
      have e0 : ev (.tmp 18) = .int .i64 (seen : Int) := hin 18 3 ⟨3, .data⟩ (by kernel_rfl) (by simp) rfl rfl (show (18 : Nat) < 78 by decide)
      have e1 : ev (.tmp 25) = us.getD 0 undef := hin 25 10 ⟨10, .data⟩ (by kernel_rfl) (by simp) rfl rfl (show (25 : Nat) < 78 by decide)
      refine ⟨fun mx hmx => absurd hmx (by simp [zpos]), fun _ => ?_⟩
      rw [LnC.fst hc hb0] at e1
      have q1 := HWR.out
      simp [execOp, e0, e1, hcst, go_sem, q1]
    | 12, _ =>
      simp only [List.getElem?_toArray, List.getElem?_cons_zero, List.getElem?_cons_succ, Option.some.injEq] at hi
      subst hi
      have hb0 : 0 < us.length := hbef 0 10 rfl (by kernel_rfl)
      have e0 : ev (.tmp 26) = .int .i64 (q : Int) := hin 26 11 ⟨11, .data⟩ (by kernel_rfl) (by simp) rfl rfl (show (26 : Nat) < 78 by decide)
      refine ⟨fun mx hmx => absurd hmx (by simp [zpos]), fun _ => ?_⟩
      simp [execOp, e0, hcst, go_sem]
  · intro us w7 husl hc
    obtain ⟨rfl, hbb⟩ := LnC.done hc husl
    rw [lexF_same (V' := fun jx => ([.pointer (some ⟨p, 0, none⟩), .pointer (some ⟨p, 0, none⟩), .pointer (some ⟨p, 2, none⟩), .int .i64 (seen : Int), .slice a n ca, .pointer (some ⟨p, 0, none⟩), .pointer (some ⟨p, 0, none⟩), .pointer (some ⟨p, 2, none⟩), .int .i64 (seen : Int), .slice a2 ns c2, .int .i64 (d : Int), .int .i64 (q : Int), .int .i64 (q : Int)] : List Value).getD jx undef) _ 0 _ (fun jx _ hj => by
      have hlt : jx < 13 := by simpa using hj
      match jx, hlt with
      | 0, _ => rfl
      | 1, _ => rfl
      | 2, _ => rfl
      | 3, _ => rfl
      | 4, _ => rfl
      | 5, _ => rfl
      | 6, _ => rfl
      | 7, _ => rfl
      | 8, _ => rfl
      | 9, _ => rfl
      | 10, _ => rfl
      | 11, _ => rfl
      | 12, _ => rfl)]
    simp only [lexF, Act.put, List.setIfInBounds_toArray, List.set_cons_succ, List.set_cons_zero, List.getD_cons_succ, List.getD_cons_zero]
    have HQ3 := hide (HQ2.out.later hbb)
    have HT3 : Hid (w7.heap[w.heap.size]? = some (cmO cmZ (.slice none 0 0))) := (hbb.block _ (lt_of_at _ ⟨_, HT2.out⟩)).trans HT2.out
    have HB3 := hide (HB2.out.trans (hbb.mono HB2.out.size))
    have HSZ : Hid (w.heap.size < w7.heap.size) := lt_of_at _ ⟨_, HT3.out⟩
    clear hbb hc HQ2 HT2 HB2 HCL HTS
    have hcap := HBS.out.cap
    have hcv := Lib.run_convert_bytes_const (P := Try.prog) w7 26 5 #[.int .u8 13] 1 1 Try.underlying26 Try.underlying5
    go_wp2_with fail
    clear hcv
    have HRW := heap_alloc_new w7 (.cells #[.int .u8 13] 5 (1, 2))
    have HB4 : Below w.heap.size w (w7.alloc (.cells #[.int .u8 13] 5 (1, 2))) := HB3.out.alloc HB3.out.size _
    have hk7 : Below w7.heap.size w7 (w7.alloc (.cells #[.int .u8 13] 5 (1, 2))) := (Below.refl _ _).alloc (Nat.le_refl _) _
    have H13 : BS (w7.alloc (.cells #[.int .u8 13] 5 (1, 2))) (some ⟨w7.heap.size, 0, none⟩) 1 1 [13] := ⟨rfl, by omega, fun i hi => ⟨w7.heap.size, 0, rfl, by simp only [World.size_alloc]; omega, by
      obtain rfl : i = 0 := by omega
      exact World.cell?_alloc_mark w7 #[.int .u8 13] 5 (1, 2) 0⟩⟩
    refine Calls.mono (trim_any a (some ⟨w7.heap.size, 0, none⟩) q ca 1 (F.take q) _ (HTX.out.later HB4) H13 (by omega)) ?_
    rintro e w8 ⟨rfl, rfl⟩
    rw [← HTL.out]
    have HQ4 := hide (HQ3.out.later hk7)
    have HT4 : Hid ((w7.alloc (.cells #[.int .u8 13] 5 (1, 2))).heap[w.heap.size]? = some (cmO cmZ (.slice none 0 0))) := (hk7.block _ HSZ.out).trans HT3.out
    have HB5 := hide HB4
    clear HRW HB4 hk7 H13 HQ3 HT3 HB3 HSZ
    generalize w7.alloc (.cells #[.int .u8 13] 5 (1, 2)) = W4 at *
    go_wp2_with fail
    refine (bad_any _ _).mono ?_
    rintro e W5 ⟨rfl, hb⟩
    have HQ5 := HQ4.out.later hb
    have HT5 := (hb.block _ (lt_of_at _ ⟨_, HT4.out⟩)).trans HT4.out
    have HB6 := HB5.out.trans (hb.mono HB5.out.size)
    have hk5 : Below W5.heap.size W5 (W5.alloc (.cells #[.string (badV ⟨#[67, 76, 73, 69, 78, 84, 95, 69, 82, 82, 79, 82, 32, 108, 105, 110, 101, 32, 116, 111, 111, 32, 108, 111, 110, 103]⟩).what, .string (badV ⟨#[67, 76, 73, 69, 78, 84, 95, 69, 82, 82, 79, 82, 32, 108, 105, 110, 101, 32, 116, 111, 111, 32, 108, 111, 110, 103]⟩).verb, .slice none 0 0, .string (badV ⟨#[67, 76, 73, 69, 78, 84, 95, 69, 82, 82, 79, 82, 32, 108, 105, 110, 101, 32, 116, 111, 111, 32, 108, 111, 110, 103]⟩).data, .int .u32 (badV ⟨#[67, 76, 73, 69, 78, 84, 95, 69, 82, 82, 79, 82, 32, 108, 105, 110, 101, 32, 116, 111, 111, 32, 108, 111, 110, 103]⟩).fl, .int .i64 (badV ⟨#[67, 76, 73, 69, 78, 84, 95, 69, 82, 82, 79, 82, 32, 108, 105, 110, 101, 32, 116, 111, 111, 32, 108, 111, 110, 103]⟩).ex, .int .u64 (badV ⟨#[67, 76, 73, 69, 78, 84, 95, 69, 82, 82, 79, 82, 32, 108, 105, 110, 101, 32, 116, 111, 111, 32, 108, 111, 110, 103]⟩).cs, .int .u64 (badV ⟨#[67, 76, 73, 69, 78, 84, 95, 69, 82, 82, 79, 82, 32, 108, 105, 110, 101, 32, 116, 111, 111, 32, 108, 111, 110, 103]⟩).y, .bool (badV ⟨#[67, 76, 73, 69, 78, 84, 95, 69, 82, 82, 79, 82, 32, 108, 105, 110, 101, 32, 116, 111, 111, 32, 108, 111, 110, 103]⟩).wc, .bool (badV ⟨#[67, 76, 73, 69, 78, 84, 95, 69, 82, 82, 79, 82, 32, 108, 105, 110, 101, 32, 116, 111, 111, 32, 108, 111, 110, 103]⟩).wt, .bool (badV ⟨#[67, 76, 73, 69, 78, 84, 95, 69, 82, 82, 79, 82, 32, 108, 105, 110, 101, 32, 116, 111, 111, 32, 108, 111, 110, 103]⟩).dn, .bool (badV ⟨#[67, 76, 73, 69, 78, 84, 95, 69, 82, 82, 79, 82, 32, 108, 105, 110, 101, 32, 116, 111, 111, 32, 108, 111, 110, 103]⟩).q] 33)) := (Below.refl _ _).alloc (Nat.le_refl _) _
    have HQ6 := hide (HQ5.later hk5)
    have HT6 := hide ((hk5.block _ (lt_of_at _ ⟨_, HT5⟩)).trans HT5)
    have HN6 := hide (heap_alloc_new W5 (.cells #[.string (badV ⟨#[67, 76, 73, 69, 78, 84, 95, 69, 82, 82, 79, 82, 32, 108, 105, 110, 101, 32, 116, 111, 111, 32, 108, 111, 110, 103]⟩).what, .string (badV ⟨#[67, 76, 73, 69, 78, 84, 95, 69, 82, 82, 79, 82, 32, 108, 105, 110, 101, 32, 116, 111, 111, 32, 108, 111, 110, 103]⟩).verb, .slice none 0 0, .string (badV ⟨#[67, 76, 73, 69, 78, 84, 95, 69, 82, 82, 79, 82, 32, 108, 105, 110, 101, 32, 116, 111, 111, 32, 108, 111, 110, 103]⟩).data, .int .u32 (badV ⟨#[67, 76, 73, 69, 78, 84, 95, 69, 82, 82, 79, 82, 32, 108, 105, 110, 101, 32, 116, 111, 111, 32, 108, 111, 110, 103]⟩).fl, .int .i64 (badV ⟨#[67, 76, 73, 69, 78, 84, 95, 69, 82, 82, 79, 82, 32, 108, 105, 110, 101, 32, 116, 111, 111, 32, 108, 111, 110, 103]⟩).ex, .int .u64 (badV ⟨#[67, 76, 73, 69, 78, 84, 95, 69, 82, 82, 79, 82, 32, 108, 105, 110, 101, 32, 116, 111, 111, 32, 108, 111, 110, 103]⟩).cs, .int .u64 (badV ⟨#[67, 76, 73, 69, 78, 84, 95, 69, 82, 82, 79, 82, 32, 108, 105, 110, 101, 32, 116, 111, 111, 32, 108, 111, 110, 103]⟩).y, .bool (badV ⟨#[67, 76, 73, 69, 78, 84, 95, 69, 82, 82, 79, 82, 32, 108, 105, 110, 101, 32, 116, 111, 111, 32, 108, 111, 110, 103]⟩).wc, .bool (badV ⟨#[67, 76, 73, 69, 78, 84, 95, 69, 82, 82, 79, 82, 32, 108, 105, 110, 101, 32, 116, 111, 111, 32, 108, 111, 110, 103]⟩).wt, .bool (badV ⟨#[67, 76, 73, 69, 78, 84, 95, 69, 82, 82, 79, 82, 32, 108, 105, 110, 101, 32, 116, 111, 111, 32, 108, 111, 110, 103]⟩).dn, .bool (badV ⟨#[67, 76, 73, 69, 78, 84, 95, 69, 82, 82, 79, 82, 32, 108, 105, 110, 101, 32, 116, 111, 111, 32, 108, 111, 110, 103]⟩).q] 33))
    have HB7 := hide (HB6.trans (hk5.mono HB6.size))
    have HL5 : Hid (w.heap.size < W5.heap.size) := lt_of_at _ ⟨_, HT5⟩
    have HP5 : Hid (p < W5.heap.size) := HQ5.blk.lt
    have hne5 : p ≠ W5.heap.size := by have := HP5.out; omega
    have e3 : (W5.alloc (.cells #[.string (badV ⟨#[67, 76, 73, 69, 78, 84, 95, 69, 82, 82, 79, 82, 32, 108, 105, 110, 101, 32, 116, 111, 111, 32, 108, 111, 110, 103]⟩).what, .string (badV ⟨#[67, 76, 73, 69, 78, 84, 95, 69, 82, 82, 79, 82, 32, 108, 105, 110, 101, 32, 116, 111, 111, 32, 108, 111, 110, 103]⟩).verb, .slice none 0 0, .string (badV ⟨#[67, 76, 73, 69, 78, 84, 95, 69, 82, 82, 79, 82, 32, 108, 105, 110, 101, 32, 116, 111, 111, 32, 108, 111, 110, 103]⟩).data, .int .u32 (badV ⟨#[67, 76, 73, 69, 78, 84, 95, 69, 82, 82, 79, 82, 32, 108, 105, 110, 101, 32, 116, 111, 111, 32, 108, 111, 110, 103]⟩).fl, .int .i64 (badV ⟨#[67, 76, 73, 69, 78, 84, 95, 69, 82, 82, 79, 82, 32, 108, 105, 110, 101, 32, 116, 111, 111, 32, 108, 111, 110, 103]⟩).ex, .int .u64 (badV ⟨#[67, 76, 73, 69, 78, 84, 95, 69, 82, 82, 79, 82, 32, 108, 105, 110, 101, 32, 116, 111, 111, 32, 108, 111, 110, 103]⟩).cs, .int .u64 (badV ⟨#[67, 76, 73, 69, 78, 84, 95, 69, 82, 82, 79, 82, 32, 108, 105, 110, 101, 32, 116, 111, 111, 32, 108, 111, 110, 103]⟩).y, .bool (badV ⟨#[67, 76, 73, 69, 78, 84, 95, 69, 82, 82, 79, 82, 32, 108, 105, 110, 101, 32, 116, 111, 111, 32, 108, 111, 110, 103]⟩).wc, .bool (badV ⟨#[67, 76, 73, 69, 78, 84, 95, 69, 82, 82, 79, 82, 32, 108, 105, 110, 101, 32, 116, 111, 111, 32, 108, 111, 110, 103]⟩).wt, .bool (badV ⟨#[67, 76, 73, 69, 78, 84, 95, 69, 82, 82, 79, 82, 32, 108, 105, 110, 101, 32, 116, 111, 111, 32, 108, 111, 110, 103]⟩).dn, .bool (badV ⟨#[67, 76, 73, 69, 78, 84, 95, 69, 82, 82, 79, 82, 32, 108, 105, 110, 101, 32, 116, 111, 111, 32, 108, 111, 110, 103]⟩).q] 33)).cell? ⟨p, 3, none⟩ = some (.bool over) := HQ6.out.cellR 1 rfl
    have e2 : (W5.alloc (.cells #[.string (badV ⟨#[67, 76, 73, 69, 78, 84, 95, 69, 82, 82, 79, 82, 32, 108, 105, 110, 101, 32, 116, 111, 111, 32, 108, 111, 110, 103]⟩).what, .string (badV ⟨#[67, 76, 73, 69, 78, 84, 95, 69, 82, 82, 79, 82, 32, 108, 105, 110, 101, 32, 116, 111, 111, 32, 108, 111, 110, 103]⟩).verb, .slice none 0 0, .string (badV ⟨#[67, 76, 73, 69, 78, 84, 95, 69, 82, 82, 79, 82, 32, 108, 105, 110, 101, 32, 116, 111, 111, 32, 108, 111, 110, 103]⟩).data, .int .u32 (badV ⟨#[67, 76, 73, 69, 78, 84, 95, 69, 82, 82, 79, 82, 32, 108, 105, 110, 101, 32, 116, 111, 111, 32, 108, 111, 110, 103]⟩).fl, .int .i64 (badV ⟨#[67, 76, 73, 69, 78, 84, 95, 69, 82, 82, 79, 82, 32, 108, 105, 110, 101, 32, 116, 111, 111, 32, 108, 111, 110, 103]⟩).ex, .int .u64 (badV ⟨#[67, 76, 73, 69, 78, 84, 95, 69, 82, 82, 79, 82, 32, 108, 105, 110, 101, 32, 116, 111, 111, 32, 108, 111, 110, 103]⟩).cs, .int .u64 (badV ⟨#[67, 76, 73, 69, 78, 84, 95, 69, 82, 82, 79, 82, 32, 108, 105, 110, 101, 32, 116, 111, 111, 32, 108, 111, 110, 103]⟩).y, .bool (badV ⟨#[67, 76, 73, 69, 78, 84, 95, 69, 82, 82, 79, 82, 32, 108, 105, 110, 101, 32, 116, 111, 111, 32, 108, 111, 110, 103]⟩).wc, .bool (badV ⟨#[67, 76, 73, 69, 78, 84, 95, 69, 82, 82, 79, 82, 32, 108, 105, 110, 101, 32, 116, 111, 111, 32, 108, 111, 110, 103]⟩).wt, .bool (badV ⟨#[67, 76, 73, 69, 78, 84, 95, 69, 82, 82, 79, 82, 32, 108, 105, 110, 101, 32, 116, 111, 111, 32, 108, 111, 110, 103]⟩).dn, .bool (badV ⟨#[67, 76, 73, 69, 78, 84, 95, 69, 82, 82, 79, 82, 32, 108, 105, 110, 101, 32, 116, 111, 111, 32, 108, 111, 110, 103]⟩).q] 33)).cell? ⟨p, 2, none⟩ = some (.int .i64 (seen : Int)) := HQ6.out.cellR 0 rfl
    have g3 : (W5.alloc (.cells #[.string (badV ⟨#[67, 76, 73, 69, 78, 84, 95, 69, 82, 82, 79, 82, 32, 108, 105, 110, 101, 32, 116, 111, 111, 32, 108, 111, 110, 103]⟩).what, .string (badV ⟨#[67, 76, 73, 69, 78, 84, 95, 69, 82, 82, 79, 82, 32, 108, 105, 110, 101, 32, 116, 111, 111, 32, 108, 111, 110, 103]⟩).verb, .slice none 0 0, .string (badV ⟨#[67, 76, 73, 69, 78, 84, 95, 69, 82, 82, 79, 82, 32, 108, 105, 110, 101, 32, 116, 111, 111, 32, 108, 111, 110, 103]⟩).data, .int .u32 (badV ⟨#[67, 76, 73, 69, 78, 84, 95, 69, 82, 82, 79, 82, 32, 108, 105, 110, 101, 32, 116, 111, 111, 32, 108, 111, 110, 103]⟩).fl, .int .i64 (badV ⟨#[67, 76, 73, 69, 78, 84, 95, 69, 82, 82, 79, 82, 32, 108, 105, 110, 101, 32, 116, 111, 111, 32, 108, 111, 110, 103]⟩).ex, .int .u64 (badV ⟨#[67, 76, 73, 69, 78, 84, 95, 69, 82, 82, 79, 82, 32, 108, 105, 110, 101, 32, 116, 111, 111, 32, 108, 111, 110, 103]⟩).cs, .int .u64 (badV ⟨#[67, 76, 73, 69, 78, 84, 95, 69, 82, 82, 79, 82, 32, 108, 105, 110, 101, 32, 116, 111, 111, 32, 108, 111, 110, 103]⟩).y, .bool (badV ⟨#[67, 76, 73, 69, 78, 84, 95, 69, 82, 82, 79, 82, 32, 108, 105, 110, 101, 32, 116, 111, 111, 32, 108, 111, 110, 103]⟩).wc, .bool (badV ⟨#[67, 76, 73, 69, 78, 84, 95, 69, 82, 82, 79, 82, 32, 108, 105, 110, 101, 32, 116, 111, 111, 32, 108, 111, 110, 103]⟩).wt, .bool (badV ⟨#[67, 76, 73, 69, 78, 84, 95, 69, 82, 82, 79, 82, 32, 108, 105, 110, 101, 32, 116, 111, 111, 32, 108, 111, 110, 103]⟩).dn, .bool (badV ⟨#[67, 76, 73, 69, 78, 84, 95, 69, 82, 82, 79, 82, 32, 108, 105, 110, 101, 32, 116, 111, 111, 32, 108, 111, 110, 103]⟩).q] 33)).frozen? ⟨p, 3, none⟩ = false := HQ6.out.blk.frozen 3
    have g2 : (W5.alloc (.cells #[.string (badV ⟨#[67, 76, 73, 69, 78, 84, 95, 69, 82, 82, 79, 82, 32, 108, 105, 110, 101, 32, 116, 111, 111, 32, 108, 111, 110, 103]⟩).what, .string (badV ⟨#[67, 76, 73, 69, 78, 84, 95, 69, 82, 82, 79, 82, 32, 108, 105, 110, 101, 32, 116, 111, 111, 32, 108, 111, 110, 103]⟩).verb, .slice none 0 0, .string (badV ⟨#[67, 76, 73, 69, 78, 84, 95, 69, 82, 82, 79, 82, 32, 108, 105, 110, 101, 32, 116, 111, 111, 32, 108, 111, 110, 103]⟩).data, .int .u32 (badV ⟨#[67, 76, 73, 69, 78, 84, 95, 69, 82, 82, 79, 82, 32, 108, 105, 110, 101, 32, 116, 111, 111, 32, 108, 111, 110, 103]⟩).fl, .int .i64 (badV ⟨#[67, 76, 73, 69, 78, 84, 95, 69, 82, 82, 79, 82, 32, 108, 105, 110, 101, 32, 116, 111, 111, 32, 108, 111, 110, 103]⟩).ex, .int .u64 (badV ⟨#[67, 76, 73, 69, 78, 84, 95, 69, 82, 82, 79, 82, 32, 108, 105, 110, 101, 32, 116, 111, 111, 32, 108, 111, 110, 103]⟩).cs, .int .u64 (badV ⟨#[67, 76, 73, 69, 78, 84, 95, 69, 82, 82, 79, 82, 32, 108, 105, 110, 101, 32, 116, 111, 111, 32, 108, 111, 110, 103]⟩).y, .bool (badV ⟨#[67, 76, 73, 69, 78, 84, 95, 69, 82, 82, 79, 82, 32, 108, 105, 110, 101, 32, 116, 111, 111, 32, 108, 111, 110, 103]⟩).wc, .bool (badV ⟨#[67, 76, 73, 69, 78, 84, 95, 69, 82, 82, 79, 82, 32, 108, 105, 110, 101, 32, 116, 111, 111, 32, 108, 111, 110, 103]⟩).wt, .bool (badV ⟨#[67, 76, 73, 69, 78, 84, 95, 69, 82, 82, 79, 82, 32, 108, 105, 110, 101, 32, 116, 111, 111, 32, 108, 111, 110, 103]⟩).dn, .bool (badV ⟨#[67, 76, 73, 69, 78, 84, 95, 69, 82, 82, 79, 82, 32, 108, 105, 110, 101, 32, 116, 111, 111, 32, 108, 111, 110, 103]⟩).q] 33)).frozen? ⟨p, 2, none⟩ = false := HQ6.out.blk.frozen 2
    clear hb HQ5 HT5 HB6 hk5 HQ4 HT4 HB5
    have HTP5 : Hid (BS (W5.alloc (.cells #[.string (badV ⟨#[67, 76, 73, 69, 78, 84, 95, 69, 82, 82, 79, 82, 32, 108, 105, 110, 101, 32, 116, 111, 111, 32, 108, 111, 110, 103]⟩).what, .string (badV ⟨#[67, 76, 73, 69, 78, 84, 95, 69, 82, 82, 79, 82, 32, 108, 105, 110, 101, 32, 116, 111, 111, 32, 108, 111, 110, 103]⟩).verb, .slice none 0 0, .string (badV ⟨#[67, 76, 73, 69, 78, 84, 95, 69, 82, 82, 79, 82, 32, 108, 105, 110, 101, 32, 116, 111, 111, 32, 108, 111, 110, 103]⟩).data, .int .u32 (badV ⟨#[67, 76, 73, 69, 78, 84, 95, 69, 82, 82, 79, 82, 32, 108, 105, 110, 101, 32, 116, 111, 111, 32, 108, 111, 110, 103]⟩).fl, .int .i64 (badV ⟨#[67, 76, 73, 69, 78, 84, 95, 69, 82, 82, 79, 82, 32, 108, 105, 110, 101, 32, 116, 111, 111, 32, 108, 111, 110, 103]⟩).ex, .int .u64 (badV ⟨#[67, 76, 73, 69, 78, 84, 95, 69, 82, 82, 79, 82, 32, 108, 105, 110, 101, 32, 116, 111, 111, 32, 108, 111, 110, 103]⟩).cs, .int .u64 (badV ⟨#[67, 76, 73, 69, 78, 84, 95, 69, 82, 82, 79, 82, 32, 108, 105, 110, 101, 32, 116, 111, 111, 32, 108, 111, 110, 103]⟩).y, .bool (badV ⟨#[67, 76, 73, 69, 78, 84, 95, 69, 82, 82, 79, 82, 32, 108, 105, 110, 101, 32, 116, 111, 111, 32, 108, 111, 110, 103]⟩).wc, .bool (badV ⟨#[67, 76, 73, 69, 78, 84, 95, 69, 82, 82, 79, 82, 32, 108, 105, 110, 101, 32, 116, 111, 111, 32, 108, 111, 110, 103]⟩).wt, .bool (badV ⟨#[67, 76, 73, 69, 78, 84, 95, 69, 82, 82, 79, 82, 32, 108, 105, 110, 101, 32, 116, 111, 111, 32, 108, 111, 110, 103]⟩).dn, .bool (badV ⟨#[67, 76, 73, 69, 78, 84, 95, 69, 82, 82, 79, 82, 32, 108, 105, 110, 101, 32, 116, 111, 111, 32, 108, 111, 110, 103]⟩).q] 33)) a tl ca TX) := HTP.out.later HB7.out
    have hcs := str_bs HTP5.out
    go_wp2_with fail
    refine (one_any (mk8 TX) _ HTS8.out).mono ?_
    rintro e W9 ⟨a', n', c', rfl, hrow, hb⟩
    clear hcs
    have Q9 := HQ6.out.later hb
    have T9 := (hb.block _ (lt_of_at _ ⟨_, HT6.out⟩)).trans HT6.out
    have N9 : W9.heap[W5.heap.size]? = some (cmO (badC longT) (.slice none 0 0)) := (hb.block _ (lt_of_at _ ⟨_, HN6.out⟩)).trans HN6.out
    have B9 := HB7.out.trans (hb.mono HB7.out.size)
    obtain ⟨r, hr⟩ : ∃ r, r = (oneB (mk8 TX)).1 := ⟨_, rfl⟩
    obtain ⟨sz, hsz⟩ : ∃ sz, sz = sizeI (oneB (mk8 TX)).2 := ⟨_, rfl⟩
    rw [← hr, ← hsz]
    rw [← hr] at hrow
    have HR := hide hr
    have HSZ := hide hsz
    clear hr hsz hb e3 e2 g3 g2 HTP5
    have HTh := there_cmz N9
    simp only []
    go_step
    go_step
    go_step
    go_step
    go_step
    go_step
    go_step
    go_step
    go_step
    go_step
    refine store_stepA (r := r) (a := a') (n := n') (c := c') rfl _ _ rfl W5.heap.size rfl rfl HTh ?_
    have hkc := keep_cm W9 W5.heap.size r (.slice a' n' c')
    have QX := QAt.far Q9 hkc (fun k hk => by simp only [List.mem_singleton] at hk; subst hk; exact ⟨fun e => hne5 e.symm, cm_no5 N9⟩)
    have TX9 := (hkc.block _ (lt_of_at _ ⟨_, T9⟩) (by have := HL5.out; simp; omega)).trans T9
    have NX9 := heap_cm N9 r (.slice a' n' c')
    have RX := keep_row hrow N9 r (.slice a' n' c')
    have BX : Below w.heap.size w (W9.setCells W5.heap.size 0 (cmL r (.slice a' n' c'))) := below_cm (w0 := w) B9 (Nat.le_of_lt HL5.out) r (.slice a' n' c')
    clear hkc Q9 T9 N9 B9 HTh hrow
    generalize W9.setCells W5.heap.size 0 (cmL r (.slice a' n' c')) = X at *
    have e3 : X.cell? ⟨p, 3, none⟩ = some (.bool over) := QX.cellR 1 rfl
    have e2 : X.cell? ⟨p, 2, none⟩ = some (.int .i64 (seen : Int)) := QX.cellR 0 rfl
    have g3 : X.frozen? ⟨p, 3, none⟩ = false := QX.blk.frozen 3
    have g2 : X.frozen? ⟨p, 2, none⟩ = false := QX.blk.frozen 2
    have HQX := hide QX
    have HTX9 := hide TX9
    have HNX9 := hide NX9
    have HRX := hide RX
    have HBX := hide BX
    clear QX TX9 NX9 RX BX
    go_wp2_with fail
    have HQ7 : QAt ((X.setCell ⟨p, 3, none⟩ (.bool false)).setCell ⟨p, 2, none⟩ (.int .i64 0)) p v beg (pR 0 false c kv left gone) 51 F N := (HQX.out.setR 1 (.bool false)).setR 0 (.int .i64 0)
    refine Calls.mono (use_any _ p v beg k N _ 51 F HQ7 (by decide) (by rw [← HN.out]; exact hkn) hN) ?_
    rintro e W8 ⟨rfl, v', beg', Q8, k8, o8⟩
    have hkk : Keep [p] X ((X.setCell ⟨p, 3, none⟩ (.bool false)).setCell ⟨p, 2, none⟩ (.int .i64 0)) := ((Keep.refl _ _).setCell (.inl (by simp)) _).setCell (.inl (by simp)) _
    have hk8 := hkk.trans k8 (fun x hx => .inl hx)
    have T8 : W8.heap[w.heap.size]? = some (cmO cmZ (.slice none 0 0)) := (hk8.block _ (lt_of_at _ ⟨_, HTX9.out⟩) (by have := HP.out; simp; omega)).trans HTX9.out
    have N8 : W8.heap[W5.heap.size]? = some (cmO r (.slice a' n' c')) := (hk8.block _ (lt_of_at _ ⟨_, HNX9.out⟩) (by simp; omega)).trans HNX9.out
    have HR8 : Hid (RowT W8 a' n' r.keys) := HRX.out.keepF (fun x hx hxp => by
      obtain ⟨cs, fz, hc⟩ := HRX.out.kind x hx
      simp only [List.mem_singleton] at hxp
      rw [hxp, HQX.out.blk] at hc
      simp at hc) hk8
    have HK8 : Hid (Keep [p] w W8) := (Keep.of_below HBX.out).trans hk8 (fun x hx => .inl hx)
    have HO8 : Hid (∀ g, v'.ownBlock = some g → v.ownBlock = some g ∨ w.heap.size ≤ g) := fun g hg => (o8 g hg).imp id (fun h => by
      have h1 : ((X.setCell ⟨p, 3, none⟩ (.bool false)).setCell ⟨p, 2, none⟩ (.int .i64 0)).heap.size = X.heap.size := by rw [nblk_setCell, nblk_setCell]
      rw [h1] at h
      exact Nat.le_trans HBX.out.size h)
    have HQ8 := hide Q8
    have HT8 := hide T8
    obtain ⟨p0, p1, p2, p3, p4, p5, p6, p7, p8, p9, p10, p11⟩ := CmAt.of N8
    have hP := HP.out
    obtain ⟨q0, q1, q2, q3, q4, q5, q6, q7, q8, q9, q10, q11⟩ := CmAt.of T8
    obtain ⟨j0, j1, j2, j3, j4, j5, j6, j7, j8, j9, j10, j11⟩ := CmFz.of T8
    clear Q8 k8 o8 hkk hk8 T8 N8 HQ7 e3 e2 g3 g2
    go_wp2
    rw [set12]
    have HH := heap_cm HT8.out r (.slice a' n' c')
    have HKK := keep_cm W8 w.heap.size r (.slice a' n' c')
    have HQ9 := QAt.far HQ8.out HKK (fun k hk => by simp only [List.mem_singleton] at hk; subst hk; exact ⟨by omega, cm_no5 HT8.out⟩)
    have HR9 := keep_row HR8.out HT8.out r (.slice a' n' c')
    refine ret_cm3 rfl w.heap.size r (.slice a' n' c') rfl HH rfl ?_
    have hkend : k = endP F + 1 := by have := HKE.out; have h2 := HDE.out; simp at h2; have := endP_le F; omega
    have hr1 : (oneP TX).1 = r := HR.out.symm
    have hr2 : sizeI (oneP TX).2 = sz := HSZ.out.symm
    rw [← hkend]
    exact ⟨a', n', c', v', beg', by rw [hr1, hr2]; rfl, by rw [hr1]; exact HR9, HQ9, HK8.out.trans HKK (fun x hx => .inr (by simp only [List.mem_singleton] at hx; omega)), HO8.out⟩
end Go.Proofs.Ytmfjaehajdephab
