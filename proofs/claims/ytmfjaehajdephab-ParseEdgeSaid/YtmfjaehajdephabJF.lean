/- Texts joined. -/
import Derived.Test.YtmfjaehajdephabJE
import Derived.Test.YtmfjaehajdephabJD
import Derived.Lib.SlBytesConst
/-
  Small things for line and data.
-/
namespace Go.Proofs.Ytmfjaehajdephab
open Go.Shelf Go.RowKit Go.Deep
set_option linter.unusedVariables false
set_option linter.unusedSimpArgs false
set_option maxRecDepth 1000000

theorem BS.pre {w : World} {a : Option Addr} {n cap : Nat} {l : List UInt8} (h : BS w a n cap l) (k : Nat) (hk : k ≤ n) : BS w a k cap (l.take k) :=
  ⟨by rw [List.length_take, ← h.len]; omega, by have := h.cap; omega, fun i hi => by
    obtain ⟨b, off, ha, hb, hc⟩ := h.cell i (by omega)
    refine ⟨b, off, ha, hb, ?_⟩
    rw [hc]
    simp only [List.getD_eq_getElem?_getD]
    rw [List.getElem?_take_of_lt hi]⟩
theorem run_head (a : Option Addr) (n cap k : Nat) (hk : k ≤ cap) (X : World) : (Instr.sliceAt 26 (.slice a n cap) none (some (.int .i64 (k : Int))) none).run Try.prog X = .ok (.slice a k cap) X := by
  cases a with
  | none =>
    simp [go_sem]
    intro h
    omega
  | some x =>
    simp [go_sem]
    intro h
    omega
theorem tail_bs {w : World} {a : Option Addr} {n cap : Nat} {l : List UInt8} (h : BS w a n cap l) (ha : ∀ x, a = some x → x.spot = none) (K : Nat) (hk : K ≤ n) (hz : a = none → cap = 0) : ∃ a' c',
    (∀ X, (Instr.sliceAt 26 (.slice a n cap) (some (.int .i64 (K : Int))) none none).run Try.prog X = .ok (.slice a' (n - K) c') X) ∧ BS w a' (n - K) c' (l.drop K) := by
  have hc := h.cap
  have hl := h.len
  cases a with
  | none =>
    obtain rfl := hz rfl
    obtain rfl : n = 0 := by omega
    obtain rfl : K = 0 := by omega
    exact ⟨none, 0, fun X => by simp [go_sem], by simpa using h⟩
  | some x =>
    obtain ⟨b, off, sp⟩ := x
    have := ha _ rfl
    simp only at this
    subst this
    by_cases hc2 : cap = K
    · have hnn : n = K := by omega
      subst hnn
      subst hc2
      refine ⟨some ⟨b, off, none⟩, 0, fun X => by simp [go_sem], ?_⟩
      exact ⟨by rw [List.length_drop, ← hl], by omega, fun i hi => by omega⟩
    · refine ⟨some ⟨b, off + K, none⟩, cap - K, fun X => ?_, ?_⟩
      · simp [go_sem]
        rw [if_pos (by omega), if_neg hc2]
      · have := h.sub K n (some ⟨b, off + K, none⟩) (cap - K) hk (Nat.le_refl _) (fun _ => rfl) (by omega)
        rwa [List.take_of_length_le (by rw [hl]; exact Nat.le_refl _)] at this
theorem cutP_take (l : List UInt8) : cutP l = l.take (cutP l).length := by
  unfold cutP
  split
  · rw [List.dropLast_eq_take, List.length_take]
    congr 1
    omega
  · rw [List.take_length]
theorem endP_seen (F : List UInt8) (s : Nat) (hs : s ≤ F.length) (h : ∀ x ∈ F.take s, x ≠ 10) : endP F = s + endP (F.drop s) := endP_skip F s hs h
theorem ret_cm3 {f : Func} {k u v : Tmp} (hres : f.results = #[.cell k 33, .tmp u, .tmp v]) {a : Act} {w : World} {R : Ending → World → Prop} (b : Nat) (c : Cm) (x : Value)
    (hp : a.tmps.getD k undef = .pointer (some ⟨b, 0, none⟩)) (h : w.heap[b]? = some (cmO c x)) (hd : a.defers = []) (hR : R (.returned (.tuple #[cmV c x, a.tmps.getD u undef, a.tmps.getD v undef])) w) : bodyPost Try.prog f R .ret a w := by
  refine bodyPost_ret ?_ hd hR
  have hp' : a.tmps[k]?.getD undef = .pointer (some ⟨b, 0, none⟩) := by simpa using hp
  simp [results, hres, hp', asAddr, run_loadVar_row w b 33 33 _ (0, 0) _ h Try.underlying33 rfl size27]
end Go.Proofs.Ytmfjaehajdephab

/-
  line of a parser: it waits.
-/
namespace Go.Proofs.Ytmfjaehajdephab
open Go.Shelf Go.RowKit Go.Deep
set_option linter.unusedVariables false
set_option linter.unusedSimpArgs false
set_option maxRecDepth 1000000

/-- Behind the call of 'ending': its answer, nothing turned below. -/
def LnC (w : World) (e1 : Int) : List Value → World → Prop
  | [], W => W.heap = w.heap ∧ Below w.heap.size w W
  | [u], W => u = .int .i64 e1 ∧ Below w.heap.size w W
  | _, _ => False
theorem LnC.bel {w : World} {e1 : Int} {us : List Value} {W : World} (h : LnC w e1 us W) : Below w.heap.size w W := by
  match us, h with
  | [], h => exact h.2
  | [_], h => exact h.2
theorem LnC.fst {w : World} {e1 : Int} {us : List Value} {W : World} (h : LnC w e1 us W) (h0 : 0 < us.length) : us.getD 0 undef = .int .i64 e1 := by
  match us, h with
  | [], _ => cases h0
  | [_], h => exact h.1
theorem LnC.done {w : World} {e1 : Int} {us : List Value} {W : World} (h : LnC w e1 us W) (hl : us.length = 1) : us = [.int .i64 e1] ∧ Below w.heap.size w W := by
  match us, h with
  | [u], h => obtain ⟨h1, h2⟩ := h; subst h1; exact ⟨rfl, h2⟩
  | [], _ => cases hl
theorem enter66 : Enters Try.prog 38 := enters_of Try.func38 (by kernel_rfl) rfl
theorem cm_no5 {w : World} {b : Nat} {c : Cm} {v : Value} (h : w.heap[b]? = some (cmO c v)) : ∀ cs fz, w.heap[b]? ≠ some (.cells cs 5 fz) := fun cs fz hq => by
  rw [h] at hq
  simp at hq
/-- Blocks far from a queue are turned. -/
theorem QAt.far {w W : World} {G : List Nat} {p : Nat} {v : Value} {beg : Nat} {R : List Value} {t : TypeId} {F : List UInt8} {N : Nat} (h : QAt w p v beg R t F N) (k : Keep G w W) (hG : ∀ x ∈ G, x ≠ p ∧ ∀ cs fz, w.heap[x]? ≠ some (.cells cs 5 fz)) : QAt W p v beg R t F N := by
  obtain ⟨a, n, cap, L, hv, ho, r⟩ := h.row
  refine ⟨h.blk.same (k.block p h.blk.lt (fun hp => (hG p hp).1 rfl)), a, n, cap, L, hv, own_same ho (fun g hg => k.block g (own_ge ho g hg).2.1 (fun hgG => ?_)), r⟩
  obtain ⟨_, _, cs, fz, hc⟩ := own_ge ho g hg
  exact (hG g hgG).2 cs fz hc
set_option maxHeartbeats 400000 in
theorem line_wait (w : World) (p : Nat) (v : Value) (beg seen : Nat) (over : Bool) (c : Cm) (kv : Value) (left gone : Nat) (F : List UInt8) (N : Nat) (h : PM w p v beg seen over c kv left gone F N) (hN : N ≤ 1000000) (hsn : seen ≤ F.length) (hno : ∀ x ∈ F.take seen, x ≠ 10) (hA : endP F = F.length) (hB2 : (cutP F).length ≤ 2048) :
    Calls Try.prog 22 #[.pointer (some ⟨p, 0, none⟩)] w fun e w' => e = .returned (.tuple #[cmV cmZ (.slice none 0 0), .int .i64 (-1), .bool false]) ∧ ∃ v' beg', PM w' p v' beg' F.length over c kv left gone F N ∧ PMv w p v v' w' := by
  obtain ⟨a, ca, hB, hFN, hoff, hspot, hnil, hall⟩ := QAt.all h
  have hqs := endP_seen F seen hsn hno
  obtain ⟨a2, c2, hts, hTB⟩ := tail_bs hB hspot seen hsn hnil
  have hen := endP_le F
  obtain ⟨n, hn⟩ : ∃ n, n = F.length := ⟨_, rfl⟩
  obtain ⟨q, hq⟩ : ∃ q, q = endP F := ⟨_, rfl⟩
  obtain ⟨d, hd⟩ : ∃ d, d = endP (F.drop seen) := ⟨_, rfl⟩
  rw [← hn] at hB hall hen hsn hts hTB
  rw [← hq] at hqs hen
  rw [← hd] at hqs
  have hF : n ≤ 1000000 := by omega
  have HQS := hide hqs
  obtain ⟨tl, htl⟩ : ∃ tl, tl = (cutP (F.take q)).length := ⟨_, rfl⟩
  have htq : tl ≤ q := by
    have := cutP_len (F.take q)
    rw [List.length_take, ← hn] at this
    omega
  have hh1 := run_head a n ca q (by have := hB.cap; omega)
  have hTX := hB.pre q hen
  have hwr : IntKind.i64.wrap ((seen : Int) + (d : Int)) = (q : Int) := by rw [IntKind.wrap_i64]; omega
  clear hqs
  have B0 := (Below.refl w.heap.size w).alloc (Nat.le_refl _) (cmO cmZ (.slice none 0 0))
  have HQ1 := hide (QAt.later h B0)
  have HT1 := hide (heap_alloc_new w (cmO cmZ (.slice none 0 0)))
  have HP := hide h.blk.lt
  have HALL := hide hall
  have HTS : Hid (∀ X, (Instr.sliceAt 26 (.slice a n ca) (some (.int .i64 (seen : Int))) none none).run Try.prog X = .ok (.slice a2 (n - seen) c2) X) := hts
  have HTB := hide hTB
  have HTX := hide hTX
  have HWR := hide hwr
  have HN := hide hn
  have HQQ := hide hq
  have HDD := hide hd
  have HTL := hide htl
  have HB0 := hide B0
  have HBS := hide hB
  have htlb : tl ≤ 2048 := by rw [htl, hq, hA, List.take_length]; exact hB2
  have hqn : Hid (q = n) := by show q = n; rw [hq, hn]; exact hA
  clear hA hB2
  rw [← hn]
  have hwh : ((q : Int) < (n : Int)) = False := by have := hqn.out; simp; omega
  have htb : (tl : Int) ≤ 2048 := by omega
  clear h hall hB hts hTB hTX hn hq hd htl B0 hoff hspot hnil hno
  obtain ⟨ns, hns⟩ : ∃ ns, ns = n - seen := ⟨_, rfl⟩
  rw [← hns] at HTS HTB
  have hns6 : ns ≤ 1000000 := by omega
  clear hns
  go_enter Try.func22, Try.ntmps22
  go_wp2_with fail
  refine Calls.mono (HALL.out _ ?_) ?_
  · exact HQ1.out.blk
  rintro e w1 ⟨rfl, m, rfl⟩
  go_wp2
  obtain ⟨W0, hW0⟩ : ∃ W0, W0 = ((w.alloc (.cells #[.string ⟨#[]⟩, .string ⟨#[]⟩, .slice none 0 0, .string ⟨#[]⟩, .int .u32 0, .int .i64 0, .int .u64 0, .int .u64 0, .bool false, .bool false, .bool false, .bool false] 33)).drewN m) := ⟨_, rfl⟩
  rw [← hW0]
  have HQ2 : Hid (QAt W0 p v beg (pR seen over c kv left gone) 51 F N) := by rw [hW0]; exact HQ1.out.drewN m
  have HT2 : Hid (W0.heap[w.heap.size]? = some (cmO cmZ (.slice none 0 0))) := by rw [hW0]; exact HT1.out
  have HB2 : Hid (Below w.heap.size w W0) := by rw [hW0]; exact HB0.out.trans ((below_drewN _ m _))
  have HTB2 : Hid (∀ W, Below W0.heap.size W0 W → BS W a2 ns c2 (F.drop seen)) := fun W hW => by
    refine BS.later ?_ hW
    have := HTB.out.later (HB2.out.mono (Nat.le_refl _))
    exact this
  clear hW0 HQ1 HT1 HB0
  have HCL : Hid (∀ W, LnC W0 (d : Int) [] W → Calls Try.prog 38 #[.slice a2 ns c2] W fun e w2 => ∃ v, e = .returned v ∧ LnC W0 (d : Int) ([] ++ [v]) w2) := fun W hc => by
    refine (ending_any a2 ns c2 (F.drop seen) W (HTB2.out W hc.2) hns6).mono ?_
    rintro e w2 ⟨rfl, hb⟩
    refine ⟨_, rfl, ?_, hc.2.trans (hb.mono hc.2.size)⟩
    rw [← HDD.out]
  clear HTB2 HTB
  refine wp_region_liy (by kernel_rfl) (by kernel_rfl) (fun jx => ([.pointer (some ⟨p, 0, none⟩), .pointer (some ⟨p, 0, none⟩), .pointer (some ⟨p, 2, none⟩), .int .i64 (seen : Int), .slice a n ca, .pointer (some ⟨p, 0, none⟩), .pointer (some ⟨p, 0, none⟩), .pointer (some ⟨p, 2, none⟩), .int .i64 (seen : Int), .slice a2 ns c2, undef, .int .i64 (q : Int), .int .i64 (q : Int)] : List Value).getD jx undef) [10] (by kernel_rfl) (by decide) (by decide) (LnC W0 (d : Int)) (⟨rfl, (Below.refl _ _).drew⟩) ?_ ?_
  · intro jx ox hi us w' ev hc hul hbef haft hin hout hold hcst hfn
    have hltx : jx < 13 := by
      have := (Array.getElem?_eq_some_iff.1 hi).1
      simpa using this
    match jx, hltx with
    | 0, _ =>
      simp only [List.getElem?_toArray, List.getElem?_cons_zero, List.getElem?_cons_succ, Option.some.injEq] at hi
      subst hi
      have e0 : ev (.tmp 0) = .pointer (some ⟨p, 0, none⟩) := hout 0 (by kernel_rfl) (show (0 : Nat) < 78 by decide)
      refine ⟨fun mx hmx => absurd hmx (by simp [zpos]), fun _ => ?_⟩
      simp [execOp, e0, hcst, go_sem]
    | 1, _ =>
      simp only [List.getElem?_toArray, List.getElem?_cons_zero, List.getElem?_cons_succ, Option.some.injEq] at hi
      subst hi
      have e0 : ev (.tmp 15) = .pointer (some ⟨p, 0, none⟩) := hin 15 0 ⟨0, .data⟩ (by kernel_rfl) (by simp) rfl rfl (show (15 : Nat) < 78 by decide)
      refine ⟨fun mx hmx => absurd hmx (by simp [zpos]), fun _ => ?_⟩
      simp [execOp, e0, hcst, go_sem]
    | 2, _ =>
      simp only [List.getElem?_toArray, List.getElem?_cons_zero, List.getElem?_cons_succ, Option.some.injEq] at hi
      subst hi
      have e0 : ev (.tmp 16) = .pointer (some ⟨p, 0, none⟩) := hin 16 1 ⟨1, .data⟩ (by kernel_rfl) (by simp) rfl rfl (show (16 : Nat) < 78 by decide)
      refine ⟨fun mx hmx => absurd hmx (by simp [zpos]), fun _ => ?_⟩
      simp [execOp, e0, hcst, go_sem]
    | 3, _ =>
      simp only [List.getElem?_toArray, List.getElem?_cons_zero, List.getElem?_cons_succ, Option.some.injEq] at hi
      subst hi
      have e0 : ev (.tmp 17) = .pointer (some ⟨p, 2, none⟩) := hin 17 2 ⟨2, .data⟩ (by kernel_rfl) (by simp) rfl rfl (show (17 : Nat) < 78 by decide)
      refine ⟨fun mx hmx => absurd hmx (by simp [zpos]), fun _ => ?_⟩
      have q2 : w'.cell? ⟨p, 2, none⟩ = some (.int .i64 (seen : Int)) := (HQ2.out.later hc.bel).cellR 0 rfl
      simp [execOp, e0, hcst, go_sem, q2]
    | 4, _ =>
      simp only [List.getElem?_toArray, List.getElem?_cons_zero, List.getElem?_cons_succ, Option.some.injEq] at hi
      subst hi
      have e0 : ev (.tmp 5) = .slice a n ca := hout 5 (by kernel_rfl) (show (5 : Nat) < 78 by decide)
      refine ⟨fun mx hmx => absurd hmx (by simp [zpos]), fun _ => ?_⟩
      simp [execOp, e0, hcst, go_sem]
    | 5, _ =>
      simp only [List.getElem?_toArray, List.getElem?_cons_zero, List.getElem?_cons_succ, Option.some.injEq] at hi
      subst hi
      have e0 : ev (.tmp 0) = .pointer (some ⟨p, 0, none⟩) := hout 0 (by kernel_rfl) (show (0 : Nat) < 78 by decide)
      refine ⟨fun mx hmx => absurd hmx (by simp [zpos]), fun _ => ?_⟩
      simp [execOp, e0, hcst, go_sem]
    | 6, _ =>
      simp only [List.getElem?_toArray, List.getElem?_cons_zero, List.getElem?_cons_succ, Option.some.injEq] at hi
      subst hi
      have e0 : ev (.tmp 20) = .pointer (some ⟨p, 0, none⟩) := hin 20 5 ⟨5, .data⟩ (by kernel_rfl) (by simp) rfl rfl (show (20 : Nat) < 78 by decide)
      refine ⟨fun mx hmx => absurd hmx (by simp [zpos]), fun _ => ?_⟩
      simp [execOp, e0, hcst, go_sem]
    | 7, _ =>
      simp only [List.getElem?_toArray, List.getElem?_cons_zero, List.getElem?_cons_succ, Option.some.injEq] at hi
      subst hi
      have e0 : ev (.tmp 21) = .pointer (some ⟨p, 0, none⟩) := hin 21 6 ⟨6, .data⟩ (by kernel_rfl) (by simp) rfl rfl (show (21 : Nat) < 78 by decide)
      refine ⟨fun mx hmx => absurd hmx (by simp [zpos]), fun _ => ?_⟩
      simp [execOp, e0, hcst, go_sem]
    | 8, _ =>
      simp only [List.getElem?_toArray, List.getElem?_cons_zero, List.getElem?_cons_succ, Option.some.injEq] at hi
      subst hi
      have e0 : ev (.tmp 22) = .pointer (some ⟨p, 2, none⟩) := hin 22 7 ⟨7, .data⟩ (by kernel_rfl) (by simp) rfl rfl (show (22 : Nat) < 78 by decide)
      refine ⟨fun mx hmx => absurd hmx (by simp [zpos]), fun _ => ?_⟩
      have q2 : w'.cell? ⟨p, 2, none⟩ = some (.int .i64 (seen : Int)) := (HQ2.out.later hc.bel).cellR 0 rfl
      simp [execOp, e0, hcst, go_sem, q2]
    | 9, _ =>
      simp only [List.getElem?_toArray, List.getElem?_cons_zero, List.getElem?_cons_succ, Option.some.injEq] at hi
      subst hi
      have ha0 : us.length ≤ 0 := haft 0 10 rfl (by kernel_rfl)
      have e0 : ev (.tmp 19) = .slice a n ca := hin 19 4 ⟨4, .data⟩ (by kernel_rfl) (by simp) rfl rfl (show (19 : Nat) < 78 by decide)
      have e1 : ev (.tmp 23) = .int .i64 (seen : Int) := hin 23 8 ⟨8, .data⟩ (by kernel_rfl) (by simp) rfl rfl (show (23 : Nat) < 78 by decide)
      refine ⟨fun mx hmx => absurd hmx (by simp [zpos]), fun _ => ?_⟩
      have q1 := HTS.out w'
      simp [execOp, e0, e1, hcst, go_sem, q1]
    | 10, _ =>
      simp only [List.getElem?_toArray, List.getElem?_cons_zero, List.getElem?_cons_succ, Option.some.injEq] at hi
      subst hi
      have e0 : ev (.tmp 24) = .slice a2 ns c2 := hin 24 9 ⟨9, .data⟩ (by kernel_rfl) (by simp) rfl rfl (show (24 : Nat) < 78 by decide)
      refine ⟨fun mx hmx hus => ?_, fun hno => absurd hno (by decide)⟩
      obtain rfl : 0 = mx := Option.some.inj hmx
      have h0 : us = [] := List.eq_nil_of_length_eq_zero hus
      subst h0
      refine .inl (.inr ⟨38, #[.slice a2 ns c2], ?_, HCL.out w' hc⟩)
      have ef := hfn 38
      simp [execOp, resolve, invoke, ef, hcst, e0, Result.andThen]
      exact enter66 _ _
    | 11, _ =>
      simp only [List.getElem?_toArray, List.getElem?_cons_zero, List.getElem?_cons_succ, Option.some.injEq] at hi
      subst hi
      have hb0 : 0 < us.length := hbef 0 10 rfl (by kernel_rfl)
      have e0 : ev (.tmp 18) = .int .i64 (seen : Int) := hin 18 3 ⟨3, .data⟩ (by kernel_rfl) (by simp) rfl rfl (show (18 : Nat) < 78 by decide)
      have e1 : ev (.tmp 25) = us.getD 0 undef := hin 25 10 ⟨10, .data⟩ (by kernel_rfl) (by simp) rfl rfl (show (25 : Nat) < 78 by decide)
      refine ⟨fun mx hmx => absurd hmx (by simp [zpos]), fun _ => ?_⟩
      rw [LnC.fst hc hb0] at e1
      have q1 := HWR.out
      simp [execOp, e0, e1, hcst, go_sem, q1]
    | 12, _ =>
      simp only [List.getElem?_toArray, List.getElem?_cons_zero, List.getElem?_cons_succ, Option.some.injEq] at hi
      subst hi
      have hb0 : 0 < us.length := hbef 0 10 rfl (by kernel_rfl)
      have e0 : ev (.tmp 26) = .int .i64 (q : Int) := hin 26 11 ⟨11, .data⟩ (by kernel_rfl) (by simp) rfl rfl (show (26 : Nat) < 78 by decide)
      refine ⟨fun mx hmx => absurd hmx (by simp [zpos]), fun _ => ?_⟩
      simp [execOp, e0, hcst, go_sem]
  · intro us w7 husl hc
    obtain ⟨rfl, hbb⟩ := LnC.done hc husl
    rw [lexF_same (V' := fun jx => ([.pointer (some ⟨p, 0, none⟩), .pointer (some ⟨p, 0, none⟩), .pointer (some ⟨p, 2, none⟩), .int .i64 (seen : Int), .slice a n ca, .pointer (some ⟨p, 0, none⟩), .pointer (some ⟨p, 0, none⟩), .pointer (some ⟨p, 2, none⟩), .int .i64 (seen : Int), .slice a2 ns c2, .int .i64 (d : Int), .int .i64 (q : Int), .int .i64 (q : Int)] : List Value).getD jx undef) _ 0 _ (fun jx _ hj => by
      have hlt : jx < 13 := by simpa using hj
      match jx, hlt with
      | 0, _ => rfl
      | 1, _ => rfl
      | 2, _ => rfl
      | 3, _ => rfl
      | 4, _ => rfl
      | 5, _ => rfl
      | 6, _ => rfl
      | 7, _ => rfl
      | 8, _ => rfl
      | 9, _ => rfl
      | 10, _ => rfl
      | 11, _ => rfl
      | 12, _ => rfl)]
    simp only [lexF, Act.put, List.setIfInBounds_toArray, List.set_cons_succ, List.set_cons_zero, List.getD_cons_succ, List.getD_cons_zero]
    have HQ3 := hide (HQ2.out.later hbb)
    have HT3 : Hid (w7.heap[w.heap.size]? = some (cmO cmZ (.slice none 0 0))) := (hbb.block _ (lt_of_at _ ⟨_, HT2.out⟩)).trans HT2.out
    have HB3 := hide (HB2.out.trans (hbb.mono HB2.out.size))
    have HSZ : Hid (w.heap.size < w7.heap.size) := lt_of_at _ ⟨_, HT3.out⟩
    clear hbb hc HQ2 HT2 HB2 HCL HTS
    have hcap := HBS.out.cap
    have hcv := Lib.run_convert_bytes_const (P := Try.prog) w7 26 5 #[.int .u8 13] 1 1 Try.underlying26 Try.underlying5
    go_wp2_with fail
    clear hcv
    have HRW := heap_alloc_new w7 (.cells #[.int .u8 13] 5 (1, 2))
    have HB4 : Below w.heap.size w (w7.alloc (.cells #[.int .u8 13] 5 (1, 2))) := HB3.out.alloc HB3.out.size _
    have hk7 : Below w7.heap.size w7 (w7.alloc (.cells #[.int .u8 13] 5 (1, 2))) := (Below.refl _ _).alloc (Nat.le_refl _) _
    have H13 : BS (w7.alloc (.cells #[.int .u8 13] 5 (1, 2))) (some ⟨w7.heap.size, 0, none⟩) 1 1 [13] := ⟨rfl, by omega, fun i hi => ⟨w7.heap.size, 0, rfl, by simp only [World.size_alloc]; omega, by
      obtain rfl : i = 0 := by omega
      exact World.cell?_alloc_mark w7 #[.int .u8 13] 5 (1, 2) 0⟩⟩
    refine Calls.mono (trim_any a (some ⟨w7.heap.size, 0, none⟩) q ca 1 (F.take q) _ (HTX.out.later HB4) H13 (by omega)) ?_
    rintro e w8 ⟨rfl, rfl⟩
    rw [← HTL.out]
    have HQ4 := hide (HQ3.out.later hk7)
    have HT4 : Hid ((w7.alloc (.cells #[.int .u8 13] 5 (1, 2))).heap[w.heap.size]? = some (cmO cmZ (.slice none 0 0))) := (hk7.block _ HSZ.out).trans HT3.out
    have HB5 := hide HB4
    clear HRW HB4 hk7 H13 HQ3 HT3 HB3 HSZ
    generalize w7.alloc (.cells #[.int .u8 13] 5 (1, 2)) = W4 at *
    have f2 : W4.frozen? ⟨p, 2, none⟩ = false := HQ4.out.blk.frozen 2
    have c2' : W4.cell? ⟨p, 2, none⟩ = some (.int .i64 (seen : Int)) := HQ4.out.cellR 0 rfl
    have hpt : p ≠ w.heap.size := by have := HP.out; omega
    have HQ5 : Hid (QAt (W4.setCell ⟨p, 2, none⟩ (.int .i64 (q : Int))) p v beg (pR q over c kv left gone) 51 F N) := HQ4.out.setR 0 (.int .i64 (q : Int))
    have HT5 : Hid ((W4.setCell ⟨p, 2, none⟩ (.int .i64 (q : Int))).heap[w.heap.size]? = some (cmO cmZ (.slice none 0 0))) := (blk_setCell_other _ _ _ _ (by show w.heap.size ≠ p; omega)).trans HT4.out
    have HK5 : Hid (Keep [p] w (W4.setCell ⟨p, 2, none⟩ (.int .i64 (q : Int)))) := (Keep.of_below HB5.out).setCell (F := [p]) (.inl (by simp)) _
    have hP := HP.out
    obtain ⟨q0, q1, q2, q3, q4, q5, q6, q7, q8, q9, q10, q11⟩ := CmAt.of HT4.out
    obtain ⟨j0, j1, j2, j3, j4, j5, j6, j7, j8, j9, j10, j11⟩ := CmFz.of HT4.out
    clear HQ4 HT4 HB5
    go_wp2
    rw [set12]
    generalize W4.setCell ⟨p, 2, none⟩ (.int .i64 (q : Int)) = Y at *
    have HH := heap_cm HT5.out cmZ (.slice none 0 0)
    have HKK := keep_cm Y w.heap.size cmZ (.slice none 0 0)
    have HQ6 := QAt.far HQ5.out HKK (fun k hk => by simp only [List.mem_singleton] at hk; subst hk; exact ⟨by omega, cm_no5 HT5.out⟩)
    refine ret_cm3 rfl w.heap.size cmZ (.slice none 0 0) rfl HH rfl ⟨rfl, v, beg, ?_, HK5.out.trans HKK (fun x hx => .inr (by simp only [List.mem_singleton] at hx; omega)), fun g hg => .inl hg⟩
    rw [← hqn.out]
    exact HQ6
end Go.Proofs.Ytmfjaehajdephab
