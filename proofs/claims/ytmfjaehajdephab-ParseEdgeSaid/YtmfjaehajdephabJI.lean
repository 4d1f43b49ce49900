/- Texts joined. -/
import Derived.Test.YtmfjaehajdephabJG
import Derived.Lib.SlBytesConst
/-
  Next of a parser: small.
-/
namespace Go.Proofs.Ytmfjaehajdephab
open Go.Shelf Go.RowKit Go.Deep
set_option linter.unusedVariables false
set_option linter.unusedSimpArgs false
set_option maxRecDepth 1000000

theorem PMv.trans {w W X : World} {p : Nat} {v v1 v2 : Value} (h : PMv w p v v1 W) (k : PMv W p v1 v2 X) : PMv w p v v2 X :=
  ⟨h.1.trans k.1 (fun x hx => .inl hx), fun g hg => by
    rcases k.2 g hg with h1 | h1
    · exact h.2 g h1
    · exact .inr (Nat.le_trans h.1.size h1)⟩
theorem PMv.of_below {w W : World} {p : Nat} {v : Value} (h : Below w.heap.size w W) : PMv w p v v W := ⟨Keep.of_below h, fun g hg => .inl hg⟩
/-- What Next leaves. -/
def NxQ (w : World) (p : Nat) (v : Value) (r : Cm) (ok : Bool) (P : World → Value → Prop) (e : Ending) (w' : World) : Prop :=
  ∃ a n cc v', e = .returned (.tuple #[cmV r (.slice a n cc), .bool ok]) ∧ RowT w' a n r.keys ∧ P w' v' ∧ PMv w p v v' w'
/-- A call of a parser that tells a command and two things more. -/
def LnR (W : World) (p : Nat) (v : Value) (r : Cm) (k : Int) (ok : Bool) (P : World → Value → Prop) (e : Ending) (w' : World) : Prop :=
  ∃ a n cc v', e = .returned (.tuple #[cmV r (.slice a n cc), .int .i64 k, .bool ok]) ∧ RowT w' a n r.keys ∧ P w' v' ∧ PMv W p v v' w'
/-- What a parser's predicate abides: what is laid beside it. -/
structure Abides (p : Nat) (P : World → Value → Prop) : Prop where
  below : ∀ w W v, P w v → Below w.heap.size w W → P W v
  far : ∀ w W v b c kv, P w v → w.heap[b]? = some (cmO c kv) → b ≠ p → Keep [b] w W → P W v
  lt : ∀ w v, P w v → p < w.heap.size
  no9 : ∀ w v, P w v → ∀ cs fz, w.heap[p]? ≠ some (.cells cs 9 fz)
theorem abides_pm (p seen : Nat) (over : Bool) (c : Cm) (kv : Value) (left gone : Nat) (F : List UInt8) (N : Nat) : Abides p (fun w v => ∃ beg, PM w p v beg seen over c kv left gone F N) :=
  ⟨fun w W v ⟨beg, h⟩ k => ⟨beg, QAt.later h k⟩, fun w W v b c' kv' ⟨beg, h⟩ hb hne k => ⟨beg, QAt.far h k (fun x hx => by simp only [List.mem_singleton] at hx; subst hx; exact ⟨hne, cm_no5 hb⟩)⟩,
   fun w v ⟨beg, h⟩ => h.blk.lt, fun w v ⟨beg, h⟩ cs fz hc => by rw [h.blk] at hc; simp at hc⟩
end Go.Proofs.Ytmfjaehajdephab

/-
  Next of a parser: a line alone.
-/
namespace Go.Proofs.Ytmfjaehajdephab
open Go.Shelf Go.RowKit Go.Deep
set_option linter.unusedVariables false
set_option linter.unusedSimpArgs false
set_option maxRecDepth 1000000

set_option maxHeartbeats 1000000 in
theorem next_bare0 (w : World) (p : Nat) (v : Value) (beg0 seen0 : Nat) (c : Cm) (a0 : Option Addr) (n0 c0 : Nat) (left0 gone0 : Nat) (F0 : List UInt8) (N : Nat) (h : PM w p v beg0 seen0 false c (.slice a0 n0 c0) left0 gone0 F0 N) (hw : (c.what.toList == []) = true)
    (P1 : World → Value → Prop) (hps : ∀ W, (∃ beg, PM W p v beg seen0 false c (.slice a0 n0 c0) left0 gone0 F0 N) → P1 W v) (r : Cm) (k : Int) (ok : Bool) (P2 : World → Value → Prop) (hA2 : Abides p P2) (hw1 : ∀ W v, P1 W v → W.cell? ⟨p, 4, none⟩ = some (.string c.what) ∧ W.cell? ⟨p, 3, none⟩ = W.cell? ⟨p, 3, none⟩) (hA1 : Abides p P1)
    (hln : ∀ W v, P1 W v → Calls Try.prog 22 #[.pointer (some ⟨p, 0, none⟩)] W (LnR W p v r k ok P2)) (hok : ok = false ∨ k = -1) :
    Calls Try.prog 10 #[.pointer (some ⟨p, 0, none⟩)] w (NxQ w p v r ok P2) := by
  have B0 := (Below.refl w.heap.size w).alloc (Nat.le_refl _) (cmO cmZ (.slice none 0 0))
  have HQ0 := hide (QAt.later h B0)
  have HT0 := hide (heap_alloc_new w (cmO cmZ (.slice none 0 0)))
  have HP := hide h.blk.lt
  have HV0 : Hid (PMv w p v v (w.alloc (cmO cmZ (.slice none 0 0)))) := PMv.of_below B0
  have HLN := hide hln
  have HA2 := hide hA2
  have HA1 := hide hA1
  have HW1 := hide hw1
  have HPS := hide hps
  have HOK := hide hok
  clear hps hok
  have c3 : (w.alloc (.cells #[.string ⟨#[]⟩, .string ⟨#[]⟩, .slice none 0 0, .string ⟨#[]⟩, .int .u32 0, .int .i64 0, .int .u64 0, .int .u64 0, .bool false, .bool false, .bool false, .bool false] 33)).cell? ⟨p, 3, none⟩ = some (.bool false) := QAt.cellR HQ0.out 1 rfl
  clear h B0 hln hA2 hA1 hw1
  go_enter Try.func10, Try.ntmps10
  have HH1 : Hid (P1 (w.alloc (cmO cmZ (.slice none 0 0))) v) := HPS.out _ ⟨beg0, HQ0.out⟩
  have c4 : (w.alloc (.cells #[.string ⟨#[]⟩, .string ⟨#[]⟩, .slice none 0 0, .string ⟨#[]⟩, .int .u32 0, .int .i64 0, .int .u64 0, .int .u64 0, .bool false, .bool false, .bool false, .bool false] 33)).cell? ⟨p, 4, none⟩ = some (.string c.what) := (HW1.out _ v HH1.out).1
  have HM1 := HV0
  have HT1 := HT0
  clear HQ0 HT0 HV0
  go_wp2_with fail
  refine Calls.mono (HLN.out _ v HH1.out) ?_
  rintro e w2 ⟨a1, n1, c1, v2, rfl, hrow, H2, m2⟩
  have HM2 := hide (HM1.out.trans m2)
  have HT2 : Hid (w2.heap[w.heap.size]? = some (cmO cmZ (.slice none 0 0))) := (m2.1.block _ (lt_of_at _ ⟨_, HT1.out⟩) (by have := HP.out; simp; omega)).trans HT1.out
  have hkA : Below w2.heap.size w2 (w2.alloc (.cells #[.string ⟨#[]⟩, .string ⟨#[]⟩, .slice none 0 0, .string ⟨#[]⟩, .int .u32 0, .int .i64 0, .int .u64 0, .int .u64 0, .bool false, .bool false, .bool false, .bool false] 33)) := (Below.refl _ _).alloc (Nat.le_refl _) _
  have HP3 := HA2.out.below _ _ _ H2 hkA
  have HR3 := hrow.later hkA
  have HN3 : (w2.alloc (.cells #[.string ⟨#[]⟩, .string ⟨#[]⟩, .slice none 0 0, .string ⟨#[]⟩, .int .u32 0, .int .i64 0, .int .u64 0, .int .u64 0, .bool false, .bool false, .bool false, .bool false] 33)).heap[w2.heap.size]? = some (cmO cmZ (.slice none 0 0)) := heap_alloc_new _ _
  have HT3 := (hkA.block _ (lt_of_at _ ⟨_, HT2.out⟩)).trans HT2.out
  have HM3 := HM2.out.trans (PMv.of_below (p := p) (v := v2) hkA)
  have HL2 : Hid (w.heap.size < w2.heap.size) := lt_of_at _ ⟨_, HT2.out⟩
  have hp2 : p < w2.heap.size := HA2.out.lt _ _ H2
  have HTh := there_cmz HN3
  clear H2 m2 hrow hkA HM1 HT1 c4 HH1
  simp only []
  repeat (fail_if_success (refine store_stepA (r := r) (a := a1) (n := n1) (c := c1) rfl _ _ rfl w2.heap.size rfl rfl HTh ?_)); go_step
  refine store_stepA (r := r) (a := a1) (n := n1) (c := c1) rfl _ _ rfl w2.heap.size rfl rfl HTh ?_
  have hkc := keep_cm (w2.alloc (.cells #[.string ⟨#[]⟩, .string ⟨#[]⟩, .slice none 0 0, .string ⟨#[]⟩, .int .u32 0, .int .i64 0, .int .u64 0, .int .u64 0, .bool false, .bool false, .bool false, .bool false] 33)) w2.heap.size r (.slice a1 n1 c1)
  have PX := HA2.out.far _ _ _ _ _ _ HP3 HN3 (by omega) hkc
  have TX := (hkc.block _ (lt_of_at _ ⟨_, HT3⟩) (by have := HL2.out; simp; omega)).trans HT3
  have NX := heap_cm HN3 r (.slice a1 n1 c1)
  have RX := keep_row HR3 HN3 r (.slice a1 n1 c1)
  have MX : PMv w p v v2 ((w2.alloc (.cells #[.string ⟨#[]⟩, .string ⟨#[]⟩, .slice none 0 0, .string ⟨#[]⟩, .int .u32 0, .int .i64 0, .int .u64 0, .int .u64 0, .bool false, .bool false, .bool false, .bool false] 33)).setCells w2.heap.size 0 (cmL r (.slice a1 n1 c1))) := ⟨HM3.1.trans hkc (fun x hx => .inr (by simp only [List.mem_singleton] at hx; have := HL2.out; omega)), HM3.2⟩
  have hpt : p ≠ w.heap.size := by have := HP.out; omega
  have h4t : w2.heap.size ≠ w.heap.size := by have := HL2.out; omega
  have h4p : w2.heap.size ≠ p := by omega
  clear HTh HP3 HR3 HN3 HT3 HM3 HM2 HT2 hkc
  generalize (w2.alloc (.cells #[.string ⟨#[]⟩, .string ⟨#[]⟩, .slice none 0 0, .string ⟨#[]⟩, .int .u32 0, .int .i64 0, .int .u64 0, .int .u64 0, .bool false, .bool false, .bool false, .bool false] 33)).setCells w2.heap.size 0 (cmL r (.slice a1 n1 c1)) = X at *
  have HPX := hide PX
  have HTX := hide TX
  have HNX := hide NX
  have HRX := hide RX
  have HMX := hide MX
  obtain ⟨t4, ht4⟩ : ∃ t4, t4 = w2.heap.size := ⟨_, rfl⟩
  rw [← ht4] at HNX h4t h4p ⊢
  have HL4 : Hid (w.heap.size < t4) := by rw [ht4]; exact HL2.out
  clear PX TX NX RX MX ht4 hp2 HL2
  obtain ⟨p0, p1, p2, p3, p4, p5, p6, p7, p8, p9, p10, p11⟩ := CmAt.of HNX.out
  obtain ⟨q0, q1, q2, q3, q4, q5, q6, q7, q8, q9, q10, q11⟩ := CmAt.of HTX.out
  obtain ⟨j0, j1, j2, j3, j4, j5, j6, j7, j8, j9, j10, j11⟩ := CmFz.of HTX.out
  have HEND : Hid (RowT (X.setCells w.heap.size 0 (cmL r (.slice a1 n1 c1))) a1 n1 r.keys ∧ P2 (X.setCells w.heap.size 0 (cmL r (.slice a1 n1 c1))) v2 ∧ PMv w p v v2 (X.setCells w.heap.size 0 (cmL r (.slice a1 n1 c1))) ∧ (X.setCells w.heap.size 0 (cmL r (.slice a1 n1 c1))).heap[w.heap.size]? = some (cmO r (.slice a1 n1 c1))) := by
    have hk := keep_cm X w.heap.size r (.slice a1 n1 c1)
    exact ⟨keep_row HRX.out HTX.out _ _, HA2.out.far _ _ _ _ _ _ HPX.out HTX.out (by omega) hk, ⟨HMX.out.1.trans hk (fun x hx => .inr (by simp only [List.mem_singleton] at hx; omega)), HMX.out.2⟩, heap_cm HTX.out _ _⟩
  clear HPX HTX HNX HRX HMX
  cases ok with
  | false =>
    go_wp2
    rw [set12]
    exact ret_cm2 rfl w.heap.size r (.slice a1 n1 c1) rfl HEND.out.2.2.2 rfl ⟨a1, n1, c1, v2, rfl, HEND.out.1, HEND.out.2.1, HEND.out.2.2.1⟩
  | true =>
    have hk : k = -1 := by rcases HOK.out with h | h; cases h; exact h
    subst hk
    go_wp2
    rw [set12]
    exact ret_cm2 rfl w.heap.size r (.slice a1 n1 c1) rfl HEND.out.2.2.2 rfl ⟨a1, n1, c1, v2, rfl, HEND.out.1, HEND.out.2.1, HEND.out.2.2.1⟩
set_option maxHeartbeats 1000000 in
theorem next_bare1 (w : World) (p : Nat) (v : Value) (beg0 seen0 : Nat) (c : Cm) (a0 : Option Addr) (n0 c0 : Nat) (left0 gone0 : Nat) (F0 : List UInt8) (N : Nat) (h : PM w p v beg0 seen0 true c (.slice a0 n0 c0) left0 gone0 F0 N) (hw : (c.what.toList == []) = true)
    (P1 : World → Value → Prop) (hps : ∀ W v, (∃ beg, PM W p v beg seen0 true c (.slice a0 n0 c0) left0 gone0 F0 N) → Calls Try.prog 21 #[.pointer (some ⟨p, 0, none⟩)] W fun e w' => e = .returned (.tuple #[]) ∧ ∃ v', P1 w' v' ∧ PMv W p v v' w') (r : Cm) (k : Int) (ok : Bool) (P2 : World → Value → Prop) (hA2 : Abides p P2) (hw1 : ∀ W v, P1 W v → W.cell? ⟨p, 4, none⟩ = some (.string c.what) ∧ W.cell? ⟨p, 3, none⟩ = W.cell? ⟨p, 3, none⟩) (hA1 : Abides p P1)
    (hln : ∀ W v, P1 W v → Calls Try.prog 22 #[.pointer (some ⟨p, 0, none⟩)] W (LnR W p v r k ok P2)) (hok : ok = false ∨ k = -1) :
    Calls Try.prog 10 #[.pointer (some ⟨p, 0, none⟩)] w (NxQ w p v r ok P2) := by
  have B0 := (Below.refl w.heap.size w).alloc (Nat.le_refl _) (cmO cmZ (.slice none 0 0))
  have HQ0 := hide (QAt.later h B0)
  have HT0 := hide (heap_alloc_new w (cmO cmZ (.slice none 0 0)))
  have HP := hide h.blk.lt
  have HV0 : Hid (PMv w p v v (w.alloc (cmO cmZ (.slice none 0 0)))) := PMv.of_below B0
  have HLN := hide hln
  have HA2 := hide hA2
  have HA1 := hide hA1
  have HW1 := hide hw1
  have HPS := hide hps
  have HOK := hide hok
  clear hps hok
  have c3 : (w.alloc (.cells #[.string ⟨#[]⟩, .string ⟨#[]⟩, .slice none 0 0, .string ⟨#[]⟩, .int .u32 0, .int .i64 0, .int .u64 0, .int .u64 0, .bool false, .bool false, .bool false, .bool false] 33)).cell? ⟨p, 3, none⟩ = some (.bool true) := QAt.cellR HQ0.out 1 rfl
  clear h B0 hln hA2 hA1 hw1
  go_enter Try.func10, Try.ntmps10
  go_wp2_with fail
  refine Calls.mono (HPS.out _ v ⟨beg0, HQ0.out⟩) ?_
  rintro e w1 ⟨rfl, v1, H1, m1⟩
  have HM1 := hide (HV0.out.trans m1)
  have HT1 : Hid (w1.heap[w.heap.size]? = some (cmO cmZ (.slice none 0 0))) := (m1.1.block _ (lt_of_at _ ⟨_, HT0.out⟩) (by have := HP.out; simp; omega)).trans HT0.out
  have c4 := (HW1.out w1 v1 H1).1
  have HH1 := hide H1
  clear H1 m1 c3 HQ0 HT0 HV0
  go_wp2_with fail
  refine Calls.mono (HLN.out _ v1 HH1.out) ?_
  rintro e w2 ⟨a1, n1, c1, v2, rfl, hrow, H2, m2⟩
  have HM2 := hide (HM1.out.trans m2)
  have HT2 : Hid (w2.heap[w.heap.size]? = some (cmO cmZ (.slice none 0 0))) := (m2.1.block _ (lt_of_at _ ⟨_, HT1.out⟩) (by have := HP.out; simp; omega)).trans HT1.out
  have hkA : Below w2.heap.size w2 (w2.alloc (.cells #[.string ⟨#[]⟩, .string ⟨#[]⟩, .slice none 0 0, .string ⟨#[]⟩, .int .u32 0, .int .i64 0, .int .u64 0, .int .u64 0, .bool false, .bool false, .bool false, .bool false] 33)) := (Below.refl _ _).alloc (Nat.le_refl _) _
  have HP3 := HA2.out.below _ _ _ H2 hkA
  have HR3 := hrow.later hkA
  have HN3 : (w2.alloc (.cells #[.string ⟨#[]⟩, .string ⟨#[]⟩, .slice none 0 0, .string ⟨#[]⟩, .int .u32 0, .int .i64 0, .int .u64 0, .int .u64 0, .bool false, .bool false, .bool false, .bool false] 33)).heap[w2.heap.size]? = some (cmO cmZ (.slice none 0 0)) := heap_alloc_new _ _
  have HT3 := (hkA.block _ (lt_of_at _ ⟨_, HT2.out⟩)).trans HT2.out
  have HM3 := HM2.out.trans (PMv.of_below (p := p) (v := v2) hkA)
  have HL2 : Hid (w.heap.size < w2.heap.size) := lt_of_at _ ⟨_, HT2.out⟩
  have hp2 : p < w2.heap.size := HA2.out.lt _ _ H2
  have HTh := there_cmz HN3
  clear H2 m2 hrow hkA HM1 HT1 c4 HH1
  simp only []
  repeat (fail_if_success (refine store_stepA (r := r) (a := a1) (n := n1) (c := c1) rfl _ _ rfl w2.heap.size rfl rfl HTh ?_)); go_step
  refine store_stepA (r := r) (a := a1) (n := n1) (c := c1) rfl _ _ rfl w2.heap.size rfl rfl HTh ?_
  have hkc := keep_cm (w2.alloc (.cells #[.string ⟨#[]⟩, .string ⟨#[]⟩, .slice none 0 0, .string ⟨#[]⟩, .int .u32 0, .int .i64 0, .int .u64 0, .int .u64 0, .bool false, .bool false, .bool false, .bool false] 33)) w2.heap.size r (.slice a1 n1 c1)
  have PX := HA2.out.far _ _ _ _ _ _ HP3 HN3 (by omega) hkc
  have TX := (hkc.block _ (lt_of_at _ ⟨_, HT3⟩) (by have := HL2.out; simp; omega)).trans HT3
  have NX := heap_cm HN3 r (.slice a1 n1 c1)
  have RX := keep_row HR3 HN3 r (.slice a1 n1 c1)
  have MX : PMv w p v v2 ((w2.alloc (.cells #[.string ⟨#[]⟩, .string ⟨#[]⟩, .slice none 0 0, .string ⟨#[]⟩, .int .u32 0, .int .i64 0, .int .u64 0, .int .u64 0, .bool false, .bool false, .bool false, .bool false] 33)).setCells w2.heap.size 0 (cmL r (.slice a1 n1 c1))) := ⟨HM3.1.trans hkc (fun x hx => .inr (by simp only [List.mem_singleton] at hx; have := HL2.out; omega)), HM3.2⟩
  have hpt : p ≠ w.heap.size := by have := HP.out; omega
  have h4t : w2.heap.size ≠ w.heap.size := by have := HL2.out; omega
  have h4p : w2.heap.size ≠ p := by omega
  clear HTh HP3 HR3 HN3 HT3 HM3 HM2 HT2 hkc
  generalize (w2.alloc (.cells #[.string ⟨#[]⟩, .string ⟨#[]⟩, .slice none 0 0, .string ⟨#[]⟩, .int .u32 0, .int .i64 0, .int .u64 0, .int .u64 0, .bool false, .bool false, .bool false, .bool false] 33)).setCells w2.heap.size 0 (cmL r (.slice a1 n1 c1)) = X at *
  have HPX := hide PX
  have HTX := hide TX
  have HNX := hide NX
  have HRX := hide RX
  have HMX := hide MX
  obtain ⟨t4, ht4⟩ : ∃ t4, t4 = w2.heap.size := ⟨_, rfl⟩
  rw [← ht4] at HNX h4t h4p ⊢
  have HL4 : Hid (w.heap.size < t4) := by rw [ht4]; exact HL2.out
  clear PX TX NX RX MX ht4 hp2 HL2
  obtain ⟨p0, p1, p2, p3, p4, p5, p6, p7, p8, p9, p10, p11⟩ := CmAt.of HNX.out
  obtain ⟨q0, q1, q2, q3, q4, q5, q6, q7, q8, q9, q10, q11⟩ := CmAt.of HTX.out
  obtain ⟨j0, j1, j2, j3, j4, j5, j6, j7, j8, j9, j10, j11⟩ := CmFz.of HTX.out
  have HEND : Hid (RowT (X.setCells w.heap.size 0 (cmL r (.slice a1 n1 c1))) a1 n1 r.keys ∧ P2 (X.setCells w.heap.size 0 (cmL r (.slice a1 n1 c1))) v2 ∧ PMv w p v v2 (X.setCells w.heap.size 0 (cmL r (.slice a1 n1 c1))) ∧ (X.setCells w.heap.size 0 (cmL r (.slice a1 n1 c1))).heap[w.heap.size]? = some (cmO r (.slice a1 n1 c1))) := by
    have hk := keep_cm X w.heap.size r (.slice a1 n1 c1)
    exact ⟨keep_row HRX.out HTX.out _ _, HA2.out.far _ _ _ _ _ _ HPX.out HTX.out (by omega) hk, ⟨HMX.out.1.trans hk (fun x hx => .inr (by simp only [List.mem_singleton] at hx; omega)), HMX.out.2⟩, heap_cm HTX.out _ _⟩
  clear HPX HTX HNX HRX HMX
  cases ok with
  | false =>
    go_wp2
    rw [set12]
    exact ret_cm2 rfl w.heap.size r (.slice a1 n1 c1) rfl HEND.out.2.2.2 rfl ⟨a1, n1, c1, v2, rfl, HEND.out.1, HEND.out.2.1, HEND.out.2.2.1⟩
  | true =>
    have hk : k = -1 := by rcases HOK.out with h | h; cases h; exact h
    subst hk
    go_wp2
    rw [set12]
    exact ret_cm2 rfl w.heap.size r (.slice a1 n1 c1) rfl HEND.out.2.2.2 rfl ⟨a1, n1, c1, v2, rfl, HEND.out.1, HEND.out.2.1, HEND.out.2.2.1⟩
end Go.Proofs.Ytmfjaehajdephab
