/- Texts joined. -/
import Derived.Test.YtmfjaehajdephabJF
import Derived.Lib.SlBytesConst
import Derived.Test.YtmfjaehajdephabJC
/-
  data of a parser: small.
-/
namespace Go.Proofs.Ytmfjaehajdephab
open Go.Shelf Go.RowKit Go.Deep
set_option linter.unusedVariables false
set_option linter.unusedSimpArgs false
set_option maxRecDepth 1000000

theorem mid_bs {w : World} {a : Option Addr} {n cap : Nat} {l : List UInt8} (h : BS w a n cap l) (ha : ∀ x, a = some x → x.spot = none) (i j : Nat) (hij : i ≤ j) (hj : j ≤ n) (hz : a = none → cap = 0) : ∃ a' c',
    (∀ X, (Instr.sliceAt 26 (.slice a n cap) (some (.int .i64 (i : Int))) (some (.int .i64 (j : Int))) none).run Try.prog X = .ok (.slice a' (j - i) c') X) ∧ BS w a' (j - i) c' ((l.take j).drop i) := by
  have hc := h.cap
  have hl := h.len
  cases a with
  | none =>
    obtain rfl := hz rfl
    obtain rfl : n = 0 := by omega
    obtain rfl : j = 0 := by omega
    obtain rfl : i = 0 := by omega
    refine ⟨none, 0, fun X => by simp [go_sem], ?_⟩
    exact ⟨by simp, by omega, fun i hi => by omega⟩
  | some x =>
    obtain ⟨b, off, sp⟩ := x
    have := ha _ rfl
    simp only at this
    subst this
    by_cases hc2 : cap = i
    · have e1 : j = i := by omega
      subst e1
      subst hc2
      refine ⟨some ⟨b, off, none⟩, 0, fun X => by simp [go_sem], ?_⟩
      exact ⟨by rw [List.length_drop, List.length_take]; omega, by omega, fun i hi => by omega⟩
    · refine ⟨some ⟨b, off + i, none⟩, cap - i, fun X => run_mid b off n cap i j hij (by omega) (by omega) X, ?_⟩
      exact h.sub i j (some ⟨b, off + i, none⟩) (cap - i) hij hj (fun _ => rfl) (by omega)
theorem endsP_two (l : List UInt8) : endsP (l.take 2) = endsP l := by
  match l with
  | [] => rfl
  | [x] => rfl
  | x :: y :: t => rfl
/-- Behind the region of data that asks for the end: the box holds the command, the answer is told. -/
structure DtC (w : World) (c : Cm) (kv : Value) (k1 : Int) (us : Nat → Option Value) (W : World) : Prop where
  bel : Below w.heap.size w W
  call : ∀ u, us 19 = some u → u = .int .i64 k1
  al : ∀ u, us 20 = some u → ∃ b8, u = .pointer (some ⟨b8, 0, none⟩) ∧ w.heap.size ≤ b8 ∧ (us 21 = none → W.heap[b8]? = some (cmO cmZ (.slice none 0 0))) ∧ (∀ x, us 21 = some x → W.heap[b8]? = some (cmO c kv))
section
variable {w : World} {c : Cm} {a : Option Addr} {n cc : Nat} {k1 : Int} {us : Nat → Option Value} {W : World}
theorem DtC.new : DtC w c (.slice a n cc) k1 (fun _ => none) w.drew := ⟨(Below.refl _ _).drew, fun u h => (by cases h), fun u h => (by cases h)⟩
theorem DtC.later (H : DtC w c (.slice a n cc) k1 us W) {W' : World} (k : Below W.heap.size W W') : DtC w c (.slice a n cc) k1 us W' :=
  ⟨H.bel.trans (k.mono H.bel.size), H.call, fun u hu => by
    obtain ⟨b8, h1, h2, h4, h5⟩ := H.al u hu
    exact ⟨b8, h1, h2, fun h => (k.block b8 (lt_of_at b8 ⟨_, h4 h⟩)).trans (h4 h), fun x h => (k.block b8 (lt_of_at b8 ⟨_, h5 x h⟩)).trans (h5 x h)⟩⟩
theorem DtC.s19 (H : DtC w c (.slice a n cc) k1 us W) (ha : us 21 = none) {W' : World} (k : Below W.heap.size W W') : DtC w c (.slice a n cc) k1 (setU us 19 (.int .i64 k1)) W' := by
  have K := H.later k
  refine ⟨K.bel, fun u hu => ?_, fun u hu => ?_⟩
  · rw [setU_same] at hu; cases hu; rfl
  · obtain ⟨b8, h1, h2, h4, h5⟩ := K.al u (by simpa [setU] using hu)
    exact ⟨b8, h1, h2, fun h => h4 (by simpa [setU] using h), fun x h => h5 x (by simpa [setU] using h)⟩
theorem DtC.s20 (H : DtC w c (.slice a n cc) k1 us W) (ha : us 21 = none) : DtC w c (.slice a n cc) k1 (setU us 20 (.pointer (some ⟨W.heap.size, 0, none⟩))) (W.alloc (cmO cmZ (.slice none 0 0))) := by
  have K := H.later ((Below.refl _ _).alloc (Nat.le_refl _) (cmO cmZ (.slice none 0 0)))
  refine ⟨K.bel, fun u hu => K.call u (by simpa [setU] using hu), fun u hu => ?_⟩
  rw [setU_same] at hu
  cases hu
  refine ⟨_, rfl, H.bel.size, fun _ => heap_alloc_new _ _, fun x hx => ?_⟩
  have : us 21 = some x := by simpa [setU] using hx
  rw [ha] at this
  cases this
theorem DtC.s21 (H : DtC w c (.slice a n cc) k1 us W) {p : Value} (hp : us 20 = some p) (ha : us 21 = none) :
    ∃ b8 W', p = .pointer (some ⟨b8, 0, none⟩) ∧ (storeVar 33 ⟨b8, 0, none⟩ (cmV c (.slice a n cc))).run Try.prog W = .ok () W' ∧ DtC w c (.slice a n cc) k1 (setU us 21 undef) W' := by
  obtain ⟨b8, h1, h2, h4, h5⟩ := H.al p hp
  have hz := h4 ha
  refine ⟨b8, _, h1, store_run W b8 hz c a n cc, below_cm H.bel h2 _ _, fun u hu => H.call u (by simpa [setU] using hu), fun u hu => ?_⟩
  have : us 20 = some u := by simpa [setU] using hu
  rw [hp] at this
  cases this
  exact ⟨b8, h1, h2, fun h => (by simp [setU] at h), fun x _ => heap_cm hz _ _⟩
theorem DtC.done (H : DtC w c (.slice a n cc) k1 us W) (h : ∀ z, [19, 20, 21].contains z = true → (us z).isSome = true) :
    ∃ z21 b8, us 19 = some (.int .i64 k1) ∧ us 20 = some (.pointer (some ⟨b8, 0, none⟩)) ∧ us 21 = some z21 ∧ w.heap.size ≤ b8 ∧ W.heap[b8]? = some (cmO c (.slice a n cc)) := by
  obtain ⟨u19, h19⟩ := Option.isSome_iff_exists.1 (h 19 (by decide))
  obtain ⟨u20, h20⟩ := Option.isSome_iff_exists.1 (h 20 (by decide))
  obtain ⟨u21, h21⟩ := Option.isSome_iff_exists.1 (h 21 (by decide))
  have e := H.call _ h19
  subst e
  obtain ⟨b8, rfl, e2, _, e5⟩ := H.al _ h20
  exact ⟨u21, b8, h19, h20, h21, e2, e5 _ h21⟩
end
theorem enter70 : Enters Try.prog 42 := enters_of Try.func42 (by kernel_rfl) rfl
theorem load_held {w : World} {p : Nat} {v : Value} {beg seen : Nat} {over : Bool} {c : Cm} {kv : Value} {left gone : Nat} {F : List UInt8} {N : Nat} (h : PM w p v beg seen over c kv left gone F N) :
    (loadVar 33 ⟨p, 4, none⟩).run Try.prog w = .ok (cmV c kv) w :=
  run_loadVar_mid w p 4 33 (cmL c kv) _ (fun j u hj => by
    have hj12 : j < 12 := by have := (List.getElem?_eq_some_iff.1 hj).1; simpa using this
    have := QAt.cellR h (j + 2) (u := u) (by
      unfold pR
      rw [List.getElem?_cons_succ, List.getElem?_cons_succ, List.getElem?_append_left (by simpa using hj12)]
      exact hj)
    rw [show 4 + j = j + 2 + 2 by omega]
    exact this) Try.underlying33 rfl size27
/-- What the data's call asks of letGo. -/
def LgQ (p seen : Nat) (over : Bool) (c : Cm) (kv : Value) (left gone : Nat) (F : List UInt8) (N L g : Nat) (F1 : List UInt8) : Prop :=
  ∀ W v beg, PM W p v beg seen over c kv left gone F N → Calls Try.prog 41 #[.pointer (some ⟨p, 0, none⟩)] W fun e w' => e = .returned (.tuple #[]) ∧ ∃ v' beg', PM w' p v' beg' seen over c kv L g F1 N ∧ PMv W p v v' w'
/-- What data leaves. -/
def DtQ (w : World) (p : Nat) (v : Value) (r : Cm) (ok : Bool) (seen : Nat) (over : Bool) (c : Cm) (kv : Value → Prop) (L g : Nat) (F1 : List UInt8) (N : Nat) (e : Ending) (w' : World) : Prop :=
  ∃ a n cc v' beg' kv', e = .returned (.tuple #[cmV r (.slice a n cc), .bool ok]) ∧ RowT w' a n r.keys ∧ kv kv' ∧ PM w' p v' beg' seen over c kv' L g F1 N ∧ PMv w p v v' w'
end Go.Proofs.Ytmfjaehajdephab

/-
  data of a parser: it waits.
-/
namespace Go.Proofs.Ytmfjaehajdephab
open Go.Shelf Go.RowKit Go.Deep
set_option linter.unusedVariables false
set_option linter.unusedSimpArgs false
set_option maxRecDepth 1000000

set_option maxHeartbeats 1000000 in
theorem data_few (w : World) (p : Nat) (v : Value) (beg seen : Nat) (over : Bool) (c : Cm) (a0 : Option Addr) (n0 c0 : Nat) (left gone : Nat) (F : List UInt8) (N L g : Nat) (F1 : List UInt8) (h : PM w p v beg seen over c (.slice a0 n0 c0) left gone F N) (hN : N ≤ 1000000) (hrow : RowT w a0 n0 c.keys) (hlg : LgQ p seen over c (.slice a0 n0 c0) left gone F N L g F1) (hL : L ≤ 2147483647) (hf : F1.length < L) :
    Calls Try.prog 23 #[.pointer (some ⟨p, 0, none⟩)] w (DtQ w p v cmZ false seen over c (fun k => k = .slice a0 n0 c0) L g F1 N) := by
  have B0 := (Below.refl w.heap.size w).alloc (Nat.le_refl _) (cmO cmZ (.slice none 0 0))
  have HQ0 := hide (QAt.later h B0)
  have HT0 := hide (heap_alloc_new w (cmO cmZ (.slice none 0 0)))
  have HP := hide h.blk.lt
  have HB0 := hide B0
  have HR0 := hide (hrow.later B0)
  have HLG := hide hlg
  clear h hrow hlg B0
  go_enter Try.func23, Try.ntmps23
  go_wp2_with fail
  refine Calls.mono (HLG.out _ v beg HQ0.out) ?_
  rintro e w1 ⟨rfl, v1, beg1, Q1, k1, o1⟩
  obtain ⟨a, ca, hB, hFN, hoff, hspot, hnil, hall⟩ := QAt.all Q1
  obtain ⟨n, hn⟩ : ∃ n, n = F1.length := ⟨_, rfl⟩
  rw [← hn] at hB hall hFN
  have hF : n ≤ 1000000 := by omega
  have HT1 : Hid (w1.heap[w.heap.size]? = some (cmO cmZ (.slice none 0 0))) := (k1.block _ (lt_of_at _ ⟨_, HT0.out⟩) (by have := HP.out; simp; omega)).trans HT0.out
  have HK1 : Hid (Keep [p] w w1) := (Keep.of_below HB0.out).trans k1 (fun x hx => .inl hx)
  have HO1 : Hid (∀ g, v1.ownBlock = some g → v.ownBlock = some g ∨ w.heap.size ≤ g) := fun g hg => (o1 g hg).imp id (fun h => Nat.le_trans HB0.out.size h)
  have HR1 : Hid (RowT w1 a0 n0 c.keys) := HR0.out.keepF (fun x hx hxp => by
    obtain ⟨cs, fz, hc⟩ := HR0.out.kind x hx
    simp only [List.mem_singleton] at hxp
    rw [hxp, HQ0.out.blk] at hc
    simp at hc) k1
  have HQ1 := hide Q1
  have HALL := hide hall
  have HBS := hide hB
  have HN := hide hn
  have HSP := hide hspot
  have HNL := hide hnil
  have hFN2 := hide hFN
  clear Q1 k1 o1 hall hB hn hspot hnil hoff hFN HQ0 HT0 HB0 HR0 HLG
  go_wp2_with fail
  refine Calls.mono (HALL.out _ ?_) ?_
  · exact HQ1.out.blk
  rintro e w2 ⟨rfl, m, rfl⟩
  obtain ⟨W2, hW2⟩ : ∃ W2, W2 = w1.drewN m := ⟨_, rfl⟩
  rw [← hW2]
  have HQ2 : Hid (PM W2 p v1 beg1 seen over c (.slice a0 n0 c0) L g F1 N) := by rw [hW2]; exact HQ1.out.drewN m
  have HT2 : Hid (W2.heap[w.heap.size]? = some (cmO cmZ (.slice none 0 0))) := by rw [hW2]; exact HT1.out
  have HK2 : Hid (Keep [p] w W2) := by rw [hW2]; exact ⟨HK1.out.os, HK1.out.tape, HK1.out.output, HK1.out.size, HK1.out.block⟩
  have HR2 : Hid (RowT W2 a0 n0 c.keys) := by rw [hW2]; exact HR1.out.later (below_drewN _ _ _)
  have HBS2 : Hid (BS W2 a n ca F1) := by rw [hW2]; exact HBS.out.heap rfl
  have d16 : W2.cell? ⟨p, 16, none⟩ = some (.int .i64 (L : Int)) := QAt.cellR HQ2.out 14 rfl
  have HLT : Hid (w.heap.size < W2.heap.size) := lt_of_at _ ⟨_, HT2.out⟩
  clear hW2 HQ1 HT1 HK1 HR1 HBS HALL
  have hfl : (n : Int) < (L : Int) := by have := HN.out; omega
  obtain ⟨q0, q1, q2, q3, q4, q5, q6, q7, q8, q9, q10, q11⟩ := CmAt.of HT2.out
  obtain ⟨j0, j1, j2, j3, j4, j5, j6, j7, j8, j9, j10, j11⟩ := CmFz.of HT2.out
  clear hf
  go_wp2
  rw [set12]
  have HH := heap_cm HT2.out cmZ (.slice none 0 0)
  have HKK := keep_cm W2 w.heap.size cmZ (.slice none 0 0)
  have HQ9 := QAt.far HQ2.out HKK (fun k hk => by simp only [List.mem_singleton] at hk; subst hk; exact ⟨by have := HP.out; omega, cm_no5 HT2.out⟩)
  exact ret_cm2 rfl w.heap.size cmZ (.slice none 0 0) rfl HH rfl ⟨none, 0, 0, v1, beg1, _, rfl, RowT.nil, rfl, HQ9, HK2.out.trans HKK (fun x hx => .inr (by simp only [List.mem_singleton] at hx; omega)), HO1.out⟩
set_option maxHeartbeats 1000000 in
theorem data_wait (w : World) (p : Nat) (v : Value) (beg seen : Nat) (over : Bool) (c : Cm) (a0 : Option Addr) (n0 c0 : Nat) (left gone : Nat) (F : List UInt8) (N L g : Nat) (F1 : List UInt8) (h : PM w p v beg seen over c (.slice a0 n0 c0) left gone F N) (hN : N ≤ 1000000) (hrow : RowT w a0 n0 c.keys) (hlg : LgQ p seen over c (.slice a0 n0 c0) left gone F N L g F1) (hL : L ≤ 2147483647) (hf : L ≤ F1.length) (hk : endsI (F1.drop L) = 0) :
    Calls Try.prog 23 #[.pointer (some ⟨p, 0, none⟩)] w (DtQ w p v cmZ false seen over c (fun k => k = .slice a0 n0 c0) L g F1 N) := by
  have B0 := (Below.refl w.heap.size w).alloc (Nat.le_refl _) (cmO cmZ (.slice none 0 0))
  have HQ0 := hide (QAt.later h B0)
  have HT0 := hide (heap_alloc_new w (cmO cmZ (.slice none 0 0)))
  have HP := hide h.blk.lt
  have HB0 := hide B0
  have HR0 := hide (hrow.later B0)
  have HLG := hide hlg
  clear h hrow hlg B0
  go_enter Try.func23, Try.ntmps23
  go_wp2_with fail
  refine Calls.mono (HLG.out _ v beg HQ0.out) ?_
  rintro e w1 ⟨rfl, v1, beg1, Q1, k1, o1⟩
  obtain ⟨a, ca, hB, hFN, hoff, hspot, hnil, hall⟩ := QAt.all Q1
  obtain ⟨n, hn⟩ : ∃ n, n = F1.length := ⟨_, rfl⟩
  rw [← hn] at hB hall hFN
  have hF : n ≤ 1000000 := by omega
  have HT1 : Hid (w1.heap[w.heap.size]? = some (cmO cmZ (.slice none 0 0))) := (k1.block _ (lt_of_at _ ⟨_, HT0.out⟩) (by have := HP.out; simp; omega)).trans HT0.out
  have HK1 : Hid (Keep [p] w w1) := (Keep.of_below HB0.out).trans k1 (fun x hx => .inl hx)
  have HO1 : Hid (∀ g, v1.ownBlock = some g → v.ownBlock = some g ∨ w.heap.size ≤ g) := fun g hg => (o1 g hg).imp id (fun h => Nat.le_trans HB0.out.size h)
  have HR1 : Hid (RowT w1 a0 n0 c.keys) := HR0.out.keepF (fun x hx hxp => by
    obtain ⟨cs, fz, hc⟩ := HR0.out.kind x hx
    simp only [List.mem_singleton] at hxp
    rw [hxp, HQ0.out.blk] at hc
    simp at hc) k1
  have HQ1 := hide Q1
  have HALL := hide hall
  have HBS := hide hB
  have HN := hide hn
  have HSP := hide hspot
  have HNL := hide hnil
  have hFN2 := hide hFN
  clear Q1 k1 o1 hall hB hn hspot hnil hoff hFN HQ0 HT0 HB0 HR0 HLG
  go_wp2_with fail
  refine Calls.mono (HALL.out _ ?_) ?_
  · exact HQ1.out.blk
  rintro e w2 ⟨rfl, m, rfl⟩
  obtain ⟨W2, hW2⟩ : ∃ W2, W2 = w1.drewN m := ⟨_, rfl⟩
  rw [← hW2]
  have HQ2 : Hid (PM W2 p v1 beg1 seen over c (.slice a0 n0 c0) L g F1 N) := by rw [hW2]; exact HQ1.out.drewN m
  have HT2 : Hid (W2.heap[w.heap.size]? = some (cmO cmZ (.slice none 0 0))) := by rw [hW2]; exact HT1.out
  have HK2 : Hid (Keep [p] w W2) := by rw [hW2]; exact ⟨HK1.out.os, HK1.out.tape, HK1.out.output, HK1.out.size, HK1.out.block⟩
  have HR2 : Hid (RowT W2 a0 n0 c.keys) := by rw [hW2]; exact HR1.out.later (below_drewN _ _ _)
  have HBS2 : Hid (BS W2 a n ca F1) := by rw [hW2]; exact HBS.out.heap rfl
  have d16 : W2.cell? ⟨p, 16, none⟩ = some (.int .i64 (L : Int)) := QAt.cellR HQ2.out 14 rfl
  have HLT : Hid (w.heap.size < W2.heap.size) := lt_of_at _ ⟨_, HT2.out⟩
  clear hW2 HQ1 HT1 HK1 HR1 HBS HALL
  have hf2 : ¬ ((n : Int) < (L : Int)) := by have := HN.out; omega
  have hLn : L ≤ n := by omega
  obtain ⟨mm, hmm, hm1, hm2, hm3⟩ : ∃ mm : Nat, (min ((L : Int) + 2) (n : Int) = (mm : Int)) ∧ L ≤ mm ∧ mm ≤ n ∧ mm = min (L + 2) n := ⟨min (L + 2) n, by omega, by omega, by omega, rfl⟩
  have HW2 : Hid (IntKind.i64.wrap ((L : Int) + 2) = (L : Int) + 2) := by show _ = _; rw [IntKind.wrap_i64]; omega
  have HMM := hide hmm
  obtain ⟨a4, c4, hsl, hb4⟩ := mid_bs HBS2.out HSP.out L mm hm1 hm2 HNL.out
  obtain ⟨n4, hn4⟩ : ∃ n4, n4 = mm - L := ⟨_, rfl⟩
  rw [← hn4] at hsl hb4
  have HSL : Hid (∀ X, (Instr.sliceAt 26 (.slice a n ca) (some (.int .i64 (L : Int))) (some (.int .i64 (mm : Int))) none).run Try.prog X = .ok (.slice a4 n4 c4) X) := hsl
  obtain ⟨tx, htx⟩ : ∃ tx : ByteArray, tx = ⟨((F1.take mm).drop L).toArray⟩ := ⟨_, rfl⟩
  have HCV : Hid (∀ W, Below W2.heap.size W2 W → (convert 26 9 (.slice a4 n4 c4)).run Try.prog W = .ok (.string tx) W) := fun W hW => by rw [htx]; exact str_bs (hb4.later hW)
  have htwo : tx.data.toList = (F1.drop L).take 2 := by
    rw [htx]
    show (F1.take mm).drop L = (F1.drop L).take 2
    rw [List.drop_take, hm3]
    by_cases hq : L + 2 ≤ n
    · rw [Nat.min_eq_left hq]; congr 1; omega
    · rw [Nat.min_eq_right (by omega), List.take_of_length_le (by rw [List.length_drop, ← HN.out]; omega), List.take_of_length_le (by rw [List.length_drop, ← HN.out]; omega)]
  obtain ⟨k1, hk1⟩ : ∃ k1, k1 = endsI (F1.drop L) := ⟨_, rfl⟩
  have hends : endsI tx.data.toList = k1 := by rw [htwo, hk1]; unfold endsI; rw [endsP_two]
  have HCE : Hid (∀ us W, DtC W2 c (.slice a0 n0 c0) k1 us W → us 21 = none → Calls Try.prog 42 #[.string tx] W fun e w2 => ∃ v, e = .returned v ∧ DtC W2 c (.slice a0 n0 c0) k1 (setU us 19 v) w2) := fun us W hc ha => by
    refine (ends_any tx W).mono ?_
    rintro e w2 ⟨rfl, hb⟩
    rw [hends]
    exact ⟨_, rfl, hc.s19 ha hb⟩
  rw [← hk1] at hk
  clear hmm hsl hb4 htx htwo hends hm1 hm2 hm3 hn4 hk1
  have HKZ := hide hk
  clear hf hk
  go_wp2
  refine wp_region_par (by kernel_rfl) (by kernel_rfl) (fun jx => ([.pointer (some ⟨p, 0, none⟩), .pointer (some ⟨p, 0, none⟩), .pointer (some ⟨p, 4, none⟩), .agg #[.string c.what, .string c.verb, .slice a0 n0 c0, .string c.data, .int .u32 c.fl, .int .i64 c.ex, .int .u64 c.cs, .int .u64 c.y, .bool c.wc, .bool c.wt, .bool c.dn, .bool c.q], .slice a n ca, .pointer (some ⟨p, 0, none⟩), .pointer (some ⟨p, 0, none⟩), .pointer (some ⟨p, 16, none⟩), .int .i64 (L : Int), .pointer (some ⟨p, 0, none⟩), .pointer (some ⟨p, 0, none⟩), .pointer (some ⟨p, 16, none⟩), .int .i64 (L : Int), .int .i64 ((L : Int) + 2), .slice a n ca, .int .i64 (n : Int), .int .i64 (mm : Int), .slice a4 n4 c4, .string tx, undef, undef, undef, .int .i64 k1] : List Value).getD jx undef) [19, 20, 21] (fun z hz => by simp at hz; rcases hz with rfl | rfl | rfl <;> decide) (DtC W2 c (.slice a0 n0 c0) k1) (DtC.new) ?_ ?_
  · intro jx ox hi us w' ev hc hbef haft hin hout hold hcst hfn
    have hltx : jx < 23 := by
      have := (Array.getElem?_eq_some_iff.1 hi).1
      simpa using this
    match jx, hltx with
    | 0, _ =>
      simp only [List.getElem?_toArray, List.getElem?_cons_zero, List.getElem?_cons_succ, Option.some.injEq] at hi
      subst hi
      have ha21 : us 21 = none := haft 21 rfl (by kernel_rfl)
      have e0 : ev (.tmp 0) = .pointer (some ⟨p, 0, none⟩) := hout 0 (by kernel_rfl) (show (0 : Nat) < 85 by decide)
      refine ⟨fun hno => absurd hno (by decide), fun _ => ?_⟩
      simp [execOp, e0, hcst, go_sem]
    | 1, _ =>
      simp only [List.getElem?_toArray, List.getElem?_cons_zero, List.getElem?_cons_succ, Option.some.injEq] at hi
      subst hi
      have ha21 : us 21 = none := haft 21 rfl (by kernel_rfl)
      have e0 : ev (.tmp 21) = .pointer (some ⟨p, 0, none⟩) := hin 21 0 ⟨0, .data⟩ (by kernel_rfl) (by simp) rfl rfl (show (21 : Nat) < 85 by decide)
      refine ⟨fun hno => absurd hno (by decide), fun _ => ?_⟩
      simp [execOp, e0, hcst, go_sem]
    | 2, _ =>
      simp only [List.getElem?_toArray, List.getElem?_cons_zero, List.getElem?_cons_succ, Option.some.injEq] at hi
      subst hi
      have ha21 : us 21 = none := haft 21 rfl (by kernel_rfl)
      have e0 : ev (.tmp 22) = .pointer (some ⟨p, 0, none⟩) := hin 22 1 ⟨1, .data⟩ (by kernel_rfl) (by simp) rfl rfl (show (22 : Nat) < 85 by decide)
      refine ⟨fun hno => absurd hno (by decide), fun _ => ?_⟩
      simp [execOp, e0, hcst, go_sem]
    | 3, _ =>
      simp only [List.getElem?_toArray, List.getElem?_cons_zero, List.getElem?_cons_succ, Option.some.injEq] at hi
      subst hi
      have ha21 : us 21 = none := haft 21 rfl (by kernel_rfl)
      have e0 : ev (.tmp 23) = .pointer (some ⟨p, 4, none⟩) := hin 23 2 ⟨2, .data⟩ (by kernel_rfl) (by simp) rfl rfl (show (23 : Nat) < 85 by decide)
      refine ⟨fun hno => absurd hno (by decide), fun _ => ?_⟩
      have q2 := load_held (HQ2.out.later hc.bel)
      simp only [execOp, e0, Instr.loadAt, Instr.sureAddr, Sem.run_bind, Sem.run_pure, Result.andThen_ok, q2]
      rfl
    | 4, _ =>
      simp only [List.getElem?_toArray, List.getElem?_cons_zero, List.getElem?_cons_succ, Option.some.injEq] at hi
      subst hi
      have e0 : ev (.tmp 4) = .slice a n ca := hout 4 (by kernel_rfl) (show (4 : Nat) < 85 by decide)
      refine ⟨fun hno => absurd hno (by decide), fun _ => ?_⟩
      simp [execOp, e0, hcst, go_sem]
    | 5, _ =>
      simp only [List.getElem?_toArray, List.getElem?_cons_zero, List.getElem?_cons_succ, Option.some.injEq] at hi
      subst hi
      have e0 : ev (.tmp 0) = .pointer (some ⟨p, 0, none⟩) := hout 0 (by kernel_rfl) (show (0 : Nat) < 85 by decide)
      refine ⟨fun hno => absurd hno (by decide), fun _ => ?_⟩
      simp [execOp, e0, hcst, go_sem]
    | 6, _ =>
      simp only [List.getElem?_toArray, List.getElem?_cons_zero, List.getElem?_cons_succ, Option.some.injEq] at hi
      subst hi
      have e0 : ev (.tmp 26) = .pointer (some ⟨p, 0, none⟩) := hin 26 5 ⟨5, .data⟩ (by kernel_rfl) (by simp) rfl rfl (show (26 : Nat) < 85 by decide)
      refine ⟨fun hno => absurd hno (by decide), fun _ => ?_⟩
      simp [execOp, e0, hcst, go_sem]
    | 7, _ =>
      simp only [List.getElem?_toArray, List.getElem?_cons_zero, List.getElem?_cons_succ, Option.some.injEq] at hi
      subst hi
      have e0 : ev (.tmp 27) = .pointer (some ⟨p, 0, none⟩) := hin 27 6 ⟨6, .data⟩ (by kernel_rfl) (by simp) rfl rfl (show (27 : Nat) < 85 by decide)
      refine ⟨fun hno => absurd hno (by decide), fun _ => ?_⟩
      simp [execOp, e0, hcst, go_sem]
    | 8, _ =>
      simp only [List.getElem?_toArray, List.getElem?_cons_zero, List.getElem?_cons_succ, Option.some.injEq] at hi
      subst hi
      have e0 : ev (.tmp 28) = .pointer (some ⟨p, 16, none⟩) := hin 28 7 ⟨7, .data⟩ (by kernel_rfl) (by simp) rfl rfl (show (28 : Nat) < 85 by decide)
      refine ⟨fun hno => absurd hno (by decide), fun _ => ?_⟩
      have q2 : w'.cell? ⟨p, 16, none⟩ = some (.int .i64 (L : Int)) := QAt.cellR (HQ2.out.later hc.bel) 14 rfl
      simp [execOp, e0, hcst, go_sem, q2]
    | 9, _ =>
      simp only [List.getElem?_toArray, List.getElem?_cons_zero, List.getElem?_cons_succ, Option.some.injEq] at hi
      subst hi
      have e0 : ev (.tmp 0) = .pointer (some ⟨p, 0, none⟩) := hout 0 (by kernel_rfl) (show (0 : Nat) < 85 by decide)
      refine ⟨fun hno => absurd hno (by decide), fun _ => ?_⟩
      simp [execOp, e0, hcst, go_sem]
    | 10, _ =>
      simp only [List.getElem?_toArray, List.getElem?_cons_zero, List.getElem?_cons_succ, Option.some.injEq] at hi
      subst hi
      have e0 : ev (.tmp 30) = .pointer (some ⟨p, 0, none⟩) := hin 30 9 ⟨9, .data⟩ (by kernel_rfl) (by simp) rfl rfl (show (30 : Nat) < 85 by decide)
      refine ⟨fun hno => absurd hno (by decide), fun _ => ?_⟩
      simp [execOp, e0, hcst, go_sem]
    | 11, _ =>
      simp only [List.getElem?_toArray, List.getElem?_cons_zero, List.getElem?_cons_succ, Option.some.injEq] at hi
      subst hi
      have e0 : ev (.tmp 31) = .pointer (some ⟨p, 0, none⟩) := hin 31 10 ⟨10, .data⟩ (by kernel_rfl) (by simp) rfl rfl (show (31 : Nat) < 85 by decide)
      refine ⟨fun hno => absurd hno (by decide), fun _ => ?_⟩
      simp [execOp, e0, hcst, go_sem]
    | 12, _ =>
      simp only [List.getElem?_toArray, List.getElem?_cons_zero, List.getElem?_cons_succ, Option.some.injEq] at hi
      subst hi
      have e0 : ev (.tmp 32) = .pointer (some ⟨p, 16, none⟩) := hin 32 11 ⟨11, .data⟩ (by kernel_rfl) (by simp) rfl rfl (show (32 : Nat) < 85 by decide)
      refine ⟨fun hno => absurd hno (by decide), fun _ => ?_⟩
      have q2 : w'.cell? ⟨p, 16, none⟩ = some (.int .i64 (L : Int)) := QAt.cellR (HQ2.out.later hc.bel) 14 rfl
      simp [execOp, e0, hcst, go_sem, q2]
    | 13, _ =>
      simp only [List.getElem?_toArray, List.getElem?_cons_zero, List.getElem?_cons_succ, Option.some.injEq] at hi
      subst hi
      have e0 : ev (.tmp 33) = .int .i64 (L : Int) := hin 33 12 ⟨12, .data⟩ (by kernel_rfl) (by simp) rfl rfl (show (33 : Nat) < 85 by decide)
      refine ⟨fun hno => absurd hno (by decide), fun _ => ?_⟩
      have q1 := HW2.out
      simp [execOp, e0, hcst, go_sem, q1]
    | 14, _ =>
      simp only [List.getElem?_toArray, List.getElem?_cons_zero, List.getElem?_cons_succ, Option.some.injEq] at hi
      subst hi
      have e0 : ev (.tmp 4) = .slice a n ca := hout 4 (by kernel_rfl) (show (4 : Nat) < 85 by decide)
      refine ⟨fun hno => absurd hno (by decide), fun _ => ?_⟩
      simp [execOp, e0, hcst, go_sem]
    | 15, _ =>
      simp only [List.getElem?_toArray, List.getElem?_cons_zero, List.getElem?_cons_succ, Option.some.injEq] at hi
      subst hi
      have e0 : ev (.tmp 35) = .slice a n ca := hin 35 14 ⟨14, .data⟩ (by kernel_rfl) (by simp) rfl rfl (show (35 : Nat) < 85 by decide)
      refine ⟨fun hno => absurd hno (by decide), fun _ => ?_⟩
      simp [execOp, e0, hcst, go_sem, resolve, invoke, builtin]
    | 16, _ =>
      simp only [List.getElem?_toArray, List.getElem?_cons_zero, List.getElem?_cons_succ, Option.some.injEq] at hi
      subst hi
      have e0 : ev (.tmp 34) = .int .i64 ((L : Int) + 2) := hin 34 13 ⟨13, .data⟩ (by kernel_rfl) (by simp) rfl rfl (show (34 : Nat) < 85 by decide)
      have e1 : ev (.tmp 36) = .int .i64 (n : Int) := hin 36 15 ⟨15, .data⟩ (by kernel_rfl) (by simp) rfl rfl (show (36 : Nat) < 85 by decide)
      refine ⟨fun hno => absurd hno (by decide), fun _ => ?_⟩
      have q1 := HMM.out
      simp [execOp, e0, e1, hcst, go_sem, q1, resolve, invoke, builtin]
    | 17, _ =>
      simp only [List.getElem?_toArray, List.getElem?_cons_zero, List.getElem?_cons_succ, Option.some.injEq] at hi
      subst hi
      have e0 : ev (.tmp 25) = .slice a n ca := hin 25 4 ⟨4, .data⟩ (by kernel_rfl) (by simp) rfl rfl (show (25 : Nat) < 85 by decide)
      have e1 : ev (.tmp 29) = .int .i64 (L : Int) := hin 29 8 ⟨8, .data⟩ (by kernel_rfl) (by simp) rfl rfl (show (29 : Nat) < 85 by decide)
      have e2 : ev (.tmp 37) = .int .i64 (mm : Int) := hin 37 16 ⟨16, .data⟩ (by kernel_rfl) (by simp) rfl rfl (show (37 : Nat) < 85 by decide)
      refine ⟨fun hno => absurd hno (by decide), fun _ => ?_⟩
      have q1 := HSL.out w'
      simp [execOp, e0, e1, e2, hcst, go_sem, q1]
    | 18, _ =>
      simp only [List.getElem?_toArray, List.getElem?_cons_zero, List.getElem?_cons_succ, Option.some.injEq] at hi
      subst hi
      have ha19 : us 19 = none := haft 19 rfl (by kernel_rfl)
      have e0 : ev (.tmp 38) = .slice a4 n4 c4 := hin 38 17 ⟨17, .data⟩ (by kernel_rfl) (by simp) rfl rfl (show (38 : Nat) < 85 by decide)
      refine ⟨fun hno => absurd hno (by decide), fun _ => ?_⟩
      have q1 := HCV.out w' hc.bel
      simp [execOp, e0, hcst, go_sem, q1]
    | 19, _ =>
      simp only [List.getElem?_toArray, List.getElem?_cons_zero, List.getElem?_cons_succ, Option.some.injEq] at hi
      subst hi
      have ha21 : us 21 = none := haft 21 rfl (by kernel_rfl)
      have e0 : ev (.tmp 39) = .string tx := hin 39 18 ⟨18, .data⟩ (by kernel_rfl) (by simp) rfl rfl (show (39 : Nat) < 85 by decide)
      refine ⟨fun _ hz => ?_, fun hno => absurd hno (by decide)⟩
      refine .inl (.inr ⟨42, #[.string tx], ?_, HCE.out us w' hc ha21⟩)
      have ef := hfn 42
      simp [execOp, resolve, invoke, ef, hcst, e0, Result.andThen]
      exact enter70 _ _
    | 20, _ =>
      simp only [List.getElem?_toArray, List.getElem?_cons_zero, List.getElem?_cons_succ, Option.some.injEq] at hi
      subst hi
      have ha21 : us 21 = none := haft 21 rfl (by kernel_rfl)
      refine ⟨fun _ hz => ?_, fun hno => absurd hno (by decide)⟩
      refine .inl (.inl ⟨_, _, ?_, DtC.s20 hc ha21⟩)
      simp [execOp, hcst, go_sem, cmZ]
    | 21, _ =>
      simp only [List.getElem?_toArray, List.getElem?_cons_zero, List.getElem?_cons_succ, Option.some.injEq] at hi
      subst hi
      have hb19 : (us 19).isSome = true := hbef 19 rfl (by kernel_rfl)
      have hb20 : (us 20).isSome = true := hbef 20 rfl (by kernel_rfl)
      have e0 : ev (.tmp 5) = (us 20).getD undef := hin 5 20 ⟨20, .data⟩ (by kernel_rfl) (by simp) rfl rfl (show (5 : Nat) < 85 by decide)
      have e1 : ev (.tmp 24) = .agg #[.string c.what, .string c.verb, .slice a0 n0 c0, .string c.data, .int .u32 c.fl, .int .i64 c.ex, .int .u64 c.cs, .int .u64 c.y, .bool c.wc, .bool c.wt, .bool c.dn, .bool c.q] := hin 24 3 ⟨3, .data⟩ (by kernel_rfl) (by simp) rfl rfl (show (24 : Nat) < 85 by decide)
      refine ⟨fun _ hz => ?_, fun hno => absurd hno (by decide)⟩
      obtain ⟨u20, hu20⟩ := Option.isSome_iff_exists.1 hb20
      obtain ⟨b8, W', q3, q4, q5⟩ := DtC.s21 hc hu20 hz
      rw [hu20, Option.getD_some, q3] at e0
      refine .inr ⟨W', ?_, q5⟩
      simp only [execOp, e0, e1, Instr.storeAt, Instr.sureAddr, Sem.run_bind, Sem.run_pure, Result.andThen_ok, q4]
    | 22, _ =>
      simp only [List.getElem?_toArray, List.getElem?_cons_zero, List.getElem?_cons_succ, Option.some.injEq] at hi
      subst hi
      have hb19 : (us 19).isSome = true := hbef 19 rfl (by kernel_rfl)
      have hb20 : (us 20).isSome = true := hbef 20 rfl (by kernel_rfl)
      have hb21 : (us 21).isSome = true := hbef 21 rfl (by kernel_rfl)
      have e0 : ev (.tmp 40) = (us 19).getD undef := hin 40 19 ⟨19, .data⟩ (by kernel_rfl) (by simp) rfl rfl (show (40 : Nat) < 85 by decide)
      refine ⟨fun hno => absurd hno (by decide), fun _ => ?_⟩
      obtain ⟨u19, hu19⟩ := Option.isSome_iff_exists.1 hb19
      have q1 := hc.call _ hu19
      rw [hu19, Option.getD_some, q1] at e0
      simp [execOp, e0, hcst, go_sem]
  · intro us w7 hus hc
    obtain ⟨z21, b5, d19, d20, d21, l5, e5⟩ := DtC.done hc hus
    rw [lexF_same (V' := fun jx => ([.pointer (some ⟨p, 0, none⟩), .pointer (some ⟨p, 0, none⟩), .pointer (some ⟨p, 4, none⟩), .agg #[.string c.what, .string c.verb, .slice a0 n0 c0, .string c.data, .int .u32 c.fl, .int .i64 c.ex, .int .u64 c.cs, .int .u64 c.y, .bool c.wc, .bool c.wt, .bool c.dn, .bool c.q], .slice a n ca, .pointer (some ⟨p, 0, none⟩), .pointer (some ⟨p, 0, none⟩), .pointer (some ⟨p, 16, none⟩), .int .i64 (L : Int), .pointer (some ⟨p, 0, none⟩), .pointer (some ⟨p, 0, none⟩), .pointer (some ⟨p, 16, none⟩), .int .i64 (L : Int), .int .i64 ((L : Int) + 2), .slice a n ca, .int .i64 (n : Int), .int .i64 (mm : Int), .slice a4 n4 c4, .string tx, (.int .i64 k1), (.pointer (some ⟨b5, 0, none⟩)), z21, .int .i64 k1] : List Value).getD jx undef) _ 0 _ (fun jx _ hj => by
      have hlt : jx < 23 := by simpa using hj
      match jx, hlt with
      | 0, _ => rfl
      | 1, _ => rfl
      | 2, _ => rfl
      | 3, _ => rfl
      | 4, _ => rfl
      | 5, _ => rfl
      | 6, _ => rfl
      | 7, _ => rfl
      | 8, _ => rfl
      | 9, _ => rfl
      | 10, _ => rfl
      | 11, _ => rfl
      | 12, _ => rfl
      | 13, _ => rfl
      | 14, _ => rfl
      | 15, _ => rfl
      | 16, _ => rfl
      | 17, _ => rfl
      | 18, _ => rfl
      | 19, _ => exact (by unfold parV; rw [if_pos (by decide), d19]; rfl)
      | 20, _ => exact (by unfold parV; rw [if_pos (by decide), d20]; rfl)
      | 21, _ => exact (by unfold parV; rw [if_pos (by decide), d21]; rfl)
      | 22, _ => rfl
      | jy + 23, hy => exact absurd hy (by omega))]
    simp only [lexF, Act.put, List.setIfInBounds_toArray, List.set_cons_succ, List.set_cons_zero, List.getD_cons_succ, List.getD_cons_zero]
    have HQ3 : Hid (PM w7 p v1 beg1 seen over c (.slice a0 n0 c0) L g F1 N) := HQ2.out.later hc.bel
    have HT3 : Hid (w7.heap[w.heap.size]? = some (cmO cmZ (.slice none 0 0))) := (hc.bel.block _ HLT.out).trans HT2.out
    have HK3 : Hid (Keep [p] w w7) := HK2.out.trans (Keep.of_below (F := [p]) hc.bel) (fun x hx => .inl hx)
    clear hc hus d19 d20 d21 l5 e5 HCE HCV HSL HQ2 HT2 HK2 d16
    have hkz := HKZ.out
    clear HKZ
    subst hkz
    obtain ⟨q0, q1, q2, q3, q4, q5, q6, q7, q8, q9, q10, q11⟩ := CmAt.of HT3.out
    obtain ⟨j0, j1, j2, j3, j4, j5, j6, j7, j8, j9, j10, j11⟩ := CmFz.of HT3.out
    go_wp2
    rw [set12]
    have HH := heap_cm HT3.out cmZ (.slice none 0 0)
    have HKK := keep_cm w7 w.heap.size cmZ (.slice none 0 0)
    have HQ9 := QAt.far HQ3.out HKK (fun k hk => by simp only [List.mem_singleton] at hk; subst hk; exact ⟨by have := HP.out; omega, cm_no5 HT3.out⟩)
    exact ret_cm2 rfl w.heap.size cmZ (.slice none 0 0) rfl HH rfl ⟨none, 0, 0, v1, beg1, _, rfl, RowT.nil, rfl, HQ9, HK3.out.trans HKK (fun x hx => .inr (by simp only [List.mem_singleton] at hx; omega)), HO1.out⟩
end Go.Proofs.Ytmfjaehajdephab

/-
  data of a parser: small.
-/
namespace Go.Proofs.Ytmfjaehajdephab
open Go.Shelf Go.RowKit Go.Deep
set_option linter.unusedVariables false
set_option linter.unusedSimpArgs false
set_option maxRecDepth 1000000

theorem QAt.setCm {w : World} {p : Nat} {v : Value} {beg seen : Nat} {over : Bool} {c : Cm} {kv : Value} {left gone : Nat} {F : List UInt8} {N : Nat} (h : QAt w p v beg (pR seen over c kv left gone) 51 F N) (c' : Cm) (kv' : Value) : QAt (w.setCells p 4 (cmL c' kv')) p v beg (pR seen over c' kv' left gone) 51 F N := by
  obtain ⟨a, n, cap, L, hv, ho, r⟩ := h.row
  refine ⟨?_, a, n, cap, L, hv, own_same ho (fun g hg => heap_setCells_other p _ _ _ _ (by have := (own_ge ho g hg).1; omega)), r⟩
  exact Blk.sets (cmL c' kv') [v, .int .i64 (beg : Int), .int .i64 (seen : Int), .bool over] (cmL c kv) [.int .i64 (left : Int), .int .i64 (gone : Int)] w rfl h.blk
theorem there_held {w : World} {p : Nat} {v : Value} {beg seen : Nat} {over : Bool} {c : Cm} {kv : Value} {left gone : Nat} {F : List UInt8} {N : Nat} (h : QAt w p v beg (pR seen over c kv left gone) 51 F N) : w.there p 4 12 := fun j hj => by
  refine ⟨?_, h.blk.frozen _⟩
  obtain ⟨u, hu⟩ : ∃ u, (cmL c kv)[j]? = some u := ⟨_, List.getElem?_eq_getElem hj⟩
  have := QAt.cellR h (j + 2) (u := u) (by
    unfold pR
    rw [List.getElem?_cons_succ, List.getElem?_cons_succ, List.getElem?_append_left hj]
    exact hu)
  rw [show 4 + j = j + 2 + 2 by omega, this]
  rfl
theorem store_stepP {ops : Array Oper} {rest : List Oper} {op : Oper} {ac : Act} {W : World} {Q : Exit → Act → World → Prop} (r : Cm) (a : Option Addr) (n c : Nat) (hgd : op.guard = none) (x y : Operand) (ho : op.op = .store 33 x y)
    (p : Nat) (hx : ac.eval x = .pointer (some ⟨p, 4, none⟩)) (hy : ac.eval y = cmV r (.slice a n c)) (ht : W.there p 4 12) (h : wpList Try.prog ops Q rest (ac.put op.dst undef) (W.setCells p 4 (cmL r (.slice a n c)))) : wpList Try.prog ops Q (op :: rest) ac W :=
  wpList_store_mid hgd 33 x y ho p 4 #[.string r.what, .string r.verb, .slice a n c, .string r.data, .int .u32 r.fl, .int .i64 r.ex, .int .u64 r.cs, .int .u64 r.y, .bool r.wc, .bool r.wt, .bool r.dn, .bool r.q] hx hy ht size27 (by simp [Value.oneCell']) h
theorem cmV_zero : (.agg #[.string ⟨#[]⟩, .string ⟨#[]⟩, .slice none 0 0, .string ⟨#[]⟩, .int .u32 0, .int .i64 0, .int .u64 0, .int .u64 0, .bool false, .bool false, .bool false, .bool false] : Value) = cmV cmZ (.slice none 0 0) := rfl
/-- Behind a use in a region of its own. -/
def UsC (X : World) (p : Nat) (v : Value) (R : List Value) (F : List UInt8) (N : Nat) : List Value → World → Prop
  | [], W => Below X.heap.size X W
  | [_], W => ∃ v' beg', QAt W p v' beg' R 51 F N ∧ Keep [p] X W ∧ (∀ g, v'.ownBlock = some g → v.ownBlock = some g ∨ X.heap.size ≤ g)
  | _, _ => False
theorem UsC.done {X : World} {p : Nat} {v : Value} {R : List Value} {F : List UInt8} {N : Nat} {us : List Value} {W : World} (h : UsC X p v R F N us W) (hl : us.length = 1) : ∃ u, us = [u] ∧ ∃ v' beg', QAt W p v' beg' R 51 F N ∧ Keep [p] X W ∧ (∀ g, v'.ownBlock = some g → v.ownBlock = some g ∨ X.heap.size ≤ g) := by
  match us, h with
  | [u], h => exact ⟨u, rfl, h⟩
  | [], _ => cases hl
theorem UsC.bel {X : World} {p : Nat} {v : Value} {R : List Value} {F : List UInt8} {N : Nat} {W : World} (h : UsC X p v R F N [] W) : Below X.heap.size X W := h
theorem UsC.call {X : World} {p : Nat} {v : Value} {beg k : Nat} {R : List Value} {F : List UInt8} {N : Nat} (HQ : QAt X p v beg R 51 F N) (hk : k ≤ F.length) (hN : N ≤ 1000000) {W : World} (hc : UsC X p v R (F.drop k) N [] W) :
    Calls Try.prog 39 #[.pointer (some ⟨p, 0, none⟩), .int .i64 (k : Int)] W fun e w2 => ∃ u, e = .returned u ∧ UsC X p v R (F.drop k) N ([] ++ [u]) w2 := by
  refine (use_any W p v beg k N R 51 F (HQ.later hc.bel) (by decide) hk hN).mono ?_
  rintro e w2 ⟨rfl, v', beg', q, k2, o⟩
  exact ⟨_, rfl, v', beg', q, (Keep.of_below hc.bel).trans k2 (fun x hx => .inl hx), fun g hg => (o g hg).imp id (fun h => Nat.le_trans hc.bel.size h)⟩
theorem enter67 : Enters Try.prog 39 := enters_of Try.func39 (by kernel_rfl) rfl
end Go.Proofs.Ytmfjaehajdephab
