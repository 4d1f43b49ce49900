/- A log as a law holds it; 'awake' gets ready. -/
import Derived.Test.YtbjkahdlejaheabId9
set_option linter.unusedVariables false
set_option linter.unusedSimpArgs false
set_option maxRecDepth 8000
namespace Go.Proofs.Ytbjkahdlejaheab
open Go.RowKit Go.Deep Math

/-- A device and a log, above w0. -/
structure LG (w0 W : World) (d : Nat) (F : List Nat) (S : Dv) (l m : Nat) (v5 v6 v7 : Value) (T : Lg) : Prop where
  lg : LgIn W l d m v5 v6 v7 T
  dev : DvAt W d F S
  bel : Below w0.heap.size w0 W
  lowF : ∀ q ∈ F, w0.heap.size ≤ q
  lowL : ∀ q ∈ lfoot l m v5 v6 v7, w0.heap.size ≤ q
section
variable {w0 W W' : World} {d : Nat} {F : List Nat} {S : Dv} {l m : Nat} {v5 v6 v7 : Value} {T : Lg}
theorem LG.below (h : LG w0 W d F S l m v5 v6 v7 T) (b : Below W.heap.size W W') : LG w0 W' d F S l m v5 v6 v7 T :=
  ⟨h.lg.below b, h.dev.below b, h.bel.trans (b.mono h.bel.size), h.lowF, h.lowL⟩
/-- The device alone is turned. -/
theorem LG.devTurn (h : LG w0 W d F S l m v5 v6 v7 T) {F' : List Nat} {S' : Dv} (hd : DvAt W' d F' S') (hm : Moves F F' W W') : LG w0 W' d F' S' l m v5 v6 v7 T := by
  have hs := h.bel.size
  refine ⟨h.lg.dev h.dev hm.keep, hd, h.bel.trans (hm.keep.below h.lowF hs), fun q hq => ?_, h.lowL⟩
  rcases hm.foot q hq with h1 | h1
  · exact h.lowF q h1
  · omega
theorem LG.put (h : LG w0 W d F S l m v5 v6 v7 T) {v6' v7' : Value} {T' : Lg} (hl : LgIn W' l d m v5 v6' v7' T') (hk : Keep (l :: m :: (own v6 ++ own v7)) W W') (h6 : ∀ q ∈ own v6', q ∈ own v6 ∨ W.heap.size ≤ q) (h7 : ∀ q ∈ own v7', q ∈ own v7 ∨ W.heap.size ≤ q) : LG w0 W' d F S l m v5 v6' v7' T' := by
  have hs := h.bel.size
  have hlow : ∀ q ∈ l :: m :: (own v6 ++ own v7), w0.heap.size ≤ q := fun q hq => h.lowL q (by
    simp only [List.mem_cons, List.mem_append] at hq
    simp only [lfoot, List.mem_cons, List.mem_append]
    rcases hq with h1 | h1 | h1 | h1
    · exact .inl h1
    · exact .inr (.inl h1)
    · exact .inr (.inr (.inr (.inl h1)))
    · exact .inr (.inr (.inr (.inr h1))))
  refine ⟨hl, h.dev.same (fun q hq => hk.block q (h.dev.lt q hq) (fun hm => ?_)), h.bel.trans (hk.below hlow hs), h.lowF, fun q hq => ?_⟩
  · refine h.lg.off h.dev q (List.mem_append.2 (.inl ?_)) hq
    simp only [List.mem_cons, List.mem_append] at hm
    simp only [lfoot, List.mem_cons, List.mem_append]
    rcases hm with h1 | h1 | h1 | h1
    · exact .inl h1
    · exact .inr (.inl h1)
    · exact .inr (.inr (.inr (.inl h1)))
    · exact .inr (.inr (.inr (.inr h1)))
  · simp only [lfoot, List.mem_cons, List.mem_append] at hq
    rcases hq with h1 | h1 | h1 | h1 | h1
    · exact h.lowL q (by simp [lfoot, h1])
    · exact h.lowL q (by simp [lfoot, h1])
    · exact h.lowL q (by simp [lfoot, h1])
    · rcases h6 q h1 with h2 | h2
      · exact h.lowL q (by simp [lfoot, h2])
      · omega
    · rcases h7 q h1 with h2 | h2
      · exact h.lowL q (by simp [lfoot, h2])
      · omega
theorem LG.seal (h : LG w0 W d F S l m v5 v6 v7 T) {F' : List Nat} {S' : Dv} {v5' v6' v7' : Value} {T' : Lg} (hl : LgIn W' l d m v5' v6' v7' T') (hd : DvAt W' d F' S') (hk : Keep (F ++ l :: m :: own v5) W W') (hF : ∀ q ∈ F', q ∈ F ∨ W.heap.size ≤ q) (h5 : ∀ q ∈ own v5', q ∈ own v5 ∨ W.heap.size ≤ q) (h6 : ∀ q ∈ own v6', q ∈ own v6) (h7 : ∀ q ∈ own v7', q ∈ own v7) : LG w0 W' d F' S' l m v5' v6' v7' T' := by
  have hs := h.bel.size
  refine ⟨hl, hd, h.bel.trans (hk.below (fun q hq => ?_) hs), fun q hq => ?_, fun q hq => ?_⟩
  · simp only [List.mem_append, List.mem_cons] at hq
    rcases hq with h1 | h1 | h1 | h1
    · exact h.lowF q h1
    · exact h.lowL q (by simp [lfoot, h1])
    · exact h.lowL q (by simp [lfoot, h1])
    · exact h.lowL q (by simp [lfoot, h1])
  · rcases hF q hq with h1 | h1
    · exact h.lowF q h1
    · omega
  · simp only [lfoot, List.mem_cons, List.mem_append] at hq
    rcases hq with h1 | h1 | h1 | h1 | h1
    · exact h.lowL q (by simp [lfoot, h1])
    · exact h.lowL q (by simp [lfoot, h1])
    · rcases h5 q h1 with h2 | h2
      · exact h.lowL q (by simp [lfoot, h2])
      · omega
    · exact h.lowL q (by simp [lfoot, h6 q h1])
    · exact h.lowL q (by simp [lfoot, h7 q h1])
end
def it9 (k : List UInt8) (v : Nat) : It := ⟨k, [118], 0, 0, v⟩
set_option maxHeartbeats 400000 in
theorem it_any (kb : ByteArray) (v : Nat) (w : World) : Calls Try.prog 21 #[.string kb, .int .u64 (v : Int)] w fun e w' => e = .returned (itV kb ⟨#[118]⟩ 0 0 v) ∧ Below w.heap.size w w' := by
  go_enter Try.func21, Try.ntmps21
  go_wp2
  exact bodyPost_ret (v := itV kb ⟨#[118]⟩ 0 0 v) (by simp [results, Try.results21, go_sem, itV]) rfl ⟨rfl, (Below.refl _ _).alloc (Nat.le_refl _) _⟩
theorem it9_ok (k : List UInt8) (v : Nat) (h1 : 1 ≤ k.length) (h2 : k.length ≤ 250) (h3 : 0 < v) (h4 : v < 18446744073709551616) : (it9 k v).fits ∧ (it9 k v).good = true := by
  refine ⟨⟨by show (0 : Nat) < 4294967296; omega, by show -9223372036854775808 ≤ (0 : Int); omega, by show (0 : Int) ≤ 9223372036854775807; omega, h4⟩, (It.good_iff _).2 ⟨h1, h2, by show ([118] : List UInt8).length ≤ 1024; decide, h3⟩⟩
/-- A log that is opened where one region of one item counts. -/
theorem opened_one {T : Lg} {rs : List Rg} {p n : Nat} {x : It} (h1 : rs.map Rg.three = [(p, n, [x])]) (h2 : T.regs = isort rs) (h3 : T.opn = []) (h4 : T.has = hasL (fun _ => none) T.all) : ∃ t, T.all = [t] ∧ t.it = x ∧ T.has = updK (fun _ => none) x.key (some t.pos) ∧ T.items = [x] := by
  have hlen : rs.length = 1 := by have := congrArg List.length h1; simpa using this
  obtain ⟨r, hr0⟩ : ∃ r, rs = [r] := List.length_eq_one_iff.1 hlen
  subst hr0
  simp only [List.map_cons, List.map_nil, List.cons.injEq, and_true, Rg.three, Prod.mk.injEq] at h1
  obtain ⟨_, _, h5⟩ := h1
  have hr : T.regs = [r] := h2
  have ha : T.all = r.ths := by unfold Lg.all; rw [hr, h3]; simp
  have hl2 : r.ths.length = 1 := by have := congrArg List.length h5; simpa using this
  obtain ⟨t, ht⟩ : ∃ t, r.ths = [t] := List.length_eq_one_iff.1 hl2
  rw [ht] at ha h5
  simp only [List.map_cons, List.map_nil, List.cons.injEq, and_true] at h5
  have hh : T.has = updK (fun _ => none) x.key (some t.pos) := by rw [h4, ha]; simp [hasL, h5]
  refine ⟨t, ha, h5, hh, ?_⟩
  unfold Lg.items Lg.hadOf
  rw [ha]
  have : T.cur t = true := by unfold Lg.cur; rw [hh, h5, updK_same]; simp
  simp [this, h5]
end Go.Proofs.Ytbjkahdlejaheab
