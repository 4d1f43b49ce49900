/- Copy; the small calls told of the footprint. -/
import Derived.Test.YtcdefadeaiklbaaTorn
set_option linter.unusedVariables false
set_option linter.unusedSimpArgs false
set_option maxRecDepth 8000
namespace Go.Proofs.Ytcdefadeaiklbaa
open Go.RowKit Go.Deep

theorem own_form2 {w : World} {B n : Nat} {v : Value} {xs : List Value} (h : w.ownsRow B 94 2 v n xs) (hv : v ≠ .slice none 0 0) :
    ∃ g pad, v = .slice (some ⟨g, 0, none⟩) n (n + pad.length / 2) ∧ B ≤ g ∧ Blk w g (xs ++ pad) 94 := by
  obtain ⟨h1, h2⟩ := h
  rcases h2 with ⟨h2, h3⟩ | ⟨g, cap, cur, hv2, hB, hh, hn, hm, hs, ht⟩
  · exact absurd h2 hv
  · refine ⟨g, cur.toList.drop (n * 2), ?_, hB, ?_⟩
    · rw [hv2]
      congr 1
      rw [List.length_drop, Array.length_toList, hs]
      omega
    · unfold Blk
      rw [← ht, List.take_append_drop, Array.toArray_toList]
      exact hh

theorem own_form3 {w : World} {B n : Nat} {v : Value} {xs : List Value} (h : w.ownsRow B 100 3 v n xs) (hv : v ≠ .slice none 0 0) :
    ∃ g c, v = .slice (some ⟨g, 0, none⟩) n c ∧ B ≤ g ∧ w.ownsRow 0 100 3 v n xs := by
  obtain ⟨h1, h2⟩ := h
  rcases h2 with ⟨h2, h3⟩ | ⟨g, cap, cur, hv2, hB, hr⟩
  · exact absurd h2 hv
  · exact ⟨g, cap, hv2, hB, h1, .inr ⟨g, cap, cur, hv2, Nat.zero_le _, hr⟩⟩

theorem pgRow_one (cs : List Cl) : ∀ v ∈ pgRow cs, v.oneCell' = true := by
  intro v hv
  obtain ⟨x, _, hx⟩ := List.mem_flatMap.1 hv
  simp only [pgCells, List.mem_cons, List.not_mem_nil, or_false] at hx
  rcases hx with rfl | rfl <;> rfl

theorem arm_at (d : Nat) (F : List Nat) (S : Dv) (w : World) (h : DvAt w d F S) (k : Int) (hk : k ≤ 9223372036854775807) :
    Calls Try.prog 19 #[.pointer (some ⟨d, 0, none⟩), .int .i64 k] w fun e w' => e = .returned (.tuple #[]) ∧ DvAt w' d F (S.arm k) ∧ Keep F w w' := by
  obtain ⟨p, pd, wa, wc, rfl, h⟩ := h
  refine (arm_any d p pd wa wc S w h k hk).mono ?_
  rintro e w' ⟨rfl, h2, k2⟩
  exact ⟨rfl, ⟨p, pd, wa, wc, rfl, h2⟩, k2.mono (fun k hk => .inl (by simp at hk; simp [foot, hk]))⟩
theorem losses_at (d : Nat) (F : List Nat) (S : Dv) (w : World) (h : DvAt w d F S) : Calls Try.prog 47 #[.pointer (some ⟨d, 0, none⟩)] w fun e w' => e = .returned (.int .i64 S.losses) ∧ w' = w := by
  obtain ⟨p, pd, wa, wc, rfl, h⟩ := h
  exact losses_any d p pd wa wc S w h
theorem new_at (n : Nat) (h1 : 1 ≤ n) (h2 : n ≤ 4096) (w : World) :
    Calls Try.prog 10 #[.int .i64 n] w fun e w' => ∃ d F, e = .returned (.tuple #[.pointer (some ⟨d, 0, none⟩), .int .i64 0]) ∧ DvAt w' d F (Dv.fresh n) ∧ (∀ k ∈ F, w.heap.size ≤ k) ∧ Below w.heap.size w w' := by
  refine (new_any n h1 h2 w).mono ?_
  rintro e w' ⟨rfl, h2, b2⟩
  refine ⟨w.heap.size + 1, foot (w.heap.size + 1) w.heap.size none, rfl, ⟨_, _, _, _, rfl, h2⟩, fun k hk => ?_, b2⟩
  simp [foot] at hk
  omega
/-- The blocks G are there, and none of them is of F. -/
def Apart (w : World) (F G : List Nat) : Prop := ∀ k ∈ G, k < w.heap.size ∧ k ∉ F

theorem Moves.apart {F F' G : List Nat} {w w' : World} (m : Moves F F' w w') (a : Apart w F G) : Apart w' F' G ∧ ∀ k ∈ G, w'.heap[k]? = w.heap[k]? := by
  refine ⟨fun k hk => ⟨Nat.lt_of_lt_of_le (a k hk).1 m.keep.size, fun hf => ?_⟩, fun k hk => m.keep.block k (a k hk).1 (a k hk).2⟩
  rcases m.foot k hf with h | h
  · exact (a k hk).2 h
  · have := (a k hk).1; omega
theorem Apart.below {F G : List Nat} {w w' : World} (a : Apart w F G) (b : Below w.heap.size w w') : Apart w' F G ∧ ∀ k ∈ G, w'.heap[k]? = w.heap[k]? :=
  ⟨fun k hk => ⟨Nat.lt_of_lt_of_le (a k hk).1 b.size, (a k hk).2⟩, fun k hk => b.block k (a k hk).1⟩

end Go.Proofs.Ytcdefadeaiklbaa
