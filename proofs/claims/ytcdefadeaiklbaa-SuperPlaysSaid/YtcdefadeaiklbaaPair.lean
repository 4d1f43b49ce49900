/- 'both': Write on the device and on the document's own, in whatever order their operands are taken. -/
import Derived.Test.YtcdefadeaiklbaaRefCrash
set_option linter.unusedVariables false
set_option linter.unusedSimpArgs false
set_option maxRecDepth 8000
namespace Go.Proofs.Ytcdefadeaiklbaa
open Go.RowKit Go.Deep

/-- Both devices, apart from each other. -/
structure Pair (w : World) (d r : Nat) (F G : List Nat) (S T : Dv) : Prop where
  dev : DvAt w d F S
  ref : RfAt w r G T
  apart : Apart w F G

theorem Pair.below {w w' : World} {d r : Nat} {F G : List Nat} {S T : Dv} (h : Pair w d r F G S T) (b : Below w.heap.size w w') : Pair w' d r F G S T :=
  ⟨h.dev.below b, h.ref.below b, (h.apart.below b).1⟩
theorem Moves.left {F F' G : List Nat} {w w' : World} (m : Moves F F' w w') : Moves (F ++ G) (F' ++ G) w w' :=
  ⟨m.keep.mono (fun k hk => .inl (by simp [hk])), fun k hk => by
    rcases List.mem_append.1 hk with h | h
    · rcases m.foot k h with h1 | h1
      · exact .inl (by simp [h1])
      · exact .inr h1
    · exact .inl (by simp [h])⟩
theorem Moves.right {F G G' : List Nat} {w w' : World} (m : Moves G G' w w') : Moves (F ++ G) (F ++ G') w w' :=
  ⟨m.keep.mono (fun k hk => .inl (by simp [hk])), fun k hk => by
    rcases List.mem_append.1 hk with h | h
    · exact .inl (by simp [h])
    · rcases m.foot k h with h1 | h1
      · exact .inl (by simp [h1])
      · exact .inr h1⟩
theorem Apart.swap {w : World} {F G : List Nat} (a : Apart w F G) (hF : ∀ k ∈ F, k < w.heap.size) : Apart w G F := fun k hk => ⟨hF k hk, fun hg => (a k hg).2 hk⟩

/-- A step of the first alone. -/
theorem Pair.step1 {w w' : World} {d r : Nat} {F F' G : List Nat} {S S' T : Dv} (h : Pair w d r F G S T) (hd : DvAt w' d F' S') (m : Moves F F' w w') : Pair w' d r F' G S' T := by
  obtain ⟨a, hs⟩ := m.apart h.apart
  exact ⟨hd, h.ref.same hs, a⟩
/-- A step of the second alone. -/
theorem Pair.step2 {w w' : World} {d r : Nat} {F G G' : List Nat} {S T T' : Dv} (h : Pair w d r F G S T) (hr : RfAt w' r G' T') (m : Moves G G' w w') : Pair w' d r F G' S T' := by
  obtain ⟨a, hs⟩ := m.apart (h.apart.swap h.dev.lt)
  exact ⟨h.dev.same hs, hr, a.swap (fun k hk => hr.lt k hk)⟩

end Go.Proofs.Ytcdefadeaiklbaa
