/-
  What the calls of package sum answer: contracts of shift, More, Crc, turn, fold, Hash, Second.
-/
import Derived.Test.YtghdkicijdfpcaaChecked
import Derived.Test.YtghdkicijdfpcaaMath
import Derived.WalkKit
import Derived.WalkSpells
import Derived.WalkLawsBesides
import Derived.Below
namespace Go.Proofs.Ytghdkicijdfpcaa
open Go.RowKit Math

theorem ret_int {k : IntKind} {a b : Int} (h : a = b) : Ending.returned (.int k a) = .returned (.int k b) := by rw [h]

theorem take_snoc (s : ByteArray) (k : Nat) (h : k < s.size) : s.data.toList.take (k + 1) = s.data.toList.take k ++ [s[k]] := by
  rw [List.take_succ_eq_append_getElem (by simpa using h)]; rfl

/-- A slice of bytes, as it lies in the world, with the list of its elements. -/
def Reads (w : World) (a : Option Addr) (l : List Int) : Prop :=
  (∀ i, i < l.length → ∃ b off, a = some ⟨b, off, none⟩ ∧ w.cell? ⟨b, off + i, none⟩ = some (.int .u8 (l.getD i 0))) ∧ ∀ i, 0 ≤ l.getD i 0 ∧ l.getD i 0 ≤ 255

theorem Reads.nil (w : World) (a : Option Addr) : Reads w a [] := ⟨fun i h => absurd h (by simp), fun i => by simp⟩
theorem Reads.later {w wx : World} {a : Option Addr} {l : List Int} (h : Reads w a l) (hb : Below w.heap.size w wx) : Reads wx a l :=
  ⟨fun i hi => by obtain ⟨b, off, e, hc⟩ := h.1 i hi; exact ⟨b, off, e, cell_later hb hc⟩, h.2⟩

theorem take_succ_getD (l : List Int) (k : Nat) (h : k < l.length) : l.take (k + 1) = l.take k ++ [l.getD k 0] := by
  rw [List.take_succ_eq_append_getElem h, List.getD_eq_getElem?_getD, List.getElem?_eq_getElem h]; rfl

end Go.Proofs.Ytghdkicijdfpcaa
