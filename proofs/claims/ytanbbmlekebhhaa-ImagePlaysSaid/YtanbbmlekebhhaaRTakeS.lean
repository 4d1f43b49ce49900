/- 'Take', of what has the form. -/
import Derived.Test.YtanbbmlekebhhaaRTakeB
import Derived.Deep.RegionHeld
set_option linter.unusedVariables false
set_option linter.unusedSimpArgs false
namespace Go.Proofs.Ytanbbmlekebhhaa
open Go.RowKit Go.Deep Math

/-- 'string(b)'. -/
theorem str_bs {w : World} {a : Option Addr} {n cap : Nat} {l : List UInt8} (h : BS w a n cap l) (hnil : a = none → l = []) : (convert 39 9 (.slice a n cap)).run Try.prog w = .ok (.string (txt l)) w := by
  have hn := h.len
  subst hn
  cases a with
  | none =>
    rw [hnil rfl, run_convert_bytes_string w 39 9 5 none _ cap Try.underlying39 Try.underlying5 Try.underlying9]
    unfold Conv.bytesToString
    simp [Sem.run_bind, Result.andThen]
    rfl
  | some x =>
    refine run_convert_bytes_back w 39 9 5 x cap l Try.underlying39 Try.underlying5 Try.underlying9 (fun j hj => ?_)
    obtain ⟨b, off, ha, _, hc⟩ := h.cell j hj
    cases ha
    rw [Addr.add_lit, hc]
    simp [List.getD_eq_getElem?_getD, List.getElem?_eq_getElem hj]

theorem bs_box {w V : World} {b off n cap : Nat} {l : List UInt8} (h : BS V (some ⟨b, off, none⟩) n cap l) (hne : b ≠ w.heap.size) (p1 p2 p3 p4 p5 : Value) :
    BS (((((V.setCell ⟨w.heap.size, 0, none⟩ p1).setCell ⟨w.heap.size, 1, none⟩ p2).setCell ⟨w.heap.size, 2, none⟩ p3).setCell ⟨w.heap.size, 3, none⟩ p4).setCell ⟨w.heap.size, 4, none⟩ p5).drew (some ⟨b, off, none⟩) n cap l := by
  obtain ⟨X, hX⟩ : ∃ X, X = (((((V.setCell ⟨w.heap.size, 0, none⟩ p1).setCell ⟨w.heap.size, 1, none⟩ p2).setCell ⟨w.heap.size, 2, none⟩ p3).setCell ⟨w.heap.size, 3, none⟩ p4).setCell ⟨w.heap.size, 4, none⟩ p5) := ⟨_, rfl⟩
  have e : X.heap[b]? = V.heap[b]? := by
    rw [hX]
    exact ((((blk_setCell_other _ _ _ _ hne).trans (blk_setCell_other _ _ _ _ hne)).trans (blk_setCell_other _ _ _ _ hne)).trans (blk_setCell_other _ _ _ _ hne)).trans (blk_setCell_other _ _ _ _ hne)
  rw [← hX]
  refine BS.mk' h.len h.cap ⟨fun i hi => ?_, h.reads.2⟩
  obtain ⟨b', off', ha, hc⟩ := h.reads.1 i hi
  simp only [Option.some.injEq, Addr.mk.injEq, and_true] at ha
  obtain ⟨rfl, rfl⟩ := ha
  exact ⟨b, off, rfl, (World.cell?_of_block (a := ⟨b, off + i, none⟩) (show X.drew.heap[b]? = V.heap[b]? from e)).trans hc⟩
end Go.Proofs.Ytanbbmlekebhhaa
