/-
  awake, what the statements ask first: the few texts that the document tells of answer as told.
  Conditions: the library's table of powers of ten is laid.
-/
import Derived.Test.YtffmmpahenogdaaDoorShow
import Derived.Test.YtffmmpahenogdaaDoorNum
import Derived.Test.YtffmmpahenogdaaDoorSplit
namespace Go.Proofs.YtffmmpahenogdaaDoor
open Go.Shelf Go.RowKit
set_option linter.unusedVariables false

theorem digits120 : digits 120 = [49, 50, 48] := by simp [digits, Lib.decDigits]

/-- A word of one's own slice. -/
theorem Own.slice {w : World} {B : Nat} {v : Value} {ws : List (List UInt8)} (h : Own w B v ws) (h0 : ws ≠ []) : ∃ g cap, v = .slice (some ⟨g, 0, none⟩) ws.length cap ∧ g < w.heap.size ∧ ∀ j x, ws[j]? = some x → w.cell? ⟨g, j, none⟩ = some (strV x) := by
  obtain ⟨g, cap, rfl⟩ := Joins.ownsRow_form h (by cases ws with | nil => exact absurd rfl h0 | cons => simp)
  refine ⟨g, cap, rfl, (h.lt g rfl).2, fun j x hj => ?_⟩
  have hlt : j < ws.length := (List.getElem?_eq_some_iff.1 hj).1
  rw [World.ownsRow.cellAt h j (by omega)]
  simp [hj]

theorem cell_later {w w' : World} {g j : Nat} {x : Value} (h : w.cell? ⟨g, j, none⟩ = some x) (hg : g < w.heap.size) (hb : Below w.heap.size w w') : w'.cell? ⟨g, j, none⟩ = some x := by
  rw [World.cell?_of_block (w := w) (w' := w') (hb.block g hg)]
  exact h

set_option maxHeartbeats 4000000 in
set_option maxRecDepth 1000000 in
theorem awake_any (w : World) (htab : Tab w) :
    Calls Tryd.prog 9 #[] w fun e w' => e = .returned (.bool true) ∧ Below w.heap.size w w' := by
  go_enter Tryd.func9, Tryd.ntmps9
  go_wp2_with fail
  refine (split_any _ _ (by decide)).mono ?_
  rintro e w1 ⟨v, rfl, hO, b1⟩
  have hsp : spl [] (ByteArray.mk #[103, 101, 116, 32, 32, 97, 32, 98, 32]).data.toList = [[103, 101, 116], [97], [98]] := by decide
  rw [hsp] at hO
  obtain ⟨g, cap, rfl, hg, hc⟩ := hO.slice (by simp)
  have c0 := hc 0 _ rfl
  have c2 := hc 2 _ rfl
  clear hc hO hsp
  go_wp2_with fail
  refine (number_any _ _).mono ?_
  rintro e w2 ⟨rfl, b2⟩
  rw [show numV (ByteArray.mk #[48, 48, 55]).data.toList = 7 by decide, show numOk (ByteArray.mk #[48, 48, 55]).data.toList = true by decide]
  go_wp2_with fail
  refine (signed_any _ _).mono ?_
  rintro e w3 ⟨rfl, b3⟩
  rw [show sgnV (ByteArray.mk #[45, 53]).data.toList = -5 by decide, show sgnOk (ByteArray.mk #[45, 53]).data.toList = true by decide]
  go_wp2_with fail
  refine (runes_any _ _ (by decide)).mono ?_
  rintro e w4 ⟨rfl, b4⟩
  rw [show count (ByteArray.mk #[97, 255]).data.toList = 2 by decide, show allGood (ByteArray.mk #[97, 255]).data.toList = false by decide]
  have s1 := b1.size
  have s2 := b2.size
  have s3 := b3.size
  have s4 := b4.size
  have b14 : Below w1.heap.size w1 w4 := (b2.trans (b3.mono s2)).trans (b4.mono (by omega))
  have d0 : w4.cell? ⟨g, 0, none⟩ = some (.string ⟨#[103, 101, 116]⟩) := cell_later c0 hg b14
  have d2 : w4.cell? ⟨g, 2, none⟩ = some (.string ⟨#[98]⟩) := cell_later c2 hg b14
  have HB : Hid (Below w.heap.size w w4) := b1.trans (b14.mono s1)
  clear c0 c2 b14 b1 b2 b3 b4
  go_wp2_with fail
  refine (key_any _ _ (by decide)).mono ?_
  rintro e w5 ⟨rfl, b5⟩
  rw [show isKey (ByteArray.mk #[97]).data.toList = true by decide]
  have HB5 : Hid (Below w.heap.size w w5) := HB.out.trans (b5.mono (by omega))
  have s5 := b5.size
  clear HB b5
  go_wp2_with fail
  refine (key_any _ _ (by decide)).mono ?_
  rintro e w6 ⟨rfl, b6⟩
  rw [show isKey (ByteArray.mk #[97, 32, 98]).data.toList = false by decide]
  have HB6 : Hid (Below w.heap.size w w6) := HB5.out.trans (b6.mono (by omega))
  have s6 := b6.size
  clear HB5 b6
  go_wp2_with fail
  refine (text_any 120 (by decide) _ (htab.later HB6.out)).mono ?_
  rintro e w7 ⟨rfl, b7⟩
  rw [digits120]
  have HB7 : Hid (Below w.heap.size w w7) := HB6.out.trans (b7.mono (by omega))
  have s7 := b7.size
  clear HB6 b7
  go_wp2_with fail
  refine (shown_any _ _ (by decide)).mono ?_
  rintro e w8 ⟨rfl, b8⟩
  rw [show shown (ByteArray.mk #[97, 32, 98]).data.toList = [97, 92, 48, 52, 48, 98] by decide]
  have HB8 : Hid (Below w.heap.size w w8) := HB7.out.trans (b8.mono (by omega))
  clear HB7 b8
  go_wp2
  go_ret
  exact ⟨rfl, HB8.out⟩
end Go.Proofs.YtffmmpahenogdaaDoor
