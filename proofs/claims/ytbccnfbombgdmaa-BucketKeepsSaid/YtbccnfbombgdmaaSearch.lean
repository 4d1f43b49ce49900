/- slices.Insert of one element, whatever the room; slices.BinarySearchFunc over what waits. -/
import Derived.Test.YtbccnfbombgdmaaIns
import Derived.Deep.LoopGhost
set_option linter.unusedVariables false
set_option linter.unusedSimpArgs false
set_option maxRecDepth 8000
namespace Go.Proofs.Ytbccnfbombgdmaa
open Go.RowKit Go.Deep

theorem wtCells_one (x : Nat × Pg) : ∀ u ∈ wtCells x, u.oneCell' = true := by
  intro u hu
  simp only [wtCells, List.mem_cons, List.not_mem_nil, or_false] at hu
  rcases hu with rfl | rfl | rfl <;> rfl

theorem wtRow_append (a b : List (Nat × Pg)) : wtRow (a ++ b) = wtRow a ++ wtRow b := by simp [wtRow]
theorem wtRow_cons (x : Nat × Pg) (b : List (Nat × Pg)) : wtRow (x :: b) = wtCells x ++ wtRow b := by simp [wtRow]

theorem insert_any (wa : Option Addr) (wc n : Nat) (l1 l2 : List (Nat × Pg)) (x : Nat × Pg) (vb : Nat) (w : World) (hnl : n = (l1 ++ l2).length) (hl : n ≤ 4096) (hown : w.ownsRow 0 94 3 (.slice wa n wc) n (wtRow (l1 ++ l2)))
    (hv : Blk w vb (wtCells x) 94) (hvb : ∀ a, wa = some a → a.block ≠ vb) :
    Calls Try.prog 74 #[.slice wa n wc, .int .i64 l1.length, .slice (some ⟨vb, 0, none⟩) 1 1] w fun e w' => ∃ g c', e = .returned (.slice (some ⟨g, 0, none⟩) (n + 1) c') ∧
      w'.ownsRow 0 94 3 (.slice (some ⟨g, 0, none⟩) (n + 1) c') (n + 1) (wtRow (l1 ++ x :: l2)) ∧ Keep (wa.map (·.block)).toList w w' ∧ (wa.map (·.block) = some g ∨ w.heap.size ≤ g) := by
  have hx : (wtRow (l1 ++ l2)).length = n * 3 := by rw [wtRow_length, hnl]
  have hx1 := one_of_wt (l1 ++ l2)
  have hnew : (wtRow (l1 ++ x :: l2)).length = (n + 1) * 3 := by rw [wtRow_length, hnl]; simp; omega
  have hrow : wtRow (l1 ++ x :: l2) = wtRow l1 ++ wtCells x ++ wtRow l2 := by rw [wtRow_append, wtRow_cons]; simp
  have hr1 : (wtRow l1).length = l1.length * 3 := wtRow_length l1
  have hr2 : (wtRow l2).length = l2.length * 3 := wtRow_length l2
  have hnn : n = l1.length + l2.length := by rw [hnl]; simp
  have hform := own_form hown
  by_cases hi : l1.length = n
  · have h2 : l2 = [] := List.eq_nil_of_length_eq_zero (by omega)
    subst h2
    rw [List.append_nil] at hform hx hx1
    rw [hi]
    rcases hform with ⟨rfl, h0, h3, h4⟩ | ⟨g, pad, rfl, hb, hnc, hm, _, hp⟩
    · subst h3
      refine (insert_end_grow none n 0 (wtRow l1) (wtCells x) vb w (by omega) (by omega) (by omega) hx (fun a ha => by cases ha) (fun _ => h0) hv rfl (wtCells_one x)).mono ?_
      rintro e w' ⟨c', hc1, hc2, rfl, pad, hp, rfl⟩
      refine ⟨w.heap.size, c', rfl, ?_, ((Keep.refl _ _).drew).alloc _, .inr (Nat.le_refl _)⟩
      refine own_mk (pad := pad) ?_ hc1 hc2 hnew hp
      rw [hrow, show wtRow [] = ([] : List Value) from rfl, List.append_nil]
      exact Blk.new w.drew _ 94
    · by_cases hroom : n + 1 ≤ wc
      · refine (insert_end_room g n wc (wtRow l1) pad (wtCells x) vb w hb hroom hm (by omega) hx hp hv rfl (wtCells_one x)).mono ?_
        rintro e w' ⟨rfl, rfl⟩
        refine ⟨g, wc, rfl, ?_, (Keep.refl _ _).setCells (.inl (by simp)) _ _, .inl rfl⟩
        refine own_mk (pad := pad.drop 3) ?_ hroom hm hnew (by rw [List.length_drop, hp]; omega)
        have hb' : Blk w g (wtRow l1 ++ pad.take 3 ++ pad.drop 3) 94 := by rw [List.append_assoc, List.take_append_drop]; exact hb
        have := Blk.sets (wtCells x) (wtRow l1) (pad.take 3) (pad.drop 3) w (by rw [List.length_take, hp]; show _ = 3; omega) hb'
        rw [hr1, hi] at this
        rw [hrow, show wtRow [] = ([] : List Value) from rfl, List.append_nil]
        exact this
      · refine (insert_end_grow (some ⟨g, 0, none⟩) n wc (wtRow l1) (wtCells x) vb w (by omega) hnc (by omega) hx (fun a ha j v hj => by
          cases ha
          rw [Addr.add_lit, Nat.zero_add]
          exact hb.cell (by rw [List.getElem?_append_left (List.getElem?_eq_some_iff.1 hj).1]; exact hj)) (fun h => by cases h) hv rfl (wtCells_one x)).mono ?_
        rintro e w' ⟨c', hc1, hc2, rfl, pad, hp, rfl⟩
        refine ⟨w.heap.size, c', rfl, ?_, ((Keep.refl _ _).drew).alloc _, .inr (Nat.le_refl _)⟩
        refine own_mk (pad := pad) ?_ hc1 hc2 hnew hp
        rw [hrow, show wtRow [] = ([] : List Value) from rfl, List.append_nil]
        exact Blk.new w.drew _ 94
  · have htk : (wtRow (l1 ++ l2)).take (l1.length * 3) = wtRow l1 := by rw [wtRow_append, ← hr1]; simp
    have hdr : (wtRow (l1 ++ l2)).drop (l1.length * 3) = wtRow l2 := by rw [wtRow_append, ← hr1]; simp
    rcases hform with ⟨rfl, h0, h3, h4⟩ | ⟨g, pad, rfl, hb, hnc, hm, _, hp⟩
    · omega
    · by_cases hroom : n + 1 ≤ wc
      · refine (insert_mid_room g n wc l1.length (wtRow (l1 ++ l2)) pad (wtCells x) vb w (by omega) hb hroom hm (by omega) hx hp hx1 (Ne.symm (hvb _ rfl)) hv rfl (wtCells_one x)).mono ?_
        rintro e w' ⟨rfl, rfl⟩
        refine ⟨g, wc, rfl, ?_, (((Keep.refl _ _).drew).setCells (.inl (by simp)) _ _).setCells (.inl (by simp)) _ _, .inl rfl⟩
        refine own_mk (pad := pad.drop 3) ?_ hroom hm hnew (by rw [List.length_drop, hp]; omega)
        rw [hdr]
        -- first the tail goes up by one, then the new one comes
        obtain ⟨T, hT⟩ : ∃ T, T = wtRow l2 ++ pad.take 3 := ⟨_, rfl⟩
        have hTl : T.length = l2.length * 3 + 3 := by rw [hT, List.length_append, hr2, List.length_take, hp]; omega
        have e0 : wtRow (l1 ++ l2) ++ pad = (wtRow l1 ++ T.take 3) ++ T.drop 3 ++ pad.drop 3 := by
          rw [List.append_assoc (wtRow l1), List.take_append_drop, hT, wtRow_append]
          simp
        rw [e0] at hb
        have b1 := Blk.sets (wtRow l2) (wtRow l1 ++ T.take 3) (T.drop 3) (pad.drop 3) w.drew (by rw [List.length_drop, hTl, hr2]; omega) hb
        have el : (wtRow l1 ++ T.take 3).length = (l1.length + 1) * 3 := by rw [List.length_append, hr1, List.length_take, hTl]; omega
        rw [el] at b1
        have e1 : wtRow l1 ++ T.take 3 ++ wtRow l2 ++ pad.drop 3 = wtRow l1 ++ T.take 3 ++ (wtRow l2 ++ pad.drop 3) := by simp
        rw [e1] at b1
        have b2 := Blk.sets (wtCells x) (wtRow l1) (T.take 3) (wtRow l2 ++ pad.drop 3) _ (by rw [List.length_take, hTl]; show _ = 3; omega) b1
        rw [hr1] at b2
        rw [hrow, List.append_assoc _ (wtRow l2)]
        exact b2
      · refine (insert_mid_grow g n wc l1.length (wtRow (l1 ++ l2)) (wtCells x) vb w (by omega) (by omega) hnc (by omega) hx (fun j v hj => hb.cell (by rw [List.getElem?_append_left (List.getElem?_eq_some_iff.1 hj).1]; exact hj)) hx1 hv rfl (wtCells_one x)).mono ?_
        rintro e w' ⟨c', hc1, hc2, rfl, M, pd, hM, hpd, rfl⟩
        have K1 : Keep (Option.map (fun x : Addr => x.block) (some ⟨g, 0, none⟩)).toList w (w.drew.alloc (.cells ((wtRow (l1 ++ l2)).take (l1.length * 3) ++ M ++ pd).toArray 94)) := ((Keep.refl _ _).drew).alloc _
        refine ⟨w.heap.size, c', rfl, ?_, ((K1.setCells (.inr (Nat.le_refl _)) _ _).drew).setCells (.inr (Nat.le_refl _)) _ _, .inr (Nat.le_refl _)⟩
        refine own_mk (pad := pd) ?_ hc1 hc2 hnew hpd
        rw [hdr, htk]
        have b0 : Blk (w.drew.alloc (.cells (wtRow l1 ++ M ++ pd).toArray 94)) w.heap.size (wtRow l1 ++ M ++ pd) 94 := Blk.new w.drew _ 94
        have e0 : wtRow l1 ++ M ++ pd = wtRow l1 ++ M.take 3 ++ (M.drop 3 ++ pd) := by
          rw [List.append_assoc, List.append_assoc, ← List.append_assoc (M.take 3), List.take_append_drop]
        rw [e0] at b0
        have hMl : M.length = (l2.length + 1) * 3 := by rw [hM]; congr 1; omega
        have b1 := Blk.sets (wtCells x) (wtRow l1) (M.take 3) (M.drop 3 ++ pd) _ (by rw [List.length_take, hMl]; show _ = 3; omega) b0
        have e1 : wtRow l1 ++ wtCells x ++ (M.drop 3 ++ pd) = (wtRow l1 ++ wtCells x) ++ M.drop 3 ++ pd := by simp
        rw [e1] at b1
        have el : (wtRow l1 ++ wtCells x).length = (l1.length + 1) * 3 := by rw [List.length_append, hr1]; show _ + 3 = _; omega
        have key : ∀ V : World, Blk V w.heap.size ((wtRow l1 ++ wtCells x) ++ M.drop 3 ++ pd) 94 → Blk (V.drew.setCells w.heap.size ((l1.length + 1) * 3) (wtRow l2)) w.heap.size ((wtRow l1 ++ wtCells x) ++ wtRow l2 ++ pd) 94 := fun V hV => by
          have := Blk.sets (wtRow l2) (wtRow l1 ++ wtCells x) (M.drop 3) pd V.drew (by rw [List.length_drop, hMl, hr2]; omega) hV
          rwa [el] at this
        rw [hr1] at b1
        have b2 := key _ b1
        rw [hrow]
        rw [e0]
        exact b2

/-- 'cmp.Compare' of two numbers. -/
def cmp3 (a b : Int) : Int := if a < b then -1 else if b < a then 1 else 0

set_option maxHeartbeats 400000 in
theorem compare_any (a b : Int) (w : World) : Calls Try.prog 73 #[.int .i64 a, .int .i64 b] w fun e w' => e = .returned (.int .i64 (cmp3 a b)) ∧ w' = w := by
  unfold cmp3
  by_cases h1 : a < b
  · go_enter Try.func73, Try.ntmps73
    go_wp2
    go_ret
    exact ⟨by simp [h1], rfl⟩
  · by_cases h2 : b < a
    · go_enter Try.func73, Try.ntmps73
      go_wp2
      go_ret
      exact ⟨by simp [h1, h2], rfl⟩
    · go_enter Try.func73, Try.ntmps73
      go_wp2
      go_ret
      exact ⟨by simp [h1, h2], rfl⟩
end Go.Proofs.Ytbccnfbombgdmaa
