/- Texts joined: Search, Hold, Put. -/
import Derived.Test.YtbccnfbombgdmaaGreatJ10
import Derived.Deep.LoopGhost
import Derived.Test.YtbccnfbombgdmaaGreatJ02
import Derived.Deep.RegionWith
/- slices.Insert of one element, whatever the room; slices.BinarySearchFunc over what waits. -/
set_option linter.unusedVariables false
set_option linter.unusedSimpArgs false
set_option maxRecDepth 8000
namespace Go.Proofs.YtbccnfbombgdmaaGreat
open Go.RowKit Go.Deep

theorem wtCells_one (x : Nat × Pg) : ∀ u ∈ wtCells x, u.oneCell' = true := by
  intro u hu
  simp only [wtCells, List.mem_cons, List.not_mem_nil, or_false] at hu
  rcases hu with rfl | rfl | rfl <;> rfl

theorem wtRow_append (a b : List (Nat × Pg)) : wtRow (a ++ b) = wtRow a ++ wtRow b := by simp [wtRow]
theorem wtRow_cons (x : Nat × Pg) (b : List (Nat × Pg)) : wtRow (x :: b) = wtCells x ++ wtRow b := by simp [wtRow]

theorem insert_any (wa : Option Addr) (wc n : Nat) (l1 l2 : List (Nat × Pg)) (x : Nat × Pg) (vb : Nat) (w : World) (hnl : n = (l1 ++ l2).length) (hl : n ≤ 4096) (hown : w.ownsRow 0 137 3 (.slice wa n wc) n (wtRow (l1 ++ l2)))
    (hv : Blk w vb (wtCells x) 137) (hvb : ∀ a, wa = some a → a.block ≠ vb) :
    Calls Tryz.prog 103 #[.slice wa n wc, .int .i64 l1.length, .slice (some ⟨vb, 0, none⟩) 1 1] w fun e w' => ∃ g c', e = .returned (.slice (some ⟨g, 0, none⟩) (n + 1) c') ∧
      w'.ownsRow 0 137 3 (.slice (some ⟨g, 0, none⟩) (n + 1) c') (n + 1) (wtRow (l1 ++ x :: l2)) ∧ Keep (wa.map (·.block)).toList w w' ∧ (wa.map (·.block) = some g ∨ w.heap.size ≤ g) := by
  have hx : (wtRow (l1 ++ l2)).length = n * 3 := by rw [wtRow_length, hnl]
  have hx1 := one_of_wt (l1 ++ l2)
  have hnew : (wtRow (l1 ++ x :: l2)).length = (n + 1) * 3 := by rw [wtRow_length, hnl]; simp; omega
  have hrow : wtRow (l1 ++ x :: l2) = wtRow l1 ++ wtCells x ++ wtRow l2 := by rw [wtRow_append, wtRow_cons]; simp
  have hr1 : (wtRow l1).length = l1.length * 3 := wtRow_length l1
  have hr2 : (wtRow l2).length = l2.length * 3 := wtRow_length l2
  have hnn : n = l1.length + l2.length := by rw [hnl]; simp
  have hform := own_form hown
  by_cases hi : l1.length = n
  · have h2 : l2 = [] := List.eq_nil_of_length_eq_zero (by omega)
    subst h2
    rw [List.append_nil] at hform hx hx1
    rw [hi]
    rcases hform with ⟨rfl, h0, h3, h4⟩ | ⟨g, pad, rfl, hb, hnc, hm, _, hp⟩
    · subst h3
      refine (insert_end_grow none n 0 (wtRow l1) (wtCells x) vb w (by omega) (by omega) (by omega) hx (fun a ha => by cases ha) (fun _ => h0) hv rfl (wtCells_one x)).mono ?_
      rintro e w' ⟨c', hc1, hc2, rfl, pad, hp, rfl⟩
      refine ⟨w.heap.size, c', rfl, ?_, ((Keep.refl _ _).drew).alloc _, .inr (Nat.le_refl _)⟩
      refine own_mk (pad := pad) ?_ hc1 hc2 hnew hp
      rw [hrow, show wtRow [] = ([] : List Value) from rfl, List.append_nil]
      exact Blk.new w.drew _ 137
    · by_cases hroom : n + 1 ≤ wc
      · refine (insert_end_room g n wc (wtRow l1) pad (wtCells x) vb w hb hroom hm (by omega) hx hp hv rfl (wtCells_one x)).mono ?_
        rintro e w' ⟨rfl, rfl⟩
        refine ⟨g, wc, rfl, ?_, (Keep.refl _ _).setCells (.inl (by simp)) _ _, .inl rfl⟩
        refine own_mk (pad := pad.drop 3) ?_ hroom hm hnew (by rw [List.length_drop, hp]; omega)
        have hb' : Blk w g (wtRow l1 ++ pad.take 3 ++ pad.drop 3) 137 := by rw [List.append_assoc, List.take_append_drop]; exact hb
        have := Blk.sets (wtCells x) (wtRow l1) (pad.take 3) (pad.drop 3) w (by rw [List.length_take, hp]; show _ = 3; omega) hb'
        rw [hr1, hi] at this
        rw [hrow, show wtRow [] = ([] : List Value) from rfl, List.append_nil]
        exact this
      · refine (insert_end_grow (some ⟨g, 0, none⟩) n wc (wtRow l1) (wtCells x) vb w (by omega) hnc (by omega) hx (fun a ha j v hj => by
          cases ha
          rw [Addr.add_lit, Nat.zero_add]
          exact hb.cell (by rw [List.getElem?_append_left (List.getElem?_eq_some_iff.1 hj).1]; exact hj)) (fun h => by cases h) hv rfl (wtCells_one x)).mono ?_
        rintro e w' ⟨c', hc1, hc2, rfl, pad, hp, rfl⟩
        refine ⟨w.heap.size, c', rfl, ?_, ((Keep.refl _ _).drew).alloc _, .inr (Nat.le_refl _)⟩
        refine own_mk (pad := pad) ?_ hc1 hc2 hnew hp
        rw [hrow, show wtRow [] = ([] : List Value) from rfl, List.append_nil]
        exact Blk.new w.drew _ 137
  · have htk : (wtRow (l1 ++ l2)).take (l1.length * 3) = wtRow l1 := by rw [wtRow_append, ← hr1]; simp
    have hdr : (wtRow (l1 ++ l2)).drop (l1.length * 3) = wtRow l2 := by rw [wtRow_append, ← hr1]; simp
    rcases hform with ⟨rfl, h0, h3, h4⟩ | ⟨g, pad, rfl, hb, hnc, hm, _, hp⟩
    · omega
    · by_cases hroom : n + 1 ≤ wc
      · refine (insert_mid_room g n wc l1.length (wtRow (l1 ++ l2)) pad (wtCells x) vb w (by omega) hb hroom hm (by omega) hx hp hx1 (Ne.symm (hvb _ rfl)) hv rfl (wtCells_one x)).mono ?_
        rintro e w' ⟨rfl, rfl⟩
        refine ⟨g, wc, rfl, ?_, (((Keep.refl _ _).drew).setCells (.inl (by simp)) _ _).setCells (.inl (by simp)) _ _, .inl rfl⟩
        refine own_mk (pad := pad.drop 3) ?_ hroom hm hnew (by rw [List.length_drop, hp]; omega)
        rw [hdr]
        -- first the tail goes up by one, then the new one comes
        obtain ⟨T, hT⟩ : ∃ T, T = wtRow l2 ++ pad.take 3 := ⟨_, rfl⟩
        have hTl : T.length = l2.length * 3 + 3 := by rw [hT, List.length_append, hr2, List.length_take, hp]; omega
        have e0 : wtRow (l1 ++ l2) ++ pad = (wtRow l1 ++ T.take 3) ++ T.drop 3 ++ pad.drop 3 := by
          rw [List.append_assoc (wtRow l1), List.take_append_drop, hT, wtRow_append]
          simp
        rw [e0] at hb
        have b1 := Blk.sets (wtRow l2) (wtRow l1 ++ T.take 3) (T.drop 3) (pad.drop 3) w.drew (by rw [List.length_drop, hTl, hr2]; omega) hb
        have el : (wtRow l1 ++ T.take 3).length = (l1.length + 1) * 3 := by rw [List.length_append, hr1, List.length_take, hTl]; omega
        rw [el] at b1
        have e1 : wtRow l1 ++ T.take 3 ++ wtRow l2 ++ pad.drop 3 = wtRow l1 ++ T.take 3 ++ (wtRow l2 ++ pad.drop 3) := by simp
        rw [e1] at b1
        have b2 := Blk.sets (wtCells x) (wtRow l1) (T.take 3) (wtRow l2 ++ pad.drop 3) _ (by rw [List.length_take, hTl]; show _ = 3; omega) b1
        rw [hr1] at b2
        rw [hrow, List.append_assoc _ (wtRow l2)]
        exact b2
      · refine (insert_mid_grow g n wc l1.length (wtRow (l1 ++ l2)) (wtCells x) vb w (by omega) (by omega) hnc (by omega) hx (fun j v hj => hb.cell (by rw [List.getElem?_append_left (List.getElem?_eq_some_iff.1 hj).1]; exact hj)) hx1 hv rfl (wtCells_one x)).mono ?_
        rintro e w' ⟨c', hc1, hc2, rfl, M, pd, hM, hpd, rfl⟩
        have K1 : Keep (Option.map (fun x : Addr => x.block) (some ⟨g, 0, none⟩)).toList w (w.drew.alloc (.cells ((wtRow (l1 ++ l2)).take (l1.length * 3) ++ M ++ pd).toArray 137)) := ((Keep.refl _ _).drew).alloc _
        refine ⟨w.heap.size, c', rfl, ?_, ((K1.setCells (.inr (Nat.le_refl _)) _ _).drew).setCells (.inr (Nat.le_refl _)) _ _, .inr (Nat.le_refl _)⟩
        refine own_mk (pad := pd) ?_ hc1 hc2 hnew hpd
        rw [hdr, htk]
        have b0 : Blk (w.drew.alloc (.cells (wtRow l1 ++ M ++ pd).toArray 137)) w.heap.size (wtRow l1 ++ M ++ pd) 137 := Blk.new w.drew _ 137
        have e0 : wtRow l1 ++ M ++ pd = wtRow l1 ++ M.take 3 ++ (M.drop 3 ++ pd) := by
          rw [List.append_assoc, List.append_assoc, ← List.append_assoc (M.take 3), List.take_append_drop]
        rw [e0] at b0
        have hMl : M.length = (l2.length + 1) * 3 := by rw [hM]; congr 1; omega
        have b1 := Blk.sets (wtCells x) (wtRow l1) (M.take 3) (M.drop 3 ++ pd) _ (by rw [List.length_take, hMl]; show _ = 3; omega) b0
        have e1 : wtRow l1 ++ wtCells x ++ (M.drop 3 ++ pd) = (wtRow l1 ++ wtCells x) ++ M.drop 3 ++ pd := by simp
        rw [e1] at b1
        have el : (wtRow l1 ++ wtCells x).length = (l1.length + 1) * 3 := by rw [List.length_append, hr1]; show _ + 3 = _; omega
        have key : ∀ V : World, Blk V w.heap.size ((wtRow l1 ++ wtCells x) ++ M.drop 3 ++ pd) 137 → Blk (V.drew.setCells w.heap.size ((l1.length + 1) * 3) (wtRow l2)) w.heap.size ((wtRow l1 ++ wtCells x) ++ wtRow l2 ++ pd) 137 := fun V hV => by
          have := Blk.sets (wtRow l2) (wtRow l1 ++ wtCells x) (M.drop 3) pd V.drew (by rw [List.length_drop, hMl, hr2]; omega) hV
          rwa [el] at this
        rw [hr1] at b1
        have b2 := key _ b1
        rw [hrow]
        rw [e0]
        exact b2

/-- 'cmp.Compare' of two numbers. -/
def cmp3 (a b : Int) : Int := if a < b then -1 else if b < a then 1 else 0

set_option maxHeartbeats 400000 in
theorem compare_any (a b : Int) (w : World) : Calls Tryz.prog 102 #[.int .i64 a, .int .i64 b] w fun e w' => e = .returned (.int .i64 (cmp3 a b)) ∧ w' = w := by
  unfold cmp3
  by_cases h1 : a < b
  · go_enter Tryz.func102, Tryz.ntmps102
    go_wp2
    go_ret
    exact ⟨by simp [h1], rfl⟩
  · by_cases h2 : b < a
    · go_enter Tryz.func102, Tryz.ntmps102
      go_wp2
      go_ret
      exact ⟨by simp [h1, h2], rfl⟩
    · go_enter Tryz.func102, Tryz.ntmps102
      go_wp2
      go_ret
      exact ⟨by simp [h1, h2], rfl⟩
end Go.Proofs.YtbccnfbombgdmaaGreat

/- slices.BinarySearchFunc over what waits. -/
set_option linter.unusedVariables false
set_option linter.unusedSimpArgs false
set_option maxRecDepth 8000
namespace Go.Proofs.YtbccnfbombgdmaaGreat
open Go.RowKit Go.Deep

theorem cmp3_neg (a b : Int) : cmp3 a b < 0 ↔ a < b := by
  unfold cmp3; split
  · simp [*]
  · split <;> simp [*]
theorem cmp3_zero (a b : Int) : cmp3 a b = 0 ↔ a = b := by
  unfold cmp3; split
  · simp; omega
  · split
    · simp; omega
    · simp; omega

set_option maxHeartbeats 400000 in
theorem closure_any (p k at0 : Int) (t : ByteArray) (w : World) :
    Calls Tryz.prog 101 #[.agg #[.int .i64 p, .int .u8 k, .string t], .int .i64 at0] w fun e w' => e = .returned (.int .i64 (cmp3 p at0)) ∧ Below w.heap.size w w' := by
  generalize hc : cmp3 p at0 = cv
  have cc : ∀ W : World, Calls Tryz.prog 102 #[.int .i64 p, .int .i64 at0] W fun e w' => e = .returned (.int .i64 cv) ∧ w' = W := fun W => by
    have := compare_any p at0 W
    rwa [hc] at this
  clear hc
  go_enter Tryz.func101, Tryz.ntmps101
  go_wp2_with (go_at_call 102; refine (cc _).mono ?_; rintro e w' ⟨rfl, rfl⟩)
  go_ret
  exact ⟨rfl, (Below.refl _ _).alloc (Nat.le_refl _) _⟩

/-- Is the first of these the page? -/
def headIs (l : List (Nat × Pg)) (at0 : Nat) : Bool := match l with
  | [] => false
  | x :: _ => decide (x.1 = at0)

set_option maxHeartbeats 1000000 in
theorem search_any (wa : Option Addr) (wc g n : Nat) (l1 l2 : List (Nat × Pg)) (at0 : Nat) (w : World) (hnl : n = l1.length + l2.length) (hl : n ≤ 4096)
    (hwa : 0 < n → wa = some ⟨g, 0, none⟩ ∧ g < w.heap.size) (hc : ∀ j v, (wtRow (l1 ++ l2))[j]? = some v → w.cell? ⟨g, j, none⟩ = some v)
    (h1 : ∀ x ∈ l1, x.1 < at0) (h2 : ∀ x ∈ l2, at0 ≤ x.1) :
    Calls Tryz.prog 100 #[.slice wa n wc, .int .i64 at0, .func (.func 101) #[] #[]] w fun e w' => e = .returned (.tuple #[.int .i64 l1.length, .bool (headIs l2 at0)]) ∧ Below w.heap.size w w' := by
  have HW : Hid _ := hwa
  have HC : Hid _ := hc
  have HN : Hid _ := hnl
  have H1 : Hid _ := h1
  have H2 : Hid _ := h2
  -- what lies at a place, in any later world
  have hat : Hid (∀ (wr : World) (m : Nat), Below w.heap.size w wr → m < n → ∃ x : Nat × Pg, (l1 ++ l2)[m]? = some x ∧ wa = some ⟨g, 0, none⟩ ∧
      wr.cell? ⟨g, m * 3, none⟩ = some (.int .i64 x.1) ∧ wr.cell? ⟨g, m * 3 + 1, none⟩ = some (.int .u8 x.2.kind) ∧ wr.cell? ⟨g, m * 3 + 2, none⟩ = some (.string x.2.text)) := by
    intro wr m hB hm
    obtain ⟨ha, hg⟩ := hwa (by omega)
    obtain ⟨A, x, B, hAB, hA⟩ := part_at (l1 ++ l2) m (by simp; omega)
    refine ⟨x, by rw [hAB, ← hA]; simp, ha, ?_, ?_, ?_⟩
    · rw [hB.cell hg]; exact hc _ _ (by rw [hAB, ← hA, show A.length * 3 = A.length * 3 + 0 from rfl]; exact flat_get wtCells 3 (fun _ => rfl) A x B 0 (by decide))
    · rw [hB.cell hg]; exact hc _ _ (by rw [hAB, ← hA]; exact flat_get wtCells 3 (fun _ => rfl) A x B 1 (by decide))
    · rw [hB.cell hg]; exact hc _ _ (by rw [hAB, ← hA]; exact flat_get wtCells 3 (fun _ => rfl) A x B 2 (by decide))
  clear hwa hc hnl h1 h2
  generalize hfin : headIs l2 at0 = fin
  have FIN : Hid (headIs l2 at0 = fin) := hfin
  clear hfin
  generalize hk1 : l1.length = k1
  have K1 : Hid (l1.length = k1) := hk1
  clear hk1
  go_enter Tryz.func100, Tryz.ntmps100
  go_wp2
  go_loopg [9, 10] n (fun kx s9 s10 wr => ∃ lo hi : Nat, s9 = .int .i64 lo ∧ s10 = .int .i64 hi ∧ lo ≤ hi ∧ hi ≤ n ∧ hi - lo ≤ kx ∧ Hid (Below w.heap.size w wr ∧ lo ≤ k1 ∧ k1 ≤ hi))
  case atStart => exact ⟨0, n, rfl, rfl, Nat.zero_le _, Nat.le_refl _, by omega, Below.refl _ _, Nat.zero_le _, by have := HN.out; rw [K1.out] at this; omega⟩
  case round =>
    obtain ⟨lo, hi, rfl, rfl, hlh, hin, hg, I⟩ := hrel
    by_cases hlt : lo < hi
    · obtain ⟨x, hx, hwa, c0, c1, c2⟩ := hat.out wr ((lo + hi) / 2) I.out.1 (by omega)
      subst hwa
      have X : Hid ((l1 ++ l2)[(lo + hi) / 2]? = some x) := hx
      clear hx
      obtain ⟨cv, hcv⟩ : ∃ cv, cv = cmp3 x.1 at0 := ⟨_, rfl⟩
      have cc : ∀ W : World, Calls Tryz.prog 101 #[.agg #[.int .i64 x.1, .int .u8 x.2.kind, .string x.2.text], .int .i64 at0] W fun e w' => e = .returned (.int .i64 cv) ∧ Below W.heap.size W w' := fun W => by
        rw [hcv]; exact closure_any _ _ _ _ W
      by_cases hyx : x.1 < at0
      · have hneg : cv < 0 := by rw [hcv]; exact (cmp3_neg _ _).2 (by omega)
        clear hcv
        have HM : Hid ((lo + hi) / 2 + 1 ≤ k1) := by
          show (lo + hi) / 2 + 1 ≤ k1
          rcases Nat.lt_or_ge ((lo + hi) / 2) k1 with h | h
          · exact h
          · have hx2 := X.out
            rw [List.getElem?_append_right (by rw [K1.out]; exact h)] at hx2
            have := H2.out x (List.mem_of_getElem? hx2)
            omega
        clear hyx
        go_wp2_with (go_at_call 101; refine (cc _).mono ?_; rintro e w' ⟨rfl, hbw⟩)
        go_roundg (hi - ((lo + hi) / 2 + 1))
        case measure => omega
        case rel =>
          have hb := I.out.1.trans (hbw.mono I.out.1.size)
          exact ⟨(lo + hi) / 2 + 1, hi, by rw [show ((lo : Int) + (hi : Int)) / 2 + 1 = (((lo + hi) / 2 + 1 : Nat) : Int) by omega], rfl, by omega, hin, Nat.le_refl _, hb, HM.out, I.out.2.2⟩
      · have hneg : ¬ cv < 0 := by rw [hcv]; exact fun h => hyx (by have := (cmp3_neg _ _).1 h; omega)
        clear hcv
        have HM : Hid (k1 ≤ (lo + hi) / 2) := by
          show k1 ≤ (lo + hi) / 2
          rcases Nat.lt_or_ge ((lo + hi) / 2) k1 with h | h
          · have hx2 := X.out
            rw [List.getElem?_append_left (by rw [K1.out]; exact h)] at hx2
            have := H1.out x (List.mem_of_getElem? hx2)
            omega
          · exact h
        clear hyx
        go_wp2_with (go_at_call 101; refine (cc _).mono ?_; rintro e w' ⟨rfl, hbw⟩)
        go_roundg ((lo + hi) / 2 - lo)
        case measure => omega
        case rel =>
          have hb := I.out.1.trans (hbw.mono I.out.1.size)
          exact ⟨lo, (lo + hi) / 2, rfl, by rw [show ((lo : Int) + (hi : Int)) / 2 = (((lo + hi) / 2 : Nat) : Int) by omega], by omega, by omega, Nat.le_refl _, hb, I.out.2.1, HM.out⟩
    · obtain rfl : hi = lo := by omega
      have ek : hi = k1 := by have := I.out.2; omega
      subst ek
      by_cases hn : hi < n
      · obtain ⟨x, hx, hwa, c0, c1, c2⟩ := hat.out wr hi I.out.1 hn
        subst hwa
        obtain ⟨cv, hcv⟩ : ∃ cv, cv = cmp3 x.1 at0 := ⟨_, rfl⟩
        have cc : ∀ W : World, Calls Tryz.prog 101 #[.agg #[.int .i64 x.1, .int .u8 x.2.kind, .string x.2.text], .int .i64 at0] W fun e w' => e = .returned (.int .i64 cv) ∧ Below W.heap.size W w' := fun W => by
          rw [hcv]; exact closure_any _ _ _ _ W
        have E : Hid (fin = decide (cv = 0)) := by
          show fin = decide (cv = 0)
          rw [← FIN.out, hcv]
          rw [List.getElem?_append_right (by rw [K1.out]; exact Nat.le_refl _), K1.out, Nat.sub_self] at hx
          cases l2 with
          | nil => simp at hx
          | cons y r =>
            simp only [List.getElem?_cons_zero, Option.some.injEq] at hx
            subst hx
            simp only [headIs]
            rw [decide_eq_decide, cmp3_zero]
            omega
        clear hcv hx
        go_wp2_with (go_at_call 101; refine (cc _).mono ?_; rintro e w' ⟨rfl, hbw⟩)
        go_ret2
        exact ⟨by rw [E.out]; rfl, I.out.1.trans (hbw.mono I.out.1.size)⟩
      · have E : Hid (fin = false) := by
          show fin = false
          rw [← FIN.out]
          have h0 : l2 = [] := List.eq_nil_of_length_eq_zero (by have := HN.out; have := K1.out; omega)
          rw [h0]; rfl
        go_wp2
        go_ret2
        exact ⟨by rw [E.out]; rfl, I.out.1⟩
end Go.Proofs.YtbccnfbombgdmaaGreat

/- A page is held, and written. -/
set_option linter.unusedVariables false
set_option linter.unusedSimpArgs false
set_option maxRecDepth 8000
namespace Go.Proofs.YtbccnfbombgdmaaGreat
open Go.RowKit Go.Deep

theorem wl_at (A : List Cl) (c : Cl) (B : List Cl) : wl 0 (A ++ c :: B) = wl 0 A ++ (match c.last with | none => [] | some l => [(A.length, l)]) ++ wl (A.length + 1) B := by
  rw [wl_append, Nat.zero_add]
  simp only [wl]
  split <;> simp_all

theorem headIs_ge (B : List Cl) (i at0 : Nat) (h : at0 < i) : headIs (wl i B) at0 = false := by
  have := wl_lt B i
  cases hw : wl i B with
  | nil => rfl
  | cons x r =>
    rw [hw] at this
    have := (this x (by simp)).1
    simp [headIs]
    omega

theorem pgRow_append (A B : List Cl) : pgRow (A ++ B) = pgRow A ++ pgRow B := by simp [pgRow]
theorem pgRow_cons (c : Cl) (B : List Cl) : pgRow (c :: B) = pgCells c.now ++ pgRow B := by simp [pgRow]
theorem pgRow_length (A : List Cl) : (pgRow A).length = A.length * 2 := flat_length (fun c : Cl => pgCells c.now) 2 (fun _ => rfl) A

theorem own_below {w w' : World} {wa : Option Addr} {n wc : Nat} {xs : List Value} (h : w.ownsRow 0 137 3 (.slice wa n wc) n xs) (hB : ∀ a, wa = some a → w'.heap[a.block]? = w.heap[a.block]?) : w'.ownsRow 0 137 3 (.slice wa n wc) n xs := by
  obtain ⟨h1, h2⟩ := h
  refine ⟨h1, ?_⟩
  rcases h2 with h2 | ⟨g, cap, cur, hv, hg0, hh, r⟩
  · exact .inl h2
  · simp only [Value.slice.injEq] at hv
    refine .inr ⟨g, cap, cur, by simp [hv], hg0, ?_, r⟩
    rw [hB _ hv.1]
    exact hh

theorem hold_end {w w' w2 : World} {d p : Nat} {pd : List Value} {wa : Option Addr} {wc : Nat} {S : Dv} {A : List Cl} {c : Cl} {B : List Cl} {n g c' : Nat} {O : Obj} (H : DvIn w d p pd wa wc S) (hcs : S.cs = A ++ c :: B) (hl : c.last = none) (hn : n = (wl 0 S.cs).length)
    (hbw : Below w.heap.size w w') (hk2 : Keep (wa.map (·.block)).toList (w'.alloc O).drew w2)
    (hown2 : w2.ownsRow 0 137 3 (.slice (some ⟨g, 0, none⟩) (n + 1) c') (n + 1) (wtRow (wl 0 A ++ (A.length, c.now) :: wl (A.length + 1) B))) (hg2 : wa.map (·.block) = some g ∨ (w'.alloc O).drew.heap.size ≤ g) :
    DvIn (w2.setCell ⟨d, 1, none⟩ (.slice (some ⟨g, 0, none⟩) (n + 1) c')) d p pd (some ⟨g, 0, none⟩) c' { S with cs := A ++ c.put c.now :: B } ∧
      Moves (foot d p wa) (foot d p (some ⟨g, 0, none⟩)) w (w2.setCell ⟨d, 1, none⟩ (.slice (some ⟨g, 0, none⟩) (n + 1) c')) := by
  have hdw := H.dev.lt
  have hpw := H.row.lt
  have hsz := hbw.size
  have hV : (w'.alloc O).drew.heap.size = w'.heap.size + 1 := nblk_alloc w' O
  have hgn : g ≠ d ∧ g ≠ p := by
    rcases hg2 with h | h
    · cases wa with
      | none => simp at h
      | some a =>
        simp at h
        have := H.dq a rfl
        rw [h] at this
        exact this
    · rw [hV] at h
      omega
  have same : ∀ k, k < w.heap.size → (∀ a, wa = some a → a.block ≠ k) → w2.heap[k]? = w.heap[k]? := fun k hk hne => by
    rw [hk2.block k (by rw [hV]; omega) (by cases wa with | none => simp | some a => simpa using Ne.symm (hne a rfl))]
    rw [← hbw.block k hk]
    exact blk_alloc_lt w' O k (by omega)
  have K0 : Keep (foot d p wa) w w2 := ((((Keep.of_below hbw).alloc O).drew).trans hk2 (fun x hx => .inl (by simp [foot]; cases wa <;> simp_all)))
  have K : Keep (foot d p wa) w (w2.setCell ⟨d, 1, none⟩ (.slice (some ⟨g, 0, none⟩) (n + 1) c')) := K0.setCell (.inl (by simp [foot])) _
  have hwl : wl 0 (A ++ c.put c.now :: B) = wl 0 A ++ (A.length, c.now) :: wl (A.length + 1) B := by rw [wl_at]; simp [Cl.put, hl]
  have hlen : (wl 0 (A ++ c.put c.now :: B)).length = n + 1 := by
    rw [hwl, hn, hcs, wl_at, hl]; simp; omega
  have hcl : (A ++ c.put c.now :: B).length = S.cs.length := by rw [hcs]; simp
  refine ⟨⟨?_, ?_, ?_, H.dp, fun a ha => by cases ha; exact hgn, ?_⟩, K, ?_⟩
  · have b := (H.dev.same (same d hdw (fun a ha => (H.dq a ha).1))).set 1 (.slice (some ⟨g, 0, none⟩) (n + 1) c')
    have e : dvCells p pd (some ⟨g, 0, none⟩) (wl 0 (A ++ c.put c.now :: B)).length c' { S with cs := A ++ c.put c.now :: B } = (dvCells p pd wa (wl 0 S.cs).length wc S).set 1 (.slice (some ⟨g, 0, none⟩) (n + 1) c') := by
      rw [hlen]
      simp only [dvCells, hcl]
      rfl
    rw [e]
    exact b
  · have b := (H.row.same (same p hpw (fun a ha => (H.dq a ha).2))).other (a := ⟨d, 1, none⟩) (Ne.symm H.dp) (.slice (some ⟨g, 0, none⟩) (n + 1) c')
    rw [hcs] at b
    have e : pgRow (A ++ c.put c.now :: B) = pgRow (A ++ c :: B) := by rw [pgRow_append, pgRow_append, pgRow_cons, pgRow_cons]; rfl
    rw [e]
    exact b
  · show World.ownsRow _ 0 137 3 (.slice _ (wl 0 (A ++ c.put c.now :: B)).length _) (wl 0 (A ++ c.put c.now :: B)).length (wtRow (wl 0 (A ++ c.put c.now :: B)))
    rw [hlen, hwl]
    exact own_below hown2 (fun a ha => by cases ha; exact blk_setCell_other _ _ _ _ hgn.1)
  · have hc := H.good.fits c (by rw [hcs]; simp)
    have hf := putAt_fits (p := c.now) hc.1 S.cs A.length H.good.fits
    rw [hcs, putAt_part] at hf
    exact ⟨by show (A ++ c.put c.now :: B).length ≤ _; rw [hcl]; exact H.good.many, H.good.armed, hf⟩
  · intro k hk
    simp only [foot, List.mem_cons, Option.map_some, Option.toList_some, List.not_mem_nil, or_false] at hk
    rcases hk with rfl | rfl | rfl
    · exact .inl (by simp [foot])
    · exact .inl (by simp [foot])
    · rcases hg2 with h | h
      · exact .inl (by simp [foot, h])
      · exact .inr (by rw [hV] at h; omega)

set_option maxHeartbeats 1000000 in
theorem hold_any (d p : Nat) (pd : List Value) (wa : Option Addr) (wc : Nat) (S : Dv) (A : List Cl) (c : Cl) (B : List Cl) (hcs : S.cs = A ++ c :: B) (w : World) (h : DvIn w d p pd wa wc S) :
    Calls Tryz.prog 92 #[.pointer (some ⟨d, 0, none⟩), .int .i64 A.length] w fun e w' => e = .returned (.tuple #[]) ∧
      ∃ wa' wc', DvIn w' d p pd wa' wc' { S with cs := A ++ c.put c.now :: B } ∧ Moves (foot d p wa) (foot d p wa') w w' := by
  obtain ⟨n, hn⟩ : ∃ n, n = (wl 0 S.cs).length := ⟨_, rfl⟩
  have hnl : n ≤ 4096 := by rw [hn]; exact Nat.le_trans (wl_length _ _) h.good.many
  have hlen : S.cs.length = A.length + 1 + B.length := by rw [hcs]; simp; omega
  have c0 := h.dev.cell (i := 0) rfl
  have c1 := h.dev.cell (i := 1) rfl
  rw [← hn] at c1
  have hform := own_form h.own
  have hA : ∀ x ∈ wl 0 A, x.1 < A.length := fun x hx => by have := wl_lt A 0 x hx; omega
  have hBl : ∀ x ∈ wl (A.length + 1) B, A.length ≤ x.1 := fun x hx => by have := wl_lt B _ x hx; omega
  have hdw := h.dev.lt
  have hpw := h.row.lt
  cases hl : c.last with
  | some l =>
    have e0 : wl 0 S.cs = wl 0 A ++ ((A.length, l) :: wl (A.length + 1) B) := by rw [hcs, wl_at, hl]; simp
    have hcc : c.put c.now = c := by cases c; simp only at hl; simp [Cl.put, hl]
    have cs := search_any wa wc (match wa with | some a => a.block | none => 0) n (wl 0 A) ((A.length, l) :: wl (A.length + 1) B) A.length w (by rw [hn, e0]; simp) hnl
      (fun hpos => by
        rcases hform with ⟨_, h0, _⟩ | ⟨g, pad, rfl, hb, _⟩
        · omega
        · exact ⟨rfl, hb.lt⟩)
      (fun j v hj => by
        rcases hform with ⟨_, h0, _, hx⟩ | ⟨g, pad, rfl, hb, _⟩
        · rw [e0] at hx; rw [hx] at hj; simp at hj
        · rw [e0] at hb
          exact hb.cell (by rw [List.getElem?_append_left (List.getElem?_eq_some_iff.1 hj).1]; exact hj))
      hA (fun x hx => by
        rcases List.mem_cons.1 hx with rfl | hx
        · exact Nat.le_refl _
        · exact hBl x hx)
    rw [show headIs ((A.length, l) :: wl (A.length + 1) B) A.length = true by simp [headIs]] at cs
    generalize (wl 0 A).length = k at cs
    have CS := hide cs
    have H : Hid (DvIn w d p pd wa wc S) := h
    have HCS := hide hcs
    clear cs h hform hcs hn e0 hA hBl
    go_enter Tryz.func92, Tryz.ntmps92
    go_wp2_with (go_at_call 100; refine CS.out.mono ?_; rintro e w' ⟨rfl, hbw⟩)
    go_end0
    refine ⟨rfl, wa, wc, ?_, Moves.of_keep (Keep.of_below hbw)⟩
    rw [hcc, ← HCS.out]
    exact H.out.same (fun k hk => hbw.block k (H.out.lt k hk))
  | none =>
    have e0 : wl 0 S.cs = wl 0 A ++ wl (A.length + 1) B := by rw [hcs, wl_at, hl]; simp
    have cs := search_any wa wc (match wa with | some a => a.block | none => 0) n (wl 0 A) (wl (A.length + 1) B) A.length w (by rw [hn, e0]; simp) hnl
      (fun hpos => by
        rcases hform with ⟨_, h0, _⟩ | ⟨g, pad, rfl, hb, _⟩
        · omega
        · exact ⟨rfl, hb.lt⟩)
      (fun j v hj => by
        rcases hform with ⟨_, h0, _, hx⟩ | ⟨g, pad, rfl, hb, _⟩
        · rw [e0] at hx; rw [hx] at hj; simp at hj
        · rw [e0] at hb
          exact hb.cell (by rw [List.getElem?_append_left (List.getElem?_eq_some_iff.1 hj).1]; exact hj))
      hA hBl
    rw [headIs_ge _ _ _ (Nat.lt_succ_self _)] at cs
    have hrow0 := h.row.cell (i := A.length * 2 + 0) (v := .int .u8 c.now.kind) (by rw [hcs]; exact flat_getP (fun c : Cl => pgCells c.now) 2 (fun _ => rfl) A c B pd 0 (by decide))
    have hrow1 := h.row.cell (i := A.length * 2 + 1) (v := .string c.now.text) (by rw [hcs]; exact flat_getP (fun c : Cl => pgCells c.now) 2 (fun _ => rfl) A c B pd 1 (by decide))
    rw [Nat.add_zero] at hrow0
    have f1 := h.dev.frozen 1
    have hlt : (A.length : Int) < (S.cs.length : Int) := by omega
    -- what slices.Insert does, in any world that holds the rows
    have ins : ∀ (W : World) (vb : Nat), W.ownsRow 0 137 3 (.slice wa n wc) n (wtRow (wl 0 A ++ wl (A.length + 1) B)) → Blk W vb (wtCells (A.length, c.now)) 137 → (∀ a, wa = some a → a.block ≠ vb) → _ :=
      fun W vb h1 h2 h3 => insert_any wa wc n (wl 0 A) (wl (A.length + 1) B) (A.length, c.now) vb W (by rw [hn, e0]) hnl h1 h2 h3
    have INS := hide ins
    have CS := hide cs
    have H : Hid (DvIn w d p pd wa wc S) := h
    have HCS := hide hcs
    have HN := hide hn
    have E0 := hide e0
    clear cs ins h hform hcs hn hA hBl e0
    go_enter Tryz.func92, Tryz.ntmps92
    go_wp2_with (go_at_call 100; refine CS.out.mono ?_; rintro e w' ⟨rfl, hbw⟩)
    have hd' : d < w'.heap.size := Nat.lt_of_lt_of_le hdw hbw.size
    have hp' : p < w'.heap.size := Nat.lt_of_lt_of_le hpw hbw.size
    rw [← hbw.cell (p := ⟨d, 0, none⟩) hdw] at c0
    rw [← hbw.cell (p := ⟨d, 1, none⟩) hdw] at c1
    rw [← hbw.frozen (p := ⟨d, 1, none⟩) hdw] at f1
    rw [← hbw.cell (p := ⟨p, A.length * 2, none⟩) hpw] at hrow0
    rw [← hbw.cell (p := ⟨p, A.length * 2 + 1, none⟩) hpw] at hrow1
    have hI := INS.out ((w'.alloc (.cells #[.int .i64 A.length, .int .u8 c.now.kind, .string c.now.text] 137)).drew) w'.heap.size
      (by
        rw [← E0.out]
        have ho := H.out.own
        rw [← HN.out] at ho
        refine own_below ho (fun a ha => ?_)
        have hlt2 := (H.out.own.lt a.block (by rw [ha]; rfl)).2
        rw [← hbw.block a.block hlt2]
        exact blk_alloc_lt w' _ a.block (Nat.lt_of_lt_of_le hlt2 hbw.size))
      (Blk.new w' [.int .i64 A.length, .int .u8 c.now.kind, .string c.now.text] 137)
      (fun a ha => by
        have hlt2 := (H.out.own.lt a.block (by rw [ha]; rfl)).2
        have := hbw.size
        omega)
    have HI := hide hI
    have BW := hide hbw
    have HV : Hid (∀ w2, Keep (wa.map (·.block)).toList ((w'.alloc (.cells #[.int .i64 A.length, .int .u8 c.now.kind, .string c.now.text] 137)).drew) w2 → w2.cell? ⟨d, 1, none⟩ = some (.slice wa n wc) ∧ w2.frozen? ⟨d, 1, none⟩ = false) := by
      intro w2 hk2
      have e : w2.heap[d]? = w'.heap[d]? := by
        rw [hk2.block d (by show d < (w'.alloc _).heap.size; rw [nblk_alloc]; omega) (by cases wa with | none => simp | some a => simpa using Ne.symm (H.out.dq a rfl).1)]
        exact blk_alloc_lt w' _ d hd'
      exact ⟨by rw [← c1]; exact World.cell?_of_block (a := ⟨d, 1, none⟩) e, by rw [← f1]; exact World.frozen?_of_block (a := ⟨d, 1, none⟩) e⟩
    clear hI hbw hnl
    go_wp2
    go_region_with (go_at_call 103; refine HI.out.mono ?_; rintro e w2 ⟨g, c', rfl, hown2, hk2, hg2⟩; have HO := hide hown2; have HK := hide hk2; have HG := hide hg2; obtain ⟨c9, f9⟩ := HV.out w2 hk2; clear hown2 hk2 hg2)
    all_goals go_wp2
    all_goals (go_end0; exact ⟨rfl, _, _, hold_end H.out HCS.out hl HN.out BW.out HK.out HO.out HG.out⟩)
end Go.Proofs.YtbccnfbombgdmaaGreat
