/- slices.BinarySearchFunc over what waits. -/
import Derived.Test.YtbccnfbombgdmaaSearch
set_option linter.unusedVariables false
set_option linter.unusedSimpArgs false
set_option maxRecDepth 8000
namespace Go.Proofs.Ytbccnfbombgdmaa
open Go.RowKit Go.Deep

theorem cmp3_neg (a b : Int) : cmp3 a b < 0 ↔ a < b := by
  unfold cmp3; split
  · simp [*]
  · split <;> simp [*]
theorem cmp3_zero (a b : Int) : cmp3 a b = 0 ↔ a = b := by
  unfold cmp3; split
  · simp; omega
  · split
    · simp; omega
    · simp; omega

set_option maxHeartbeats 400000 in
theorem closure_any (p k at0 : Int) (t : ByteArray) (w : World) :
    Calls Try.prog 72 #[.agg #[.int .i64 p, .int .u8 k, .string t], .int .i64 at0] w fun e w' => e = .returned (.int .i64 (cmp3 p at0)) ∧ Below w.heap.size w w' := by
  generalize hc : cmp3 p at0 = cv
  have cc : ∀ W : World, Calls Try.prog 73 #[.int .i64 p, .int .i64 at0] W fun e w' => e = .returned (.int .i64 cv) ∧ w' = W := fun W => by
    have := compare_any p at0 W
    rwa [hc] at this
  clear hc
  go_enter Try.func72, Try.ntmps72
  go_wp2_with (go_at_call 73; refine (cc _).mono ?_; rintro e w' ⟨rfl, rfl⟩)
  go_ret
  exact ⟨rfl, (Below.refl _ _).alloc (Nat.le_refl _) _⟩

/-- Is the first of these the page? -/
def headIs (l : List (Nat × Pg)) (at0 : Nat) : Bool := match l with
  | [] => false
  | x :: _ => decide (x.1 = at0)

set_option maxHeartbeats 1000000 in
theorem search_any (wa : Option Addr) (wc g n : Nat) (l1 l2 : List (Nat × Pg)) (at0 : Nat) (w : World) (hnl : n = l1.length + l2.length) (hl : n ≤ 4096)
    (hwa : 0 < n → wa = some ⟨g, 0, none⟩ ∧ g < w.heap.size) (hc : ∀ j v, (wtRow (l1 ++ l2))[j]? = some v → w.cell? ⟨g, j, none⟩ = some v)
    (h1 : ∀ x ∈ l1, x.1 < at0) (h2 : ∀ x ∈ l2, at0 ≤ x.1) :
    Calls Try.prog 71 #[.slice wa n wc, .int .i64 at0, .func (.func 72) #[] #[]] w fun e w' => e = .returned (.tuple #[.int .i64 l1.length, .bool (headIs l2 at0)]) ∧ Below w.heap.size w w' := by
  have HW : Hid _ := hwa
  have HC : Hid _ := hc
  have HN : Hid _ := hnl
  have H1 : Hid _ := h1
  have H2 : Hid _ := h2
  -- what lies at a place, in any later world
  have hat : Hid (∀ (wr : World) (m : Nat), Below w.heap.size w wr → m < n → ∃ x : Nat × Pg, (l1 ++ l2)[m]? = some x ∧ wa = some ⟨g, 0, none⟩ ∧
      wr.cell? ⟨g, m * 3, none⟩ = some (.int .i64 x.1) ∧ wr.cell? ⟨g, m * 3 + 1, none⟩ = some (.int .u8 x.2.kind) ∧ wr.cell? ⟨g, m * 3 + 2, none⟩ = some (.string x.2.text)) := by
    intro wr m hB hm
    obtain ⟨ha, hg⟩ := hwa (by omega)
    obtain ⟨A, x, B, hAB, hA⟩ := part_at (l1 ++ l2) m (by simp; omega)
    refine ⟨x, by rw [hAB, ← hA]; simp, ha, ?_, ?_, ?_⟩
    · rw [hB.cell hg]; exact hc _ _ (by rw [hAB, ← hA, show A.length * 3 = A.length * 3 + 0 from rfl]; exact flat_get wtCells 3 (fun _ => rfl) A x B 0 (by decide))
    · rw [hB.cell hg]; exact hc _ _ (by rw [hAB, ← hA]; exact flat_get wtCells 3 (fun _ => rfl) A x B 1 (by decide))
    · rw [hB.cell hg]; exact hc _ _ (by rw [hAB, ← hA]; exact flat_get wtCells 3 (fun _ => rfl) A x B 2 (by decide))
  clear hwa hc hnl h1 h2
  generalize hfin : headIs l2 at0 = fin
  have FIN : Hid (headIs l2 at0 = fin) := hfin
  clear hfin
  generalize hk1 : l1.length = k1
  have K1 : Hid (l1.length = k1) := hk1
  clear hk1
  go_enter Try.func71, Try.ntmps71
  go_wp2
  go_loopg [9, 10] n (fun kx s9 s10 wr => ∃ lo hi : Nat, s9 = .int .i64 lo ∧ s10 = .int .i64 hi ∧ lo ≤ hi ∧ hi ≤ n ∧ hi - lo ≤ kx ∧ Hid (Below w.heap.size w wr ∧ lo ≤ k1 ∧ k1 ≤ hi))
  case atStart => exact ⟨0, n, rfl, rfl, Nat.zero_le _, Nat.le_refl _, by omega, Below.refl _ _, Nat.zero_le _, by have := HN.out; rw [K1.out] at this; omega⟩
  case round =>
    obtain ⟨lo, hi, rfl, rfl, hlh, hin, hg, I⟩ := hrel
    by_cases hlt : lo < hi
    · obtain ⟨x, hx, hwa, c0, c1, c2⟩ := hat.out wr ((lo + hi) / 2) I.out.1 (by omega)
      subst hwa
      have X : Hid ((l1 ++ l2)[(lo + hi) / 2]? = some x) := hx
      clear hx
      obtain ⟨cv, hcv⟩ : ∃ cv, cv = cmp3 x.1 at0 := ⟨_, rfl⟩
      have cc : ∀ W : World, Calls Try.prog 72 #[.agg #[.int .i64 x.1, .int .u8 x.2.kind, .string x.2.text], .int .i64 at0] W fun e w' => e = .returned (.int .i64 cv) ∧ Below W.heap.size W w' := fun W => by
        rw [hcv]; exact closure_any _ _ _ _ W
      by_cases hyx : x.1 < at0
      · have hneg : cv < 0 := by rw [hcv]; exact (cmp3_neg _ _).2 (by omega)
        clear hcv
        have HM : Hid ((lo + hi) / 2 + 1 ≤ k1) := by
          show (lo + hi) / 2 + 1 ≤ k1
          rcases Nat.lt_or_ge ((lo + hi) / 2) k1 with h | h
          · exact h
          · have hx2 := X.out
            rw [List.getElem?_append_right (by rw [K1.out]; exact h)] at hx2
            have := H2.out x (List.mem_of_getElem? hx2)
            omega
        clear hyx
        go_wp2_with (go_at_call 72; refine (cc _).mono ?_; rintro e w' ⟨rfl, hbw⟩)
        go_roundg (hi - ((lo + hi) / 2 + 1))
        case measure => omega
        case rel =>
          have hb := I.out.1.trans (hbw.mono I.out.1.size)
          exact ⟨(lo + hi) / 2 + 1, hi, by rw [show ((lo : Int) + (hi : Int)) / 2 + 1 = (((lo + hi) / 2 + 1 : Nat) : Int) by omega], rfl, by omega, hin, Nat.le_refl _, hb, HM.out, I.out.2.2⟩
      · have hneg : ¬ cv < 0 := by rw [hcv]; exact fun h => hyx (by have := (cmp3_neg _ _).1 h; omega)
        clear hcv
        have HM : Hid (k1 ≤ (lo + hi) / 2) := by
          show k1 ≤ (lo + hi) / 2
          rcases Nat.lt_or_ge ((lo + hi) / 2) k1 with h | h
          · have hx2 := X.out
            rw [List.getElem?_append_left (by rw [K1.out]; exact h)] at hx2
            have := H1.out x (List.mem_of_getElem? hx2)
            omega
          · exact h
        clear hyx
        go_wp2_with (go_at_call 72; refine (cc _).mono ?_; rintro e w' ⟨rfl, hbw⟩)
        go_roundg ((lo + hi) / 2 - lo)
        case measure => omega
        case rel =>
          have hb := I.out.1.trans (hbw.mono I.out.1.size)
          exact ⟨lo, (lo + hi) / 2, rfl, by rw [show ((lo : Int) + (hi : Int)) / 2 = (((lo + hi) / 2 : Nat) : Int) by omega], by omega, by omega, Nat.le_refl _, hb, I.out.2.1, HM.out⟩
    · obtain rfl : hi = lo := by omega
      have ek : hi = k1 := by have := I.out.2; omega
      subst ek
      by_cases hn : hi < n
      · obtain ⟨x, hx, hwa, c0, c1, c2⟩ := hat.out wr hi I.out.1 hn
        subst hwa
        obtain ⟨cv, hcv⟩ : ∃ cv, cv = cmp3 x.1 at0 := ⟨_, rfl⟩
        have cc : ∀ W : World, Calls Try.prog 72 #[.agg #[.int .i64 x.1, .int .u8 x.2.kind, .string x.2.text], .int .i64 at0] W fun e w' => e = .returned (.int .i64 cv) ∧ Below W.heap.size W w' := fun W => by
          rw [hcv]; exact closure_any _ _ _ _ W
        have E : Hid (fin = decide (cv = 0)) := by
          show fin = decide (cv = 0)
          rw [← FIN.out, hcv]
          rw [List.getElem?_append_right (by rw [K1.out]; exact Nat.le_refl _), K1.out, Nat.sub_self] at hx
          cases l2 with
          | nil => simp at hx
          | cons y r =>
            simp only [List.getElem?_cons_zero, Option.some.injEq] at hx
            subst hx
            simp only [headIs]
            rw [decide_eq_decide, cmp3_zero]
            omega
        clear hcv hx
        go_wp2_with (go_at_call 72; refine (cc _).mono ?_; rintro e w' ⟨rfl, hbw⟩)
        go_ret2
        exact ⟨by rw [E.out]; rfl, I.out.1.trans (hbw.mono I.out.1.size)⟩
      · have E : Hid (fin = false) := by
          show fin = false
          rw [← FIN.out]
          have h0 : l2 = [] := List.eq_nil_of_length_eq_zero (by have := HN.out; have := K1.out; omega)
          rw [h0]; rfl
        go_wp2
        go_ret2
        exact ⟨by rw [E.out]; rfl, I.out.1⟩
end Go.Proofs.Ytbccnfbombgdmaa
