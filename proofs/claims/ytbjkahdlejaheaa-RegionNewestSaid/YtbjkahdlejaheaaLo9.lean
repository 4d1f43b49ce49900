/- 'lose': IndexFunc, Delete. -/
import Derived.Test.YtbjkahdlejaheaaWt9
set_option linter.unusedVariables false
set_option linter.unusedSimpArgs false
set_option maxRecDepth 8000
namespace Go.Proofs.Ytbjkahdlejaheaa
open Go.RowKit Go.Deep Math

set_option maxHeartbeats 400000 in
theorem lose1_any (r : Rg) (P : Nat) (B : Nat) (w : World) (hB : w.cell? ⟨B, 0, none⟩ = some (.int .i64 (P : Int))) :
    Calls Try.prog 48 #[.agg #[.int .i64 (r.place : Int), .int .u64 (r.num : Int), r.v], .pointer (some ⟨B, 0, none⟩)] w fun e w' => e = .returned (.bool (decide (r.place = P))) ∧ Below w.heap.size w w' := by
  have hBl : B < w.heap.size := block_lt_of_cell hB
  have hB2 : (w.alloc (.cells #[.int .i64 (r.place : Int), .int .u64 (r.num : Int), r.v] 68)).cell? ⟨B, 0, none⟩ = some (.int .i64 (P : Int)) := ((((Below.refl w.heap.size w).alloc (Nat.le_refl _) _)).cell (p := ⟨B, 0, none⟩) hBl).trans hB
  obtain ⟨a, c, hv⟩ : ∃ q : Value, ∃ u : Unit, r.v = q := ⟨_, (), rfl⟩
  have e1 : decide (r.place = P) = decide ((r.place : Int) = (P : Int)) := by rw [decide_eq_decide]; omega
  rw [e1]
  generalize (r.place : Int) = pl at *
  generalize (r.num : Int) = nm at *
  generalize r.v = rv at *
  clear hB e1 hv
  go_enter Try.func48, Try.ntmps48
  go_wp2
  go_ret
  exact ⟨rfl, (Below.refl _ _).alloc (Nat.le_refl _) _⟩
/-- Where the region of a place stands. -/
def idxP (P : Nat) (rs : List Rg) : Option Nat := rs.findIdx? fun r => decide (r.place = P)
set_option maxHeartbeats 1000000 in
theorem index9 (a : Option Addr) (n c : Nat) (rs : List Rg) (P : Nat) (B : Nat) (hn : n ≤ 100) (w : World) (h : w.ownsRow 0 68 3 (.slice a n c) n (rgRow rs)) (hB : w.cell? ⟨B, 0, none⟩ = some (.int .i64 (P : Int))) :
    Calls Try.prog 47 #[.slice a n c, .func (.func 48) #[] #[.pointer (some ⟨B, 0, none⟩)]] w fun e w' => (∃ k : Int, e = .returned (.int .i64 k) ∧ ((k = -1 ∧ idxP P rs = none) ∨ ∃ i : Nat, k = (i : Int) ∧ idxP P rs = some i)) ∧ Below w.heap.size w w' := by
  have hl : n = rs.length := by have := h.1; rw [rgRow_length] at this; omega
  have HL := hide hl
  have H := hide h
  have hBl : B < w.heap.size := block_lt_of_cell hB
  have cD : Hid (∀ (r : Rg) (W : World), Below w.heap.size w W → Calls Try.prog 48 #[.agg #[.int .i64 (r.place : Int), .int .u64 (r.num : Int), r.v], .pointer (some ⟨B, 0, none⟩)] W fun e w' => e = .returned (.bool (decide (r.place = P))) ∧ Below W.heap.size W w') := fun r W b =>
    lose1_any r P B W ((b.cell (p := ⟨B, 0, none⟩) hBl).trans hB)
  clear h hl hB hBl
  go_enter Try.func47, Try.ntmps47
  go_wp2_with fail
  go_loopg [8] n (fun kx s8 wr => ∃ (i : Nat), s8 = .int .i64 i ∧ i ≤ n ∧ n - i ≤ kx ∧ Hid ((∀ j r, j < i → rs[j]? = some r → r.place ≠ P) ∧ Below w.heap.size w wr))
  case atStart => exact ⟨0, rfl, Nat.zero_le _, by omega, fun j r hj => absurd hj (by omega), Below.refl _ _⟩
  case round =>
    obtain ⟨i, rfl, hin, hg, I⟩ := hrel
    by_cases hlt : i < n
    · have hlt2 : (i : Int) < (n : Int) := by omega
      obtain ⟨r, hr⟩ : ∃ r, rs[i]? = some r := ⟨_, List.getElem?_eq_getElem (by rw [← HL.out]; exact hlt)⟩
      obtain ⟨g, c', hv, k0, k1, k2, _, _⟩ := rg_cell (rown_below H.out I.out.2) hr
      simp only [Value.slice.injEq, true_and] at hv
      obtain ⟨rfl, rfl⟩ := hv
      have cR := hide (cD.out r wr I.out.2)
      have HR := hide hr
      clear hr
      by_cases hp : r.place = P
      · rw [decide_eq_true hp] at cR
        have E : Hid (idxP P rs = some i) := by
          show _ = _
          unfold idxP
          rw [List.findIdx?_eq_some_iff_getElem]
          obtain ⟨hi, he⟩ := List.getElem?_eq_some_iff.1 HR.out
          refine ⟨hi, by rw [he]; exact decide_eq_true hp, fun j hj => ?_⟩
          have := I.out.1 j rs[j] hj (List.getElem?_eq_getElem (by omega))
          simp [this]
        clear hp
        go_wp2_with fail
        refine cR.out.mono ?_
        rintro e w2 ⟨rfl, b2⟩
        have B2 := hide (I.out.2.trans (b2.mono I.out.2.size))
        clear b2 cR
        go_wp2
        go_ret
        exact ⟨⟨_, rfl, .inr ⟨i, rfl, E.out⟩⟩, B2.out⟩
      · rw [decide_eq_false hp] at cR
        have E : Hid (∀ j r, j < i + 1 → rs[j]? = some r → r.place ≠ P) := fun j r' hj hr' => by
          rcases Nat.lt_or_ge j i with h1 | h1
          · exact I.out.1 j r' h1 hr'
          · have : j = i := by omega
            subst this
            rw [HR.out] at hr'
            cases hr'
            exact hp
        clear hp
        go_wp2_with fail
        refine cR.out.mono ?_
        rintro e w2 ⟨rfl, b2⟩
        have B2 := hide (I.out.2.trans (b2.mono I.out.2.size))
        clear b2 cR
        go_wp2
        go_roundg (n - (i + 1))
        case measure => omega
        case rel => exact ⟨i + 1, rfl, by omega, by omega, E.out, B2.out⟩
    · obtain rfl : i = n := by omega
      have hlt2 : ¬ (i : Int) < (i : Int) := by omega
      have E : Hid (idxP P rs = none) := by
        show _ = _
        unfold idxP
        rw [List.findIdx?_eq_none_iff]
        intro r hr
        obtain ⟨j, hj⟩ := List.getElem?_of_mem hr
        have hjl := (List.getElem?_eq_some_iff.1 hj).1
        have := I.out.1 j r (by have := HL.out; omega) hj
        simp [this]
      go_wp2
      go_ret
      exact ⟨⟨_, rfl, .inl ⟨rfl, E.out⟩⟩, I.out.2⟩
end Go.Proofs.Ytbjkahdlejaheaa
