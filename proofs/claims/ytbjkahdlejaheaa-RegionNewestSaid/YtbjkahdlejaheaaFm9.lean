/- 'formed'. -/
import Derived.Test.YtbjkahdlejaheaaLgA
set_option linter.unusedVariables false
set_option linter.unusedSimpArgs false
set_option maxRecDepth 8000
namespace Go.Proofs.Ytbjkahdlejaheaa
open Go.RowKit Go.Deep Math

/-- Has a page form? -/
def isForm (l : List UInt8) : Bool := decide (sl l 0 2 = [82, 71]) && (decide (l.getD 3 0 = 0) && decide (up (sl l 4 8) ≤ 368))
def fmPlace (l : List UInt8) : Nat := (l.getD 2 0).toNat
def fmNum (l : List UInt8) : Nat := up (sl l 8 16)
def fmLen (l : List UInt8) : Nat := up (sl l 4 8)
def fmV (g : Nat) (l : List UInt8) : Value := .agg #[.int .u8 (fmPlace l), .int .u64 (fmNum l), .slice (some ⟨g, 16, none⟩) (fmLen l) 368]
theorem fmLen_lt (l : List UInt8) : fmLen l < 18446744073709551616 := by
  have h1 := up_lt (sl l 4 8)
  have h2 : (sl l 4 8).length ≤ 8 := by unfold sl; rw [List.length_drop, List.length_take]; omega
  exact Nat.lt_of_lt_of_le h1 (Nat.le_trans (Nat.pow_le_pow_right (by decide) h2) (by decide))

set_option maxHeartbeats 1000000 in
theorem formed_no (g : Nat) (l : List UInt8) (w : World) (h : BS w (some ⟨g, 0, none⟩) 384 384 l) (hf : isForm l = false) :
    Calls Try.prog 39 #[.slice (some ⟨g, 0, none⟩) 384 384] w fun e w' => e = .returned (.tuple #[.agg #[.int .u8 0, .int .u64 0, .slice none 0 0], .bool false]) ∧ Below w.heap.size w w' := by
  have b := (Below.refl w.heap.size w).alloc (Nat.le_refl _) (.cells #[.int .u8 0, .int .u64 0, .slice none 0 0] 82)
  have hA := h.later b
  have c1 := hide (number9 (some ⟨g, 4, none⟩) 4 380 (sl l 4 8) (by rw [sl_length _ _ _ (by rw [← h.len]; omega)]) (by omega) _ (hA.sub 4 8 4 4 380 rfl (by omega) (by omega) rfl (by omega)).reads)
  have cs := str_bs (hA.sub 0 2 0 2 384 rfl (by omega) (by omega) rfl (by omega)) (fun h => by cases h)
  obtain ⟨b3, o3, e3, _, hc3⟩ := hA.cell 3 (by omega)
  cases e3
  rw [Nat.zero_add] at hc3
  have hlt := fmLen_lt l
  have he : ((txt (sl l 0 2)).toList == [82, 71]) = decide (sl l 0 2 = [82, 71]) := by rw [txt_list]; by_cases e : sl l 0 2 = [82, 71] <;> simp [e]
  have hz : (((l.getD 3 0).toNat : Int) = 0) = (l.getD 3 0 = 0) := by
    apply propext
    constructor
    · intro e
      have : (l.getD 3 0).toNat = 0 := by omega
      exact UInt8.toNat_inj.1 this
    · intro e; rw [e]; rfl
  unfold isForm at hf
  have B := hide b
  clear h hA b
  unfold fmLen at hlt
  generalize up (sl l 4 8) = n at *
  generalize txt (sl l 0 2) = s2 at *
  by_cases q1 : sl l 0 2 = [82, 71]
  · rw [decide_eq_true q1] at he hf
    clear q1
    by_cases q2 : l.getD 3 0 = 0
    · rw [decide_eq_true q2] at hf
      have q3 : ¬ n ≤ 368 := by simpa using hf
      have hz2 : ((l.getD 3 0).toNat : Int) = 0 := by rw [hz]; exact q2
      rw [hz2] at hc3
      have q4 : (368 : Int) < (n : Int) := by omega
      clear q2 q3 hz hz2 hf
      go_enter Try.func39, Try.ntmps39
      go_wp2_with (go_at_call 54; refine c1.out.mono ?_; rintro e w' ⟨rfl, h1⟩; obtain rfl := h1.symm; clear h1)
      exact bodyPost_ret (v := .tuple #[.agg #[.int .u8 0, .int .u64 0, .slice none 0 0], .bool false]) (by simp [results, Try.results39, go_sem]) rfl ⟨rfl, B.out⟩
    · have hz2 : ¬ ((l.getD 3 0).toNat : Int) = 0 := by rw [hz]; exact q2
      clear q2 hz hf
      generalize ((l.getD 3 0).toNat : Int) = x3 at *
      go_enter Try.func39, Try.ntmps39
      go_wp2_with (go_at_call 54; refine c1.out.mono ?_; rintro e w' ⟨rfl, h1⟩; obtain rfl := h1.symm; clear h1)
      exact bodyPost_ret (v := .tuple #[.agg #[.int .u8 0, .int .u64 0, .slice none 0 0], .bool false]) (by simp [results, Try.results39, go_sem]) rfl ⟨rfl, B.out⟩
  · rw [decide_eq_false q1] at he hf
    clear q1 hf hz
    go_enter Try.func39, Try.ntmps39
    go_wp2_with (go_at_call 54; refine c1.out.mono ?_; rintro e w' ⟨rfl, h1⟩; obtain rfl := h1.symm; clear h1)
    exact bodyPost_ret (v := .tuple #[.agg #[.int .u8 0, .int .u64 0, .slice none 0 0], .bool false]) (by simp [results, Try.results39, go_sem]) rfl ⟨rfl, B.out⟩

set_option maxHeartbeats 1000000 in
theorem formed_yes (g : Nat) (l : List UInt8) (w : World) (h : BS w (some ⟨g, 0, none⟩) 384 384 l) (hf : isForm l = true) :
    Calls Try.prog 39 #[.slice (some ⟨g, 0, none⟩) 384 384] w fun e w' => e = .returned (.tuple #[fmV g l, .bool true]) ∧ Below w.heap.size w w' := by
  have b := (Below.refl w.heap.size w).alloc (Nat.le_refl _) (.cells #[.int .u8 0, .int .u64 0, .slice none 0 0] 82)
  have hA := h.later b
  have c1 := hide (number9 (some ⟨g, 4, none⟩) 4 380 (sl l 4 8) (by rw [sl_length _ _ _ (by rw [← h.len]; omega)]) (by omega) _ (hA.sub 4 8 4 4 380 rfl (by omega) (by omega) rfl (by omega)).reads)
  have hAd : ∀ W : World, W.heap = (w.alloc (.cells #[.int .u8 0, .int .u64 0, .slice none 0 0] 82)).heap → BS W (some ⟨g, 0, none⟩) 384 384 l := fun W hW => hA.heap hW
  have c2 : Hid (∀ W : World, W.heap = (w.alloc (.cells #[.int .u8 0, .int .u64 0, .slice none 0 0] 82)).heap → Calls Try.prog 54 #[.slice (some ⟨g, 8, none⟩) 8 376] W fun e w' => e = .returned (.int .u64 (up (sl l 8 16) : Int)) ∧ w' = W) := fun W hW =>
    number9 (some ⟨g, 8, none⟩) 8 376 (sl l 8 16) (by rw [sl_length _ _ _ (by rw [← h.len]; omega)]) (by omega) _ ((hAd W hW).sub 8 16 8 8 376 rfl (by omega) (by omega) rfl (by omega)).reads
  have cs := str_bs (hA.sub 0 2 0 2 384 rfl (by omega) (by omega) rfl (by omega)) (fun h => by cases h)
  obtain ⟨b3, o3, e3, _, hc3⟩ := hA.cell 3 (by omega)
  cases e3
  obtain ⟨b2, o2, e2, _, hc2⟩ := hA.cell 2 (by omega)
  cases e2
  have HC2 : Hid (∀ o, (w.alloc o).drew.cell? ⟨g, 2, none⟩ = some (.int .u8 ((l.getD 2 0).toNat : Int))) := fun o => by
    obtain ⟨b2, o2, e2, _, hc2⟩ := (h.later ((Below.refl w.heap.size w).alloc (Nat.le_refl _) o)).cell 2 (by omega)
    cases e2
    rw [Nat.zero_add] at hc2
    exact hc2
  rw [Nat.zero_add] at hc3 hc2
  simp only [isForm, Bool.and_eq_true, decide_eq_true_eq] at hf
  obtain ⟨q1, q2, q3⟩ := hf
  have he : ((txt (sl l 0 2)).toList == [82, 71]) = true := by rw [txt_list, q1]; rfl
  rw [q2, show (((0 : UInt8).toNat : Nat) : Int) = 0 from rfl] at hc3
  have EV : Hid (fmV g l = .agg #[.int .u8 ((l.getD 2 0).toNat : Int), .int .u64 (up (sl l 8 16) : Int), .slice (some ⟨g, 16, none⟩) (up (sl l 4 8)) 368]) := rfl
  have B := hide b
  clear h hA b hAd q1 q2
  rw [EV.out]
  clear EV
  generalize up (sl l 4 8) = n at *
  generalize txt (sl l 0 2) = s2 at *
  generalize ((l.getD 2 0).toNat : Int) = x2 at *
  generalize (up (sl l 8 16) : Int) = x8 at *
  have q4 : ¬ (368 : Int) < (n : Int) := by omega
  have q5 : IntKind.u64.wrap (16 + (n : Int)) = 16 + (n : Int) := by rw [IntKind.wrap_u64]; omega
  go_enter Try.func39, Try.ntmps39
  go_wp2_with (go_at_call 54; refine c1.out.mono ?_; rintro e w' ⟨rfl, h1⟩; obtain rfl := h1.symm; clear h1)
  go_region_held (fun W => W.cell? ⟨g, 2, none⟩ = some (.int .u8 x2)) (first | exact hc2 | exact HC2.out _ | go_keep)
    (first | (go_at_call 54; refine (c2.out _ ?_).mono ?_; (rfl); rintro e w' ⟨rfl, h1⟩; obtain rfl := h1.symm; clear h1))
  all_goals try (exfalso; omega)
  all_goals go_wp2
  all_goals exact bodyPost_ret (v := .tuple #[.agg #[.int .u8 x2, .int .u64 x8, .slice (some ⟨g, 16, none⟩) n 368], .bool true]) (by simp [results, Try.results39, go_sem]) rfl ⟨rfl, ((Below.refl _ _).alloc (Nat.le_refl _) _).drew⟩
end Go.Proofs.Ytbjkahdlejaheaa
