/- Regions by rising numbers; slices.SortStableFunc of at most one. -/
import Derived.Test.YtbjkahdlejaheaaRdb9
set_option linter.unusedVariables false
set_option linter.unusedSimpArgs false
set_option maxRecDepth 8000
namespace Go.Proofs.Ytbjkahdlejaheaa
open Go.RowKit Go.Deep Math

/-- A region behind those whose numbers are not above its own. -/
def insS (x : Rg) : List Rg → List Rg
  | [] => [x]
  | y :: ys => if x.num < y.num then x :: y :: ys else y :: insS x ys
def isort (l : List Rg) : List Rg := l.foldl (fun acc x => insS x acc) []
theorem isort_one (l : List Rg) (h : l.length ≤ 1) : isort l = l := by
  match l, h with
  | [], _ => rfl
  | [x], _ => rfl
/-- What the sort does to a row of at most N regions. -/
def SortIs (N : Nat) : Prop := ∀ (a : Option Addr) (n c : Nat) (rs : List Rg) (w : World), (∀ r ∈ rs, ∃ a n c, r.v = .slice a n c) → w.ownsRow 0 68 3 (.slice a n c) n (rgRow rs) → n ≤ N →
  Calls Try.prog 29 #[.slice a n c, .func (.func 30) #[] #[]] w fun e w' => e = .returned (.tuple #[]) ∧ w'.ownsRow 0 68 3 (.slice a n c) n (rgRow (isort rs)) ∧ Keep (own (.slice a n c)) w w'
set_option maxHeartbeats 400000 in
theorem ins_one (a : Option Addr) (n c : Nat) (hn : n ≤ 1) (w : World) : Calls Try.prog 57 #[.slice a n c, .int .i64 0, .int .i64 n, .func (.func 30) #[] #[]] w fun e w' => e = .returned (.tuple #[]) ∧ w' = w := by
  have h1 : ¬ (1 : Int) < (n : Int) := by omega
  go_enter Try.func57, Try.ntmps57
  go_wp2_with fail
  go_loop [8] (fun t => t = .int .i64 1) (fun _ => 1)
  case atStart => rfl
  case round =>
    subst hrel
    go_wp2
    go_end0
    exact ⟨rfl, rfl⟩
set_option maxHeartbeats 400000 in
theorem stable_one (a : Option Addr) (n c : Nat) (hn : n ≤ 1) (w : World) : Calls Try.prog 42 #[.slice a n c, .int .i64 n, .func (.func 30) #[] #[]] w fun e w' => e = .returned (.tuple #[]) ∧ w' = w := by
  have h1 : ¬ (20 : Int) ≤ (n : Int) := by omega
  have h2 : ¬ (20 : Int) < (n : Int) := by omega
  have cI := hide (ins_one a n c hn)
  clear hn
  go_enter Try.func42, Try.ntmps42
  go_wp2_with fail
  go_loop [7, 8] (fun u v => u = .int .i64 0 ∧ v = .int .i64 20) (fun _ _ => 1)
  case atStart => exact ⟨rfl, rfl⟩
  case round =>
    obtain ⟨rfl, rfl⟩ := hrel
    go_wp2_with (go_at_call 57; refine (cI.out _).mono ?_; rintro e w' ⟨rfl, h1⟩; obtain rfl := h1.symm; clear h1)
    go_loop [6] (fun t => t = .int .i64 20) (fun _ => 1)
    case atStart => rfl
    case round =>
      subst hrel
      go_wp2
      go_end0
      exact ⟨rfl, rfl⟩
theorem sort_one : SortIs 1 := by
  intro a n c rs w _ h hn
  have e : isort rs = rs := isort_one rs (by have := h.1; rw [rgRow_length] at this; omega)
  have H := hide h
  have cI := hide (stable_one a n c hn)
  rw [e]
  clear h hn e
  go_enter Try.func29, Try.ntmps29
  go_wp2_with (go_at_call 42; refine (cI.out _).mono ?_; rintro e w' ⟨rfl, h1⟩; obtain rfl := h1.symm; clear h1)
  go_end0
  exact ⟨rfl, H.out, Keep.refl _ _⟩
end Go.Proofs.Ytbjkahdlejaheaa
