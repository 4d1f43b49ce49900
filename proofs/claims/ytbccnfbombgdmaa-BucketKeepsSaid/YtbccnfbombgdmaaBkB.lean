/- What Put does to a list. -/
import Derived.Test.YtbccnfbombgdmaaBk9
import Derived.Test.YtbccnfbombgdmaaAnyB
set_option linter.unusedVariables false
set_option linter.unusedSimpArgs false
set_option maxRecDepth 8000
namespace Go.Proofs.Ytbccnfbombgdmaa
open Go.RowKit Go.Deep Math
variable {w0 W W' : World} {d s : Nat} {F F' : List Nat} {S S' : Dv} {L : Int} {first : Nat} {M : SM}

theorem enter34 (args : Array Value) (w : World) : (callFunc 34 args).run Try.prog w = .ok (.enter 34 args) w := enters_of Try.func34 (by kernel_rfl) rfl args w
/-- What is known while a list is made: 'append(without(l, x.Key), x)'. -/
structure PJ (W4 : World) (B : Nat) (v0 : Value) (xs : List It) (x : It) (xb : Nat) (listed : Array Bool) (V : Nat → Value) (w' : World) : Prop where
  keep : Keep v0.ownBlock.toList W4 w'
  u0 : listed.getD 0 false = true → V 0 = v0
  u1 : listed.getD 1 false = true → V 1 = .pointer (some ⟨xb, 0, none⟩)
  u2 : listed.getD 2 false = true → V 2 = .string (txt x.key)
  u4 : listed.getD 4 false = true → V 4 = .agg #[.string (txt x.key), .string (txt x.value), .int .u32 x.flags, .int .i64 x.exp, .int .u64 x.ver]
  r0 : listed.getD 3 false = false → Row w' B v0 xs
  r3 : listed.getD 3 false = true → listed.getD 6 false = false → Row w' B (V 3) (xs.filter (notKey x.key)) ∧ (V 3).ownBlock = v0.ownBlock
  r5 : listed.getD 5 false = true → listed.getD 6 false = false → ∃ b, V 5 = .slice (some ⟨b, 0, none⟩) 1 1 ∧ Blk w' b (itCells x) 36 ∧ W4.heap.size ≤ b
  r6 : listed.getD 6 false = true → Row w' B (V 6) (xs.filter (notKey x.key) ++ [x])
  u7 : listed.getD 7 false = true → V 7 = V 6
  c6 : listed.getD 6 false = true → listed.getD 3 false = true ∧ listed.getD 5 false = true
  c7 : listed.getD 7 false = true → listed.getD 6 false = true ∧ listed.getD 0 false = true
theorem repl_getD (n j : Nat) : (Array.replicate n false).getD j false = false := by
  simp only [Array.getD_eq_getD_getElem?, Array.getElem?_replicate]
  split <;> rfl
theorem PJ.start {W4 : World} {B : Nat} {v0 : Value} {xs : List It} {x : It} {xb n : Nat} (h : Row W4 B v0 xs) : PJ W4 B v0 xs x xb (Array.replicate n false) (fun _ => undef) { W4 with drawn := W4.drawn + 1 } := by
  have no : ∀ {p : Prop} j, (Array.replicate n false).getD j false = true → p := fun j hj => by rw [repl_getD] at hj; cases hj
  exact ⟨⟨rfl, rfl, rfl, Nat.le_refl _, fun _ _ _ => rfl⟩, no 0, no 1, no 2, no 4, fun _ => h.keep (fun _ _ => rfl), fun h => no 3 h, fun h => no 5 h, no 6, no 7, no 6, no 7⟩

end Go.Proofs.Ytbccnfbombgdmaa
