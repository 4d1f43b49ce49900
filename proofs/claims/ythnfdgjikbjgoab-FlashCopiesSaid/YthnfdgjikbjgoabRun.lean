/- Single operations, run with whatever operands. -/
import Derived.Test.YthnfdgjikbjgoabRefPut
import Derived.Test.YthnfdgjikbjgoabBytes
import Derived.Test.YthnfdgjikbjgoabAny
set_option linter.unusedVariables false
set_option linter.unusedSimpArgs false
namespace Go.Proofs.Ythnfdgjikbjgoab
open Go.RowKit Go.Deep

theorem pick_own {own : Nat → Option Nat} {V : Nat → Value} {listed : Array Bool} {t j : Nat} {v : Value} (h : own t = some j) (hl : listed.getD j false = true) : pickSlot own V listed t v = V j := by
  simp [pickSlot, h, hl]
theorem pick_none {own : Nat → Option Nat} {V : Nat → Value} {listed : Array Bool} {t : Nat} {v : Value} (h : own t = none) : pickSlot own V listed t v = v := by
  simp [pickSlot, h]

theorem x_move (ev : Operand → Value) (dst : Option Tmp) (x : Operand) (ty : TypeId) (pos : String) (after : Array Edge) (guard : Option (Nat × Bool)) (P : Program) (w : World) :
    (execOp ev { dst, op := .move x, type := ty, pos, after, guard }).run P w = .ok (.value (ev x)) w := by
  simp [execOp]
theorem x_assign (ev : Operand → Value) (dst : Option Tmp) (x : Operand) (ty : TypeId) (pos : String) (after : Array Edge) (guard : Option (Nat × Bool)) (P : Program) (w : World) :
    (execOp ev { dst, op := .assign x, type := ty, pos, after, guard }).run P w = .ok (.value (ev x)) w := by
  simp [execOp]
theorem x_field1 (ev : Operand → Value) (dst : Option Tmp) (ty : TypeId) (pos : String) (after : Array Edge) (guard : Option (Nat × Bool)) (w : World) (N : Nat) (h : ev (.tmp 5) = .pointer (some ⟨N, 0, none⟩)) :
    (execOp ev { dst, op := .fieldAddr 33 (.tmp 5) 1, type := ty, pos, after, guard }).run Try.prog w = .ok (.value (.pointer (some ⟨N, 1, none⟩))) w := by
  simp only [execOp, h]
  go_simp
theorem x_field2 (ev : Operand → Value) (dst : Option Tmp) (ty : TypeId) (pos : String) (after : Array Edge) (guard : Option (Nat × Bool)) (w : World) (N : Nat) (h : ev (.tmp 5) = .pointer (some ⟨N, 0, none⟩)) :
    (execOp ev { dst, op := .fieldAddr 33 (.tmp 5) 2, type := ty, pos, after, guard }).run Try.prog w = .ok (.value (.pointer (some ⟨N, 2, none⟩))) w := by
  simp only [execOp, h]
  go_simp
theorem x_load3 (ev : Operand → Value) (dst : Option Tmp) (x : Operand) (ty : TypeId) (pos : String) (after : Array Edge) (guard : Option (Nat × Bool)) (w : World) (b o : Nat) (k : Int) (h : ev x = .pointer (some ⟨b, o, none⟩)) (hc : w.cell? ⟨b, o, none⟩ = some (.int .i64 k)) :
    (execOp ev { dst, op := .load 3 x, type := ty, pos, after, guard }).run Try.prog w = .ok (.value (.int .i64 k)) w := by
  simp only [execOp, h]
  go_simp
theorem x_load29 (ev : Operand → Value) (dst : Option Tmp) (x : Operand) (ty : TypeId) (pos : String) (after : Array Edge) (guard : Option (Nat × Bool)) (w : World) (b o : Nat) (a : Option Addr) (n cap : Nat) (h : ev x = .pointer (some ⟨b, o, none⟩)) (hc : w.cell? ⟨b, o, none⟩ = some (.slice a n cap)) :
    (execOp ev { dst, op := .load 31 x, type := ty, pos, after, guard }).run Try.prog w = .ok (.value (.slice a n cap)) w := by
  simp only [execOp, h]
  go_simp
theorem x_build0 (ev : Operand → Value) (dst : Option Tmp) (ty : TypeId) (pos : String) (after : Array Edge) (guard : Option (Nat × Bool)) (w : World) :
    (execOp ev { dst, op := .buildSlice 31 0 #[], type := ty, pos, after, guard }).run Try.prog w = .ok (.value (.slice (some ⟨w.heap.size, 0, none⟩) 0 0)) (w.alloc (.cells #[] 5)) := by
  simp only [execOp]
  go_simp
theorem x_append (ev : Operand → Value) (dst : Option Tmp) (x y : Operand) (ty : TypeId) (pos : String) (after : Array Edge) (guard : Option (Nat × Bool)) (w w' : World) (u v r : Value) (hx : ev x = u) (hy : ev y = v) (hr : (Builtin.append_ #[31, 31] ty #[u, v]).run Try.prog w = .ok r w') :
    (execOp ev { dst, op := .call { callee := .builtin .append, args := #[x, y], argTypes := #[31, 31] }, type := ty, pos, after, guard }).run Try.prog w = .ok (.value r) w' := by
  simp [execOp, resolve, invoke, builtin, hx, hy, hr, Result.andThen]
theorem x_convert (ev : Operand → Value) (dst : Option Tmp) (x : Operand) (ty : TypeId) (pos : String) (after : Array Edge) (guard : Option (Nat × Bool)) (w : World) (u v : Value) (hx : ev x = u) (hr : (convert 31 9 u).run Try.prog w = .ok v w) :
    (execOp ev { dst, op := .convert 31 9 x, type := ty, pos, after, guard }).run Try.prog w = .ok (.value v) w := by
  simp [execOp, hx, hr, Result.andThen]
theorem x_eql (ev : Operand → Value) (dst : Option Tmp) (x y : Operand) (t2 ty : TypeId) (pos : String) (after : Array Edge) (guard : Option (Nat × Bool)) (w : World) (a b : Int) (hx : ev x = .int .i64 a) (hy : ev y = .int .i64 b) :
    (execOp ev { dst, op := .binOp .eql 25 x y t2, type := ty, pos, after, guard }).run Try.prog w = .ok (.value (.bool (a == b))) w := by
  simp only [execOp, hx, hy]
  go_simp
theorem x_call3 (ev : Operand → Value) (f : FuncId) (hfn : ev (.func f) = .func (.func f) #[] #[]) (dst : Option Tmp) (x y z : Operand) (ats : Array TypeId) (ty : TypeId) (pos : String) (after : Array Edge) (guard : Option (Nat × Bool)) (w : World) (a b c : Value) (hx : ev x = a) (hy : ev y = b) (hz : ev z = c) (P : Program) :
    (execOp ev { dst, op := .call { callee := .value (.func f), args := #[x, y, z], argTypes := ats }, type := ty, pos, after, guard }).run P w = (callFunc f #[a, b, c]).run P w := by
  simp [execOp, resolve, invoke, hfn, hx, hy, hz, Result.andThen]
  rfl
theorem enter12 (args : Array Value) (w : World) : (callFunc 12 args).run Try.prog w = .ok (.enter 12 args) w := by go_simp
theorem enter31 (args : Array Value) (w : World) : (callFunc 23 args).run Try.prog w = .ok (.enter 23 args) w := by go_simp
end Go.Proofs.Ythnfdgjikbjgoab
