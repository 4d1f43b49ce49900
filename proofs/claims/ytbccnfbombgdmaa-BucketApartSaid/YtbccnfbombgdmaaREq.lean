/- '==' of items. -/
import Derived.Test.YtbccnfbombgdmaaRItem
import Derived.Laws.StructEq
set_option linter.unusedVariables false
set_option linter.unusedSimpArgs false
set_option maxRecDepth 100000
namespace Go.Proofs.Ytbccnfbombgdmaa
open Go.RowKit Go.Deep Math

def itDec (a b : It) : Decidable (a = b) := by
  cases a; cases b
  simp only [It.mk.injEq]
  exact inferInstance

theorem txt_list (l : List UInt8) : (txt l).toList = l := by
  unfold txt
  simp [ByteArray.toList_eq]

theorem run_eql_items (x y : It) (W : World) : (binOp .eql 36 x.val y.val).run Try.prog W = .ok (.bool (@decide (x = y) (itDec x y))) W := by
  have e : @decide (x = y) (itDec x y) = (decide (x.key = y.key) && (decide (x.value = y.value) && (decide (x.flags = y.flags) && (decide (x.exp = y.exp) && decide (x.ver = y.ver))))) := by
    rw [Bool.eq_iff_iff]; cases x; cases y; simp [It.mk.injEq]
  rw [e]
  unfold It.val itV
  have i2 : (((x.flags : Nat) : Int) = ((y.flags : Nat) : Int)) = (x.flags = y.flags) := propext Int.ofNat_inj
  have i4 : (((x.ver : Nat) : Int) = ((y.ver : Nat) : Int)) = (x.ver = y.ver) := propext Int.ofNat_inj
  simp [go_sem, txt_list, i2, i4]
  by_cases h0 : x.key = y.key <;> by_cases h1 : x.value = y.value <;> by_cases h2 : x.flags = y.flags <;> by_cases h3 : x.exp = y.exp <;> by_cases h4 : x.ver = y.ver <;> simp [h0, h1, h2, h3, h4]
theorem run_neq_items (x y : It) (W : World) : (binOp .neq 36 x.val y.val).run Try.prog W = .ok (.bool (!@decide (x = y) (itDec x y))) W := by
  have e : @decide (x = y) (itDec x y) = (decide (x.key = y.key) && (decide (x.value = y.value) && (decide (x.flags = y.flags) && (decide (x.exp = y.exp) && decide (x.ver = y.ver))))) := by
    rw [Bool.eq_iff_iff]; cases x; cases y; simp [It.mk.injEq]
  rw [e]
  unfold It.val itV
  have i2 : (((x.flags : Nat) : Int) = ((y.flags : Nat) : Int)) = (x.flags = y.flags) := propext Int.ofNat_inj
  have i4 : (((x.ver : Nat) : Int) = ((y.ver : Nat) : Int)) = (x.ver = y.ver) := propext Int.ofNat_inj
  simp [go_sem, txt_list, i2, i4]
  by_cases h0 : x.key = y.key <;> by_cases h1 : x.value = y.value <;> by_cases h2 : x.flags = y.flags <;> by_cases h3 : x.exp = y.exp <;> by_cases h4 : x.ver = y.ver <;> simp [h0, h1, h2, h3, h4]
end Go.Proofs.Ytbccnfbombgdmaa
