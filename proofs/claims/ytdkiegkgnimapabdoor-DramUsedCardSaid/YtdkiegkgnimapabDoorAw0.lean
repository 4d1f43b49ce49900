/- The few states of 'awake'. -/
import Derived.Test.YtdkiegkgnimapabDoorBg
import Derived.Test.YtdkiegkgnimapabDoorIm
import Derived.Test.YtdkiegkgnimapabDoorCl
import Derived.Test.YtdkiegkgnimapabDoorDc8
set_option linter.unusedVariables false
set_option linter.unusedSimpArgs false
set_option maxRecDepth 8000
namespace Go.Proofs.YtdkiegkgnimapabDoor
open Go.RowKit Go.Deep Drm Go.Shelf

def oA : Ou := ⟨bigI [97], false⟩
def oB : Ou := ⟨bigI [98], true⟩
def oC : Ou := ⟨bigI [99], false⟩
theorem kls_big {k : List UInt8} (h1 : 1 ≤ k.length) (h2 : k.length ≤ 250) : kls (bigI k) = 5 := by
  unfold kls
  show (Slb.cls ((32 + k.length + bigV.length : Nat) : Int)).toNat = 5
  rw [bigV_len, Slb.cls_at _ 5 (by decide) (by omega) (fun j hj => by rcases (show j = 0 ∨ j = 1 ∨ j = 2 ∨ j = 3 ∨ j = 4 by omega) with rfl | rfl | rfl | rfl | rfl <;> (simp; omega)) (by simp; omega)]
  rfl
def d1 : Dm := putD 5 oA (new0 1)
def d2 : Dm := putD 5 oB d1
def d3 : Dm := putD 5 oC d2
theorem g1 : putG 5 oA (new0 1) = [] := by rfl
theorem g2 : putG 5 oB d1 = [] := by rfl
theorem g3 : putG 5 oC d2 = [oA] := by rfl
theorem f3 : kfd [98] d3.it = some 1 := by rfl
theorem l3 : lok 1 d3.it = some oB := by rfl
def d4 : Dm := tchD 1 d3
theorem n4 : (itemsTo d4 6).length = 2 := by rfl
theorem n4' : d4.it.length = 2 := by rfl
def d5 : Dm := delD [98] d4
theorem e5 : d4.it = d3.it := rfl
theorem dropAll_it : ∀ (l : List Int) (d : Dm), (∀ x ∈ nums d.it, x ∈ l) → (dropAll l d).it = []
  | [], d, h => by
    cases hd : d.it with
    | nil => exact hd
    | cons e r => have := h e.1 (by rw [hd]; simp [nums]); cases this
  | i :: l, d, h => by
    show (dropAll l (dropD i d)).it = []
    refine dropAll_it l _ (fun x hx => ?_)
    obtain ⟨h1, h2⟩ := drop_nums.1 hx
    rcases List.mem_cons.1 (h x h1) with h3 | h3
    · exact absurd h3 h2
    · exact h3
end Go.Proofs.YtdkiegkgnimapabDoor
