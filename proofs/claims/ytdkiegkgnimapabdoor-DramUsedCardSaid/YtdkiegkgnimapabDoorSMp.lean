/- The map from numbers to their nodes. -/
import Derived.Test.YtdkiegkgnimapabDoorMem
import Derived.Test.YtdkiegkgnimapabDoorProg
import Derived.Maps.Own
import Derived.Maps.OwnOps
import Derived.Maps.OwnSet
import Derived.Maps.Views
set_option linter.unusedVariables false
set_option linter.unusedSimpArgs false
set_option maxRecDepth 8000
namespace Go.Proofs.YtdkiegkgnimapabDoor.Sgg
open Go.RowKit Go.Deep

def ptrV : Option Nat → Value
  | none => .pointer none
  | some b => .pointer (some ⟨b, 0, none⟩)
def ptrD : Option Nat → DataW Unit
  | none => .agg []
  | some b => .agg [.lit (.int .i64 (b : Int))]
def ptrElem : Value → Option (DataW Unit × List MemPlace)
  | .pointer none => some (ptrD none, [])
  | .pointer (some ⟨b, 0, none⟩) => some (ptrD (some b), [])
  | _ => none
theorem ptrElem_mk (p : Option Nat) : ptrElem (ptrV p) = some (ptrD p, []) := by
  cases p with
  | none => rfl
  | some q => rfl
theorem ptrElem_inv {v : Value} {p : Option Nat} {ps : List MemPlace} (h : ptrElem v = some (ptrD p, ps)) : v = ptrV p := by
  unfold ptrElem at h
  split at h
  · cases p with
    | none => rfl
    | some q => simp [ptrD] at h
  · rename_i b
    cases p with
    | none => simp [ptrD] at h
    | some q =>
      simp [ptrD] at h
      simp [ptrV, h.1]
  · cases h
def I64 (i : Int) : Prop := -9223372036854775808 ≤ i ∧ i ≤ 9223372036854775807
theorem I64.wf {i : Int} (h : I64 i) : (Lit.int .i64 i).wf = true := by
  unfold I64 at h
  have h1 : IntKind.i64.min = -9223372036854775808 := by decide
  have h2 : IntKind.i64.max = 9223372036854775807 := by decide
  simp only [Lit.wf, h1, h2, Bool.and_eq_true, decide_eq_true_eq]
  exact h
def intL (i : Int) : Lit := .int .i64 i
/-- A map of numbers, as the library tells it, and as a function. -/
structure HasIs (D : DataW Unit) (M : Int → Option Nat) : Prop where
  tidy : Maps.Tidy D
  has : ∀ k, Maps.has D (intL k) = (M k).isSome
  val : ∀ k, D.atKey (intL k) (ptrD none) = ptrD (M k)
def updK (M : Int → Option Nat) (k : Int) (p : Option Nat) : Int → Option Nat := fun x => if x = k then p else M x
theorem updK_same (M : Int → Option Nat) (k : Int) (p : Option Nat) : updK M k p k = p := by simp [updK]
theorem updK_other (M : Int → Option Nat) (k x : Int) (p : Option Nat) (h : x ≠ k) : updK M k p x = M x := by simp [updK, h]
theorem intL_inj {a b : Int} (h : intL a = intL b) : a = b := by simpa [intL] using h
theorem keyLit (k : Int) : WideAt.IsKeyLit (intL k) := by simp [intL, WideAt.IsKeyLit]
theorem HasIs.put {D : DataW Unit} {M : Int → Option Nat} (h : HasIs D M) (k : Int) (p : Nat) : HasIs (D.put (intL k) (ptrD (some p))) (updK M k (some p)) := by
  refine ⟨h.tidy.put (keyLit k) _, fun x => ?_, fun x => ?_⟩
  · by_cases e : x = k
    · subst e; rw [Maps.has_put_same h.tidy.isMap (keyLit x), updK_same]; rfl
    · rw [Maps.has_put_other (fun e' => e (intL_inj e')), updK_other _ _ _ _ e, h.has]
  · by_cases e : x = k
    · subst e; rw [Maps.atKey_put_same h.tidy.isMap (keyLit x), updK_same]
    · rw [Maps.atKey_put_other (fun e' => e (intL_inj e')), updK_other _ _ _ _ e, h.val]
theorem HasIs.del {D : DataW Unit} {M : Int → Option Nat} (h : HasIs D M) (k : Int) : HasIs (D.del (intL k)) (updK M k none) := by
  refine ⟨h.tidy.del _, fun x => ?_, fun x => ?_⟩
  · by_cases e : x = k
    · subst e; rw [Maps.has_del_same, updK_same]; rfl
    · rw [Maps.has_del_other (fun e' => e (intL_inj e')), updK_other _ _ _ _ e, h.has]
  · by_cases e : x = k
    · subst e; rw [Maps.atKey_del_same, updK_same]
    · rw [Maps.atKey_del_other (fun e' => e (intL_inj e')), updK_other _ _ _ _ e, h.val]
theorem HasIs.empty : HasIs (.map []) (fun _ => none) := ⟨Maps.tidy_empty, fun _ => rfl, fun _ => rfl⟩

theorem keyed3 : Maps.Keyed Tryd.prog 3 := Maps.int_keyed Tryd.underlying3
theorem key3 {k : Int} (h : I64 k) : keyOf Tryd.prog 3 (.int .i64 k) = some (intL k) := Maps.keyOf_int_mk Tryd.underlying3 h.wf
theorem zero46 (w : World) : (zeroValue 89).run Tryd.prog w = .ok (.pointer none) w := by go_simp

/-- Block m is a map of n numbers that says where their nodes stand. -/
def MapAt (w : World) (m n : Nat) (M : Int → Option Nat) : Prop := ∃ D : DataW Unit, w.ownsMap Tryd.prog 3 ptrElem m n D ∧ HasIs D M ∧ Maps.size D = n
section
variable {w w' : World} {m n : Nat} {M : Int → Option Nat}
theorem MapAt.same (h : MapAt w m n M) (e : w'.heap[m]? = w.heap[m]?) : MapAt w' m n M := by
  obtain ⟨D, ⟨es, c, h1, h2⟩, h3⟩ := h
  exact ⟨D, ⟨es, c, e.trans h1, h2⟩, h3⟩
theorem MapAt.lt (h : MapAt w m n M) : m < w.heap.size := by
  obtain ⟨D, h1, _⟩ := h
  exact h1.lt
theorem MapAt.isMap (h : MapAt w m n M) : ∃ es c, w.heap[m]? = some (.map es c) := by
  obtain ⟨D, ⟨es, c, h1, h2⟩, h3⟩ := h
  exact ⟨es, c, h1⟩
theorem own_tight {D : DataW Unit} {n' : Nat} (h : w.ownsMap Tryd.prog 3 ptrElem m n' D) : w.ownsMap Tryd.prog 3 ptrElem m (Maps.size D) D := by
  obtain ⟨es, c, h1, h2, h3, rfl⟩ := h
  refine ⟨es, c, h1, h2, ?_, rfl⟩
  simp [Maps.size, length_sorted]
theorem MapAt.look (h : MapAt w m n M) {k : Int} (hk : I64 k) : (Instr.lookup 87 (.map (some m)) (.int .i64 k) false).run Tryd.prog w = .ok (ptrV (M k)) w := by
  obtain ⟨D, hD, hM, _⟩ := h
  obtain ⟨x, ps, hrun, hx⟩ := hD.lookup (t := 87) keyed3 Tryd.underlying87 (zero46 w) (ptrElem_mk none) (key3 hk)
  rw [hM.val k] at hx
  rw [ptrElem_inv hx] at hrun
  exact hrun
theorem MapAt.len (h : MapAt w m n M) (ty : TypeId) : (Builtin.len_ #[87] ty #[.map (some m)]).run Tryd.prog w = .ok (.int .i64 (n : Int)) w := by
  obtain ⟨D, hD, hM, rfl⟩ := h
  exact hD.len Tryd.underlying87 ty
theorem MapAt.drop (h : MapAt w m n M) {k : Int} (hk : I64 k) (hm : (M k).isSome = true) :
    ∃ w', (∀ ty, (Builtin.delete_ #[87, 3] ty #[.map (some m), .int .i64 k]).run Tryd.prog w = .ok (.tuple #[]) w') ∧ MapAt w' m (n - 1) (updK M k none) ∧ Keep [m] w w' ∧ w'.heap.size = w.heap.size := by
  obtain ⟨D, hD, hM, hz⟩ := h
  have e1 := Maps.size_del (k := intL k) hM.tidy
  rw [hM.has k, hm, if_pos rfl] at e1
  obtain ⟨w', hrun, ho, ht⟩ := hD.drop (t := 87) keyed3 Tryd.underlying87 (key3 hk) 0
  refine ⟨w', fun ty => hrun, ⟨_, ?_, hM.del k, by omega⟩, (Keep.refl [m] w).grown ht.grown (fun x hx => .inl (by cases hx; simp)), ?_⟩
  · have := own_tight ho
    rw [show Maps.size (D.del (intL k)) = n - 1 by omega] at this
    exact this
  · obtain ⟨es, c, es', c', _, rfl⟩ := ht
    simp [ChangeMaps.setBlock]
theorem MapAt.store (h : MapAt w m n M) {k : Int} (hk : I64 k) (hm : M k = none) (hn : n < 1000000) (p : Nat) :
    ∃ w', (Instr.mapUpdate 87 (.map (some m)) (.int .i64 k) (.pointer (some ⟨p, 0, none⟩))).run Tryd.prog w = .ok () w' ∧ MapAt w' m (n + 1) (updK M k (some p)) ∧ Keep [m] w w' ∧ w'.heap.size = w.heap.size := by
  obtain ⟨D, hD, hM, hz⟩ := h
  have e1 := Maps.size_put (k := intL k) hM.tidy (ptrD (some p))
  rw [hM.has k, hm] at e1
  simp only [Option.isSome_none, Bool.false_eq_true, if_false] at e1
  obtain ⟨w', hrun, ho, ht⟩ := hD.store (t := 87) keyed3 Tryd.underlying87 (Nat.lt_trans hn (by decide)) (key3 hk) (ptrElem_mk (some p))
  refine ⟨w', hrun, ⟨_, ?_, hM.put k p, by rw [e1, hz]⟩, (Keep.refl [m] w).grown ht.grown (fun x hx => .inl (by cases hx; simp)), ?_⟩
  · exact ho
  · obtain ⟨es, c, es', c', _, rfl⟩ := ht
    simp [ChangeMaps.setBlock]
end
end Go.Proofs.YtdkiegkgnimapabDoor.Sgg
