/- The map from chunks to what stands in them. -/
import Derived.Test.YtdkiegkgnimapabDoorDm1
import Derived.Test.YtdkiegkgnimapabDoorSMp
import Derived.Test.YtdkiegkgnimapabDoorZt
set_option linter.unusedVariables false
set_option linter.unusedSimpArgs false
set_option maxRecDepth 8000
namespace Go.Proofs.YtdkiegkgnimapabDoor
open Go.RowKit Go.Deep Drm
open Sgg (I64 intL keyed3 key3 intL_inj keyLit)
open Tbl (txt)

def itV (x : It) : Value := .agg #[.string (txt x.k), .string (txt x.v), .int .u32 x.fl, .int .i64 x.ex, .int .u64 x.ve]
def ouV (o : Ou) : Value := .agg #[.string (txt o.x.k), .string (txt o.x.v), .int .u32 o.x.fl, .int .i64 o.x.ex, .int .u64 o.x.ve, .bool o.c]
def itL (x : It) : List Value := [.string (txt x.k), .string (txt x.v), .int .u32 x.fl, .int .i64 x.ex, .int .u64 x.ve]
def ouL (o : Ou) : List Value := [.string (txt o.x.k), .string (txt o.x.v), .int .u32 o.x.fl, .int .i64 o.x.ex, .int .u64 o.x.ve, .bool o.c]
def zIt : It := ⟨[], [], 0, 0, 0⟩
def zOu : Ou := ⟨zIt, false⟩
def ouD (o : Ou) : DataW Unit := .agg [.lit (.string o.x.k), .lit (.string o.x.v), .lit (.int .u32 o.x.fl), .lit (.int .i64 o.x.ex), .lit (.int .u64 o.x.ve), .lit (.bool o.c)]
theorem ouD_inj {a b : Ou} (h : ouD a = ouD b) : a = b := by
  obtain ⟨⟨k, v, f, e, n⟩, c⟩ := a
  obtain ⟨⟨k', v', f', e', n'⟩, c'⟩ := b
  simp only [ouD, DataW.agg.injEq, List.cons.injEq, DataW.lit.injEq, Lit.string.injEq, Lit.int.injEq, Lit.bool.injEq, true_and, and_true] at h
  obtain ⟨rfl, rfl, rfl, rfl, rfl, rfl⟩ := h
  rfl
def ouElem (v : Value) : Option (DataW Unit × List MemPlace) := match v with
  | .agg a => match a.toList with
    | [.string k, .string u, .int .u32 f, .int .i64 e, .int .u64 n, .bool c] => some (ouD ⟨⟨k.data.toList, u.data.toList, f, e, n⟩, c⟩, [])
    | _ => none
  | _ => none
theorem ouElem_mk (o : Ou) : ouElem (ouV o) = some (ouD o, []) := rfl
theorem txt_of (s : ByteArray) : txt s.data.toList = s := by cases s; rfl
theorem ouElem_inv {v : Value} {o : Ou} {ps : List MemPlace} (h : ouElem v = some (ouD o, ps)) : v = ouV o := by
  unfold ouElem at h
  split at h
  · rename_i a
    split at h
    · rename_i k u f e n c ha
      simp only [Option.some.injEq, Prod.mk.injEq] at h
      have ho := ouD_inj h.1
      subst ho
      obtain ⟨a⟩ := a
      simp only at ha
      subst ha
      simp [ouV, txt_of]
    · cases h
  · cases h
structure HasO (D : DataW Unit) (M : Int → Option Ou) : Prop where
  tidy : Maps.Tidy D
  has : ∀ k, Maps.has D (intL k) = (M k).isSome
  val : ∀ k, D.atKey (intL k) (ouD zOu) = ouD ((M k).getD zOu)
def updO (M : Int → Option Ou) (k : Int) (p : Option Ou) : Int → Option Ou := fun x => if x = k then p else M x
theorem updO_same (M : Int → Option Ou) (k : Int) (p : Option Ou) : updO M k p k = p := by simp [updO]
theorem updO_other (M : Int → Option Ou) (k x : Int) (p : Option Ou) (h : x ≠ k) : updO M k p x = M x := by simp [updO, h]
theorem HasO.put {D : DataW Unit} {M : Int → Option Ou} (h : HasO D M) (k : Int) (p : Ou) : HasO (D.put (intL k) (ouD p)) (updO M k (some p)) := by
  refine ⟨h.tidy.put (keyLit k) _, fun x => ?_, fun x => ?_⟩
  · by_cases e : x = k
    · subst e; rw [Maps.has_put_same h.tidy.isMap (keyLit x), updO_same]; rfl
    · rw [Maps.has_put_other (fun e' => e (intL_inj e')), updO_other _ _ _ _ e, h.has]
  · by_cases e : x = k
    · subst e; rw [Maps.atKey_put_same h.tidy.isMap (keyLit x), updO_same]; rfl
    · rw [Maps.atKey_put_other (fun e' => e (intL_inj e')), updO_other _ _ _ _ e, h.val]
theorem HasO.del {D : DataW Unit} {M : Int → Option Ou} (h : HasO D M) (k : Int) : HasO (D.del (intL k)) (updO M k none) := by
  refine ⟨h.tidy.del _, fun x => ?_, fun x => ?_⟩
  · by_cases e : x = k
    · subst e; rw [Maps.has_del_same, updO_same]; rfl
    · rw [Maps.has_del_other (fun e' => e (intL_inj e')), updO_other _ _ _ _ e, h.has]
  · by_cases e : x = k
    · subst e; rw [Maps.atKey_del_same, updO_same]; rfl
    · rw [Maps.atKey_del_other (fun e' => e (intL_inj e')), updO_other _ _ _ _ e, h.val]
theorem HasO.empty : HasO (.map []) (fun _ => none) := ⟨Maps.tidy_empty, fun _ => rfl, fun _ => rfl⟩
theorem zero42 (w : World) : (zeroValue 40).run Tryd.prog w = .ok (ouV zOu) w := Tryd.zeroValue40 w
/-- Block m is a map of n chunks that says what stands in them. -/
def MapO (w : World) (m n : Nat) (M : Int → Option Ou) : Prop := ∃ D : DataW Unit, w.ownsMap Tryd.prog 3 ouElem m n D ∧ HasO D M ∧ Maps.size D = n
section
variable {w w' : World} {m n : Nat} {M : Int → Option Ou}
theorem MapO.same (h : MapO w m n M) (e : w'.heap[m]? = w.heap[m]?) : MapO w' m n M := by
  obtain ⟨D, ⟨es, c, h1, h2⟩, h3⟩ := h
  exact ⟨D, ⟨es, c, e.trans h1, h2⟩, h3⟩
theorem MapO.lt (h : MapO w m n M) : m < w.heap.size := by
  obtain ⟨D, h1, _⟩ := h
  exact h1.lt
theorem MapO.isMap (h : MapO w m n M) : ∃ es c, w.heap[m]? = some (.map es c) := by
  obtain ⟨D, ⟨es, c, h1, h2⟩, h3⟩ := h
  exact ⟨es, c, h1⟩
theorem own_tightO {D : DataW Unit} {n' : Nat} (h : w.ownsMap Tryd.prog 3 ouElem m n' D) : w.ownsMap Tryd.prog 3 ouElem m (Maps.size D) D := by
  obtain ⟨es, c, h1, h2, h3, rfl⟩ := h
  refine ⟨es, c, h1, h2, ?_, rfl⟩
  simp [Maps.size, length_sorted]
theorem MapO.look (h : MapO w m n M) {k : Int} (hk : I64 k) : (Instr.lookup 53 (.map (some m)) (.int .i64 k) false).run Tryd.prog w = .ok (ouV ((M k).getD zOu)) w := by
  obtain ⟨D, hD, hM, _⟩ := h
  obtain ⟨x, ps, hrun, hx⟩ := hD.lookup (t := 53) keyed3 Tryd.underlying53 (zero42 w) (ouElem_mk zOu) (key3 hk)
  rw [hM.val k] at hx
  rw [ouElem_inv hx] at hrun
  exact hrun
theorem MapO.len (h : MapO w m n M) (ty : TypeId) : (Builtin.len_ #[53] ty #[.map (some m)]).run Tryd.prog w = .ok (.int .i64 (n : Int)) w := by
  obtain ⟨D, hD, hM, rfl⟩ := h
  exact hD.len Tryd.underlying53 ty
theorem MapO.drop (h : MapO w m n M) {k : Int} (hk : I64 k) (hm : (M k).isSome = true) :
    ∃ w', (∀ ty, (Builtin.delete_ #[53, 3] ty #[.map (some m), .int .i64 k]).run Tryd.prog w = .ok (.tuple #[]) w') ∧ MapO w' m (n - 1) (updO M k none) ∧ Keep [m] w w' ∧ w'.heap.size = w.heap.size := by
  obtain ⟨D, hD, hM, hz⟩ := h
  have e1 := Maps.size_del (k := intL k) hM.tidy
  rw [hM.has k, hm, if_pos rfl] at e1
  obtain ⟨w', hrun, ho, ht⟩ := hD.drop (t := 53) keyed3 Tryd.underlying53 (key3 hk) 0
  refine ⟨w', fun ty => hrun, ⟨_, ?_, hM.del k, by omega⟩, (Keep.refl [m] w).grown ht.grown (fun x hx => .inl (by cases hx; simp)), ?_⟩
  · have := own_tightO ho
    rw [show Maps.size (D.del (intL k)) = n - 1 by omega] at this
    exact this
  · obtain ⟨es, c, es', c', _, rfl⟩ := ht
    simp [ChangeMaps.setBlock]
theorem MapO.store (h : MapO w m n M) {k : Int} (hk : I64 k) (hm : M k = none) (hn : n < 1000000) (p : Ou) :
    ∃ w', (Instr.mapUpdate 53 (.map (some m)) (.int .i64 k) (ouV p)).run Tryd.prog w = .ok () w' ∧ MapO w' m (n + 1) (updO M k (some p)) ∧ Keep [m] w w' ∧ w'.heap.size = w.heap.size := by
  obtain ⟨D, hD, hM, hz⟩ := h
  have e1 := Maps.size_put (k := intL k) hM.tidy (ouD p)
  rw [hM.has k, hm] at e1
  simp only [Option.isSome_none, Bool.false_eq_true, if_false] at e1
  obtain ⟨w', hrun, ho, ht⟩ := hD.store (t := 53) keyed3 Tryd.underlying53 (Nat.lt_trans hn (by decide)) (key3 hk) (ouElem_mk p)
  refine ⟨w', hrun, ⟨_, ?_, hM.put k p, by rw [e1, hz]⟩, (Keep.refl [m] w).grown ht.grown (fun x hx => .inl (by cases hx; simp)), ?_⟩
  · exact ho
  · obtain ⟨es, c, es', c', _, rfl⟩ := ht
    simp [ChangeMaps.setBlock]
end
end Go.Proofs.YtdkiegkgnimapabDoor
