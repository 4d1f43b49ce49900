/- A cache in memory: its parts, each apart from the others; what the parts' calls leave of it. -/
import Derived.Test.YtdkiegkgnimapabDoorMo
import Derived.Test.YtdkiegkgnimapabDoorZl
import Derived.Test.YtdkiegkgnimapabDoorTb8
import Derived.Test.YtdkiegkgnimapabDoorSg6
set_option linter.unusedVariables false
set_option linter.unusedSimpArgs false
set_option maxRecDepth 8000
namespace Go.Proofs.YtdkiegkgnimapabDoor
open Go.RowKit Go.Deep Drm
open Sgg (I64 SM)
open Sgm (ids addS tchS rmvS evi eviS)
open Slb (Pg SlIn tkC tkE tkL frE frL ofI takI)
open Tbl (TM txt hsh)
open Tab (Tb fnd)

/-- Where a cache's parts stand. -/
structure Ad where
  f : Nat
  s : Nat
  t : Nat
  b : Nat
  m : Nat
  g : Nat → Nat
  tb : Tb
  Ft : List Nat
  Fs : Nat → List Nat
  cp : Nat
  tl : List Value
def Ad.P (a : Ad) (c : Nat) : Nat → List Nat
  | 0 => [c]
  | 1 => [a.f, a.s]
  | 2 => a.Ft
  | 3 => [a.b]
  | 4 => [a.m]
  | k + 5 => a.Fs k
def pV (b : Nat) : Value := .pointer (some ⟨b, 0, none⟩)
def rowL (g : Nat → Nat) (tl : List Value) : List Value := pV (g 0) :: pV (g 1) :: pV (g 2) :: pV (g 3) :: pV (g 4) :: pV (g 5) :: tl
theorem rowL_get (g : Nat → Nat) (tl : List Value) {k : Nat} (h : k < 6) : (rowL g tl)[k]? = some (pV (g k)) := by
  match k, h with
  | 0, _ => rfl
  | 1, _ => rfl
  | 2, _ => rfl
  | 3, _ => rfl
  | 4, _ => rfl
  | 5, _ => rfl
  | k + 6, h => omega
/-- Blocks of these types are a cache's own. -/
def ours (t : TypeId) : Bool := t == 56 || t == 81 || t == 83 || t == 86 || t == 120 || t == 107 || t == 58 || t == 91 || t == 95
structure Mx (w : World) (c : Nat) (a : Ad) (pg : List Pg) (sg : Nat → Sgm.St) (n : Nat) (M : Int → Option Ou) : Prop where
  own : Blk w c [pV a.f, pV a.t, .slice (some ⟨a.b, 0, none⟩) 6 a.cp, .map (some a.m)] 56
  sl : SlIn w a.f a.s pg
  tm : TM a.t a.tb a.Ft w
  row : Blk w a.b (rowL a.g a.tl) 58
  mp : MapO w a.m n M
  sgs : ∀ k, k < 6 → SM w (a.g k) (sg k) (a.Fs k)
  ap : ∀ i j, i < 11 → j < 11 → i ≠ j → ∀ x ∈ a.P c i, x ∉ a.P c j
section
variable {w w' : World} {c : Nat} {a : Ad} {pg pg' : List Pg} {sg : Nat → Sgm.St} {n : Nat} {M : Int → Option Ou}
theorem Mx.lt (h : Mx w c a pg sg n M) : ∀ i, i < 11 → ∀ x ∈ a.P c i, x < w.heap.size := by
  intro i hi x hx
  match i, hi with
  | 0, _ => simp [Ad.P] at hx; subst hx; exact h.own.lt
  | 1, _ =>
    simp [Ad.P] at hx
    rcases hx with rfl | rfl
    · exact h.sl.own.lt
    · exact h.sl.row.lt
  | 2, _ => exact h.tm.lt x hx
  | 3, _ => simp [Ad.P] at hx; subst hx; exact h.row.lt
  | 4, _ => simp [Ad.P] at hx; subst hx; exact h.mp.lt
  | k + 5, hk => exact (h.sgs k (by omega)).lt x hx
/-- The blocks of a cache that are rows of cells are of its own types. -/
theorem Mx.ty (h : Mx w c a pg sg n M) : ∀ i, i < 11 → ∀ x ∈ a.P c i, ∀ q t, w.heap[x]? = some (.cells q t (0, 0)) → ours t = true := by
  have blk : ∀ {x : Nat} {L : List Value} {t0 : TypeId}, Blk w x L t0 → ours t0 = true → ∀ q t, w.heap[x]? = some (.cells q t (0, 0)) → ours t = true := fun hb ho q t hq => by
    unfold Blk at hb
    rw [hb] at hq
    simp at hq
    rw [← hq.2]
    exact ho
  intro i hi x hx
  match i, hi with
  | 0, _ => simp [Ad.P] at hx; subst hx; exact blk h.own rfl
  | 1, _ =>
    simp [Ad.P] at hx
    rcases hx with rfl | rfl
    · exact blk h.sl.own rfl
    · exact blk h.sl.row rfl
  | 2, _ =>
    obtain ⟨L, h1 | h1 | h1⟩ := h.tm.ty x hx
    · exact blk h1 rfl
    · exact blk h1 rfl
    · exact blk h1 rfl
  | 3, _ => simp [Ad.P] at hx; subst hx; exact blk h.row rfl
  | 4, _ =>
    simp [Ad.P] at hx
    subst hx
    obtain ⟨es, q0, he⟩ := h.mp.isMap
    intro q t hq
    rw [he] at hq
    cases hq
  | k + 5, hk =>
    intro q t hq
    rcases (h.sgs k (by omega)).ty x hx q t hq with rfl | rfl
    · rfl
    · rfl
theorem Mx.same (h : Mx w c a pg sg n M) (e : ∀ i, i < 11 → ∀ x ∈ a.P c i, w'.heap[x]? = w.heap[x]?) : Mx w' c a pg sg n M :=
  ⟨h.own.same (e 0 (by decide) c (by simp [Ad.P])), h.sl.same (e 1 (by decide) a.f (by simp [Ad.P])) (e 1 (by decide) a.s (by simp [Ad.P])), h.tm.same (fun x hx => e 2 (by decide) x hx),
    h.row.same (e 3 (by decide) a.b (by simp [Ad.P])), h.mp.same (e 4 (by decide) a.m (by simp [Ad.P])), fun k hk => (h.sgs k hk).same (fun x hx => e (k + 5) (by omega) x hx), h.ap⟩
theorem Mx.below (h : Mx w c a pg sg n M) (b : Below w.heap.size w w') : Mx w' c a pg sg n M := h.same (fun i hi x hx => b.block x (h.lt i hi x hx))
/-- What one part's turn leaves of the others. -/
theorem Mx.else (h : Mx w c a pg sg n M) {i : Nat} (hi : i < 11) {G : List Nat} (hG : ∀ x ∈ G, x ∈ a.P c i) (k : Keep G w w') : ∀ j, j < 11 → j ≠ i → ∀ x ∈ a.P c j, w'.heap[x]? = w.heap[x]? :=
  fun j hj hne x hx => k.block x (h.lt j hj x hx) (fun hg => h.ap j i hj hi hne x hx (hG x hg))
theorem Mx.slab (h : Mx w c a pg sg n M) (hs : SlIn w' a.f a.s pg') (k : Keep [a.s] w w') : Mx w' c a pg' sg n M := by
  have e := h.else (i := 1) (by decide) (G := [a.s]) (by simp [Ad.P]) k
  exact ⟨h.own.same (e 0 (by decide) (by decide) c (by simp [Ad.P])), hs, h.tm.same (fun x hx => e 2 (by decide) (by decide) x hx),
    h.row.same (e 3 (by decide) (by decide) a.b (by simp [Ad.P])), h.mp.same (e 4 (by decide) (by decide) a.m (by simp [Ad.P])), fun q hq => (h.sgs q hq).same (fun x hx => e (q + 5) (by omega) (by omega) x hx), h.ap⟩
theorem Mx.map {n' : Nat} {M' : Int → Option Ou} (h : Mx w c a pg sg n M) (hs : MapO w' a.m n' M') (k : Keep [a.m] w w') : Mx w' c a pg sg n' M' := by
  have e := h.else (i := 4) (by decide) (G := [a.m]) (by simp [Ad.P]) k
  exact ⟨h.own.same (e 0 (by decide) (by decide) c (by simp [Ad.P])), h.sl.same (e 1 (by decide) (by decide) a.f (by simp [Ad.P])) (e 1 (by decide) (by decide) a.s (by simp [Ad.P])), h.tm.same (fun x hx => e 2 (by decide) (by decide) x hx),
    h.row.same (e 3 (by decide) (by decide) a.b (by simp [Ad.P])), hs, fun q hq => (h.sgs q hq).same (fun x hx => e (q + 5) (by omega) (by omega) x hx), h.ap⟩
/-- Parts apart, one of them turned. -/
theorem ap_upd {P P' : Nat → List Nat} {z K : Nat} (ap : ∀ i j, i < K → j < K → i ≠ j → ∀ x ∈ P i, x ∉ P j) (lt : ∀ i, i < K → ∀ x ∈ P i, x < z) {i : Nat} (hi : i < K) (hf : ∀ x ∈ P' i, x ∈ P i ∨ z ≤ x) (ho : ∀ j, j ≠ i → P' j = P j) :
    ∀ i j, i < K → j < K → i ≠ j → ∀ x ∈ P' i, x ∉ P' j := by
  intro p q hp hq hne x hx hy
  by_cases e1 : p = i
  · subst e1
    rw [ho q (fun e => hne e.symm)] at hy
    rcases hf x hx with h1 | h1
    · exact ap p q hp hq hne x h1 hy
    · have := lt q hq x hy; omega
  · rw [ho p e1] at hx
    by_cases e2 : q = i
    · subst e2
      rcases hf x hy with h1 | h1
      · exact ap p q hp hq hne x hx h1
      · have := lt p hp x hx; omega
    · rw [ho q e2] at hy
      exact ap p q hp hq hne x hx hy
def Ad.tab (a : Ad) (t : Tb) (F : List Nat) : Ad := ⟨a.f, a.s, a.t, a.b, a.m, a.g, t, F, a.Fs, a.cp, a.tl⟩
theorem Mx.table {t' : Tb} {F' : List Nat} (h : Mx w c a pg sg n M) (hs : TM a.t t' F' w') (k : Moves a.Ft F' w w') : Mx w' c (a.tab t' F') pg sg n M := by
  have e := h.else (i := 2) (by decide) (G := a.Ft) (fun x hx => hx) k.keep
  refine ⟨h.own.same (e 0 (by decide) (by decide) c (by simp [Ad.P])), h.sl.same (e 1 (by decide) (by decide) a.f (by simp [Ad.P])) (e 1 (by decide) (by decide) a.s (by simp [Ad.P])), hs,
    h.row.same (e 3 (by decide) (by decide) a.b (by simp [Ad.P])), h.mp.same (e 4 (by decide) (by decide) a.m (by simp [Ad.P])), fun q hq => (h.sgs q hq).same (fun x hx => e (q + 5) (by omega) (by omega) x hx), ?_⟩
  refine ap_upd (P := a.P c) h.ap h.lt (i := 2) (by decide) (fun x hx => k.foot x hx) (fun j hj => ?_)
  match j, hj with
  | 0, _ => rfl
  | 1, _ => rfl
  | 2, hj => exact absurd rfl hj
  | 3, _ => rfl
  | 4, _ => rfl
  | k + 5, _ => rfl
def Ad.seg (a : Ad) (k : Nat) (F : List Nat) : Ad := ⟨a.f, a.s, a.t, a.b, a.m, a.g, a.tb, a.Ft, fun j => if j = k then F else a.Fs j, a.cp, a.tl⟩
theorem Mx.seg {k : Nat} (hk : k < 6) {s' : Sgm.St} {F' : List Nat} (h : Mx w c a pg sg n M) (hs : SM w' (a.g k) s' F') (v : Moves (a.Fs k) F' w w') : Mx w' c (a.seg k F') pg (updS sg k s') n M := by
  have e := h.else (i := k + 5) (by omega) (G := a.Fs k) (fun x hx => hx) v.keep
  refine ⟨h.own.same (e 0 (by decide) (by omega) c (by simp [Ad.P])), h.sl.same (e 1 (by decide) (by omega) a.f (by simp [Ad.P])) (e 1 (by decide) (by omega) a.s (by simp [Ad.P])), h.tm.same (fun x hx => e 2 (by decide) (by omega) x hx),
    h.row.same (e 3 (by decide) (by omega) a.b (by simp [Ad.P])), h.mp.same (e 4 (by decide) (by omega) a.m (by simp [Ad.P])), fun q hq => ?_, ?_⟩
  · by_cases eq : q = k
    · subst eq
      show SM w' (a.g q) (updS sg q s' q) (if q = q then F' else a.Fs q)
      rw [updS_same, if_pos rfl]
      exact hs
    · show SM w' (a.g q) (updS sg k s' q) (if q = k then F' else a.Fs q)
      rw [updS_other _ _ eq, if_neg eq]
      exact (h.sgs q hq).same (fun x hx => e (q + 5) (by omega) (by omega) x hx)
  · refine ap_upd (P := a.P c) h.ap h.lt (i := k + 5) (by omega) (fun x hx => ?_) (fun j hj => ?_)
    · have hx : x ∈ (if k = k then F' else a.Fs k) := hx
      rw [if_pos rfl] at hx
      exact v.foot x hx
    · match j, hj with
      | 0, _ => rfl
      | 1, _ => rfl
      | 2, _ => rfl
      | 3, _ => rfl
      | 4, _ => rfl
      | q + 5, hj =>
        show (if q = k then F' else a.Fs q) = a.Fs q
        rw [if_neg (by omega)]
end
/-! ### As a law holds it -/
/-- Blocks of other types than a cache's stay. -/
def OffD (W W' : World) : Prop := W.heap.size ≤ W'.heap.size ∧ ∀ (b : Nat) (q : Array Value) (t : TypeId), W.heap[b]? = some (Obj.cells q t (0, 0)) → ours t = false → W'.heap[b]? = W.heap[b]?
theorem OffD.refl (W : World) : OffD W W := ⟨Nat.le_refl _, fun _ _ _ _ _ => rfl⟩
theorem OffD.trans {a b c : World} (h : OffD a b) (k : OffD b c) : OffD a c := ⟨Nat.le_trans h.1 k.1, fun q x t hq h1 => by
  have e := h.2 q x t hq h1
  exact (k.2 q x t (e.trans hq) h1).trans e⟩
theorem OffD.below {a b : World} (h : Below a.heap.size a b) : OffD a b := ⟨h.size, fun q x t hq _ => h.block q (Array.getElem?_eq_some_iff.1 hq).1⟩
theorem OffD.drewN {a b : World} (h : OffD a b) (q : Nat) : OffD a (b.drewN q) := h
theorem Blk.offD {W W' : World} {b : Nat} {L : List Value} {t : TypeId} (h : Blk W b L t) (k : OffD W W') (h1 : ours t = false) : Blk W' b L t := h.same (k.2 b _ t h h1)
theorem GR.offD {α : Type} {K : Kd α} {B : Nat} {v : Value} {xs : List α} {W W' : World} (h : GR K B v xs W) (k : OffD W W') (h1 : ours K.tE = false) : GR K B v xs W' :=
  h.sameB (fun q hq => by obtain ⟨c, hc⟩ := h.ty q hq; exact k.2 q c K.tE hc h1)
structure ML (w0 : World) (c : Nat) (a : Ad) (pg : List Pg) (sg : Nat → Sgm.St) (n : Nat) (M : Int → Option Ou) (W : World) : Prop where
  mx : Mx W c a pg sg n M
  lo : ∀ i, i < 11 → ∀ x ∈ a.P c i, w0.heap.size ≤ x
  bel : Below w0.heap.size w0 W
  tab : Slb.Tab w0
section
variable {w0 W W' : World} {c : Nat} {a : Ad} {pg pg' : List Pg} {sg : Nat → Sgm.St} {n : Nat} {M : Int → Option Ou}
theorem ML.on (h : ML w0 c a pg sg n M W) (b : Below W.heap.size W W') : ML w0 c a pg sg n M W' := ⟨h.mx.below b, h.lo, h.bel.trans (b.mono h.bel.size), h.tab⟩
theorem below_drewN' {B : Nat} {a W : World} (h : Below B a W) (q : Nat) : Below B a (W.drewN q) := ⟨h.os, h.tape, h.output, h.size, h.block⟩
theorem ML.drewN (h : ML w0 c a pg sg n M W) (q : Nat) : ML w0 c a pg sg n M (W.drewN q) := h.on (below_drewN' (Below.refl _ W) q)
/-- A block of another type is turned beside it. -/
theorem ML.beside (h : ML w0 c a pg sg n M W) {G : List Nat} (k : Keep G W W') (hG : ∀ x ∈ G, w0.heap.size ≤ x ∧ ∃ q t, W.heap[x]? = some (.cells q t (0, 0)) ∧ ours t = false) : ML w0 c a pg sg n M W' := by
  refine ⟨h.mx.same (fun i hi x hx => k.block x (h.mx.lt i hi x hx) (fun hg => ?_)), h.lo, h.bel.trans (k.below (fun x hx => (hG x hx).1) h.bel.size), h.tab⟩
  obtain ⟨_, q, t, hq, ht⟩ := hG x hg
  rw [h.mx.ty i hi x hx q t hq] at ht
  cases ht
theorem ML.offG (h : ML w0 c a pg sg n M W) {G : List Nat} (k : Keep G W W') {i : Nat} (hi : i < 11) (hG : ∀ x ∈ G, x ∈ a.P c i) : OffD W W' :=
  ⟨k.size, fun b q t hq ht => k.block b (Array.getElem?_eq_some_iff.1 hq).1 (fun hg => by
    have := h.mx.ty i hi b (hG b hg) q t hq
    rw [this] at ht
    cases ht)⟩
theorem ML.sl (h : ML w0 c a pg sg n M W) (hg : Slb.Good pg) : Slb.Sl w0 a.f a.s pg W := ⟨h.mx.sl, h.bel, h.lo 1 (by decide) a.f (by simp [Ad.P]), h.lo 1 (by decide) a.s (by simp [Ad.P]), hg, h.tab⟩
theorem ML.slab (h : ML w0 c a pg sg n M W) (hs : SlIn W' a.f a.s pg') (k : Keep [a.s] W W') : ML w0 c a pg' sg n M W' ∧ OffD W W' :=
  ⟨⟨h.mx.slab hs k, h.lo, h.bel.trans (k.below (fun x hx => by simp at hx; subst hx; exact h.lo 1 (by decide) a.s (by simp [Ad.P])) h.bel.size), h.tab⟩, h.offG k (i := 1) (by decide) (by simp [Ad.P])⟩
theorem ML.map {n' : Nat} {M' : Int → Option Ou} (h : ML w0 c a pg sg n M W) (hs : MapO W' a.m n' M') (k : Keep [a.m] W W') : ML w0 c a pg sg n' M' W' ∧ OffD W W' :=
  ⟨⟨h.mx.map hs k, h.lo, h.bel.trans (k.below (fun x hx => by simp at hx; subst hx; exact h.lo 4 (by decide) a.m (by simp [Ad.P])) h.bel.size), h.tab⟩, h.offG k (i := 4) (by decide) (by simp [Ad.P])⟩
theorem ML.table {t' : Tb} {F' : List Nat} (h : ML w0 c a pg sg n M W) (hs : TM a.t t' F' W') (k : Moves a.Ft F' W W') : ML w0 c (a.tab t' F') pg sg n M W' ∧ OffD W W' := by
  refine ⟨⟨h.mx.table hs k, fun i hi x hx => ?_, h.bel.trans (k.keep.below (fun x hx => h.lo 2 (by decide) x hx) h.bel.size), h.tab⟩, h.offG k.keep (i := 2) (by decide) (fun x hx => hx)⟩
  by_cases e : i = 2
  · subst e
    rcases k.foot x hx with h1 | h1
    · exact h.lo 2 (by decide) x h1
    · exact Nat.le_trans h.bel.size h1
  · refine h.lo i hi x ?_
    match i, e with
    | 0, _ => exact hx
    | 1, _ => exact hx
    | 2, e => exact absurd rfl e
    | 3, _ => exact hx
    | 4, _ => exact hx
    | k + 5, _ => exact hx
theorem ML.seg {k : Nat} (hk : k < 6) {s' : Sgm.St} {F' : List Nat} (h : ML w0 c a pg sg n M W) (hs : SM W' (a.g k) s' F') (v : Moves (a.Fs k) F' W W') : ML w0 c (a.seg k F') pg (updS sg k s') n M W' ∧ OffD W W' := by
  refine ⟨⟨h.mx.seg hk hs v, fun i hi x hx => ?_, h.bel.trans (v.keep.below (fun x hx => h.lo (k + 5) (by omega) x hx) h.bel.size), h.tab⟩, h.offG v.keep (i := k + 5) (by omega) (fun x hx => hx)⟩
  match i, hi with
  | 0, hi => exact h.lo 0 hi x hx
  | 1, hi => exact h.lo 1 hi x hx
  | 2, hi => exact h.lo 2 hi x hx
  | 3, hi => exact h.lo 3 hi x hx
  | 4, hi => exact h.lo 4 hi x hx
  | q + 5, hi =>
    have hx2 : x ∈ (if q = k then F' else a.Fs q) := hx
    by_cases e : q = k
    · rw [if_pos e] at hx2
      subst e
      rcases v.foot x hx2 with h1 | h1
      · exact h.lo (q + 5) hi x h1
      · exact Nat.le_trans h.bel.size h1
    · rw [if_neg e] at hx2
      exact h.lo (q + 5) hi x hx2
/-! ### The parts' calls -/
theorem take_p (h : ML w0 c a pg sg n M W) (hg : Slb.Good pg) {cl : Nat} (hcl : cl < 6) : Calls Tryd.prog 37 #[.pointer (some ⟨a.f, 0, none⟩), .int .i64 (cl : Int)] W fun e W' => e = .returned (.tuple #[.int .i64 (tkC cl pg : Int), .int .i64 (tkE cl pg)]) ∧ ML w0 c a (tkL cl pg) sg n M W' ∧ OffD W W' := by
  refine (Slb.take_l (h.sl hg) cl hcl).mono ?_
  rintro e W' ⟨rfl, s', k⟩
  exact ⟨rfl, h.slab s'.inn k⟩
theorem free_p (h : ML w0 c a pg sg n M W) (hg : Slb.Good pg) {i : Int} (hi : i ≤ 9223372036854775807) : Calls Tryd.prog 62 #[.pointer (some ⟨a.f, 0, none⟩), .int .i64 i] W fun e W' => e = .returned (.int .i64 (frE pg i)) ∧ ML w0 c a (frL pg i) sg n M W' ∧ OffD W W' := by
  refine (Slb.free_l (h.sl hg) i hi).mono ?_
  rintro e W' ⟨rfl, s', k⟩
  exact ⟨rfl, h.slab s'.inn k⟩
theorem of_p (h : ML w0 c a pg sg n M W) (hg : Slb.Good pg) {i : Int} (hi : i ≤ 9223372036854775807) : Calls Tryd.prog 51 #[.pointer (some ⟨a.f, 0, none⟩), .int .i64 i] W fun e W' => e = .returned (.int .i64 (ofI pg i)) ∧ Below W.heap.size W W' := by
  refine (Slb.of_l (h.sl hg) i hi).mono ?_
  rintro e W' ⟨rfl, s', k⟩
  exact ⟨rfl, k⟩
theorem tset_p (h : ML w0 c a pg sg n M W) {key : List UInt8} (hk : key.length ≤ 281474976710656) (v : Int) (hc : a.tb.all.length ≤ 100000) : Calls Tryd.prog 24 #[.pointer (some ⟨a.t, 0, none⟩), .string (txt key), .int .i64 v] W fun e W' => e = .returned (.bool (a.tb.isNew hsh key)) ∧ ∃ F', ML w0 c (a.tab (a.tb.setT hsh key v) F') pg sg n M W' ∧ OffD W W' := by
  refine (Tbl.set_any h.mx.tm key hk v hc).mono ?_
  rintro e W' ⟨rfl, F', T', m⟩
  exact ⟨rfl, F', h.table T' m⟩
theorem tdel_p (h : ML w0 c a pg sg n M W) {key : List UInt8} (hk : key.length ≤ 281474976710656) (hc : a.tb.all.length ≤ 100000) : Calls Tryd.prog 63 #[.pointer (some ⟨a.t, 0, none⟩), .string (txt key)] W fun e W' => e = .returned (.bool (fnd key a.tb.all).isSome) ∧ ∃ F', ML w0 c (a.tab (a.tb.delT hsh key) F') pg sg n M W' ∧ OffD W W' := by
  refine (Tbl.delete_any h.mx.tm key (by unfold maxLen; omega) hc).mono ?_
  rintro e W' ⟨rfl, F', T', m⟩
  exact ⟨rfl, F', h.table T' m⟩
theorem tget_p (h : ML w0 c a pg sg n M W) {key : List UInt8} (hk : key.length ≤ 281474976710656) : Calls Tryd.prog 26 #[.pointer (some ⟨a.t, 0, none⟩), .string (txt key)] W fun e W' => e = .returned (.tuple #[.int .i64 ((fnd key a.tb.all).getD 0), .bool (fnd key a.tb.all).isSome]) ∧ ∃ q, W' = W.drewN q :=
  Tbl.get_tm h.mx.tm key (by unfold maxLen; omega)
theorem sadd_p {k : Nat} (hk : k < 6) (h : ML w0 c a pg sg n M W) {i : Int} (hi : I64 i) (hn : (sg k).all.length < 100000) : Calls Tryd.prog 25 #[.pointer (some ⟨a.g k, 0, none⟩), .int .i64 i] W fun e W' => e = .returned (.bool (!(sg k).has i)) ∧ ∃ F', ML w0 c (a.seg k F') pg (updS sg k (addS i (sg k))) n M W' ∧ OffD W W' := by
  refine (Sgg.add_m (h.mx.sgs k hk) hi hn).mono ?_
  rintro e W' ⟨rfl, F', T', m⟩
  exact ⟨rfl, F', h.seg hk T' m⟩
theorem stch_p {k : Nat} (hk : k < 6) (h : ML w0 c a pg sg n M W) {i : Int} (hi : I64 i) : Calls Tryd.prog 29 #[.pointer (some ⟨a.g k, 0, none⟩), .int .i64 i] W fun e W' => e = .returned (.bool ((sg k).has i)) ∧ ∃ F', ML w0 c (a.seg k F') pg (updS sg k (tchS i (sg k))) n M W' ∧ OffD W W' := by
  refine (Sgg.touch_m (h.mx.sgs k hk) hi).mono ?_
  rintro e W' ⟨rfl, F', T', m⟩
  exact ⟨rfl, F', h.seg hk T' m⟩
theorem srmv_p {k : Nat} (hk : k < 6) (h : ML w0 c a pg sg n M W) {i : Int} (hi : I64 i) (hn : (sg k).all.length ≤ 100000) : Calls Tryd.prog 50 #[.pointer (some ⟨a.g k, 0, none⟩), .int .i64 i] W fun e W' => e = .returned (.bool ((sg k).has i)) ∧ ∃ F', ML w0 c (a.seg k F') pg (updS sg k (rmvS i (sg k))) n M W' ∧ OffD W W' := by
  refine (Sgg.remove_m (h.mx.sgs k hk) hi hn).mono ?_
  rintro e W' ⟨rfl, F', T', m⟩
  exact ⟨rfl, F', h.seg hk T' m⟩
theorem sevi_p {k : Nat} (hk : k < 6) (h : ML w0 c a pg sg n M W) (hn : (sg k).all.length ≤ 100000) : Calls Tryd.prog 39 #[.pointer (some ⟨a.g k, 0, none⟩)] W fun e W' => e = .returned (.tuple #[.int .i64 ((evi (sg k)).getD 0), .bool (evi (sg k)).isSome]) ∧ ∃ F', ML w0 c (a.seg k F') pg (updS sg k (eviS (sg k))) n M W' ∧ OffD W W' := by
  refine (Sgg.evict_m (h.mx.sgs k hk) hn).mono ?_
  rintro e W' ⟨rfl, F', T', m⟩
  exact ⟨rfl, F', h.seg hk T' m⟩
theorem slen_p {k : Nat} (hk : k < 6) (h : ML w0 c a pg sg n M W) : Calls Tryd.prog 59 #[.pointer (some ⟨a.g k, 0, none⟩)] W fun e W' => e = .returned (.int .i64 ((sg k).all.length : Int)) ∧ W' = W := Sgg.len_m (h.mx.sgs k hk)
end
/-! ### The cache itself -/
theorem nd_len : ∀ {l m : List Int}, l.Nodup → (∀ x ∈ l, x ∈ m) → l.length ≤ m.length
  | [], m, _, _ => Nat.zero_le _
  | x :: l, m, hn, hs => by
    rw [List.nodup_cons] at hn
    have h1 := hs x (by simp)
    have h2 := nd_len (l := l) (m := m.erase x) hn.2 (fun y hy => by
      have hne : y ≠ x := fun e => hn.1 (by rw [← e]; exact hy)
      exact (List.mem_erase_of_ne hne).2 (hs y (List.mem_cons_of_mem _ hy)))
    rw [List.length_erase_of_mem h1] at h2
    have : 0 < m.length := List.length_pos_of_mem h1
    simp only [List.length_cons]
    omega
structure DL (w0 : World) (c : Nat) (d : Dm) (W : World) : Prop where
  ml : ∃ a, ML w0 c a d.pg d.sg d.it.length (fun i => lok i d.it) W ∧ (∀ k, fnd k a.tb.all = kfd k d.it) ∧ a.tb.all.length = d.it.length
  iv : Iv d
section
variable {w0 W W' : World} {c : Nat} {d : Dm}
theorem DL.on (h : DL w0 c d W) (b : Below W.heap.size W W') : DL w0 c d W' := by
  obtain ⟨a, m, t1, t2⟩ := h.ml
  exact ⟨⟨a, m.on b, t1, t2⟩, h.iv⟩
theorem DL.drewN (h : DL w0 c d W) (q : Nat) : DL w0 c d (W.drewN q) := h.on (below_drewN' (Below.refl _ W) q)
theorem DL.beside (h : DL w0 c d W) {G : List Nat} (k : Keep G W W') (hG : ∀ x ∈ G, w0.heap.size ≤ x ∧ ∃ q t, W.heap[x]? = some (.cells q t (0, 0)) ∧ ours t = false) : DL w0 c d W' := by
  obtain ⟨a, m, t1, t2⟩ := h.ml
  exact ⟨⟨a, m.beside k hG, t1, t2⟩, h.iv⟩
theorem DL.bel (h : DL w0 c d W) : Below w0.heap.size w0 W := by
  obtain ⟨a, m, t1, t2⟩ := h.ml
  exact m.bel
theorem DL.few (h : DL w0 c d W) : d.it.length ≤ 65536 := by
  have h1 := h.iv.nd
  have h2 : ∀ i ∈ nums d.it, ∃ n : Nat, n < 65536 ∧ i = (n : Int) := fun i hi => by
    obtain ⟨n, h1, _, h3⟩ := h.iv.num hi
    exact ⟨n, h3, h1⟩
  have h3 : (nums d.it).length ≤ ((List.range 65536).map (fun n : Nat => (n : Int))).length := by
    refine nd_len h1 (fun i hi => ?_)
    obtain ⟨n, h4, rfl⟩ := h2 i hi
    exact List.mem_map.2 ⟨n, List.mem_range.2 h4, rfl⟩
  simpa [nums] using h3
theorem DL.sgl (h : DL w0 c d W) {k : Nat} (hk : k < 6) : (d.sg k).all.length ≤ 65536 := by
  have h1 := h.iv.snd k hk
  have h3 : (ids (d.sg k).all).length ≤ (nums d.it).length := nd_len h1 (fun i hi => ((h.iv.seg k hk i).1 hi).1)
  have := h.few
  have e1 : (ids (d.sg k).all).length = (d.sg k).all.length := by simp [ids]
  have e2 : (nums d.it).length = d.it.length := by simp [nums]
  omega
end
end Go.Proofs.YtdkiegkgnimapabDoor
