/- A journal in memory: 'Room', 'Gone', 'keep', 'Begin'. -/
import Derived.Test.YtghdkicijdfpcaaDev
import Derived.Maps.Own
import Derived.Maps.OwnOps
import Derived.Maps.OwnSet
import Derived.Maps.Views
import Derived.Deep.RegionHeld
set_option linter.unusedVariables false
set_option linter.unusedSimpArgs false
set_option maxRecDepth 8000
namespace Go.Proofs.Ytghdkicijdfpcaa
open Go.RowKit Go.Deep

theorem hide' {p : Prop} (h : p) : Hid p := h
/-- What a journal is. -/
structure Jr where
  losses : Int
  first : Int
  pages : Int
  used : Int
  gen : Nat
  M : Nat → Option Nat
def u64L (k : Nat) : Lit := .int .u64 (k : Int)
def kv (p : Nat × Nat) : Lit × DataW Unit := (u64L p.1, .lit (u64L p.2))
/-- A map of numbers, as the library tells it, and as a function. -/
structure MapIs (D : DataW Unit) (M : Nat → Option Nat) : Prop where
  isMap : Maps.IsMap D
  has : ∀ k, k < 18446744073709551616 → Maps.has D (u64L k) = (M k).isSome
  val : ∀ k, k < 18446744073709551616 → D.atKey (u64L k) (.lit (u64L 0)) = .lit (u64L ((M k).getD 0))
  lt : ∀ k v, M k = some v → k < 18446744073709551616 ∧ v < 18446744073709551616
  list : ∃ L : List (Nat × Nat), D = .map (L.map kv) ∧ (L.map Prod.fst).Nodup ∧ ∀ p, p ∈ L ↔ M p.1 = some p.2
def jrCells (d m : Nat) (J : Jr) : List Value := [.pointer (some ⟨d, 0, none⟩), .int .i64 J.losses, .int .i64 J.first, .int .i64 J.pages, .int .i64 J.used, .int .u64 J.gen, .map (some m)]
structure JrAt (w : World) (j d m n : Nat) (J : Jr) : Prop where
  blk : Blk w j (jrCells d m J) 75
  map : ∃ D : DataW Unit, w.ownsMap Try.prog 30 (plainElem Try.prog 30) m n D ∧ MapIs D J.M
  ne : j ≠ m
theorem keyed30 : Maps.Keyed Try.prog 30 := Maps.int_keyed Try.underlying30
theorem wf_u64' (k : Nat) (h : k < 18446744073709551616) : (u64L k).wf = true := by
  have h1 : IntKind.u64.min = 0 := rfl
  have h2 : IntKind.u64.max = 18446744073709551615 := rfl
  simp [u64L, Lit.wf, h1, h2]
  omega
theorem key30 (k : Nat) (h : k < 18446744073709551616) : keyOf Try.prog 30 (.int .u64 (k : Int)) = some (u64L k) := Maps.keyOf_int_mk Try.underlying30 (wf_u64' k h)
theorem zero30 (w : World) : (zeroValue 30).run Try.prog w = .ok (.int .u64 0) w := by go_simp

set_option maxHeartbeats 400000 in
theorem room_any (j d m n : Nat) (J : Jr) (w : World) (h : JrAt w j d m n J) :
    Calls Try.prog 13 #[.pointer (some ⟨j, 0, none⟩)] w fun e w' => e = .returned (.int .i64 (wrap64 (J.pages - J.used))) ∧ Below w.heap.size w w' := by
  have c3 := h.blk.cell (i := 3) rfl
  have c4 := h.blk.cell (i := 4) rfl
  clear h
  go_enter Try.func13, Try.ntmps13
  go_wp2_with fail
  go_region
  all_goals go_wp2
  all_goals go_ret
  all_goals exact ⟨rfl, (Below.refl _ _).drew⟩

def Jr.gone (J : Jr) (k v : Nat) : Bool := match J.M k with
  | none => false
  | some u => decide (v ≤ u)
set_option maxHeartbeats 400000 in
theorem gone_any' (j d m n : Nat) (J : Jr) (k v : Nat) (hk : k < 18446744073709551616) (w : World) (h : JrAt w j d m n J) :
    Calls Try.prog 22 #[.pointer (some ⟨j, 0, none⟩), .int .u64 k, .int .u64 v] w fun e w' => e = .returned (.bool (J.gone k v)) ∧ w' = w := by
  have c6 := h.blk.cell (i := 6) rfl
  obtain ⟨D, hD, hM⟩ := h.map
  obtain ⟨x, ps, hrun, hx⟩ := hD.look_ok (t := 73) keyed30 Try.underlying73 (zero30 w) (plainElem_int Try.underlying30 (wf_u64' 0 (by decide))) (key30 k hk)
  rw [hM.has k hk] at hrun
  have hv := hM.val k hk
  obtain ⟨a, rfl, ha, _⟩ := plainElem_int_inv Try.underlying30 hx
  have e : a = (((J.M k).getD 0 : Nat) : Int) := by
    have h1 : D.atKey (u64L k) (.lit (.int .u64 0)) = .lit (.int .u64 a) := by simpa using (congrArg Prod.fst ha)
    have h2 : DataW.lit (u64L ((J.M k).getD 0)) = (.lit (.int .u64 a) : DataW Unit) := by rw [← hv]; exact h1
    simp [u64L] at h2
    exact h2.symm
  subst e
  have EG : Hid (J.gone k v = match J.M k with | none => false | some u => decide (v ≤ u)) := rfl
  cases hMk : J.M k with
  | none =>
    rw [hMk] at hrun EG
    simp only [Option.isSome_none, Option.getD_none] at hrun
    clear h hD hM hx ha hv hMk
    go_enter Try.func22, Try.ntmps22
    go_wp2
    go_ret
    exact ⟨by rw [EG.out]; rfl, rfl⟩
  | some u =>
    rw [hMk] at hrun EG
    simp only [Option.isSome_some, Option.getD_some] at hrun
    clear h hD hM hx ha hv hMk
    go_enter Try.func22, Try.ntmps22
    go_wp2
    go_ret
    exact ⟨by rw [EG.out]; simp, rfl⟩

def Jr.keep (J : Jr) (k v : Nat) : Jr := { J with M := fun x => if x = k then some (max ((J.M k).getD 0) v) else J.M x }
theorem u64L_inj {a b : Nat} (h : u64L a = u64L b) : a = b := by
  simp [u64L] at h
  omega
theorem keyLit (k : Nat) : WideAt.IsKeyLit (u64L k) := by simp [u64L, WideAt.IsKeyLit]
theorem same_u64 (a b : Nat) : (u64L a).sameKey (u64L b) = decide (a = b) := by
  by_cases e : a = b
  · subst e; simp [Lit.sameKey, u64L]
  · rw [Maps.sameKey_ne (fun h => e (u64L_inj h))]; simp [e]
theorem insert_kv (x : Nat × Nat) : ∀ l : List (Nat × Nat), ∃ l' : List (Nat × Nat), DataW.insert (kv x) (l.map kv) = l'.map kv ∧ l'.Perm (x :: l)
  | [] => ⟨[x], rfl, List.Perm.refl _⟩
  | y :: r => by
    obtain ⟨l', h1, h2⟩ := insert_kv x r
    rw [List.map_cons]
    unfold DataW.insert
    split
    · exact ⟨x :: y :: r, rfl, List.Perm.refl _⟩
    · refine ⟨y :: l', by rw [h1]; rfl, (h2.cons y).trans (List.Perm.swap x y r)⟩
theorem filter_kv (k : Nat) (l : List (Nat × Nat)) : (l.map kv).filter (ChangeMaps.notKey (u64L k)) = (l.filter fun p => decide (p.1 ≠ k)).map kv := by
  rw [List.filter_map]
  congr 1
  apply List.filter_congr
  intro p _
  show (!(u64L p.1).sameKey (u64L k)) = _
  rw [same_u64]
  by_cases e : p.1 = k <;> simp [e]
theorem MapIs.put {D : DataW Unit} {M : Nat → Option Nat} (h : MapIs D M) (k u : Nat) (hk : k < 18446744073709551616) (hu : u < 18446744073709551616) : MapIs (D.put (u64L k) (.lit (u64L u))) (fun x => if x = k then some u else M x) := by
  refine ⟨?_, fun x hx => ?_, fun x hx => ?_, fun x v hv => ?_, ?_⟩
  · exact h.isMap.put _ _
  · by_cases e : x = k
    · subst e; rw [Maps.has_put_same h.isMap (keyLit x)]; simp
    · rw [Maps.has_put_other (fun e' => e (u64L_inj e'))]; simp [e, h.has x hx]
  · by_cases e : x = k
    · subst e; rw [Maps.atKey_put_same h.isMap (keyLit x)]; simp
    · rw [Maps.atKey_put_other (fun e' => e (u64L_inj e'))]; simp [e, h.val x hx]
  · by_cases e : x = k
    · simp [e] at hv; omega
    · simp [e] at hv; exact h.lt x v hv
  · obtain ⟨L, h1, h2, h3⟩ := h.list
    obtain ⟨L', e1, e2⟩ := insert_kv (k, u) (L.filter fun p => decide (p.1 ≠ k))
    refine ⟨L', ?_, ?_, fun p => ?_⟩
    · rw [h1, DataW.put_eq]
      show DataW.map (DataW.insert (kv (k, u)) _) = _
      rw [filter_kv, e1]
    · have hn : (((k, u) :: L.filter fun p => decide (p.1 ≠ k)).map Prod.fst).Nodup := by
        rw [List.map_cons, List.nodup_cons]
        refine ⟨fun hm => ?_, ?_⟩
        · obtain ⟨q, hq, hq2⟩ := List.mem_map.1 hm
          have := (List.mem_filter.1 hq).2
          simp at this hq2
          exact this hq2
        · exact h2.sublist ((List.filter_sublist).map _)
      exact ((e2.map Prod.fst).nodup_iff).2 hn
    · rw [e2.mem_iff, List.mem_cons, List.mem_filter, h3]
      obtain ⟨a, b⟩ := p
      by_cases e : a = k
      · subst e; simp; constructor <;> (intro e; exact e.symm)
      · simp [e]
theorem MapIs.empty : MapIs (.map []) (fun _ => none) :=
  ⟨⟨[], rfl⟩, fun k _ => rfl, fun k _ => rfl, fun k v h => by simp at h, [], rfl, List.nodup_nil, fun p => by simp⟩

theorem JrAt.same {w w' : World} {j d m n : Nat} {J : Jr} (h : JrAt w j d m n J) (hj : w'.heap[j]? = w.heap[j]?) (hm : w'.heap[m]? = w.heap[m]?) : JrAt w' j d m n J := by
  obtain ⟨D, ⟨es, c, h1, h2⟩, h3⟩ := h.map
  exact ⟨h.blk.same hj, ⟨D, ⟨es, c, hm.trans h1, h2⟩, h3⟩, h.ne⟩
theorem JrAt.mlt {w : World} {j d m n : Nat} {J : Jr} (h : JrAt w j d m n J) : m < w.heap.size := by
  obtain ⟨D, h1, _⟩ := h.map
  exact h1.lt
theorem JrAt.below {w w' : World} {j d m n : Nat} {J : Jr} (h : JrAt w j d m n J) (b : Below w.heap.size w w') : JrAt w' j d m n J := h.same (b.block _ h.blk.lt) (b.block _ h.mlt)
theorem JrAt.keep {w w' : World} {j d m n : Nat} {J : Jr} {F : List Nat} (h : JrAt w j d m n J) (k : Keep F w w') (hj : j ∉ F) (hm : m ∉ F) : JrAt w' j d m n J := h.same (k.block _ h.blk.lt hj) (k.block _ h.mlt hm)
theorem JrAt.mono {w : World} {j d m n n' : Nat} {J : Jr} (h : JrAt w j d m n J) (hn : n ≤ n') : JrAt w j d m n' J := by
  obtain ⟨D, h1, h2⟩ := h.map
  exact ⟨h.blk, ⟨D, h1.mono hn, h2⟩, h.ne⟩

set_option maxHeartbeats 1000000 in
theorem keep_any (j d m n : Nat) (J : Jr) (k v : Nat) (hk : k < 18446744073709551616) (hv : v < 18446744073709551616) (hn : n < 1000000) (w : World) (h : JrAt w j d m n J) :
    Calls Try.prog 34 #[.pointer (some ⟨j, 0, none⟩), .agg #[.int .u64 k, .int .u64 v]] w fun e w' => e = .returned (.tuple #[]) ∧ JrAt w' j d m (n + 1) (J.keep k v) ∧ Keep [m] w w' := by
  have hA := h.below ((Below.refl _ w).alloc (Nat.le_refl _) (.cells #[.int .u64 k, .int .u64 v] 48))
  have hA' : JrAt (w.alloc (.cells #[.int .u64 k, .int .u64 v] 48)).drew j d m n J := hA.same rfl rfl
  have c6 := hA'.blk.cell (i := 6) rfl
  obtain ⟨D, hD, hM⟩ := hA'.map
  obtain ⟨c, hrun, hc, hwf⟩ := hD.lookup_int (t := 73) keyed30 Try.underlying73 Try.underlying30 (zero30 _) (key30 k hk)
  have ec : c = (((J.M k).getD 0 : Nat) : Int) := by
    have h2 := hM.val k hk
    have h1 : D.atKey (u64L k) (.lit (u64L 0)) = .lit (.int .u64 c) := hc
    rw [h2] at h1
    simp [u64L] at h1
    exact h1.symm
  subst ec
  have hlt : max ((J.M k).getD 0) v < 18446744073709551616 := by
    cases hMk : J.M k with
    | none => simp; omega
    | some u => have := (hM.lt k u hMk).2; simp; omega
  obtain ⟨w', hupd, hown, hgrow⟩ := hD.update (t := 73) keyed30 Try.underlying73 (Nat.lt_trans hn (by decide)) (key30 k hk) (plainElem_int Try.underlying30 (wf_u64' (max ((J.M k).getD 0) v) hlt))
  have ei : (if (J.M k).getD 0 < v then (v : Int) else (((J.M k).getD 0 : Nat) : Int)) = ((max ((J.M k).getD 0) v : Nat) : Int) := by split <;> omega
  rw [← ei] at hupd
  have HJ := hide' hA'.blk
  have HW := hide' (show JrAt w' j d m (n + 1) (J.keep k v) from ⟨hA'.blk.same (hgrow.block _ hA'.blk.lt (by intro e; exact h.ne (Option.some.inj e))), ⟨_, hown, hM.put k _ hk hlt⟩, h.ne⟩)
  have HK := hide' (show Keep [m] w w' from (((Keep.refl [m] w).alloc (.cells #[.int .u64 k, .int .u64 v] 48)).drew).grown hgrow (fun x hx => .inl (by cases hx; simp)))
  clear hA hA' h hD hM hc hwf hown hgrow ei hlt
  go_enter Try.func34, Try.ntmps34
  go_wp2_with fail
  go_region
  all_goals go_wp2
  all_goals go_end0
  all_goals exact ⟨rfl, HW.out, HK.out⟩

set_option maxHeartbeats 1000000 in
theorem begin_any (j d m n : Nat) (J : Jr) (g : Nat) (w : World) (h : JrAt w j d m n J) :
    Calls Try.prog 18 #[.pointer (some ⟨j, 0, none⟩), .int .u64 g] w fun e w' => e = .returned (.tuple #[]) ∧ ∃ m', JrAt w' j d m' 0 { J with used := 0, gen := g, M := fun _ => none } ∧ w.heap.size ≤ m' ∧ Keep [j] w w' := by
  have hB := h.blk.alloc (.map #[] 0)
  have f := fun i => hB.frozen i
  have f4 := f 4
  have f5 := f 5
  have f6 := f 6
  have c4 := hB.cell (i := 4) rfl
  have c5 := hB.cell (i := 5) rfl
  have c6 := hB.cell (i := 6) rfl
  have hlt := hB.lt
  have HB := hide' hB
  have HL := hide' h.blk.lt
  clear h hB f
  go_enter Try.func18, Try.ntmps18
  have hmk := run_makeMap (P := Try.prog) 73 w
  go_wp2
  go_end0
  have hne : j ≠ w.heap.size := Nat.ne_of_lt HL.out
  have KK : Keep [j] w ((((w.alloc (.map #[] 0)).setCell ⟨j, 5, none⟩ (.int .u64 g)).setCell ⟨j, 4, none⟩ (.int .i64 0)).setCell ⟨j, 6, none⟩ (.map (some w.heap.size))) :=
    ((((Keep.refl [j] w).alloc _).setCell (.inl (by simp)) _).setCell (.inl (by simp)) _).setCell (.inl (by simp)) _
  refine ⟨rfl, w.heap.size, ⟨((HB.out.set 5 _).set 4 _).set 6 _, ⟨.map [], (((World.ownsMap_made w Try.prog 30 (plainElem Try.prog 30)).setCell (Ne.symm hne) _).setCell (Ne.symm hne) _).setCell (Ne.symm hne) _, MapIs.empty⟩, hne⟩, Nat.le_refl _, KK⟩
end Go.Proofs.Ytghdkicijdfpcaa
