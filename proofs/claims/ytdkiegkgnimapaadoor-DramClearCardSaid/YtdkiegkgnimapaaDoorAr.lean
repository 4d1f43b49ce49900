/- Items and calls, as they come in. -/
import Derived.Test.YtdkiegkgnimapaaDoorAw
import Derived.ChangeSlices
import Derived.ChangeMaps
import Derived.Deep.Slices
import Derived.SizedLaws
set_option linter.unusedVariables false
set_option linter.unusedSimpArgs false
set_option maxRecDepth 8000
namespace Go.Proofs.YtdkiegkgnimapaaDoor
open Go.RowKit Go.Deep Drm Go.ChangeShapes Go.WideShapes
open Tbl (txt)

/-- What is known of any item. -/
def Drm.It.raw (x : It) : Prop := x.k.length ≤ 140737488351232 ∧ x.v.length ≤ 140737488351232 ∧ (0 ≤ x.fl ∧ x.fl ≤ 4294967295) ∧ (-9223372036854775808 ≤ x.ex ∧ x.ex ≤ 9223372036854775807) ∧ (0 ≤ x.ve ∧ x.ve ≤ 18446744073709551615)
theorem cells33 : Tryd.prog.cellsOf 33 = 5 := by kernel_rfl
theorem cells40 : Tryd.prog.cellsOf 40 = 9 := by kernel_rfl
theorem cells9 : Tryd.prog.cellsOf 9 = 1 := by kernel_rfl
theorem cells30 : Tryd.prog.cellsOf 30 = 1 := by kernel_rfl
theorem cells2 : Tryd.prog.cellsOf 2 = 1 := by kernel_rfl
theorem cells31 : Tryd.prog.cellsOf 31 = 1 := by kernel_rfl
theorem cells3 : Tryd.prog.cellsOf 3 = 1 := by kernel_rfl
theorem cells4 : Tryd.prog.cellsOf 4 = 1 := by kernel_rfl
theorem wf_i64 {z : Int} (h : (Lit.int .i64 z).wf = true) : -9223372036854775808 ≤ z ∧ z ≤ 9223372036854775807 := by
  have h1 : IntKind.i64.min = -9223372036854775808 := rfl
  have h2 : IntKind.i64.max = 9223372036854775807 := rfl
  simp [Lit.wf, h1, h2] at h
  exact h
theorem wf_u32 {z : Int} (h : (Lit.int .u32 z).wf = true) : 0 ≤ z ∧ z ≤ 4294967295 := by
  have h1 : IntKind.u32.min = 0 := rfl
  have h2 : IntKind.u32.max = 4294967295 := rfl
  simp [Lit.wf, h1, h2] at h
  omega
theorem wf_u64 {z : Int} (h : (Lit.int .u64 z).wf = true) : 0 ≤ z ∧ z ≤ 18446744073709551615 := by
  have h1 : IntKind.u64.min = 0 := rfl
  have h2 : IntKind.u64.max = 18446744073709551615 := rfl
  simp [Lit.wf, h1, h2] at h
  omega
theorem weights_all {H : Type} {P : Program} {e : TypeId} : ∀ {ds : List (DataW H)} {d : DataW H}, d ∈ ds → ∀ n ∈ d.weights P e, n ∈ DataW.weightsAll P e ds
  | d' :: r, d, hd, n, hn => by
    simp only [DataW.weightsAll, List.mem_append]
    rcases List.mem_cons.1 hd with rfl | hd
    · exact .inl hn
    · exact .inr (weights_all hd n hn)
theorem len_data (s : ByteArray) : s.data.toList.length = s.size := by rw [Array.length_toList]; rfl
set_option maxHeartbeats 1000000 in
theorem item_open {H : Type} {enc : TypeId × Value → H} {W : World} {fuel : Nat} {cs : List Value} {x : DataW H × List MemPlace} (h : DataW.trod enc Tryd.prog W 0 (fun _ => true) true fuel 33 cs = some x) (hw : ∀ n ∈ x.1.weights Tryd.prog 33, n ≤ reachBytes) (hl : cs.length = 5) :
    ∃ t : It, t.raw ∧ cs = itL t := by
  obtain ⟨xs, k, hk, hxy, _, hxl, hf⟩ := DataW.trod_struct Tryd.underlying33 h
  match xs, hxl, cs, hl with
  | [y0, y1, y2, y3, y4], _, [v0, v1, v2, v3, v4], _ =>
    have g0 := hf 0 _ rfl
    have g1 := hf 1 _ rfl
    have g2 := hf 2 _ rfl
    have g3 := hf 3 _ rfl
    have g4 := hf 4 _ rfl
    simp at g0 g1 g2 g3 g4
    simp only [cells9, cells30, cells2, cells31] at g0 g1 g2 g3 g4
    simp only [List.take_succ_cons, List.take_zero] at g0 g1 g2 g3 g4
    obtain ⟨s0, hv0, hd0, _⟩ := DataW.trod_string Tryd.underlying9 g0
    obtain ⟨s1, hv1, hd1, _⟩ := DataW.trod_string Tryd.underlying9 g1
    obtain ⟨n2, hv2, _, w2⟩ := DataW.trod_int Tryd.underlying30 g2
    obtain ⟨n3, hv3, _, w3⟩ := DataW.trod_int Tryd.underlying2 g3
    obtain ⟨n4, hv4, _, w4⟩ := DataW.trod_int Tryd.underlying31 g4
    have er : reachBytes = 140737488351232 := by decide
    have l0 := hw s0.data.toList.length (by
      rw [hxy]
      simp only [DataW.weights, Tryd.underlying33]
      simp [DataW.weightsEach, hd0, DataW.weights])
    have l1 := hw s1.data.toList.length (by
      rw [hxy]
      simp only [DataW.weights, Tryd.underlying33]
      simp [DataW.weightsEach, hd1, DataW.weights])
    rw [er] at l0 l1
    simp only [List.cons.injEq, and_true] at hv0 hv1 hv2 hv3 hv4
    subst hv0 hv1 hv2 hv3 hv4
    exact ⟨⟨s0.data.toList, s1.data.toList, n2, n3, n4⟩, ⟨l0, l1, wf_u32 w2, wf_i64 w3, wf_u64 w4⟩, by simp only [itL, txt_of]⟩
/-- The same for a parameter. -/
theorem item_param {H : Type} {enc : TypeId × Value → H} {W : World} {fuel : Nat} {cs : Array Value} {x : DataW H × List MemPlace} (h : DataW.trod enc Tryd.prog W 0 (fun _ => true) true fuel 33 (Value.agg cs).cells.toList = some x) (hw : ∀ n ∈ x.1.weights Tryd.prog 33, n ≤ reachBytes) (hl : cs.size = Tryd.prog.cellsOf 33) :
    ∃ t : It, t.raw ∧ cs = (itL t).toArray := by
  obtain ⟨t, h1, h2⟩ := item_open (cs := cs.toList) h hw (by rw [Array.length_toList, hl, cells33])
  exact ⟨t, h1, by rw [← h2, Array.toArray_toList]⟩
structure OneIt (w : World) (b o : Nat) (x : It) : Prop where
  c0 : w.cell? ⟨b, o, none⟩ = some (.string (txt x.k))
  c1 : w.cell? ⟨b, o + 1, none⟩ = some (.string (txt x.v))
  c2 : w.cell? ⟨b, o + 2, none⟩ = some (.int .u32 x.fl)
  c3 : w.cell? ⟨b, o + 3, none⟩ = some (.int .i64 x.ex)
  c4 : w.cell? ⟨b, o + 4, none⟩ = some (.int .u64 x.ve)
theorem OneIt.below {w w' : World} {b o : Nat} {x : It} {B : Nat} (h : OneIt w b o x) (k : Below B w w') (hb : b < B) : OneIt w' b o x :=
  ⟨(k.cell (p := ⟨b, o, none⟩) hb).trans h.c0, (k.cell (p := ⟨b, o + 1, none⟩) hb).trans h.c1, (k.cell (p := ⟨b, o + 2, none⟩) hb).trans h.c2, (k.cell (p := ⟨b, o + 3, none⟩) hb).trans h.c3, (k.cell (p := ⟨b, o + 4, none⟩) hb).trans h.c4⟩
/-- A slice of items. -/
structure ItsAt (w : World) (a : Option Addr) (len : Nat) (xs : List It) : Prop where
  len : len = xs.length
  fits : ∀ x ∈ xs, x.raw
  cell : ∀ i x, xs[i]? = some x → ∃ b o, a = some ⟨b, o, none⟩ ∧ b < w.heap.size ∧ OneIt w b (o + i * 5) x
theorem choose_lt {α : Type} (dflt : α) {n : Nat} {p : Nat → α → Prop} (h : ∀ i, i < n → ∃ t, p i t) : ∃ T : Nat → α, ∀ i, i < n → p i (T i) :=
  ⟨fun i => if hi : i < n then Classical.choose (h i hi) else dflt, fun i hi => by simp only [hi, dif_pos]; exact Classical.choose_spec (h i hi)⟩
set_option maxHeartbeats 400000 in
theorem its_open {H : Type} {enc : TypeId × Value → H} {W : World} {fuel : Nat} {a0 : Option Addr} {len0 cap0 : Nat} {x : DataW H × List MemPlace} (h : DataW.trod enc Tryd.prog W 0 (fun _ => true) true fuel 47 [.slice a0 len0 cap0] = some x)
    (hw : ∀ n ∈ x.1.weights Tryd.prog 47, n ≤ reachBytes) : ∃ xs, ItsAt W a0 len0 xs := by
  rcases open_slice Tryd.underlying47 h with ⟨hcs, _⟩ | ⟨a, len, cap, m, n, D, Pl, hcs, _, hl, hm, hmm, hx, hel⟩
  · simp at hcs
    obtain ⟨rfl, rfl, rfl⟩ := hcs
    exact ⟨[], rfl, fun x hx => by simp at hx, fun i x hx => by simp at hx⟩
  · simp only [List.cons.injEq, Value.slice.injEq, and_true] at hcs
    obtain ⟨rfl, rfl, rfl⟩ := hcs
    have hmc : m = cap0 := by simpa using hmm
    by_cases h0 : len0 = 0
    · subst h0; exact ⟨[], rfl, fun x hx => by simp at hx, fun i x hx => by simp at hx⟩
    have hspot : a.spot = none := by
      obtain ⟨cs', h1, h2⟩ := hel 0 (by omega)
      rw [cells33] at h1
      obtain ⟨_, hlen, hcell⟩ := World.cells?_some h1
      match cs', hlen with
      | v0 :: r, _ =>
        have e0 := hcell 0 (by omega)
        have := World.cell?_spot (v := v0) (by simpa using e0)
        simpa [Addr.add] using this
    obtain ⟨b, off, sp⟩ := a
    simp only at hspot
    subst hspot
    have each : ∀ i, i < len0 → ∃ t : It, t.raw ∧ OneIt W b (off + i * 5) t := by
      intro i hi
      obtain ⟨cs', h1, h2⟩ := hel i (by omega)
      rw [cells33] at h1
      obtain ⟨_, hlen, hcell⟩ := World.cells?_some h1
      have hwi : ∀ k ∈ (D i).weights Tryd.prog 33, k ≤ reachBytes := fun k hk => by
        refine hw k ?_
        rw [hx]
        simp only [DataW.weights, Tryd.underlying47, List.mem_cons, List.mem_append]
        refine .inr (.inl (weights_all (d := D i) ?_ k hk))
        exact List.mem_map.2 ⟨i, List.mem_range.2 hi, rfl⟩
      obtain ⟨t, ht, rfl⟩ := item_open h2 hwi hlen
      have key : ∀ j v, j < 5 → (itL t)[j]? = some v → W.cell? ⟨b, off + i * 5 + j, none⟩ = some v := fun j v hj hv => by
        have e := hcell j (by omega)
        rw [hv] at e
        rw [Addr.add_lit, Addr.add_lit] at e
        exact e
      exact ⟨t, ht, key 0 _ (by omega) rfl, key 1 _ (by omega) rfl, key 2 _ (by omega) rfl, key 3 _ (by omega) rfl, key 4 _ (by omega) rfl⟩
    obtain ⟨T, hT⟩ := choose_lt zIt each
    refine ⟨(List.range len0).map T, by simp, fun x hx => ?_, fun i t ht => ⟨b, off, rfl, ?_, ?_⟩⟩
    · obtain ⟨i, hi, rfl⟩ := List.mem_map.1 hx
      exact (hT i (List.mem_range.1 hi)).1
    · exact block_lt_of_cell (a := ⟨b, off + 0 * 5, none⟩) (hT 0 (by omega)).2.c0
    · have hi : i < len0 := by have := (List.getElem?_eq_some_iff.1 ht).1; simpa using this
      have : t = T i := by
        rw [List.getElem?_map, List.getElem?_range hi] at ht
        simpa using ht.symm
      rw [this]
      exact (hT i hi).2
/-- The i-th item, read in any later world. -/
theorem ItsAt.at {w : World} {a : Option Addr} {len : Nat} {xs : List It} (h : ItsAt w a len xs) {W : World} (k : Below w.heap.size w W) (i : Nat) (hi : i < len) :
    ∃ b o x, a = some ⟨b, o, none⟩ ∧ xs[i]? = some x ∧ x.raw ∧ OneIt W b (o + i * 5) x := by
  have hx := List.getElem?_eq_getElem (l := xs) (i := i) (by rw [← h.len]; exact hi)
  obtain ⟨b, o, ha, hb, hc⟩ := h.cell i _ hx
  exact ⟨b, o, _, ha, hx, h.fits _ (List.getElem_mem _), hc.below k hb⟩
/-! ### Calls -/
structure ActI where
  op : Int
  x : It
  cl : Bool
  key : List UInt8
  now : Int
def ActI.fits (t : ActI) : Prop := (-9223372036854775808 ≤ t.op ∧ t.op ≤ 9223372036854775807) ∧ t.x.raw ∧ t.key.length ≤ 140737488351232 ∧ (-9223372036854775808 ≤ t.now ∧ t.now ≤ 9223372036854775807)
def actL (t : ActI) : List Value := [.int .i64 t.op, .string (txt t.x.k), .string (txt t.x.v), .int .u32 t.x.fl, .int .i64 t.x.ex, .int .u64 t.x.ve, .bool t.cl, .string (txt t.key), .int .i64 t.now]
set_option maxHeartbeats 2000000 in
theorem act_open {H : Type} {enc : TypeId × Value → H} {W : World} {fuel : Nat} {cs : List Value} {x : DataW H × List MemPlace} (h : DataW.trod enc Tryd.prog W 0 (fun _ => true) true fuel 40 cs = some x) (hw : ∀ n ∈ x.1.weights Tryd.prog 40, n ≤ reachBytes) (hl : cs.length = 9) :
    ∃ t : ActI, t.fits ∧ cs = actL t := by
  obtain ⟨xs, k, hk, hxy, _, hxl, hf⟩ := DataW.trod_struct Tryd.underlying40 h
  match xs, hxl, cs, hl with
  | [y0, y1, y2, y3, y4], _, [v0, v1, v2, v3, v4, v5, v6, v7, v8], _ =>
    have g0 := hf 0 _ rfl
    have g1 := hf 1 _ rfl
    have g2 := hf 2 _ rfl
    have g3 := hf 3 _ rfl
    have g4 := hf 4 _ rfl
    simp at g0 g1 g2 g3 g4
    simp only [cells9, cells3, cells2, cells4, cells33] at g0 g1 g2 g3 g4
    simp only [List.take_succ_cons, List.take_zero] at g0 g1 g2 g3 g4
    obtain ⟨n0, hv0, _, w0⟩ := DataW.trod_int Tryd.underlying3 g0
    obtain ⟨t, ht, he⟩ := item_open g1 (fun n hn => hw n (by
      rw [hxy]
      simp only [DataW.weights, Tryd.underlying40]
      simp [DataW.weightsEach, hn])) rfl
    obtain ⟨n2, hv2, _⟩ := DataW.trod_bool Tryd.underlying4 g2
    obtain ⟨s3, hv3, hd3, _⟩ := DataW.trod_string Tryd.underlying9 g3
    obtain ⟨n4, hv4, _, w4⟩ := DataW.trod_int Tryd.underlying2 g4
    have er : reachBytes = 140737488351232 := by decide
    have l3 := hw s3.data.toList.length (by
      rw [hxy]
      simp only [DataW.weights, Tryd.underlying40]
      simp [DataW.weightsEach, hd3, DataW.weights])
    rw [er] at l3
    simp only [itL, List.cons.injEq, and_true] at hv0 he hv2 hv3 hv4
    obtain ⟨e1, e2, e3, e4, e5⟩ := he
    subst hv0 e1 e2 e3 e4 e5 hv2 hv3 hv4
    exact ⟨⟨n0, t, n2, s3.data.toList, n4⟩, ⟨wf_i64 w0, ht, l3, wf_i64 w4⟩, by simp only [actL, txt_of]⟩
structure OneAct (w : World) (b o : Nat) (t : ActI) : Prop where
  c0 : w.cell? ⟨b, o, none⟩ = some (.int .i64 t.op)
  c1 : w.cell? ⟨b, o + 1, none⟩ = some (.string (txt t.x.k))
  c2 : w.cell? ⟨b, o + 2, none⟩ = some (.string (txt t.x.v))
  c3 : w.cell? ⟨b, o + 3, none⟩ = some (.int .u32 t.x.fl)
  c4 : w.cell? ⟨b, o + 4, none⟩ = some (.int .i64 t.x.ex)
  c5 : w.cell? ⟨b, o + 5, none⟩ = some (.int .u64 t.x.ve)
  c6 : w.cell? ⟨b, o + 6, none⟩ = some (.bool t.cl)
  c7 : w.cell? ⟨b, o + 7, none⟩ = some (.string (txt t.key))
  c8 : w.cell? ⟨b, o + 8, none⟩ = some (.int .i64 t.now)
theorem OneAct.below {w w' : World} {b o : Nat} {x : ActI} {B : Nat} (h : OneAct w b o x) (k : Below B w w') (hb : b < B) : OneAct w' b o x :=
  ⟨(k.cell (p := ⟨b, o, none⟩) hb).trans h.c0, (k.cell (p := ⟨b, o + 1, none⟩) hb).trans h.c1, (k.cell (p := ⟨b, o + 2, none⟩) hb).trans h.c2, (k.cell (p := ⟨b, o + 3, none⟩) hb).trans h.c3, (k.cell (p := ⟨b, o + 4, none⟩) hb).trans h.c4, (k.cell (p := ⟨b, o + 5, none⟩) hb).trans h.c5, (k.cell (p := ⟨b, o + 6, none⟩) hb).trans h.c6, (k.cell (p := ⟨b, o + 7, none⟩) hb).trans h.c7, (k.cell (p := ⟨b, o + 8, none⟩) hb).trans h.c8⟩
/-- A slice of calls. -/
structure ActsAt (w : World) (a : Option Addr) (len : Nat) (xs : List ActI) : Prop where
  len : len = xs.length
  fits : ∀ x ∈ xs, x.fits
  cell : ∀ i x, xs[i]? = some x → ∃ b o, a = some ⟨b, o, none⟩ ∧ b < w.heap.size ∧ OneAct w b (o + i * 9) x
set_option maxHeartbeats 400000 in
theorem acts_open {H : Type} {enc : TypeId × Value → H} {W : World} {fuel : Nat} {a0 : Option Addr} {len0 cap0 : Nat} {x : DataW H × List MemPlace} (h : DataW.trod enc Tryd.prog W 0 (fun _ => true) true fuel 38 [.slice a0 len0 cap0] = some x)
    (hw : ∀ n ∈ x.1.weights Tryd.prog 38, n ≤ reachBytes) : ∃ xs, ActsAt W a0 len0 xs := by
  rcases open_slice Tryd.underlying38 h with ⟨hcs, _⟩ | ⟨a, len, cap, m, n, D, Pl, hcs, _, hl, hm, hmm, hx, hel⟩
  · simp at hcs
    obtain ⟨rfl, rfl, rfl⟩ := hcs
    exact ⟨[], rfl, fun x hx => by simp at hx, fun i x hx => by simp at hx⟩
  · simp only [List.cons.injEq, Value.slice.injEq, and_true] at hcs
    obtain ⟨rfl, rfl, rfl⟩ := hcs
    have hmc : m = cap0 := by simpa using hmm
    by_cases h0 : len0 = 0
    · subst h0; exact ⟨[], rfl, fun x hx => by simp at hx, fun i x hx => by simp at hx⟩
    have hspot : a.spot = none := by
      obtain ⟨cs', h1, h2⟩ := hel 0 (by omega)
      rw [cells40] at h1
      obtain ⟨_, hlen, hcell⟩ := World.cells?_some h1
      match cs', hlen with
      | v0 :: r, _ =>
        have e0 := hcell 0 (by omega)
        have := World.cell?_spot (v := v0) (by simpa using e0)
        simpa [Addr.add] using this
    obtain ⟨b, off, sp⟩ := a
    simp only at hspot
    subst hspot
    have each : ∀ i, i < len0 → ∃ t : ActI, t.fits ∧ OneAct W b (off + i * 9) t := by
      intro i hi
      obtain ⟨cs', h1, h2⟩ := hel i (by omega)
      rw [cells40] at h1
      obtain ⟨_, hlen, hcell⟩ := World.cells?_some h1
      have hwi : ∀ k ∈ (D i).weights Tryd.prog 40, k ≤ reachBytes := fun k hk => by
        refine hw k ?_
        rw [hx]
        simp only [DataW.weights, Tryd.underlying38, List.mem_cons, List.mem_append]
        refine .inr (.inl (weights_all (d := D i) ?_ k hk))
        exact List.mem_map.2 ⟨i, List.mem_range.2 hi, rfl⟩
      obtain ⟨t, ht, rfl⟩ := act_open h2 hwi hlen
      have key : ∀ j v, j < 9 → (actL t)[j]? = some v → W.cell? ⟨b, off + i * 9 + j, none⟩ = some v := fun j v hj hv => by
        have e := hcell j (by omega)
        rw [hv] at e
        rw [Addr.add_lit, Addr.add_lit] at e
        exact e
      exact ⟨t, ht, key 0 _ (by omega) rfl, key 1 _ (by omega) rfl, key 2 _ (by omega) rfl, key 3 _ (by omega) rfl, key 4 _ (by omega) rfl, key 5 _ (by omega) rfl, key 6 _ (by omega) rfl, key 7 _ (by omega) rfl, key 8 _ (by omega) rfl⟩
    obtain ⟨T, hT⟩ := choose_lt (⟨0, zIt, false, [], 0⟩ : ActI) each
    refine ⟨(List.range len0).map T, by simp, fun x hx => ?_, fun i t ht => ⟨b, off, rfl, ?_, ?_⟩⟩
    · obtain ⟨i, hi, rfl⟩ := List.mem_map.1 hx
      exact (hT i (List.mem_range.1 hi)).1
    · exact block_lt_of_cell (a := ⟨b, off + 0 * 9, none⟩) (hT 0 (by omega)).2.c0
    · have hi : i < len0 := by have := (List.getElem?_eq_some_iff.1 ht).1; simpa using this
      have : t = T i := by
        rw [List.getElem?_map, List.getElem?_range hi] at ht
        simpa using ht.symm
      rw [this]
      exact (hT i hi).2
theorem ActsAt.at {w : World} {a : Option Addr} {len : Nat} {xs : List ActI} (h : ActsAt w a len xs) {W : World} (k : Below w.heap.size w W) (i : Nat) (hi : i < len) :
    ∃ b o x, a = some ⟨b, o, none⟩ ∧ xs[i]? = some x ∧ x.fits ∧ OneAct W b (o + i * 9) x := by
  have hx := List.getElem?_eq_getElem (l := xs) (i := i) (by rw [← h.len]; exact hi)
  obtain ⟨b, o, ha, hb, hc⟩ := h.cell i _ hx
  exact ⟨b, o, _, ha, hx, h.fits _ (List.getElem_mem _), hc.below k hb⟩
end Go.Proofs.YtdkiegkgnimapaaDoor
