/- A row of 'Put's as it comes in. -/
import Derived.Test.YtcdefadeaiklbaaCut
set_option linter.unusedVariables false
set_option linter.unusedSimpArgs false
set_option maxRecDepth 8000
namespace Go.Proofs.Ytcdefadeaiklbaa
open Go.RowKit Go.Deep Go.ChangeShapes Go.WideShapes Math

structure PutI where
  arm : Int
  b : Bk
  a : Option Addr
  n : Nat
  cap : Nat
  pk : List UInt8
  crash : Bool
def putL (t : PutI) : List Value := [.int .i64 t.arm] ++ bkL t.b ++ [.slice t.a t.n t.cap, .bool t.crash]
structure PutI.ok (W : World) (t : PutI) : Prop where
  arm : t.arm ≤ 9223372036854775807
  fits : t.b.fits
  bs : BS W t.a t.n t.cap t.pk
  nil : t.a = none → t.pk = []
  len : t.n ≤ 140737488351232
theorem cells46 : Try.prog.cellsOf 46 = 10 := by kernel_rfl
theorem cells34 : Try.prog.cellsOf 34 = 1 := by kernel_rfl
theorem slice_of {H : Type} {enc : TypeId × Value → H} {W : World} {fuel : Nat} {cs : List Value} {x : DataW H × List MemPlace} (h : DataW.trod enc Try.prog W 0 (fun _ => true) true fuel 34 cs = some x) : ∃ a n c, cs = [.slice a n c] := by
  rcases open_ints Try.underlying34 Try.underlying5 cells5 h with ⟨rfl, _⟩ | ⟨a, len, cap, zs, rfl, _⟩
  · exact ⟨none, 0, 0, rfl⟩
  · exact ⟨_, _, _, rfl⟩
theorem weights_all {H : Type} {P : Program} {e : TypeId} : ∀ {ds : List (DataW H)} {d : DataW H}, d ∈ ds → ∀ n ∈ d.weights P e, n ∈ DataW.weightsAll P e ds
  | d0 :: r, d, hd, n, hn => by
    simp only [DataW.weightsAll, List.mem_append]
    rcases List.mem_cons.1 hd with rfl | hd
    · exact .inl hn
    · exact .inr (weights_all hd n hn)
theorem put_open {H : Type} {enc : TypeId × Value → H} {W : World} {fuel : Nat} {cs : List Value} {x : DataW H × List MemPlace} (h : DataW.trod enc Try.prog W 0 (fun _ => true) true fuel 46 cs = some x) (hl : cs.length = 10)
    (hw : ∀ n ∈ x.1.weights Try.prog 46, n ≤ reachBytes) : ∃ t : PutI, t.ok W ∧ cs = putL t := by
  obtain ⟨xs, k, hk, hxy, _, hxl, hf⟩ := DataW.trod_struct Try.underlying46 h
  match xs, hxl, cs, hl with
  | [y0, y1, y2, y3], _, [v0, v1, v2, v3, v4, v5, v6, v7, v8, v9], _ =>
    have g0 := hf 0 _ rfl
    have g1 := hf 1 _ rfl
    have g2 := hf 2 _ rfl
    have g3 := hf 3 _ rfl
    simp at g0 g1 g2 g3
    simp only [cells3, cells29, cells34, cells4] at g0 g1 g2 g3
    simp only [List.take_succ_cons, List.take_zero, List.drop_succ_cons, List.drop_zero] at g0 g1 g2 g3
    obtain ⟨n0, hv0, _, w0⟩ := DataW.trod_int Try.underlying3 g0
    obtain ⟨b, hbf, hv1⟩ := bk_open g1 rfl
    obtain ⟨a, n, c, hv2⟩ := slice_of g2
    rw [hv2] at g2
    obtain ⟨l, hb1, hb2, hb3⟩ := bytes_open g2 (fun k hk => by
      refine hw k ?_
      rw [hxy]
      simp only [DataW.weights, Try.underlying46]
      simp [DataW.weightsEach, hk])
    obtain ⟨n3, hv3, _⟩ := DataW.trod_bool Try.underlying4 g3
    simp only [List.cons.injEq, and_true] at hv0 hv2 hv3
    subst hv0 hv2 hv3
    refine ⟨⟨n0, b, a, n, c, l, n3⟩, ⟨(wf_i64 w0).2, hbf, hb1, hb2, hb3⟩, ?_⟩
    show _ = [Value.int .i64 n0] ++ bkL b ++ [.slice a n c, .bool n3]
    rw [← hv1]
    rfl
/-- A slice of them. -/
structure PutsAt (w : World) (a : Option Addr) (len : Nat) (xs : List PutI) : Prop where
  len : len = xs.length
  ok : ∀ x ∈ xs, x.ok w
  cell : ∀ i x, xs[i]? = some x → ∃ b o, a = some ⟨b, o, none⟩ ∧ b < w.heap.size ∧ ∀ j v, (putL x)[j]? = some v → w.cell? ⟨b, o + i * 10 + j, none⟩ = some v
set_option maxHeartbeats 400000 in
theorem puts_open {H : Type} {enc : TypeId × Value → H} {W : World} {fuel : Nat} {a0 : Option Addr} {len0 cap0 : Nat} {x : DataW H × List MemPlace} (h : DataW.trod enc Try.prog W 0 (fun _ => true) true fuel 42 [.slice a0 len0 cap0] = some x)
    (hw : ∀ n ∈ x.1.weights Try.prog 42, n ≤ reachBytes) : ∃ xs, PutsAt W a0 len0 xs := by
  rcases open_slice Try.underlying42 h with ⟨hcs, _⟩ | ⟨a, len, cap, m, n, D, Pl, hcs, _, hl, hm, hmm, hx, hel⟩
  · simp at hcs
    obtain ⟨rfl, rfl, rfl⟩ := hcs
    exact ⟨[], rfl, fun x hx => by simp at hx, fun i x hx => by simp at hx⟩
  · simp only [List.cons.injEq, Value.slice.injEq, and_true] at hcs
    obtain ⟨rfl, rfl, rfl⟩ := hcs
    have hmc : m = cap0 := by simpa using hmm
    by_cases h0 : len0 = 0
    · subst h0; exact ⟨[], rfl, fun x hx => by simp at hx, fun i x hx => by simp at hx⟩
    have hspot : a.spot = none := by
      obtain ⟨cs', h1, h2⟩ := hel 0 (by omega)
      rw [cells46] at h1
      obtain ⟨_, hlen, hcell⟩ := World.cells?_some h1
      match cs', hlen with
      | [v0, v1, v2, v3, v4, v5, v6, v7, v8, v9], _ =>
        have e0 := hcell 0 (by omega)
        have := World.cell?_spot (v := v0) (by simpa using e0)
        simpa [Addr.add] using this
    obtain ⟨b, off, sp⟩ := a
    simp only at hspot
    subst hspot
    have each : ∀ i, i < len0 → ∃ t : PutI, t.ok W ∧ ∀ j v, (putL t)[j]? = some v → W.cell? ⟨b, off + i * 10 + j, none⟩ = some v := by
      intro i hi
      obtain ⟨cs', h1, h2⟩ := hel i (by omega)
      rw [cells46] at h1
      obtain ⟨_, hlen, hcell⟩ := World.cells?_some h1
      have hwi : ∀ k ∈ (D i).weights Try.prog 46, k ≤ reachBytes := fun k hk => by
        refine hw k ?_
        rw [hx]
        simp only [DataW.weights, Try.underlying42, List.mem_cons, List.mem_append]
        refine .inr (.inl (weights_all (d := D i) ?_ k hk))
        exact List.mem_map.2 ⟨i, List.mem_range.2 hi, rfl⟩
      obtain ⟨t, ht, rfl⟩ := put_open h2 hlen hwi
      refine ⟨t, ht, fun j v hv => ?_⟩
      have hj : j < 10 := by rw [← hlen]; exact (List.getElem?_eq_some_iff.1 hv).1
      have e := hcell j (by omega)
      rw [hv] at e
      rw [Addr.add_lit, Addr.add_lit] at e
      exact e
    obtain ⟨T, hT⟩ := @choose_lt _ ⟨⟨0, Bk.zero, none, 0, 0, [], false⟩⟩ _ _ each
    refine ⟨(List.range len0).map T, by simp, fun x hx => ?_, fun i t ht => ⟨b, off, rfl, ?_, ?_⟩⟩
    · obtain ⟨i, hi, rfl⟩ := List.mem_map.1 hx
      exact (hT i (List.mem_range.1 hi)).1
    · exact block_lt_of_cell (a := ⟨b, off + 0 * 10 + 0, none⟩) ((hT 0 (by omega)).2 0 (.int .i64 (T 0).arm) rfl)
    · have hi : i < len0 := by have := (List.getElem?_eq_some_iff.1 ht).1; simpa using this
      have : t = T i := by
        rw [List.getElem?_map, List.getElem?_range hi] at ht
        simpa using ht.symm
      rw [this]
      exact (hT i hi).2
end Go.Proofs.Ytcdefadeaiklbaa
