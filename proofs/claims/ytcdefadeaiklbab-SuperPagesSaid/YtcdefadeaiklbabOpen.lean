/- Blocks and bytes as they come in. -/
import Derived.Test.YtcdefadeaiklbabAwake
import Derived.ChangeSlices
import Derived.Deep.Slices
import Derived.SizedLaws
set_option linter.unusedVariables false
set_option linter.unusedSimpArgs false
set_option maxRecDepth 8000
namespace Go.Proofs.Ytcdefadeaiklbab
open Go.RowKit Go.Deep Go.ChangeShapes Go.WideShapes Math

theorem cells29 : Try.prog.cellsOf 24 = 7 := by kernel_rfl
theorem cells3 : Try.prog.cellsOf 3 = 1 := by kernel_rfl
theorem cells4 : Try.prog.cellsOf 4 = 1 := by kernel_rfl
theorem cells5 : Try.prog.cellsOf 5 = 1 := by kernel_rfl
theorem bytes5 : Try.prog.bytesOf 5 = 1 := by kernel_rfl
theorem u8_wf {z : Int} (h : (Lit.int .u8 z).wf = true) : 0 ≤ z ∧ z < 256 := by
  have h1 : IntKind.u8.min = 0 := rfl
  have h2 : IntKind.u8.max = 255 := rfl
  simp [Lit.wf, h1, h2] at h
  omega
theorem wf_i64 {z : Int} (h : (Lit.int .i64 z).wf = true) : -9223372036854775808 ≤ z ∧ z ≤ 9223372036854775807 := by
  have h1 : IntKind.i64.min = -9223372036854775808 := rfl
  have h2 : IntKind.i64.max = 9223372036854775807 := rfl
  simp [Lit.wf, h1, h2] at h
  exact h
theorem wf_u64 {z : Int} (h : (Lit.int .u64 z).wf = true) : 0 ≤ z ∧ z < 18446744073709551616 := by
  have h1 : IntKind.u64.min = 0 := rfl
  have h2 : IntKind.u64.max = 18446744073709551615 := rfl
  simp [Lit.wf, h1, h2] at h
  omega
theorem bk_open {H : Type} {enc : TypeId × Value → H} {W : World} {fuel : Nat} {cs : List Value} {x : DataW H × List MemPlace} (h : DataW.trod enc Try.prog W 0 (fun _ => true) true fuel 24 cs = some x) (hl : cs.length = 7) :
    ∃ t : Bk, t.fits ∧ cs = bkL t := by
  obtain ⟨xs, k, hk, hxy, _, hxl, hf⟩ := DataW.trod_struct Try.underlying24 h
  match xs, hxl, cs, hl with
  | [y0, y1, y2, y3, y4, y5, y6], _, [v0, v1, v2, v3, v4, v5, v6], _ =>
    have g0 := hf 0 _ rfl
    have g1 := hf 1 _ rfl
    have g2 := hf 2 _ rfl
    have g3 := hf 3 _ rfl
    have g4 := hf 4 _ rfl
    have g5 := hf 5 _ rfl
    have g6 := hf 6 _ rfl
    simp at g0 g1 g2 g3 g4 g5 g6
    simp only [c27, cells3, cells4] at g0 g1 g2 g3 g4 g5 g6
    simp only [List.take_succ_cons, List.take_zero] at g0 g1 g2 g3 g4 g5 g6
    obtain ⟨n0, hv0, _, w0⟩ := DataW.trod_int Try.underlying22 g0
    obtain ⟨n1, hv1, _, w1⟩ := DataW.trod_int Try.underlying22 g1
    obtain ⟨n2, hv2, _, w2⟩ := DataW.trod_int Try.underlying22 g2
    obtain ⟨n3, hv3, _, w3⟩ := DataW.trod_int Try.underlying22 g3
    obtain ⟨n4, hv4, _, w4⟩ := DataW.trod_int Try.underlying22 g4
    obtain ⟨n5, hv5, _⟩ := DataW.trod_bool Try.underlying4 g5
    obtain ⟨n6, hv6, _, w6⟩ := DataW.trod_int Try.underlying3 g6
    simp only [List.cons.injEq, and_true] at hv0 hv1 hv2 hv3 hv4 hv5 hv6
    subst hv0 hv1 hv2 hv3 hv4 hv5 hv6
    have q0 := wf_u64 w0
    have q1 := wf_u64 w1
    have q2 := wf_u64 w2
    have q3 := wf_u64 w3
    have q4 := wf_u64 w4
    have q6 := wf_i64 w6
    refine ⟨⟨n0.toNat, n1.toNat, n2.toNat, n3.toNat, n4.toNat, n5, n6⟩, ⟨by simp; omega, by simp; omega, by simp; omega, by simp; omega, by simp; omega, q6.1, q6.2⟩, ?_⟩
    simp only [bkL, List.cons.injEq, Value.int.injEq, true_and, and_true]
    exact ⟨by omega, by omega, by omega, by omega, by omega⟩
theorem bk_param {H : Type} {enc : TypeId × Value → H} {W : World} {fuel : Nat} {cs : Array Value} {x : DataW H × List MemPlace} (h : DataW.trod enc Try.prog W 0 (fun _ => true) true fuel 24 (Value.agg cs).cells.toList = some x) (hl : cs.size = Try.prog.cellsOf 24) :
    ∃ t : Bk, t.fits ∧ cs = (bkL t).toArray := by
  obtain ⟨t, h1, h2⟩ := bk_open (cs := cs.toList) h (by rw [Array.length_toList, hl, cells29])
  exact ⟨t, h1, by rw [← h2, Array.toArray_toList]⟩
structure OneBk (w : World) (b o : Nat) (x : Bk) : Prop where
  c0 : w.cell? ⟨b, o, none⟩ = some (.int .u64 x.seq)
  c1 : w.cell? ⟨b, o + 1, none⟩ = some (.int .u64 x.epoch)
  c2 : w.cell? ⟨b, o + 2, none⟩ = some (.int .u64 x.res)
  c3 : w.cell? ⟨b, o + 3, none⟩ = some (.int .u64 x.hor)
  c4 : w.cell? ⟨b, o + 4, none⟩ = some (.int .u64 x.gen)
  c5 : w.cell? ⟨b, o + 5, none⟩ = some (.bool x.clean)
  c6 : w.cell? ⟨b, o + 6, none⟩ = some (.int .i64 x.image)
theorem OneBk.below {w w' : World} {b o : Nat} {x : Bk} {B : Nat} (h : OneBk w b o x) (k : Below B w w') (hb : b < B) : OneBk w' b o x :=
  ⟨(k.cell (p := ⟨b, o, none⟩) hb).trans h.c0, (k.cell (p := ⟨b, o + 1, none⟩) hb).trans h.c1, (k.cell (p := ⟨b, o + 2, none⟩) hb).trans h.c2, (k.cell (p := ⟨b, o + 3, none⟩) hb).trans h.c3, (k.cell (p := ⟨b, o + 4, none⟩) hb).trans h.c4, (k.cell (p := ⟨b, o + 5, none⟩) hb).trans h.c5, (k.cell (p := ⟨b, o + 6, none⟩) hb).trans h.c6⟩
/-- A slice of blocks. -/
structure BksAt (w : World) (a : Option Addr) (len : Nat) (xs : List Bk) : Prop where
  len : len = xs.length
  fits : ∀ x ∈ xs, x.fits
  cell : ∀ i x, xs[i]? = some x → ∃ b o, a = some ⟨b, o, none⟩ ∧ b < w.heap.size ∧ OneBk w b (o + i * 7) x
theorem BksAt.below {w w' : World} {a : Option Addr} {len : Nat} {xs : List Bk} (h : BksAt w a len xs) (k : Below w.heap.size w w') : BksAt w' a len xs :=
  ⟨h.len, h.fits, fun i x hx => by
    obtain ⟨b, o, ha, hb, hc⟩ := h.cell i x hx
    exact ⟨b, o, ha, Nat.lt_of_lt_of_le hb k.size, hc.below k hb⟩⟩
theorem choose_lt {α : Type} [Inhabited α] {n : Nat} {p : Nat → α → Prop} (h : ∀ i, i < n → ∃ t, p i t) : ∃ T : Nat → α, ∀ i, i < n → p i (T i) :=
  ⟨fun i => if hi : i < n then Classical.choose (h i hi) else default, fun i hi => by simp only [hi, dif_pos]; exact Classical.choose_spec (h i hi)⟩

theorem bytes_open {H : Type} {enc : TypeId × Value → H} {W : World} {fuel : Nat} {a0 : Option Addr} {n0 c0 : Nat} {x : DataW H × List MemPlace} (h : DataW.trod enc Try.prog W 0 (fun _ => true) true fuel 31 [.slice a0 n0 c0] = some x)
    (hw : ∀ n ∈ x.1.weights Try.prog 31, n ≤ reachBytes) :
    ∃ l : List UInt8, BS W a0 n0 c0 l ∧ (a0 = none → l = []) ∧ n0 ≤ 140737488351232 := by
  rcases open_ints Try.underlying31 Try.underlying5 cells5 h with ⟨hcs, _⟩ | ⟨a, len, cap, zs, hcs, _, hl, hm, hz, hx, hcell, hwz⟩
  · simp at hcs
    obtain ⟨rfl, rfl, rfl⟩ := hcs
    exact ⟨[], BS.mk' rfl (Nat.le_refl _) (Reads.nil _ _), fun _ => rfl, Nat.zero_le _⟩
  · simp only [List.cons.injEq, Value.slice.injEq, and_true] at hcs
    obtain ⟨rfl, rfl, rfl⟩ := hcs
    have hz' : zs.length = c0 := by simpa using hz
    have hb : (zs.take n0).length + (zs.drop n0).length ≤ reachBytes := by
      have := hw (((lits (H := H) .u8 (zs.take n0)).length + (lits (H := H) .u8 (zs.drop n0)).length) * Try.prog.bytesOf 5) (by rw [hx]; simp [DataW.weights, Try.underlying31])
      rw [bytes5] at this
      simpa [lits] using this
    have hlen : ((zs.take n0).map (fun z => UInt8.ofNat z.toNat)).length = n0 := by simp; omega
    have e8 : ∀ j, j < n0 → (((zs.take n0).map (fun z => UInt8.ofNat z.toNat)).getD j 0).toNat = zs.getD j 0 := fun j hj => by
      have hmem : zs.getD j 0 ∈ zs := by rw [List.getD_eq_getElem?_getD, List.getElem?_eq_getElem (by omega)]; exact List.getElem_mem _
      have hb := u8_wf (hwz _ hmem)
      have e1 : ((zs.take n0).map (fun z => UInt8.ofNat z.toNat)).getD j 0 = UInt8.ofNat (zs.getD j 0).toNat := by
        simp [List.getD_eq_getElem?_getD, List.getElem?_eq_getElem (show j < zs.length by omega), List.getElem?_take_of_lt hj]
      rw [e1, UInt8.toNat_ofNat']
      have e2 : ((zs.getD j 0).toNat % 2 ^ 8 : Nat) = (zs.getD j 0).toNat := Nat.mod_eq_of_lt (by omega)
      rw [e2]
      omega
    refine ⟨(zs.take n0).map (fun z => UInt8.ofNat z.toNat), BS.mk' hlen.symm hl ⟨fun i hi => ?_, fun i => ?_⟩, (fun h => by cases h), ?_⟩
    · rw [ints_length, hlen] at hi
      have c0' := hcell 0 (by omega)
      have hspot : a.spot = none := by simpa [Addr.add] using World.cell?_spot c0'
      obtain ⟨b, off, sp⟩ := a
      simp only at hspot
      subst hspot
      refine ⟨b, off, rfl, ?_⟩
      have cj := hcell i (by omega)
      rw [Addr.add_lit] at cj
      rw [cj, ints_getD, e8 i hi]
    · rw [ints_getD]
      have := (((zs.take n0).map (fun z => UInt8.ofNat z.toNat)).getD i 0).toNat_lt
      omega
    · have e : reachBytes = 140737488351232 := by decide
      simp at hb
      omega
end Go.Proofs.Ytcdefadeaiklbab
