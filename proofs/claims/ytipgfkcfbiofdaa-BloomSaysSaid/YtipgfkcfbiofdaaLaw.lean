/- The filter's calls over a world that goes on; what bits are set behind which Adds; a row of keys as it comes in. -/
import Derived.Test.YtipgfkcfbiofdaaRest
import Derived.SliceStrings
import Derived.SizedLaws
import Derived.OpenShut
set_option linter.unusedVariables false
set_option linter.unusedSimpArgs false
namespace Go.Proofs.Ytipgfkcfbiofdaa
open Go.RowKit Go.Deep Go.ChangeShapes Go.WideShapes Math

/-! ### Bits -/
theorem plc_lt {key : ByteArray} {n t : Nat} (hn : 0 < n) : ∀ i ∈ plc key n t, i < n := by
  intro i hi
  simp only [plc, upto, List.mem_map] at hi
  obtain ⟨k, _, rfl⟩ := hi
  exact pl_lt _ _ _ _ hn
theorem plc_ne {key : ByteArray} {n t : Nat} (ht : 1 ≤ t) : ∃ i, i ∈ plc key n t := ⟨pl (hashK key) (stepK key) n 0, by simp only [plc, upto, List.mem_map, List.mem_range]; exact ⟨0, by omega, rfl⟩⟩
theorem plc_len (key : ByteArray) (n t : Nat) : (plc key n t).length = t := by simp [plc, upto]
theorem setB_getD : ∀ (ps : List Nat) (l : List Bool) (i : Nat), (setB l ps).getD i false = (l.getD i false || decide (i ∈ ps ∧ i < l.length))
  | [], l, i => by simp [setB]
  | p :: ps, l, i => by
    show (setB (l.set p true) ps).getD i false = _
    rw [setB_getD ps]
    simp only [List.length_set, List.getD_eq_getElem?_getD, List.getElem?_set, List.mem_cons]
    by_cases h : p = i
    · subst h
      by_cases h2 : p < l.length <;> simp [h2]
    · have h3 : ¬ i = p := fun e => h e.symm
      simp [h, h3]
theorem mayB_set {l : List Bool} {ps qs : List Nat} (h : ∀ i ∈ ps, i ∈ qs) (hl : ∀ i ∈ ps, i < l.length) : mayB (setB l qs) ps = true := by
  unfold mayB
  rw [List.all_eq_true]
  intro i hi
  rw [setB_getD]
  simp [h i hi, hl i hi]
theorem blank_getD (n i : Nat) : (List.replicate n false).getD i false = false := by
  rw [List.getD_eq_getElem?_getD, List.getElem?_replicate]; split <;> rfl
theorem mayB_blank {n : Nat} {ps : List Nat} (h : ∃ i, i ∈ ps) : mayB (List.replicate n false) ps = false := by
  obtain ⟨i, hi⟩ := h
  unfold mayB
  rw [List.all_eq_false]
  exact ⟨i, hi, by rw [blank_getD]; simp⟩
theorem ixs_blank (n k : Nat) : ixs (List.replicate n false) k = [] := by
  unfold ixs
  rw [List.filter_eq_nil_iff]
  intro i _
  rw [blank_getD]; simp
theorem cntB_blank (n : Nat) : cntB (List.replicate n false) = 0 := by unfold cntB; rw [ixs_blank]; rfl
theorem mem_ixs {l : List Bool} {k i : Nat} : i ∈ ixs l k ↔ i < k ∧ l.getD i false = true := by simp [ixs]
theorem cntB_pos {l : List Bool} {ps : List Nat} (h : ∃ i, i ∈ ps) (hl : ∀ i ∈ ps, i < l.length) : 1 ≤ cntB (setB l ps) := by
  obtain ⟨i, hi⟩ := h
  unfold cntB
  have : i ∈ ixs (setB l ps) (setB l ps).length := mem_ixs.2 ⟨by rw [setB_length]; exact hl i hi, by rw [setB_getD]; simp [hi, hl i hi]⟩
  exact List.length_pos_of_mem this

/-! ### The filter as the world goes on -/
structure Fl (w0 : World) (f s : Nat) (l : List Bool) (t : Nat) (W : World) : Prop where
  flt : FltIn W f s l t
  bel : Below w0.heap.size w0 W
  lf : w0.heap.size ≤ f
  ls : w0.heap.size ≤ s
theorem Fl.on {w0 : World} {f s : Nat} {l : List Bool} {t : Nat} {W W' : World} (h : Fl w0 f s l t W) (b : Below W.heap.size W W') : Fl w0 f s l t W' :=
  ⟨h.flt.below b, h.bel.trans (b.mono h.bel.size), h.lf, h.ls⟩
theorem Fl.drew {w0 : World} {f s : Nat} {l : List Bool} {t : Nat} {W : World} (h : Fl w0 f s l t W) : Fl w0 f s l t W.drew := ⟨h.flt.drew, h.bel.drew, h.lf, h.ls⟩
theorem new_l {w0 W : World} (b : Below w0.heap.size w0 W) (n t : Nat) (h1 : 8 ≤ n) (h2 : n ≤ 65536) (h3 : 1 ≤ t) (h4 : t ≤ 8) :
    Calls Try.prog 9 #[.int .i64 n, .int .i64 t] W fun e W' => ∃ f s, e = .returned (.tuple #[.pointer (some ⟨f, 0, none⟩), .int .i64 0]) ∧ Fl w0 f s (List.replicate n false) t W' ∧ W.heap.size ≤ f ∧ W.heap.size ≤ s ∧ Below W.heap.size W W' := by
  refine (new_ok n t W h1 h2 h3 h4).mono ?_
  rintro e W' ⟨rfl, hf, hb⟩
  exact ⟨_, _, rfl, ⟨hf, b.trans (hb.mono b.size), by have := b.size; omega, b.size⟩, by omega, Nat.le_refl _, hb⟩
theorem add_l {w0 W : World} {f s : Nat} {l : List Bool} {t : Nat} (h : Fl w0 f s l t W) (key : ByteArray) (hk : key.size ≤ maxLen) :
    Calls Try.prog 10 #[.pointer (some ⟨f, 0, none⟩), .string key] W fun e W' => e = .returned (.tuple #[]) ∧ Fl w0 f s (setB l (plc key l.length t)) t W' ∧ Keep [s] W W' := by
  refine (add_any f s t l key hk W h.flt).mono ?_
  rintro e W' ⟨rfl, hf, hb⟩
  exact ⟨rfl, ⟨hf, h.bel.trans (hb.below (by simpa using h.ls) h.bel.size), h.lf, h.ls⟩, hb⟩
theorem may_l {w0 W : World} {f s : Nat} {l : List Bool} {t : Nat} (h : Fl w0 f s l t W) (key : ByteArray) (hk : key.size ≤ maxLen) :
    Calls Try.prog 14 #[.pointer (some ⟨f, 0, none⟩), .string key] W fun e W' => e = .returned (.bool (mayB l (plc key l.length t))) ∧ Fl w0 f s l t W' ∧ Below W.heap.size W W' := by
  refine (may_any f s t l key hk W h.flt).mono ?_
  rintro e W' ⟨rfl, hb⟩
  exact ⟨rfl, h.on hb, hb⟩
theorem clear_l {w0 W : World} {f s : Nat} {l : List Bool} {t : Nat} (h : Fl w0 f s l t W) :
    Calls Try.prog 15 #[.pointer (some ⟨f, 0, none⟩)] W fun e W' => e = .returned (.tuple #[]) ∧ Fl w0 f s (List.replicate l.length false) t W' := by
  refine (clear_any f s t l W h.flt).mono ?_
  rintro e W' ⟨rfl, hf, hb⟩
  exact ⟨rfl, hf, h.bel.trans (hb.below (by simpa using h.ls) h.bel.size), h.lf, h.ls⟩
theorem count_l {w0 W : World} {f s : Nat} {l : List Bool} {t : Nat} (h : Fl w0 f s l t W) :
    Calls Try.prog 13 #[.pointer (some ⟨f, 0, none⟩)] W fun e W' => e = .returned (.int .i64 (cntB l)) ∧ W' = W := count_any f s t l W h.flt

/-- A row of numbers at block g. -/
structure Nums (W : World) (g : Nat) (xs : List Nat) : Prop where
  lt : g < W.heap.size
  cell : ∀ (i x : Nat), xs[i]? = some x → W.cell? ⟨g, i, none⟩ = some (.int .i64 (x : Int))
theorem Nums.on {W W' : World} {g : Nat} {xs : List Nat} (h : Nums W g xs) (b : Below W.heap.size W W') : Nums W' g xs :=
  ⟨Nat.lt_of_lt_of_le h.lt b.size, fun i x hx => (World.cell?_of_block (b.block g h.lt)).trans (h.cell i x hx)⟩
theorem bits_l {w0 W : World} {f s : Nat} {l : List Bool} {t : Nat} (h : Fl w0 f s l t W) :
    Calls Try.prog 12 #[.pointer (some ⟨f, 0, none⟩)] W fun e W' => ∃ g cap, e = .returned (.slice (some ⟨g, 0, none⟩) (cntB l) cap) ∧ Nums W' g (ixs l l.length) ∧ Fl w0 f s l t W' ∧ Below W.heap.size W W' ∧ W.heap.size ≤ g := by
  refine (bits_any f s t l W h.flt).mono ?_
  rintro e W' ⟨g, cap, rfl, ho, hb⟩
  obtain ⟨h1, h2⟩ := ho
  rcases h2 with ⟨hv, _⟩ | ⟨g2, cap2, cur, hv, hg, hh, _, _, _, htk⟩
  · simp at hv
  · simp only [Value.slice.injEq, Option.some.injEq, Addr.mk.injEq, and_true, true_and] at hv
    obtain ⟨rfl, rfl⟩ := hv
    refine ⟨g, cap, rfl, ⟨(Array.getElem?_eq_some_iff.1 hh).1, fun i x hx => ?_⟩, h.on hb, hb, hg⟩
    have e1 : (intsV (ixs l l.length))[i]? = some (.int .i64 (x : Int)) := by simp [intsV, hx]
    rw [← htk, List.getElem?_take] at e1
    split at e1
    · rw [Array.getElem?_toList] at e1
      simp [World.cell?, hh, e1]
    · cases e1

/-! ### Keys as they come in -/
structure StrsAt (w : World) (a : Option Addr) (len : Nat) (xs : List ByteArray) : Prop where
  len : len = xs.length
  fits : ∀ x ∈ xs, x.size ≤ 140737488351232
  cell : ∀ i x, xs[i]? = some x → ∃ b o, a = some ⟨b, o, none⟩ ∧ b < w.heap.size ∧ w.cell? ⟨b, o + i, none⟩ = some (.string x)
theorem StrsAt.key {w : World} {a : Option Addr} {len : Nat} {xs : List ByteArray} (h : StrsAt w a len xs) {W : World} (k : Below w.heap.size w W) (i : Nat) (hi : i < len) :
    ∃ b o x, a = some ⟨b, o, none⟩ ∧ xs[i]? = some x ∧ x.size ≤ 140737488351232 ∧ W.cell? ⟨b, o + i, none⟩ = some (.string x) := by
  have hx := List.getElem?_eq_getElem (l := xs) (i := i) (by rw [← h.len]; exact hi)
  obtain ⟨b, o, ha, hb, hc⟩ := h.cell i _ hx
  exact ⟨b, o, _, ha, hx, h.fits _ (List.getElem_mem _), (World.cell?_of_block (k.block b hb)).trans hc⟩

theorem weights_all {H : Type} {P : Program} {e : TypeId} : ∀ {ds : List (DataW H)} {d : DataW H}, d ∈ ds → ∀ n ∈ d.weights P e, n ∈ DataW.weightsAll P e ds
  | d' :: r, d, hd, n, hn => by
    simp only [DataW.weightsAll, List.mem_append]
    rcases List.mem_cons.1 hd with rfl | hd
    · exact .inl hn
    · exact .inr (weights_all hd n hn)
theorem strs_open {H : Type} {enc : TypeId × Value → H} {W : World} {fuel : Nat} {a0 : Option Addr} {len0 cap0 : Nat} {x : DataW H × List MemPlace} (h : DataW.trod enc Try.prog W 0 (fun _ => true) true fuel 27 [.slice a0 len0 cap0] = some x)
    (hw : ∀ n ∈ x.1.weights Try.prog 27, n ≤ reachBytes) : ∃ xs, StrsAt W a0 len0 xs := by
  rcases open_strings Try.underlying27 Try.underlying9 (by kernel_rfl) h with ⟨hcs, _⟩ | ⟨a, len, cap, ss, hcs, hb, hl, hm, hss, hx, hcell, hmx⟩
  · simp at hcs
    obtain ⟨rfl, rfl, rfl⟩ := hcs
    exact ⟨[], rfl, fun x hx => by simp at hx, fun i x hx => by simp at hx⟩
  · simp only [List.cons.injEq, Value.slice.injEq, and_true] at hcs
    obtain ⟨rfl, rfl, rfl⟩ := hcs
    have hss' : ss.length = cap0 := by simpa using hss
    refine ⟨ss.take len0, by rw [List.length_take]; omega, fun s hs => ?_, fun i s hs => ?_⟩
    · have hw2 := hw s.data.toList.length (by
        rw [hx]
        simp only [DataW.weights, Try.underlying27, List.mem_cons, List.mem_append]
        refine .inr (.inl (weights_all (d := .lit (.string s.data.toList)) ?_ _ (by simp [DataW.weights])))
        exact List.mem_map.2 ⟨s, hs, rfl⟩)
      have e : s.data.toList.length = s.size := by rw [Array.length_toList]; rfl
      rw [e] at hw2
      simpa [reachBytes] using hw2
    · have hi : i < len0 ∧ i < ss.length := by
        have := (List.getElem?_eq_some_iff.1 hs).1; rw [List.length_take] at this; omega
      have hc := hcell i hi.2
      have hsi : ss.getD i ByteArray.empty = s := by
        rw [List.getElem?_take, if_pos hi.1] at hs
        rw [List.getD_eq_getElem?_getD, hs]; rfl
      rw [hsi] at hc
      have hsp : a.spot = none := by
        have := World.cell?_spot (hcell 0 (by omega))
        simpa [Addr.add] using this
      obtain ⟨b, off, sp⟩ := a
      simp only at hsp
      subst hsp
      rw [Addr.add_lit] at hc
      exact ⟨b, off, rfl, block_lt_of_cell hc, hc⟩
end Go.Proofs.Ytipgfkcfbiofdaa
