/- Sort and Sorted of numbers. -/
import Derived.Test.YtghdkicijdfpcaaSortM
set_option linter.unusedVariables false
set_option linter.unusedSimpArgs false
set_option maxRecDepth 8000
namespace Go.Proofs.Ytghdkicijdfpcaa
open Go.RowKit Go.Deep Go.Sort

theorem bitsLen_le (n : Nat) : bitsLen n ≤ n + 1 := by
  unfold bitsLen
  split
  · omega
  · have := Nat.log2_le_self n; omega
set_option maxHeartbeats 1000000 in
theorem sort_by (L : Nat) (hL : L ≤ 1000000) (C : Cal L) (w0 : World) (blk N cap : Nat) (d : Array Nat) (W : World) (hN : d.size = N) (h : SR w0 W blk d) (hNL : N < L) :
    Calls Try.prog 54 #[.slice (some ⟨blk, 0, none⟩) N cap] W fun e W' => e = .returned (.tuple #[]) ∧ SR w0 W' blk (pdq lt64 d 0 N (bitsLen N) true true) := by
  have cL := hide' (C.len N hNL)
  have cP := hide' (fun W' (h' : SR w0 W' blk d) => pdq_by L hL C (N + 1) w0 blk N cap 0 N (bitsLen N) d W' (by omega) hN h' (by omega) (Nat.le_refl _) (by omega) (by omega) (by have := bitsLen_le N; omega) (.inl rfl))
  have H := hide' h
  clear h hN
  have hN6 : N ≤ 1000000 := by omega
  clear C
  go_enter Try.func54, Try.ntmps54
  go_wp2_with fail
  refine (cL.out _).mono ?_
  rintro r w1 ⟨rfl, h1⟩
  have cQ := hide' (cP.out w1 (by rw [h1]; exact H.out))
  clear h1 cL cP
  go_wp2_with fail
  refine cQ.out.mono ?_
  rintro r w2 ⟨rfl, h2⟩
  have T2 := hide' h2
  clear h2
  go_wp2
  go_end0
  exact ⟨rfl, T2.out⟩

theorem row_holds {w : World} {g n : Nat} {cur : Array Value} {ss : List Nat} (hh : w.heap[g]? = some (.cells cur 30 (0, 0))) (ht : cur.toList.take (n * 1) = ss.map encU) (hn : n = ss.length) (hc : n ≤ cur.size) : SR w w g ss.toArray := by
  refine ⟨fun t htl => ?_, Keep.refl _ _, fun cur t fz h => ⟨cur, h, rfl⟩⟩
  rw [Nat.zero_add]
  have htn : t < ss.length := by simpa using htl
  have e1 : cur[t]? = some (encU (ss.toArray)[t]!) := by
    have h1 := congrArg (fun l => l[t]?) ht
    simp only [List.getElem?_take, List.getElem?_map] at h1
    rw [if_pos (by omega), Array.getElem?_toList] at h1
    rw [h1, List.getElem?_eq_getElem htn]
    simp [htn]
  constructor
  · simp [World.cell?, hh, e1]
  · simp [World.frozen?, hh]
theorem row_back {w W : World} {g : Nat} {cur : Array Value} {d : Array Nat} (h : SR w W g d) (hh : w.heap[g]? = some (.cells cur 30 (0, 0))) (hc : d.size ≤ cur.size) : ∃ cur', W.heap[g]? = some (.cells cur' 30 (0, 0)) ∧ cur'.size = cur.size ∧ cur'.toList.take (d.size * 1) = d.toList.map encU := by
  obtain ⟨c', h1, h2⟩ := h.shape cur 30 (0, 0) hh
  refine ⟨c', h1, h2, ?_⟩
  refine List.ext_getElem? fun t => ?_
  simp only [List.getElem?_take, List.getElem?_map, Nat.mul_one]
  by_cases ht : t < d.size
  · have h3 := (h.holds t ht).1
    rw [Nat.zero_add] at h3
    rw [if_pos ht, Array.getElem?_toList, Array.getElem?_toList]
    have h4 : c'[t]? = some (encU d[t]!) := by simpa [World.cell?, h1] using h3
    rw [h4, Array.getElem?_eq_getElem ht]
    simp [ht]
  · rw [if_neg ht, Array.getElem?_toList, Array.getElem?_eq_none (by omega)]
    rfl
theorem pdq_list (ss : List Nat) (hn : ss.Nodup) (lim : Nat) : ∃ ys : List Nat, pdq lt64 ss.toArray 0 ss.length lim true true = ys.toArray ∧ ys.length = ss.length ∧ (∀ x, x ∈ ys ↔ x ∈ ss) ∧ ys.Pairwise (· < ·) := by
  obtain ⟨h1, h2⟩ := pdq_sorts lt64 swo64 ss.toArray 0 ss.length lim true true (Nat.zero_le _) (by simp) (.inl rfl)
  generalize hd : pdq lt64 ss.toArray 0 ss.length lim true true = d at h1 h2
  have hs : d.size = ss.length := by rw [h1.1]; simp
  have hp : d.toList.Perm ss := by
    have := h1.2.2
    rw [show ss.length = d.size from hs.symm, Array.extract_size] at this
    rwa [show (ss.toArray.extract 0 d.size) = ss.toArray by rw [hs, show ss.length = ss.toArray.size by simp, Array.extract_size]] at this
  refine ⟨d.toList, by simp, by simpa using hs, fun x => hp.mem_iff, ?_⟩
  have hnd : d.toList.Nodup := hp.symm.nodup hn
  rw [List.pairwise_iff_getElem]
  intro i j hi hj hij
  have hi' : i < d.size := by simpa using hi
  have hj' : j < d.size := by simpa using hj
  have h3 := h2 i j (Nat.zero_le _) hij (by omega)
  simp only [lt64, decide_eq_false_iff_not, Nat.not_lt] at h3
  rw [getElem!_pos d i hi', getElem!_pos d j hj'] at h3
  have h4 : d.toList[i] ≠ d.toList[j] := List.pairwise_iff_getElem.1 hnd i j hi hj hij
  simp only [Array.getElem_toList] at h4 ⊢
  omega

set_option maxHeartbeats 1000000 in
theorem sorted_by (L : Nat) (hL : L ≤ 1000000) (C : Cal L) (Bm b nn : Nat) (D0 : DataW Unit) (hnn : nn ≤ 1000000) (h1 : ∀ ss : List Nat, ss.Nodup → (∀ x, x ∈ ss ↔ Maps.has D0 (u64L x) = true) → ss.length < L) (w : World) (hBm : Bm < w.heap.size) (hm : w.cell? ⟨Bm, 0, none⟩ = some (.map (some b))) (hown : w.ownsMap Try.prog 30 (plainElem Try.prog 30) b nn D0) :
    Calls Try.prog 35 #[.func (.func 55) #[] #[.pointer (some ⟨Bm, 0, none⟩)]] w (SortedPost D0 w) := by
  have ca := hide' (collect_any Bm b nn D0 hnn w hBm hm hown)
  have H1 := hide' h1
  have HC := hide' C
  clear hm hown h1 C
  go_enter Try.func35, Try.ntmps35
  go_wp2_with fail
  refine ca.out.mono ?_
  rintro r w1 ⟨v, ss, rfl, ⟨hnd, hmem⟩, hrow, hnil, hb⟩
  have hl := H1.out ss hnd hmem
  rcases hrow.2 with ⟨rfl, hn0⟩ | ⟨g, cap, cur, rfl, hg, hh, hcap, hmax, hcs, htk⟩
  · have hs0 : ss = [] := hnil.1 rfl
    have G : Hid (SortedPost D0 w (.returned (.slice none 0 0)) w1) := ⟨_, ss, rfl, by rw [hs0]; exact List.Pairwise.nil, hmem, hrow, hnil, hb⟩
    clear hnd hmem hrow hnil hb hl ca hn0
    have cs := hide' (sort_0 none 0 w1)
    go_wp2_with fail
    refine cs.out.mono ?_
    rintro r w2 ⟨rfl, h2⟩
    obtain rfl : w1 = w2 := h2.symm
    clear h2
    go_wp2
    go_ret
    exact G.out
  · obtain ⟨ys, y1, y2, y3, y4⟩ := pdq_list ss hnd (bitsLen ss.length)
    have hsr := row_holds hh htk rfl (by rw [hcs]; omega)
    have cs := hide' (sort_by L hL HC.out w1 g ss.length cap ss.toArray w1 (by simp) hsr hl)
    rw [y1] at cs
    have G : Hid (∀ W', SR w1 W' g ys.toArray → SortedPost D0 w (.returned (.slice (some ⟨g, 0, none⟩) ss.length cap)) W') := fun W' hW => by
      obtain ⟨c', c1, c2, c3⟩ := row_back hW hh (by simp; rw [hcs, y2]; omega)
      refine ⟨_, ys, rfl, y4, fun x => (y3 x).trans (hmem x), ⟨by simp, .inr ⟨g, cap, c', by rw [y2], hg, c1, by rw [y2]; exact hcap, hmax, by rw [c2, hcs], by simpa using c3⟩⟩, ⟨(fun h => (by cases h)), fun h => ?_⟩, hb.trans (hW.keep.below (by simp; exact hg) hb.size)⟩
      have : ss = [] := by rw [← List.length_eq_zero_iff, ← y2, h]; rfl
      exact hnil.2 this
    clear hnd hmem hrow hnil hb hl ca y1 y2 y3 y4 hsr hh hg hcap hmax hcs htk
    go_wp2_with fail
    refine cs.out.mono ?_
    rintro r w2 ⟨rfl, h2⟩
    have T2 := hide' h2
    clear h2
    go_wp2
    go_ret
    exact G.out _ T2.out
end Go.Proofs.Ytghdkicijdfpcaa
