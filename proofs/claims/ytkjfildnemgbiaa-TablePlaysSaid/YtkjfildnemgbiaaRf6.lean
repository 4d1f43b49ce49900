/- The document's Set. -/
import Derived.Test.YtkjfildnemgbiaaRf5
set_option linter.unusedVariables false
set_option linter.unusedSimpArgs false
set_option maxRecDepth 8000
namespace Go.Proofs.Ytkjfildnemgbiaa
open Go.RowKit Go.Deep Go.Shelf Math Tab Go.Sort
section
variable {B : Nat} {w w' : World} {f nb ob nx : Nat} {vN vO : List Value} {nw od : Ch} {kv vv : Value} {ks : List (List UInt8)} {vs : List Int} {key : List UInt8}
/-- One old bucket is another row then. -/
theorem RfIn.setO (h : RfIn B w f nb ob nx vN vO nw od kv vv ks vs) {W : World} (b : Below w.heap.size w W) {i : Nat} (hi : i < od.length) {v : Value} {ss : List (List UInt8)} (hS : SR B v ss W) (hq : ∀ q ∈ ownB v, w.heap.size ≤ q) :
    RfIn B (W.setCell ⟨ob, nx + i, none⟩ v) f nb ob nx vN (vO.set (nx + i) v) nw (od.set i ss) kv vv ks vs := by
  have hW := h.below b
  have h0 : 0 < nx + od.length := by omega
  have hO := hW.rO h0
  have oth : ∀ q, q ≠ ob → (W.setCell ⟨ob, nx + i, none⟩ v).heap[q]? = W.heap[q]? := fun q hq => blk_setCell_other _ _ _ _ hq
  have ks2 : ∀ {v' : Value} {ss : List (List UInt8)}, SR B v' ss W → SR B v' ss (W.setCell ⟨ob, nx + i, none⟩ v) := fun hS => hS.sameB (fun q hq => by
    obtain ⟨_, c, hc⟩ := own_ty hS.row hq
    exact oth q (fun e => hO.not_ty (e ▸ hc) (by decide) rfl))
  have hkq : ∀ q ∈ ownB kv, q < w.heap.size := fun q hq => by
    obtain ⟨_, c, hc⟩ := own_ty h.kk.row (mem_own.1 hq)
    exact (Array.getElem?_eq_some_iff.1 hc).1
  refine ⟨?_, hW.rN.same (oth nb (hW.ne h0)), h.lN, fun j ss' hj => ?_, fun _ => hO.set (nx + i) v, fun _ => h.ne h0, by simp [h.lO], fun j hj => ?_, fun j ss' hj => ?_, ks2 hW.kk, hW.kn.same (fun q hq => ?_), h.lf, h.lb, fun _ => h.lo h0⟩
  · rw [List.length_set]
    exact hW.own.same (oth f (hW.own.ty_ne hO (by decide)))
  · obtain ⟨v', h1, h2, h3⟩ := hW.eN j ss' hj
    exact ⟨v', h1, ks2 h2, h3⟩
  · rw [List.getElem?_set, if_neg (by omega)]; exact h.zO j hj
  · rw [List.getElem?_set] at hj
    by_cases e : i = j
    · subst e
      rw [if_pos rfl, if_pos hi] at hj
      obtain rfl := Option.some.inj hj
      refine ⟨v, by rw [List.getElem?_set, if_pos rfl, if_pos (by rw [h.lO]; omega)], ks2 hS, fun q h1 h2 => ?_⟩
      have := hq q h1
      have := hkq q h2
      omega
    · rw [if_neg e] at hj
      obtain ⟨v', h1, h2, h3⟩ := hW.eO j ss' hj
      exact ⟨v', by rw [List.getElem?_set, if_neg (by omega)]; exact h1, ks2 h2, h3⟩
  · obtain ⟨_, c, hc⟩ := own_ty hW.kn.row hq
    exact oth q (fun e => hO.not_ty (e ▸ hc) (by decide) rfl)
/-- The keys are another row then. -/
theorem RfIn.turnK (h : RfIn B w f nb ob nx vN vO nw od kv vv ks vs) {W : World} {kv' : Value} {ks' : List (List UInt8)} (hf : Blk W f [.slice (some ⟨nb, 0, none⟩) nw.length nw.length, sl2 ob (nx + od.length), .int .i64 (nx : Int), kv', vv] 43)
    (oth : ∀ b, b ≠ f → b ∉ ownB kv → b < w.heap.size → W.heap[b]? = w.heap[b]?) (hS : SR B kv' ks' W) (hO : ∀ q ∈ ownB kv', q ∈ ownB kv ∨ w.heap.size ≤ q) : RfIn B W f nb ob nx vN vO nw od kv' vv ks' vs := by
  have ty : ∀ b, (∃ L t, Blk w b L t ∧ t ≠ 9) → b ∉ ownB kv := fun b ⟨L, t, hb, ht⟩ hm => by
    obtain ⟨_, c, hc⟩ := own_ty h.kk.row (mem_own.1 hm)
    exact hb.not_ty hc ht rfl
  have row : ∀ {v : Value} {ss : List (List UInt8)}, SR B v ss w → (∀ q ∈ ownB v, q ∉ ownB kv) → SR B v ss W ∧ ∀ q ∈ ownB v, q ∉ ownB kv' := fun hS hX => by
    have hlt : ∀ q ∈ ownB _, q < w.heap.size := fun q hq => by
      obtain ⟨_, c, hc⟩ := own_ty hS.row (mem_own.1 hq)
      exact (Array.getElem?_eq_some_iff.1 hc).1
    refine ⟨hS.sameB (fun q hq => ?_), fun q hq hq' => ?_⟩
    · obtain ⟨_, c, hc⟩ := own_ty hS.row hq
      exact oth q (fun e => h.own.not_ty (e ▸ hc) (by decide) rfl) (hX q (mem_own.2 hq)) (hlt q (mem_own.2 hq))
    · rcases hO q hq' with h1 | h1
      · exact hX q hq h1
      · have := hlt q hq; omega
  refine ⟨hf, h.rN.same (oth nb (h.rN.ty_ne h.own (by decide)) (ty nb ⟨_, _, h.rN, by decide⟩) h.rN.lt), h.lN, fun i ss hs => ?_, fun h0 => (h.rO h0).same (oth ob ((h.rO h0).ty_ne h.own (by decide)) (ty ob ⟨_, _, h.rO h0, by decide⟩) (h.rO h0).lt), h.ne, h.lO, h.zO, fun i ss hs => ?_, hS, h.kn.same (fun q hq => ?_), h.lf, h.lb, h.lo⟩
  · obtain ⟨v, h1, h2, h3⟩ := h.eN i ss hs
    exact ⟨v, h1, row h2 h3⟩
  · obtain ⟨v, h1, h2, h3⟩ := h.eO i ss hs
    exact ⟨v, h1, row h2 h3⟩
  · obtain ⟨_, c, hc⟩ := own_ty h.kn.row hq
    have hlt := (Array.getElem?_eq_some_iff.1 hc).1
    refine oth q (fun e => h.own.not_ty (e ▸ hc) (by decide) rfl) (fun hm => ?_) hlt
    obtain ⟨_, c2, hc2⟩ := own_ty h.kk.row (mem_own.1 hm)
    rw [hc] at hc2
    simp at hc2
/-- The numbers are another row then. -/
theorem RfIn.turnV (h : RfIn B w f nb ob nx vN vO nw od kv vv ks vs) {W : World} {vv' : Value} {vs' : List Int} (hf : Blk W f [.slice (some ⟨nb, 0, none⟩) nw.length nw.length, sl2 ob (nx + od.length), .int .i64 (nx : Int), kv, vv'] 43)
    (oth : ∀ b, b ≠ f → b ∉ ownB vv → b < w.heap.size → W.heap[b]? = w.heap[b]?) (hN : NR B vv' vs' W) : RfIn B W f nb ob nx vN vO nw od kv vv' ks vs' := by
  have same : ∀ b c t, w.heap[b]? = some (Obj.cells c t (0, 0)) → t ≠ 43 → t ≠ 3 → W.heap[b]? = w.heap[b]? := fun b c t hb h1 h2 => oth b (fun e => by subst e; exact h.own.not_ty hb (fun e => h1 e.symm) rfl) (fun hm => by
    obtain ⟨_, c2, hc2⟩ := own_ty h.kn.row (mem_own.1 hm)
    rw [hb] at hc2
    simp at hc2
    exact h2 hc2.2) (Array.getElem?_eq_some_iff.1 hb).1
  have row : ∀ {v : Value} {ss : List (List UInt8)}, SR B v ss w → SR B v ss W := fun hS => hS.sameB (fun q hq => by
    obtain ⟨_, c, hc⟩ := own_ty hS.row hq
    exact same q c 9 hc (by decide) (by decide))
  refine ⟨hf, h.rN.same (same nb _ 29 h.rN (by decide) (by decide)), h.lN, fun i ss hs => ?_, fun h0 => (h.rO h0).same (same ob _ 29 (h.rO h0) (by decide) (by decide)), h.ne, h.lO, h.zO, fun i ss hs => ?_, row h.kk, hN, h.lf, h.lb, h.lo⟩
  · obtain ⟨v, h1, h2, h3⟩ := h.eN i ss hs
    exact ⟨v, h1, row h2, h3⟩
  · obtain ⟨v, h1, h2, h3⟩ := h.eO i ss hs
    exact ⟨v, h1, row h2, h3⟩
theorem NR.set {v : Int} {g n cap i : Nat} (h : NR B (.slice (some ⟨g, 0, none⟩) n cap) vs w) (hi : i < vs.length) : NR B (.slice (some ⟨g, 0, none⟩) n cap) (vs.set i v) (w.setCell ⟨g, i, none⟩ (.int .i64 v)) := by
  have hr := h.row
  rcases hr.2 with ⟨hv, _⟩ | ⟨g', cap', cur, hv, hg, hh, hnc, hcm, hsz, htk⟩
  · simp at hv
  · simp only [Value.slice.injEq, Option.some.injEq, Addr.mk.injEq, and_true, true_and] at hv
    obtain ⟨rfl, rfl, rfl⟩ := hv
    refine ⟨⟨by simp [intV], .inr ⟨g, cap, cur.setIfInBounds i (.int .i64 v), by simp, hg, ?_, by simpa using hnc, hcm, by simpa using hsz, ?_⟩⟩⟩
    · simp [World.setCell, Array.getElem?_modify, hh]
    · rw [List.length_set, Array.toList_setIfInBounds, List.take_set, htk]
      simp [intV]
/-- Twice as many new buckets; those that were new are old then. -/
theorem RfIn.grow (h : RfIn B w f nb ob nx vN vO nw od kv vv ks vs) (hB : B ≤ w.heap.size) (n1 : 1 ≤ nw.length) :
    RfIn B ((((w.setCell ⟨f, 1, none⟩ (.slice (some ⟨nb, 0, none⟩) nw.length nw.length)).setCell ⟨f, 0, none⟩ (.slice (some ⟨w.heap.size, 0, none⟩) (2 * nw.length) (2 * nw.length))).setCell ⟨f, 2, none⟩ (.int .i64 0)).alloc (.cells (nils2 (2 * nw.length)) 29)) f w.heap.size nb 0
      (List.replicate (2 * nw.length) (.slice none 0 0)) vN (List.replicate (2 * nw.length) []) nw kv vv ks vs := by
  have hf := ((h.own.set 1 (.slice (some ⟨nb, 0, none⟩) nw.length nw.length)).set 0 (.slice (some ⟨w.heap.size, 0, none⟩) (2 * nw.length) (2 * nw.length))).set 2 (.int .i64 0)
  have oth : ∀ b, b ≠ f → b < w.heap.size → ((((w.setCell ⟨f, 1, none⟩ (.slice (some ⟨nb, 0, none⟩) nw.length nw.length)).setCell ⟨f, 0, none⟩ (.slice (some ⟨w.heap.size, 0, none⟩) (2 * nw.length) (2 * nw.length))).setCell ⟨f, 2, none⟩ (.int .i64 0)).alloc (.cells (nils2 (2 * nw.length)) 29)).heap[b]? = w.heap[b]? := fun b hb hlt => by
    rw [blk_alloc_lt _ _ _ (by rw [nblk_setCell, nblk_setCell, nblk_setCell]; exact hlt), blk_setCell_other _ _ _ _ hb, blk_setCell_other _ _ _ _ hb, blk_setCell_other _ _ _ _ hb]
  have row : ∀ {v : Value} {ss : List (List UInt8)}, SR B v ss w → SR B v ss ((((w.setCell ⟨f, 1, none⟩ (.slice (some ⟨nb, 0, none⟩) nw.length nw.length)).setCell ⟨f, 0, none⟩ (.slice (some ⟨w.heap.size, 0, none⟩) (2 * nw.length) (2 * nw.length))).setCell ⟨f, 2, none⟩ (.int .i64 0)).alloc (.cells (nils2 (2 * nw.length)) 29)) := fun hS => hS.sameB (fun q hq => by
    obtain ⟨_, c, hc⟩ := own_ty hS.row hq
    exact oth q (fun e => h.own.not_ty (e ▸ hc) (by decide) rfl) (Array.getElem?_eq_some_iff.1 hc).1)
  refine ⟨?_, ?_, by simp, fun i ss hs => ?_, fun _ => h.rN.same (oth nb (h.rN.ty_ne h.own (by decide)) h.rN.lt), fun _ => by have := h.rN.lt; omega, by rw [h.lN]; omega, fun i hi => by omega, fun i ss hs => ?_, row h.kk, h.kn.same (fun q hq => ?_), h.lf, hB, fun _ => h.lb⟩
  · have := hf.alloc (.cells (nils2 (2 * nw.length)) 29)
    rw [List.length_replicate, Nat.zero_add, sl2_pos _ _ (by omega)]
    exact this
  · have := Blk.new (((w.setCell ⟨f, 1, none⟩ (.slice (some ⟨nb, 0, none⟩) nw.length nw.length)).setCell ⟨f, 0, none⟩ (.slice (some ⟨w.heap.size, 0, none⟩) (2 * nw.length) (2 * nw.length))).setCell ⟨f, 2, none⟩ (.int .i64 0)) (List.replicate (2 * nw.length) (.slice none 0 0)) 29
    rw [nblk_setCell, nblk_setCell, nblk_setCell] at this
    exact this
  · rw [List.getElem?_replicate] at hs
    split at hs
    · rename_i hi
      obtain rfl := Option.some.inj hs
      exact ⟨.slice none 0 0, by rw [List.getElem?_replicate, if_pos hi], SR.nil _ _, fun q hq => by simp [ownB, Value.ownBlock] at hq⟩
    · cases hs
  · obtain ⟨v, h1, h2, h3⟩ := h.eN i ss hs
    exact ⟨v, by rw [Nat.zero_add]; exact h1, row h2, h3⟩
  · obtain ⟨_, c, hc⟩ := own_ty h.kn.row hq
    exact oth q (fun e => h.own.not_ty (e ▸ hc) (by decide) rfl) (Array.getElem?_eq_some_iff.1 hc).1
end
end Go.Proofs.Ytkjfildnemgbiaa
