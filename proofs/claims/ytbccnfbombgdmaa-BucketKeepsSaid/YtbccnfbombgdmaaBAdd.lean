/- Add: a key's bits are set. -/
import Derived.Test.YtbccnfbombgdmaaBFlt
set_option linter.unusedVariables false
set_option linter.unusedSimpArgs false
namespace Go.Proofs.Ytbccnfbombgdmaa.Bl
open Go.RowKit Go.Shelf Go.Deep Math
attribute [local go_sem] Oper.semAt_some

theorem grown_at {W W' : World} {row : Option Nat} (hg : W.grownBy W' row) {B : Nat} (hr : ∀ r, row = some r → B ≤ r) {k : Nat} (hk : k < B) (hs : k < W.heap.size) : W'.heap[k]? = W.heap[k]? :=
  hg.block k hs (fun e => by have := hr k e.symm; omega)

/-- What holds between two rounds of Add. -/
def AddI (w : World) (f s n t : Nat) (l : List Bool) (B : Nat) (pre : List (Fin n)) (W : World) : Prop :=
  FltIn W f s (setB l (pre.map Fin.val)) t ∧ Blk W w.heap.size [.pointer (some ⟨f, 0, none⟩)] 67 ∧ Keep [s] w W ∧ f < w.heap.size ∧ s < w.heap.size ∧ w.heap.size < B ∧ l.length = n
theorem AddI.own {w : World} {f s n t : Nat} {l : List Bool} {B : Nat} : OwnFrom B (AddI w f s n t l B) := by
  rintro pre W W' row ⟨h1, h2, h3, h4, h5, h6, h7⟩ hg hr
  have e : ∀ k, k < B → k < W.heap.size → W'.heap[k]? = W.heap[k]? := fun k hk hs => grown_at hg (fun r e => (hr r e).1) hk hs
  exact ⟨h1.same (e _ (by omega) h1.own.lt) (e _ (by omega) h1.row.lt), h2.same (e _ h6 h2.lt), h3.grown hg (fun k e => .inr (by have := (hr k e).1; omega)), h4, h5, h6, h7⟩

theorem map_plF (key : ByteArray) (n t : Nat) (hn : 0 < n) : (upto (plF (hashK key) (stepK key) n hn) t).map Fin.val = plc key n t := by
  simp [upto, plc, plF, Function.comp_def]

set_option maxRecDepth 100000 in
set_option maxHeartbeats 2000000 in
theorem add_any (f s t : Nat) (l : List Bool) (key : ByteArray) (hk : key.size ≤ maxLen) (w : World) (h : FltIn w f s l t) :
    Calls Try.prog 37 #[.pointer (some ⟨f, 0, none⟩), .string key] w fun e w' => e = .returned (.tuple #[]) ∧ FltIn w' f s (setB l (plc key l.length t)) t ∧ Keep [s] w w' := by
  refine (callsIn_wide (n := 5)).1 ?_
  have cP : Hid (∀ W : World, CallsIn Fence.wide 4 Try.prog 52 #[.pointer (some ⟨f, 0, none⟩), .string key] W fun e w' => e = .returned (.func (.func 62) #[] #[.pointer (some ⟨W.heap.size + 1, 0, none⟩), .pointer (some ⟨W.heap.size, 0, none⟩)]) ∧
      w' = (W.alloc (.cells #[.pointer (some ⟨f, 0, none⟩)] 67)).alloc (.cells #[.string key] 9)) := fun W => callsIn_wide.2 (places_any f key W)
  refine callsIn_of_wp_marks Try.func37 rfl trivial ?_ rfl
  simp only [Try.ntmps37, List.size_toArray, List.length_cons, List.length_nil, Nat.reduceAdd, Nat.reduceSub, Array.replicate_succ, Array.replicate_zero, List.push_toArray, List.append_toArray, List.nil_append, List.cons_append]
  gi_wp2_with (refine ⟨trivial, ?_⟩; gi_at_call 52; refine (cP.out _).mono ?_; rintro e w' ⟨rfl, rfl⟩)
  obtain ⟨n, hnl⟩ : ∃ n, n = l.length := ⟨_, rfl⟩
  have hn : 0 < n := by have := h.n8; omega
  obtain ⟨W0, hW0⟩ : ∃ W0, ((w.alloc (.cells #[.pointer (some ⟨f, 0, none⟩)] 67)).alloc (.cells #[.pointer (some ⟨f, 0, none⟩)] 67)).alloc (.cells #[.string key] 9) = W0 := ⟨_, rfl⟩
  have b0 := (((Blk.new w [.pointer (some ⟨f, 0, none⟩)] 67).alloc (.cells #[.pointer (some ⟨f, 0, none⟩)] 67)).alloc (.cells #[.string key] 9))
  have b1 := (Blk.new (w.alloc (.cells #[.pointer (some ⟨f, 0, none⟩)] 67)) [.pointer (some ⟨f, 0, none⟩)] 67).alloc (.cells #[.string key] 9)
  have b2 := Blk.new ((w.alloc (.cells #[.pointer (some ⟨f, 0, none⟩)] 67)).alloc (.cells #[.pointer (some ⟨f, 0, none⟩)] 67)) [.string key] 9
  have hF0 := ((h.alloc (.cells #[.pointer (some ⟨f, 0, none⟩)] 67)).alloc (.cells #[.pointer (some ⟨f, 0, none⟩)] 67)).alloc (.cells #[.string key] 9)
  have K0 := (((Keep.refl [s] w).alloc (.cells #[.pointer (some ⟨f, 0, none⟩)] 67)).alloc (.cells #[.pointer (some ⟨f, 0, none⟩)] 67)).alloc (.cells #[.string key] 9)
  simp only [World.size_alloc, List.cons.injEq] at b0 b1 b2
  have hsz : W0.heap.size = w.heap.size + 3 := by rw [← hW0]; simp
  rw [hW0] at b0 b1 b2 hF0 K0
  simp only [hW0]
  clear cP
  have HX := hide hW0
  clear hW0
  refine wpIn_rangeFunc_ownF rfl (by omega) (gf := 62) (lb := #[.pointer (some ⟨w.heap.size + 1 + 1, 0, none⟩), .pointer (some ⟨w.heap.size + 1, 0, none⟩)]) rfl trivial (enters_of Try.func62 (by kernel_rfl) rfl)
    (places_stops (5 - 1) (by omega) (w.heap.size + 1 + 1) (w.heap.size + 1) f s n t key hk hn (by have := h.n9; omega) h.t8 W0 (b2.cell (i := 0) rfl) (b1.cell (i := 0) rfl) (by rw [hnl]; exact hF0.own.cell (i := 0) rfl) (hF0.own.cell (i := 1) rfl))
    (fun h k => KpB.t h k) (KpB.b (by rw [hsz]; omega) hF0.own.lt) (Below.refl _ _) (fun _ => rfl)
    (AddI w f s n t l W0.heap.size) (fun _ _ _ => False) AddI.own (fun _ _ _ _ _ hs _ _ => hs)
    ⟨hF0, b0, K0, h.own.lt, h.row.lt, by rw [hsz]; omega, hnl.symm⟩
    (fun x => { tmps := #[.pointer (some ⟨f, 0, none⟩), .string key, .pointer (some ⟨w.heap.size, 0, none⟩), undef, .int .i64 (x.val : Int), .pointer (some ⟨f, 0, none⟩), .string key, .func (.func 62) #[] #[.pointer (some ⟨w.heap.size + 1 + 1, 0, none⟩), .pointer (some ⟨w.heap.size + 1, 0, none⟩)], .int .i64 (x.val : Int), undef, undef, undef, undef, undef, undef], defers := [] }) ?assign ?body ?done ?stop
  case assign =>
    intro l x W K hK
    gi_wp2
    exact hK
  case body =>
    rintro l0 pre x W ⟨h1, h2, h3, h4, h5, h6, h7⟩ hp
    have c0 := h2.cell (i := 0) rfl
    have hln : (setB l (pre.map Fin.val)).length = n := by rw [setB_length, h7]
    have c1 := h1.own.cell (i := 0) rfl
    rw [hln] at c1
    have hx : (x.val : Int) < (n : Int) := by have := x.isLt; omega
    have hx2 : x.val < n := x.isLt
    have c2 : W.cell? ⟨s, x.val, none⟩ = some (.bool ((setB l (pre.map Fin.val)).getD x.val false)) := h1.row.cell (by rw [List.getElem?_map, List.getElem?_eq_getElem (by omega), List.getD_eq_getElem?_getD, List.getElem?_eq_getElem (by omega)]; rfl)
    have c3 := h1.row.frozen x.val
    have G := hide (And.intro h1 (And.intro h2 (And.intro h3 (And.intro h4 (And.intro h5 (And.intro h6 h7))))))
    clear h1 h2 h3 h4 h5 h6 h7 hln
    gi_wp2
    obtain ⟨h1, h2, h3, h4, h5, h6, h7⟩ := G.out
    refine ⟨KeepsOthers.setCell _ _ _, ?_, ?_, ?_, ?_, h4, h5, h6, h7⟩
    · exact KpB.of_blocks (blk_setCell_other _ _ _ _ (show w.heap.size + 1 ≠ s by omega)) (blk_setCell_other _ _ _ _ (show f ≠ s from h1.ne))
    · rw [List.map_append, List.map_cons, List.map_nil, setB_snoc]
      exact h1.set x.val
    · exact h2.other (a := ⟨s, x.val, none⟩) (show w.heap.size ≠ s by omega) _
    · exact h3.setCell (p := ⟨s, x.val, none⟩) (.inl (by simp)) _
  case done =>
    rintro D ys W hD rfl hI hK
    gi_wp2
    refine ⟨by simp, .inl ⟨_, _, rfl, run_takeDeferred hK, ?_⟩⟩
    have h8 := AddI.own (w := w) (f := f) (s := s) (n := n) (t := t) (l := l) (B := W0.heap.size) _ _ _ _ hI (grownBy_putObj' W D (.deferred none)) (fun r e => by cases e; exact ⟨hD, _, hK, rfl⟩)
    refine ⟨_, results_none rfl _ _ _, rfl, ?_, h8.2.2.1⟩
    have := h8.1
    rw [map_plF, hnl] at this
    exact this
  case stop =>
    rintro D c pre W _ _ h _
    exact h.elim
end Go.Proofs.Ytbccnfbombgdmaa.Bl
