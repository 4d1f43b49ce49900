/- Texts joined: BAdd, BMay. -/
import Derived.Test.YtbccnfbombgdmaaGreatJ14
/- Add: a key's bits are set. -/
set_option linter.unusedVariables false
set_option linter.unusedSimpArgs false
namespace Go.Proofs.YtbccnfbombgdmaaGreat.Bl
open Go.RowKit Go.Shelf Go.Deep Math
attribute [local go_sem] Oper.semAt_some

theorem grown_at {W W' : World} {row : Option Nat} (hg : W.grownBy W' row) {B : Nat} (hr : ∀ r, row = some r → B ≤ r) {k : Nat} (hk : k < B) (hs : k < W.heap.size) : W'.heap[k]? = W.heap[k]? :=
  hg.block k hs (fun e => by have := hr k e.symm; omega)

/-- What holds between two rounds of Add. -/
def AddI (w : World) (f s n t : Nat) (l : List Bool) (B : Nat) (pre : List (Fin n)) (W : World) : Prop :=
  FltIn W f s (setB l (pre.map Fin.val)) t ∧ Blk W w.heap.size [.pointer (some ⟨f, 0, none⟩)] 73 ∧ Keep [s] w W ∧ f < w.heap.size ∧ s < w.heap.size ∧ w.heap.size < B ∧ l.length = n
theorem AddI.own {w : World} {f s n t : Nat} {l : List Bool} {B : Nat} : OwnFrom B (AddI w f s n t l B) := by
  rintro pre W W' row ⟨h1, h2, h3, h4, h5, h6, h7⟩ hg hr
  have e : ∀ k, k < B → k < W.heap.size → W'.heap[k]? = W.heap[k]? := fun k hk hs => grown_at hg (fun r e => (hr r e).1) hk hs
  exact ⟨h1.same (e _ (by omega) h1.own.lt) (e _ (by omega) h1.row.lt), h2.same (e _ h6 h2.lt), h3.grown hg (fun k e => .inr (by have := (hr k e).1; omega)), h4, h5, h6, h7⟩

theorem map_plF (key : ByteArray) (n t : Nat) (hn : 0 < n) : (upto (plF (hashK key) (stepK key) n hn) t).map Fin.val = plc key n t := by
  simp [upto, plc, plF, Function.comp_def]

set_option maxRecDepth 100000 in
set_option maxHeartbeats 2000000 in
theorem add_any (f s t : Nat) (l : List Bool) (key : ByteArray) (hk : key.size ≤ maxLen) (w : World) (h : FltIn w f s l t) :
    Calls Tryz.prog 34 #[.pointer (some ⟨f, 0, none⟩), .string key] w fun e w' => e = .returned (.tuple #[]) ∧ FltIn w' f s (setB l (plc key l.length t)) t ∧ Keep [s] w w' := by
  refine (callsIn_wide (n := 5)).1 ?_
  have cP : Hid (∀ W : World, CallsIn Fence.wide 4 Tryz.prog 68 #[.pointer (some ⟨f, 0, none⟩), .string key] W fun e w' => e = .returned (.func (.func 87) #[] #[.pointer (some ⟨W.heap.size + 1, 0, none⟩), .pointer (some ⟨W.heap.size, 0, none⟩)]) ∧
      w' = (W.alloc (.cells #[.pointer (some ⟨f, 0, none⟩)] 73)).alloc (.cells #[.string key] 9)) := fun W => callsIn_wide.2 (places_any f key W)
  refine callsIn_of_wp_marks Tryz.func34 rfl trivial ?_ rfl
  simp only [Tryz.ntmps34, List.size_toArray, List.length_cons, List.length_nil, Nat.reduceAdd, Nat.reduceSub, Array.replicate_succ, Array.replicate_zero, List.push_toArray, List.append_toArray, List.nil_append, List.cons_append]
  gi_wp2_with (refine ⟨trivial, ?_⟩; gi_at_call 68; refine (cP.out _).mono ?_; rintro e w' ⟨rfl, rfl⟩)
  obtain ⟨n, hnl⟩ : ∃ n, n = l.length := ⟨_, rfl⟩
  have hn : 0 < n := by have := h.n8; omega
  obtain ⟨W0, hW0⟩ : ∃ W0, ((w.alloc (.cells #[.pointer (some ⟨f, 0, none⟩)] 73)).alloc (.cells #[.pointer (some ⟨f, 0, none⟩)] 73)).alloc (.cells #[.string key] 9) = W0 := ⟨_, rfl⟩
  have b0 := (((Blk.new w [.pointer (some ⟨f, 0, none⟩)] 73).alloc (.cells #[.pointer (some ⟨f, 0, none⟩)] 73)).alloc (.cells #[.string key] 9))
  have b1 := (Blk.new (w.alloc (.cells #[.pointer (some ⟨f, 0, none⟩)] 73)) [.pointer (some ⟨f, 0, none⟩)] 73).alloc (.cells #[.string key] 9)
  have b2 := Blk.new ((w.alloc (.cells #[.pointer (some ⟨f, 0, none⟩)] 73)).alloc (.cells #[.pointer (some ⟨f, 0, none⟩)] 73)) [.string key] 9
  have hF0 := ((h.alloc (.cells #[.pointer (some ⟨f, 0, none⟩)] 73)).alloc (.cells #[.pointer (some ⟨f, 0, none⟩)] 73)).alloc (.cells #[.string key] 9)
  have K0 := (((Keep.refl [s] w).alloc (.cells #[.pointer (some ⟨f, 0, none⟩)] 73)).alloc (.cells #[.pointer (some ⟨f, 0, none⟩)] 73)).alloc (.cells #[.string key] 9)
  simp only [World.size_alloc, List.cons.injEq] at b0 b1 b2
  have hsz : W0.heap.size = w.heap.size + 3 := by rw [← hW0]; simp
  rw [hW0] at b0 b1 b2 hF0 K0
  simp only [hW0]
  clear cP
  have HX := hide hW0
  clear hW0
  refine wpIn_rangeFunc_ownF rfl (by omega) (gf := 87) (lb := #[.pointer (some ⟨w.heap.size + 1 + 1, 0, none⟩), .pointer (some ⟨w.heap.size + 1, 0, none⟩)]) rfl trivial (enters_of Tryz.func87 (by kernel_rfl) rfl)
    (places_stops (5 - 1) (by omega) (w.heap.size + 1 + 1) (w.heap.size + 1) f s n t key hk hn (by have := h.n9; omega) h.t8 W0 (b2.cell (i := 0) rfl) (b1.cell (i := 0) rfl) (by rw [hnl]; exact hF0.own.cell (i := 0) rfl) (hF0.own.cell (i := 1) rfl))
    (fun h k => KpB.t h k) (KpB.b (by rw [hsz]; omega) hF0.own.lt) (Below.refl _ _) (fun _ => rfl)
    (AddI w f s n t l W0.heap.size) (fun _ _ _ => False) AddI.own (fun _ _ _ _ _ hs _ _ => hs)
    ⟨hF0, b0, K0, h.own.lt, h.row.lt, by rw [hsz]; omega, hnl.symm⟩
    (fun x => { tmps := #[.pointer (some ⟨f, 0, none⟩), .string key, .pointer (some ⟨w.heap.size, 0, none⟩), undef, .int .i64 (x.val : Int), .pointer (some ⟨f, 0, none⟩), .string key, .func (.func 87) #[] #[.pointer (some ⟨w.heap.size + 1 + 1, 0, none⟩), .pointer (some ⟨w.heap.size + 1, 0, none⟩)], .int .i64 (x.val : Int), undef, undef, undef, undef, undef, undef], defers := [] }) ?assign ?body ?done ?stop
  case assign =>
    intro l x W K hK
    gi_wp2
    exact hK
  case body =>
    rintro l0 pre x W ⟨h1, h2, h3, h4, h5, h6, h7⟩ hp
    have c0 := h2.cell (i := 0) rfl
    have hln : (setB l (pre.map Fin.val)).length = n := by rw [setB_length, h7]
    have c1 := h1.own.cell (i := 0) rfl
    rw [hln] at c1
    have hx : (x.val : Int) < (n : Int) := by have := x.isLt; omega
    have hx2 : x.val < n := x.isLt
    have c2 : W.cell? ⟨s, x.val, none⟩ = some (.bool ((setB l (pre.map Fin.val)).getD x.val false)) := h1.row.cell (by rw [List.getElem?_map, List.getElem?_eq_getElem (by omega), List.getD_eq_getElem?_getD, List.getElem?_eq_getElem (by omega)]; rfl)
    have c3 := h1.row.frozen x.val
    have G := hide (And.intro h1 (And.intro h2 (And.intro h3 (And.intro h4 (And.intro h5 (And.intro h6 h7))))))
    clear h1 h2 h3 h4 h5 h6 h7 hln
    gi_wp2
    obtain ⟨h1, h2, h3, h4, h5, h6, h7⟩ := G.out
    refine ⟨KeepsOthers.setCell _ _ _, ?_, ?_, ?_, ?_, h4, h5, h6, h7⟩
    · exact KpB.of_blocks (blk_setCell_other _ _ _ _ (show w.heap.size + 1 ≠ s by omega)) (blk_setCell_other _ _ _ _ (show f ≠ s from h1.ne))
    · rw [List.map_append, List.map_cons, List.map_nil, setB_snoc]
      exact h1.set x.val
    · exact h2.other (a := ⟨s, x.val, none⟩) (show w.heap.size ≠ s by omega) _
    · exact h3.setCell (p := ⟨s, x.val, none⟩) (.inl (by simp)) _
  case done =>
    rintro D ys W hD rfl hI hK
    gi_wp2
    refine ⟨by simp, .inl ⟨_, _, rfl, run_takeDeferred hK, ?_⟩⟩
    have h8 := AddI.own (w := w) (f := f) (s := s) (n := n) (t := t) (l := l) (B := W0.heap.size) _ _ _ _ hI (grownBy_putObj' W D (.deferred none)) (fun r e => by cases e; exact ⟨hD, _, hK, rfl⟩)
    refine ⟨_, results_none rfl _ _ _, rfl, ?_, h8.2.2.1⟩
    have := h8.1
    rw [map_plF, hnl] at this
    exact this
  case stop =>
    rintro D c pre W _ _ h _
    exact h.elim
end Go.Proofs.YtbccnfbombgdmaaGreat.Bl

/- May: are all of a key's bits set? -/
set_option linter.unusedVariables false
set_option linter.unusedSimpArgs false
namespace Go.Proofs.YtbccnfbombgdmaaGreat.Bl
open Go.RowKit Go.Shelf Go.Deep Math
attribute [local go_sem] Oper.semAt_some

def mayB (l : List Bool) (ps : List Nat) : Bool := ps.all fun i => l.getD i false
theorem mayB_snoc (l : List Bool) (ps : List Nat) (i : Nat) : mayB l (ps ++ [i]) = (mayB l ps && l.getD i false) := by simp [mayB]

/-- What holds in May, the bits so far having said c. -/
structure MayS (w : World) (f s t : Nat) (l : List Bool) (B : Nat) (W : World) : Prop where
  flt : FltIn W f s l t
  box : Blk W w.heap.size [.pointer (some ⟨f, 0, none⟩)] 73
  res : Blk W (w.heap.size + 1) [.bool false] 4
  bel : Below w.heap.size w W
  lf : f < w.heap.size
  ls : s < w.heap.size
  lb : w.heap.size + 1 < B
theorem MayS.turn {w : World} {f s t : Nat} {l : List Bool} {B : Nat} {W W' : World} {row : Option Nat} (h : MayS w f s t l B W) (hg : W.grownBy W' row) (hr : ∀ r, row = some r → B ≤ r) : MayS w f s t l B W' := by
  obtain ⟨h1, h2, h3, h4, h5, h6, h7⟩ := h
  have e : ∀ k, k < B → k < W.heap.size → W'.heap[k]? = W.heap[k]? := fun k hk hs => grown_at hg hr hk hs
  exact ⟨h1.same (e _ (by omega) h1.own.lt) (e _ (by omega) h1.row.lt), h2.same (e _ (by omega) h2.lt), h3.same (e _ (by omega) h3.lt), h4.grown hg (h4.size) (fun k e => by have := hr k e; omega), h5, h6, h7⟩

def MayI (w : World) (f s n t : Nat) (l : List Bool) (B : Nat) (pre : List (Fin n)) (W : World) : Prop := MayS w f s t l B W ∧ mayB l (pre.map Fin.val) = true
def MayX (w : World) (f s n t : Nat) (l : List Bool) (B : Nat) (c : Code) (pre : List (Fin n)) (W : World) : Prop := c = .ret ∧ MayS w f s t l B W ∧ mayB l (pre.map Fin.val) = false
theorem MayI.own {w : World} {f s n t : Nat} {l : List Bool} {B : Nat} : OwnFrom B (MayI w f s n t l B) :=
  fun _ _ _ _ h hg hr => ⟨h.1.turn hg (fun r e => (hr r e).1), h.2⟩
theorem MayX.own {w : World} {f s n t : Nat} {l : List Bool} {B : Nat} (c : Code) : OwnFrom B (MayX w f s n t l B c) :=
  fun _ _ _ _ h hg hr => ⟨h.1, h.2.1.turn hg (fun r e => (hr r e).1), h.2.2⟩

theorem upto_prefix {α : Type} (f : Nat → α) (k t : Nat) (h : k ≤ t) : upto f k <+: upto f t := by
  obtain ⟨d, rfl⟩ := Nat.exists_eq_add_of_le h
  induction d with
  | zero => exact List.prefix_refl _
  | succ d ih => rw [← Nat.add_assoc, upto_succ]; exact (ih (by omega)).trans (List.prefix_append _ _)
theorem mayB_prefix {l : List Bool} {p q : List Nat} (h : p <+: q) (hp : mayB l p = false) : mayB l q = false := by
  obtain ⟨r, rfl⟩ := h
  unfold mayB at hp ⊢
  rw [List.all_append, hp, Bool.false_and]

set_option maxRecDepth 100000 in
set_option maxHeartbeats 2000000 in
theorem may_any (f s t : Nat) (l : List Bool) (key : ByteArray) (hk : key.size ≤ maxLen) (w : World) (h : FltIn w f s l t) :
    Calls Tryz.prog 44 #[.pointer (some ⟨f, 0, none⟩), .string key] w fun e w' => e = .returned (.bool (mayB l (plc key l.length t))) ∧ Below w.heap.size w w' := by
  refine (callsIn_wide (n := 5)).1 ?_
  have cP : Hid (∀ W : World, CallsIn Fence.wide 4 Tryz.prog 68 #[.pointer (some ⟨f, 0, none⟩), .string key] W fun e w' => e = .returned (.func (.func 87) #[] #[.pointer (some ⟨W.heap.size + 1, 0, none⟩), .pointer (some ⟨W.heap.size, 0, none⟩)]) ∧
      w' = (W.alloc (.cells #[.pointer (some ⟨f, 0, none⟩)] 73)).alloc (.cells #[.string key] 9)) := fun W => callsIn_wide.2 (places_any f key W)
  refine callsIn_of_wp_marks Tryz.func44 rfl trivial ?_ rfl
  simp only [Tryz.ntmps44, List.size_toArray, List.length_cons, List.length_nil, Nat.reduceAdd, Nat.reduceSub, Array.replicate_succ, Array.replicate_zero, List.push_toArray, List.append_toArray, List.nil_append, List.cons_append]
  gi_wp2_with (refine ⟨trivial, ?_⟩; gi_at_call 68; refine (cP.out _).mono ?_; rintro e w' ⟨rfl, rfl⟩)
  obtain ⟨n, hnl⟩ : ∃ n, n = l.length := ⟨_, rfl⟩
  have hn : 0 < n := by have := h.n8; omega
  obtain ⟨W0, hW0⟩ : ∃ W0, (((w.alloc (.cells #[.pointer (some ⟨f, 0, none⟩)] 73)).alloc (.cells #[.bool false] 4)).alloc (.cells #[.pointer (some ⟨f, 0, none⟩)] 73)).alloc (.cells #[.string key] 9) = W0 := ⟨_, rfl⟩
  have b0 := ((((Blk.new w [.pointer (some ⟨f, 0, none⟩)] 73).alloc (.cells #[.bool false] 4)).alloc (.cells #[.pointer (some ⟨f, 0, none⟩)] 73)).alloc (.cells #[.string key] 9))
  have br := ((Blk.new (w.alloc (.cells #[.pointer (some ⟨f, 0, none⟩)] 73)) [.bool false] 4).alloc (.cells #[.pointer (some ⟨f, 0, none⟩)] 73)).alloc (.cells #[.string key] 9)
  have b1 := (Blk.new ((w.alloc (.cells #[.pointer (some ⟨f, 0, none⟩)] 73)).alloc (.cells #[.bool false] 4)) [.pointer (some ⟨f, 0, none⟩)] 73).alloc (.cells #[.string key] 9)
  have b2 := Blk.new (((w.alloc (.cells #[.pointer (some ⟨f, 0, none⟩)] 73)).alloc (.cells #[.bool false] 4)).alloc (.cells #[.pointer (some ⟨f, 0, none⟩)] 73)) [.string key] 9
  have hF0 := (((h.alloc (.cells #[.pointer (some ⟨f, 0, none⟩)] 73)).alloc (.cells #[.bool false] 4)).alloc (.cells #[.pointer (some ⟨f, 0, none⟩)] 73)).alloc (.cells #[.string key] 9)
  have K0 : Below w.heap.size w ((((w.alloc (.cells #[.pointer (some ⟨f, 0, none⟩)] 73)).alloc (.cells #[.bool false] 4)).alloc (.cells #[.pointer (some ⟨f, 0, none⟩)] 73)).alloc (.cells #[.string key] 9)) := ((((Below.refl _ w).alloc (Nat.le_refl _) _).alloc (by simp) _).alloc (by simp; omega) _).alloc (by simp; omega) _
  simp only [World.size_alloc, List.cons.injEq] at b0 b1 b2 br
  have hsz : W0.heap.size = w.heap.size + 4 := by rw [← hW0]; simp
  rw [hW0] at b0 b1 b2 br hF0 K0
  simp only [hW0]
  clear cP
  have HX := hide hW0
  clear hW0
  refine wpIn_rangeFunc_ownF rfl (by omega) (gf := 87) (lb := #[.pointer (some ⟨w.heap.size + 1 + 1 + 1, 0, none⟩), .pointer (some ⟨w.heap.size + 1 + 1, 0, none⟩)]) rfl trivial (enters_of Tryz.func87 (by kernel_rfl) rfl)
    (places_stops (5 - 1) (by omega) (w.heap.size + 1 + 1 + 1) (w.heap.size + 1 + 1) f s n t key hk hn (by have := h.n9; omega) h.t8 W0 (b2.cell (i := 0) rfl) (b1.cell (i := 0) rfl) (by rw [hnl]; exact hF0.own.cell (i := 0) rfl) (hF0.own.cell (i := 1) rfl))
    (fun h k => KpB.t h k) (KpB.b (by rw [hsz]; omega) hF0.own.lt) (Below.refl _ _) (fun _ => rfl)
    (MayI w f s n t l W0.heap.size) (MayX w f s n t l W0.heap.size) MayI.own MayX.own
    ⟨⟨hF0, b0, br, K0, h.own.lt, h.row.lt, by rw [hsz]; omega⟩, rfl⟩
    (fun x => { tmps := #[.pointer (some ⟨f, 0, none⟩), .string key, .pointer (some ⟨w.heap.size, 0, none⟩), undef, .pointer (some ⟨w.heap.size + 1, 0, none⟩), .int .i64 (x.val : Int), .pointer (some ⟨f, 0, none⟩), .string key, .func (.func 87) #[] #[.pointer (some ⟨w.heap.size + 1 + 1 + 1, 0, none⟩), .pointer (some ⟨w.heap.size + 1 + 1, 0, none⟩)], .int .i64 (x.val : Int), undef, undef, undef, undef, undef, undef, undef, undef], defers := [] }) ?assign ?body ?done ?stop
  case assign =>
    intro l x W K hK
    gi_wp2
    exact hK
  case body =>
    rintro l0 pre x W ⟨h1, hm⟩ hp
    have c0 := h1.box.cell (i := 0) rfl
    have c1 := h1.flt.own.cell (i := 0) rfl
    rw [← hnl] at c1
    have hx : (x.val : Int) < (n : Int) := by have := x.isLt; omega
    have hx2 : x.val < n := x.isLt
    have c2 : W.cell? ⟨s, x.val, none⟩ = some (.bool (l.getD x.val false)) := h1.flt.row.cell (by rw [List.getElem?_map, List.getElem?_eq_getElem (by omega), List.getD_eq_getElem?_getD, List.getElem?_eq_getElem (by omega)]; rfl)
    have r0 := h1.res.cell (i := 0) rfl
    have r1 := h1.res.frozen 0
    have G := hide (And.intro h1 hm)
    have HN := hide hnl
    clear h1 hm h b0 b1 b2 br hF0 K0 HX hsz hnl
    cases hb : l.getD x.val false
    · rw [hb] at c2
      gi_wp2
      obtain ⟨h1, hm⟩ := G.out
      refine ⟨KeepsOthers.setCell _ _ _, rfl, ⟨h1.flt.same (blk_setCell_other _ _ _ _ (show f ≠ w.heap.size + 1 by have := h1.lf; omega)) (blk_setCell_other _ _ _ _ (show s ≠ w.heap.size + 1 by have := h1.ls; omega)), h1.box.other (a := ⟨w.heap.size + 1, 0, none⟩) (show w.heap.size ≠ w.heap.size + 1 by omega) _, ?_, h1.bel.setCell (p := ⟨w.heap.size + 1, 0, none⟩) (by simp) _, h1.lf, h1.ls, h1.lb⟩, ?_⟩
      · exact h1.res.set 0 (.bool false)
      · rw [List.map_append, List.map_cons, List.map_nil, mayB_snoc, hb, Bool.and_false]
    · rw [hb] at c2
      gi_wp2
      obtain ⟨h1, hm⟩ := G.out
      exact ⟨KeepsOthers.refl _, KpB.of_blocks rfl rfl, h1, by rw [List.map_append, List.map_cons, List.map_nil, mayB_snoc, hb, Bool.and_true, hm]⟩
  case done =>
    rintro D ys W hD rfl hI hK
    have r0 := hI.1.res.cell (i := 0) rfl
    have r1 := hI.1.res.frozen 0
    have G := hide hI
    clear hI h b0 b1 b2 br hF0 K0 HX
    gi_wp2
    have hK' := (KeepsOthers.setCell W ⟨w.heap.size + 1, 0, none⟩ (.bool true)).same D _ hK rfl
    refine ⟨by simp, .inl ⟨_, _, rfl, run_takeDeferred hK', ?_⟩⟩
    have hc5 := cell_kept (World.cell?_setCell_same' W ⟨w.heap.size + 1, 0, none⟩ (.bool true) (by rw [r0]; rfl)) (grownBy_putObj' _ D (.deferred none)) (fun r e => by cases e; exact ⟨_, hK', rfl⟩)
    refine ⟨.bool true, ?_, ?_, ?_⟩
    · simp [results, Tryz.f44, go_sem, hc5]
    · have := G.out.2
      rw [map_plF, hnl] at this
      rw [this]
    · exact (G.out.1.bel.setCell (p := ⟨w.heap.size + 1, 0, none⟩) (by simp) _).trans (belowK_b (w := w) (Nat.le_refl _) _ D _ _ (by rw [hsz] at hD; omega) hK' rfl rfl)
  case stop =>
    rintro D c pre W hD hpre ⟨rfl, h1, hm⟩ hK
    have r0 := h1.res.cell (i := 0) rfl
    have G := hide h1
    clear h1 h b0 b1 b2 br hF0 K0 HX
    gi_wp2
    refine ⟨by simp, .inl ⟨_, _, rfl, run_takeDeferred hK, ?_⟩⟩
    have hc5 := cell_kept r0 (grownBy_putObj' _ D (.deferred none)) (fun r e => by cases e; exact ⟨_, hK, rfl⟩)
    refine ⟨.bool false, ?_, ?_, ?_⟩
    · simp [results, Tryz.f44, go_sem, hc5]
    · obtain ⟨k, hkt, rfl⟩ := hpre
      rw [map_plF] at hm
      have e : mayB l (plc key n t) = false := mayB_prefix (upto_prefix _ _ _ hkt) hm
      rw [← hnl, e]
    · exact G.out.bel.trans (belowK_b (w := w) (Nat.le_refl _) W D _ _ (by rw [hsz] at hD; omega) hK rfl rfl)
end Go.Proofs.YtbccnfbombgdmaaGreat.Bl
