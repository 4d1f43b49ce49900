/- Joined texts: Dev, Ins, Search, Hold. -/
import Derived.Test.YtanbbmlekebhhaaChecked
import Derived.Test.YtanbbmlekebhhaaIdeal
import Derived.WalkSmall
import Derived.Deep.QuietTactic
import Derived.BigQuiet
import Derived.Lib.AppendZerosOnto
import Derived.Lib.Overlaps
import Derived.Lib.SliceRun
import Derived.Lib.JoinLaws
import Derived.Lib.Walk
import Derived.Shelf.Spec.SlicesInsert
import Derived.Deep.LoopGhost
/- A device in memory, and the small calls on it. -/
set_option linter.unusedVariables false
set_option linter.unusedSimpArgs false
namespace Go.Proofs.Ytanbbmlekebhhaa
open Go.RowKit Go.Deep

def wtVal (wv : Value) : Prop := ∃ a n c, wv = .slice a n c

/-- The cells of a device's own block. -/
def dvCells (p : Nat) (pd : List Value) (wa : Option Addr) (wn wc : Nat) (S : Dv) : List Value :=
  [.slice (some ⟨p, 0, none⟩) S.cs.length (S.cs.length + pd.length / 2), .slice wa wn wc, .int .i64 S.armed, .bool S.off, .int .i64 S.losses, .int .i64 S.wr, .int .i64 S.fl, .int .i64 S.rd, .int .i64 S.cr]

/-- The device d: its own block, its pages' row p, the row of what waits. -/
structure DvIn (w : World) (d p : Nat) (pd : List Value) (wa : Option Addr) (wc : Nat) (S : Dv) : Prop where
  dev : Blk w d (dvCells p pd wa (wl 0 S.cs).length wc S) 65
  row : Blk w p (pgRow S.cs ++ pd) 93
  own : w.ownsRow 0 106 3 (.slice wa (wl 0 S.cs).length wc) (wl 0 S.cs).length (wtRow (wl 0 S.cs))
  dp : d ≠ p
  dq : ∀ a, wa = some a → a.block ≠ d ∧ a.block ≠ p
  good : S.good

def foot (d p : Nat) (wa : Option Addr) : List Nat := d :: p :: (wa.map (·.block)).toList

def DvAt (w : World) (d : Nat) (F : List Nat) (S : Dv) : Prop := ∃ p pd wa wc, F = foot d p wa ∧ DvIn w d p pd wa wc S

/-- A store into the device's own block alone. -/
theorem DvIn.turn {w w' : World} {d p : Nat} {pd : List Value} {wa : Option Addr} {wc : Nat} {S S' : Dv} (h : DvIn w d p pd wa wc S) (hk : Keep [d] w w')
    (hb : Blk w' d (dvCells p pd wa (wl 0 S.cs).length wc S') 65) (hcs : S'.cs = S.cs) (hg : S'.good) : DvIn w' d p pd wa wc S' := by
  refine ⟨by rw [hcs]; exact hb, by rw [hcs]; exact h.row.same (hk.block p h.row.lt (by simpa using Ne.symm h.dp)), ?_, h.dp, h.dq, hg⟩
  rw [hcs]
  obtain ⟨h1, h2⟩ := h.own
  refine ⟨h1, ?_⟩
  rcases h2 with h2 | ⟨g, cap, cur, hv, hg0, hh, r⟩
  · exact .inl h2
  · refine .inr ⟨g, cap, cur, hv, hg0, ?_, r⟩
    have hlt : g < w.heap.size := (Array.getElem?_eq_some_iff.1 hh).1
    simp only [Value.slice.injEq] at hv
    rw [hk.block g hlt (by simpa using (h.dq _ hv.1).1)]
    exact hh

theorem DvIn.same {w w' : World} {d p : Nat} {pd : List Value} {wa : Option Addr} {wc : Nat} {S : Dv} (h : DvIn w d p pd wa wc S) (hk : ∀ k ∈ foot d p wa, w'.heap[k]? = w.heap[k]?) : DvIn w' d p pd wa wc S := by
  refine ⟨h.dev.same (hk d (by simp [foot])), h.row.same (hk p (by simp [foot])), ?_, h.dp, h.dq, h.good⟩
  obtain ⟨h1, h2⟩ := h.own
  refine ⟨h1, ?_⟩
  rcases h2 with h2 | ⟨g, cap, cur, hv, hg0, hh, r⟩
  · exact .inl h2
  · refine .inr ⟨g, cap, cur, hv, hg0, ?_, r⟩
    simp only [Value.slice.injEq] at hv
    rw [hk g (by simp [foot, hv.1])]
    exact hh

theorem DvIn.lt {w : World} {d p : Nat} {pd : List Value} {wa : Option Addr} {wc : Nat} {S : Dv} (h : DvIn w d p pd wa wc S) : ∀ k ∈ foot d p wa, k < w.heap.size := by
  intro k hk
  simp only [foot, List.mem_cons] at hk
  rcases hk with rfl | rfl | hk
  · exact h.dev.lt
  · exact h.row.lt
  · cases wa with
    | none => simp at hk
    | some a =>
      simp at hk
      subst hk
      exact (h.own.lt a.block rfl).2

theorem DvAt.same {w w' : World} {d : Nat} {F : List Nat} {S : Dv} (h : DvAt w d F S) (hk : ∀ k ∈ F, w'.heap[k]? = w.heap[k]?) : DvAt w' d F S := by
  obtain ⟨p, pd, wa, wc, rfl, h⟩ := h
  exact ⟨p, pd, wa, wc, rfl, h.same hk⟩
theorem DvAt.lt {w : World} {d : Nat} {F : List Nat} {S : Dv} (h : DvAt w d F S) : ∀ k ∈ F, k < w.heap.size := by
  obtain ⟨p, pd, wa, wc, rfl, h⟩ := h
  exact h.lt
theorem DvAt.good {w : World} {d : Nat} {F : List Nat} {S : Dv} (h : DvAt w d F S) : S.good := by
  obtain ⟨p, pd, wa, wc, rfl, h⟩ := h
  exact h.good

set_option maxHeartbeats 400000 in
theorem gone_any (d p : Nat) (pd : List Value) (wa : Option Addr) (wc : Nat) (S : Dv) (w : World) (h : DvIn w d p pd wa wc S) :
    Calls Try.prog 60 #[.pointer (some ⟨d, 0, none⟩)] w fun e w' => e = .returned (.bool S.gone) ∧ DvIn w' d p pd wa wc S.used ∧ Keep [d] w w' := by
  have c2 := h.dev.cell (i := 2) rfl
  have c3 := h.dev.cell (i := 3) rfl
  have c4 := h.dev.cell (i := 4) rfl
  have f2 := h.dev.frozen 2
  have f3 := h.dev.frozen 3
  have f4 := h.dev.frozen 4
  have H : Hid (DvIn w d p pd wa wc S) := h
  have G : Hid _ := Dv.used_good h.good
  have A : Hid _ := h.good.armed
  clear h
  obtain ⟨cs, armed, off, losses, wr, fl, rd, cr⟩ := S
  simp only at c2 c3 c4
  cases off
  · by_cases h0 : armed = 0
    · subst h0
      go_enter Try.func60, Try.ntmps60
      go_wp2
      go_ret
      exact ⟨rfl, H.out, Keep.refl _ _⟩
    · by_cases h1 : armed = 1
      · subst h1
        go_enter Try.func60, Try.ntmps60
        go_wp2
        go_ret
        have K : Keep [d] w (((w.setCell ⟨d, 2, none⟩ (.int .i64 0)).setCell ⟨d, 3, none⟩ (.bool true)).setCell ⟨d, 4, none⟩ (.int .i64 (wrap64 (losses + 1)))) :=
          (((Keep.refl [d] w).setCell (.inl (by simp)) _).setCell (.inl (by simp)) _).setCell (.inl (by simp)) _
        refine ⟨rfl, H.out.turn K ?_ rfl G.out, K⟩
        exact ((H.out.dev.set 2 _).set 3 _).set 4 _
      · have a1 : (armed : Int) - 1 = ((armed - 1 : Nat) : Int) := by omega
        have a2 : ¬ ((armed : Int) - 1 = 0) := by omega
        have a3 : (armed : Int) ≤ 9223372036854775807 := by have := A.out; simp only at this; omega
        have a4 : ¬ ((armed : Int) = 0) := by omega
        have a5 : wrap64 ((armed : Int) - 1) = (armed : Int) - 1 := by unfold wrap64; omega
        have eg : Hid ((⟨cs, armed, false, losses, wr, fl, rd, cr⟩ : Dv).gone = false) := by simp [Hid, Dv.gone, h1]
        have eu : Hid ((⟨cs, armed, false, losses, wr, fl, rd, cr⟩ : Dv).used = ⟨cs, armed - 1, false, losses, wr, fl, rd, cr⟩) := by simp [Hid, Dv.used, h0, h1]
        have a1' : Hid _ := a1
        clear h0 h1 a1
        go_enter Try.func60, Try.ntmps60
        go_wp2
        go_ret
        rw [eu.out] at G
        rw [eg.out, eu.out]
        have K : Keep [d] w (w.setCell ⟨d, 2, none⟩ (.int .i64 ((armed : Int) - 1))) := (Keep.refl [d] w).setCell (.inl (by simp)) _
        refine ⟨rfl, H.out.turn K ?_ rfl G.out, K⟩
        rw [a1'.out]
        exact H.out.dev.set 2 _
  · go_enter Try.func60, Try.ntmps60
    go_wp2
    go_ret
    exact ⟨rfl, H.out, Keep.refl _ _⟩

def S39 (cs : List Cl) (armed : Nat) (off : Bool) (losses wr fl rd cr k : Int) : Bool := (⟨cs, armed, off, losses, wr, fl, rd, cr⟩ : Dv).has k

set_option maxHeartbeats 400000 in
theorem has_any (d p : Nat) (pd : List Value) (wa : Option Addr) (wc : Nat) (S : Dv) (w : World) (h : DvIn w d p pd wa wc S) (k : Int) :
    Calls Try.prog 51 #[.pointer (some ⟨d, 0, none⟩), .int .i64 k] w fun e w' => e = .returned (.bool (S.has k)) ∧ w' = w := by
  have c0 := h.dev.cell (i := 0) rfl
  clear h
  obtain ⟨cs, armed, off, losses, wr, fl, rd, cr⟩ := S
  simp only at c0
  by_cases h0 : 0 ≤ k
  · go_enter Try.func51, Try.ntmps51
    go_wp2
    go_ret
    exact ⟨by simp [Dv.has, h0], rfl⟩
  · have e : Hid (S39 cs armed off losses wr fl rd cr k = false) := by simp only [Hid, S39, Dv.has, decide_eq_false h0, Bool.false_and]
    unfold S39 at e
    go_enter Try.func51, Try.ntmps51
    go_wp2
    go_ret
    exact ⟨by rw [e.out]; rfl, rfl⟩

set_option maxHeartbeats 400000 in
theorem pages_any (d p : Nat) (pd : List Value) (wa : Option Addr) (wc : Nat) (S : Dv) (w : World) (h : DvIn w d p pd wa wc S) :
    Calls Try.prog 45 #[.pointer (some ⟨d, 0, none⟩)] w fun e w' => e = .returned (.int .i64 S.cs.length) ∧ w' = w := by
  have c0 := h.dev.cell (i := 0) rfl
  clear h
  go_enter Try.func45, Try.ntmps45
  go_wp2
  go_ret
  exact ⟨rfl, rfl⟩

set_option maxHeartbeats 400000 in
theorem losses_any (d p : Nat) (pd : List Value) (wa : Option Addr) (wc : Nat) (S : Dv) (w : World) (h : DvIn w d p pd wa wc S) :
    Calls Try.prog 47 #[.pointer (some ⟨d, 0, none⟩)] w fun e w' => e = .returned (.int .i64 S.losses) ∧ w' = w := by
  have c4 := h.dev.cell (i := 4) rfl
  clear h
  go_enter Try.func47, Try.ntmps47
  go_wp2
  go_ret
  exact ⟨rfl, rfl⟩

end Go.Proofs.Ytanbbmlekebhhaa

/- slices.Insert of one element of three cells. -/
set_option linter.unusedVariables false
set_option linter.unusedSimpArgs false
set_option maxRecDepth 8000
namespace Go.Proofs.Ytanbbmlekebhhaa
open Go.RowKit Go.Deep

def zero73 : Value := .agg #[.int .i64 0, .int .u8 0, .string ⟨#[]⟩]
theorem info73 : (Try.prog.info? 106).map (fun i => (i.zero, i.size, i.bytes)) = some (some zero73, 3, 32) := by kernel_rfl
theorem info71 : (Try.prog.info? 93).map (fun i => (i.zero, i.size, i.bytes)) = some (some (.agg #[.int .u8 0, .string ⟨#[]⟩]), 2, 24) := by kernel_rfl

theorem run_copy_cellsK {P : Program} (w : World) (dT sT ty elem : TypeId) (b o dLen dCap : Nat) (a : Addr) (sLen sCap k : Nat) (cs : List Value)
    (hu : P.underlying dT = some (.slice elem)) (hs : (P.info? elem).map (·.size) = some k) (hk : 0 < k) (hn : cs.length = Nat.min sLen dLen * k)
    (hsrc : ∀ j v, cs[j]? = some v → w.cell? (a.add j) = some v) (hc : ∀ j, j < cs.length → (w.cell? ⟨b, o + j, none⟩).isSome = true) (hf : ∀ j, j < cs.length → w.frozen? ⟨b, o + j, none⟩ = false) (h1 : ∀ v ∈ cs, v.oneCell' = true) :
    (Builtin.copy_ #[dT, sT] ty #[.slice (some ⟨b, o, none⟩) dLen dCap, .slice (some a) sLen sCap]).run P w = .ok (goInt (Nat.min sLen dLen)) (w.setCells b o cs) := by
  have hl := run_loadCells_list (P := P) w a cs hsrc
  have hst := run_storeCells_cells (P := P) b o cs 0 w (by simpa using hc) (by simpa using hf) h1
  cases hq : P.info? elem with
  | none => simp [hq] at hs
  | some i =>
    have hi : i.size = k := by simpa [hq] using hs
    simp [Builtin.copy_, run_underlying hu, Builtin.lenOf, Builtin.firstCells, sizeOf, typeInfo, hq, hi, ← hn, hl, hst]

theorem one_of_wt (l : List (Nat × Pg)) : ∀ v ∈ wtRow l, v.oneCell' = true := by
  intro v hv
  obtain ⟨x, _, hx⟩ := List.mem_flatMap.1 hv
  simp only [wtCells, List.mem_cons, List.not_mem_nil, or_false] at hx
  rcases hx with rfl | rfl | rfl <;> rfl

theorem wtRow_length (l : List (Nat × Pg)) : (wtRow l).length = l.length * 3 := flat_length wtCells 3 (fun _ => rfl) l

theorem own_form {w : World} {wa : Option Addr} {n wc : Nat} {xs : List Value} (h : w.ownsRow 0 106 3 (.slice wa n wc) n xs) :
    (wa = none ∧ n = 0 ∧ wc = 0 ∧ xs = []) ∨ ∃ g pad, wa = some ⟨g, 0, none⟩ ∧ Blk w g (xs ++ pad) 106 ∧ n ≤ wc ∧ wc ≤ maxLen ∧ xs.length = n * 3 ∧ pad.length = (wc - n) * 3 := by
  obtain ⟨h1, h2⟩ := h
  rcases h2 with ⟨h2, h3⟩ | ⟨g, cap, cur, hv, _, hh, hn, hm, hs, ht⟩
  · simp only [Value.slice.injEq] at h2
    subst h3
    exact .inl ⟨h2.1, rfl, h2.2.2, List.eq_nil_of_length_eq_zero (by simpa using h1)⟩
  · simp only [Value.slice.injEq, true_and] at hv
    obtain ⟨rfl, rfl⟩ := hv
    refine .inr ⟨g, cur.toList.drop (n * 3), rfl, ?_, hn, hm, h1, ?_⟩
    · unfold Blk
      rw [← ht, List.take_append_drop, Array.toArray_toList]
      exact hh
    · rw [List.length_drop, Array.length_toList, hs, Nat.sub_mul]
theorem own_mk {w : World} {g n wc : Nat} {xs pad : List Value} (hb : Blk w g (xs ++ pad) 106) (hn : n ≤ wc) (hm : wc ≤ maxLen) (hx : xs.length = n * 3) (hp : pad.length = (wc - n) * 3) :
    w.ownsRow 0 106 3 (.slice (some ⟨g, 0, none⟩) n wc) n xs := by
  refine ⟨hx, .inr ⟨g, wc, (xs ++ pad).toArray, rfl, Nat.zero_le _, hb, hn, hm, ?_, ?_⟩⟩
  · rw [List.size_toArray, List.length_append, hx, hp, ← Nat.add_mul]
    congr 1
    omega
  · rw [← hx]
    simp

/-- At the end, and there is room. -/
theorem insert_end_room (g n wc : Nat) (xs pad vs : List Value) (vb : Nat) (w : World) (hb : Blk w g (xs ++ pad) 106) (hn : n + 1 ≤ wc) (hm : wc ≤ maxLen) (hl : n ≤ 100000) (hx : xs.length = n * 3) (hp : pad.length = (wc - n) * 3)
    (hv : Blk w vb vs 106) (hvl : vs.length = 3) (h1 : ∀ u ∈ vs, u.oneCell' = true) :
    Calls Try.prog 75 #[.slice (some ⟨g, 0, none⟩) n wc, .int .i64 n, .slice (some ⟨vb, 0, none⟩) 1 1] w fun e w' => e = .returned (.slice (some ⟨g, 0, none⟩) (n + 1) wc) ∧ w' = w.setCells g (n * 3) vs := by
  obtain ⟨i0, hi0, hp0⟩ := Option.map_eq_some_iff.1 info73
  simp only [Prod.mk.injEq] at hp0
  obtain ⟨hz0, hz1, hz2⟩ := hp0
  have hsrc : Src Try.prog i0.size 61 (.slice (some ⟨vb, 0, none⟩) 1 1) 1 vs w :=
    Src.ofSlice w Try.underlying61 ⟨vb, 0, none⟩ 1 1 vs (by rw [hz1]; omega) (fun j u hj => by rw [Addr.add_lit, Nat.zero_add]; exact hv.cell hj) h1
  have hrun : ∀ ty, (Builtin.append_ #[61, 61] ty #[.slice (some ⟨g, 0, none⟩) n wc, .slice (some ⟨vb, 0, none⟩) 1 1]).run Try.prog w = .ok (.slice (some ⟨g, 0, none⟩) (n + 1) wc) (w.setCells g (n * 3) vs) := fun ty => by
    have h := run_append_room_src w 61 61 ty 106 i0 Try.underlying61 hi0 g 0 n wc _ 1 vs hsrc hn (fun j hj => by
      have hlt : 0 + n * i0.size + j < (xs ++ pad).length := by rw [hz1, List.length_append, hx, hp]; omega
      rw [hb.cell (List.getElem?_eq_getElem hlt)]; rfl) (fun j hj => hb.frozen _)
    rw [hz1, Nat.zero_add] at h
    exact h
  have HR : Hid _ := hrun
  clear hrun hsrc hb hv hz0 hz1 hz2 hi0
  go_enter Try.func75, Try.ntmps75
  go_wp2_with (at_builtin; refine Lib.wpList_append_run _ rfl _ _ _ _ rfl _ _ rfl rfl _ _ (HR.out _) ?_)
  all_goals (go_ret; exact ⟨rfl, rfl⟩)

/-- At the end, and there is none. -/
theorem insert_end_grow (wa : Option Addr) (n wc : Nat) (xs vs : List Value) (vb : Nat) (w : World) (hn : wc < n + 1) (hnc : n ≤ wc) (hl : n ≤ 100000) (hx : xs.length = n * 3)
    (hold : ∀ a, wa = some a → ∀ j v, xs[j]? = some v → w.cell? (a.add j) = some v) (hnil : wa = none → n = 0)
    (hv : Blk w vb vs 106) (hvl : vs.length = 3) (h1 : ∀ u ∈ vs, u.oneCell' = true) :
    Calls Try.prog 75 #[.slice wa n wc, .int .i64 n, .slice (some ⟨vb, 0, none⟩) 1 1] w fun e w' => ∃ c', n + 1 ≤ c' ∧ c' ≤ maxLen ∧ e = .returned (.slice (some ⟨w.heap.size, 0, none⟩) (n + 1) c') ∧
      ∃ pad, pad.length = (c' - (n + 1)) * 3 ∧ w' = w.drew.alloc (.cells (xs ++ vs ++ pad).toArray 106) := by
  obtain ⟨i0, hi0, hp0⟩ := Option.map_eq_some_iff.1 info73
  simp only [Prod.mk.injEq] at hp0
  obtain ⟨hz0, hz1, hz2⟩ := hp0
  have hsrc : Src Try.prog i0.size 61 (.slice (some ⟨vb, 0, none⟩) 1 1) 1 vs w :=
    Src.ofSlice w Try.underlying61 ⟨vb, 0, none⟩ 1 1 vs (by rw [hz1]; omega) (fun j u hj => by rw [Addr.add_lit, Nat.zero_add]; exact hv.cell hj) h1
  have hfirst : (Builtin.firstCells i0.size n (.slice wa n wc)).run Try.prog w.drew = .ok xs.toArray w.drew := by
    cases wa with
    | none =>
      have h0 := hnil rfl
      subst h0
      obtain rfl : xs = [] := List.length_eq_zero_iff.1 (by simpa using hx)
      exact run_firstCells_none w.drew i0.size 0 0 wc
    | some a => exact run_firstCells_some w.drew i0.size n a n wc xs (by rw [hz1]; exact hx) (fun j v hj => hold a rfl j v hj)
  obtain ⟨c', hc'⟩ : ∃ c', c' = grownCap w (n + 1) wc 106 := ⟨_, rfl⟩
  obtain ⟨W1, hW1⟩ : ∃ W1, W1 = w.drew.alloc (.cells ((xs ++ vs).toArray ++ Builtin.zeroCells zero73.cells (c' - (n + 1))) 106) := ⟨_, rfl⟩
  have hrun : ∀ ty, (Builtin.append_ #[61, 61] ty #[.slice wa n wc, .slice (some ⟨vb, 0, none⟩) 1 1]).run Try.prog w = .ok (.slice (some ⟨w.heap.size, 0, none⟩) (n + 1) c') W1 := fun ty => by
    rw [hW1, hc']
    exact run_append_grow_src w 61 61 ty 106 i0 _ Try.underlying61 hi0 hz0 wa n wc xs hfirst _ 1 vs hsrc hn (by omega) (by rw [hz2]; exact growslice_fits hn (by omega))
  have hge : n + 1 ≤ c' := by rw [hc']; exact grownCap_ge w _ _ _
  have hle : c' ≤ maxLen := by rw [hc']; exact grownCap_le_maxLen w _ _ _ (by unfold maxLen; omega)
  have hfin : ∃ pad : List Value, pad.length = (c' - (n + 1)) * 3 ∧ W1 = w.drew.alloc (.cells (xs ++ vs ++ pad).toArray 106) := by
    refine ⟨(Builtin.zeroCells zero73.cells (c' - (n + 1))).toList, ?_, ?_⟩
    · rw [Array.length_toList, size_zeroCells]; rfl
    · rw [hW1]
      congr 2
      apply Array.ext'
      simp
  refine Calls.mono (R := fun e w' => e = .returned (.slice (some ⟨w.heap.size, 0, none⟩) (n + 1) c') ∧ w' = W1) ?_ (by rintro e w' ⟨rfl, rfl⟩; exact ⟨c', hge, hle, rfl, hfin⟩)
  have HR : Hid _ := hrun
  clear hrun hsrc hv hz0 hz1 hz2 hi0 hfirst hc' hge hle hfin hW1
  go_enter Try.func75, Try.ntmps75
  cases wa with
  | none =>
    have h0 := hnil rfl
    subst h0
    go_wp2_with (at_builtin; refine Lib.wpList_append_run _ rfl _ _ _ _ rfl _ _ rfl rfl _ _ (HR.out _) ?_)
    all_goals (go_ret; exact ⟨rfl, rfl⟩)
  | some a =>
    obtain ⟨ab, ao, asp⟩ := a
    go_wp2_with (at_builtin; refine Lib.wpList_append_run _ rfl _ _ _ _ rfl _ _ rfl rfl _ _ (HR.out _) ?_)
    all_goals (go_ret; exact ⟨rfl, rfl⟩)

/-- Ahead of the end, and there is no room. -/
theorem insert_mid_grow (g n wc i : Nat) (xs vs : List Value) (vb : Nat) (w : World) (hi : i < n) (hn : wc < n + 1) (hnc : n ≤ wc) (hl : n ≤ 100000) (hx : xs.length = n * 3)
    (hold : ∀ j v, xs[j]? = some v → w.cell? ⟨g, j, none⟩ = some v) (hx1 : ∀ u ∈ xs, u.oneCell' = true)
    (hv : Blk w vb vs 106) (hvl : vs.length = 3) (h1 : ∀ u ∈ vs, u.oneCell' = true) :
    Calls Try.prog 75 #[.slice (some ⟨g, 0, none⟩) n wc, .int .i64 i, .slice (some ⟨vb, 0, none⟩) 1 1] w fun e w' => ∃ c', n + 1 ≤ c' ∧ c' ≤ maxLen ∧ e = .returned (.slice (some ⟨w.heap.size, 0, none⟩) (n + 1) c') ∧
      ∃ M pad, M.length = (n + 1 - i) * 3 ∧ pad.length = (c' - (n + 1)) * 3 ∧
      w' = (((w.drew.alloc (.cells (xs.take (i * 3) ++ M ++ pad).toArray 106)).setCells w.heap.size (i * 3) vs).drew).setCells w.heap.size ((i + 1) * 3) (xs.drop (i * 3)) := by
  obtain ⟨i0, hi0, hp0⟩ := Option.map_eq_some_iff.1 info73
  simp only [Prod.mk.injEq] at hp0
  obtain ⟨hz0, hz1, hz2⟩ := hp0
  have hgw : g < w.heap.size := by
    have := hold 0 _ (List.getElem?_eq_getElem (by omega))
    exact block_lt_of_cell this
  have hsz : (Try.prog.info? 106).map (·.size) = some 3 := by rw [hi0]; simp [hz1]
  have hfirst : (Builtin.firstCells i0.size i (.slice (some ⟨g, 0, none⟩) i wc)).run Try.prog w.drew = .ok (xs.take (i * 3)).toArray w.drew := by
    rw [hz1]
    exact run_firstCells_some w.drew 3 i ⟨g, 0, none⟩ i wc (xs.take (i * 3)) (by rw [List.length_take]; omega) (fun j v hj => by
      rw [Addr.add_lit, Nat.zero_add]
      rw [List.getElem?_take] at hj
      split at hj
      · exact hold j v hj
      · cases hj)
  obtain ⟨c', hc'⟩ : ∃ c', c' = grownCap w (n + 1) wc 106 := ⟨_, rfl⟩
  have hge : n + 1 ≤ c' := by rw [hc']; exact grownCap_ge w _ _ _
  have hle : c' ≤ maxLen := by rw [hc']; exact grownCap_le_maxLen w _ _ _ (by unfold maxLen; omega)
  obtain ⟨M, hM⟩ : ∃ M : List Value, M = (Builtin.zeroCells zero73.cells (n + 1 - i)).toList := ⟨_, rfl⟩
  obtain ⟨pad, hpad⟩ : ∃ pad : List Value, pad = (Builtin.zeroCells zero73.cells (c' - (n + 1))).toList := ⟨_, rfl⟩
  have hMl : M.length = (n + 1 - i) * 3 := by rw [hM, Array.length_toList, size_zeroCells]; rfl
  have hpl : pad.length = (c' - (n + 1)) * 3 := by rw [hpad, Array.length_toList, size_zeroCells]; rfl
  obtain ⟨W1, hW1⟩ : ∃ W1, W1 = w.drew.alloc (.cells (xs.take (i * 3) ++ M ++ pad).toArray 106) := ⟨_, rfl⟩
  have hrz : ∀ ty, (Builtin.append_ #[61, 3] ty #[.slice (some ⟨g, 0, none⟩) i wc, .int .i64 ((n : Int) + 1 - (i : Int))]).run Try.prog w = .ok (.slice (some ⟨w.heap.size, 0, none⟩) (n + 1) c') W1 := fun ty => by
    have h := Lib.run_append_grow_zeros w 61 3 ty 106 i0 _ .i64 .i64 Try.underlying61 Try.underlying3 hi0 hz0 (some ⟨g, 0, none⟩) i wc (xs.take (i * 3)) hfirst (n + 1 - i) (by omega) (by omega) (by omega) (by omega) (by rw [hz2]; omega) (by rw [hz2, show i + (n + 1 - i) = n + 1 by omega]; exact growslice_fits hn (by omega))
    rw [show i + (n + 1 - i) = n + 1 by omega, ← hc'] at h
    rw [show (n : Int) + 1 - (i : Int) = ((n + 1 - i : Nat) : Int) by omega, h, hW1]
    congr 4
    apply Array.ext'
    simp [hM, hpad]
  have B1 : Blk W1 w.heap.size (xs.take (i * 3) ++ M ++ pad) 106 := by rw [hW1]; exact Blk.new w.drew _ 106
  have htl : (xs.take (i * 3)).length = i * 3 := by rw [List.length_take]; omega
  have hall : (xs.take (i * 3) ++ M ++ pad).length = c' * 3 := by simp only [List.length_append, htl, hMl, hpl]; omega
  have hsome : ∀ j, j < c' * 3 → (W1.cell? ⟨w.heap.size, j, none⟩).isSome = true := fun j hj => by
    rw [B1.cell (List.getElem?_eq_getElem (by omega : j < (xs.take (i * 3) ++ M ++ pad).length))]; rfl
  have hV1 : Blk W1 vb vs 106 := by rw [hW1]; exact Blk.alloc (w := w.drew) hv _
  obtain ⟨W2, hW2⟩ : ∃ W2, W2 = W1.setCells w.heap.size (i * 3) vs := ⟨_, rfl⟩
  have hcpA : ∀ ty dc, (Builtin.copy_ #[61, 61] ty #[.slice (some ⟨w.heap.size, i * 3, none⟩) (n + 1 - i) dc, .slice (some ⟨vb, 0, none⟩) 1 1]).run Try.prog W1 = .ok (goInt 1) W2 := fun ty dc => by
    rw [hW2]
    have := run_copy_cellsK W1 61 61 ty 106 w.heap.size (i * 3) (n + 1 - i) dc ⟨vb, 0, none⟩ 1 1 3 vs Try.underlying61 hsz (by decide) (by rw [hvl, show Nat.min 1 (n + 1 - i) = 1 by simp only [Nat.min_def]; split <;> omega])
      (fun j v hj => by rw [Addr.add_lit, Nat.zero_add]; exact hV1.cell hj) (fun j hj => hsome _ (by omega)) (fun j hj => B1.frozen _) h1
    rw [show Nat.min 1 (n + 1 - i) = 1 by simp only [Nat.min_def]; split <;> omega] at this
    exact this
  have hG2 : ∀ j v, xs[j]? = some v → W2.cell? ⟨g, j, none⟩ = some v := fun j v hj => by
    rw [hW2, World.cell?_setCells_out _ _ _ _ _ (fun h _ => absurd h (by simp; omega)), hW1, World.cell?_alloc_past (w := w.drew) _ g j hgw]
    exact hold j v hj
  obtain ⟨W3, hW3⟩ : ∃ W3, W3 = W2.drew.setCells w.heap.size ((i + 1) * 3) (xs.drop (i * 3)) := ⟨_, rfl⟩
  have hcpB : ∀ ty dc sc, (Builtin.copy_ #[61, 61] ty #[.slice (some ⟨w.heap.size, (i + 1) * 3, none⟩) (n + 1 - (i + 1)) dc, .slice (some ⟨g, i * 3, none⟩) (n - i) sc]).run Try.prog W2.drew = .ok (goInt (n - i : Nat)) W3 := fun ty dc sc => by
    rw [hW3]
    have hmn : Nat.min (n - i) (n + 1 - (i + 1)) = n - i := by simp only [Nat.min_def]; split <;> omega
    have := run_copy_cellsK W2.drew 61 61 ty 106 w.heap.size ((i + 1) * 3) (n + 1 - (i + 1)) dc ⟨g, i * 3, none⟩ (n - i) sc 3 (xs.drop (i * 3)) Try.underlying61 hsz (by decide) (by rw [List.length_drop, hx, hmn]; omega)
      (fun j v hj => by rw [Addr.add_lit]; rw [List.getElem?_drop] at hj; exact hG2 _ v hj)
      (fun j hj => by
        rw [List.length_drop, hx] at hj
        show (W2.cell? _).isSome = true
        rw [hW2]
        exact isSome_setCells _ _ _ _ (fun t ht => hsome _ (by omega)) _ (hsome _ (by omega)))
      (fun j hj => by show W2.frozen? _ = false; rw [hW2, World.frozen?_setCells]; exact B1.frozen _) (fun v hv => hx1 v (List.mem_of_mem_drop hv))
    rw [hmn] at this
    exact this
  refine Calls.mono (R := fun e w' => e = .returned (.slice (some ⟨w.heap.size, 0, none⟩) (n + 1) c') ∧ w' = W3) ?_ (by rintro e w' ⟨rfl, rfl⟩; exact ⟨c', hge, hle, rfl, M, pad, hMl, hpl, by rw [hW3, hW2, hW1]⟩)
  have hw1 : IntKind.i64.wrap ((i : Int) + 1) = (i : Int) + 1 := by rw [IntKind.wrap_i64]; omega
  have hb1 : (0 : Int) ≤ (i : Int) + 1 := by omega
  have hin1 : (i : Int) ≤ (n : Int) + 1 := by omega
  have htn : ((i : Int) + 1).toNat = i + 1 := by omega
  have hz2i : ¬ ((i : Int) = (n : Int)) := by omega
  have hz3 : (wc : Int) < (n : Int) + 1 := by omega
  have hb3 : (i : Int) ≤ (n : Int) := by omega
  have hcwc : (i : Int) ≤ (wc : Int) := by omega
  have HR : Hid _ := hrz
  have HB : Hid _ := hcpB
  have hc63 : (c' : Int) ≤ 9223372036854775807 := by unfold maxLen at hle; omega
  have hwc : ¬ wc = i := by omega
  have hcc : ¬ c' = i := by omega
  have hcc1 : ¬ c' = i + 1 := by omega
  have hcc2 : (i : Int) + 1 ≤ (n : Int) + 1 := by omega
  clear hrz hcpB hv hz0 hz1 hz2 hi0 hfirst hc' hge hle hW1 hW2 hW3 hG2 hV1 hsome hall htl B1 hpl hMl hM hpad hsz hold
  go_enter Try.func75, Try.ntmps75
  go_wp2_with (at_builtin; refine Lib.wpList_append_run _ rfl _ _ _ _ rfl _ _ rfl rfl _ _ (HR.out _) ?_)
  go_region_law (refine step_copy_runI rfl _ _ 61 61 rfl (.slice (some ⟨w.heap.size, (i + 1) * 3, none⟩) (n + 1 - (i + 1)) (c' - (i + 1))) (.slice (some ⟨g, i * 3, none⟩) (n - i) (wc - i)) (by simp [Act.eval, Act.put]) (by simp [Act.eval, Act.put]) (HB.out _ _ _) ?_)
  go_wp2
  go_ret
  exact ⟨rfl, rfl⟩

/-- Ahead of the end, and there is room. -/
theorem insert_mid_room (g n wc i : Nat) (xs pad vs : List Value) (vb : Nat) (w : World) (hi : i < n) (hb : Blk w g (xs ++ pad) 106) (hn : n + 1 ≤ wc) (hm : wc ≤ maxLen) (hl : n ≤ 100000) (hx : xs.length = n * 3) (hp : pad.length = (wc - n) * 3)
    (hx1 : ∀ u ∈ xs, u.oneCell' = true) (hvb : vb ≠ g) (hv : Blk w vb vs 106) (hvl : vs.length = 3) (h1 : ∀ u ∈ vs, u.oneCell' = true) :
    Calls Try.prog 75 #[.slice (some ⟨g, 0, none⟩) n wc, .int .i64 i, .slice (some ⟨vb, 0, none⟩) 1 1] w fun e w' => e = .returned (.slice (some ⟨g, 0, none⟩) (n + 1) wc) ∧
      w' = (w.drew.setCells g ((i + 1) * 3) (xs.drop (i * 3))).setCells g (i * 3) vs := by
  obtain ⟨i0, hi0, hp0⟩ := Option.map_eq_some_iff.1 info73
  simp only [Prod.mk.injEq] at hp0
  obtain ⟨hz0, hz1, hz2⟩ := hp0
  have hsz : (Try.prog.info? 106).map (·.size) = some 3 := by rw [hi0]; simp [hz1]
  have hall : (xs ++ pad).length = wc * 3 := by rw [List.length_append, hx, hp]; omega
  have hsome : ∀ j, j < wc * 3 → (w.cell? ⟨g, j, none⟩).isSome = true := fun j hj => by
    rw [hb.cell (List.getElem?_eq_getElem (by omega : j < (xs ++ pad).length))]; rfl
  have hov : ∀ lb cb, (callFunc 80 #[.slice (some ⟨vb, 0, none⟩) 1 1, .slice (some ⟨g, (i + 1) * 3, none⟩) lb cb]).run Try.prog w = .ok (.value (.bool false)) w := fun lb cb => by
    have hsa : w.shape? vb = some (106, vs.length) := by unfold Blk at hv; simp [World.shape?, hv]
    have hsb : w.shape? g = some (106, (xs ++ pad).length) := by unfold Blk at hb; simp [World.shape?, hb]
    rw [run_callFunc_extern Try.func80 (by kernel_rfl) (by kernel_rfl) (by kernel_rfl) (e := Extern.SlicesOverlaps.overlaps #[61, 61] #[4]) (by kernel_rfl),
      Lib.run_overlaps_apart w 61 4 106 Try.underlying61 3 (fun w => by simp [sizeOf, typeInfo, hi0, hz1]) ⟨vb, 0, none⟩ ⟨g, (i + 1) * 3, none⟩ 1 1 lb cb hvb 106 106 _ _ hsa hsb (by omega) (hv.frozen _) (hv.frozen _)]
    rfl
  obtain ⟨W1, hW1⟩ : ∃ W1, W1 = w.drew.setCells g ((i + 1) * 3) (xs.drop (i * 3)) := ⟨_, rfl⟩
  have hdl : (xs.drop (i * 3)).length = (n - i) * 3 := by rw [List.length_drop, hx]; omega
  have hcp1 : ∀ ty dc sc, (Builtin.copy_ #[61, 61] ty #[.slice (some ⟨g, (i + 1) * 3, none⟩) (n + 1 - (i + 1)) dc, .slice (some ⟨g, i * 3, none⟩) (n + 1 - i) sc]).run Try.prog w.drew = .ok (goInt (n - i : Nat)) W1 := fun ty dc sc => by
    rw [hW1]
    have hmn : Nat.min (n + 1 - i) (n + 1 - (i + 1)) = n - i := by simp only [Nat.min_def]; split <;> omega
    have := run_copy_cellsK w.drew 61 61 ty 106 g ((i + 1) * 3) (n + 1 - (i + 1)) dc ⟨g, i * 3, none⟩ (n + 1 - i) sc 3 (xs.drop (i * 3)) Try.underlying61 hsz (by decide) (by rw [hdl, hmn])
      (fun j v hj => by
        rw [Addr.add_lit]; rw [List.getElem?_drop] at hj
        exact Blk.cell (w := w.drew) hb (by rw [List.getElem?_append_left (List.getElem?_eq_some_iff.1 hj).1]; exact hj))
      (fun j hj => hsome _ (by omega)) (fun j hj => Blk.frozen (w := w.drew) hb _) (fun v hv => hx1 v (List.mem_of_mem_drop hv))
    rw [hmn] at this
    exact this
  obtain ⟨W2, hW2⟩ : ∃ W2, W2 = W1.setCells g (i * 3) vs := ⟨_, rfl⟩
  have hcp2 : ∀ ty dc, (Builtin.copy_ #[61, 61] ty #[.slice (some ⟨g, i * 3, none⟩) (n + 1 - i) dc, .slice (some ⟨vb, 0, none⟩) 1 1]).run Try.prog W1 = .ok (goInt 1) W2 := fun ty dc => by
    rw [hW2]
    have hmn : Nat.min 1 (n + 1 - i) = 1 := by simp only [Nat.min_def]; split <;> omega
    have := run_copy_cellsK W1 61 61 ty 106 g (i * 3) (n + 1 - i) dc ⟨vb, 0, none⟩ 1 1 3 vs Try.underlying61 hsz (by decide) (by rw [hvl, hmn])
      (fun j v hj => by rw [Addr.add_lit, Nat.zero_add, hW1, World.cell?_setCells_out _ _ _ _ _ (fun h _ => absurd h hvb)]; exact Blk.cell (w := w.drew) hv hj)
      (fun j hj => by rw [hW1]; exact isSome_setCells g (xs.drop (i * 3)) ((i + 1) * 3) w.drew (fun t ht => hsome _ (by omega)) _ (hsome _ (by omega)))
      (fun j hj => by rw [hW1, World.frozen?_setCells]; exact Blk.frozen (w := w.drew) hb _) h1
    rw [hmn] at this
    exact this
  refine Calls.mono (R := fun e w' => e = .returned (.slice (some ⟨g, 0, none⟩) (n + 1) wc) ∧ w' = W2) ?_ (by rintro e w' ⟨rfl, rfl⟩; exact ⟨rfl, by rw [hW2, hW1]⟩)
  have hw1 : IntKind.i64.wrap ((i : Int) + 1) = (i : Int) + 1 := by rw [IntKind.wrap_i64]; omega
  have hb1 : (0 : Int) ≤ (i : Int) + 1 := by omega
  have hin1 : (i : Int) ≤ (n : Int) + 1 := by omega
  have htn : ((i : Int) + 1).toNat = i + 1 := by omega
  have hz2i : ¬ ((i : Int) = (n : Int)) := by omega
  have hz3 : ¬ (wc : Int) < (n : Int) + 1 := by omega
  have hb3 : (i : Int) ≤ (n : Int) := by omega
  have hcwc : (i : Int) ≤ (wc : Int) := by omega
  have HA : Hid _ := hcp1
  have hc63 : (wc : Int) ≤ 9223372036854775807 := by unfold maxLen at hm; omega
  have hwc : ¬ wc = i := by omega
  have hwc1 : ¬ wc = i + 1 := by omega
  have hcc2 : (i : Int) + 1 ≤ (n : Int) + 1 := by omega
  clear hcp1 hv hb hz0 hz1 hz2 hi0 hW1 hW2 hsome hall hsz hdl
  go_enter Try.func75, Try.ntmps75
  go_wp2_with (simp only [hov])
  go_region_law (refine step_copy_runI rfl _ _ 61 61 rfl (.slice (some ⟨g, (i + 1) * 3, none⟩) (n + 1 - (i + 1)) (wc - (i + 1))) (.slice (some ⟨g, i * 3, none⟩) (n + 1 - i) (wc - i)) (by simp [Act.eval, Act.put]) (by simp [Act.eval, Act.put]) (HA.out _ _ _) ?_)
  go_wp2
  go_ret
  exact ⟨rfl, rfl⟩
end Go.Proofs.Ytanbbmlekebhhaa

/- slices.Insert of one element, whatever the room; slices.BinarySearchFunc over what waits. -/
set_option linter.unusedVariables false
set_option linter.unusedSimpArgs false
set_option maxRecDepth 8000
namespace Go.Proofs.Ytanbbmlekebhhaa
open Go.RowKit Go.Deep

theorem wtCells_one (x : Nat × Pg) : ∀ u ∈ wtCells x, u.oneCell' = true := by
  intro u hu
  simp only [wtCells, List.mem_cons, List.not_mem_nil, or_false] at hu
  rcases hu with rfl | rfl | rfl <;> rfl

theorem wtRow_append (a b : List (Nat × Pg)) : wtRow (a ++ b) = wtRow a ++ wtRow b := by simp [wtRow]
theorem wtRow_cons (x : Nat × Pg) (b : List (Nat × Pg)) : wtRow (x :: b) = wtCells x ++ wtRow b := by simp [wtRow]

theorem insert_any (wa : Option Addr) (wc n : Nat) (l1 l2 : List (Nat × Pg)) (x : Nat × Pg) (vb : Nat) (w : World) (hnl : n = (l1 ++ l2).length) (hl : n ≤ 4096) (hown : w.ownsRow 0 106 3 (.slice wa n wc) n (wtRow (l1 ++ l2)))
    (hv : Blk w vb (wtCells x) 106) (hvb : ∀ a, wa = some a → a.block ≠ vb) :
    Calls Try.prog 75 #[.slice wa n wc, .int .i64 l1.length, .slice (some ⟨vb, 0, none⟩) 1 1] w fun e w' => ∃ g c', e = .returned (.slice (some ⟨g, 0, none⟩) (n + 1) c') ∧
      w'.ownsRow 0 106 3 (.slice (some ⟨g, 0, none⟩) (n + 1) c') (n + 1) (wtRow (l1 ++ x :: l2)) ∧ Keep (wa.map (·.block)).toList w w' ∧ (wa.map (·.block) = some g ∨ w.heap.size ≤ g) := by
  have hx : (wtRow (l1 ++ l2)).length = n * 3 := by rw [wtRow_length, hnl]
  have hx1 := one_of_wt (l1 ++ l2)
  have hnew : (wtRow (l1 ++ x :: l2)).length = (n + 1) * 3 := by rw [wtRow_length, hnl]; simp; omega
  have hrow : wtRow (l1 ++ x :: l2) = wtRow l1 ++ wtCells x ++ wtRow l2 := by rw [wtRow_append, wtRow_cons]; simp
  have hr1 : (wtRow l1).length = l1.length * 3 := wtRow_length l1
  have hr2 : (wtRow l2).length = l2.length * 3 := wtRow_length l2
  have hnn : n = l1.length + l2.length := by rw [hnl]; simp
  have hform := own_form hown
  by_cases hi : l1.length = n
  · have h2 : l2 = [] := List.eq_nil_of_length_eq_zero (by omega)
    subst h2
    rw [List.append_nil] at hform hx hx1
    rw [hi]
    rcases hform with ⟨rfl, h0, h3, h4⟩ | ⟨g, pad, rfl, hb, hnc, hm, _, hp⟩
    · subst h3
      refine (insert_end_grow none n 0 (wtRow l1) (wtCells x) vb w (by omega) (by omega) (by omega) hx (fun a ha => by cases ha) (fun _ => h0) hv rfl (wtCells_one x)).mono ?_
      rintro e w' ⟨c', hc1, hc2, rfl, pad, hp, rfl⟩
      refine ⟨w.heap.size, c', rfl, ?_, ((Keep.refl _ _).drew).alloc _, .inr (Nat.le_refl _)⟩
      refine own_mk (pad := pad) ?_ hc1 hc2 hnew hp
      rw [hrow, show wtRow [] = ([] : List Value) from rfl, List.append_nil]
      exact Blk.new w.drew _ 106
    · by_cases hroom : n + 1 ≤ wc
      · refine (insert_end_room g n wc (wtRow l1) pad (wtCells x) vb w hb hroom hm (by omega) hx hp hv rfl (wtCells_one x)).mono ?_
        rintro e w' ⟨rfl, rfl⟩
        refine ⟨g, wc, rfl, ?_, (Keep.refl _ _).setCells (.inl (by simp)) _ _, .inl rfl⟩
        refine own_mk (pad := pad.drop 3) ?_ hroom hm hnew (by rw [List.length_drop, hp]; omega)
        have hb' : Blk w g (wtRow l1 ++ pad.take 3 ++ pad.drop 3) 106 := by rw [List.append_assoc, List.take_append_drop]; exact hb
        have := Blk.sets (wtCells x) (wtRow l1) (pad.take 3) (pad.drop 3) w (by rw [List.length_take, hp]; show _ = 3; omega) hb'
        rw [hr1, hi] at this
        rw [hrow, show wtRow [] = ([] : List Value) from rfl, List.append_nil]
        exact this
      · refine (insert_end_grow (some ⟨g, 0, none⟩) n wc (wtRow l1) (wtCells x) vb w (by omega) hnc (by omega) hx (fun a ha j v hj => by
          cases ha
          rw [Addr.add_lit, Nat.zero_add]
          exact hb.cell (by rw [List.getElem?_append_left (List.getElem?_eq_some_iff.1 hj).1]; exact hj)) (fun h => by cases h) hv rfl (wtCells_one x)).mono ?_
        rintro e w' ⟨c', hc1, hc2, rfl, pad, hp, rfl⟩
        refine ⟨w.heap.size, c', rfl, ?_, ((Keep.refl _ _).drew).alloc _, .inr (Nat.le_refl _)⟩
        refine own_mk (pad := pad) ?_ hc1 hc2 hnew hp
        rw [hrow, show wtRow [] = ([] : List Value) from rfl, List.append_nil]
        exact Blk.new w.drew _ 106
  · have htk : (wtRow (l1 ++ l2)).take (l1.length * 3) = wtRow l1 := by rw [wtRow_append, ← hr1]; simp
    have hdr : (wtRow (l1 ++ l2)).drop (l1.length * 3) = wtRow l2 := by rw [wtRow_append, ← hr1]; simp
    rcases hform with ⟨rfl, h0, h3, h4⟩ | ⟨g, pad, rfl, hb, hnc, hm, _, hp⟩
    · omega
    · by_cases hroom : n + 1 ≤ wc
      · refine (insert_mid_room g n wc l1.length (wtRow (l1 ++ l2)) pad (wtCells x) vb w (by omega) hb hroom hm (by omega) hx hp hx1 (Ne.symm (hvb _ rfl)) hv rfl (wtCells_one x)).mono ?_
        rintro e w' ⟨rfl, rfl⟩
        refine ⟨g, wc, rfl, ?_, (((Keep.refl _ _).drew).setCells (.inl (by simp)) _ _).setCells (.inl (by simp)) _ _, .inl rfl⟩
        refine own_mk (pad := pad.drop 3) ?_ hroom hm hnew (by rw [List.length_drop, hp]; omega)
        rw [hdr]
        -- first the tail goes up by one, then the new one comes
        obtain ⟨T, hT⟩ : ∃ T, T = wtRow l2 ++ pad.take 3 := ⟨_, rfl⟩
        have hTl : T.length = l2.length * 3 + 3 := by rw [hT, List.length_append, hr2, List.length_take, hp]; omega
        have e0 : wtRow (l1 ++ l2) ++ pad = (wtRow l1 ++ T.take 3) ++ T.drop 3 ++ pad.drop 3 := by
          rw [List.append_assoc (wtRow l1), List.take_append_drop, hT, wtRow_append]
          simp
        rw [e0] at hb
        have b1 := Blk.sets (wtRow l2) (wtRow l1 ++ T.take 3) (T.drop 3) (pad.drop 3) w.drew (by rw [List.length_drop, hTl, hr2]; omega) hb
        have el : (wtRow l1 ++ T.take 3).length = (l1.length + 1) * 3 := by rw [List.length_append, hr1, List.length_take, hTl]; omega
        rw [el] at b1
        have e1 : wtRow l1 ++ T.take 3 ++ wtRow l2 ++ pad.drop 3 = wtRow l1 ++ T.take 3 ++ (wtRow l2 ++ pad.drop 3) := by simp
        rw [e1] at b1
        have b2 := Blk.sets (wtCells x) (wtRow l1) (T.take 3) (wtRow l2 ++ pad.drop 3) _ (by rw [List.length_take, hTl]; show _ = 3; omega) b1
        rw [hr1] at b2
        rw [hrow, List.append_assoc _ (wtRow l2)]
        exact b2
      · refine (insert_mid_grow g n wc l1.length (wtRow (l1 ++ l2)) (wtCells x) vb w (by omega) (by omega) hnc (by omega) hx (fun j v hj => hb.cell (by rw [List.getElem?_append_left (List.getElem?_eq_some_iff.1 hj).1]; exact hj)) hx1 hv rfl (wtCells_one x)).mono ?_
        rintro e w' ⟨c', hc1, hc2, rfl, M, pd, hM, hpd, rfl⟩
        have K1 : Keep (Option.map (fun x : Addr => x.block) (some ⟨g, 0, none⟩)).toList w (w.drew.alloc (.cells ((wtRow (l1 ++ l2)).take (l1.length * 3) ++ M ++ pd).toArray 106)) := ((Keep.refl _ _).drew).alloc _
        refine ⟨w.heap.size, c', rfl, ?_, ((K1.setCells (.inr (Nat.le_refl _)) _ _).drew).setCells (.inr (Nat.le_refl _)) _ _, .inr (Nat.le_refl _)⟩
        refine own_mk (pad := pd) ?_ hc1 hc2 hnew hpd
        rw [hdr, htk]
        have b0 : Blk (w.drew.alloc (.cells (wtRow l1 ++ M ++ pd).toArray 106)) w.heap.size (wtRow l1 ++ M ++ pd) 106 := Blk.new w.drew _ 106
        have e0 : wtRow l1 ++ M ++ pd = wtRow l1 ++ M.take 3 ++ (M.drop 3 ++ pd) := by
          rw [List.append_assoc, List.append_assoc, ← List.append_assoc (M.take 3), List.take_append_drop]
        rw [e0] at b0
        have hMl : M.length = (l2.length + 1) * 3 := by rw [hM]; congr 1; omega
        have b1 := Blk.sets (wtCells x) (wtRow l1) (M.take 3) (M.drop 3 ++ pd) _ (by rw [List.length_take, hMl]; show _ = 3; omega) b0
        have e1 : wtRow l1 ++ wtCells x ++ (M.drop 3 ++ pd) = (wtRow l1 ++ wtCells x) ++ M.drop 3 ++ pd := by simp
        rw [e1] at b1
        have el : (wtRow l1 ++ wtCells x).length = (l1.length + 1) * 3 := by rw [List.length_append, hr1]; show _ + 3 = _; omega
        have key : ∀ V : World, Blk V w.heap.size ((wtRow l1 ++ wtCells x) ++ M.drop 3 ++ pd) 106 → Blk (V.drew.setCells w.heap.size ((l1.length + 1) * 3) (wtRow l2)) w.heap.size ((wtRow l1 ++ wtCells x) ++ wtRow l2 ++ pd) 106 := fun V hV => by
          have := Blk.sets (wtRow l2) (wtRow l1 ++ wtCells x) (M.drop 3) pd V.drew (by rw [List.length_drop, hMl, hr2]; omega) hV
          rwa [el] at this
        rw [hr1] at b1
        have b2 := key _ b1
        rw [hrow]
        rw [e0]
        exact b2

/-- 'cmp.Compare' of two numbers. -/
def cmp3 (a b : Int) : Int := if a < b then -1 else if b < a then 1 else 0

set_option maxHeartbeats 400000 in
theorem compare_any (a b : Int) (w : World) : Calls Try.prog 74 #[.int .i64 a, .int .i64 b] w fun e w' => e = .returned (.int .i64 (cmp3 a b)) ∧ w' = w := by
  unfold cmp3
  by_cases h1 : a < b
  · go_enter Try.func74, Try.ntmps74
    go_wp2
    go_ret
    exact ⟨by simp [h1], rfl⟩
  · by_cases h2 : b < a
    · go_enter Try.func74, Try.ntmps74
      go_wp2
      go_ret
      exact ⟨by simp [h1, h2], rfl⟩
    · go_enter Try.func74, Try.ntmps74
      go_wp2
      go_ret
      exact ⟨by simp [h1, h2], rfl⟩
end Go.Proofs.Ytanbbmlekebhhaa

/- slices.BinarySearchFunc over what waits. -/
set_option linter.unusedVariables false
set_option linter.unusedSimpArgs false
set_option maxRecDepth 8000
namespace Go.Proofs.Ytanbbmlekebhhaa
open Go.RowKit Go.Deep

theorem cmp3_neg (a b : Int) : cmp3 a b < 0 ↔ a < b := by
  unfold cmp3; split
  · simp [*]
  · split <;> simp [*]
theorem cmp3_zero (a b : Int) : cmp3 a b = 0 ↔ a = b := by
  unfold cmp3; split
  · simp; omega
  · split
    · simp; omega
    · simp; omega

set_option maxHeartbeats 400000 in
theorem closure_any (p k at0 : Int) (t : ByteArray) (w : World) :
    Calls Try.prog 73 #[.agg #[.int .i64 p, .int .u8 k, .string t], .int .i64 at0] w fun e w' => e = .returned (.int .i64 (cmp3 p at0)) ∧ Below w.heap.size w w' := by
  generalize hc : cmp3 p at0 = cv
  have cc : ∀ W : World, Calls Try.prog 74 #[.int .i64 p, .int .i64 at0] W fun e w' => e = .returned (.int .i64 cv) ∧ w' = W := fun W => by
    have := compare_any p at0 W
    rwa [hc] at this
  clear hc
  go_enter Try.func73, Try.ntmps73
  go_wp2_with (go_at_call 74; refine (cc _).mono ?_; rintro e w' ⟨rfl, rfl⟩)
  go_ret
  exact ⟨rfl, (Below.refl _ _).alloc (Nat.le_refl _) _⟩

/-- Is the first of these the page? -/
def headIs (l : List (Nat × Pg)) (at0 : Nat) : Bool := match l with
  | [] => false
  | x :: _ => decide (x.1 = at0)

set_option maxHeartbeats 1000000 in
theorem search_any (wa : Option Addr) (wc g n : Nat) (l1 l2 : List (Nat × Pg)) (at0 : Nat) (w : World) (hnl : n = l1.length + l2.length) (hl : n ≤ 4096)
    (hwa : 0 < n → wa = some ⟨g, 0, none⟩ ∧ g < w.heap.size) (hc : ∀ j v, (wtRow (l1 ++ l2))[j]? = some v → w.cell? ⟨g, j, none⟩ = some v)
    (h1 : ∀ x ∈ l1, x.1 < at0) (h2 : ∀ x ∈ l2, at0 ≤ x.1) :
    Calls Try.prog 72 #[.slice wa n wc, .int .i64 at0, .func (.func 73) #[] #[]] w fun e w' => e = .returned (.tuple #[.int .i64 l1.length, .bool (headIs l2 at0)]) ∧ Below w.heap.size w w' := by
  have HW : Hid _ := hwa
  have HC : Hid _ := hc
  have HN : Hid _ := hnl
  have H1 : Hid _ := h1
  have H2 : Hid _ := h2
  -- what lies at a place, in any later world
  have hat : Hid (∀ (wr : World) (m : Nat), Below w.heap.size w wr → m < n → ∃ x : Nat × Pg, (l1 ++ l2)[m]? = some x ∧ wa = some ⟨g, 0, none⟩ ∧
      wr.cell? ⟨g, m * 3, none⟩ = some (.int .i64 x.1) ∧ wr.cell? ⟨g, m * 3 + 1, none⟩ = some (.int .u8 x.2.kind) ∧ wr.cell? ⟨g, m * 3 + 2, none⟩ = some (.string x.2.text)) := by
    intro wr m hB hm
    obtain ⟨ha, hg⟩ := hwa (by omega)
    obtain ⟨A, x, B, hAB, hA⟩ := part_at (l1 ++ l2) m (by simp; omega)
    refine ⟨x, by rw [hAB, ← hA]; simp, ha, ?_, ?_, ?_⟩
    · rw [hB.cell hg]; exact hc _ _ (by rw [hAB, ← hA, show A.length * 3 = A.length * 3 + 0 from rfl]; exact flat_get wtCells 3 (fun _ => rfl) A x B 0 (by decide))
    · rw [hB.cell hg]; exact hc _ _ (by rw [hAB, ← hA]; exact flat_get wtCells 3 (fun _ => rfl) A x B 1 (by decide))
    · rw [hB.cell hg]; exact hc _ _ (by rw [hAB, ← hA]; exact flat_get wtCells 3 (fun _ => rfl) A x B 2 (by decide))
  clear hwa hc hnl h1 h2
  generalize hfin : headIs l2 at0 = fin
  have FIN : Hid (headIs l2 at0 = fin) := hfin
  clear hfin
  generalize hk1 : l1.length = k1
  have K1 : Hid (l1.length = k1) := hk1
  clear hk1
  go_enter Try.func72, Try.ntmps72
  go_wp2
  go_loopg [9, 10] n (fun kx s9 s10 wr => ∃ lo hi : Nat, s9 = .int .i64 lo ∧ s10 = .int .i64 hi ∧ lo ≤ hi ∧ hi ≤ n ∧ hi - lo ≤ kx ∧ Hid (Below w.heap.size w wr ∧ lo ≤ k1 ∧ k1 ≤ hi))
  case atStart => exact ⟨0, n, rfl, rfl, Nat.zero_le _, Nat.le_refl _, by omega, Below.refl _ _, Nat.zero_le _, by have := HN.out; rw [K1.out] at this; omega⟩
  case round =>
    obtain ⟨lo, hi, rfl, rfl, hlh, hin, hg, I⟩ := hrel
    by_cases hlt : lo < hi
    · obtain ⟨x, hx, hwa, c0, c1, c2⟩ := hat.out wr ((lo + hi) / 2) I.out.1 (by omega)
      subst hwa
      have X : Hid ((l1 ++ l2)[(lo + hi) / 2]? = some x) := hx
      clear hx
      obtain ⟨cv, hcv⟩ : ∃ cv, cv = cmp3 x.1 at0 := ⟨_, rfl⟩
      have cc : ∀ W : World, Calls Try.prog 73 #[.agg #[.int .i64 x.1, .int .u8 x.2.kind, .string x.2.text], .int .i64 at0] W fun e w' => e = .returned (.int .i64 cv) ∧ Below W.heap.size W w' := fun W => by
        rw [hcv]; exact closure_any _ _ _ _ W
      by_cases hyx : x.1 < at0
      · have hneg : cv < 0 := by rw [hcv]; exact (cmp3_neg _ _).2 (by omega)
        clear hcv
        have HM : Hid ((lo + hi) / 2 + 1 ≤ k1) := by
          show (lo + hi) / 2 + 1 ≤ k1
          rcases Nat.lt_or_ge ((lo + hi) / 2) k1 with h | h
          · exact h
          · have hx2 := X.out
            rw [List.getElem?_append_right (by rw [K1.out]; exact h)] at hx2
            have := H2.out x (List.mem_of_getElem? hx2)
            omega
        clear hyx
        go_wp2_with (go_at_call 73; refine (cc _).mono ?_; rintro e w' ⟨rfl, hbw⟩)
        go_roundg (hi - ((lo + hi) / 2 + 1))
        case measure => omega
        case rel =>
          have hb := I.out.1.trans (hbw.mono I.out.1.size)
          exact ⟨(lo + hi) / 2 + 1, hi, by rw [show ((lo : Int) + (hi : Int)) / 2 + 1 = (((lo + hi) / 2 + 1 : Nat) : Int) by omega], rfl, by omega, hin, Nat.le_refl _, hb, HM.out, I.out.2.2⟩
      · have hneg : ¬ cv < 0 := by rw [hcv]; exact fun h => hyx (by have := (cmp3_neg _ _).1 h; omega)
        clear hcv
        have HM : Hid (k1 ≤ (lo + hi) / 2) := by
          show k1 ≤ (lo + hi) / 2
          rcases Nat.lt_or_ge ((lo + hi) / 2) k1 with h | h
          · have hx2 := X.out
            rw [List.getElem?_append_left (by rw [K1.out]; exact h)] at hx2
            have := H1.out x (List.mem_of_getElem? hx2)
            omega
          · exact h
        clear hyx
        go_wp2_with (go_at_call 73; refine (cc _).mono ?_; rintro e w' ⟨rfl, hbw⟩)
        go_roundg ((lo + hi) / 2 - lo)
        case measure => omega
        case rel =>
          have hb := I.out.1.trans (hbw.mono I.out.1.size)
          exact ⟨lo, (lo + hi) / 2, rfl, by rw [show ((lo : Int) + (hi : Int)) / 2 = (((lo + hi) / 2 : Nat) : Int) by omega], by omega, by omega, Nat.le_refl _, hb, I.out.2.1, HM.out⟩
    · obtain rfl : hi = lo := by omega
      have ek : hi = k1 := by have := I.out.2; omega
      subst ek
      by_cases hn : hi < n
      · obtain ⟨x, hx, hwa, c0, c1, c2⟩ := hat.out wr hi I.out.1 hn
        subst hwa
        obtain ⟨cv, hcv⟩ : ∃ cv, cv = cmp3 x.1 at0 := ⟨_, rfl⟩
        have cc : ∀ W : World, Calls Try.prog 73 #[.agg #[.int .i64 x.1, .int .u8 x.2.kind, .string x.2.text], .int .i64 at0] W fun e w' => e = .returned (.int .i64 cv) ∧ Below W.heap.size W w' := fun W => by
          rw [hcv]; exact closure_any _ _ _ _ W
        have E : Hid (fin = decide (cv = 0)) := by
          show fin = decide (cv = 0)
          rw [← FIN.out, hcv]
          rw [List.getElem?_append_right (by rw [K1.out]; exact Nat.le_refl _), K1.out, Nat.sub_self] at hx
          cases l2 with
          | nil => simp at hx
          | cons y r =>
            simp only [List.getElem?_cons_zero, Option.some.injEq] at hx
            subst hx
            simp only [headIs]
            rw [decide_eq_decide, cmp3_zero]
            omega
        clear hcv hx
        go_wp2_with (go_at_call 73; refine (cc _).mono ?_; rintro e w' ⟨rfl, hbw⟩)
        go_ret2
        exact ⟨by rw [E.out]; rfl, I.out.1.trans (hbw.mono I.out.1.size)⟩
      · have E : Hid (fin = false) := by
          show fin = false
          rw [← FIN.out]
          have h0 : l2 = [] := List.eq_nil_of_length_eq_zero (by have := HN.out; have := K1.out; omega)
          rw [h0]; rfl
        go_wp2
        go_ret2
        exact ⟨by rw [E.out]; rfl, I.out.1⟩
end Go.Proofs.Ytanbbmlekebhhaa

