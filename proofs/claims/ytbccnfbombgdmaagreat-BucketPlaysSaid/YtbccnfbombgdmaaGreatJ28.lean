/- Texts joined: RefWait, RefCrash, Acts. -/
import Derived.Test.YtbccnfbombgdmaaGreatJ27
import Derived.BigRegion
import Derived.Test.YtbccnfbombgdmaaGreatJ25
import Derived.Deep.Slices
import Derived.ChangeSlices
import Derived.SizedLaws
/- The document's own device: NewDev, Waiting. -/
set_option linter.unusedVariables false
set_option linter.unusedSimpArgs false
set_option maxRecDepth 30000
namespace Go.Proofs.YtbccnfbombgdmaaGreat
open Go.RowKit Go.Deep

theorem fresh_rows (n : Nat) : nows (Dv.fresh n).cs = List.replicate n Pg.blank ∧ lasts (Dv.fresh n).cs = List.replicate n Pg.blank ∧ wRow (Dv.fresh n).cs = List.replicate n (.bool false) := by
  refine ⟨?_, ?_, ?_⟩
  · simp [nows, Dv.fresh]
  · simp [lasts, Dv.fresh]
  · simp [wRow, Dv.fresh]

theorem rnew_end {W : World} {r x y z n : Nat} (hn : n ≤ 4096) (hx : Blk W x (rRow (List.replicate n Pg.blank)) 118) (hy : Blk W y (rRow (List.replicate n Pg.blank)) 118) (hz : Blk W z (List.replicate n (.bool false)) 4)
    (hr : Blk W r [.slice (some ⟨x, 0, none⟩) n n, .slice (some ⟨y, 0, none⟩) n n, .slice (some ⟨z, 0, none⟩) n n, .bool false, .int .i64 0, .int .i64 0, .int .i64 0, .int .i64 0, .int .i64 0, .int .i64 0] 68) (hnd : [r, x, y, z].Nodup) : RfAt W r [r, x, y, z] (Dv.fresh n) := by
  obtain ⟨e1, e2, e3⟩ := fresh_rows n
  refine ⟨⟨x, y, z, [], [], []⟩, rfl, ?_, by rw [e2, List.append_nil]; exact hx, by rw [e1, List.append_nil]; exact hy, by rw [e3, List.append_nil]; exact hz, hnd, Dv.fresh_good n hn⟩
  have e : rCells ⟨x, y, z, [], [], []⟩ (Dv.fresh n) = [.slice (some ⟨x, 0, none⟩) n n, .slice (some ⟨y, 0, none⟩) n n, .slice (some ⟨z, 0, none⟩) n n, .bool false, .int .i64 0, .int .i64 0, .int .i64 0, .int .i64 0, .int .i64 0, .int .i64 0] := by
    have hl : (Dv.fresh n).cs.length = n := by simp [Dv.fresh]
    simp only [rCells, hl]; rfl
  rw [e]
  exact hr

theorem al4 (w : World) (A B C D : Obj) : (((((w.alloc A).alloc B).alloc C).alloc D).drew).heap[w.heap.size]? = some A ∧ (((((w.alloc A).alloc B).alloc C).alloc D).drew).heap[w.heap.size + 1]? = some B ∧
    (((((w.alloc A).alloc B).alloc C).alloc D).drew).heap[w.heap.size + 1 + 1]? = some C ∧ (((((w.alloc A).alloc B).alloc C).alloc D).drew).heap[w.heap.size + 1 + 1 + 1]? = some D := by
  show ((((w.alloc A).alloc B).alloc C).alloc D).heap[_]? = _ ∧ ((((w.alloc A).alloc B).alloc C).alloc D).heap[_]? = _ ∧ ((((w.alloc A).alloc B).alloc C).alloc D).heap[_]? = _ ∧ ((((w.alloc A).alloc B).alloc C).alloc D).heap[_]? = _
  have s1 : (w.alloc A).heap.size = w.heap.size + 1 := nblk_alloc _ _
  have s2 : ((w.alloc A).alloc B).heap.size = w.heap.size + 1 + 1 := by rw [nblk_alloc, s1]
  have s3 : (((w.alloc A).alloc B).alloc C).heap.size = w.heap.size + 1 + 1 + 1 := by rw [nblk_alloc, s2]
  refine ⟨?_, ?_, ?_, ?_⟩
  · rw [blk_alloc_lt _ _ _ (by omega), blk_alloc_lt _ _ _ (by omega), blk_alloc_lt _ _ _ (by omega)]; exact blk_alloc_new _ _
  · rw [blk_alloc_lt _ _ _ (by omega), blk_alloc_lt _ _ _ (by omega), ← s1]; exact blk_alloc_new _ _
  · rw [blk_alloc_lt _ _ _ (by omega), ← s2]; exact blk_alloc_new _ _
  · rw [← s3]; exact blk_alloc_new _ _
theorem al4b (w : World) (A B C D : Obj) : Below w.heap.size w (((((w.alloc A).alloc B).alloc C).alloc D).drew) :=
  ((((((Below.refl _ w).alloc (Nat.le_refl _) _).alloc (by rw [nblk_alloc]; omega) _).alloc (by rw [nblk_alloc, nblk_alloc]; omega) _).alloc (by rw [nblk_alloc, nblk_alloc, nblk_alloc]; omega) _)).drew

set_option maxHeartbeats 1000000 in
theorem rnew_at (n : Nat) (h2 : n ≤ 4096) (w : World) :
    Calls Tryz.prog 6 #[.int .i64 n] w fun e w' => ∃ r G, e = .returned (.pointer (some ⟨r, 0, none⟩)) ∧ RfAt w' r G (Dv.fresh n) ∧ (∀ k ∈ G, w.heap.size ≤ k) ∧ Below w.heap.size w w' := by
  have hmk := makeRef n h2
  have hmb := makeBools n h2
  have H2 := hide h2
  clear h2
  generalize hZ : (rRow (List.replicate n Pg.blank)).toArray = Z at hmk
  generalize hY : (List.replicate n (Value.bool false)).toArray = Y at hmb
  have HZ := hide hZ
  have HY := hide hY
  clear hZ hY
  have isZ : Hid (∀ (V : World) (b : Nat), V.heap[b]? = some (.cells Z 118) → Blk V b (rRow (List.replicate n Pg.blank)) 118) := fun V b h => by unfold Blk; rw [HZ.out]; exact h
  have isY : Hid (∀ (V : World) (b : Nat), V.heap[b]? = some (.cells Y 4) → Blk V b (List.replicate n (.bool false)) 4) := fun V b h => by unfold Blk; rw [HY.out]; exact h
  go_enter Tryz.func6, Tryz.ntmps6
  go_wp2
  go_region
  all_goals go_wp2
  all_goals (
    go_ret
    first
      | (obtain ⟨q0, q1, q2, q3⟩ := al4 w (.cells Z 118) (.cells Z 118) (.cells Y 4) (.cells #[.slice (some ⟨w.heap.size, 0, none⟩) n n, .slice (some ⟨w.heap.size + 1, 0, none⟩) n n, .slice (some ⟨w.heap.size + 1 + 1, 0, none⟩) n n, .bool false, .int .i64 0, .int .i64 0, .int .i64 0, .int .i64 0, .int .i64 0, .int .i64 0] 68)
         exact ⟨_, _, rfl, rnew_end H2.out (isZ.out _ _ q0) (isZ.out _ _ q1) (isY.out _ _ q2) q3 (by simp; omega), by intro k hk; simp at hk; omega, al4b w _ _ _ _⟩)
      | (obtain ⟨q0, q1, q2, q3⟩ := al4 w (.cells Z 118) (.cells Z 118) (.cells Y 4) (.cells #[.slice (some ⟨w.heap.size + 1, 0, none⟩) n n, .slice (some ⟨w.heap.size, 0, none⟩) n n, .slice (some ⟨w.heap.size + 1 + 1, 0, none⟩) n n, .bool false, .int .i64 0, .int .i64 0, .int .i64 0, .int .i64 0, .int .i64 0, .int .i64 0] 68)
         exact ⟨_, _, rfl, rnew_end H2.out (isZ.out _ _ q1) (isZ.out _ _ q0) (isY.out _ _ q2) q3 (by simp; omega), by intro k hk; simp at hk; omega, al4b w _ _ _ _⟩)
      | (obtain ⟨q0, q1, q2, q3⟩ := al4 w (.cells Z 118) (.cells Y 4) (.cells Z 118) (.cells #[.slice (some ⟨w.heap.size, 0, none⟩) n n, .slice (some ⟨w.heap.size + 1 + 1, 0, none⟩) n n, .slice (some ⟨w.heap.size + 1, 0, none⟩) n n, .bool false, .int .i64 0, .int .i64 0, .int .i64 0, .int .i64 0, .int .i64 0, .int .i64 0] 68)
         exact ⟨_, _, rfl, rnew_end H2.out (isZ.out _ _ q0) (isZ.out _ _ q2) (isY.out _ _ q1) q3 (by simp; omega), by intro k hk; simp at hk; omega, al4b w _ _ _ _⟩)
      | (obtain ⟨q0, q1, q2, q3⟩ := al4 w (.cells Z 118) (.cells Y 4) (.cells Z 118) (.cells #[.slice (some ⟨w.heap.size + 1 + 1, 0, none⟩) n n, .slice (some ⟨w.heap.size, 0, none⟩) n n, .slice (some ⟨w.heap.size + 1, 0, none⟩) n n, .bool false, .int .i64 0, .int .i64 0, .int .i64 0, .int .i64 0, .int .i64 0, .int .i64 0] 68)
         exact ⟨_, _, rfl, rnew_end H2.out (isZ.out _ _ q2) (isZ.out _ _ q0) (isY.out _ _ q1) q3 (by simp; omega), by intro k hk; simp at hk; omega, al4b w _ _ _ _⟩)
      | (obtain ⟨q0, q1, q2, q3⟩ := al4 w (.cells Y 4) (.cells Z 118) (.cells Z 118) (.cells #[.slice (some ⟨w.heap.size + 1, 0, none⟩) n n, .slice (some ⟨w.heap.size + 1 + 1, 0, none⟩) n n, .slice (some ⟨w.heap.size, 0, none⟩) n n, .bool false, .int .i64 0, .int .i64 0, .int .i64 0, .int .i64 0, .int .i64 0, .int .i64 0] 68)
         exact ⟨_, _, rfl, rnew_end H2.out (isZ.out _ _ q1) (isZ.out _ _ q2) (isY.out _ _ q0) q3 (by simp; omega), by intro k hk; simp at hk; omega, al4b w _ _ _ _⟩)
      | (obtain ⟨q0, q1, q2, q3⟩ := al4 w (.cells Y 4) (.cells Z 118) (.cells Z 118) (.cells #[.slice (some ⟨w.heap.size + 1 + 1, 0, none⟩) n n, .slice (some ⟨w.heap.size + 1, 0, none⟩) n n, .slice (some ⟨w.heap.size, 0, none⟩) n n, .bool false, .int .i64 0, .int .i64 0, .int .i64 0, .int .i64 0, .int .i64 0, .int .i64 0] 68)
         exact ⟨_, _, rfl, rnew_end H2.out (isZ.out _ _ q2) (isZ.out _ _ q1) (isY.out _ _ q0) q3 (by simp; omega), by intro k hk; simp at hk; omega, al4b w _ _ _ _⟩))

theorem wl_take_succ (cs : List Cl) (i : Nat) (c : Cl) (h : cs[i]? = some c) : wl 0 (cs.take (i + 1)) = wl 0 (cs.take i) ++ (match c.last with | none => [] | some l => [(i, l)]) := by
  have hi : i < cs.length := (List.getElem?_eq_some_iff.1 h).1
  rw [List.take_add_one, h, wl_append]
  have hl : (cs.take i).length = i := by simp; omega
  rw [hl, Nat.zero_add]
  cases hc : c.last <;> simp [wl, hc]

set_option maxHeartbeats 1000000 in
theorem rwaiting_at (r : Nat) (G : List Nat) (S : Dv) (w : World) (h : RfAt w r G S) :
    Calls Tryz.prog 77 #[.pointer (some ⟨r, 0, none⟩)] w fun e w' => ∃ v, e = .returned v ∧ w'.ownsRow w.heap.size 3 1 v (wl 0 S.cs).length (wtNums (wl 0 S.cs)) ∧ v ≠ .slice none 0 0 ∧ Below w.heap.size w w' := by
  obtain ⟨L, rfl, h⟩ := h
  obtain ⟨i0, hi0, hp0⟩ := Option.map_eq_some_iff.1 info3
  simp only [Prod.mk.injEq] at hp0
  obtain ⟨hz0, hz1, hz2⟩ := hp0
  have hmk : ∀ W : World, (Instr.makeSlice 121 (.int .i64 0) (.int .i64 0)).run Tryz.prog W = .ok (.slice (some ⟨W.heap.size, 0, none⟩) 0 0) (W.alloc (.cells #[] 3)) := fun W => makeInts 0 (by omega) W
  obtain ⟨n, hn⟩ : ∃ n, n = S.cs.length := ⟨_, rfl⟩
  have hnl : n ≤ 4096 := by rw [hn]; exact h.good.many
  have H := hide h
  have HN := hide hn
  have hrw := h.dev.lt
  have hww := h.waits.lt
  have c2 := h.dev.cell (i := 2) rfl
  rw [← hn] at c2
  clear h hn
  go_enter Tryz.func77, Tryz.ntmps77
  go_wp2
  go_loopg [3, 4] n (fun kx s3 s4 wr => ∃ i : Nat, s4 = .int .i64 i ∧ i ≤ n ∧ n - i ≤ kx ∧ (∃ a k cp, s3 = .slice a k cp) ∧ Hid (wr.ownsRow w.heap.size 3 1 s3 (wl 0 (S.cs.take i)).length (wtNums (wl 0 (S.cs.take i))) ∧ s3 ≠ .slice none 0 0 ∧ Below w.heap.size w wr))
  case atStart =>
    refine ⟨0, rfl, Nat.zero_le _, by omega, ⟨_, _, _, rfl⟩, ?_, by simp, (Below.refl _ _).alloc (Nat.le_refl _) _⟩
    exact World.ownsRow_made w #[] 0 (Nat.le_refl _) (Nat.zero_le _) (by simp)
  case round =>
    obtain ⟨i, rfl, hin, hg, ⟨va, vk, vc, rfl⟩, I⟩ := hrel
    have x2 := (I.out.2.2.cell (p := ⟨r, 2, none⟩) hrw).trans c2
    by_cases hlt : i < n
    · obtain ⟨c, hc⟩ : ∃ c, S.cs[i]? = some c := ⟨_, List.getElem?_eq_getElem (by rw [← HN.out]; exact hlt)⟩
      have xw : wr.cell? ⟨L.waits, i, none⟩ = some (.bool c.last.isSome) := by
        rw [I.out.2.2.cell (p := ⟨L.waits, i, none⟩) hww]
        refine H.out.waits.cell ?_
        rw [List.getElem?_append_left (by simp [wRow]; rw [← HN.out]; exact hlt)]
        simp [wRow, hc]
      have hlt2 : (i : Int) < (n : Int) := by omega
      have WS := hide (wl_take_succ S.cs i c hc)
      clear hc
      cases hl : c.last with
      | none =>
        rw [hl] at xw
        have WS' : Hid (wl 0 (S.cs.take (i + 1)) = wl 0 (S.cs.take i)) := by
          show _ = _
          have := WS.out
          rw [hl] at this
          simpa using this
        clear WS hl
        simp only [Option.isSome_none] at xw
        go_wp2
        go_roundg (n - (i + 1))
        case measure => omega
        case rel => exact ⟨i + 1, rfl, by omega, by omega, ⟨_, _, _, rfl⟩, by rw [WS'.out]; exact I.out⟩
      | some q =>
        rw [hl] at xw
        have WS' : Hid (wl 0 (S.cs.take (i + 1)) = wl 0 (S.cs.take i) ++ [(i, q)]) := by
          show _ = _
          have := WS.out
          rw [hl] at this
          simpa using this
        clear WS hl
        simp only [Option.isSome_some] at xw
        have hsm : (wl 0 (S.cs.take i)).length ≤ 4096 := by
          have := wl_length (S.cs.take i) 0
          rw [List.length_take] at this
          omega
        go_wp2_with (at_builtin; refine wpList_append_own _ rfl _ _ 121 rfl w.heap.size 3 i0 (.int .i64 0) 1 8 Tryz.underlying121 hi0 hz0 hz1 hz2 rfl (by decide) _ _ _ rfl (I.out.1.alloc _) ⟨wr.heap.size, 0, none⟩ 1 1 [.int .i64 i] rfl ?qc1 ?qc2 ?qc3 ?qc4 ?qc5 ?qc6 ?_)
        case qc1 => rfl
        case qc2 =>
          intro j u hj
          rw [Addr.add_lit, Nat.zero_add]
          exact (Blk.new wr [.int .i64 (i : Int)] 3).cell hj
        case qc3 => intro u hu; simp at hu; subst hu; rfl
        case qc4 => unfold maxLen; omega
        case qc5 => omega
        case qc6 => have := I.out.2.2.size; simp; omega
        intro v' w1 hown hgrow hnil
        obtain ⟨g2, cp2, rfl⟩ : ∃ g2 cp2, v' = .slice (some ⟨g2, 0, none⟩) ((wl 0 (S.cs.take i)).length + 1) cp2 := by
          rcases hown.2 with ⟨_, h0⟩ | ⟨g2, cp2, _, hv, _⟩
          · omega
          · exact ⟨g2, cp2, hv⟩
        have hB1 : Below w.heap.size w w1 := (I.out.2.2.alloc I.out.2.2.size _).grown hgrow (by have := I.out.2.2.size; rw [nblk_alloc]; omega) (fun k hk => (I.out.1.lt k hk).1)
        have FO := hide hown
        have FB := hide hB1
        clear hown hgrow hnil hB1
        go_wp2
        go_roundg (n - (i + 1))
        case measure => omega
        case rel =>
          refine ⟨i + 1, rfl, by omega, by omega, ⟨_, _, _, rfl⟩, ?_, by simp, FB.out⟩
          rw [WS'.out]
          have := FO.out
          simpa [wtNums] using this
    · obtain rfl : i = n := by omega
      go_wp2
      go_ret
      refine ⟨_, rfl, ?_, I.out.2.1, I.out.2.2⟩
      have := I.out.1
      rw [HN.out, List.take_length] at this
      exact this
end Go.Proofs.YtbccnfbombgdmaaGreat

/- The document's own device: Crash. -/
set_option linter.unusedVariables false
set_option linter.unusedSimpArgs false
set_option maxRecDepth 30000
namespace Go.Proofs.YtbccnfbombgdmaaGreat
open Go.RowKit Go.Deep

/-- What lasts when the first k of those that wait are settled. -/
def lastsN : Nat → List Cl → List UInt8 → List Pg
  | _, [], _ => []
  | k, c :: r, ps => match c.last with
    | none => c.now :: lastsN k r ps
    | some l => match k with
      | 0 => l :: lastsN 0 r ps
      | k + 1 => pick c.now l (ps.headD 0).toNat :: lastsN k r ps.tail

theorem lastsN_zero : ∀ (cs : List Cl) (ps : List UInt8), lastsN 0 cs ps = lasts cs
  | [], _ => rfl
  | c :: r, ps => by
    have ih := lastsN_zero r ps
    unfold lasts at ih
    unfold lastsN lasts
    cases h : c.last <;> simp [ih, h]

theorem lastsN_append : ∀ (A X : List Cl) (i j : Nat) (ps : List UInt8), lastsN ((wl i A).length + j) (A ++ X) ps = lastsN (wl i A).length A ps ++ lastsN j X (ps.drop (wl i A).length)
  | [], X, i, j, ps => by simp [wl, lastsN]
  | a :: r, X, i, j, ps => by
    cases h : a.last with
    | none =>
      have e : wl i (a :: r) = wl (i + 1) r := by simp [wl, h]
      rw [e, List.cons_append]
      simp only [lastsN, h]
      rw [lastsN_append r X (i + 1) j ps]
      rfl
    | some l =>
      have e : wl i (a :: r) = (i, l) :: wl (i + 1) r := by simp [wl, h]
      rw [e, List.cons_append, List.length_cons, show (wl (i + 1) r).length + 1 + j = ((wl (i + 1) r).length + j) + 1 by omega]
      simp only [lastsN, h]
      rw [lastsN_append r X (i + 1) j ps.tail]
      simp

theorem lastsN_all : ∀ (cs : List Cl) (i : Nat) (ps : List UInt8), lastsN (wl i cs).length cs ps = nows (settle cs ps)
  | [], _, _ => rfl
  | c :: r, i, ps => by
    cases h : c.last with
    | none =>
      have e : wl i (c :: r) = wl (i + 1) r := by simp [wl, h]
      rw [e]
      simp only [lastsN, settle, h]
      rw [lastsN_all r (i + 1) ps]
      rfl
    | some l =>
      have e : wl i (c :: r) = (i, l) :: wl (i + 1) r := by simp [wl, h]
      rw [e, List.length_cons]
      simp only [lastsN, settle, h]
      rw [lastsN_all r (i + 1) ps.tail]
      rfl

theorem lastsN_length : ∀ (cs : List Cl) (k : Nat) (ps : List UInt8), (lastsN k cs ps).length = cs.length
  | [], _, _ => rfl
  | c :: r, k, ps => by
    unfold lastsN
    split
    · simp [lastsN_length r]
    · split <;> simp [lastsN_length r]

theorem lastsN_step (A : List Cl) (c : Cl) (B : List Cl) (l : Pg) (hl : c.last = some l) (k : Nat) (hk : (wl 0 A).length = k) (ps : List UInt8) :
    lastsN k (A ++ c :: B) ps = lastsN k A ps ++ l :: lasts B ∧
    lastsN (k + 1) (A ++ c :: B) ps = lastsN k A ps ++ pick c.now l ((ps.drop k).headD 0).toNat :: lasts B := by
  subst hk
  constructor
  · have := lastsN_append A (c :: B) 0 0 ps
    rw [Nat.add_zero] at this
    rw [this, lastsN_zero]
    simp [lasts, hl]
  · rw [lastsN_append A (c :: B) 0 1 ps]
    simp only [lastsN, hl]
    rw [lastsN_zero]

theorem pick3 (x : UInt8) : (wrap64 (x.toNat : Int)).tmod 3 = ((x.toNat % 3 : Nat) : Int) := by
  have := x.toNat_lt
  have e : wrap64 (x.toNat : Int) = (x.toNat : Int) := by unfold wrap64; omega
  rw [e]
  rfl

/-- What a round of 'Crash' needs of the memory. -/
theorem rcrash_part {S : Dv} {k : Nat} (ps : List UInt8) (hk : k < (wl 0 S.cs).length) :
    ∃ (i : Nat) (l now : Pg) (a b na nb : List Pg), (wtNums (wl 0 S.cs))[k]? = some (.int .i64 i) ∧ i < S.cs.length ∧ a.length = i ∧ na.length = i ∧ nows S.cs = na ++ now :: nb ∧
      lastsN k S.cs ps = a ++ l :: b ∧ lastsN (k + 1) S.cs ps = a ++ pick now l ((ps.drop k).headD 0).toNat :: b := by
  obtain ⟨L1, x, L2, hL, hL1⟩ := part_at (wl 0 S.cs) k hk
  obtain ⟨A, c, B, hcs, hlast, hi, hA⟩ := wl_part S.cs 0 k x (by rw [hL, ← hL1]; simp)
  obtain ⟨s1, s2⟩ := lastsN_step A c B x.2 hlast k hA ps
  refine ⟨x.1, x.2, c.now, lastsN k A ps, lasts B, nows A, nows B, ?_, ?_, ?_, ?_, ?_, ?_, ?_⟩
  · rw [hL, wtNums, List.map_append, List.getElem?_append_right (by simp [hL1])]; simp [hL1]
  · rw [hcs]; simp; omega
  · rw [lastsN_length]; omega
  · rw [nows_length]; omega
  · rw [hcs, nows_part]
  · rw [hcs]; exact s1
  · rw [hcs]; exact s2

set_option maxHeartbeats 1000000 in
theorem rcrash_at (r : Nat) (G : List Nat) (S : Dv) (a : Option Addr) (n cap bb : Nat) (l : List UInt8) (hn : n = l.length) (hn63 : n ≤ 9223372036854775807) (w : World) (hbs : BSlice w a l bb) (hbb : l ≠ [] → bb ∉ G) (h : RfAt w r G S) :
    Calls Tryz.prog 54 #[.pointer (some ⟨r, 0, none⟩), .slice a n cap] w fun e w' => e = .returned (.tuple #[]) ∧ ∃ G', RfAt w' r G' (S.crash l) ∧ Moves G G' w w' := by
  have cw := hide (rwaiting_at r G S w h)
  obtain ⟨L, rfl, h⟩ := h
  obtain ⟨m, hm⟩ : ∃ m, m = (wl 0 S.cs).length := ⟨_, rfl⟩
  have hml : m ≤ 4096 := by rw [hm]; exact Nat.le_trans (wl_length _ _) h.good.many
  rw [← hm] at cw
  have H := hide h
  have HM := hide hm
  have HBS := hide hbs
  have HBB := hide hbb
  have HN := hide hn
  have N63 := hide hn63
  clear h hm hbs hbb hn hn63
  go_enter Tryz.func54, Tryz.ntmps54
  go_wp2_with fail
  refine cw.out.mono ?_
  rintro e w1 ⟨v, rfl, hown, hnil, hB1⟩
  have own1 : ∃ g cp pad, v = .slice (some ⟨g, 0, none⟩) m cp ∧ w.heap.size ≤ g ∧ Blk w1 g (wtNums (wl 0 S.cs) ++ pad) 3 := by
    rcases hown.2 with ⟨h0, _⟩ | ⟨g, cp, cur, hv, hB, hh, _, _, _, ht⟩
    · exact absurd h0 hnil
    · refine ⟨g, cp, cur.toList.drop (m * 1), hv, hB, ?_⟩
      unfold Blk
      rw [← ht, List.take_append_drop, Array.toArray_toList]
      exact hh
  obtain ⟨g, cp, pad, rfl, hgw, hgb⟩ := own1
  have H1 := hide (H.out.same (w' := w1) (fun k hk => hB1.block k (H.out.lt k hk)))
  have BS1 := hide (HBS.out.same hB1.size (fun h _ => hB1.block bb h))
  have GB := hide hgb
  have GW := hide hgw
  have WB := hide hB1
  have hgl := hgb.lt
  clear hown hnil hB1 hgb hgw cw
  go_wp2
  go_loopg [5] m (fun kx s5 wr => ∃ k : Nat, s5 = .int .i64 k ∧ k ≤ m ∧ m - k ≤ kx ∧ Hid (Keep [L.last] w1 wr ∧ Blk wr L.last (rRow (lastsN k S.cs l) ++ L.pl) 118 ∧ wr.heap.size = w1.heap.size))
  case atStart => exact ⟨0, rfl, Nat.zero_le _, by omega, Keep.refl _ _, by rw [lastsN_zero]; exact H1.out.last, rfl⟩
  case round =>
    obtain ⟨k, rfl, hkm, hg, I⟩ := hrel
    obtain ⟨n1, n2, n3, n4, n5, n6⟩ := H1.out.ne
    have HD := hide (H1.out.dev.same (I.out.1.block r H1.out.dev.lt (by simpa using n1)))
    have HNW := hide (H1.out.now.same (I.out.1.block L.now H1.out.now.lt (by simpa using Ne.symm n4)))
    have hgL : g ≠ L.last := fun h => by have := GW.out; have := H.out.last.lt; omega
    have HGB := hide (GB.out.same (I.out.1.block g GB.out.lt (by simpa using hgL)))
    have c0 := HD.out.cell (i := 0) rfl
    have c1 := HD.out.cell (i := 1) rfl
    have hrr : r < wr.heap.size := HD.out.lt
    have hglr : g < wr.heap.size := HGB.out.lt
    by_cases hlt : k < m
    · obtain ⟨i, lst, now, a1, b1, na, nb, hnum, hic, hai, hnai, hnow, e1, e2⟩ := rcrash_part (S := S) (k := k) l (by rw [← HM.out]; exact hlt)
      have q0 : wr.cell? ⟨g, k, none⟩ = some (.int .i64 i) := HGB.out.cell (by rw [List.getElem?_append_left (List.getElem?_eq_some_iff.1 hnum).1]; exact hnum)
      have R0 := I.out.2.1
      rw [e1] at R0
      have RN := HNW.out
      rw [hnow] at RN
      have r0 := RN.cell (i := na.length * 2 + 0) (v := .int .i64 now.kind) (flat_getP rpg 2 (fun _ => rfl) na now nb L.pn 0 (by decide))
      have r1 := RN.cell (i := na.length * 2 + 1) (v := .string now.read) (flat_getP rpg 2 (fun _ => rfl) na now nb L.pn 1 (by decide))
      have t0 := R0.cell (i := a1.length * 2 + 0) (v := .int .i64 lst.kind) (flat_getP rpg 2 (fun _ => rfl) a1 lst b1 L.pl 0 (by decide))
      have t1 := R0.cell (i := a1.length * 2 + 1) (v := .string lst.read) (flat_getP rpg 2 (fun _ => rfl) a1 lst b1 L.pl 1 (by decide))
      have g0 := R0.frozen (a1.length * 2)
      have g1 := R0.frozen (a1.length * 2 + 1)
      rw [Nat.add_zero] at r0 t0
      rw [hnai] at r0 r1
      rw [hai] at t0 t1 g0 g1
      have hlw := R0.lt
      have hnw := RN.lt
      have hic2 : (i : Int) < (S.cs.length : Int) := by omega
      have fin : ∀ (y : Pg) (W : World), pick now lst ((l.drop k).headD 0).toNat = y → W = (wr.setCell ⟨L.last, i * 2, none⟩ (.int .i64 y.kind)).setCell ⟨L.last, i * 2 + 1, none⟩ (.string y.read) → Keep [L.last] w1 W ∧ Blk W L.last (rRow (lastsN (k + 1) S.cs l) ++ L.pl) 118 ∧ W.heap.size = w1.heap.size := by
        intro y W hy hW
        refine ⟨by rw [hW]; exact (I.out.1.setCell (.inl (by simp)) _).setCell (.inl (by simp)) _, ?_, by rw [hW, nblk_setCell, nblk_setCell]; exact I.out.2.2⟩
        have b := rRow_set R0 y
        rw [hai] at b
        rw [e2, hy, hW]
        exact b
      have same : pick now lst ((l.drop k).headD 0).toNat = lst → lastsN (k + 1) S.cs l = lastsN k S.cs l := fun h => by rw [e2, h, e1]
      have FIN := hide fin
      have SAME := hide same
      clear e1 e2 hai hnai R0 RN fin same hnow hnum
      by_cases hkl : k < n
      · obtain ⟨x, hx⟩ : ∃ x : UInt8, x = l.getD k 0 := ⟨_, rfl⟩
        have pc : ∃ bo, a = some ⟨bb, bo, none⟩ ∧ bb < wr.heap.size ∧ wr.cell? ⟨bb, bo + k, none⟩ = some (.int .u8 (x.toNat : Int)) := by
          rcases BS1.out with h0 | ⟨hb, bo, ha, hc⟩
          · have := HN.out; rw [h0] at this; simp at this; omega
          · refine ⟨bo, ha, Nat.lt_of_lt_of_le hb I.out.1.size, ?_⟩
            have hkl2 : k < l.length := by rw [← HN.out]; exact hkl
            have hnf := HBB.out (fun h => by rw [h] at hkl2; simp at hkl2)
            rw [World.cell?_of_block (a := ⟨bb, bo + k, none⟩) (I.out.1.block bb hb (fun h => hnf (by simp at h; simp [rfoot, h]))), hc k hkl2, hx]
            simp [List.getD_eq_getElem?_getD, List.getElem?_eq_getElem hkl2]
        obtain ⟨bo, rfl, hbw, pc⟩ := pc
        have HX : Hid ((l.drop k).headD 0 = x) := by show (l.drop k).headD 0 = x; rw [drop_headD, ← hx]
        clear hx
        have hkl3 : (k : Int) < (n : Int) := by omega
        rw [HX.out] at FIN SAME
        rcases (show x.toNat % 3 = 0 ∨ x.toNat % 3 = 1 ∨ x.toNat % 3 = 2 by omega) with h3 | h3 | h3
        · have h3i : (wrap64 (x.toNat : Int)).tmod 3 = 0 := by rw [pick3]; omega
          have P : Hid (pick now lst x.toNat = lst) := by simp [Hid, pick, h3]
          clear h3
          go_wp2
          go_roundg (m - (k + 1))
          case measure => omega
          case rel => exact ⟨k + 1, rfl, by omega, by omega, by rw [SAME.out P.out]; exact I.out⟩
        · have h3i : (wrap64 (x.toNat : Int)).tmod 3 = 1 := by rw [pick3]; omega
          have P : Hid (pick now lst x.toNat = now) := by simp [Hid, pick, h3]
          clear h3
          go_wp2
          go_region
          all_goals go_wp2
          all_goals (
            go_roundg (m - (k + 1))
            case measure => omega
            case rel => exact ⟨k + 1, rfl, by omega, by omega, ⟨(FIN.out _ _ P.out rfl).1.drew, (FIN.out _ _ P.out rfl).2⟩⟩)
        · have h3i : (wrap64 (x.toNat : Int)).tmod 3 = 2 := by rw [pick3]; omega
          have P : Hid (pick now lst x.toNat = .torn) := by simp [Hid, pick, h3]
          clear h3
          go_wp2
          go_region
          all_goals go_wp2
          all_goals (
            go_roundg (m - (k + 1))
            case measure => omega
            case rel => refine ⟨k + 1, rfl, by omega, by omega, ?_⟩; exact ⟨(FIN.out _ _ P.out rfl).1.drew, (FIN.out _ _ P.out rfl).2⟩)
      · have HX : Hid ((l.drop k).headD 0 = 0) := by
          show (l.drop k).headD 0 = 0
          rw [List.drop_eq_nil_of_le (by rw [← HN.out]; omega)]
          rfl
        rw [HX.out] at FIN SAME
        have P : Hid (pick now lst (0 : UInt8).toNat = lst) := by simp [Hid, pick]
        have hkl3 : ¬ (k : Int) < (n : Int) := by omega
        go_wp2
        go_roundg (m - (k + 1))
        case measure => omega
        case rel => exact ⟨k + 1, rfl, by omega, by omega, by rw [SAME.out P.out]; exact I.out⟩
    · obtain rfl : k = m := by omega
      have HWR := hide I.out.2.2
      have LR : Hid (Blk wr L.last (rRow (nows (settle S.cs l)) ++ L.pl) 118) := by
        have := I.out.2.1
        rw [HM.out, lastsN_all] at this
        exact this
      obtain ⟨q, hq⟩ : ∃ q, q = S.cs.length := ⟨_, rfl⟩
      have HQ := hide hq
      have hql : q ≤ 4096 := by rw [hq]; exact H.out.good.many
      clear hq
      rw [← HQ.out] at c0 c1
      have hla : (nows (settle S.cs l)).length = q := by rw [nows_length, settle_length, HQ.out]
      have hna : (nows S.cs).length = q := by rw [nows_length, HQ.out]
      obtain ⟨W1, hW1⟩ : ∃ W1, W1 = wr.drew.setCells L.now 0 (rRow (nows (settle S.cs l))) := ⟨_, rfl⟩
      have hcp : ∀ ty cx cy, (Builtin.copy_ #[64, 64] ty #[.slice (some ⟨L.now, 0, none⟩) q cx, .slice (some ⟨L.last, 0, none⟩) q cy]).run Tryz.prog wr.drew = .ok (goInt q) W1 := fun ty cx cy => by
        rw [hW1]; exact copyRow (w := wr.drew) HNW.out LR.out hna hla ty
      have keepW : ∀ k, k ≠ L.now → W1.heap[k]? = wr.heap[k]? := fun k hk => by rw [hW1]; exact heap_setCells_other _ _ _ _ _ hk
      have hWs : W1.heap.size = w1.heap.size := by rw [hW1, ← HWR.out]; exact size_setCells _ _ _ _
      have b1 := HD.out.same (keepW r n2)
      have dd1 := b1.cell (i := 1) rfl
      have dd2 := b1.cell (i := 2) rfl
      have dd3 := b1.cell (i := 3) rfl
      have dd5 := b1.cell (i := 5) rfl
      have dd9 := b1.cell (i := 9) rfl
      have ee2 := b1.frozen 2
      have ee3 := b1.frozen 3
      have ee5 := b1.frozen 5
      have ee9 := b1.frozen 9
      rw [← HQ.out] at dd1 dd2
      have hrW : r < W1.heap.size := b1.lt
      have hmk := makeBools q hql
      generalize hZ : (List.replicate q (Value.bool false)).toArray = Z at hmk
      have HZ := hide hZ
      have HCP := hide hcp
      have HW1 := hide hW1
      have KW := hide keepW
      have HWS := hide hWs
      clear hZ hcp hW1 keepW hWs b1 hla hna n1 n2 n3 n4 n5 n6
      go_wp2
      go_region_law (refine step_copy_runI rfl _ _ 64 64 rfl (.slice (some ⟨L.now, 0, none⟩) q (q + L.pn.length / 2)) (.slice (some ⟨L.last, 0, none⟩) q (q + L.pl.length / 2)) (by simp [Act.eval, Act.put]) (by simp [Act.eval, Act.put]) (HCP.out _ _ _) ?_)
      all_goals go_wp2
      all_goals go_region
      all_goals go_wp2
      all_goals (
        go_end0
        obtain ⟨n1, n2, n3, n4, n5, n6⟩ := H1.out.ne
        obtain ⟨Wf, hWf⟩ : ∃ Wf, Wf = (((((W1.setCell ⟨r, 2, none⟩ (.slice (some ⟨W1.heap.size, 0, none⟩) q q)).setCell ⟨r, 3, none⟩ (.bool true)).setCell ⟨r, 5, none⟩ (.int .i64 (wrap64 (S.losses + 1)))).setCell ⟨r, 9, none⟩ (.int .i64 (wrap64 (S.cr + 1)))).alloc (.cells Z 4)).drew := ⟨_, rfl⟩
        rw [← hWf]
        have KW1 : Keep (rfoot r L) w1 W1 := by
          rw [HW1.out]
          exact ((I.out.1.mono (G := rfoot r L) (fun k hk => .inl (by simp at hk; simp [rfoot, hk]))).drew).setCells (.inl (by simp [rfoot])) _ _
        have KWf : Keep (rfoot r L) w1 Wf := by
          rw [hWf]; exact (((((KW1.setCell (.inl (by simp [rfoot])) _).setCell (.inl (by simp [rfoot])) _).setCell (.inl (by simp [rfoot])) _).setCell (.inl (by simp [rfoot])) _).alloc _).drew
        have hcl : (settle S.cs l).length = q := by rw [settle_length, HQ.out]
        have R := ref_end (S' := S.crash l) (Wf := Wf) H1.out ?_ ?_ ?_ ?_ (Dv.crash_good H.out.good l) KWf
        · exact ⟨rfl, _, ⟨_, rfl, R.1⟩, (Moves.of_keep (Keep.of_below WB.out)).trans R.2⟩
        · show Blk Wf w1.heap.size (wRow (settle S.cs l)) 4
          rw [wRow_settle, ← HQ.out]
          unfold Blk
          rw [HZ.out, ← HWS.out, hWf]
          have := blk_alloc_new ((((W1.setCell ⟨r, 2, none⟩ (.slice (some ⟨W1.heap.size, 0, none⟩) q q)).setCell ⟨r, 3, none⟩ (.bool true)).setCell ⟨r, 5, none⟩ (.int .i64 (wrap64 (S.losses + 1)))).setCell ⟨r, 9, none⟩ (.int .i64 (wrap64 (S.cr + 1)))) (.cells Z 4)
          rw [nblk_setCell, nblk_setCell, nblk_setCell, nblk_setCell] at this
          exact this
        · have b := (((((HD.out.same (KW.out r n2)).set 2 (.slice (some ⟨W1.heap.size, 0, none⟩) q q)).set 3 (.bool true)).set 5 (.int .i64 (wrap64 (S.losses + 1)))).set 9 (.int .i64 (wrap64 (S.cr + 1)))).alloc (.cells Z 4)
          have e : rCells { L with waits := w1.heap.size, pw := [] } (S.crash l) = ((((rCells L S).set 2 (.slice (some ⟨W1.heap.size, 0, none⟩) q q)).set 3 (.bool true)).set 5 (.int .i64 (wrap64 (S.losses + 1)))).set 9 (.int .i64 (wrap64 (S.cr + 1))) := by
            simp only [rCells, Dv.crash, hcl, ← HQ.out, HWS.out]; rfl
          rw [e, hWf]
          exact b
        · show Blk Wf L.last (rRow (lasts (settle S.cs l)) ++ L.pl) 118
          rw [lasts_settle]
          have b := LR.out.same (KW.out L.last n4)
          rw [hWf]
          exact ((((b.other (a := ⟨r, 2, none⟩) (Ne.symm n1) _).other (a := ⟨r, 3, none⟩) (Ne.symm n1) _).other (a := ⟨r, 5, none⟩) (Ne.symm n1) _).other (a := ⟨r, 9, none⟩) (Ne.symm n1) _).alloc _
        · show Blk Wf L.now (rRow (nows (settle S.cs l)) ++ L.pn) 118
          have b := copied (w := wr.drew) (w1 := w) (W := w) (b := nows (settle S.cs l)) HNW.out (by rw [nows_length, nows_length, settle_length])
          rw [← HW1.out] at b
          rw [hWf]
          exact ((((b.other (a := ⟨r, 2, none⟩) (Ne.symm n2) _).other (a := ⟨r, 3, none⟩) (Ne.symm n2) _).other (a := ⟨r, 5, none⟩) (Ne.symm n2) _).other (a := ⟨r, 9, none⟩) (Ne.symm n2) _).alloc _)
end Go.Proofs.YtbccnfbombgdmaaGreat

/- A list of calls as it comes in: a row of structs, each with a slice of bytes of its own. -/
set_option linter.unusedVariables false
set_option linter.unusedSimpArgs false
set_option maxRecDepth 30000
namespace Go.Proofs.YtbccnfbombgdmaaGreat
open Go.RowKit Go.Deep Go.ChangeShapes Go.WideShapes

/-- A call: which, the page, the bytes and where they lie. -/
structure ActI where
  op : Int
  page : Int
  a : Option Addr
  cap : Nat
  bb : Nat
  l : List UInt8

theorem i64_wf {z : Int} (h : (Lit.int .i64 z).wf = true) : z ≤ 9223372036854775807 := by
  have h2 : IntKind.i64.max = 9223372036854775807 := rfl
  simp [Lit.wf, h2] at h
  exact h.2
end Go.Proofs.YtbccnfbombgdmaaGreat
