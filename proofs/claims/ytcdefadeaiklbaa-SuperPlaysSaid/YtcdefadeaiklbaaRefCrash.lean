/- The document's own device: Crash. -/
import Derived.Test.YtcdefadeaiklbaaRefWait
import Derived.BigRegion
set_option linter.unusedVariables false
set_option linter.unusedSimpArgs false
set_option maxRecDepth 8000
namespace Go.Proofs.Ytcdefadeaiklbaa
open Go.RowKit Go.Deep

/-- What lasts when the first k of those that wait are settled. -/
def lastsN : Nat → List Cl → List UInt8 → List Pg
  | _, [], _ => []
  | k, c :: r, ps => match c.last with
    | none => c.now :: lastsN k r ps
    | some l => match k with
      | 0 => l :: lastsN 0 r ps
      | k + 1 => pick c.now l (ps.headD 0).toNat :: lastsN k r ps.tail

theorem lastsN_zero : ∀ (cs : List Cl) (ps : List UInt8), lastsN 0 cs ps = lasts cs
  | [], _ => rfl
  | c :: r, ps => by
    have ih := lastsN_zero r ps
    unfold lasts at ih
    unfold lastsN lasts
    cases h : c.last <;> simp [ih, h]

theorem lastsN_append : ∀ (A X : List Cl) (i j : Nat) (ps : List UInt8), lastsN ((wl i A).length + j) (A ++ X) ps = lastsN (wl i A).length A ps ++ lastsN j X (ps.drop (wl i A).length)
  | [], X, i, j, ps => by simp [wl, lastsN]
  | a :: r, X, i, j, ps => by
    cases h : a.last with
    | none =>
      have e : wl i (a :: r) = wl (i + 1) r := by simp [wl, h]
      rw [e, List.cons_append]
      simp only [lastsN, h]
      rw [lastsN_append r X (i + 1) j ps]
      rfl
    | some l =>
      have e : wl i (a :: r) = (i, l) :: wl (i + 1) r := by simp [wl, h]
      rw [e, List.cons_append, List.length_cons, show (wl (i + 1) r).length + 1 + j = ((wl (i + 1) r).length + j) + 1 by omega]
      simp only [lastsN, h]
      rw [lastsN_append r X (i + 1) j ps.tail]
      simp

theorem lastsN_all : ∀ (cs : List Cl) (i : Nat) (ps : List UInt8), lastsN (wl i cs).length cs ps = nows (settle cs ps)
  | [], _, _ => rfl
  | c :: r, i, ps => by
    cases h : c.last with
    | none =>
      have e : wl i (c :: r) = wl (i + 1) r := by simp [wl, h]
      rw [e]
      simp only [lastsN, settle, h]
      rw [lastsN_all r (i + 1) ps]
      rfl
    | some l =>
      have e : wl i (c :: r) = (i, l) :: wl (i + 1) r := by simp [wl, h]
      rw [e, List.length_cons]
      simp only [lastsN, settle, h]
      rw [lastsN_all r (i + 1) ps.tail]
      rfl

theorem lastsN_length : ∀ (cs : List Cl) (k : Nat) (ps : List UInt8), (lastsN k cs ps).length = cs.length
  | [], _, _ => rfl
  | c :: r, k, ps => by
    unfold lastsN
    split
    · simp [lastsN_length r]
    · split <;> simp [lastsN_length r]

theorem lastsN_step (A : List Cl) (c : Cl) (B : List Cl) (l : Pg) (hl : c.last = some l) (k : Nat) (hk : (wl 0 A).length = k) (ps : List UInt8) :
    lastsN k (A ++ c :: B) ps = lastsN k A ps ++ l :: lasts B ∧
    lastsN (k + 1) (A ++ c :: B) ps = lastsN k A ps ++ pick c.now l ((ps.drop k).headD 0).toNat :: lasts B := by
  subst hk
  constructor
  · have := lastsN_append A (c :: B) 0 0 ps
    rw [Nat.add_zero] at this
    rw [this, lastsN_zero]
    simp [lasts, hl]
  · rw [lastsN_append A (c :: B) 0 1 ps]
    simp only [lastsN, hl]
    rw [lastsN_zero]

theorem pick3 (x : UInt8) : (wrap64 (x.toNat : Int)).tmod 3 = ((x.toNat % 3 : Nat) : Int) := by
  have := x.toNat_lt
  have e : wrap64 (x.toNat : Int) = (x.toNat : Int) := by unfold wrap64; omega
  rw [e]
  rfl

/-- What a round of 'Crash' needs of the memory. -/
theorem rcrash_part {S : Dv} {k : Nat} (ps : List UInt8) (hk : k < (wl 0 S.cs).length) :
    ∃ (i : Nat) (l now : Pg) (a b na nb : List Pg), (wtNums (wl 0 S.cs))[k]? = some (.int .i64 i) ∧ i < S.cs.length ∧ a.length = i ∧ na.length = i ∧ nows S.cs = na ++ now :: nb ∧
      lastsN k S.cs ps = a ++ l :: b ∧ lastsN (k + 1) S.cs ps = a ++ pick now l ((ps.drop k).headD 0).toNat :: b := by
  obtain ⟨L1, x, L2, hL, hL1⟩ := part_at (wl 0 S.cs) k hk
  obtain ⟨A, c, B, hcs, hlast, hi, hA⟩ := wl_part S.cs 0 k x (by rw [hL, ← hL1]; simp)
  obtain ⟨s1, s2⟩ := lastsN_step A c B x.2 hlast k hA ps
  refine ⟨x.1, x.2, c.now, lastsN k A ps, lasts B, nows A, nows B, ?_, ?_, ?_, ?_, ?_, ?_, ?_⟩
  · rw [hL, wtNums, List.map_append, List.getElem?_append_right (by simp [hL1])]; simp [hL1]
  · rw [hcs]; simp; omega
  · rw [lastsN_length]; omega
  · rw [nows_length]; omega
  · rw [hcs, nows_part]
  · rw [hcs]; exact s1
  · rw [hcs]; exact s2

set_option maxHeartbeats 1000000 in
theorem rcrash_at (r : Nat) (G : List Nat) (S : Dv) (a : Option Addr) (n cap bb : Nat) (l : List UInt8) (hn : n = l.length) (hn63 : n ≤ 9223372036854775807) (w : World) (hbs : BSlice w a l bb) (hbb : l ≠ [] → bb ∉ G) (h : RfAt w r G S) :
    Calls Try.prog 24 #[.pointer (some ⟨r, 0, none⟩), .slice a n cap] w fun e w' => e = .returned (.tuple #[]) ∧ ∃ G', RfAt w' r G' (S.crash l) ∧ Moves G G' w w' := by
  have cw := hide (rwaiting_at r G S w h)
  obtain ⟨L, rfl, h⟩ := h
  obtain ⟨m, hm⟩ : ∃ m, m = (wl 0 S.cs).length := ⟨_, rfl⟩
  have hml : m ≤ 4096 := by rw [hm]; exact Nat.le_trans (wl_length _ _) h.good.many
  rw [← hm] at cw
  have H := hide h
  have HM := hide hm
  have HBS := hide hbs
  have HBB := hide hbb
  have HN := hide hn
  have N63 := hide hn63
  clear h hm hbs hbb hn hn63
  go_enter Try.func24, Try.ntmps24
  go_wp2_with fail
  refine cw.out.mono ?_
  rintro e w1 ⟨v, rfl, hown, hnil, hB1⟩
  have own1 : ∃ g cp pad, v = .slice (some ⟨g, 0, none⟩) m cp ∧ w.heap.size ≤ g ∧ Blk w1 g (wtNums (wl 0 S.cs) ++ pad) 3 := by
    rcases hown.2 with ⟨h0, _⟩ | ⟨g, cp, cur, hv, hB, hh, _, _, _, ht⟩
    · exact absurd h0 hnil
    · refine ⟨g, cp, cur.toList.drop (m * 1), hv, hB, ?_⟩
      unfold Blk
      rw [← ht, List.take_append_drop, Array.toArray_toList]
      exact hh
  obtain ⟨g, cp, pad, rfl, hgw, hgb⟩ := own1
  have H1 := hide (H.out.same (w' := w1) (fun k hk => hB1.block k (H.out.lt k hk)))
  have BS1 := hide (HBS.out.same hB1.size (fun h _ => hB1.block bb h))
  have GB := hide hgb
  have GW := hide hgw
  have WB := hide hB1
  have hgl := hgb.lt
  clear hown hnil hB1 hgb hgw cw
  go_wp2
  go_loopg [5] m (fun kx s5 wr => ∃ k : Nat, s5 = .int .i64 k ∧ k ≤ m ∧ m - k ≤ kx ∧ Hid (Keep [L.last] w1 wr ∧ Blk wr L.last (rRow (lastsN k S.cs l) ++ L.pl) 88 ∧ wr.heap.size = w1.heap.size))
  case atStart => exact ⟨0, rfl, Nat.zero_le _, by omega, Keep.refl _ _, by rw [lastsN_zero]; exact H1.out.last, rfl⟩
  case round =>
    obtain ⟨k, rfl, hkm, hg, I⟩ := hrel
    obtain ⟨n1, n2, n3, n4, n5, n6⟩ := H1.out.ne
    have HD := hide (H1.out.dev.same (I.out.1.block r H1.out.dev.lt (by simpa using n1)))
    have HNW := hide (H1.out.now.same (I.out.1.block L.now H1.out.now.lt (by simpa using Ne.symm n4)))
    have hgL : g ≠ L.last := fun h => by have := GW.out; have := H.out.last.lt; omega
    have HGB := hide (GB.out.same (I.out.1.block g GB.out.lt (by simpa using hgL)))
    have c0 := HD.out.cell (i := 0) rfl
    have c1 := HD.out.cell (i := 1) rfl
    have hrr : r < wr.heap.size := HD.out.lt
    have hglr : g < wr.heap.size := HGB.out.lt
    by_cases hlt : k < m
    · obtain ⟨i, lst, now, a1, b1, na, nb, hnum, hic, hai, hnai, hnow, e1, e2⟩ := rcrash_part (S := S) (k := k) l (by rw [← HM.out]; exact hlt)
      have q0 : wr.cell? ⟨g, k, none⟩ = some (.int .i64 i) := HGB.out.cell (by rw [List.getElem?_append_left (List.getElem?_eq_some_iff.1 hnum).1]; exact hnum)
      have R0 := I.out.2.1
      rw [e1] at R0
      have RN := HNW.out
      rw [hnow] at RN
      have r0 := RN.cell (i := na.length * 2 + 0) (v := .int .i64 now.kind) (flat_getP rpg 2 (fun _ => rfl) na now nb L.pn 0 (by decide))
      have r1 := RN.cell (i := na.length * 2 + 1) (v := .string now.read) (flat_getP rpg 2 (fun _ => rfl) na now nb L.pn 1 (by decide))
      have t0 := R0.cell (i := a1.length * 2 + 0) (v := .int .i64 lst.kind) (flat_getP rpg 2 (fun _ => rfl) a1 lst b1 L.pl 0 (by decide))
      have t1 := R0.cell (i := a1.length * 2 + 1) (v := .string lst.read) (flat_getP rpg 2 (fun _ => rfl) a1 lst b1 L.pl 1 (by decide))
      have g0 := R0.frozen (a1.length * 2)
      have g1 := R0.frozen (a1.length * 2 + 1)
      rw [Nat.add_zero] at r0 t0
      rw [hnai] at r0 r1
      rw [hai] at t0 t1 g0 g1
      have hlw := R0.lt
      have hnw := RN.lt
      have hic2 : (i : Int) < (S.cs.length : Int) := by omega
      have fin : ∀ (y : Pg) (W : World), pick now lst ((l.drop k).headD 0).toNat = y → W = (wr.setCell ⟨L.last, i * 2, none⟩ (.int .i64 y.kind)).setCell ⟨L.last, i * 2 + 1, none⟩ (.string y.read) → Keep [L.last] w1 W ∧ Blk W L.last (rRow (lastsN (k + 1) S.cs l) ++ L.pl) 88 ∧ W.heap.size = w1.heap.size := by
        intro y W hy hW
        refine ⟨by rw [hW]; exact (I.out.1.setCell (.inl (by simp)) _).setCell (.inl (by simp)) _, ?_, by rw [hW, nblk_setCell, nblk_setCell]; exact I.out.2.2⟩
        have b := rRow_set R0 y
        rw [hai] at b
        rw [e2, hy, hW]
        exact b
      have same : pick now lst ((l.drop k).headD 0).toNat = lst → lastsN (k + 1) S.cs l = lastsN k S.cs l := fun h => by rw [e2, h, e1]
      have FIN := hide fin
      have SAME := hide same
      clear e1 e2 hai hnai R0 RN fin same hnow hnum
      by_cases hkl : k < n
      · obtain ⟨x, hx⟩ : ∃ x : UInt8, x = l.getD k 0 := ⟨_, rfl⟩
        have pc : ∃ bo, a = some ⟨bb, bo, none⟩ ∧ bb < wr.heap.size ∧ wr.cell? ⟨bb, bo + k, none⟩ = some (.int .u8 (x.toNat : Int)) := by
          rcases BS1.out with h0 | ⟨hb, bo, ha, hc⟩
          · have := HN.out; rw [h0] at this; simp at this; omega
          · refine ⟨bo, ha, Nat.lt_of_lt_of_le hb I.out.1.size, ?_⟩
            have hkl2 : k < l.length := by rw [← HN.out]; exact hkl
            have hnf := HBB.out (fun h => by rw [h] at hkl2; simp at hkl2)
            rw [World.cell?_of_block (a := ⟨bb, bo + k, none⟩) (I.out.1.block bb hb (fun h => hnf (by simp at h; simp [rfoot, h]))), hc k hkl2, hx]
            simp [List.getD_eq_getElem?_getD, List.getElem?_eq_getElem hkl2]
        obtain ⟨bo, rfl, hbw, pc⟩ := pc
        have HX : Hid ((l.drop k).headD 0 = x) := by show (l.drop k).headD 0 = x; rw [drop_headD, ← hx]
        clear hx
        have hkl3 : (k : Int) < (n : Int) := by omega
        rw [HX.out] at FIN SAME
        rcases (show x.toNat % 3 = 0 ∨ x.toNat % 3 = 1 ∨ x.toNat % 3 = 2 by omega) with h3 | h3 | h3
        · have h3i : (wrap64 (x.toNat : Int)).tmod 3 = 0 := by rw [pick3]; omega
          have P : Hid (pick now lst x.toNat = lst) := by simp [Hid, pick, h3]
          clear h3
          go_wp2
          go_roundg (m - (k + 1))
          case measure => omega
          case rel => exact ⟨k + 1, rfl, by omega, by omega, by rw [SAME.out P.out]; exact I.out⟩
        · have h3i : (wrap64 (x.toNat : Int)).tmod 3 = 1 := by rw [pick3]; omega
          have P : Hid (pick now lst x.toNat = now) := by simp [Hid, pick, h3]
          clear h3
          go_wp2
          go_region
          all_goals go_wp2
          all_goals (
            go_roundg (m - (k + 1))
            case measure => omega
            case rel => exact ⟨k + 1, rfl, by omega, by omega, ⟨(FIN.out _ _ P.out rfl).1.drew, (FIN.out _ _ P.out rfl).2⟩⟩)
        · have h3i : (wrap64 (x.toNat : Int)).tmod 3 = 2 := by rw [pick3]; omega
          have P : Hid (pick now lst x.toNat = .torn) := by simp [Hid, pick, h3]
          clear h3
          go_wp2
          go_region
          all_goals go_wp2
          all_goals (
            go_roundg (m - (k + 1))
            case measure => omega
            case rel => refine ⟨k + 1, rfl, by omega, by omega, ?_⟩; exact ⟨(FIN.out _ _ P.out rfl).1.drew, (FIN.out _ _ P.out rfl).2⟩)
      · have HX : Hid ((l.drop k).headD 0 = 0) := by
          show (l.drop k).headD 0 = 0
          rw [List.drop_eq_nil_of_le (by rw [← HN.out]; omega)]
          rfl
        rw [HX.out] at FIN SAME
        have P : Hid (pick now lst (0 : UInt8).toNat = lst) := by simp [Hid, pick]
        have hkl3 : ¬ (k : Int) < (n : Int) := by omega
        go_wp2
        go_roundg (m - (k + 1))
        case measure => omega
        case rel => exact ⟨k + 1, rfl, by omega, by omega, by rw [SAME.out P.out]; exact I.out⟩
    · obtain rfl : k = m := by omega
      have HWR := hide I.out.2.2
      have LR : Hid (Blk wr L.last (rRow (nows (settle S.cs l)) ++ L.pl) 88) := by
        have := I.out.2.1
        rw [HM.out, lastsN_all] at this
        exact this
      obtain ⟨q, hq⟩ : ∃ q, q = S.cs.length := ⟨_, rfl⟩
      have HQ := hide hq
      have hql : q ≤ 4096 := by rw [hq]; exact H.out.good.many
      clear hq
      rw [← HQ.out] at c0 c1
      have hla : (nows (settle S.cs l)).length = q := by rw [nows_length, settle_length, HQ.out]
      have hna : (nows S.cs).length = q := by rw [nows_length, HQ.out]
      obtain ⟨W1, hW1⟩ : ∃ W1, W1 = wr.drew.setCells L.now 0 (rRow (nows (settle S.cs l))) := ⟨_, rfl⟩
      have hcp : ∀ ty cx cy, (Builtin.copy_ #[79, 79] ty #[.slice (some ⟨L.now, 0, none⟩) q cx, .slice (some ⟨L.last, 0, none⟩) q cy]).run Try.prog wr.drew = .ok (goInt q) W1 := fun ty cx cy => by
        rw [hW1]; exact copyRow (w := wr.drew) HNW.out LR.out hna hla ty
      have keepW : ∀ k, k ≠ L.now → W1.heap[k]? = wr.heap[k]? := fun k hk => by rw [hW1]; exact heap_setCells_other _ _ _ _ _ hk
      have hWs : W1.heap.size = w1.heap.size := by rw [hW1, ← HWR.out]; exact size_setCells _ _ _ _
      have b1 := HD.out.same (keepW r n2)
      have dd1 := b1.cell (i := 1) rfl
      have dd2 := b1.cell (i := 2) rfl
      have dd3 := b1.cell (i := 3) rfl
      have dd5 := b1.cell (i := 5) rfl
      have dd9 := b1.cell (i := 9) rfl
      have ee2 := b1.frozen 2
      have ee3 := b1.frozen 3
      have ee5 := b1.frozen 5
      have ee9 := b1.frozen 9
      rw [← HQ.out] at dd1 dd2
      have hrW : r < W1.heap.size := b1.lt
      have hmk := makeBools q hql
      generalize hZ : (List.replicate q (Value.bool false)).toArray = Z at hmk
      have HZ := hide hZ
      have HCP := hide hcp
      have HW1 := hide hW1
      have KW := hide keepW
      have HWS := hide hWs
      clear hZ hcp hW1 keepW hWs b1 hla hna n1 n2 n3 n4 n5 n6
      go_wp2
      go_region_law (refine step_copy_runI rfl _ _ 79 79 rfl (.slice (some ⟨L.now, 0, none⟩) q (q + L.pn.length / 2)) (.slice (some ⟨L.last, 0, none⟩) q (q + L.pl.length / 2)) (by simp [Act.eval, Act.put]) (by simp [Act.eval, Act.put]) (HCP.out _ _ _) ?_)
      all_goals go_wp2
      all_goals go_region
      all_goals go_wp2
      all_goals (
        go_end0
        obtain ⟨n1, n2, n3, n4, n5, n6⟩ := H1.out.ne
        obtain ⟨Wf, hWf⟩ : ∃ Wf, Wf = (((((W1.setCell ⟨r, 2, none⟩ (.slice (some ⟨W1.heap.size, 0, none⟩) q q)).setCell ⟨r, 3, none⟩ (.bool true)).setCell ⟨r, 5, none⟩ (.int .i64 (wrap64 (S.losses + 1)))).setCell ⟨r, 9, none⟩ (.int .i64 (wrap64 (S.cr + 1)))).alloc (.cells Z 4)).drew := ⟨_, rfl⟩
        rw [← hWf]
        have KW1 : Keep (rfoot r L) w1 W1 := by
          rw [HW1.out]
          exact ((I.out.1.mono (G := rfoot r L) (fun k hk => .inl (by simp at hk; simp [rfoot, hk]))).drew).setCells (.inl (by simp [rfoot])) _ _
        have KWf : Keep (rfoot r L) w1 Wf := by
          rw [hWf]; exact (((((KW1.setCell (.inl (by simp [rfoot])) _).setCell (.inl (by simp [rfoot])) _).setCell (.inl (by simp [rfoot])) _).setCell (.inl (by simp [rfoot])) _).alloc _).drew
        have hcl : (settle S.cs l).length = q := by rw [settle_length, HQ.out]
        have R := ref_end (S' := S.crash l) (Wf := Wf) H1.out ?_ ?_ ?_ ?_ (Dv.crash_good H.out.good l) KWf
        · exact ⟨rfl, _, ⟨_, rfl, R.1⟩, (Moves.of_keep (Keep.of_below WB.out)).trans R.2⟩
        · show Blk Wf w1.heap.size (wRow (settle S.cs l)) 4
          rw [wRow_settle, ← HQ.out]
          unfold Blk
          rw [HZ.out, ← HWS.out, hWf]
          have := blk_alloc_new ((((W1.setCell ⟨r, 2, none⟩ (.slice (some ⟨W1.heap.size, 0, none⟩) q q)).setCell ⟨r, 3, none⟩ (.bool true)).setCell ⟨r, 5, none⟩ (.int .i64 (wrap64 (S.losses + 1)))).setCell ⟨r, 9, none⟩ (.int .i64 (wrap64 (S.cr + 1)))) (.cells Z 4)
          rw [nblk_setCell, nblk_setCell, nblk_setCell, nblk_setCell] at this
          exact this
        · have b := (((((HD.out.same (KW.out r n2)).set 2 (.slice (some ⟨W1.heap.size, 0, none⟩) q q)).set 3 (.bool true)).set 5 (.int .i64 (wrap64 (S.losses + 1)))).set 9 (.int .i64 (wrap64 (S.cr + 1)))).alloc (.cells Z 4)
          have e : rCells { L with waits := w1.heap.size, pw := [] } (S.crash l) = ((((rCells L S).set 2 (.slice (some ⟨W1.heap.size, 0, none⟩) q q)).set 3 (.bool true)).set 5 (.int .i64 (wrap64 (S.losses + 1)))).set 9 (.int .i64 (wrap64 (S.cr + 1))) := by
            simp only [rCells, Dv.crash, hcl, ← HQ.out, HWS.out]; rfl
          rw [e, hWf]
          exact b
        · show Blk Wf L.last (rRow (lasts (settle S.cs l)) ++ L.pl) 88
          rw [lasts_settle]
          have b := LR.out.same (KW.out L.last n4)
          rw [hWf]
          exact ((((b.other (a := ⟨r, 2, none⟩) (Ne.symm n1) _).other (a := ⟨r, 3, none⟩) (Ne.symm n1) _).other (a := ⟨r, 5, none⟩) (Ne.symm n1) _).other (a := ⟨r, 9, none⟩) (Ne.symm n1) _).alloc _
        · show Blk Wf L.now (rRow (nows (settle S.cs l)) ++ L.pn) 88
          have b := copied (w := wr.drew) (w1 := w) (W := w) (b := nows (settle S.cs l)) HNW.out (by rw [nows_length, nows_length, settle_length])
          rw [← HW1.out] at b
          rw [hWf]
          exact ((((b.other (a := ⟨r, 2, none⟩) (Ne.symm n2) _).other (a := ⟨r, 3, none⟩) (Ne.symm n2) _).other (a := ⟨r, 5, none⟩) (Ne.symm n2) _).other (a := ⟨r, 9, none⟩) (Ne.symm n2) _).alloc _)
end Go.Proofs.Ytcdefadeaiklbaa
