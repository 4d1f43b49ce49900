/- What waits is settled: Crash, On. -/
import Derived.Test.YtbccnfbombgdmaaWrite
set_option linter.unusedVariables false
set_option linter.unusedSimpArgs false
set_option maxRecDepth 8000
namespace Go.Proofs.Ytbccnfbombgdmaa
open Go.RowKit Go.Deep

/-- The pages as they stand when the first k of those that wait are settled. -/
def nowsN : Nat → List Cl → List UInt8 → List Pg
  | _, [], _ => []
  | k, c :: r, ps => match c.last with
    | none => c.now :: nowsN k r ps
    | some l => match k with
      | 0 => c.now :: nowsN 0 r ps
      | k + 1 => pick c.now l (ps.headD 0).toNat :: nowsN k r ps.tail

theorem nowsN_zero : ∀ (cs : List Cl) (ps : List UInt8), nowsN 0 cs ps = cs.map (·.now)
  | [], _ => rfl
  | c :: r, ps => by
    unfold nowsN
    split <;> simp [nowsN_zero r]

theorem nowsN_append : ∀ (A X : List Cl) (i j : Nat) (ps : List UInt8), nowsN ((wl i A).length + j) (A ++ X) ps = nowsN (wl i A).length A ps ++ nowsN j X (ps.drop (wl i A).length)
  | [], X, i, j, ps => by simp [wl, nowsN]
  | a :: r, X, i, j, ps => by
    cases h : a.last with
    | none =>
      have e : wl i (a :: r) = wl (i + 1) r := by simp [wl, h]
      rw [e, List.cons_append]
      simp only [nowsN, h]
      rw [nowsN_append r X (i + 1) j ps]
      rfl
    | some l =>
      have e : wl i (a :: r) = (i, l) :: wl (i + 1) r := by simp [wl, h]
      rw [e, List.cons_append, List.length_cons, show (wl (i + 1) r).length + 1 + j = ((wl (i + 1) r).length + j) + 1 by omega]
      simp only [nowsN, h]
      rw [nowsN_append r X (i + 1) j ps.tail]
      simp

theorem nowsN_all : ∀ (cs : List Cl) (i : Nat) (ps : List UInt8), nowsN (wl i cs).length cs ps = (settle cs ps).map (·.now)
  | [], _, _ => rfl
  | c :: r, i, ps => by
    cases h : c.last with
    | none =>
      have e : wl i (c :: r) = wl (i + 1) r := by simp [wl, h]
      rw [e]
      simp only [nowsN, settle, h]
      rw [nowsN_all r (i + 1) ps]
      rfl
    | some l =>
      have e : wl i (c :: r) = (i, l) :: wl (i + 1) r := by simp [wl, h]
      rw [e, List.length_cons]
      simp only [nowsN, settle, h]
      rw [nowsN_all r (i + 1) ps.tail]
      rfl

/-- The k-th of those that wait: where it lies. -/
theorem wl_part : ∀ (cs : List Cl) (i k : Nat) (x : Nat × Pg), (wl i cs)[k]? = some x → ∃ A c B, cs = A ++ c :: B ∧ c.last = some x.2 ∧ x.1 = i + A.length ∧ (wl i A).length = k
  | [], i, k, x, h => by simp [wl] at h
  | c :: r, i, k, x, h => by
    cases hl : c.last with
    | none =>
      have e : wl i (c :: r) = wl (i + 1) r := by simp [wl, hl]
      rw [e] at h
      obtain ⟨A, c', B, h1, h2, h3, h4⟩ := wl_part r (i + 1) k x h
      refine ⟨c :: A, c', B, by rw [h1]; rfl, h2, by simp; omega, ?_⟩
      have e2 : wl i (c :: A) = wl (i + 1) A := by simp [wl, hl]
      rw [e2]; exact h4
    | some l =>
      have e : wl i (c :: r) = (i, l) :: wl (i + 1) r := by simp [wl, hl]
      rw [e] at h
      cases k with
      | zero =>
        simp only [List.getElem?_cons_zero, Option.some.injEq] at h
        subst h
        exact ⟨[], c, r, rfl, hl, by simp, by simp [wl]⟩
      | succ k =>
        rw [List.getElem?_cons_succ] at h
        obtain ⟨A, c', B, h1, h2, h3, h4⟩ := wl_part r (i + 1) k x h
        refine ⟨c :: A, c', B, by rw [h1]; rfl, h2, by simp; omega, ?_⟩
        have e2 : wl i (c :: A) = (i, l) :: wl (i + 1) A := by simp [wl, hl]
        rw [e2, List.length_cons, h4]

def pRow (l : List Pg) : List Value := l.flatMap pgCells
theorem pgRow_eq (cs : List Cl) : pgRow cs = pRow (cs.map (·.now)) := by simp [pgRow, pRow, List.flatMap_map]
theorem pRow_append (a b : List Pg) : pRow (a ++ b) = pRow a ++ pRow b := by simp [pRow]
theorem pRow_cons (x : Pg) (b : List Pg) : pRow (x :: b) = pgCells x ++ pRow b := by simp [pRow]
theorem pRow_length (l : List Pg) : (pRow l).length = l.length * 2 := flat_length pgCells 2 (fun _ => rfl) l

theorem nowsN_length : ∀ (cs : List Cl) (k : Nat) (ps : List UInt8), (nowsN k cs ps).length = cs.length
  | [], _, _ => rfl
  | c :: r, k, ps => by
    unfold nowsN
    split
    · simp [nowsN_length r]
    · split <;> simp [nowsN_length r]

/-- One more is settled: one page of the row is turned. -/
theorem nowsN_step (A : List Cl) (c : Cl) (B : List Cl) (l : Pg) (hl : c.last = some l) (k : Nat) (hk : (wl 0 A).length = k) (ps : List UInt8) :
    nowsN k (A ++ c :: B) ps = nowsN k A ps ++ c.now :: B.map (·.now) ∧
    nowsN (k + 1) (A ++ c :: B) ps = nowsN k A ps ++ pick c.now l ((ps.drop k).headD 0).toNat :: B.map (·.now) := by
  subst hk
  constructor
  · have := nowsN_append A (c :: B) 0 0 ps
    rw [Nat.add_zero] at this
    rw [this, nowsN_zero]
    rfl
  · rw [nowsN_append A (c :: B) 0 1 ps]
    simp only [nowsN, hl]
    rw [nowsN_zero]

/-- Two stores into the row of pages. -/
theorem pRow_set {w : World} {p : Nat} {pd : List Value} {a : List Pg} {x : Pg} {b : List Pg} (h : Blk w p (pRow (a ++ x :: b) ++ pd) 92) (y : Pg) :
    Blk ((w.setCell ⟨p, a.length * 2, none⟩ (.int .u8 y.kind)).setCell ⟨p, a.length * 2 + 1, none⟩ (.string y.text)) p (pRow (a ++ y :: b) ++ pd) 92 := by
  have e1 : pRow (a ++ x :: b) ++ pd = pRow a ++ .int .u8 x.kind :: ([.string x.text] ++ (pRow b ++ pd)) := by rw [pRow_append, pRow_cons]; simp [pgCells]
  rw [e1] at h
  have b1 := h.set (a.length * 2) (.int .u8 y.kind)
  rw [set_append_len _ _ _ _ _ (pRow_length a).symm] at b1
  have e2 : pRow a ++ .int .u8 (y.kind : Int) :: ([.string x.text] ++ (pRow b ++ pd)) = (pRow a ++ [.int .u8 (y.kind : Int)]) ++ .string x.text :: (pRow b ++ pd) := by simp
  rw [e2] at b1
  have b2 := b1.set (a.length * 2 + 1) (.string y.text)
  rw [set_append_len _ _ _ _ _ (by rw [List.length_append, pRow_length]; rfl)] at b2
  have e3 : pRow (a ++ y :: b) ++ pd = (pRow a ++ [.int .u8 (y.kind : Int)]) ++ .string y.text :: (pRow b ++ pd) := by rw [pRow_append, pRow_cons]; simp [pgCells]
  rw [e3]
  exact b2

/-- What a round of 'settle' needs of the memory. -/
theorem settle_at {w wr : World} {d p : Nat} {pd : List Value} {wa : Option Addr} {wc : Nat} {S : Dv} {k : Nat} {ps : List UInt8} (H : DvIn w d p pd wa wc S) (K : Keep [p] w wr) (R : Blk wr p (pRow (nowsN k S.cs ps) ++ pd) 92) (hk : k < (wl 0 S.cs).length) :
    ∃ (g i : Nat) (l now : Pg) (a b : List Pg), wa = some ⟨g, 0, none⟩ ∧ g < wr.heap.size ∧ wr.cell? ⟨g, k * 3, none⟩ = some (.int .i64 i) ∧ wr.cell? ⟨g, k * 3 + 1, none⟩ = some (.int .u8 l.kind) ∧ wr.cell? ⟨g, k * 3 + 2, none⟩ = some (.string l.text) ∧
      i < S.cs.length ∧ a.length = i ∧ nowsN k S.cs ps = a ++ now :: b ∧ nowsN (k + 1) S.cs ps = a ++ pick now l ((ps.drop k).headD 0).toNat :: b := by
  obtain ⟨L1, x, L2, hL, hL1⟩ := part_at (wl 0 S.cs) k hk
  obtain ⟨A, c, B, hcs, hlast, hi, hA⟩ := wl_part S.cs 0 k x (by rw [hL, ← hL1]; simp)
  obtain ⟨s1, s2⟩ := nowsN_step A c B x.2 hlast k hA ps
  rcases own_form H.own with ⟨_, h0, _⟩ | ⟨g, pad, hwa, hb, _⟩
  · omega
  · have hgd := H.dq _ hwa
    have hb' : Blk wr g (wtRow (wl 0 S.cs) ++ pad) 94 := hb.same (K.block g hb.lt (by simpa using hgd.2))
    have cell : ∀ j (hj : j < 3) v, (wtCells x)[j]? = some v → wr.cell? ⟨g, k * 3 + j, none⟩ = some v := fun j hj v hv => by
      refine hb'.cell ?_
      have := flat_get wtCells 3 (fun _ => rfl) L1 x L2 j hj
      rw [hv, hL1] at this
      change (wtRow (L1 ++ x :: L2))[k * 3 + j]? = some v at this
      rw [hL, List.getElem?_append_left (List.getElem?_eq_some_iff.1 this).1]
      exact this
    refine ⟨g, x.1, x.2, c.now, nowsN k A ps, B.map (·.now), hwa, hb'.lt, cell 0 (by decide) _ rfl, cell 1 (by decide) _ rfl, cell 2 (by decide) _ rfl, ?_, ?_, ?_, ?_⟩
    · rw [hcs]; simp; omega
    · rw [nowsN_length]; omega
    · rw [hcs]; exact s1
    · rw [hcs]; exact s2

theorem drop_headD (l : List UInt8) (k : Nat) : (l.drop k).headD 0 = l.getD k 0 := by
  rw [List.headD_eq_head?_getD, List.head?_drop, List.getD_eq_getElem?_getD]

/-- The end of a round: the page is what it was; what was written last; torn. -/
theorem settle_round {w wr : World} {p k i : Nat} {pd : List Value} {S : Dv} {ps : List UInt8} {lst now : Pg} {a b : List Pg} {O : Obj} (I : Keep [p] w wr ∧ Blk wr p (pRow (nowsN k S.cs ps) ++ pd) 92) (e1 : nowsN k S.cs ps = a ++ now :: b)
    (e2 : nowsN (k + 1) S.cs ps = a ++ pick now lst ((ps.drop k).headD 0).toNat :: b) (hai : a.length = i) (x : UInt8) (hx : (ps.drop k).headD 0 = x) :
    (∀ (y : Pg) (kv : Int) (tv : ByteArray), pick now lst x.toNat = y → kv = (y.kind : Int) → tv = y.text → Keep [p] w (((wr.setCell ⟨p, i * 2, none⟩ (.int .u8 kv)).setCell ⟨p, i * 2 + 1, none⟩ (.string tv)).alloc O).drew ∧
      Blk (((wr.setCell ⟨p, i * 2, none⟩ (.int .u8 kv)).setCell ⟨p, i * 2 + 1, none⟩ (.string tv)).alloc O).drew p (pRow (nowsN (k + 1) S.cs ps) ++ pd) 92) ∧
    (pick now lst x.toNat = now → Keep [p] w (wr.alloc O) ∧ Blk (wr.alloc O) p (pRow (nowsN (k + 1) S.cs ps) ++ pd) 92) := by
  have R := I.2
  rw [e1] at R
  subst hx
  refine ⟨fun y kv tv hy hkv htv => ⟨(((I.1.setCell (.inl (by simp)) _).setCell (.inl (by simp)) _).alloc O).drew, ?_⟩, fun hy => ⟨I.1.alloc O, ?_⟩⟩
  · have := (pRow_set R y).alloc O
    rw [hai, ← hkv, ← htv] at this
    rw [e2, hy]
    exact this
  · rw [e2, hy]
    exact R.alloc O

set_option maxHeartbeats 1000000 in
theorem settle_any (d p : Nat) (pd : List Value) (wa : Option Addr) (wc : Nat) (S : Dv) (a : Option Addr) (n cap bb : Nat) (l : List UInt8) (hn : n = l.length) (hn63 : n ≤ 9223372036854775807) (w : World) (hbs : BSlice w a l bb) (hbb : l ≠ [] → bb ∉ foot d p wa) (h : DvIn w d p pd wa wc S) :
    Calls Try.prog 41 #[.pointer (some ⟨d, 0, none⟩), .slice a n cap] w fun e w' => e = .returned (.tuple #[]) ∧ DvIn w' d p pd none 0 { S with cs := settle S.cs l } ∧ Keep [d, p] w w' := by
  obtain ⟨m, hm⟩ : ∃ m, m = (wl 0 S.cs).length := ⟨_, rfl⟩
  have hml : m ≤ 4096 := by rw [hm]; exact Nat.le_trans (wl_length _ _) h.good.many
  have c1 := h.dev.cell (i := 1) rfl
  rw [← hm] at c1
  have hdw := h.dev.lt
  have H := hide h
  have HM := hide hm
  have HBS := hide hbs
  have HBB := hide hbb
  have HN := hide hn
  have N63 := hide hn63
  clear h hm hbs hbb hn hn63
  go_enter Try.func41, Try.ntmps41
  go_wp2
  go_loopg [12] m (fun kx s12 wr => ∃ k : Nat, s12 = .int .i64 k ∧ k ≤ m ∧ m - k ≤ kx ∧ Hid (Keep [p] w wr ∧ Blk wr p (pRow (nowsN k S.cs l) ++ pd) 92))
  case atStart => exact ⟨0, rfl, Nat.zero_le _, by omega, Keep.refl _ _, by rw [nowsN_zero, ← pgRow_eq]; exact H.out.row⟩
  case round =>
    obtain ⟨k, rfl, hkm, hg, I⟩ := hrel
    by_cases hlt : k < m
    · obtain ⟨g, i, lst, now, a1, b1, hwa, hgw, q0, q1, q2, hic, hai, e1, e2⟩ := settle_at H.out I.out.1 I.out.2 (by rw [← HM.out]; exact hlt)
      subst hwa
      have HD := hide (H.out.dev.same (I.out.1.block d H.out.dev.lt (by simpa using H.out.dp)))
      have c0 := HD.out.cell (i := 0) rfl
      have R0 := I.out.2
      rw [e1] at R0
      have r0 := R0.cell (i := a1.length * 2 + 0) (v := .int .u8 now.kind) (flat_getP pgCells 2 (fun _ => rfl) a1 now b1 pd 0 (by decide))
      have r1 := R0.cell (i := a1.length * 2 + 1) (v := .string now.text) (flat_getP pgCells 2 (fun _ => rfl) a1 now b1 pd 1 (by decide))
      have g0 := R0.frozen (a1.length * 2)
      have g1 := R0.frozen (a1.length * 2 + 1)
      rw [Nat.add_zero] at r0
      rw [hai] at r0 r1 g0 g1
      have hpw := R0.lt
      have hdr : d < wr.heap.size := HD.out.lt
      have hic2 : (i : Int) < (S.cs.length : Int) := by omega
      have E1 := hide e1
      have E2 := hide e2
      have HAI := hide hai
      have RR := hide R0
      clear e1 e2 hai R0
      by_cases hkl : k < n
      · obtain ⟨x, hx⟩ : ∃ x : UInt8, x = l.getD k 0 := ⟨_, rfl⟩
        have pc : ∃ bo, a = some ⟨bb, bo, none⟩ ∧ bb < wr.heap.size ∧ wr.cell? ⟨bb, bo + k, none⟩ = some (.int .u8 (x.toNat : Int)) := by
          rcases HBS.out with h0 | ⟨hb, bo, ha, hc⟩
          · have := HN.out; rw [h0] at this; simp at this; omega
          · refine ⟨bo, ha, Nat.lt_of_lt_of_le hb I.out.1.size, ?_⟩
            have hkl2 : k < l.length := by rw [← HN.out]; exact hkl
            have hnf := HBB.out (fun h => by rw [h] at hkl2; simp at hkl2)
            rw [World.cell?_of_block (a := ⟨bb, bo + k, none⟩) (I.out.1.block bb hb (fun h => hnf (by simp at h; simp [foot, h]))), hc k hkl2, hx]
            simp [List.getD_eq_getElem?_getD, List.getElem?_eq_getElem hkl2]
        obtain ⟨bo, rfl, hbw, pc⟩ := pc
        have X := hide hx
        clear hx
        have hkl3 : (k : Int) < (n : Int) := by omega
        have HX : Hid ((l.drop k).headD 0 = x) := by show (l.drop k).headD 0 = x; rw [drop_headD, ← X.out]
        rcases (show x.toNat % 3 = 0 ∨ x.toNat % 3 = 1 ∨ x.toNat % 3 = 2 by omega) with h3 | h3 | h3
        · have h3i : (x.toNat : Int) % 3 = 0 := by omega
          have P : Hid (pick now lst x.toNat = lst) := by simp [Hid, pick, h3]
          clear h3
          go_wp2
          go_region
          all_goals go_wp2
          all_goals (
            go_roundg (m - (k + 1))
            case measure => omega
            case rel => exact ⟨k + 1, rfl, by omega, by omega, (settle_round I.out E1.out E2.out HAI.out x HX.out).1 _ _ _ P.out rfl rfl⟩)
        · have h3i : (x.toNat : Int) % 3 = 1 := by omega
          have P : Hid (pick now lst x.toNat = now) := by simp [Hid, pick, h3]
          clear h3
          go_wp2
          go_roundg (m - (k + 1))
          case measure => omega
          case rel => exact ⟨k + 1, rfl, by omega, by omega, (settle_round I.out E1.out E2.out HAI.out x HX.out).2 P.out⟩
        · have h3i : (x.toNat : Int) % 3 = 2 := by omega
          have P : Hid (pick now lst x.toNat = .torn) := by simp [Hid, pick, h3]
          clear h3
          go_wp2
          go_region
          all_goals go_wp2
          all_goals (
            go_roundg (m - (k + 1))
            case measure => omega
            case rel => exact ⟨k + 1, rfl, by omega, by omega, (settle_round I.out E1.out E2.out HAI.out x HX.out).1 _ _ _ P.out rfl rfl⟩)
      · have HX : Hid ((l.drop k).headD 0 = 0) := by
          show (l.drop k).headD 0 = 0
          rw [List.drop_eq_nil_of_le (by rw [← HN.out]; omega)]
          rfl
        have P : Hid (pick now lst (0 : UInt8).toNat = lst) := by simp [Hid, pick]
        have hkl3 : ¬ (k : Int) < (n : Int) := by omega
        go_wp2
        go_region
        all_goals go_wp2
        all_goals (
          go_roundg (m - (k + 1))
          case measure => omega
          case rel => exact ⟨k + 1, rfl, by omega, by omega, (settle_round I.out E1.out E2.out HAI.out 0 HX.out).1 _ _ _ P.out rfl rfl⟩)
    · obtain rfl : k = m := by omega
      have HD := hide (H.out.dev.same (I.out.1.block d H.out.dev.lt (by simpa using H.out.dp)))
      have c9 := HD.out.cell (i := 1) rfl
      have f9 := HD.out.frozen 1
      go_wp2
      go_end0
      obtain ⟨W, hW⟩ : ∃ W, W = wr.setCell ⟨d, 1, none⟩ (.slice none 0 0) := ⟨_, rfl⟩
      have K : Keep [d] wr W := by rw [hW]; exact (Keep.refl _ _).setCell (.inl (by simp)) _
      rw [← hW]
      have hwl : wl 0 (settle S.cs l) = [] := wl_settle _ _ _
      have hlen : (settle S.cs l).length = S.cs.length := settle_length _ _
      refine ⟨rfl, ⟨?_, ?_, ?_, H.out.dp, (fun a ha => by cases ha), ?_⟩, ?_⟩
      · have b := HD.out.set 1 (.slice none 0 0)
        rw [← hW] at b
        have e : dvCells p pd none (wl 0 (settle S.cs l)).length 0 { S with cs := settle S.cs l } = (dvCells p pd wa (wl 0 S.cs).length wc S).set 1 (.slice none 0 0) := by
          rw [hwl]; simp only [dvCells, hlen]; rfl
        show Blk W d (dvCells p pd none (wl 0 (settle S.cs l)).length 0 _) 62
        rw [e]
        exact b
      · show Blk W p (pgRow (settle S.cs l) ++ pd) 92
        rw [pgRow_eq, ← nowsN_all S.cs 0 l, ← HM.out]
        exact I.out.2.same (K.block p I.out.2.lt (by simpa using Ne.symm H.out.dp))
      · show World.ownsRow _ 0 94 3 (.slice _ (wl 0 (settle S.cs l)).length _) (wl 0 (settle S.cs l)).length (wtRow (wl 0 (settle S.cs l)))
        rw [hwl]
        exact World.ownsRow_nil _ _ _ _
      · exact ⟨by show (settle S.cs l).length ≤ _; rw [hlen]; exact H.out.good.many, H.out.good.armed, settle_fits _ _ H.out.good.fits⟩
      · exact (I.out.1.mono (G := [d, p]) (fun k hk => .inl (by simp at hk; simp [hk]))).trans K (fun x hx => .inl (by simp at hx; simp [hx]))

theorem settle_at0 (d p : Nat) (pd : List Value) (wa : Option Addr) (wc : Nat) (S : Dv) (w : World) (h : DvIn w d p pd wa wc S) :
    Calls Try.prog 41 #[.pointer (some ⟨d, 0, none⟩), .slice none 0 0] w fun e w' => e = .returned (.tuple #[]) ∧ DvIn w' d p pd none 0 { S with cs := settle S.cs [] } ∧ Keep [d, p] w w' :=
  settle_any d p pd wa wc S none 0 0 0 [] rfl (by omega) w (.inl rfl) (fun h => absurd rfl h) h

theorem foot_none {d p : Nat} {wa : Option Addr} {w w' : World} (h : Keep [d, p] w w') : Moves (foot d p wa) (foot d p none) w w' := by
  refine ⟨h.mono (fun k hk => .inl (by simp at hk; rcases hk with rfl | rfl <;> simp [foot])), fun k hk => .inl ?_⟩
  simp only [foot, List.mem_cons, Option.map_none, Option.toList_none, List.not_mem_nil, or_false] at hk
  rcases hk with rfl | rfl <;> simp [foot]

set_option maxHeartbeats 400000 in
theorem crash_at (d : Nat) (F : List Nat) (S : Dv) (a : Option Addr) (n cap bb : Nat) (l : List UInt8) (hn : n = l.length) (hn63 : n ≤ 9223372036854775807) (w : World) (hbs : BSlice w a l bb) (hbb : l ≠ [] → bb ∉ F) (h : DvAt w d F S) :
    Calls Try.prog 20 #[.pointer (some ⟨d, 0, none⟩), .slice a n cap] w fun e w' => e = .returned (.tuple #[]) ∧ ∃ F', DvAt w' d F' (S.crash l) ∧ Moves F F' w w' := by
  obtain ⟨p, pd, wa, wc, rfl, h⟩ := h
  have c3 := h.dev.cell (i := 3) rfl
  have f3 := h.dev.frozen 3
  have c4 := h.dev.cell (i := 4) rfl
  have f4 := h.dev.frozen 4
  have c8 := h.dev.cell (i := 8) rfl
  have f8 := h.dev.frozen 8
  have K : Keep [d] w (((w.setCell ⟨d, 3, none⟩ (.bool true)).setCell ⟨d, 4, none⟩ (.int .i64 (wrap64 (S.losses + 1)))).setCell ⟨d, 8, none⟩ (.int .i64 (wrap64 (S.cr + 1)))) :=
    (((Keep.refl [d] w).setCell (.inl (by simp)) _).setCell (.inl (by simp)) _).setCell (.inl (by simp)) _
  have h1 := h.turn (S' := { S with off := true, losses := wrap64 (S.losses + 1), cr := wrap64 (S.cr + 1) }) K (((h.dev.set 3 _).set 4 _).set 8 _) rfl ⟨h.good.many, h.good.armed, h.good.fits⟩
  have cs := hide (settle_any d p pd wa wc _ a n cap bb l hn hn63 _ (hbs.same K.size (fun hb hl => K.block bb hb (fun hk => hbb hl (by simp at hk; simp [foot, hk])))) hbb h1)
  have HK := hide K
  clear h h1 K hbs hbb hn hn63
  go_enter Try.func20, Try.ntmps20
  go_wp2_with (go_at_call 41; refine cs.out.mono ?_; rintro e w' ⟨rfl, h2, k2⟩)
  go_end0
  exact ⟨rfl, foot d p none, ⟨p, pd, none, 0, rfl, h2⟩, (Moves.of_keep (HK.out.mono (fun k hk => .inl (by simp at hk; simp [foot, hk])))).trans (foot_none k2)⟩

set_option maxHeartbeats 400000 in
theorem on_at (d : Nat) (F : List Nat) (S : Dv) (w : World) (h : DvAt w d F S) :
    Calls Try.prog 22 #[.pointer (some ⟨d, 0, none⟩)] w fun e w' => e = .returned (.tuple #[]) ∧ ∃ F', DvAt w' d F' S.on ∧ Moves F F' w w' := by
  obtain ⟨p, pd, wa, wc, rfl, h⟩ := h
  have c3 := h.dev.cell (i := 3) rfl
  have f3 := h.dev.frozen 3
  have c4 := h.dev.cell (i := 4) rfl
  have f4 := h.dev.frozen 4
  have c2 := h.dev.cell (i := 2) rfl
  have f2 := h.dev.frozen 2
  have K : Keep [d] w (((w.setCell ⟨d, 3, none⟩ (.bool false)).setCell ⟨d, 2, none⟩ (.int .i64 0)).setCell ⟨d, 4, none⟩ (.int .i64 (wrap64 (S.losses + 1)))) :=
    (((Keep.refl [d] w).setCell (.inl (by simp)) _).setCell (.inl (by simp)) _).setCell (.inl (by simp)) _
  have h1 := h.turn (S' := { S with off := false, armed := 0, losses := wrap64 (S.losses + 1) }) K (((h.dev.set 3 _).set 2 _).set 4 _) rfl ⟨h.good.many, Nat.zero_le _, h.good.fits⟩
  have cs := hide (settle_at0 d p pd wa wc _ _ h1)
  have HK := hide K
  clear h h1 K
  go_enter Try.func22, Try.ntmps22
  go_wp2_with (go_at_call 41; refine cs.out.mono ?_; rintro e w' ⟨rfl, h2, k2⟩)
  go_end0
  exact ⟨rfl, foot d p none, ⟨p, pd, none, 0, rfl, h2⟩, (Moves.of_keep (HK.out.mono (fun k hk => .inl (by simp at hk; simp [foot, hk])))).trans (foot_none k2)⟩
end Go.Proofs.Ytbccnfbombgdmaa
