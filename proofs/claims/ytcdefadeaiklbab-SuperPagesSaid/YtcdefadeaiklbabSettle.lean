/- What waits is settled: Crash, On. -/
import Derived.Test.YtcdefadeaiklbabWrite
set_option linter.unusedVariables false
set_option linter.unusedSimpArgs false
set_option maxRecDepth 8000
namespace Go.Proofs.Ytcdefadeaiklbab
open Go.RowKit Go.Deep

/-- The pages as they stand when the first k of those that wait are settled. -/
def nowsN : Nat → List Cl → List UInt8 → List Pg
  | _, [], _ => []
  | k, c :: r, ps => match c.last with
    | none => c.now :: nowsN k r ps
    | some l => match k with
      | 0 => c.now :: nowsN 0 r ps
      | k + 1 => pick c.now l (ps.headD 0).toNat :: nowsN k r ps.tail

theorem nowsN_zero : ∀ (cs : List Cl) (ps : List UInt8), nowsN 0 cs ps = cs.map (·.now)
  | [], _ => rfl
  | c :: r, ps => by
    unfold nowsN
    split <;> simp [nowsN_zero r]

theorem nowsN_append : ∀ (A X : List Cl) (i j : Nat) (ps : List UInt8), nowsN ((wl i A).length + j) (A ++ X) ps = nowsN (wl i A).length A ps ++ nowsN j X (ps.drop (wl i A).length)
  | [], X, i, j, ps => by simp [wl, nowsN]
  | a :: r, X, i, j, ps => by
    cases h : a.last with
    | none =>
      have e : wl i (a :: r) = wl (i + 1) r := by simp [wl, h]
      rw [e, List.cons_append]
      simp only [nowsN, h]
      rw [nowsN_append r X (i + 1) j ps]
      rfl
    | some l =>
      have e : wl i (a :: r) = (i, l) :: wl (i + 1) r := by simp [wl, h]
      rw [e, List.cons_append, List.length_cons, show (wl (i + 1) r).length + 1 + j = ((wl (i + 1) r).length + j) + 1 by omega]
      simp only [nowsN, h]
      rw [nowsN_append r X (i + 1) j ps.tail]
      simp

theorem nowsN_all : ∀ (cs : List Cl) (i : Nat) (ps : List UInt8), nowsN (wl i cs).length cs ps = (settle cs ps).map (·.now)
  | [], _, _ => rfl
  | c :: r, i, ps => by
    cases h : c.last with
    | none =>
      have e : wl i (c :: r) = wl (i + 1) r := by simp [wl, h]
      rw [e]
      simp only [nowsN, settle, h]
      rw [nowsN_all r (i + 1) ps]
      rfl
    | some l =>
      have e : wl i (c :: r) = (i, l) :: wl (i + 1) r := by simp [wl, h]
      rw [e, List.length_cons]
      simp only [nowsN, settle, h]
      rw [nowsN_all r (i + 1) ps.tail]
      rfl

/-- The k-th of those that wait: where it lies. -/
theorem wl_part : ∀ (cs : List Cl) (i k : Nat) (x : Nat × Pg), (wl i cs)[k]? = some x → ∃ A c B, cs = A ++ c :: B ∧ c.last = some x.2 ∧ x.1 = i + A.length ∧ (wl i A).length = k
  | [], i, k, x, h => by simp [wl] at h
  | c :: r, i, k, x, h => by
    cases hl : c.last with
    | none =>
      have e : wl i (c :: r) = wl (i + 1) r := by simp [wl, hl]
      rw [e] at h
      obtain ⟨A, c', B, h1, h2, h3, h4⟩ := wl_part r (i + 1) k x h
      refine ⟨c :: A, c', B, by rw [h1]; rfl, h2, by simp; omega, ?_⟩
      have e2 : wl i (c :: A) = wl (i + 1) A := by simp [wl, hl]
      rw [e2]; exact h4
    | some l =>
      have e : wl i (c :: r) = (i, l) :: wl (i + 1) r := by simp [wl, hl]
      rw [e] at h
      cases k with
      | zero =>
        simp only [List.getElem?_cons_zero, Option.some.injEq] at h
        subst h
        exact ⟨[], c, r, rfl, hl, by simp, by simp [wl]⟩
      | succ k =>
        rw [List.getElem?_cons_succ] at h
        obtain ⟨A, c', B, h1, h2, h3, h4⟩ := wl_part r (i + 1) k x h
        refine ⟨c :: A, c', B, by rw [h1]; rfl, h2, by simp; omega, ?_⟩
        have e2 : wl i (c :: A) = (i, l) :: wl (i + 1) A := by simp [wl, hl]
        rw [e2, List.length_cons, h4]

def pRow (l : List Pg) : List Value := l.flatMap pgCells
theorem pgRow_eq (cs : List Cl) : pgRow cs = pRow (cs.map (·.now)) := by simp [pgRow, pRow, List.flatMap_map]
theorem pRow_append (a b : List Pg) : pRow (a ++ b) = pRow a ++ pRow b := by simp [pRow]
theorem pRow_cons (x : Pg) (b : List Pg) : pRow (x :: b) = pgCells x ++ pRow b := by simp [pRow]
theorem pRow_length (l : List Pg) : (pRow l).length = l.length * 2 := flat_length pgCells 2 (fun _ => rfl) l

theorem nowsN_length : ∀ (cs : List Cl) (k : Nat) (ps : List UInt8), (nowsN k cs ps).length = cs.length
  | [], _, _ => rfl
  | c :: r, k, ps => by
    unfold nowsN
    split
    · simp [nowsN_length r]
    · split <;> simp [nowsN_length r]

/-- One more is settled: one page of the row is turned. -/
theorem nowsN_step (A : List Cl) (c : Cl) (B : List Cl) (l : Pg) (hl : c.last = some l) (k : Nat) (hk : (wl 0 A).length = k) (ps : List UInt8) :
    nowsN k (A ++ c :: B) ps = nowsN k A ps ++ c.now :: B.map (·.now) ∧
    nowsN (k + 1) (A ++ c :: B) ps = nowsN k A ps ++ pick c.now l ((ps.drop k).headD 0).toNat :: B.map (·.now) := by
  subst hk
  constructor
  · have := nowsN_append A (c :: B) 0 0 ps
    rw [Nat.add_zero] at this
    rw [this, nowsN_zero]
    rfl
  · rw [nowsN_append A (c :: B) 0 1 ps]
    simp only [nowsN, hl]
    rw [nowsN_zero]

/-- Two stores into the row of pages. -/
theorem pRow_set {w : World} {p : Nat} {pd : List Value} {a : List Pg} {x : Pg} {b : List Pg} (h : Blk w p (pRow (a ++ x :: b) ++ pd) 60) (y : Pg) :
    Blk ((w.setCell ⟨p, a.length * 2, none⟩ (.int .u8 y.kind)).setCell ⟨p, a.length * 2 + 1, none⟩ (.string y.text)) p (pRow (a ++ y :: b) ++ pd) 60 := by
  have e1 : pRow (a ++ x :: b) ++ pd = pRow a ++ .int .u8 x.kind :: ([.string x.text] ++ (pRow b ++ pd)) := by rw [pRow_append, pRow_cons]; simp [pgCells]
  rw [e1] at h
  have b1 := h.set (a.length * 2) (.int .u8 y.kind)
  rw [set_append_len _ _ _ _ _ (pRow_length a).symm] at b1
  have e2 : pRow a ++ .int .u8 (y.kind : Int) :: ([.string x.text] ++ (pRow b ++ pd)) = (pRow a ++ [.int .u8 (y.kind : Int)]) ++ .string x.text :: (pRow b ++ pd) := by simp
  rw [e2] at b1
  have b2 := b1.set (a.length * 2 + 1) (.string y.text)
  rw [set_append_len _ _ _ _ _ (by rw [List.length_append, pRow_length]; rfl)] at b2
  have e3 : pRow (a ++ y :: b) ++ pd = (pRow a ++ [.int .u8 (y.kind : Int)]) ++ .string y.text :: (pRow b ++ pd) := by rw [pRow_append, pRow_cons]; simp [pgCells]
  rw [e3]
  exact b2

/-- What a round of 'settle' needs of the memory. -/
theorem settle_at {w wr : World} {d p : Nat} {pd : List Value} {wa : Option Addr} {wc : Nat} {S : Dv} {k : Nat} {ps : List UInt8} (H : DvIn w d p pd wa wc S) (K : Keep [p] w wr) (R : Blk wr p (pRow (nowsN k S.cs ps) ++ pd) 60) (hk : k < (wl 0 S.cs).length) :
    ∃ (g i : Nat) (l now : Pg) (a b : List Pg), wa = some ⟨g, 0, none⟩ ∧ g < wr.heap.size ∧ wr.cell? ⟨g, k * 3, none⟩ = some (.int .i64 i) ∧ wr.cell? ⟨g, k * 3 + 1, none⟩ = some (.int .u8 l.kind) ∧ wr.cell? ⟨g, k * 3 + 2, none⟩ = some (.string l.text) ∧
      i < S.cs.length ∧ a.length = i ∧ nowsN k S.cs ps = a ++ now :: b ∧ nowsN (k + 1) S.cs ps = a ++ pick now l ((ps.drop k).headD 0).toNat :: b := by
  obtain ⟨L1, x, L2, hL, hL1⟩ := part_at (wl 0 S.cs) k hk
  obtain ⟨A, c, B, hcs, hlast, hi, hA⟩ := wl_part S.cs 0 k x (by rw [hL, ← hL1]; simp)
  obtain ⟨s1, s2⟩ := nowsN_step A c B x.2 hlast k hA ps
  rcases own_form H.own with ⟨_, h0, _⟩ | ⟨g, pad, hwa, hb, _⟩
  · omega
  · have hgd := H.dq _ hwa
    have hb' : Blk wr g (wtRow (wl 0 S.cs) ++ pad) 67 := hb.same (K.block g hb.lt (by simpa using hgd.2))
    have cell : ∀ j (hj : j < 3) v, (wtCells x)[j]? = some v → wr.cell? ⟨g, k * 3 + j, none⟩ = some v := fun j hj v hv => by
      refine hb'.cell ?_
      have := flat_get wtCells 3 (fun _ => rfl) L1 x L2 j hj
      rw [hv, hL1] at this
      change (wtRow (L1 ++ x :: L2))[k * 3 + j]? = some v at this
      rw [hL, List.getElem?_append_left (List.getElem?_eq_some_iff.1 this).1]
      exact this
    refine ⟨g, x.1, x.2, c.now, nowsN k A ps, B.map (·.now), hwa, hb'.lt, cell 0 (by decide) _ rfl, cell 1 (by decide) _ rfl, cell 2 (by decide) _ rfl, ?_, ?_, ?_, ?_⟩
    · rw [hcs]; simp; omega
    · rw [nowsN_length]; omega
    · rw [hcs]; exact s1
    · rw [hcs]; exact s2

theorem drop_headD (l : List UInt8) (k : Nat) : (l.drop k).headD 0 = l.getD k 0 := by
  rw [List.headD_eq_head?_getD, List.head?_drop, List.getD_eq_getElem?_getD]

/-- The end of a round: the page is what it was; what was written last; torn. -/
theorem settle_round {w wr : World} {p k i : Nat} {pd : List Value} {S : Dv} {ps : List UInt8} {lst now : Pg} {a b : List Pg} {O : Obj} (I : Keep [p] w wr ∧ Blk wr p (pRow (nowsN k S.cs ps) ++ pd) 60) (e1 : nowsN k S.cs ps = a ++ now :: b)
    (e2 : nowsN (k + 1) S.cs ps = a ++ pick now lst ((ps.drop k).headD 0).toNat :: b) (hai : a.length = i) (x : UInt8) (hx : (ps.drop k).headD 0 = x) :
    (∀ (y : Pg) (kv : Int) (tv : ByteArray), pick now lst x.toNat = y → kv = (y.kind : Int) → tv = y.text → Keep [p] w (((wr.setCell ⟨p, i * 2, none⟩ (.int .u8 kv)).setCell ⟨p, i * 2 + 1, none⟩ (.string tv)).alloc O).drew ∧
      Blk (((wr.setCell ⟨p, i * 2, none⟩ (.int .u8 kv)).setCell ⟨p, i * 2 + 1, none⟩ (.string tv)).alloc O).drew p (pRow (nowsN (k + 1) S.cs ps) ++ pd) 60) ∧
    (pick now lst x.toNat = now → Keep [p] w (wr.alloc O) ∧ Blk (wr.alloc O) p (pRow (nowsN (k + 1) S.cs ps) ++ pd) 60) := by
  have R := I.2
  rw [e1] at R
  subst hx
  refine ⟨fun y kv tv hy hkv htv => ⟨(((I.1.setCell (.inl (by simp)) _).setCell (.inl (by simp)) _).alloc O).drew, ?_⟩, fun hy => ⟨I.1.alloc O, ?_⟩⟩
  · have := (pRow_set R y).alloc O
    rw [hai, ← hkv, ← htv] at this
    rw [e2, hy]
    exact this
  · rw [e2, hy]
    exact R.alloc O

theorem foot_none {d p : Nat} {wa : Option Addr} {w w' : World} (h : Keep [d, p] w w') : Moves (foot d p wa) (foot d p none) w w' := by
  refine ⟨h.mono (fun k hk => .inl (by simp at hk; rcases hk with rfl | rfl <;> simp [foot])), fun k hk => .inl ?_⟩
  simp only [foot, List.mem_cons, Option.map_none, Option.toList_none, List.not_mem_nil, or_false] at hk
  rcases hk with rfl | rfl <;> simp [foot]

end Go.Proofs.Ytcdefadeaiklbab
