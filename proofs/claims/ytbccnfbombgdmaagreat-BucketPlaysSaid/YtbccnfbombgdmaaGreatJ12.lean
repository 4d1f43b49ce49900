/- Texts joined: Write. -/
import Derived.Test.YtbccnfbombgdmaaGreatJ11
import Derived.Laws.IdiomStrings
/- Write, Erase, Flush. -/
set_option linter.unusedVariables false
set_option linter.unusedSimpArgs false
set_option maxRecDepth 8000
namespace Go.Proofs.YtbccnfbombgdmaaGreat
open Go.RowKit Go.Deep

/-- A slice of bytes, whose cells lie in block b. -/
def BSlice (w : World) (a : Option Addr) (l : List UInt8) (b : Nat) : Prop :=
  l = [] ∨ (b < w.heap.size ∧ ∃ off, a = some ⟨b, off, none⟩ ∧ ∀ j (hj : j < l.length), w.cell? ⟨b, off + j, none⟩ = some (.int .u8 (l[j].toNat : Int)))

theorem BSlice.same {w w' : World} {a : Option Addr} {l : List UInt8} {b : Nat} (h : BSlice w a l b) (hs : w.heap.size ≤ w'.heap.size) (e : b < w.heap.size → l ≠ [] → w'.heap[b]? = w.heap[b]?) : BSlice w' a l b := by
  rcases h with h | ⟨hb, off, ha, hc⟩
  · exact .inl h
  · by_cases hl : l = []
    · exact .inl hl
    · exact .inr ⟨by omega, off, ha, fun j hj => by rw [World.cell?_of_block (a := ⟨b, off + j, none⟩) (e hb hl)]; exact hc j hj⟩

/-- 'string(b)'. -/
theorem str_any {w : World} {a : Option Addr} {l : List UInt8} {b : Nat} (h : BSlice w a l b) (hn : a = none → l = []) (c : Nat) : (convert 40 9 (.slice a l.length c)).run Tryz.prog w = .ok (.string ⟨l.toArray⟩) w := by
  cases a with
  | none =>
    rw [hn rfl, run_convert_bytes_string w 40 9 5 none _ c Tryz.underlying40 Tryz.underlying5 Tryz.underlying9]
    unfold Conv.bytesToString
    simp [Sem.run_bind, Result.andThen]
    rfl
  | some x =>
    refine run_convert_bytes_back w 40 9 5 x c l Tryz.underlying40 Tryz.underlying5 Tryz.underlying9 (fun j hj => ?_)
    rcases h with h | ⟨hb, off, ha, hc⟩
    · subst h; simp at hj
    · cases ha
      rw [Addr.add_lit]
      exact hc j hj

theorem Dv.has_part {S : Dv} {at0 : Int} (h : S.has at0 = true) : ∃ A c B, S.cs = A ++ c :: B ∧ at0 = (A.length : Int) := by
  simp only [Dv.has, Bool.and_eq_true, decide_eq_true_eq] at h
  obtain ⟨A, c, B, h1, h2⟩ := part_at S.cs at0.toNat (by omega)
  exact ⟨A, c, B, h1, by omega⟩

theorem put_cells (c : Cl) (p : Pg) : pgCells (c.put p).now = [.int .u8 p.kind, .string p.text] := rfl

/-- A page's two cells are written where it is held already, and the count goes on. -/
theorem put_end {w : World} {d p : Nat} {pd : List Value} {wa : Option Addr} {wc : Nat} {S : Dv} {A : List Cl} {c : Cl} {B : List Cl} {pg : Pg} (hf : pg.fits) (H : DvIn w d p pd wa wc { S with cs := A ++ c.put c.now :: B }) (x : Int) {w' : World}
    (hw : w' = ((w.setCell ⟨p, A.length * 2, none⟩ (.int .u8 pg.kind)).setCell ⟨p, A.length * 2 + 1, none⟩ (.string pg.text)).setCell ⟨d, 5, none⟩ (.int .i64 x)) :
    DvIn w' d p pd wa wc { S with cs := A ++ c.put pg :: B, wr := x } ∧ Keep [d, p] w w' := by
  have K : Keep [d, p] w w' := by
    rw [hw]
    exact (((Keep.refl _ w).setCell (.inl (by simp)) _).setCell (.inl (by simp)) _).setCell (.inl (by simp)) _
  have hwl : wl 0 (A ++ c.put pg :: B) = wl 0 (A ++ c.put c.now :: B) := by rw [wl_at, wl_at]; rfl
  have hcl : (A ++ c.put pg :: B).length = (A ++ c.put c.now :: B).length := by simp
  refine ⟨⟨?_, ?_, ?_, H.dp, H.dq, ?_⟩, K⟩
  · have b := ((H.dev.other (a := ⟨p, A.length * 2, none⟩) H.dp (.int .u8 pg.kind)).other (a := ⟨p, A.length * 2 + 1, none⟩) H.dp (.string pg.text)).set 5 (.int .i64 x)
    rw [← hw] at b
    have e : dvCells p pd wa (wl 0 (A ++ c.put pg :: B)).length wc { S with cs := A ++ c.put pg :: B, wr := x } = (dvCells p pd wa (wl 0 (A ++ c.put c.now :: B)).length wc { S with cs := A ++ c.put c.now :: B }).set 5 (.int .i64 x) := by
      rw [hwl]; simp only [dvCells, hcl]; rfl
    show Blk w' d (dvCells p pd wa (wl 0 (A ++ c.put pg :: B)).length wc _) 63
    rw [e]
    exact b
  · have b := H.row
    have e1 : pgRow (A ++ c.put c.now :: B) ++ pd = pgRow A ++ .int .u8 c.now.kind :: ([.string c.now.text] ++ (pgRow B ++ pd)) := by rw [pgRow_append, pgRow_cons]; simp [pgCells, Cl.put]
    show Blk w' p (pgRow (A ++ c.put pg :: B) ++ pd) 125
    have b0 : Blk w p (pgRow (A ++ c.put c.now :: B) ++ pd) 125 := b
    rw [e1] at b0
    have b1 := b0.set (A.length * 2) (.int .u8 pg.kind)
    rw [set_append_len _ _ _ _ _ (pgRow_length A).symm] at b1
    have e2 : pgRow A ++ .int .u8 (pg.kind : Int) :: ([.string c.now.text] ++ (pgRow B ++ pd)) = (pgRow A ++ [.int .u8 (pg.kind : Int)]) ++ .string c.now.text :: (pgRow B ++ pd) := by simp
    rw [e2] at b1
    have b2 := b1.set (A.length * 2 + 1) (.string pg.text)
    rw [set_append_len _ _ _ _ _ (by rw [List.length_append, pgRow_length]; rfl)] at b2
    have b3 := b2.other (a := ⟨d, 5, none⟩) (Ne.symm H.dp) (.int .i64 x)
    rw [← hw] at b3
    have e3 : pgRow (A ++ c.put pg :: B) ++ pd = (pgRow A ++ [.int .u8 (pg.kind : Int)]) ++ .string pg.text :: (pgRow B ++ pd) := by rw [pgRow_append, pgRow_cons]; simp [pgCells, Cl.put]
    rw [e3]
    exact b3
  · show World.ownsRow _ 0 137 3 (.slice _ (wl 0 (A ++ c.put pg :: B)).length _) (wl 0 (A ++ c.put pg :: B)).length (wtRow (wl 0 (A ++ c.put pg :: B)))
    rw [hwl]
    refine own_below H.own (fun a ha => ?_)
    have hlt := (H.own.lt a.block (by rw [ha]; rfl)).2
    exact K.block a.block hlt (by simpa using H.dq a ha)
  · have hc : (c.put c.now).fits := H.good.fits _ (by simp)
    have hc2 : (c.put pg).fits := ⟨hf, hc.2⟩
    refine ⟨by show (A ++ c.put pg :: B).length ≤ _; rw [hcl]; exact H.good.many, H.good.armed, fun y hy => ?_⟩
    rcases List.mem_append.1 hy with h | h
    · exact H.good.fits y (List.mem_append.2 (.inl h))
    · rcases List.mem_cons.1 h with rfl | h
      · exact hc2
      · exact H.good.fits y (List.mem_append.2 (.inr (by simp [h])))

set_option maxHeartbeats 1000000 in
theorem put_any (d p : Nat) (pd : List Value) (wa : Option Addr) (wc : Nat) (S : Dv) (at0 : Int) (pg : Pg) (hf : pg.fits) (a : Option Addr) (n cap bb : Nat) (l : List UInt8) (hn : n = l.length) (hl : (⟨l.toArray⟩ : ByteArray) = pg.text) (w : World)
    (hbs : BSlice w a l bb) (hnil : a = none → l = []) (hbb : l ≠ [] → bb ∉ foot d p wa) (h : DvIn w d p pd wa wc S) :
    Calls Tryz.prog 73 #[.pointer (some ⟨d, 0, none⟩), .int .i64 at0, .int .u8 pg.kind, .slice a n cap] w fun e w' => e = .returned (.int .i64 (S.putErr at0)) ∧
      ∃ wa' wc', DvIn w' d p pd wa' wc' (S.putDo at0 pg) ∧ Moves (foot d p wa) (foot d p wa') w w' := by
  have ch := hide (has_any d p pd wa wc S w h at0)
  have cg := hide (gone_any d p pd wa wc S w h)
  have H := hide h
  clear h
  cases hh : S.has at0 with
  | false =>
    rw [hh] at ch
    have E1 : Hid (S.putErr at0 = 1) := by simp [Hid, Dv.putErr, hh]
    have E2 : Hid (S.putDo at0 pg = S) := by simp [Hid, Dv.putDo, hh]
    clear hh
    go_enter Tryz.func73, Tryz.ntmps73
    go_wp2_with (go_at_call 78; refine ch.out.mono ?_; rintro e w' ⟨rfl, rfl⟩)
    go_ret
    refine ⟨by rw [E1.out]; rfl, wa, wc, by rw [E2.out]; exact H.out, Moves.refl _ _⟩
  | true =>
    rw [hh] at ch
    cases hg : S.gone with
    | true =>
      rw [hg] at cg
      have E1 : Hid (S.putErr at0 = 4) := by simp [Hid, Dv.putErr, hh, hg]
      have E2 : Hid (S.putDo at0 pg = S.used) := by simp [Hid, Dv.putDo, hh, hg]
      clear hh hg
      go_enter Tryz.func73, Tryz.ntmps73
      go_wp2_with (first | (go_at_call 78; refine ch.out.mono ?_; rintro e w' ⟨rfl, rfl⟩) | (go_at_call 74; refine cg.out.mono ?_; rintro e w' ⟨rfl, h1, k1⟩))
      go_ret
      refine ⟨by rw [E1.out]; rfl, wa, wc, by rw [E2.out]; exact h1, Moves.of_keep (k1.mono (fun k hk => .inl (by simp at hk; simp [foot, hk])))⟩
    | false =>
      rw [hg] at cg
      obtain ⟨A, c, B, hcs, hat⟩ := Dv.has_part hh
      have E1 : Hid (S.putErr at0 = 0) := by simp [Hid, Dv.putErr, hh, hg]
      have E2 : Hid (S.putDo at0 pg = { S.used with cs := A ++ c.put pg :: B, wr := wrap64 (S.wr + 1) }) := by
        show S.putDo at0 pg = _
        unfold Dv.putDo
        rw [if_neg (by simp [hh]), if_neg (by simp [hg]), hcs, hat, Int.toNat_natCast, putAt_part]
      have hcl : (A.length : Int) < ((A ++ c.put c.now :: B).length : Int) := by simp; omega
      have hwr : S.used.wr = S.wr := by unfold Dv.used; split <;> (try split) <;> rfl
      subst hat
      have HB := hide hbs
      have HBB := hide hbb
      have HNL := hide hnil
      have HCS := hide hcs
      clear hh hg hbs hbb hnil hcs
      subst hn
      go_enter Tryz.func73, Tryz.ntmps73
      go_wp2_with (first | (go_at_call 78; refine ch.out.mono ?_; rintro e w' ⟨rfl, rfl⟩) | (go_at_call 74; refine cg.out.mono ?_; rintro e w' ⟨rfl, h1, k1⟩) | fail)
      refine (hold_any d p pd wa wc S.used A c B (by rw [S.used_cs]; exact HCS.out) _ h1).mono ?_
      rintro e w2 ⟨rfl, wa', wc', h2, m2⟩
      have c0 := h2.dev.cell (i := 0) rfl
      have c5 := h2.dev.cell (i := 5) rfl
      have f5 := h2.dev.frozen 5
      have r0 := h2.row.cell (i := A.length * 2 + 0) (v := .int .u8 c.now.kind) (flat_getP (fun c : Cl => pgCells c.now) 2 (fun _ => rfl) A (c.put c.now) B pd 0 (by decide))
      have r1 := h2.row.cell (i := A.length * 2 + 1) (v := .string c.now.text) (flat_getP (fun c : Cl => pgCells c.now) 2 (fun _ => rfl) A (c.put c.now) B pd 1 (by decide))
      rw [Nat.add_zero] at r0
      have g0 := h2.row.frozen (A.length * 2)
      have g1 := h2.row.frozen (A.length * 2 + 1)
      have hdp := h2.dp
      have hpd := Ne.symm h2.dp
      simp only [hwr] at c5
      have hst : ∀ W : World, W.heap = w2.heap → (convert 40 9 (.slice a l.length cap)).run Tryz.prog W = .ok (.string pg.text) W := fun W hW => by
        rw [← hl]
        refine str_any (b := bb) (HB.out.same ?_ ?_) HNL.out cap
        · rw [hW]; exact Nat.le_trans k1.size m2.keep.size
        · intro hlt hne
          have hnf := HBB.out hne
          rw [hW, m2.keep.block bb (Nat.lt_of_lt_of_le hlt k1.size) hnf, k1.block bb hlt (fun hk => hnf (by simp at hk; simp [foot, hk]))]
      have hst1 : (convert 40 9 (.slice a l.length cap)).run Tryz.prog w2.drew = .ok (.string pg.text) w2.drew := hst w2.drew rfl
      have K1 := hide k1
      have M2 := hide m2
      have H2 := hide h2
      clear h1 h2 k1 m2 hst hl
      simp only [] at c0
      go_wp2
      go_region
      all_goals go_wp2
      all_goals (
        go_ret
        obtain ⟨D, K⟩ := put_end hf H2.out (wrap64 (S.wr + 1)) rfl
        refine ⟨by rw [E1.out]; rfl, wa', wc', ?_, (Moves.of_keep (K1.out.mono (fun k hk => .inl (by simp at hk; simp [foot, hk])))).trans (M2.out.trans (Moves.of_keep (K.mono (fun k hk => .inl (by simp at hk; rcases hk with rfl | rfl <;> simp [foot]))).drew))⟩
        rw [E2.out]
        exact D.same (fun _ _ => rfl))

/-- The same, said of the footprint. -/
theorem put_at (d : Nat) (F : List Nat) (S : Dv) (at0 : Int) (pg : Pg) (hf : pg.fits) (a : Option Addr) (n cap bb : Nat) (l : List UInt8) (hn : n = l.length) (hl : (⟨l.toArray⟩ : ByteArray) = pg.text) (w : World)
    (hbs : BSlice w a l bb) (hnil : a = none → l = []) (hbb : l ≠ [] → bb ∉ F) (h : DvAt w d F S) :
    Calls Tryz.prog 73 #[.pointer (some ⟨d, 0, none⟩), .int .i64 at0, .int .u8 pg.kind, .slice a n cap] w fun e w' => e = .returned (.int .i64 (S.putErr at0)) ∧
      ∃ F', DvAt w' d F' (S.putDo at0 pg) ∧ Moves F F' w w' := by
  obtain ⟨p, pd, wa, wc, rfl, h⟩ := h
  refine (put_any d p pd wa wc S at0 pg hf a n cap bb l hn hl w hbs hnil hbb h).mono ?_
  rintro e w' ⟨rfl, wa', wc', h2, m2⟩
  exact ⟨rfl, foot d p wa', ⟨p, pd, wa', wc', rfl, h2⟩, m2⟩

set_option maxHeartbeats 400000 in
theorem write_at (d : Nat) (F : List Nat) (S : Dv) (at0 : Int) (a : Option Addr) (n cap bb : Nat) (l : List UInt8) (hn : n = l.length) (w : World)
    (hbs : BSlice w a l bb) (hnil : a = none → l = []) (hbb : l ≠ [] → bb ∉ F) (h : DvAt w d F S) :
    Calls Tryz.prog 46 #[.pointer (some ⟨d, 0, none⟩), .int .i64 at0, .slice a n cap] w fun e w' => e = .returned (.int .i64 (S.writeErr at0 ⟨l.toArray⟩)) ∧
      ∃ F', DvAt w' d F' (S.writeDo at0 ⟨l.toArray⟩) ∧ Moves F F' w w' := by
  have hsz : (⟨l.toArray⟩ : ByteArray).size = n := by rw [hn]; show l.toArray.size = _; simp
  by_cases hbig : 384 < n
  · have E1 : Hid (S.writeErr at0 ⟨l.toArray⟩ = 1) := by simp [Hid, Dv.writeErr, hsz, hbig]
    have E2 : Hid (S.writeDo at0 ⟨l.toArray⟩ = S) := by simp [Hid, Dv.writeDo, hsz, hbig]
    have H := hide h
    have hb2 : (384 : Int) < (n : Int) := by omega
    clear h hsz hn hbs hnil hbb hbig
    go_enter Tryz.func46, Tryz.ntmps46
    go_wp2
    go_ret
    exact ⟨by rw [E1.out]; rfl, F, by rw [E2.out]; exact H.out, Moves.refl _ _⟩
  · have E1 : Hid (S.writeErr at0 ⟨l.toArray⟩ = S.putErr at0) := by simp [Hid, Dv.writeErr, hsz, hbig]
    have E2 : Hid (S.writeDo at0 ⟨l.toArray⟩ = S.putDo at0 (.whole ⟨l.toArray⟩)) := by simp [Hid, Dv.writeDo, hsz, hbig]
    have cp := hide (put_at d F S at0 (.whole ⟨l.toArray⟩) (by show (⟨l.toArray⟩ : ByteArray).size ≤ 384; omega) a n cap bb l hn rfl w hbs hnil hbb h)
    have hb2 : ¬ (384 : Int) < (n : Int) := by omega
    clear h hsz hn hbs hnil hbb hbig
    go_enter Tryz.func46, Tryz.ntmps46
    go_wp2_with (go_at_call 73; refine cp.out.mono ?_; rintro e w' ⟨rfl, F', h1, m1⟩)
    go_ret
    exact ⟨by rw [E1.out]; rfl, F', by rw [E2.out]; exact h1, m1⟩

theorem pgRow_flush (cs : List Cl) : pgRow (cs.map Cl.flush) = pgRow cs := by
  simp [pgRow, List.flatMap_map, Cl.flush]

set_option maxHeartbeats 400000 in
theorem flush_at (d : Nat) (F : List Nat) (S : Dv) (w : World) (h : DvAt w d F S) :
    Calls Tryz.prog 49 #[.pointer (some ⟨d, 0, none⟩)] w fun e w' => e = .returned (.int .i64 S.flushErr) ∧ ∃ F', DvAt w' d F' S.flushDo ∧ Moves F F' w w' := by
  obtain ⟨p, pd, wa, wc, rfl, h⟩ := h
  have cg := hide (gone_any d p pd wa wc S w h)
  have hgd := h.good
  have HG := hide hgd
  clear h hgd
  cases hg : S.gone with
  | true =>
    rw [hg] at cg
    have E1 : Hid (S.flushErr = 4) := by simp [Hid, Dv.flushErr, hg]
    have E2 : Hid (S.flushDo = S.used) := by simp [Hid, Dv.flushDo, hg]
    clear hg
    go_enter Tryz.func49, Tryz.ntmps49
    go_wp2_with (go_at_call 74; refine cg.out.mono ?_; rintro e w' ⟨rfl, h1, k1⟩)
    go_ret
    exact ⟨by rw [E1.out]; rfl, foot d p wa, ⟨p, pd, wa, wc, rfl, by rw [E2.out]; exact h1⟩, Moves.of_keep (k1.mono (fun k hk => .inl (by simp at hk; simp [foot, hk])))⟩
  | false =>
    rw [hg] at cg
    have E1 : Hid (S.flushErr = 0) := by simp [Hid, Dv.flushErr, hg]
    have E2 : Hid (S.flushDo = { S.used with cs := S.cs.map Cl.flush, fl := wrap64 (S.fl + 1) }) := by simp [Hid, Dv.flushDo, hg]
    have hfl : S.used.fl = S.fl := by unfold Dv.used; split <;> (try split) <;> rfl
    have HFL := hide hfl
    clear hg hfl
    go_enter Tryz.func49, Tryz.ntmps49
    go_wp2_with (go_at_call 74; refine cg.out.mono ?_; rintro e w' ⟨rfl, h1, k1⟩; have c1 := h1.dev.cell (i := 1) rfl; have f1 := h1.dev.frozen 1; have c6 := h1.dev.cell (i := 6) rfl; have f6 := h1.dev.frozen 6; rw [HFL.out] at c6; have H1 := hide h1; have K1 := hide k1; clear h1 k1)
    go_ret
    have hcs := S.used_cs
    obtain ⟨W, hW⟩ : ∃ W, W = (w'.setCell ⟨d, 1, none⟩ (.slice none 0 0)).setCell ⟨d, 6, none⟩ (.int .i64 (wrap64 (S.fl + 1))) := ⟨_, rfl⟩
    have K : Keep [d] w' W := by rw [hW]; exact ((Keep.refl _ _).setCell (.inl (by simp)) _).setCell (.inl (by simp)) _
    refine ⟨by rw [E1.out]; rfl, foot d p none, ⟨p, pd, none, 0, rfl, ?_⟩, ?_⟩
    · rw [E2.out, ← hW]
      have hwl : wl 0 (S.cs.map Cl.flush) = [] := wl_flush _ _
      refine ⟨?_, ?_, ?_, H1.out.dp, (fun a ha => by cases ha), ?_⟩
      · have b := (H1.out.dev.set 1 (.slice none 0 0)).set 6 (.int .i64 (wrap64 (S.fl + 1)))
        rw [← hW] at b
        have e : dvCells p pd none (wl 0 (S.cs.map Cl.flush)).length 0 { S.used with cs := S.cs.map Cl.flush, fl := wrap64 (S.fl + 1) } =
            ((dvCells p pd wa (wl 0 S.used.cs).length wc S.used).set 1 (.slice none 0 0)).set 6 (.int .i64 (wrap64 (S.fl + 1))) := by
          rw [hwl]; simp only [dvCells, List.length_map, hcs]; rfl
        show Blk W d (dvCells p pd none (wl 0 (S.cs.map Cl.flush)).length 0 _) 63
        rw [e]
        exact b
      · show Blk W p (pgRow (S.cs.map Cl.flush) ++ pd) 125
        rw [pgRow_flush, ← hcs]
        exact H1.out.row.same (K.block p H1.out.row.lt (by simpa using Ne.symm H1.out.dp))
      · show World.ownsRow _ 0 137 3 (.slice _ (wl 0 (S.cs.map Cl.flush)).length _) (wl 0 (S.cs.map Cl.flush)).length (wtRow (wl 0 (S.cs.map Cl.flush)))
        rw [hwl]
        exact World.ownsRow_nil _ _ _ _
      · have := Dv.flushDo_good HG.out
        rw [E2.out] at this
        exact this
    · rw [← hW]
      refine ⟨(K1.out.mono (G := foot d p wa) (fun k hk => .inl (by simp at hk; simp [foot, hk]))).trans K (fun x hx => .inl (by simp at hx; simp [foot, hx])), fun k hk => .inl ?_⟩
      simp only [foot, List.mem_cons, Option.map_none, Option.toList_none, List.not_mem_nil, or_false] at hk
      rcases hk with rfl | rfl <;> simp [foot]
end Go.Proofs.YtbccnfbombgdmaaGreat
