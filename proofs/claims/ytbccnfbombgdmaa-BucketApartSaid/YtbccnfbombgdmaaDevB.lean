/- Joined texts: Write, Settle, Read, New. -/
import Derived.Test.YtbccnfbombgdmaaPut
import Derived.Laws.IdiomStrings
import Derived.Test.YtbccnfbombgdmaaRMem
import Derived.Lib.LazyBuf
/- Write, Erase, Flush. -/
set_option linter.unusedVariables false
set_option linter.unusedSimpArgs false
set_option maxRecDepth 8000
namespace Go.Proofs.Ytbccnfbombgdmaa
open Go.RowKit Go.Deep

/-- A slice of bytes, whose cells lie in block b. -/
def BSlice (w : World) (a : Option Addr) (l : List UInt8) (b : Nat) : Prop :=
  l = [] ∨ (b < w.heap.size ∧ ∃ off, a = some ⟨b, off, none⟩ ∧ ∀ j (hj : j < l.length), w.cell? ⟨b, off + j, none⟩ = some (.int .u8 (l[j].toNat : Int)))

theorem BSlice.same {w w' : World} {a : Option Addr} {l : List UInt8} {b : Nat} (h : BSlice w a l b) (hs : w.heap.size ≤ w'.heap.size) (e : b < w.heap.size → l ≠ [] → w'.heap[b]? = w.heap[b]?) : BSlice w' a l b := by
  rcases h with h | ⟨hb, off, ha, hc⟩
  · exact .inl h
  · by_cases hl : l = []
    · exact .inl hl
    · exact .inr ⟨by omega, off, ha, fun j hj => by rw [World.cell?_of_block (a := ⟨b, off + j, none⟩) (e hb hl)]; exact hc j hj⟩

/-- 'string(b)'. -/
theorem str_any {w : World} {a : Option Addr} {l : List UInt8} {b : Nat} (h : BSlice w a l b) (hn : a = none → l = []) (c : Nat) : (convert 37 9 (.slice a l.length c)).run Try.prog w = .ok (.string ⟨l.toArray⟩) w := by
  cases a with
  | none =>
    rw [hn rfl, run_convert_bytes_string w 37 9 5 none _ c Try.underlying37 Try.underlying5 Try.underlying9]
    unfold Conv.bytesToString
    simp [Sem.run_bind, Result.andThen]
    rfl
  | some x =>
    refine run_convert_bytes_back w 37 9 5 x c l Try.underlying37 Try.underlying5 Try.underlying9 (fun j hj => ?_)
    rcases h with h | ⟨hb, off, ha, hc⟩
    · subst h; simp at hj
    · cases ha
      rw [Addr.add_lit]
      exact hc j hj

theorem Dv.has_part {S : Dv} {at0 : Int} (h : S.has at0 = true) : ∃ A c B, S.cs = A ++ c :: B ∧ at0 = (A.length : Int) := by
  simp only [Dv.has, Bool.and_eq_true, decide_eq_true_eq] at h
  obtain ⟨A, c, B, h1, h2⟩ := part_at S.cs at0.toNat (by omega)
  exact ⟨A, c, B, h1, by omega⟩

theorem put_cells (c : Cl) (p : Pg) : pgCells (c.put p).now = [.int .u8 p.kind, .string p.text] := rfl

/-- A page's two cells are written where it is held already, and the count goes on. -/
theorem put_end {w : World} {d p : Nat} {pd : List Value} {wa : Option Addr} {wc : Nat} {S : Dv} {A : List Cl} {c : Cl} {B : List Cl} {pg : Pg} (hf : pg.fits) (H : DvIn w d p pd wa wc { S with cs := A ++ c.put c.now :: B }) (x : Int) {w' : World}
    (hw : w' = ((w.setCell ⟨p, A.length * 2, none⟩ (.int .u8 pg.kind)).setCell ⟨p, A.length * 2 + 1, none⟩ (.string pg.text)).setCell ⟨d, 5, none⟩ (.int .i64 x)) :
    DvIn w' d p pd wa wc { S with cs := A ++ c.put pg :: B, wr := x } ∧ Keep [d, p] w w' := by
  have K : Keep [d, p] w w' := by
    rw [hw]
    exact (((Keep.refl _ w).setCell (.inl (by simp)) _).setCell (.inl (by simp)) _).setCell (.inl (by simp)) _
  have hwl : wl 0 (A ++ c.put pg :: B) = wl 0 (A ++ c.put c.now :: B) := by rw [wl_at, wl_at]; rfl
  have hcl : (A ++ c.put pg :: B).length = (A ++ c.put c.now :: B).length := by simp
  refine ⟨⟨?_, ?_, ?_, H.dp, H.dq, ?_⟩, K⟩
  · have b := ((H.dev.other (a := ⟨p, A.length * 2, none⟩) H.dp (.int .u8 pg.kind)).other (a := ⟨p, A.length * 2 + 1, none⟩) H.dp (.string pg.text)).set 5 (.int .i64 x)
    rw [← hw] at b
    have e : dvCells p pd wa (wl 0 (A ++ c.put pg :: B)).length wc { S with cs := A ++ c.put pg :: B, wr := x } = (dvCells p pd wa (wl 0 (A ++ c.put c.now :: B)).length wc { S with cs := A ++ c.put c.now :: B }).set 5 (.int .i64 x) := by
      rw [hwl]; simp only [dvCells, hcl]; rfl
    show Blk w' d (dvCells p pd wa (wl 0 (A ++ c.put pg :: B)).length wc _) 62
    rw [e]
    exact b
  · have b := H.row
    have e1 : pgRow (A ++ c.put c.now :: B) ++ pd = pgRow A ++ .int .u8 c.now.kind :: ([.string c.now.text] ++ (pgRow B ++ pd)) := by rw [pgRow_append, pgRow_cons]; simp [pgCells, Cl.put]
    show Blk w' p (pgRow (A ++ c.put pg :: B) ++ pd) 92
    have b0 : Blk w p (pgRow (A ++ c.put c.now :: B) ++ pd) 92 := b
    rw [e1] at b0
    have b1 := b0.set (A.length * 2) (.int .u8 pg.kind)
    rw [set_append_len _ _ _ _ _ (pgRow_length A).symm] at b1
    have e2 : pgRow A ++ .int .u8 (pg.kind : Int) :: ([.string c.now.text] ++ (pgRow B ++ pd)) = (pgRow A ++ [.int .u8 (pg.kind : Int)]) ++ .string c.now.text :: (pgRow B ++ pd) := by simp
    rw [e2] at b1
    have b2 := b1.set (A.length * 2 + 1) (.string pg.text)
    rw [set_append_len _ _ _ _ _ (by rw [List.length_append, pgRow_length]; rfl)] at b2
    have b3 := b2.other (a := ⟨d, 5, none⟩) (Ne.symm H.dp) (.int .i64 x)
    rw [← hw] at b3
    have e3 : pgRow (A ++ c.put pg :: B) ++ pd = (pgRow A ++ [.int .u8 (pg.kind : Int)]) ++ .string pg.text :: (pgRow B ++ pd) := by rw [pgRow_append, pgRow_cons]; simp [pgCells, Cl.put]
    rw [e3]
    exact b3
  · show World.ownsRow _ 0 94 3 (.slice _ (wl 0 (A ++ c.put pg :: B)).length _) (wl 0 (A ++ c.put pg :: B)).length (wtRow (wl 0 (A ++ c.put pg :: B)))
    rw [hwl]
    refine own_below H.own (fun a ha => ?_)
    have hlt := (H.own.lt a.block (by rw [ha]; rfl)).2
    exact K.block a.block hlt (by simpa using H.dq a ha)
  · have hc : (c.put c.now).fits := H.good.fits _ (by simp)
    have hc2 : (c.put pg).fits := ⟨hf, hc.2⟩
    refine ⟨by show (A ++ c.put pg :: B).length ≤ _; rw [hcl]; exact H.good.many, H.good.armed, fun y hy => ?_⟩
    rcases List.mem_append.1 hy with h | h
    · exact H.good.fits y (List.mem_append.2 (.inl h))
    · rcases List.mem_cons.1 h with rfl | h
      · exact hc2
      · exact H.good.fits y (List.mem_append.2 (.inr (by simp [h])))

set_option maxHeartbeats 1000000 in
theorem put_any (d p : Nat) (pd : List Value) (wa : Option Addr) (wc : Nat) (S : Dv) (at0 : Int) (pg : Pg) (hf : pg.fits) (a : Option Addr) (n cap bb : Nat) (l : List UInt8) (hn : n = l.length) (hl : (⟨l.toArray⟩ : ByteArray) = pg.text) (w : World)
    (hbs : BSlice w a l bb) (hnil : a = none → l = []) (hbb : l ≠ [] → bb ∉ foot d p wa) (h : DvIn w d p pd wa wc S) :
    Calls Try.prog 61 #[.pointer (some ⟨d, 0, none⟩), .int .i64 at0, .int .u8 pg.kind, .slice a n cap] w fun e w' => e = .returned (.int .i64 (S.putErr at0)) ∧
      ∃ wa' wc', DvIn w' d p pd wa' wc' (S.putDo at0 pg) ∧ Moves (foot d p wa) (foot d p wa') w w' := by
  have ch := hide (has_any d p pd wa wc S w h at0)
  have cg := hide (gone_any d p pd wa wc S w h)
  have H := hide h
  clear h
  cases hh : S.has at0 with
  | false =>
    rw [hh] at ch
    have E1 : Hid (S.putErr at0 = 1) := by simp [Hid, Dv.putErr, hh]
    have E2 : Hid (S.putDo at0 pg = S) := by simp [Hid, Dv.putDo, hh]
    clear hh
    go_enter Try.func61, Try.ntmps61
    go_wp2_with (go_at_call 54; refine ch.out.mono ?_; rintro e w' ⟨rfl, rfl⟩)
    go_ret
    refine ⟨by rw [E1.out]; rfl, wa, wc, by rw [E2.out]; exact H.out, Moves.refl _ _⟩
  | true =>
    rw [hh] at ch
    cases hg : S.gone with
    | true =>
      rw [hg] at cg
      have E1 : Hid (S.putErr at0 = 4) := by simp [Hid, Dv.putErr, hh, hg]
      have E2 : Hid (S.putDo at0 pg = S.used) := by simp [Hid, Dv.putDo, hh, hg]
      clear hh hg
      go_enter Try.func61, Try.ntmps61
      go_wp2_with (first | (go_at_call 54; refine ch.out.mono ?_; rintro e w' ⟨rfl, rfl⟩) | (go_at_call 40; refine cg.out.mono ?_; rintro e w' ⟨rfl, h1, k1⟩))
      go_ret
      refine ⟨by rw [E1.out]; rfl, wa, wc, by rw [E2.out]; exact h1, Moves.of_keep (k1.mono (fun k hk => .inl (by simp at hk; simp [foot, hk])))⟩
    | false =>
      rw [hg] at cg
      obtain ⟨A, c, B, hcs, hat⟩ := Dv.has_part hh
      have E1 : Hid (S.putErr at0 = 0) := by simp [Hid, Dv.putErr, hh, hg]
      have E2 : Hid (S.putDo at0 pg = { S.used with cs := A ++ c.put pg :: B, wr := wrap64 (S.wr + 1) }) := by
        show S.putDo at0 pg = _
        unfold Dv.putDo
        rw [if_neg (by simp [hh]), if_neg (by simp [hg]), hcs, hat, Int.toNat_natCast, putAt_part]
      have hcl : (A.length : Int) < ((A ++ c.put c.now :: B).length : Int) := by simp; omega
      have hwr : S.used.wr = S.wr := by unfold Dv.used; split <;> (try split) <;> rfl
      subst hat
      have HB := hide hbs
      have HBB := hide hbb
      have HNL := hide hnil
      have HCS := hide hcs
      clear hh hg hbs hbb hnil hcs
      subst hn
      go_enter Try.func61, Try.ntmps61
      go_wp2_with (first | (go_at_call 54; refine ch.out.mono ?_; rintro e w' ⟨rfl, rfl⟩) | (go_at_call 40; refine cg.out.mono ?_; rintro e w' ⟨rfl, h1, k1⟩) | fail)
      refine (hold_any d p pd wa wc S.used A c B (by rw [S.used_cs]; exact HCS.out) _ h1).mono ?_
      rintro e w2 ⟨rfl, wa', wc', h2, m2⟩
      have c0 := h2.dev.cell (i := 0) rfl
      have c5 := h2.dev.cell (i := 5) rfl
      have f5 := h2.dev.frozen 5
      have r0 := h2.row.cell (i := A.length * 2 + 0) (v := .int .u8 c.now.kind) (flat_getP (fun c : Cl => pgCells c.now) 2 (fun _ => rfl) A (c.put c.now) B pd 0 (by decide))
      have r1 := h2.row.cell (i := A.length * 2 + 1) (v := .string c.now.text) (flat_getP (fun c : Cl => pgCells c.now) 2 (fun _ => rfl) A (c.put c.now) B pd 1 (by decide))
      rw [Nat.add_zero] at r0
      have g0 := h2.row.frozen (A.length * 2)
      have g1 := h2.row.frozen (A.length * 2 + 1)
      have hdp := h2.dp
      have hpd := Ne.symm h2.dp
      simp only [hwr] at c5
      have hst : ∀ W : World, W.heap = w2.heap → (convert 37 9 (.slice a l.length cap)).run Try.prog W = .ok (.string pg.text) W := fun W hW => by
        rw [← hl]
        refine str_any (b := bb) (HB.out.same ?_ ?_) HNL.out cap
        · rw [hW]; exact Nat.le_trans k1.size m2.keep.size
        · intro hlt hne
          have hnf := HBB.out hne
          rw [hW, m2.keep.block bb (Nat.lt_of_lt_of_le hlt k1.size) hnf, k1.block bb hlt (fun hk => hnf (by simp at hk; simp [foot, hk]))]
      have hst1 : (convert 37 9 (.slice a l.length cap)).run Try.prog w2.drew = .ok (.string pg.text) w2.drew := hst w2.drew rfl
      have K1 := hide k1
      have M2 := hide m2
      have H2 := hide h2
      clear h1 h2 k1 m2 hst hl
      simp only [] at c0
      go_wp2
      go_region
      all_goals go_wp2
      all_goals (
        go_ret
        obtain ⟨D, K⟩ := put_end hf H2.out (wrap64 (S.wr + 1)) rfl
        refine ⟨by rw [E1.out]; rfl, wa', wc', ?_, (Moves.of_keep (K1.out.mono (fun k hk => .inl (by simp at hk; simp [foot, hk])))).trans (M2.out.trans (Moves.of_keep (K.mono (fun k hk => .inl (by simp at hk; rcases hk with rfl | rfl <;> simp [foot]))).drew))⟩
        rw [E2.out]
        exact D.same (fun _ _ => rfl))

/-- The same, said of the footprint. -/
theorem put_at (d : Nat) (F : List Nat) (S : Dv) (at0 : Int) (pg : Pg) (hf : pg.fits) (a : Option Addr) (n cap bb : Nat) (l : List UInt8) (hn : n = l.length) (hl : (⟨l.toArray⟩ : ByteArray) = pg.text) (w : World)
    (hbs : BSlice w a l bb) (hnil : a = none → l = []) (hbb : l ≠ [] → bb ∉ F) (h : DvAt w d F S) :
    Calls Try.prog 61 #[.pointer (some ⟨d, 0, none⟩), .int .i64 at0, .int .u8 pg.kind, .slice a n cap] w fun e w' => e = .returned (.int .i64 (S.putErr at0)) ∧
      ∃ F', DvAt w' d F' (S.putDo at0 pg) ∧ Moves F F' w w' := by
  obtain ⟨p, pd, wa, wc, rfl, h⟩ := h
  refine (put_any d p pd wa wc S at0 pg hf a n cap bb l hn hl w hbs hnil hbb h).mono ?_
  rintro e w' ⟨rfl, wa', wc', h2, m2⟩
  exact ⟨rfl, foot d p wa', ⟨p, pd, wa', wc', rfl, h2⟩, m2⟩

set_option maxHeartbeats 400000 in
theorem write_at (d : Nat) (F : List Nat) (S : Dv) (at0 : Int) (a : Option Addr) (n cap bb : Nat) (l : List UInt8) (hn : n = l.length) (w : World)
    (hbs : BSlice w a l bb) (hnil : a = none → l = []) (hbb : l ≠ [] → bb ∉ F) (h : DvAt w d F S) :
    Calls Try.prog 51 #[.pointer (some ⟨d, 0, none⟩), .int .i64 at0, .slice a n cap] w fun e w' => e = .returned (.int .i64 (S.writeErr at0 ⟨l.toArray⟩)) ∧
      ∃ F', DvAt w' d F' (S.writeDo at0 ⟨l.toArray⟩) ∧ Moves F F' w w' := by
  have hsz : (⟨l.toArray⟩ : ByteArray).size = n := by rw [hn]; show l.toArray.size = _; simp
  by_cases hbig : 384 < n
  · have E1 : Hid (S.writeErr at0 ⟨l.toArray⟩ = 1) := by simp [Hid, Dv.writeErr, hsz, hbig]
    have E2 : Hid (S.writeDo at0 ⟨l.toArray⟩ = S) := by simp [Hid, Dv.writeDo, hsz, hbig]
    have H := hide h
    have hb2 : (384 : Int) < (n : Int) := by omega
    clear h hsz hn hbs hnil hbb hbig
    go_enter Try.func51, Try.ntmps51
    go_wp2
    go_ret
    exact ⟨by rw [E1.out]; rfl, F, by rw [E2.out]; exact H.out, Moves.refl _ _⟩
  · have E1 : Hid (S.writeErr at0 ⟨l.toArray⟩ = S.putErr at0) := by simp [Hid, Dv.writeErr, hsz, hbig]
    have E2 : Hid (S.writeDo at0 ⟨l.toArray⟩ = S.putDo at0 (.whole ⟨l.toArray⟩)) := by simp [Hid, Dv.writeDo, hsz, hbig]
    have cp := hide (put_at d F S at0 (.whole ⟨l.toArray⟩) (by show (⟨l.toArray⟩ : ByteArray).size ≤ 384; omega) a n cap bb l hn rfl w hbs hnil hbb h)
    have hb2 : ¬ (384 : Int) < (n : Int) := by omega
    clear h hsz hn hbs hnil hbb hbig
    go_enter Try.func51, Try.ntmps51
    go_wp2_with (go_at_call 61; refine cp.out.mono ?_; rintro e w' ⟨rfl, F', h1, m1⟩)
    go_ret
    exact ⟨by rw [E1.out]; rfl, F', by rw [E2.out]; exact h1, m1⟩

theorem pgRow_flush (cs : List Cl) : pgRow (cs.map Cl.flush) = pgRow cs := by
  simp [pgRow, List.flatMap_map, Cl.flush]

set_option maxHeartbeats 400000 in
theorem flush_at (d : Nat) (F : List Nat) (S : Dv) (w : World) (h : DvAt w d F S) :
    Calls Try.prog 19 #[.pointer (some ⟨d, 0, none⟩)] w fun e w' => e = .returned (.int .i64 S.flushErr) ∧ ∃ F', DvAt w' d F' S.flushDo ∧ Moves F F' w w' := by
  obtain ⟨p, pd, wa, wc, rfl, h⟩ := h
  have cg := hide (gone_any d p pd wa wc S w h)
  have hgd := h.good
  have HG := hide hgd
  clear h hgd
  cases hg : S.gone with
  | true =>
    rw [hg] at cg
    have E1 : Hid (S.flushErr = 4) := by simp [Hid, Dv.flushErr, hg]
    have E2 : Hid (S.flushDo = S.used) := by simp [Hid, Dv.flushDo, hg]
    clear hg
    go_enter Try.func19, Try.ntmps19
    go_wp2_with (go_at_call 40; refine cg.out.mono ?_; rintro e w' ⟨rfl, h1, k1⟩)
    go_ret
    exact ⟨by rw [E1.out]; rfl, foot d p wa, ⟨p, pd, wa, wc, rfl, by rw [E2.out]; exact h1⟩, Moves.of_keep (k1.mono (fun k hk => .inl (by simp at hk; simp [foot, hk])))⟩
  | false =>
    rw [hg] at cg
    have E1 : Hid (S.flushErr = 0) := by simp [Hid, Dv.flushErr, hg]
    have E2 : Hid (S.flushDo = { S.used with cs := S.cs.map Cl.flush, fl := wrap64 (S.fl + 1) }) := by simp [Hid, Dv.flushDo, hg]
    have hfl : S.used.fl = S.fl := by unfold Dv.used; split <;> (try split) <;> rfl
    have HFL := hide hfl
    clear hg hfl
    go_enter Try.func19, Try.ntmps19
    go_wp2_with (go_at_call 40; refine cg.out.mono ?_; rintro e w' ⟨rfl, h1, k1⟩; have c1 := h1.dev.cell (i := 1) rfl; have f1 := h1.dev.frozen 1; have c6 := h1.dev.cell (i := 6) rfl; have f6 := h1.dev.frozen 6; rw [HFL.out] at c6; have H1 := hide h1; have K1 := hide k1; clear h1 k1)
    go_ret
    have hcs := S.used_cs
    obtain ⟨W, hW⟩ : ∃ W, W = (w'.setCell ⟨d, 1, none⟩ (.slice none 0 0)).setCell ⟨d, 6, none⟩ (.int .i64 (wrap64 (S.fl + 1))) := ⟨_, rfl⟩
    have K : Keep [d] w' W := by rw [hW]; exact ((Keep.refl _ _).setCell (.inl (by simp)) _).setCell (.inl (by simp)) _
    refine ⟨by rw [E1.out]; rfl, foot d p none, ⟨p, pd, none, 0, rfl, ?_⟩, ?_⟩
    · rw [E2.out, ← hW]
      have hwl : wl 0 (S.cs.map Cl.flush) = [] := wl_flush _ _
      refine ⟨?_, ?_, ?_, H1.out.dp, (fun a ha => by cases ha), ?_⟩
      · have b := (H1.out.dev.set 1 (.slice none 0 0)).set 6 (.int .i64 (wrap64 (S.fl + 1)))
        rw [← hW] at b
        have e : dvCells p pd none (wl 0 (S.cs.map Cl.flush)).length 0 { S.used with cs := S.cs.map Cl.flush, fl := wrap64 (S.fl + 1) } =
            ((dvCells p pd wa (wl 0 S.used.cs).length wc S.used).set 1 (.slice none 0 0)).set 6 (.int .i64 (wrap64 (S.fl + 1))) := by
          rw [hwl]; simp only [dvCells, List.length_map, hcs]; rfl
        show Blk W d (dvCells p pd none (wl 0 (S.cs.map Cl.flush)).length 0 _) 62
        rw [e]
        exact b
      · show Blk W p (pgRow (S.cs.map Cl.flush) ++ pd) 92
        rw [pgRow_flush, ← hcs]
        exact H1.out.row.same (K.block p H1.out.row.lt (by simpa using Ne.symm H1.out.dp))
      · show World.ownsRow _ 0 94 3 (.slice _ (wl 0 (S.cs.map Cl.flush)).length _) (wl 0 (S.cs.map Cl.flush)).length (wtRow (wl 0 (S.cs.map Cl.flush)))
        rw [hwl]
        exact World.ownsRow_nil _ _ _ _
      · have := Dv.flushDo_good HG.out
        rw [E2.out] at this
        exact this
    · rw [← hW]
      refine ⟨(K1.out.mono (G := foot d p wa) (fun k hk => .inl (by simp at hk; simp [foot, hk]))).trans K (fun x hx => .inl (by simp at hx; simp [foot, hx])), fun k hk => .inl ?_⟩
      simp only [foot, List.mem_cons, Option.map_none, Option.toList_none, List.not_mem_nil, or_false] at hk
      rcases hk with rfl | rfl <;> simp [foot]
end Go.Proofs.Ytbccnfbombgdmaa

/- What waits is settled: Crash, On. -/
set_option linter.unusedVariables false
set_option linter.unusedSimpArgs false
set_option maxRecDepth 8000
namespace Go.Proofs.Ytbccnfbombgdmaa
open Go.RowKit Go.Deep

/-- The pages as they stand when the first k of those that wait are settled. -/
def nowsN : Nat → List Cl → List UInt8 → List Pg
  | _, [], _ => []
  | k, c :: r, ps => match c.last with
    | none => c.now :: nowsN k r ps
    | some l => match k with
      | 0 => c.now :: nowsN 0 r ps
      | k + 1 => pick c.now l (ps.headD 0).toNat :: nowsN k r ps.tail

theorem nowsN_zero : ∀ (cs : List Cl) (ps : List UInt8), nowsN 0 cs ps = cs.map (·.now)
  | [], _ => rfl
  | c :: r, ps => by
    unfold nowsN
    split <;> simp [nowsN_zero r]

theorem nowsN_append : ∀ (A X : List Cl) (i j : Nat) (ps : List UInt8), nowsN ((wl i A).length + j) (A ++ X) ps = nowsN (wl i A).length A ps ++ nowsN j X (ps.drop (wl i A).length)
  | [], X, i, j, ps => by simp [wl, nowsN]
  | a :: r, X, i, j, ps => by
    cases h : a.last with
    | none =>
      have e : wl i (a :: r) = wl (i + 1) r := by simp [wl, h]
      rw [e, List.cons_append]
      simp only [nowsN, h]
      rw [nowsN_append r X (i + 1) j ps]
      rfl
    | some l =>
      have e : wl i (a :: r) = (i, l) :: wl (i + 1) r := by simp [wl, h]
      rw [e, List.cons_append, List.length_cons, show (wl (i + 1) r).length + 1 + j = ((wl (i + 1) r).length + j) + 1 by omega]
      simp only [nowsN, h]
      rw [nowsN_append r X (i + 1) j ps.tail]
      simp

theorem nowsN_all : ∀ (cs : List Cl) (i : Nat) (ps : List UInt8), nowsN (wl i cs).length cs ps = (settle cs ps).map (·.now)
  | [], _, _ => rfl
  | c :: r, i, ps => by
    cases h : c.last with
    | none =>
      have e : wl i (c :: r) = wl (i + 1) r := by simp [wl, h]
      rw [e]
      simp only [nowsN, settle, h]
      rw [nowsN_all r (i + 1) ps]
      rfl
    | some l =>
      have e : wl i (c :: r) = (i, l) :: wl (i + 1) r := by simp [wl, h]
      rw [e, List.length_cons]
      simp only [nowsN, settle, h]
      rw [nowsN_all r (i + 1) ps.tail]
      rfl

/-- The k-th of those that wait: where it lies. -/
theorem wl_part : ∀ (cs : List Cl) (i k : Nat) (x : Nat × Pg), (wl i cs)[k]? = some x → ∃ A c B, cs = A ++ c :: B ∧ c.last = some x.2 ∧ x.1 = i + A.length ∧ (wl i A).length = k
  | [], i, k, x, h => by simp [wl] at h
  | c :: r, i, k, x, h => by
    cases hl : c.last with
    | none =>
      have e : wl i (c :: r) = wl (i + 1) r := by simp [wl, hl]
      rw [e] at h
      obtain ⟨A, c', B, h1, h2, h3, h4⟩ := wl_part r (i + 1) k x h
      refine ⟨c :: A, c', B, by rw [h1]; rfl, h2, by simp; omega, ?_⟩
      have e2 : wl i (c :: A) = wl (i + 1) A := by simp [wl, hl]
      rw [e2]; exact h4
    | some l =>
      have e : wl i (c :: r) = (i, l) :: wl (i + 1) r := by simp [wl, hl]
      rw [e] at h
      cases k with
      | zero =>
        simp only [List.getElem?_cons_zero, Option.some.injEq] at h
        subst h
        exact ⟨[], c, r, rfl, hl, by simp, by simp [wl]⟩
      | succ k =>
        rw [List.getElem?_cons_succ] at h
        obtain ⟨A, c', B, h1, h2, h3, h4⟩ := wl_part r (i + 1) k x h
        refine ⟨c :: A, c', B, by rw [h1]; rfl, h2, by simp; omega, ?_⟩
        have e2 : wl i (c :: A) = (i, l) :: wl (i + 1) A := by simp [wl, hl]
        rw [e2, List.length_cons, h4]

def pRow (l : List Pg) : List Value := l.flatMap pgCells
theorem pgRow_eq (cs : List Cl) : pgRow cs = pRow (cs.map (·.now)) := by simp [pgRow, pRow, List.flatMap_map]
theorem pRow_append (a b : List Pg) : pRow (a ++ b) = pRow a ++ pRow b := by simp [pRow]
theorem pRow_cons (x : Pg) (b : List Pg) : pRow (x :: b) = pgCells x ++ pRow b := by simp [pRow]
theorem pRow_length (l : List Pg) : (pRow l).length = l.length * 2 := flat_length pgCells 2 (fun _ => rfl) l

theorem nowsN_length : ∀ (cs : List Cl) (k : Nat) (ps : List UInt8), (nowsN k cs ps).length = cs.length
  | [], _, _ => rfl
  | c :: r, k, ps => by
    unfold nowsN
    split
    · simp [nowsN_length r]
    · split <;> simp [nowsN_length r]

/-- One more is settled: one page of the row is turned. -/
theorem nowsN_step (A : List Cl) (c : Cl) (B : List Cl) (l : Pg) (hl : c.last = some l) (k : Nat) (hk : (wl 0 A).length = k) (ps : List UInt8) :
    nowsN k (A ++ c :: B) ps = nowsN k A ps ++ c.now :: B.map (·.now) ∧
    nowsN (k + 1) (A ++ c :: B) ps = nowsN k A ps ++ pick c.now l ((ps.drop k).headD 0).toNat :: B.map (·.now) := by
  subst hk
  constructor
  · have := nowsN_append A (c :: B) 0 0 ps
    rw [Nat.add_zero] at this
    rw [this, nowsN_zero]
    rfl
  · rw [nowsN_append A (c :: B) 0 1 ps]
    simp only [nowsN, hl]
    rw [nowsN_zero]

/-- Two stores into the row of pages. -/
theorem pRow_set {w : World} {p : Nat} {pd : List Value} {a : List Pg} {x : Pg} {b : List Pg} (h : Blk w p (pRow (a ++ x :: b) ++ pd) 92) (y : Pg) :
    Blk ((w.setCell ⟨p, a.length * 2, none⟩ (.int .u8 y.kind)).setCell ⟨p, a.length * 2 + 1, none⟩ (.string y.text)) p (pRow (a ++ y :: b) ++ pd) 92 := by
  have e1 : pRow (a ++ x :: b) ++ pd = pRow a ++ .int .u8 x.kind :: ([.string x.text] ++ (pRow b ++ pd)) := by rw [pRow_append, pRow_cons]; simp [pgCells]
  rw [e1] at h
  have b1 := h.set (a.length * 2) (.int .u8 y.kind)
  rw [set_append_len _ _ _ _ _ (pRow_length a).symm] at b1
  have e2 : pRow a ++ .int .u8 (y.kind : Int) :: ([.string x.text] ++ (pRow b ++ pd)) = (pRow a ++ [.int .u8 (y.kind : Int)]) ++ .string x.text :: (pRow b ++ pd) := by simp
  rw [e2] at b1
  have b2 := b1.set (a.length * 2 + 1) (.string y.text)
  rw [set_append_len _ _ _ _ _ (by rw [List.length_append, pRow_length]; rfl)] at b2
  have e3 : pRow (a ++ y :: b) ++ pd = (pRow a ++ [.int .u8 (y.kind : Int)]) ++ .string y.text :: (pRow b ++ pd) := by rw [pRow_append, pRow_cons]; simp [pgCells]
  rw [e3]
  exact b2

/-- What a round of 'settle' needs of the memory. -/
theorem settle_at {w wr : World} {d p : Nat} {pd : List Value} {wa : Option Addr} {wc : Nat} {S : Dv} {k : Nat} {ps : List UInt8} (H : DvIn w d p pd wa wc S) (K : Keep [p] w wr) (R : Blk wr p (pRow (nowsN k S.cs ps) ++ pd) 92) (hk : k < (wl 0 S.cs).length) :
    ∃ (g i : Nat) (l now : Pg) (a b : List Pg), wa = some ⟨g, 0, none⟩ ∧ g < wr.heap.size ∧ wr.cell? ⟨g, k * 3, none⟩ = some (.int .i64 i) ∧ wr.cell? ⟨g, k * 3 + 1, none⟩ = some (.int .u8 l.kind) ∧ wr.cell? ⟨g, k * 3 + 2, none⟩ = some (.string l.text) ∧
      i < S.cs.length ∧ a.length = i ∧ nowsN k S.cs ps = a ++ now :: b ∧ nowsN (k + 1) S.cs ps = a ++ pick now l ((ps.drop k).headD 0).toNat :: b := by
  obtain ⟨L1, x, L2, hL, hL1⟩ := part_at (wl 0 S.cs) k hk
  obtain ⟨A, c, B, hcs, hlast, hi, hA⟩ := wl_part S.cs 0 k x (by rw [hL, ← hL1]; simp)
  obtain ⟨s1, s2⟩ := nowsN_step A c B x.2 hlast k hA ps
  rcases own_form H.own with ⟨_, h0, _⟩ | ⟨g, pad, hwa, hb, _⟩
  · omega
  · have hgd := H.dq _ hwa
    have hb' : Blk wr g (wtRow (wl 0 S.cs) ++ pad) 94 := hb.same (K.block g hb.lt (by simpa using hgd.2))
    have cell : ∀ j (hj : j < 3) v, (wtCells x)[j]? = some v → wr.cell? ⟨g, k * 3 + j, none⟩ = some v := fun j hj v hv => by
      refine hb'.cell ?_
      have := flat_get wtCells 3 (fun _ => rfl) L1 x L2 j hj
      rw [hv, hL1] at this
      change (wtRow (L1 ++ x :: L2))[k * 3 + j]? = some v at this
      rw [hL, List.getElem?_append_left (List.getElem?_eq_some_iff.1 this).1]
      exact this
    refine ⟨g, x.1, x.2, c.now, nowsN k A ps, B.map (·.now), hwa, hb'.lt, cell 0 (by decide) _ rfl, cell 1 (by decide) _ rfl, cell 2 (by decide) _ rfl, ?_, ?_, ?_, ?_⟩
    · rw [hcs]; simp; omega
    · rw [nowsN_length]; omega
    · rw [hcs]; exact s1
    · rw [hcs]; exact s2

theorem drop_headD (l : List UInt8) (k : Nat) : (l.drop k).headD 0 = l.getD k 0 := by
  rw [List.headD_eq_head?_getD, List.head?_drop, List.getD_eq_getElem?_getD]

/-- The end of a round: the page is what it was; what was written last; torn. -/
theorem settle_round {w wr : World} {p k i : Nat} {pd : List Value} {S : Dv} {ps : List UInt8} {lst now : Pg} {a b : List Pg} {O : Obj} (I : Keep [p] w wr ∧ Blk wr p (pRow (nowsN k S.cs ps) ++ pd) 92) (e1 : nowsN k S.cs ps = a ++ now :: b)
    (e2 : nowsN (k + 1) S.cs ps = a ++ pick now lst ((ps.drop k).headD 0).toNat :: b) (hai : a.length = i) (x : UInt8) (hx : (ps.drop k).headD 0 = x) :
    (∀ (y : Pg) (kv : Int) (tv : ByteArray), pick now lst x.toNat = y → kv = (y.kind : Int) → tv = y.text → Keep [p] w (((wr.setCell ⟨p, i * 2, none⟩ (.int .u8 kv)).setCell ⟨p, i * 2 + 1, none⟩ (.string tv)).alloc O).drew ∧
      Blk (((wr.setCell ⟨p, i * 2, none⟩ (.int .u8 kv)).setCell ⟨p, i * 2 + 1, none⟩ (.string tv)).alloc O).drew p (pRow (nowsN (k + 1) S.cs ps) ++ pd) 92) ∧
    (pick now lst x.toNat = now → Keep [p] w (wr.alloc O) ∧ Blk (wr.alloc O) p (pRow (nowsN (k + 1) S.cs ps) ++ pd) 92) := by
  have R := I.2
  rw [e1] at R
  subst hx
  refine ⟨fun y kv tv hy hkv htv => ⟨(((I.1.setCell (.inl (by simp)) _).setCell (.inl (by simp)) _).alloc O).drew, ?_⟩, fun hy => ⟨I.1.alloc O, ?_⟩⟩
  · have := (pRow_set R y).alloc O
    rw [hai, ← hkv, ← htv] at this
    rw [e2, hy]
    exact this
  · rw [e2, hy]
    exact R.alloc O

set_option maxHeartbeats 1000000 in
theorem settle_any (d p : Nat) (pd : List Value) (wa : Option Addr) (wc : Nat) (S : Dv) (a : Option Addr) (n cap bb : Nat) (l : List UInt8) (hn : n = l.length) (hn63 : n ≤ 9223372036854775807) (w : World) (hbs : BSlice w a l bb) (hbb : l ≠ [] → bb ∉ foot d p wa) (h : DvIn w d p pd wa wc S) :
    Calls Try.prog 41 #[.pointer (some ⟨d, 0, none⟩), .slice a n cap] w fun e w' => e = .returned (.tuple #[]) ∧ DvIn w' d p pd none 0 { S with cs := settle S.cs l } ∧ Keep [d, p] w w' := by
  obtain ⟨m, hm⟩ : ∃ m, m = (wl 0 S.cs).length := ⟨_, rfl⟩
  have hml : m ≤ 4096 := by rw [hm]; exact Nat.le_trans (wl_length _ _) h.good.many
  have c1 := h.dev.cell (i := 1) rfl
  rw [← hm] at c1
  have hdw := h.dev.lt
  have H := hide h
  have HM := hide hm
  have HBS := hide hbs
  have HBB := hide hbb
  have HN := hide hn
  have N63 := hide hn63
  clear h hm hbs hbb hn hn63
  go_enter Try.func41, Try.ntmps41
  go_wp2
  go_loopg [12] m (fun kx s12 wr => ∃ k : Nat, s12 = .int .i64 k ∧ k ≤ m ∧ m - k ≤ kx ∧ Hid (Keep [p] w wr ∧ Blk wr p (pRow (nowsN k S.cs l) ++ pd) 92))
  case atStart => exact ⟨0, rfl, Nat.zero_le _, by omega, Keep.refl _ _, by rw [nowsN_zero, ← pgRow_eq]; exact H.out.row⟩
  case round =>
    obtain ⟨k, rfl, hkm, hg, I⟩ := hrel
    by_cases hlt : k < m
    · obtain ⟨g, i, lst, now, a1, b1, hwa, hgw, q0, q1, q2, hic, hai, e1, e2⟩ := settle_at H.out I.out.1 I.out.2 (by rw [← HM.out]; exact hlt)
      subst hwa
      have HD := hide (H.out.dev.same (I.out.1.block d H.out.dev.lt (by simpa using H.out.dp)))
      have c0 := HD.out.cell (i := 0) rfl
      have R0 := I.out.2
      rw [e1] at R0
      have r0 := R0.cell (i := a1.length * 2 + 0) (v := .int .u8 now.kind) (flat_getP pgCells 2 (fun _ => rfl) a1 now b1 pd 0 (by decide))
      have r1 := R0.cell (i := a1.length * 2 + 1) (v := .string now.text) (flat_getP pgCells 2 (fun _ => rfl) a1 now b1 pd 1 (by decide))
      have g0 := R0.frozen (a1.length * 2)
      have g1 := R0.frozen (a1.length * 2 + 1)
      rw [Nat.add_zero] at r0
      rw [hai] at r0 r1 g0 g1
      have hpw := R0.lt
      have hdr : d < wr.heap.size := HD.out.lt
      have hic2 : (i : Int) < (S.cs.length : Int) := by omega
      have E1 := hide e1
      have E2 := hide e2
      have HAI := hide hai
      have RR := hide R0
      clear e1 e2 hai R0
      by_cases hkl : k < n
      · obtain ⟨x, hx⟩ : ∃ x : UInt8, x = l.getD k 0 := ⟨_, rfl⟩
        have pc : ∃ bo, a = some ⟨bb, bo, none⟩ ∧ bb < wr.heap.size ∧ wr.cell? ⟨bb, bo + k, none⟩ = some (.int .u8 (x.toNat : Int)) := by
          rcases HBS.out with h0 | ⟨hb, bo, ha, hc⟩
          · have := HN.out; rw [h0] at this; simp at this; omega
          · refine ⟨bo, ha, Nat.lt_of_lt_of_le hb I.out.1.size, ?_⟩
            have hkl2 : k < l.length := by rw [← HN.out]; exact hkl
            have hnf := HBB.out (fun h => by rw [h] at hkl2; simp at hkl2)
            rw [World.cell?_of_block (a := ⟨bb, bo + k, none⟩) (I.out.1.block bb hb (fun h => hnf (by simp at h; simp [foot, h]))), hc k hkl2, hx]
            simp [List.getD_eq_getElem?_getD, List.getElem?_eq_getElem hkl2]
        obtain ⟨bo, rfl, hbw, pc⟩ := pc
        have X := hide hx
        clear hx
        have hkl3 : (k : Int) < (n : Int) := by omega
        have HX : Hid ((l.drop k).headD 0 = x) := by show (l.drop k).headD 0 = x; rw [drop_headD, ← X.out]
        rcases (show x.toNat % 3 = 0 ∨ x.toNat % 3 = 1 ∨ x.toNat % 3 = 2 by omega) with h3 | h3 | h3
        · have h3i : (x.toNat : Int) % 3 = 0 := by omega
          have P : Hid (pick now lst x.toNat = lst) := by simp [Hid, pick, h3]
          clear h3
          go_wp2
          go_region
          all_goals go_wp2
          all_goals (
            go_roundg (m - (k + 1))
            case measure => omega
            case rel => exact ⟨k + 1, rfl, by omega, by omega, (settle_round I.out E1.out E2.out HAI.out x HX.out).1 _ _ _ P.out rfl rfl⟩)
        · have h3i : (x.toNat : Int) % 3 = 1 := by omega
          have P : Hid (pick now lst x.toNat = now) := by simp [Hid, pick, h3]
          clear h3
          go_wp2
          go_roundg (m - (k + 1))
          case measure => omega
          case rel => exact ⟨k + 1, rfl, by omega, by omega, (settle_round I.out E1.out E2.out HAI.out x HX.out).2 P.out⟩
        · have h3i : (x.toNat : Int) % 3 = 2 := by omega
          have P : Hid (pick now lst x.toNat = .torn) := by simp [Hid, pick, h3]
          clear h3
          go_wp2
          go_region
          all_goals go_wp2
          all_goals (
            go_roundg (m - (k + 1))
            case measure => omega
            case rel => exact ⟨k + 1, rfl, by omega, by omega, (settle_round I.out E1.out E2.out HAI.out x HX.out).1 _ _ _ P.out rfl rfl⟩)
      · have HX : Hid ((l.drop k).headD 0 = 0) := by
          show (l.drop k).headD 0 = 0
          rw [List.drop_eq_nil_of_le (by rw [← HN.out]; omega)]
          rfl
        have P : Hid (pick now lst (0 : UInt8).toNat = lst) := by simp [Hid, pick]
        have hkl3 : ¬ (k : Int) < (n : Int) := by omega
        go_wp2
        go_region
        all_goals go_wp2
        all_goals (
          go_roundg (m - (k + 1))
          case measure => omega
          case rel => exact ⟨k + 1, rfl, by omega, by omega, (settle_round I.out E1.out E2.out HAI.out 0 HX.out).1 _ _ _ P.out rfl rfl⟩)
    · obtain rfl : k = m := by omega
      have HD := hide (H.out.dev.same (I.out.1.block d H.out.dev.lt (by simpa using H.out.dp)))
      have c9 := HD.out.cell (i := 1) rfl
      have f9 := HD.out.frozen 1
      go_wp2
      go_end0
      obtain ⟨W, hW⟩ : ∃ W, W = wr.setCell ⟨d, 1, none⟩ (.slice none 0 0) := ⟨_, rfl⟩
      have K : Keep [d] wr W := by rw [hW]; exact (Keep.refl _ _).setCell (.inl (by simp)) _
      rw [← hW]
      have hwl : wl 0 (settle S.cs l) = [] := wl_settle _ _ _
      have hlen : (settle S.cs l).length = S.cs.length := settle_length _ _
      refine ⟨rfl, ⟨?_, ?_, ?_, H.out.dp, (fun a ha => by cases ha), ?_⟩, ?_⟩
      · have b := HD.out.set 1 (.slice none 0 0)
        rw [← hW] at b
        have e : dvCells p pd none (wl 0 (settle S.cs l)).length 0 { S with cs := settle S.cs l } = (dvCells p pd wa (wl 0 S.cs).length wc S).set 1 (.slice none 0 0) := by
          rw [hwl]; simp only [dvCells, hlen]; rfl
        show Blk W d (dvCells p pd none (wl 0 (settle S.cs l)).length 0 _) 62
        rw [e]
        exact b
      · show Blk W p (pgRow (settle S.cs l) ++ pd) 92
        rw [pgRow_eq, ← nowsN_all S.cs 0 l, ← HM.out]
        exact I.out.2.same (K.block p I.out.2.lt (by simpa using Ne.symm H.out.dp))
      · show World.ownsRow _ 0 94 3 (.slice _ (wl 0 (settle S.cs l)).length _) (wl 0 (settle S.cs l)).length (wtRow (wl 0 (settle S.cs l)))
        rw [hwl]
        exact World.ownsRow_nil _ _ _ _
      · exact ⟨by show (settle S.cs l).length ≤ _; rw [hlen]; exact H.out.good.many, H.out.good.armed, settle_fits _ _ H.out.good.fits⟩
      · exact (I.out.1.mono (G := [d, p]) (fun k hk => .inl (by simp at hk; simp [hk]))).trans K (fun x hx => .inl (by simp at hx; simp [hx]))

theorem settle_at0 (d p : Nat) (pd : List Value) (wa : Option Addr) (wc : Nat) (S : Dv) (w : World) (h : DvIn w d p pd wa wc S) :
    Calls Try.prog 41 #[.pointer (some ⟨d, 0, none⟩), .slice none 0 0] w fun e w' => e = .returned (.tuple #[]) ∧ DvIn w' d p pd none 0 { S with cs := settle S.cs [] } ∧ Keep [d, p] w w' :=
  settle_any d p pd wa wc S none 0 0 0 [] rfl (by omega) w (.inl rfl) (fun h => absurd rfl h) h

theorem foot_none {d p : Nat} {wa : Option Addr} {w w' : World} (h : Keep [d, p] w w') : Moves (foot d p wa) (foot d p none) w w' := by
  refine ⟨h.mono (fun k hk => .inl (by simp at hk; rcases hk with rfl | rfl <;> simp [foot])), fun k hk => .inl ?_⟩
  simp only [foot, List.mem_cons, Option.map_none, Option.toList_none, List.not_mem_nil, or_false] at hk
  rcases hk with rfl | rfl <;> simp [foot]

set_option maxHeartbeats 400000 in
theorem crash_at (d : Nat) (F : List Nat) (S : Dv) (a : Option Addr) (n cap bb : Nat) (l : List UInt8) (hn : n = l.length) (hn63 : n ≤ 9223372036854775807) (w : World) (hbs : BSlice w a l bb) (hbb : l ≠ [] → bb ∉ F) (h : DvAt w d F S) :
    Calls Try.prog 20 #[.pointer (some ⟨d, 0, none⟩), .slice a n cap] w fun e w' => e = .returned (.tuple #[]) ∧ ∃ F', DvAt w' d F' (S.crash l) ∧ Moves F F' w w' := by
  obtain ⟨p, pd, wa, wc, rfl, h⟩ := h
  have c3 := h.dev.cell (i := 3) rfl
  have f3 := h.dev.frozen 3
  have c4 := h.dev.cell (i := 4) rfl
  have f4 := h.dev.frozen 4
  have c8 := h.dev.cell (i := 8) rfl
  have f8 := h.dev.frozen 8
  have K : Keep [d] w (((w.setCell ⟨d, 3, none⟩ (.bool true)).setCell ⟨d, 4, none⟩ (.int .i64 (wrap64 (S.losses + 1)))).setCell ⟨d, 8, none⟩ (.int .i64 (wrap64 (S.cr + 1)))) :=
    (((Keep.refl [d] w).setCell (.inl (by simp)) _).setCell (.inl (by simp)) _).setCell (.inl (by simp)) _
  have h1 := h.turn (S' := { S with off := true, losses := wrap64 (S.losses + 1), cr := wrap64 (S.cr + 1) }) K (((h.dev.set 3 _).set 4 _).set 8 _) rfl ⟨h.good.many, h.good.armed, h.good.fits⟩
  have cs := hide (settle_any d p pd wa wc _ a n cap bb l hn hn63 _ (hbs.same K.size (fun hb hl => K.block bb hb (fun hk => hbb hl (by simp at hk; simp [foot, hk])))) hbb h1)
  have HK := hide K
  clear h h1 K hbs hbb hn hn63
  go_enter Try.func20, Try.ntmps20
  go_wp2_with (go_at_call 41; refine cs.out.mono ?_; rintro e w' ⟨rfl, h2, k2⟩)
  go_end0
  exact ⟨rfl, foot d p none, ⟨p, pd, none, 0, rfl, h2⟩, (Moves.of_keep (HK.out.mono (fun k hk => .inl (by simp at hk; simp [foot, hk])))).trans (foot_none k2)⟩

set_option maxHeartbeats 400000 in
theorem on_at (d : Nat) (F : List Nat) (S : Dv) (w : World) (h : DvAt w d F S) :
    Calls Try.prog 22 #[.pointer (some ⟨d, 0, none⟩)] w fun e w' => e = .returned (.tuple #[]) ∧ ∃ F', DvAt w' d F' S.on ∧ Moves F F' w w' := by
  obtain ⟨p, pd, wa, wc, rfl, h⟩ := h
  have c3 := h.dev.cell (i := 3) rfl
  have f3 := h.dev.frozen 3
  have c4 := h.dev.cell (i := 4) rfl
  have f4 := h.dev.frozen 4
  have c2 := h.dev.cell (i := 2) rfl
  have f2 := h.dev.frozen 2
  have K : Keep [d] w (((w.setCell ⟨d, 3, none⟩ (.bool false)).setCell ⟨d, 2, none⟩ (.int .i64 0)).setCell ⟨d, 4, none⟩ (.int .i64 (wrap64 (S.losses + 1)))) :=
    (((Keep.refl [d] w).setCell (.inl (by simp)) _).setCell (.inl (by simp)) _).setCell (.inl (by simp)) _
  have h1 := h.turn (S' := { S with off := false, armed := 0, losses := wrap64 (S.losses + 1) }) K (((h.dev.set 3 _).set 2 _).set 4 _) rfl ⟨h.good.many, Nat.zero_le _, h.good.fits⟩
  have cs := hide (settle_at0 d p pd wa wc _ _ h1)
  have HK := hide K
  clear h h1 K
  go_enter Try.func22, Try.ntmps22
  go_wp2_with (go_at_call 41; refine cs.out.mono ?_; rintro e w' ⟨rfl, h2, k2⟩)
  go_end0
  exact ⟨rfl, foot d p none, ⟨p, pd, none, 0, rfl, h2⟩, (Moves.of_keep (HK.out.mono (fun k hk => .inl (by simp at hk; simp [foot, hk])))).trans (foot_none k2)⟩
end Go.Proofs.Ytbccnfbombgdmaa

/- Read, Waiting. -/
set_option linter.unusedVariables false
set_option linter.unusedSimpArgs false
set_option maxRecDepth 8000
namespace Go.Proofs.Ytbccnfbombgdmaa
open Go.RowKit Go.Deep

theorem alloc_sets (V : World) (t : TypeId) : ∀ (vs A M B : List Value), M.length = vs.length → (V.alloc (.cells (A ++ M ++ B).toArray t)).setCells V.heap.size A.length vs = V.alloc (.cells (A ++ vs ++ B).toArray t)
  | [], A, [], B, _ => rfl
  | v :: r, A, m :: M, B, hl => by
    rw [World.setCells, World.setCell_alloc_at _ _ _ _ _ rfl]
    have ih := alloc_sets V t r (A ++ [v]) M B (by simpa using hl)
    have e : (A ++ m :: M ++ B).toArray.setIfInBounds A.length v = (A ++ [v] ++ M ++ B).toArray := by
      apply Array.ext'
      simp
    rw [e]
    have hl2 : (A ++ [v]).length = A.length + 1 := by simp
    rw [hl2] at ih
    rw [ih]
    simp

theorem info3 : (Try.prog.info? 3).map (fun i => (i.zero, i.size, i.bytes)) = some (some (.int .i64 0), 1, 8) := by kernel_rfl

theorem make384 (W : World) : (Instr.makeSlice 37 (.int .i64 384) (.int .i64 384)).run Try.prog W = .ok (.slice (some ⟨W.heap.size, 0, none⟩) 384 384) (W.alloc (.cells (List.replicate 384 (Value.int .u8 0)).toArray 5)) := by
  have h := run_make_row' (P := Try.prog) 37 5 (.int .u8 0) 1 Try.underlying37 info5 rfl .i64 .i64 384 (by decide) (by decide) W
  have e : madeCells #[Value.int .u8 0] 384 = (List.replicate 384 (Value.int .u8 0)).toArray := by
    apply Array.ext'
    rw [toList_madeCells_one]
  rw [e] at h
  exact h

theorem full_data (t : ByteArray) : (full t).data.toList = t.data.toList ++ List.replicate (384 - t.size) 0 := by
  simp [full, zeros, ByteArray.data_append]

theorem copy384 (V : World) (N : Nat) (hN : N = V.heap.size) (t : ByteArray) (ht : t.size ≤ 384) (ty : TypeId) :
    (Builtin.copy_ #[37, 9] ty #[.slice (some ⟨N, 0, none⟩) 384 384, .string t]).run Try.prog (V.alloc (.cells (List.replicate 384 (Value.int .u8 0)).toArray 5)) = .ok (goInt t.size) (V.alloc (.cells (bCells (full t).data.toList).toArray 5)) := by
  subst hN
  have hb : Blk (V.alloc (.cells (List.replicate 384 (Value.int .u8 0)).toArray 5)) V.heap.size (List.replicate 384 (Value.int .u8 0)) 5 := Blk.new _ _ _
  obtain ⟨i0, hi0, hp0⟩ := Option.map_eq_some_iff.1 info5
  simp only [Prod.mk.injEq] at hp0
  have h := Go.run_copy_string (P := Try.prog) (V.alloc (.cells (List.replicate 384 (Value.int .u8 0)).toArray 5)) 37 9 ty 5 V.heap.size 0 384 384 t Try.underlying37 (fun w => by simp [sizeOf, typeInfo, hi0, hp0.2.1]) ht
    (fun j hj => by rw [hb.cell (i := 0 + j) (v := .int .u8 0) (by rw [List.getElem?_replicate, if_pos (by omega)])]; rfl) (fun j hj => hb.frozen _)
  rw [h]
  have hsz : t.data.toList.length = t.size := by rw [Array.length_toList]; rfl
  have := alloc_sets V 5 (t.data.toList.map fun x => Value.int .u8 (x.toNat : Int)) [] (List.replicate t.size (.int .u8 0)) (List.replicate (384 - t.size) (.int .u8 0)) (by simp [hsz])
  rw [List.nil_append, List.nil_append, List.replicate_append_replicate, show t.size + (384 - t.size) = 384 by omega] at this
  rw [List.length_nil] at this
  rw [this]
  congr 4
  rw [full_data]
  simp [bCells]

def Dv.readErr (S : Dv) (at0 : Int) : Int := if S.has at0 = false then 1 else if S.off = true then 4 else match S.cs[at0.toNat]? with | some c => c.now.err | none => 0
def Dv.readText (S : Dv) (at0 : Int) : ByteArray := if S.has at0 = false then ⟨#[]⟩ else if S.off = true then ⟨#[]⟩ else match S.cs[at0.toNat]? with | some c => c.now.read | none => ⟨#[]⟩
def Dv.readDo (S : Dv) (at0 : Int) : Dv := if S.has at0 = false then S else if S.off = true then S else { S with rd := wrap64 (S.rd + 1) }

/-- What Read hands back: nothing beside an error; else a page of the call's own. -/
def ReadsAs (w w' : World) (v : Value) (err : Int) (text : ByteArray) : Prop :=
  (err ≠ 0 ∧ v = .slice none 0 0 ∧ text = ⟨#[]⟩) ∨ (err = 0 ∧ text.size = 384 ∧ ∃ b, b = w.heap.size + 1 ∧ v = .slice (some ⟨b, 0, none⟩) 384 384 ∧ Blk w' b (bCells text.data.toList) 5)

theorem full_size (t : ByteArray) (h : t.size ≤ 384) : (full t).size = 384 := by
  have : (full t).data.toList.length = 384 := by
    rw [full_data]; simp
    have : t.data.size = t.size := rfl
    omega
  rw [Array.length_toList] at this
  exact this

set_option maxHeartbeats 1000000 in
theorem read_any (d p : Nat) (pd : List Value) (wa : Option Addr) (wc : Nat) (S : Dv) (at0 : Int) (w : World) (h : DvIn w d p pd wa wc S) :
    Calls Try.prog 46 #[.pointer (some ⟨d, 0, none⟩), .int .i64 at0] w fun e w' => ∃ v, e = .returned (.tuple #[v, .int .i64 (S.readErr at0)]) ∧ ReadsAs w w' v (S.readErr at0) (S.readText at0) ∧
      DvIn w' d p pd wa wc (S.readDo at0) ∧ Keep [d] w w' := by
  have ch := hide (has_any d p pd wa wc S w h at0)
  cases hh : S.has at0 with
  | false =>
    rw [hh] at ch
    have E1 : Hid (S.readErr at0 = 1) := by simp [Hid, Dv.readErr, hh]
    have E2 : Hid (S.readText at0 = ⟨#[]⟩) := by simp [Hid, Dv.readText, hh]
    have E3 : Hid (S.readDo at0 = S) := by simp [Hid, Dv.readDo, hh]
    have H := hide h
    clear h hh
    go_enter Try.func46, Try.ntmps46
    go_wp2_with (go_at_call 54; refine ch.out.mono ?_; rintro e w' ⟨rfl, rfl⟩)
    go_ret2
    exact ⟨_, by rw [E1.out]; rfl, .inl ⟨by rw [E1.out]; decide, rfl, E2.out⟩, by rw [E3.out]; exact H.out, Keep.refl _ _⟩
  | true =>
    rw [hh] at ch
    have c3 := h.dev.cell (i := 3) rfl
    cases ho : S.off with
    | true =>
      rw [ho] at c3
      have E1 : Hid (S.readErr at0 = 4) := by simp [Hid, Dv.readErr, hh, ho]
      have E2 : Hid (S.readText at0 = ⟨#[]⟩) := by simp [Hid, Dv.readText, hh, ho]
      have E3 : Hid (S.readDo at0 = S) := by simp [Hid, Dv.readDo, hh, ho]
      have H := hide h
      clear h hh ho
      go_enter Try.func46, Try.ntmps46
      go_wp2_with (go_at_call 54; refine ch.out.mono ?_; rintro e w' ⟨rfl, rfl⟩)
      go_ret2
      exact ⟨_, by rw [E1.out]; rfl, .inl ⟨by rw [E1.out]; decide, rfl, E2.out⟩, by rw [E3.out]; exact H.out, Keep.refl _ _⟩
    | false =>
      rw [ho] at c3
      obtain ⟨A, c, B, hcs, hat⟩ := Dv.has_part hh
      have hget : S.cs[at0.toNat]? = some c := by rw [hcs, hat]; simp
      have E1 : Hid (S.readErr at0 = c.now.err) := by simp [Hid, Dv.readErr, hh, ho, hget]
      have E2 : Hid (S.readText at0 = c.now.read) := by simp [Hid, Dv.readText, hh, ho, hget]
      have E3 : Hid (S.readDo at0 = { S with rd := wrap64 (S.rd + 1) }) := by simp [Hid, Dv.readDo, hh, ho]
      have hlt : (A.length : Int) < (S.cs.length : Int) := by rw [hcs]; simp; omega
      have c0 := h.dev.cell (i := 0) rfl
      have c7 := h.dev.cell (i := 7) rfl
      have f7 := h.dev.frozen 7
      have r0 := h.row.cell (i := A.length * 2 + 0) (v := .int .u8 c.now.kind) (by rw [hcs]; exact flat_getP (fun c : Cl => pgCells c.now) 2 (fun _ => rfl) A c B pd 0 (by decide))
      have r1 := h.row.cell (i := A.length * 2 + 1) (v := .string c.now.text) (by rw [hcs]; exact flat_getP (fun c : Cl => pgCells c.now) 2 (fun _ => rfl) A c B pd 1 (by decide))
      rw [Nat.add_zero] at r0
      have hdp := h.dp
      have hpd := Ne.symm h.dp
      have hpw := h.row.lt
      have hdw := h.dev.lt
      have hfit : c.now.fits := (h.good.fits c (by rw [hcs]; simp)).1
      have K : Keep [d] w (w.setCell ⟨d, 7, none⟩ (.int .i64 (wrap64 (S.rd + 1)))) := (Keep.refl [d] w).setCell (.inl (by simp)) _
      have D : DvIn (w.setCell ⟨d, 7, none⟩ (.int .i64 (wrap64 (S.rd + 1)))) d p pd wa wc { S with rd := wrap64 (S.rd + 1) } := h.turn K (h.dev.set 7 _) rfl ⟨h.good.many, h.good.armed, h.good.fits⟩
      have HK := hide K
      have HD := hide D
      have F := hide hfit
      subst hat
      clear h hh ho hget hcs K D hfit
      obtain ⟨now, last⟩ := c
      simp only at r0 r1 E1 E2 F
      cases now using Pg.elim3 with
      | blank =>
        simp only [Pg.kind, Pg.text] at r0 r1
        go_enter Try.func46, Try.ntmps46
        go_wp2_with (go_at_call 54; refine ch.out.mono ?_; rintro e w' ⟨rfl, rfl⟩)
        go_ret2
        refine ⟨_, by rw [E1.out]; rfl, .inl ⟨by rw [E1.out]; decide, rfl, E2.out⟩, ?_, HK.out.alloc _⟩
        rw [E3.out]
        exact HD.out.same (fun k hk => blk_alloc_lt _ _ _ (HD.out.lt k hk))
      | torn =>
        simp only [Pg.kind, Pg.text] at r0 r1
        go_enter Try.func46, Try.ntmps46
        go_wp2_with (go_at_call 54; refine ch.out.mono ?_; rintro e w' ⟨rfl, rfl⟩)
        go_ret2
        refine ⟨_, by rw [E1.out]; rfl, .inl ⟨by rw [E1.out]; decide, rfl, E2.out⟩, ?_, HK.out.alloc _⟩
        rw [E3.out]
        exact HD.out.same (fun k hk => blk_alloc_lt _ _ _ (HD.out.lt k hk))
      | whole b =>
        simp only [Pg.kind, Pg.text] at r0 r1
        have hm := make384
        have hcp : ∀ (V : World) (N : Nat) (ty : TypeId), N = V.heap.size → (Builtin.copy_ #[37, 9] ty #[.slice (some ⟨N, 0, none⟩) 384 384, .string b]).run Try.prog (V.alloc (.cells (List.replicate 384 (Value.int .u8 0)).toArray 5)) =
          .ok (goInt b.size) (V.alloc (.cells (bCells (full b).data.toList).toArray 5)) := fun V N ty hN => copy384 V N hN b F.out ty
        generalize hZ : (List.replicate 384 (Value.int .u8 0)).toArray = Z at hm hcp
        have HR : Hid ((full b).size = 384) := full_size b F.out
        clear hZ
        have E2' : Hid (S.readText ↑A.length = full b) := E2.out
        clear E2
        generalize hZ2 : full b = fb at hcp HR E2'
        clear hZ2
        generalize hZ3 : (bCells fb.data.toList).toArray = Z3 at hcp
        have HZ3 := hide hZ3
        clear hZ3
        go_enter Try.func46, Try.ntmps46
        go_wp2_with (go_at_call 54; refine ch.out.mono ?_; rintro e w' ⟨rfl, rfl⟩)
        go_ret2
        have KA := HK.out.alloc (.cells #[.int .u8 1, .string b] 92)
        refine ⟨_, by rw [E1.out]; rfl, .inr ⟨E1.out, by rw [E2'.out]; exact HR.out, w'.heap.size + 1, rfl, rfl, ?_⟩, ?_, KA.alloc _⟩
        · rw [E2'.out]
          unfold Blk
          rw [HZ3.out]
          have := blk_alloc_new (((w'.setCell ⟨d, 7, none⟩ (.int .i64 (wrap64 (S.rd + 1)))).alloc (.cells #[.int .u8 1, .string b] 92))) (.cells Z3 5)
          rw [nblk_alloc, nblk_setCell] at this
          exact this
        · rw [E3.out]
          refine HD.out.same (fun k hk => ?_)
          have hl := HD.out.lt k hk
          rw [blk_alloc_lt _ _ _ (by rw [nblk_alloc]; omega), blk_alloc_lt _ _ _ hl]

theorem read_at (d : Nat) (F : List Nat) (S : Dv) (at0 : Int) (w : World) (h : DvAt w d F S) :
    Calls Try.prog 46 #[.pointer (some ⟨d, 0, none⟩), .int .i64 at0] w fun e w' => ∃ v, e = .returned (.tuple #[v, .int .i64 (S.readErr at0)]) ∧ ReadsAs w w' v (S.readErr at0) (S.readText at0) ∧
      DvAt w' d F (S.readDo at0) ∧ Keep F w w' := by
  obtain ⟨p, pd, wa, wc, rfl, h⟩ := h
  refine (read_any d p pd wa wc S at0 w h).mono ?_
  rintro e w' ⟨v, rfl, hr, h2, k2⟩
  exact ⟨v, rfl, hr, ⟨p, pd, wa, wc, rfl, h2⟩, k2.mono (fun k hk => .inl (by simp at hk; simp [foot, hk]))⟩

def wtNums (l : List (Nat × Pg)) : List Value := l.map fun x => Value.int .i64 (x.1 : Int)

end Go.Proofs.Ytbccnfbombgdmaa

/- New, Copy. -/
set_option linter.unusedVariables false
set_option linter.unusedSimpArgs false
set_option maxRecDepth 8000
namespace Go.Proofs.Ytbccnfbombgdmaa
open Go.RowKit Go.Deep

theorem made_two (a b : Value) : ∀ n : Nat, (madeCells #[a, b] (n * 2)).toList = (List.replicate n ()).flatMap (fun _ => [a, b])
  | 0 => by simp [madeCells]
  | n + 1 => by
    have ih := made_two a b n
    have h1 : madeCells #[a, b] ((n + 1) * 2) = ((madeCells #[a, b] (n * 2)).push a).push b := by
      unfold madeCells
      rw [show (n + 1) * 2 = n * 2 + 1 + 1 by omega, Array.range_succ, Array.range_succ]
      have e1 : (n * 2) % 2 = 0 := by omega
      have e2 : (n * 2 + 1) % 2 = 1 := by omega
      apply Array.ext'
      simp [e1, e2]
    rw [h1, List.replicate_succ', List.flatMap_append]
    simp [ih]

theorem pgRow_fresh : ∀ n : Nat, pgRow (List.replicate n (⟨.blank, none⟩ : Cl)) = (List.replicate n ()).flatMap (fun _ => [Value.int .u8 0, Value.string ⟨#[]⟩])
  | 0 => rfl
  | n + 1 => by
    rw [List.replicate_succ, pgRow_cons, pgRow_fresh n, List.replicate_succ]
    rfl

theorem makePages (n : Nat) (hn : n ≤ 4096) (W : World) : (Instr.makeSlice 57 (.int .i64 n) (.int .i64 n)).run Try.prog W = .ok (.slice (some ⟨W.heap.size, 0, none⟩) n n) (W.alloc (.cells (pgRow (List.replicate n (⟨.blank, none⟩ : Cl))).toArray 92)) := by
  obtain ⟨i0, hi0, hp0⟩ := Option.map_eq_some_iff.1 info71
  simp only [Prod.mk.injEq] at hp0
  obtain ⟨hz0, hz1, hz2⟩ := hp0
  have h := run_make (P := Try.prog) W 57 92 i0 _ Try.underlying57 hi0 hz0 .i64 .i64 (n : Int) (n : Int) (by omega) (by omega) (by rw [hz2]; omega) (by omega)
  rw [h]
  simp only [Int.toNat_natCast, hz1]
  congr 3
  apply Array.ext'
  rw [pgRow_fresh]
  exact made_two _ _ n

set_option maxHeartbeats 400000 in
theorem new_bad (n : Int) (hn : n < 1 ∨ 4096 < n) (w : World) : Calls Try.prog 9 #[.int .i64 n] w fun e w' => e = .returned (.tuple #[.pointer none, .int .i64 1]) ∧ w' = w := by
  by_cases h1 : n < 1
  · clear hn
    go_enter Try.func9, Try.ntmps9
    go_wp2
    go_ret2
    exact ⟨rfl, rfl⟩
  · have h2 : 4096 < n := by omega
    clear hn
    go_enter Try.func9, Try.ntmps9
    go_wp2
    go_ret2
    exact ⟨rfl, rfl⟩

set_option maxHeartbeats 400000 in
theorem new_any (n : Nat) (h1 : 1 ≤ n) (h2 : n ≤ 4096) (w : World) :
    Calls Try.prog 9 #[.int .i64 n] w fun e w' => e = .returned (.tuple #[.pointer (some ⟨w.heap.size + 1, 0, none⟩), .int .i64 0]) ∧ DvIn w' (w.heap.size + 1) w.heap.size [] none 0 (Dv.fresh n) ∧ Below w.heap.size w w' := by
  have hmk := makePages n h2
  have hz1 : ¬ (n : Int) < 1 := by omega
  have hz2 : ¬ (4096 : Int) < (n : Int) := by omega
  have H2 := hide h2
  clear h1 h2
  generalize hZ : (pgRow (List.replicate n (⟨.blank, none⟩ : Cl))).toArray = Z at hmk
  have HZ := hide hZ
  clear hZ
  go_enter Try.func9, Try.ntmps9
  go_wp2
  go_ret2
  refine ⟨rfl, ⟨?_, ?_, ?_, by omega, (fun a ha => by cases ha), Dv.fresh_good n H2.out⟩, ((Below.refl _ _).alloc (Nat.le_refl _) _).alloc (by rw [nblk_alloc]; omega) _⟩
  · have hw : wl 0 (Dv.fresh n).cs = [] := wl_fresh n 0
    have hl : (Dv.fresh n).cs.length = n := by simp [Dv.fresh]
    rw [hw]
    unfold Blk dvCells
    rw [hl]
    have := blk_alloc_new (w.alloc (.cells Z 92)) (.cells #[.slice (some ⟨w.heap.size, 0, none⟩) n n, .slice none 0 0, .int .i64 0, .bool false, .int .i64 0, .int .i64 0, .int .i64 0, .int .i64 0, .int .i64 0] 62)
    rw [nblk_alloc] at this
    exact this
  · rw [List.append_nil]
    refine Blk.alloc ?_ _
    unfold Blk
    have e : (pgRow (Dv.fresh n).cs).toArray = Z := HZ.out
    rw [e]
    exact blk_alloc_new _ _
  · have hw : wl 0 (Dv.fresh n).cs = [] := wl_fresh n 0
    rw [hw]
    exact World.ownsRow_nil _ _ _ _

end Go.Proofs.Ytbccnfbombgdmaa

