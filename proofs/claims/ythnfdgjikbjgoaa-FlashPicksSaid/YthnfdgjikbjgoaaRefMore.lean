/- The document's own device: Flush, On, Read, NewDev. -/
import Derived.Test.YthnfdgjikbjgoaaRefPut
import Derived.Deep.RegionLaw
set_option linter.unusedVariables false
set_option linter.unusedSimpArgs false
namespace Go.Proofs.Ythnfdgjikbjgoaa
open Go.RowKit Go.Deep

theorem info79 : (Try.prog.info? 79).map (fun i => (i.zero, i.size, i.bytes)) = some (some (.agg #[.int .i64 0, .string ⟨#[]⟩]), 2, 24) := by kernel_rfl
theorem info4 : (Try.prog.info? 4).map (fun i => (i.zero, i.size, i.bytes)) = some (some (.bool false), 1, 1) := by kernel_rfl

theorem makeBools (n : Nat) (hn : n ≤ 4096) (W : World) : (Instr.makeSlice 45 (.int .i64 n) (.int .i64 n)).run Try.prog W = .ok (.slice (some ⟨W.heap.size, 0, none⟩) n n) (W.alloc (.cells (List.replicate n (Value.bool false)).toArray 4)) := by
  have h := run_make_row' (P := Try.prog) 45 4 (.bool false) 1 Try.underlying45 info4 rfl .i64 .i64 n (by omega) (by omega) W
  have e : madeCells #[Value.bool false] n = (List.replicate n (Value.bool false)).toArray := by
    apply Array.ext'
    rw [toList_madeCells_one]
  rw [e] at h
  exact h

theorem rRow_fresh : ∀ n : Nat, rRow (List.replicate n Pg.blank) = (List.replicate n ()).flatMap (fun _ => [Value.int .i64 0, Value.string ⟨#[]⟩])
  | 0 => rfl
  | n + 1 => by
    rw [List.replicate_succ, rRow_cons, rRow_fresh n, List.replicate_succ]
    rfl
theorem makeRef (n : Nat) (hn : n ≤ 4096) (W : World) : (Instr.makeSlice 44 (.int .i64 n) (.int .i64 n)).run Try.prog W = .ok (.slice (some ⟨W.heap.size, 0, none⟩) n n) (W.alloc (.cells (rRow (List.replicate n Pg.blank)).toArray 79)) := by
  obtain ⟨i0, hi0, hp0⟩ := Option.map_eq_some_iff.1 info79
  simp only [Prod.mk.injEq] at hp0
  obtain ⟨hz0, hz1, hz2⟩ := hp0
  have h := run_make (P := Try.prog) W 44 79 i0 _ Try.underlying44 hi0 hz0 .i64 .i64 (n : Int) (n : Int) (by omega) (by omega) (by rw [hz2]; omega) (by omega)
  rw [h]
  simp only [Int.toNat_natCast, hz1]
  congr 3
  apply Array.ext'
  rw [rRow_fresh]
  exact made_two _ _ n

theorem rRow_one (l : List Pg) : ∀ v ∈ rRow l, v.oneCell' = true := by
  intro v hv
  obtain ⟨x, _, hx⟩ := List.mem_flatMap.1 hv
  simp only [rpg, List.mem_cons, List.not_mem_nil, or_false] at hx
  rcases hx with rfl | rfl <;> rfl

theorem nows_flush (cs : List Cl) : nows (cs.map Cl.flush) = nows cs := by simp [nows, Cl.flush]
theorem lasts_flush (cs : List Cl) : lasts (cs.map Cl.flush) = nows cs := by simp [nows, lasts, Cl.flush]
theorem wRow_flush (cs : List Cl) : wRow (cs.map Cl.flush) = List.replicate cs.length (.bool false) := by
  induction cs with
  | nil => rfl
  | cons c r ih => simp only [wRow, List.map_cons, List.length_cons, List.replicate_succ] at *; rw [ih]; rfl
theorem lasts_length (A : List Cl) : (lasts A).length = A.length := by simp [lasts]
theorem nows_settle0 : ∀ cs : List Cl, nows (settle cs []) = lasts cs
  | [] => rfl
  | c :: r => by
    have ih := nows_settle0 r
    cases h : c.last with
    | none => simp only [settle, h, nows, lasts, List.map_cons] at *; rw [ih]; simp [h]
    | some l => simp only [settle, h, nows, lasts, List.map_cons, List.tail_nil] at *; rw [ih]; simp [h, pick]
theorem lasts_settle : ∀ (cs : List Cl) (ps : List UInt8), lasts (settle cs ps) = nows (settle cs ps)
  | [], _ => rfl
  | c :: r, ps => by
    cases h : c.last with
    | none =>
      have ih := lasts_settle r ps
      simp only [settle, h, nows, lasts, List.map_cons] at *; rw [ih]; rfl
    | some l =>
      have ih := lasts_settle r ps.tail
      simp only [settle, h, nows, lasts, List.map_cons] at *; rw [ih]; rfl
theorem wRow_settle : ∀ (cs : List Cl) (ps : List UInt8), wRow (settle cs ps) = List.replicate cs.length (.bool false)
  | [], _ => rfl
  | c :: r, ps => by
    cases h : c.last with
    | none =>
      have ih := wRow_settle r ps
      simp only [settle, h, wRow, List.map_cons, List.length_cons, List.replicate_succ] at *; rw [ih]; rfl
    | some l =>
      have ih := wRow_settle r ps.tail
      simp only [settle, h, wRow, List.map_cons, List.length_cons, List.replicate_succ] at *; rw [ih]; rfl

/-- One row is copied over the other. -/
theorem copyRow {w : World} {x y n cx cy : Nat} {a b : List Pg} {px py : List Value} (hx : Blk w x (rRow a ++ px) 79) (hy : Blk w y (rRow b ++ py) 79) (ha : a.length = n) (hb : b.length = n) (ty : TypeId) :
    (Builtin.copy_ #[44, 44] ty #[.slice (some ⟨x, 0, none⟩) n cx, .slice (some ⟨y, 0, none⟩) n cy]).run Try.prog w = .ok (goInt n) (w.setCells x 0 (rRow b)) := by
  obtain ⟨i0, hi0, hp0⟩ := Option.map_eq_some_iff.1 info79
  simp only [Prod.mk.injEq] at hp0
  have hsz : (Try.prog.info? 79).map (·.size) = some 2 := by rw [hi0]; simp [hp0.2.1]
  have hmn : Nat.min n n = n := Nat.min_self n
  have h := run_copy_cellsK w 44 44 ty 79 x 0 n cx ⟨y, 0, none⟩ n cy 2 (rRow b) Try.underlying44 hsz (by decide) (by rw [rRow_length, hb, hmn])
    (fun j v hj => by rw [Addr.add_lit, Nat.zero_add]; exact hy.cell (by rw [List.getElem?_append_left (List.getElem?_eq_some_iff.1 hj).1]; exact hj))
    (fun j hj => by
      have : 0 + j < (rRow a ++ px).length := by rw [rRow_length] at hj; rw [List.length_append, rRow_length]; omega
      rw [hx.cell (List.getElem?_eq_getElem this)]; rfl)
    (fun j hj => hx.frozen _) (rRow_one b)
  rw [hmn] at h
  exact h

/-- Behind such a copy, a new row of marks, and stores into its own block. -/
theorem copied {w w1 W : World} {x : Nat} {a b : List Pg} {px : List Value} (hx : Blk w x (rRow a ++ px) 79) (hl : a.length = b.length) : Blk (w.setCells x 0 (rRow b)) x (rRow b ++ px) 79 := by
  have h := Blk.sets (rRow b) [] (rRow a) px w (by rw [rRow_length, rRow_length, hl]) (by simpa using hx)
  simpa using h

/-- Behind a copy of a row, with new marks. -/
theorem ref_end {w1 Wf : World} {r : Nat} {L : RLoc} {S1 S' : Dv} (h1 : RfIn w1 r L S1) (hN : Blk Wf w1.heap.size (wRow S'.cs) 4) (hd : Blk Wf r (rCells { L with waits := w1.heap.size, pw := [] } S') 48)
    (hl : Blk Wf L.last (rRow (lasts S'.cs) ++ L.pl) 79) (hn : Blk Wf L.now (rRow (nows S'.cs) ++ L.pn) 79) (hg : S'.good) (hk : Keep (rfoot r L) w1 Wf) :
    RfIn Wf r { L with waits := w1.heap.size, pw := [] } S' ∧ Moves (rfoot r L) (rfoot r { L with waits := w1.heap.size, pw := [] }) w1 Wf := by
  obtain ⟨n1, n2, n3, n4, n5, n6⟩ := h1.ne
  have l1 := h1.dev.lt
  have l2 := h1.last.lt
  have l3 := h1.now.lt
  refine ⟨⟨hd, hl, hn, by rw [List.append_nil]; exact hN, ?_, hg⟩, hk, fun k hk' => ?_⟩
  · simp only [List.nodup_cons, List.mem_cons, List.not_mem_nil, or_false, not_or, not_false_eq_true, List.nodup_nil, and_true]
    exact ⟨⟨n1, n2, by omega⟩, ⟨n4, by omega⟩, by omega⟩
  · simp only [rfoot, List.mem_cons, List.not_mem_nil, or_false] at hk'
    rcases hk' with rfl | rfl | rfl | rfl
    · exact .inl (by simp [rfoot])
    · exact .inl (by simp [rfoot])
    · exact .inl (by simp [rfoot])
    · exact .inr (Nat.le_refl _)

set_option maxHeartbeats 1000000 in
theorem rflush_at (r : Nat) (G : List Nat) (S : Dv) (w : World) (h : RfAt w r G S) :
    Calls Try.prog 33 #[.pointer (some ⟨r, 0, none⟩)] w fun e w' => e = .returned (.int .i64 S.flushErr) ∧ ∃ G', RfAt w' r G' S.flushDo ∧ Moves G G' w w' := by
  obtain ⟨L, rfl, h⟩ := h
  have cg := hide (rgone_any r L S w h)
  have HG := hide h.good
  clear h
  cases hg : S.gone with
  | true =>
    rw [hg] at cg
    have E1 : Hid (S.flushErr = 4) := by simp [Hid, Dv.flushErr, hg]
    have E2 : Hid (S.flushDo = S.used) := by simp [Hid, Dv.flushDo, hg]
    clear hg
    go_enter Try.func33, Try.ntmps33
    go_wp2_with (go_at_call 44; refine cg.out.mono ?_; rintro e w' ⟨rfl, h1, k1⟩)
    go_ret
    exact ⟨by rw [E1.out]; rfl, rfoot r L, ⟨L, rfl, by rw [E2.out]; exact h1⟩, Moves.of_keep k1.to_rfoot⟩
  | false =>
    rw [hg] at cg
    have E1 : Hid (S.flushErr = 0) := by simp [Hid, Dv.flushErr, hg]
    have E2 : Hid (S.flushDo = { S.used with cs := S.cs.map Cl.flush, fl := wrap64 (S.fl + 1) }) := by simp [Hid, Dv.flushDo, hg]
    have hfl : S.used.fl = S.fl := by unfold Dv.used; split <;> (try split) <;> rfl
    have HFL := hide hfl
    obtain ⟨n, hn⟩ : ∃ n, n = S.cs.length := ⟨_, rfl⟩
    have HN := hide hn
    have hnl : n ≤ 4096 := by rw [hn]; exact HG.out.many
    clear hg hfl hn
    go_enter Try.func33, Try.ntmps33
    go_wp2_with fail
    refine cg.out.mono ?_
    rintro e w1 ⟨rfl, h1, k1⟩
    obtain ⟨n1, n2, n3, n4, n5, n6⟩ := h1.ne
    have d0 := h1.dev.cell (i := 0) rfl
    have d1 := h1.dev.cell (i := 1) rfl
    have d2 := h1.dev.cell (i := 2) rfl
    have d7 := h1.dev.cell (i := 7) rfl
    have e2 := h1.dev.frozen 2
    have e7 := h1.dev.frozen 7
    rw [S.used_cs, ← HN.out] at d0 d1 d2
    rw [HFL.out] at d7
    have hla : (lasts S.used.cs).length = n := by rw [lasts_length, S.used_cs, HN.out]
    have hna : (nows S.used.cs).length = n := by rw [nows_length, S.used_cs, HN.out]
    obtain ⟨W1, hW1⟩ : ∃ W1, W1 = w1.drew.setCells L.last 0 (rRow (nows S.used.cs)) := ⟨_, rfl⟩
    have hcp : ∀ ty cx cy, (Builtin.copy_ #[44, 44] ty #[.slice (some ⟨L.last, 0, none⟩) n cx, .slice (some ⟨L.now, 0, none⟩) n cy]).run Try.prog w1.drew = .ok (goInt n) W1 := fun ty cx cy => by
      rw [hW1]; exact copyRow (w := w1.drew) h1.last h1.now hla hna ty
    have keepW : ∀ k, k ≠ L.last → W1.heap[k]? = w1.heap[k]? := fun k hk => by rw [hW1]; exact heap_setCells_other _ _ _ _ _ hk
    have hWs : W1.heap.size = w1.heap.size := by rw [hW1]; exact size_setCells _ _ _ _
    have b1 := h1.dev.same (keepW r n1)
    have dd1 := b1.cell (i := 1) rfl
    have dd2 := b1.cell (i := 2) rfl
    have dd7 := b1.cell (i := 7) rfl
    have ee2 := b1.frozen 2
    have ee7 := b1.frozen 7
    rw [S.used_cs, ← HN.out] at dd1 dd2
    rw [HFL.out] at dd7
    have hrW : r < W1.heap.size := b1.lt
    have hmk := makeBools n hnl
    generalize hZ : (List.replicate n (Value.bool false)).toArray = Z at hmk
    have HZ := hide hZ
    have HCP := hide hcp
    have H1 := hide h1
    have K1 := hide k1
    have HW1 := hide hW1
    have KW := hide keepW
    have HWS := hide hWs
    clear hZ hcp h1 k1 hW1 keepW hWs b1 hla hna
    go_wp2
    go_region_law (refine step_copy_runI rfl _ _ 44 44 rfl (.slice (some ⟨L.last, 0, none⟩) n (n + L.pl.length / 2)) (.slice (some ⟨L.now, 0, none⟩) n (n + L.pn.length / 2)) (by simp [Act.eval, Act.put]) (by simp [Act.eval, Act.put]) (HCP.out _ _ _) ?_)
    all_goals go_wp2
    all_goals go_region
    all_goals go_wp2
    all_goals (
      go_ret
      obtain ⟨n1, n2, n3, n4, n5, n6⟩ := H1.out.ne
      have hcs := S.used_cs
      have E2' := E2.out
      obtain ⟨Wf, hWf⟩ : ∃ Wf, Wf = (((W1.setCell ⟨r, 2, none⟩ (.slice (some ⟨W1.heap.size, 0, none⟩) n n)).setCell ⟨r, 7, none⟩ (.int .i64 (wrap64 (S.fl + 1)))).alloc (.cells Z 4)).drew := ⟨_, rfl⟩
      rw [← hWf]
      have KW1 : Keep (rfoot r L) w1 W1 := by rw [HW1.out]; exact ((Keep.refl _ _).drew).setCells (.inl (by simp [rfoot])) _ _
      have KWf : Keep (rfoot r L) w1 Wf := by
        rw [hWf]; exact (((KW1.setCell (.inl (by simp [rfoot])) _).setCell (.inl (by simp [rfoot])) _).alloc _).drew
      have hcl : (S.cs.map Cl.flush).length = n := by rw [List.length_map, HN.out]
      have R := ref_end (S' := S.flushDo) (Wf := Wf) H1.out ?_ ?_ ?_ ?_ (Dv.flushDo_good HG.out) KWf
      · exact ⟨by rw [E1.out]; rfl, _, ⟨_, rfl, R.1⟩, (Moves.of_keep K1.out.to_rfoot).trans R.2⟩
      · rw [E2']
        show Blk Wf w1.heap.size (wRow (S.cs.map Cl.flush)) 4
        rw [wRow_flush, ← HN.out]
        unfold Blk
        rw [HZ.out, ← HWS.out, hWf]
        have := blk_alloc_new ((W1.setCell ⟨r, 2, none⟩ (.slice (some ⟨W1.heap.size, 0, none⟩) n n)).setCell ⟨r, 7, none⟩ (.int .i64 (wrap64 (S.fl + 1)))) (.cells Z 4)
        rw [nblk_setCell, nblk_setCell] at this
        exact this
      · have b := (((H1.out.dev.same (KW.out r n1)).set 2 (.slice (some ⟨W1.heap.size, 0, none⟩) n n)).set 7 (.int .i64 (wrap64 (S.fl + 1)))).alloc (.cells Z 4)
        rw [E2']
        have e : rCells { L with waits := w1.heap.size, pw := [] } { S.used with cs := S.cs.map Cl.flush, fl := wrap64 (S.fl + 1) } = ((rCells L S.used).set 2 (.slice (some ⟨W1.heap.size, 0, none⟩) n n)).set 7 (.int .i64 (wrap64 (S.fl + 1))) := by
          simp only [rCells, hcl, hcs, ← HN.out, HWS.out]; rfl
        rw [e, hWf]
        exact b
      · rw [E2']
        show Blk Wf L.last (rRow (lasts (S.cs.map Cl.flush)) ++ L.pl) 79
        rw [lasts_flush, ← hcs]
        have b := copied (w := w1.drew) (w1 := w1) (W := w1) (b := nows S.used.cs) H1.out.last (by rw [lasts_length, nows_length])
        rw [← HW1.out] at b
        rw [hWf]
        exact ((b.other (a := ⟨r, 2, none⟩) (Ne.symm n1) _).other (a := ⟨r, 7, none⟩) (Ne.symm n1) _).alloc _
      · rw [E2']
        show Blk Wf L.now (rRow (nows (S.cs.map Cl.flush)) ++ L.pn) 79
        rw [nows_flush, ← hcs]
        have b := H1.out.now.same (KW.out L.now (Ne.symm n4))
        rw [hWf]
        exact ((b.other (a := ⟨r, 2, none⟩) (Ne.symm n2) _).other (a := ⟨r, 7, none⟩) (Ne.symm n2) _).alloc _)

set_option maxHeartbeats 1000000 in
theorem ron_at (r : Nat) (G : List Nat) (S : Dv) (w : World) (h : RfAt w r G S) :
    Calls Try.prog 36 #[.pointer (some ⟨r, 0, none⟩)] w fun e w' => e = .returned (.tuple #[]) ∧ ∃ G', RfAt w' r G' S.on ∧ Moves G G' w w' := by
  obtain ⟨L, rfl, h1⟩ := h
  have HG := hide h1.good
  obtain ⟨n, hn⟩ : ∃ n, n = S.cs.length := ⟨_, rfl⟩
  have HN := hide hn
  have hnl : n ≤ 4096 := by rw [hn]; exact h1.good.many
  clear hn
  obtain ⟨n1, n2, n3, n4, n5, n6⟩ := h1.ne
  have d0 := h1.dev.cell (i := 0) rfl
  have d1 := h1.dev.cell (i := 1) rfl
  rw [← HN.out] at d0 d1
  have hla : (lasts S.cs).length = n := by rw [lasts_length, HN.out]
  have hna : (nows S.cs).length = n := by rw [nows_length, HN.out]
  obtain ⟨W1, hW1⟩ : ∃ W1, W1 = w.drew.setCells L.now 0 (rRow (lasts S.cs)) := ⟨_, rfl⟩
  have hcp : ∀ ty cx cy, (Builtin.copy_ #[44, 44] ty #[.slice (some ⟨L.now, 0, none⟩) n cx, .slice (some ⟨L.last, 0, none⟩) n cy]).run Try.prog w.drew = .ok (goInt n) W1 := fun ty cx cy => by
    rw [hW1]; exact copyRow (w := w.drew) h1.now h1.last hna hla ty
  have keepW : ∀ k, k ≠ L.now → W1.heap[k]? = w.heap[k]? := fun k hk => by rw [hW1]; exact heap_setCells_other _ _ _ _ _ hk
  have hWs : W1.heap.size = w.heap.size := by rw [hW1]; exact size_setCells _ _ _ _
  have b1 := h1.dev.same (keepW r n2)
  have dd1 := b1.cell (i := 1) rfl
  have dd2 := b1.cell (i := 2) rfl
  have dd3 := b1.cell (i := 3) rfl
  have dd4 := b1.cell (i := 4) rfl
  have dd5 := b1.cell (i := 5) rfl
  have ee2 := b1.frozen 2
  have ee3 := b1.frozen 3
  have ee4 := b1.frozen 4
  have ee5 := b1.frozen 5
  rw [← HN.out] at dd1 dd2
  have hrW : r < W1.heap.size := b1.lt
  have hmk := makeBools n hnl
  generalize hZ : (List.replicate n (Value.bool false)).toArray = Z at hmk
  have HZ := hide hZ
  have HCP := hide hcp
  have H1 := hide h1
  have HW1 := hide hW1
  have KW := hide keepW
  have HWS := hide hWs
  clear hZ hcp h1 hW1 keepW hWs b1 hla hna n1 n2 n3 n4 n5 n6
  go_enter Try.func36, Try.ntmps36
  go_wp2
  go_region_law (refine step_copy_runI rfl _ _ 44 44 rfl (.slice (some ⟨L.now, 0, none⟩) n (n + L.pn.length / 2)) (.slice (some ⟨L.last, 0, none⟩) n (n + L.pl.length / 2)) (by simp [Act.eval, Act.put]) (by simp [Act.eval, Act.put]) (HCP.out _ _ _) ?_)
  all_goals go_wp2
  all_goals (
    go_end0
    obtain ⟨n1, n2, n3, n4, n5, n6⟩ := H1.out.ne
    obtain ⟨Wf, hWf⟩ : ∃ Wf, Wf = ((((W1.setCell ⟨r, 2, none⟩ (.slice (some ⟨W1.heap.size, 0, none⟩) n n)).setCell ⟨r, 3, none⟩ (.bool false)).setCell ⟨r, 4, none⟩ (.int .i64 0)).setCell ⟨r, 5, none⟩ (.int .i64 (wrap64 (S.losses + 1)))).alloc (.cells Z 4) := ⟨_, rfl⟩
    rw [← hWf]
    have KW1 : Keep (rfoot r L) w W1 := by rw [HW1.out]; exact ((Keep.refl _ _).drew).setCells (.inl (by simp [rfoot])) _ _
    have KWf : Keep (rfoot r L) w Wf := by
      rw [hWf]; exact ((((KW1.setCell (.inl (by simp [rfoot])) _).setCell (.inl (by simp [rfoot])) _).setCell (.inl (by simp [rfoot])) _).setCell (.inl (by simp [rfoot])) _).alloc _
    have hcl : (settle S.cs []).length = n := by rw [settle_length, HN.out]
    have R := ref_end (S' := S.on) (Wf := Wf) H1.out ?_ ?_ ?_ ?_ (Dv.on_good HG.out) KWf
    · exact ⟨rfl, _, ⟨_, rfl, R.1⟩, R.2⟩
    · show Blk Wf w.heap.size (wRow (settle S.cs [])) 4
      rw [wRow_settle, ← HN.out]
      unfold Blk
      rw [HZ.out, ← HWS.out, hWf]
      have := blk_alloc_new ((((W1.setCell ⟨r, 2, none⟩ (.slice (some ⟨W1.heap.size, 0, none⟩) n n)).setCell ⟨r, 3, none⟩ (.bool false)).setCell ⟨r, 4, none⟩ (.int .i64 0)).setCell ⟨r, 5, none⟩ (.int .i64 (wrap64 (S.losses + 1)))) (.cells Z 4)
      rw [nblk_setCell, nblk_setCell, nblk_setCell, nblk_setCell] at this
      exact this
    · have b := (((((H1.out.dev.same (KW.out r n2)).set 2 (.slice (some ⟨W1.heap.size, 0, none⟩) n n)).set 3 (.bool false)).set 4 (.int .i64 0)).set 5 (.int .i64 (wrap64 (S.losses + 1)))).alloc (.cells Z 4)
      have e : rCells { L with waits := w.heap.size, pw := [] } S.on = ((((rCells L S).set 2 (.slice (some ⟨W1.heap.size, 0, none⟩) n n)).set 3 (.bool false)).set 4 (.int .i64 0)).set 5 (.int .i64 (wrap64 (S.losses + 1))) := by
        simp only [rCells, Dv.on, hcl, ← HN.out, HWS.out]; rfl
      rw [e, hWf]
      exact b
    · show Blk Wf L.last (rRow (lasts (settle S.cs [])) ++ L.pl) 79
      rw [lasts_settle, nows_settle0]
      have b := H1.out.last.same (KW.out L.last n4)
      rw [hWf]
      exact ((((b.other (a := ⟨r, 2, none⟩) (Ne.symm n1) _).other (a := ⟨r, 3, none⟩) (Ne.symm n1) _).other (a := ⟨r, 4, none⟩) (Ne.symm n1) _).other (a := ⟨r, 5, none⟩) (Ne.symm n1) _).alloc _
    · show Blk Wf L.now (rRow (nows (settle S.cs [])) ++ L.pn) 79
      rw [nows_settle0]
      have b := copied (w := w.drew) (w1 := w) (W := w) (b := lasts S.cs) H1.out.now (by rw [lasts_length, nows_length])
      rw [← HW1.out] at b
      rw [hWf]
      exact ((((b.other (a := ⟨r, 2, none⟩) (Ne.symm n2) _).other (a := ⟨r, 3, none⟩) (Ne.symm n2) _).other (a := ⟨r, 4, none⟩) (Ne.symm n2) _).other (a := ⟨r, 5, none⟩) (Ne.symm n2) _).alloc _)

set_option maxHeartbeats 1000000 in
theorem rread_at (r : Nat) (G : List Nat) (S : Dv) (at0 : Int) (w : World) (h : RfAt w r G S) :
    Calls Try.prog 37 #[.pointer (some ⟨r, 0, none⟩), .int .i64 at0] w fun e w' => e = .returned (.tuple #[.string (S.readText at0), .int .i64 (S.readErr at0)]) ∧ RfAt w' r G (S.readDo at0) ∧ Keep G w w' := by
  obtain ⟨L, rfl, h⟩ := h
  have c1 := h.dev.cell (i := 1) rfl
  cases hh : S.has at0 with
  | false =>
    have E1 : Hid (S.readErr at0 = 1) := by simp [Hid, Dv.readErr, hh]
    have E2 : Hid (S.readText at0 = ⟨#[]⟩) := by simp [Hid, Dv.readText, hh]
    have E3 : Hid (S.readDo at0 = S) := by simp [Hid, Dv.readDo, hh]
    have H := hide h
    by_cases h0 : at0 < 0
    · clear h hh
      go_enter Try.func37, Try.ntmps37
      go_wp2
      go_ret2
      exact ⟨by rw [E1.out, E2.out]; rfl, ⟨L, rfl, by rw [E3.out]; exact H.out⟩, Keep.refl _ _⟩
    · have h1 : (S.cs.length : Int) ≤ at0 := by simp [Dv.has] at hh; omega
      clear h hh
      go_enter Try.func37, Try.ntmps37
      go_wp2
      go_ret2
      exact ⟨by rw [E1.out, E2.out]; rfl, ⟨L, rfl, by rw [E3.out]; exact H.out⟩, Keep.refl _ _⟩
  | true =>
    obtain ⟨A, c, B, hcs, hat⟩ := Dv.has_part hh
    have h0 : ¬ at0 < 0 := by omega
    have h1 : ¬ (S.cs.length : Int) ≤ at0 := by rw [hcs, hat]; simp; omega
    have c3 := h.dev.cell (i := 3) rfl
    cases ho : S.off with
    | true =>
      rw [ho] at c3
      have E1 : Hid (S.readErr at0 = 4) := by simp [Hid, Dv.readErr, hh, ho]
      have E2 : Hid (S.readText at0 = ⟨#[]⟩) := by simp [Hid, Dv.readText, hh, ho]
      have E3 : Hid (S.readDo at0 = S) := by simp [Hid, Dv.readDo, hh, ho]
      have H := hide h
      clear h hh ho hcs hat
      go_enter Try.func37, Try.ntmps37
      go_wp2
      go_ret2
      exact ⟨by rw [E1.out, E2.out]; rfl, ⟨L, rfl, by rw [E3.out]; exact H.out⟩, Keep.refl _ _⟩
    | false =>
      rw [ho] at c3
      have hget : S.cs[at0.toNat]? = some c := by rw [hcs, hat]; simp
      have E1 : Hid (S.readErr at0 = c.now.err) := by simp [Hid, Dv.readErr, hh, ho, hget]
      have E2 : Hid (S.readText at0 = c.now.read) := by simp [Hid, Dv.readText, hh, ho, hget]
      have E3 : Hid (S.readDo at0 = { S with rd := wrap64 (S.rd + 1) }) := by simp [Hid, Dv.readDo, hh, ho]
      have hlt : (A.length : Int) < (S.cs.length : Int) := by rw [hcs]; simp; omega
      have c8 := h.dev.cell (i := 8) rfl
      have f8 := h.dev.frozen 8
      have rn := h.now
      rw [hcs, nows_part] at rn
      have r0 := rn.cell (i := (nows A).length * 2 + 0) (v := .int .i64 c.now.kind) (flat_getP rpg 2 (fun _ => rfl) (nows A) c.now (nows B) L.pn 0 (by decide))
      have r1 := rn.cell (i := (nows A).length * 2 + 1) (v := .string c.now.read) (flat_getP rpg 2 (fun _ => rfl) (nows A) c.now (nows B) L.pn 1 (by decide))
      rw [nows_length, Nat.add_zero] at r0
      rw [nows_length] at r1
      obtain ⟨n1, n2, n3, n4, n5, n6⟩ := h.ne
      have m2 := Ne.symm n2
      have K : Keep [r] w (w.setCell ⟨r, 8, none⟩ (.int .i64 (wrap64 (S.rd + 1)))) := (Keep.refl [r] w).setCell (.inl (by simp)) _
      have D : RfIn (w.setCell ⟨r, 8, none⟩ (.int .i64 (wrap64 (S.rd + 1)))) r L { S with rd := wrap64 (S.rd + 1) } := h.turn K (h.dev.set 8 _) rfl ⟨h.good.many, h.good.armed, h.good.fits⟩
      have HK := hide K
      have HD := hide D
      subst hat
      clear h hh ho hget hcs K D rn n1 n3 n4 n5 n6
      obtain ⟨now, last⟩ := c
      simp only at r0 r1 E1 E2
      cases now using Pg.elim3 with
      | blank =>
        simp only [Pg.kind, Pg.read] at r0 r1
        go_enter Try.func37, Try.ntmps37
        go_wp2
        go_region
        all_goals go_wp2
        all_goals (go_ret2; exact ⟨by rw [E1.out, E2.out]; rfl, ⟨L, rfl, by rw [E3.out]; exact HD.out.same (fun _ _ => rfl)⟩, HK.out.to_rfoot.drew⟩)
      | torn =>
        simp only [Pg.kind, Pg.read] at r0 r1
        go_enter Try.func37, Try.ntmps37
        go_wp2
        go_region
        all_goals go_wp2
        all_goals (go_ret2; exact ⟨by rw [E1.out, E2.out]; rfl, ⟨L, rfl, by rw [E3.out]; exact HD.out.same (fun _ _ => rfl)⟩, HK.out.to_rfoot.drew⟩)
      | whole b =>
        simp only [Pg.kind, Pg.read] at r0 r1
        have E2' : Hid (S.readText ↑A.length = full b) := E2.out
        clear E2
        generalize full b = fb at r1 E2'
        go_enter Try.func37, Try.ntmps37
        go_wp2
        go_region
        all_goals go_wp2
        all_goals (go_ret2; exact ⟨by rw [E1.out, E2'.out]; rfl, ⟨L, rfl, by rw [E3.out]; exact HD.out.same (fun _ _ => rfl)⟩, HK.out.to_rfoot.drew⟩)
end Go.Proofs.Ythnfdgjikbjgoaa
