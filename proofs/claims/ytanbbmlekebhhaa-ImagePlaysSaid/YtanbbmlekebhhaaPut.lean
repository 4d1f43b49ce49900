/- A page is held, and written. -/
import Derived.Test.YtanbbmlekebhhaaRMem
import Derived.Test.YtanbbmlekebhhaaDevA
import Derived.Deep.RegionWith
set_option linter.unusedVariables false
set_option linter.unusedSimpArgs false
set_option maxRecDepth 8000
namespace Go.Proofs.Ytanbbmlekebhhaa
open Go.RowKit Go.Deep

theorem wl_at (A : List Cl) (c : Cl) (B : List Cl) : wl 0 (A ++ c :: B) = wl 0 A ++ (match c.last with | none => [] | some l => [(A.length, l)]) ++ wl (A.length + 1) B := by
  rw [wl_append, Nat.zero_add]
  simp only [wl]
  split <;> simp_all

theorem headIs_ge (B : List Cl) (i at0 : Nat) (h : at0 < i) : headIs (wl i B) at0 = false := by
  have := wl_lt B i
  cases hw : wl i B with
  | nil => rfl
  | cons x r =>
    rw [hw] at this
    have := (this x (by simp)).1
    simp [headIs]
    omega

theorem pgRow_append (A B : List Cl) : pgRow (A ++ B) = pgRow A ++ pgRow B := by simp [pgRow]
theorem pgRow_cons (c : Cl) (B : List Cl) : pgRow (c :: B) = pgCells c.now ++ pgRow B := by simp [pgRow]
theorem pgRow_length (A : List Cl) : (pgRow A).length = A.length * 2 := flat_length (fun c : Cl => pgCells c.now) 2 (fun _ => rfl) A

theorem own_below {w w' : World} {wa : Option Addr} {n wc : Nat} {xs : List Value} (h : w.ownsRow 0 106 3 (.slice wa n wc) n xs) (hB : ∀ a, wa = some a → w'.heap[a.block]? = w.heap[a.block]?) : w'.ownsRow 0 106 3 (.slice wa n wc) n xs := by
  obtain ⟨h1, h2⟩ := h
  refine ⟨h1, ?_⟩
  rcases h2 with h2 | ⟨g, cap, cur, hv, hg0, hh, r⟩
  · exact .inl h2
  · simp only [Value.slice.injEq] at hv
    refine .inr ⟨g, cap, cur, by simp [hv], hg0, ?_, r⟩
    rw [hB _ hv.1]
    exact hh

theorem hold_end {w w' w2 : World} {d p : Nat} {pd : List Value} {wa : Option Addr} {wc : Nat} {S : Dv} {A : List Cl} {c : Cl} {B : List Cl} {n g c' : Nat} {O : Obj} (H : DvIn w d p pd wa wc S) (hcs : S.cs = A ++ c :: B) (hl : c.last = none) (hn : n = (wl 0 S.cs).length)
    (hbw : Below w.heap.size w w') (hk2 : Keep (wa.map (·.block)).toList (w'.alloc O).drew w2)
    (hown2 : w2.ownsRow 0 106 3 (.slice (some ⟨g, 0, none⟩) (n + 1) c') (n + 1) (wtRow (wl 0 A ++ (A.length, c.now) :: wl (A.length + 1) B))) (hg2 : wa.map (·.block) = some g ∨ (w'.alloc O).drew.heap.size ≤ g) :
    DvIn (w2.setCell ⟨d, 1, none⟩ (.slice (some ⟨g, 0, none⟩) (n + 1) c')) d p pd (some ⟨g, 0, none⟩) c' { S with cs := A ++ c.put c.now :: B } ∧
      Moves (foot d p wa) (foot d p (some ⟨g, 0, none⟩)) w (w2.setCell ⟨d, 1, none⟩ (.slice (some ⟨g, 0, none⟩) (n + 1) c')) := by
  have hdw := H.dev.lt
  have hpw := H.row.lt
  have hsz := hbw.size
  have hV : (w'.alloc O).drew.heap.size = w'.heap.size + 1 := nblk_alloc w' O
  have hgn : g ≠ d ∧ g ≠ p := by
    rcases hg2 with h | h
    · cases wa with
      | none => simp at h
      | some a =>
        simp at h
        have := H.dq a rfl
        rw [h] at this
        exact this
    · rw [hV] at h
      omega
  have same : ∀ k, k < w.heap.size → (∀ a, wa = some a → a.block ≠ k) → w2.heap[k]? = w.heap[k]? := fun k hk hne => by
    rw [hk2.block k (by rw [hV]; omega) (by cases wa with | none => simp | some a => simpa using Ne.symm (hne a rfl))]
    rw [← hbw.block k hk]
    exact blk_alloc_lt w' O k (by omega)
  have K0 : Keep (foot d p wa) w w2 := ((((Keep.of_below hbw).alloc O).drew).trans hk2 (fun x hx => .inl (by simp [foot]; cases wa <;> simp_all)))
  have K : Keep (foot d p wa) w (w2.setCell ⟨d, 1, none⟩ (.slice (some ⟨g, 0, none⟩) (n + 1) c')) := K0.setCell (.inl (by simp [foot])) _
  have hwl : wl 0 (A ++ c.put c.now :: B) = wl 0 A ++ (A.length, c.now) :: wl (A.length + 1) B := by rw [wl_at]; simp [Cl.put, hl]
  have hlen : (wl 0 (A ++ c.put c.now :: B)).length = n + 1 := by
    rw [hwl, hn, hcs, wl_at, hl]; simp; omega
  have hcl : (A ++ c.put c.now :: B).length = S.cs.length := by rw [hcs]; simp
  refine ⟨⟨?_, ?_, ?_, H.dp, fun a ha => by cases ha; exact hgn, ?_⟩, K, ?_⟩
  · have b := (H.dev.same (same d hdw (fun a ha => (H.dq a ha).1))).set 1 (.slice (some ⟨g, 0, none⟩) (n + 1) c')
    have e : dvCells p pd (some ⟨g, 0, none⟩) (wl 0 (A ++ c.put c.now :: B)).length c' { S with cs := A ++ c.put c.now :: B } = (dvCells p pd wa (wl 0 S.cs).length wc S).set 1 (.slice (some ⟨g, 0, none⟩) (n + 1) c') := by
      rw [hlen]
      simp only [dvCells, hcl]
      rfl
    rw [e]
    exact b
  · have b := (H.row.same (same p hpw (fun a ha => (H.dq a ha).2))).other (a := ⟨d, 1, none⟩) (Ne.symm H.dp) (.slice (some ⟨g, 0, none⟩) (n + 1) c')
    rw [hcs] at b
    have e : pgRow (A ++ c.put c.now :: B) = pgRow (A ++ c :: B) := by rw [pgRow_append, pgRow_append, pgRow_cons, pgRow_cons]; rfl
    rw [e]
    exact b
  · show World.ownsRow _ 0 106 3 (.slice _ (wl 0 (A ++ c.put c.now :: B)).length _) (wl 0 (A ++ c.put c.now :: B)).length (wtRow (wl 0 (A ++ c.put c.now :: B)))
    rw [hlen, hwl]
    exact own_below hown2 (fun a ha => by cases ha; exact blk_setCell_other _ _ _ _ hgn.1)
  · have hc := H.good.fits c (by rw [hcs]; simp)
    have hf := putAt_fits (p := c.now) hc.1 S.cs A.length H.good.fits
    rw [hcs, putAt_part] at hf
    exact ⟨by show (A ++ c.put c.now :: B).length ≤ _; rw [hcl]; exact H.good.many, H.good.armed, hf⟩
  · intro k hk
    simp only [foot, List.mem_cons, Option.map_some, Option.toList_some, List.not_mem_nil, or_false] at hk
    rcases hk with rfl | rfl | rfl
    · exact .inl (by simp [foot])
    · exact .inl (by simp [foot])
    · rcases hg2 with h | h
      · exact .inl (by simp [foot, h])
      · exact .inr (by rw [hV] at h; omega)

set_option maxHeartbeats 1000000 in
theorem hold_any (d p : Nat) (pd : List Value) (wa : Option Addr) (wc : Nat) (S : Dv) (A : List Cl) (c : Cl) (B : List Cl) (hcs : S.cs = A ++ c :: B) (w : World) (h : DvIn w d p pd wa wc S) :
    Calls Try.prog 64 #[.pointer (some ⟨d, 0, none⟩), .int .i64 A.length] w fun e w' => e = .returned (.tuple #[]) ∧
      ∃ wa' wc', DvIn w' d p pd wa' wc' { S with cs := A ++ c.put c.now :: B } ∧ Moves (foot d p wa) (foot d p wa') w w' := by
  obtain ⟨n, hn⟩ : ∃ n, n = (wl 0 S.cs).length := ⟨_, rfl⟩
  have hnl : n ≤ 4096 := by rw [hn]; exact Nat.le_trans (wl_length _ _) h.good.many
  have hlen : S.cs.length = A.length + 1 + B.length := by rw [hcs]; simp; omega
  have c0 := h.dev.cell (i := 0) rfl
  have c1 := h.dev.cell (i := 1) rfl
  rw [← hn] at c1
  have hform := own_form h.own
  have hA : ∀ x ∈ wl 0 A, x.1 < A.length := fun x hx => by have := wl_lt A 0 x hx; omega
  have hBl : ∀ x ∈ wl (A.length + 1) B, A.length ≤ x.1 := fun x hx => by have := wl_lt B _ x hx; omega
  have hdw := h.dev.lt
  have hpw := h.row.lt
  cases hl : c.last with
  | some l =>
    have e0 : wl 0 S.cs = wl 0 A ++ ((A.length, l) :: wl (A.length + 1) B) := by rw [hcs, wl_at, hl]; simp
    have hcc : c.put c.now = c := by cases c; simp only at hl; simp [Cl.put, hl]
    have cs := search_any wa wc (match wa with | some a => a.block | none => 0) n (wl 0 A) ((A.length, l) :: wl (A.length + 1) B) A.length w (by rw [hn, e0]; simp) hnl
      (fun hpos => by
        rcases hform with ⟨_, h0, _⟩ | ⟨g, pad, rfl, hb, _⟩
        · omega
        · exact ⟨rfl, hb.lt⟩)
      (fun j v hj => by
        rcases hform with ⟨_, h0, _, hx⟩ | ⟨g, pad, rfl, hb, _⟩
        · rw [e0] at hx; rw [hx] at hj; simp at hj
        · rw [e0] at hb
          exact hb.cell (by rw [List.getElem?_append_left (List.getElem?_eq_some_iff.1 hj).1]; exact hj))
      hA (fun x hx => by
        rcases List.mem_cons.1 hx with rfl | hx
        · exact Nat.le_refl _
        · exact hBl x hx)
    rw [show headIs ((A.length, l) :: wl (A.length + 1) B) A.length = true by simp [headIs]] at cs
    generalize (wl 0 A).length = k at cs
    have CS := hide cs
    have H : Hid (DvIn w d p pd wa wc S) := h
    have HCS := hide hcs
    clear cs h hform hcs hn e0 hA hBl
    go_enter Try.func64, Try.ntmps64
    go_wp2_with (go_at_call 72; refine CS.out.mono ?_; rintro e w' ⟨rfl, hbw⟩)
    go_end0
    refine ⟨rfl, wa, wc, ?_, Moves.of_keep (Keep.of_below hbw)⟩
    rw [hcc, ← HCS.out]
    exact H.out.same (fun k hk => hbw.block k (H.out.lt k hk))
  | none =>
    have e0 : wl 0 S.cs = wl 0 A ++ wl (A.length + 1) B := by rw [hcs, wl_at, hl]; simp
    have cs := search_any wa wc (match wa with | some a => a.block | none => 0) n (wl 0 A) (wl (A.length + 1) B) A.length w (by rw [hn, e0]; simp) hnl
      (fun hpos => by
        rcases hform with ⟨_, h0, _⟩ | ⟨g, pad, rfl, hb, _⟩
        · omega
        · exact ⟨rfl, hb.lt⟩)
      (fun j v hj => by
        rcases hform with ⟨_, h0, _, hx⟩ | ⟨g, pad, rfl, hb, _⟩
        · rw [e0] at hx; rw [hx] at hj; simp at hj
        · rw [e0] at hb
          exact hb.cell (by rw [List.getElem?_append_left (List.getElem?_eq_some_iff.1 hj).1]; exact hj))
      hA hBl
    rw [headIs_ge _ _ _ (Nat.lt_succ_self _)] at cs
    have hrow0 := h.row.cell (i := A.length * 2 + 0) (v := .int .u8 c.now.kind) (by rw [hcs]; exact flat_getP (fun c : Cl => pgCells c.now) 2 (fun _ => rfl) A c B pd 0 (by decide))
    have hrow1 := h.row.cell (i := A.length * 2 + 1) (v := .string c.now.text) (by rw [hcs]; exact flat_getP (fun c : Cl => pgCells c.now) 2 (fun _ => rfl) A c B pd 1 (by decide))
    rw [Nat.add_zero] at hrow0
    have f1 := h.dev.frozen 1
    have hlt : (A.length : Int) < (S.cs.length : Int) := by omega
    -- what slices.Insert does, in any world that holds the rows
    have ins : ∀ (W : World) (vb : Nat), W.ownsRow 0 106 3 (.slice wa n wc) n (wtRow (wl 0 A ++ wl (A.length + 1) B)) → Blk W vb (wtCells (A.length, c.now)) 106 → (∀ a, wa = some a → a.block ≠ vb) → _ :=
      fun W vb h1 h2 h3 => insert_any wa wc n (wl 0 A) (wl (A.length + 1) B) (A.length, c.now) vb W (by rw [hn, e0]) hnl h1 h2 h3
    have INS := hide ins
    have CS := hide cs
    have H : Hid (DvIn w d p pd wa wc S) := h
    have HCS := hide hcs
    have HN := hide hn
    have E0 := hide e0
    clear cs ins h hform hcs hn hA hBl e0
    go_enter Try.func64, Try.ntmps64
    go_wp2_with (go_at_call 72; refine CS.out.mono ?_; rintro e w' ⟨rfl, hbw⟩)
    have hd' : d < w'.heap.size := Nat.lt_of_lt_of_le hdw hbw.size
    have hp' : p < w'.heap.size := Nat.lt_of_lt_of_le hpw hbw.size
    rw [← hbw.cell (p := ⟨d, 0, none⟩) hdw] at c0
    rw [← hbw.cell (p := ⟨d, 1, none⟩) hdw] at c1
    rw [← hbw.frozen (p := ⟨d, 1, none⟩) hdw] at f1
    rw [← hbw.cell (p := ⟨p, A.length * 2, none⟩) hpw] at hrow0
    rw [← hbw.cell (p := ⟨p, A.length * 2 + 1, none⟩) hpw] at hrow1
    have hI := INS.out ((w'.alloc (.cells #[.int .i64 A.length, .int .u8 c.now.kind, .string c.now.text] 106)).drew) w'.heap.size
      (by
        rw [← E0.out]
        have ho := H.out.own
        rw [← HN.out] at ho
        refine own_below ho (fun a ha => ?_)
        have hlt2 := (H.out.own.lt a.block (by rw [ha]; rfl)).2
        rw [← hbw.block a.block hlt2]
        exact blk_alloc_lt w' _ a.block (Nat.lt_of_lt_of_le hlt2 hbw.size))
      (Blk.new w' [.int .i64 A.length, .int .u8 c.now.kind, .string c.now.text] 106)
      (fun a ha => by
        have hlt2 := (H.out.own.lt a.block (by rw [ha]; rfl)).2
        have := hbw.size
        omega)
    have HI := hide hI
    have BW := hide hbw
    have HV : Hid (∀ w2, Keep (wa.map (·.block)).toList ((w'.alloc (.cells #[.int .i64 A.length, .int .u8 c.now.kind, .string c.now.text] 106)).drew) w2 → w2.cell? ⟨d, 1, none⟩ = some (.slice wa n wc) ∧ w2.frozen? ⟨d, 1, none⟩ = false) := by
      intro w2 hk2
      have e : w2.heap[d]? = w'.heap[d]? := by
        rw [hk2.block d (by show d < (w'.alloc _).heap.size; rw [nblk_alloc]; omega) (by cases wa with | none => simp | some a => simpa using Ne.symm (H.out.dq a rfl).1)]
        exact blk_alloc_lt w' _ d hd'
      exact ⟨by rw [← c1]; exact World.cell?_of_block (a := ⟨d, 1, none⟩) e, by rw [← f1]; exact World.frozen?_of_block (a := ⟨d, 1, none⟩) e⟩
    clear hI hbw hnl
    go_wp2
    go_region_with (go_at_call 75; refine HI.out.mono ?_; rintro e w2 ⟨g, c', rfl, hown2, hk2, hg2⟩; have HO := hide hown2; have HK := hide hk2; have HG := hide hg2; obtain ⟨c9, f9⟩ := HV.out w2 hk2; clear hown2 hk2 hg2)
    all_goals go_wp2
    all_goals (go_end0; exact ⟨rfl, _, _, hold_end H.out HCS.out hl HN.out BW.out HK.out HO.out HG.out⟩)
end Go.Proofs.Ytanbbmlekebhhaa
