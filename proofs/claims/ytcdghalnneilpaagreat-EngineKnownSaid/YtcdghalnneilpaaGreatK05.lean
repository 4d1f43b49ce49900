/- Joined texts. -/
import Derived.Deep.RegionWith
import Derived.Laws.IdiomStrings
import Derived.Lib.LazyBuf
import Derived.Test.YtcdghalnneilpaaGreatK04
set_option linter.unusedVariables false
set_option linter.unusedSimpArgs false
set_option maxRecDepth 8000
set_option maxHeartbeats 8000000
namespace Go.Proofs.YtcdghalnneilpaaGreat
open Go.RowKit Go.Deep Math
theorem wl_at (A : List Cl) (c : Cl) (B : List Cl) : wl 0 (A ++ c :: B) = wl 0 A ++ (match c.last with | none => [] | some l => [(A.length, l)]) ++ wl (A.length + 1) B := by
 rw [wl_append, Nat.zero_add]
 simp only [wl]
 split <;> simp_all
theorem headIs_ge (B : List Cl) (i at0 : Nat) (h : at0 < i) : headIs (wl i B) at0 = false := by
 have := wl_lt B i
 cases hw : wl i B with
 | nil => rfl
 | cons x r =>
  rw [hw] at this
  have := (this x (by simp)).1
  simp [headIs]
  omega
theorem pgRow_append (A B : List Cl) : pgRow (A ++ B) = pgRow A ++ pgRow B := by simp [pgRow]
theorem pgRow_cons (c : Cl) (B : List Cl) : pgRow (c :: B) = pgCells c.now ++ pgRow B := by simp [pgRow]
theorem pgRow_length (A : List Cl) : (pgRow A).length = A.length * 2 := flat_length (fun c : Cl => pgCells c.now) 2 (fun _ => rfl) A
theorem own_below {w w' : World} {wa : Option Addr} {n wc : Nat} {xs : List Value} (h : w.ownsRow 0 227 3 (.slice wa n wc) n xs) (hB : ∀ a, wa = some a -> w'.heap[a.block]? = w.heap[a.block]?) : w'.ownsRow 0 227 3 (.slice wa n wc) n xs := by
 obtain ⟨h1, h2⟩ := h
 refine ⟨h1, ?_⟩
 rcases h2 with h2 | ⟨g, cap, cur, hv, hg0, hh, r⟩
 ·exact .inl h2
 ·simp only [Value.slice.injEq] at hv
  refine .inr ⟨g, cap, cur, by simp [hv], hg0, ?_, r⟩
  rw [hB _ hv.1]
  exact hh
theorem hold_end {w w' w2 : World} {d p : Nat} {pd : List Value} {wa : Option Addr} {wc : Nat} {S : Dv} {A : List Cl} {c : Cl} {B : List Cl} {n g c' : Nat} {O : Obj} (H : DvIn w d p pd wa wc S) (hcs : S.cs = A ++ c :: B) (hl : c.last = none) (hn : n = (wl 0 S.cs).length)
  (hbw : Below w.heap.size w w') (hk2 : Keep (wa.map (·.block)).toList (w'.alloc O).drew w2)
  (hown2 : w2.ownsRow 0 227 3 (.slice (some ⟨g, 0, none⟩) (n + 1) c') (n + 1) (wtRow (wl 0 A ++ (A.length, c.now) :: wl (A.length + 1) B))) (hg2 : wa.map (·.block) = some g \/ (w'.alloc O).drew.heap.size <= g) :
  DvIn (w2.setCell ⟨d, 1, none⟩ (.slice (some ⟨g, 0, none⟩) (n + 1) c')) d p pd (some ⟨g, 0, none⟩) c' { S with cs := A ++ c.put c.now :: B } /\
   Moves (foot d p wa) (foot d p (some ⟨g, 0, none⟩)) w (w2.setCell ⟨d, 1, none⟩ (.slice (some ⟨g, 0, none⟩) (n + 1) c')) := by
 have hdw := H.dev.lt
 have hpw := H.row.lt
 have hsz := hbw.size
 have hV : (w'.alloc O).drew.heap.size = w'.heap.size + 1 := nblk_alloc w' O
 have hgn : g ≠ d /\ g ≠ p := by
  rcases hg2 with h | h
  ·cases wa with
   | none => simp at h
   | some a =>
    simp at h
    have := H.dq a rfl
    rw [h] at this
    exact this
  ·rw [hV] at h
   omega
 have same : ∀ k, k < w.heap.size -> (∀ a, wa = some a -> a.block ≠ k) -> w2.heap[k]? = w.heap[k]? := fun k hk hne => by
  rw [hk2.block k (by rw [hV]; omega) (by cases wa with | none => simp | some a => simpa using Ne.symm (hne a rfl))]
  rw [<- hbw.block k hk]
  exact blk_alloc_lt w' O k (by omega)
 have K0 : Keep (foot d p wa) w w2 := ((((Keep.of_below hbw).alloc O).drew).trans hk2 (fun x hx => .inl (by simp [foot]; cases wa <;> simp_all)))
 have K : Keep (foot d p wa) w (w2.setCell ⟨d, 1, none⟩ (.slice (some ⟨g, 0, none⟩) (n + 1) c')) := K0.setCell (.inl (by simp [foot])) _
 have hwl : wl 0 (A ++ c.put c.now :: B) = wl 0 A ++ (A.length, c.now) :: wl (A.length + 1) B := by rw [wl_at]; simp [Cl.put, hl]
 have hlen : (wl 0 (A ++ c.put c.now :: B)).length = n + 1 := by
  rw [hwl, hn, hcs, wl_at, hl]; simp; omega
 have hcl : (A ++ c.put c.now :: B).length = S.cs.length := by rw [hcs]; simp
 refine ⟨⟨?_, ?_, ?_, H.dp, fun a ha => by cases ha; exact hgn, ?_⟩, K, ?_⟩
 ·have b := (H.dev.same (same d hdw (fun a ha => (H.dq a ha).1))).set 1 (.slice (some ⟨g, 0, none⟩) (n + 1) c')
  have e : dvCells p pd (some ⟨g, 0, none⟩) (wl 0 (A ++ c.put c.now :: B)).length c' { S with cs := A ++ c.put c.now :: B } = (dvCells p pd wa (wl 0 S.cs).length wc S).set 1 (.slice (some ⟨g, 0, none⟩) (n + 1) c') := by
   rw [hlen]
   simp only [dvCells, hcl]
   rfl
  rw [e]
  exact b
 ·have b := (H.row.same (same p hpw (fun a ha => (H.dq a ha).2))).other (a := ⟨d, 1, none⟩) (Ne.symm H.dp) (.slice (some ⟨g, 0, none⟩) (n + 1) c')
  rw [hcs] at b
  have e : pgRow (A ++ c.put c.now :: B) = pgRow (A ++ c :: B) := by rw [pgRow_append, pgRow_append, pgRow_cons, pgRow_cons]; rfl
  rw [e]
  exact b
 ·show World.ownsRow _ 0 227 3 (.slice _ (wl 0 (A ++ c.put c.now :: B)).length _) (wl 0 (A ++ c.put c.now :: B)).length (wtRow (wl 0 (A ++ c.put c.now :: B)))
  rw [hlen, hwl]
  exact own_below hown2 (fun a ha => by cases ha; exact blk_setCell_other _ _ _ _ hgn.1)
 ·have hc := H.good.fits c (by rw [hcs]; simp)
  have hf := putAt_fits (p := c.now) hc.1 S.cs A.length H.good.fits
  rw [hcs, putAt_part] at hf
  exact ⟨by show (A ++ c.put c.now :: B).length <= _; rw [hcl]; exact H.good.many, H.good.armed, hf⟩
 ·intro k hk
  simp only [foot, List.mem_cons, Option.map_some, Option.toList_some, List.not_mem_nil, or_false] at hk
  rcases hk with rfl | rfl | rfl
  ·exact .inl (by simp [foot])
  ·exact .inl (by simp [foot])
  ·rcases hg2 with h | h
   ·exact .inl (by simp [foot, h])
   ·exact .inr (by rw [hV] at h; omega)
theorem hold_any (d p : Nat) (pd : List Value) (wa : Option Addr) (wc : Nat) (S : Dv) (A : List Cl) (c : Cl) (B : List Cl) (hcs : S.cs = A ++ c :: B) (w : World) (h : DvIn w d p pd wa wc S) :
  Calls Tryz.prog 180 #[.pointer (some ⟨d, 0, none⟩), .int .i64 A.length] w fun e w' => e = .returned (.tuple #[]) /\
   ∃ wa' wc', DvIn w' d p pd wa' wc' { S with cs := A ++ c.put c.now :: B } /\ Moves (foot d p wa) (foot d p wa') w w' := by
 obtain ⟨n, hn⟩ : ∃ n, n = (wl 0 S.cs).length := ⟨_, rfl⟩
 have hnl : n <= 4096 := by rw [hn]; exact Nat.le_trans (wl_length _ _) h.good.many
 have hlen : S.cs.length = A.length + 1 + B.length := by rw [hcs]; simp; omega
 have c0 := h.dev.cell (i := 0) rfl
 have c1 := h.dev.cell (i := 1) rfl
 rw [<- hn] at c1
 have hform := own_form h.own
 have hA : ∀ x ∈ wl 0 A, x.1 < A.length := fun x hx => by have := wl_lt A 0 x hx; omega
 have hBl : ∀ x ∈ wl (A.length + 1) B, A.length <= x.1 := fun x hx => by have := wl_lt B _ x hx; omega
 have hdw := h.dev.lt
 have hpw := h.row.lt
 cases hl : c.last with
 | some l =>
  have e0 : wl 0 S.cs = wl 0 A ++ ((A.length, l) :: wl (A.length + 1) B) := by rw [hcs, wl_at, hl]; simp
  have hcc : c.put c.now = c := by cases c; simp only at hl; simp [Cl.put, hl]
  have cs := search_any wa wc (match wa with | some a => a.block | none => 0) n (wl 0 A) ((A.length, l) :: wl (A.length + 1) B) A.length w (by rw [hn, e0]; simp) hnl
   (fun hpos => by
    rcases hform with ⟨_, h0, _⟩ | ⟨g, pad, rfl, hb, _⟩
    ·omega
    ·exact ⟨rfl, hb.lt⟩)
   (fun j v hj => by
    rcases hform with ⟨_, h0, _, hx⟩ | ⟨g, pad, rfl, hb, _⟩
    ·rw [e0] at hx; rw [hx] at hj; simp at hj
    ·rw [e0] at hb
     exact hb.cell (by rw [List.getElem?_append_left (List.getElem?_eq_some_iff.1 hj).1]; exact hj))
   hA (fun x hx => by
    rcases List.mem_cons.1 hx with rfl | hx
    ·exact Nat.le_refl _
    ·exact hBl x hx)
  rw [show headIs ((A.length, l) :: wl (A.length + 1) B) A.length = true by simp [headIs]] at cs
  generalize (wl 0 A).length = k at cs
  have CS := hide cs
  have H : Hid (DvIn w d p pd wa wc S) := h
  have HCS := hide hcs
  clear cs h hform hcs hn e0 hA hBl
  go_enter Tryz.func180, Tryz.ntmps180
  go_wp2_with (go_at_call 200; refine CS.out.mono ?_; rintro e w' ⟨rfl, hbw⟩)
  go_end0
  refine ⟨rfl, wa, wc, ?_, Moves.of_keep (Keep.of_below hbw)⟩
  rw [hcc, <- HCS.out]
  exact H.out.same (fun k hk => hbw.block k (H.out.lt k hk))
 | none =>
  have e0 : wl 0 S.cs = wl 0 A ++ wl (A.length + 1) B := by rw [hcs, wl_at, hl]; simp
  have cs := search_any wa wc (match wa with | some a => a.block | none => 0) n (wl 0 A) (wl (A.length + 1) B) A.length w (by rw [hn, e0]; simp) hnl
   (fun hpos => by
    rcases hform with ⟨_, h0, _⟩ | ⟨g, pad, rfl, hb, _⟩
    ·omega
    ·exact ⟨rfl, hb.lt⟩)
   (fun j v hj => by
    rcases hform with ⟨_, h0, _, hx⟩ | ⟨g, pad, rfl, hb, _⟩
    ·rw [e0] at hx; rw [hx] at hj; simp at hj
    ·rw [e0] at hb
     exact hb.cell (by rw [List.getElem?_append_left (List.getElem?_eq_some_iff.1 hj).1]; exact hj))
   hA hBl
  rw [headIs_ge _ _ _ (Nat.lt_succ_self _)] at cs
  have hrow0 := h.row.cell (i := A.length * 2 + 0) (v := .int .u8 c.now.kind) (by rw [hcs]; exact flat_getP (fun c : Cl => pgCells c.now) 2 (fun _ => rfl) A c B pd 0 (by decide))
  have hrow1 := h.row.cell (i := A.length * 2 + 1) (v := .string c.now.text) (by rw [hcs]; exact flat_getP (fun c : Cl => pgCells c.now) 2 (fun _ => rfl) A c B pd 1 (by decide))
  rw [Nat.add_zero] at hrow0
  have f1 := h.dev.frozen 1
  have hlt : (A.length : Int) < (S.cs.length : Int) := by omega
  -- what slices.Insert does, in any world that holds the rows
  have ins : ∀ (W : World) (vb : Nat), W.ownsRow 0 227 3 (.slice wa n wc) n (wtRow (wl 0 A ++ wl (A.length + 1) B)) -> Blk W vb (wtCells (A.length, c.now)) 227 -> (∀ a, wa = some a -> a.block ≠ vb) -> _ :=
   fun W vb h1 h2 h3 => insert_any wa wc n (wl 0 A) (wl (A.length + 1) B) (A.length, c.now) vb W (by rw [hn, e0]) hnl h1 h2 h3
  have INS := hide ins
  have CS := hide cs
  have H : Hid (DvIn w d p pd wa wc S) := h
  have HCS := hide hcs
  have HN := hide hn
  have E0 := hide e0
  clear cs ins h hform hcs hn hA hBl e0
  go_enter Tryz.func180, Tryz.ntmps180
  go_wp2_with (go_at_call 200; refine CS.out.mono ?_; rintro e w' ⟨rfl, hbw⟩)
  have hd' : d < w'.heap.size := Nat.lt_of_lt_of_le hdw hbw.size
  have hp' : p < w'.heap.size := Nat.lt_of_lt_of_le hpw hbw.size
  rw [<- hbw.cell (p := ⟨d, 0, none⟩) hdw] at c0
  rw [<- hbw.cell (p := ⟨d, 1, none⟩) hdw] at c1
  rw [<- hbw.frozen (p := ⟨d, 1, none⟩) hdw] at f1
  rw [<- hbw.cell (p := ⟨p, A.length * 2, none⟩) hpw] at hrow0
  rw [<- hbw.cell (p := ⟨p, A.length * 2 + 1, none⟩) hpw] at hrow1
  have hI := INS.out ((w'.alloc (.cells #[.int .i64 A.length, .int .u8 c.now.kind, .string c.now.text] 227)).drew) w'.heap.size
   (by
    rw [<- E0.out]
    have ho := H.out.own
    rw [<- HN.out] at ho
    refine own_below ho (fun a ha => ?_)
    have hlt2 := (H.out.own.lt a.block (by rw [ha]; rfl)).2
    rw [<- hbw.block a.block hlt2]
    exact blk_alloc_lt w' _ a.block (Nat.lt_of_lt_of_le hlt2 hbw.size))
   (Blk.new w' [.int .i64 A.length, .int .u8 c.now.kind, .string c.now.text] 227)
   (fun a ha => by
    have hlt2 := (H.out.own.lt a.block (by rw [ha]; rfl)).2
    have := hbw.size
    omega)
  have HI := hide hI
  have BW := hide hbw
  have HV : Hid (∀ w2, Keep (wa.map (·.block)).toList ((w'.alloc (.cells #[.int .i64 A.length, .int .u8 c.now.kind, .string c.now.text] 227)).drew) w2 -> w2.cell? ⟨d, 1, none⟩ = some (.slice wa n wc) /\ w2.frozen? ⟨d, 1, none⟩ = false) := by
   intro w2 hk2
   have e : w2.heap[d]? = w'.heap[d]? := by
    rw [hk2.block d (by show d < (w'.alloc _).heap.size; rw [nblk_alloc]; omega) (by cases wa with | none => simp | some a => simpa using Ne.symm (H.out.dq a rfl).1)]
    exact blk_alloc_lt w' _ d hd'
   exact ⟨by rw [<- c1]; exact World.cell?_of_block (a := ⟨d, 1, none⟩) e, by rw [<- f1]; exact World.frozen?_of_block (a := ⟨d, 1, none⟩) e⟩
  clear hI hbw hnl
  go_wp2
  go_region_with (go_at_call 203; refine HI.out.mono ?_; rintro e w2 ⟨g, c', rfl, hown2, hk2, hg2⟩; have HO := hide hown2; have HK := hide hk2; have HG := hide hg2; obtain ⟨c9, f9⟩ := HV.out w2 hk2; clear hown2 hk2 hg2)
  all_goals go_wp2
  all_goals (go_end0; exact ⟨rfl, _, _, hold_end H.out HCS.out hl HN.out BW.out HK.out HO.out HG.out⟩)
end Go.Proofs.YtcdghalnneilpaaGreat
namespace Go.Proofs.YtcdghalnneilpaaGreat
open Go.RowKit Go.Deep
def BSlice (w : World) (a : Option Addr) (l : List UInt8) (b : Nat) : Prop :=
 l = [] \/ (b < w.heap.size /\ ∃ off, a = some ⟨b, off, none⟩ /\ ∀ j (hj : j < l.length), w.cell? ⟨b, off + j, none⟩ = some (.int .u8 (l[j].toNat : Int)))
theorem BSlice.same {w w' : World} {a : Option Addr} {l : List UInt8} {b : Nat} (h : BSlice w a l b) (hs : w.heap.size <= w'.heap.size) (e : b < w.heap.size -> l ≠ [] -> w'.heap[b]? = w.heap[b]?) : BSlice w' a l b := by
 rcases h with h | ⟨hb, off, ha, hc⟩
 ·exact .inl h
 ·by_cases hl : l = []
  ·exact .inl hl
  ·exact .inr ⟨by omega, off, ha, fun j hj => by rw [World.cell?_of_block (a := ⟨b, off + j, none⟩) (e hb hl)]; exact hc j hj⟩
theorem str_any {w : World} {a : Option Addr} {l : List UInt8} {b : Nat} (h : BSlice w a l b) (hn : a = none -> l = []) (c : Nat) : (convert 40 9 (.slice a l.length c)).run Tryz.prog w = .ok (.string ⟨l.toArray⟩) w := by
 cases a with
 | none =>
  rw [hn rfl, run_convert_bytes_string w 40 9 5 none _ c Tryz.underlying40 Tryz.underlying5 Tryz.underlying9]
  unfold Conv.bytesToString
  simp [Sem.run_bind, Result.andThen]
  rfl
 | some x =>
  refine run_convert_bytes_back w 40 9 5 x c l Tryz.underlying40 Tryz.underlying5 Tryz.underlying9 (fun j hj => ?_)
  rcases h with h | ⟨hb, off, ha, hc⟩
  ·subst h; simp at hj
  ·cases ha
   rw [Addr.add_lit]
   exact hc j hj
theorem Dv.has_part {S : Dv} {at0 : Int} (h : S.has at0 = true) : ∃ A c B, S.cs = A ++ c :: B /\ at0 = (A.length : Int) := by
 simp only [Dv.has, Bool.and_eq_true, decide_eq_true_eq] at h
 obtain ⟨A, c, B, h1, h2⟩ := part_at S.cs at0.toNat (by omega)
 exact ⟨A, c, B, h1, by omega⟩
theorem put_end {w : World} {d p : Nat} {pd : List Value} {wa : Option Addr} {wc : Nat} {S : Dv} {A : List Cl} {c : Cl} {B : List Cl} {pg : Pg} (hf : pg.fits) (H : DvIn w d p pd wa wc { S with cs := A ++ c.put c.now :: B }) (x : Int) {w' : World}
  (hw : w' = ((w.setCell ⟨p, A.length * 2, none⟩ (.int .u8 pg.kind)).setCell ⟨p, A.length * 2 + 1, none⟩ (.string pg.text)).setCell ⟨d, 5, none⟩ (.int .i64 x)) :
  DvIn w' d p pd wa wc { S with cs := A ++ c.put pg :: B, wr := x } /\ Keep [d, p] w w' := by
 have K : Keep [d, p] w w' := by
  rw [hw]
  exact (((Keep.refl _ w).setCell (.inl (by simp)) _).setCell (.inl (by simp)) _).setCell (.inl (by simp)) _
 have hwl : wl 0 (A ++ c.put pg :: B) = wl 0 (A ++ c.put c.now :: B) := by rw [wl_at, wl_at]; rfl
 have hcl : (A ++ c.put pg :: B).length = (A ++ c.put c.now :: B).length := by simp
 refine ⟨⟨?_, ?_, ?_, H.dp, H.dq, ?_⟩, K⟩
 ·have b := ((H.dev.other (a := ⟨p, A.length * 2, none⟩) H.dp (.int .u8 pg.kind)).other (a := ⟨p, A.length * 2 + 1, none⟩) H.dp (.string pg.text)).set 5 (.int .i64 x)
  rw [<- hw] at b
  have e : dvCells p pd wa (wl 0 (A ++ c.put pg :: B)).length wc { S with cs := A ++ c.put pg :: B, wr := x } = (dvCells p pd wa (wl 0 (A ++ c.put c.now :: B)).length wc { S with cs := A ++ c.put c.now :: B }).set 5 (.int .i64 x) := by
   rw [hwl]; simp only [dvCells, hcl]; rfl
  show Blk w' d (dvCells p pd wa (wl 0 (A ++ c.put pg :: B)).length wc _) 95
  rw [e]
  exact b
 ·have b := H.row
  have e1 : pgRow (A ++ c.put c.now :: B) ++ pd = pgRow A ++ .int .u8 c.now.kind :: ([.string c.now.text] ++ (pgRow B ++ pd)) := by rw [pgRow_append, pgRow_cons]; simp [pgCells, Cl.put]
  show Blk w' p (pgRow (A ++ c.put pg :: B) ++ pd) 225
  have b0 : Blk w p (pgRow (A ++ c.put c.now :: B) ++ pd) 225 := b
  rw [e1] at b0
  have b1 := b0.set (A.length * 2) (.int .u8 pg.kind)
  rw [set_append_len _ _ _ _ _ (pgRow_length A).symm] at b1
  have e2 : pgRow A ++ .int .u8 (pg.kind : Int) :: ([.string c.now.text] ++ (pgRow B ++ pd)) = (pgRow A ++ [.int .u8 (pg.kind : Int)]) ++ .string c.now.text :: (pgRow B ++ pd) := by simp
  rw [e2] at b1
  have b2 := b1.set (A.length * 2 + 1) (.string pg.text)
  rw [set_append_len _ _ _ _ _ (by rw [List.length_append, pgRow_length]; rfl)] at b2
  have b3 := b2.other (a := ⟨d, 5, none⟩) (Ne.symm H.dp) (.int .i64 x)
  rw [<- hw] at b3
  have e3 : pgRow (A ++ c.put pg :: B) ++ pd = (pgRow A ++ [.int .u8 (pg.kind : Int)]) ++ .string pg.text :: (pgRow B ++ pd) := by rw [pgRow_append, pgRow_cons]; simp [pgCells, Cl.put]
  rw [e3]
  exact b3
 ·show World.ownsRow _ 0 227 3 (.slice _ (wl 0 (A ++ c.put pg :: B)).length _) (wl 0 (A ++ c.put pg :: B)).length (wtRow (wl 0 (A ++ c.put pg :: B)))
  rw [hwl]
  refine own_below H.own (fun a ha => ?_)
  have hlt := (H.own.lt a.block (by rw [ha]; rfl)).2
  exact K.block a.block hlt (by simpa using H.dq a ha)
 ·have hc : (c.put c.now).fits := H.good.fits _ (by simp)
  have hc2 : (c.put pg).fits := ⟨hf, hc.2⟩
  refine ⟨by show (A ++ c.put pg :: B).length <= _; rw [hcl]; exact H.good.many, H.good.armed, fun y hy => ?_⟩
  rcases List.mem_append.1 hy with h | h
  ·exact H.good.fits y (List.mem_append.2 (.inl h))
  ·rcases List.mem_cons.1 h with rfl | h
   ·exact hc2
   ·exact H.good.fits y (List.mem_append.2 (.inr (by simp [h])))
theorem put_any (d p : Nat) (pd : List Value) (wa : Option Addr) (wc : Nat) (S : Dv) (at0 : Int) (pg : Pg) (hf : pg.fits) (a : Option Addr) (n cap bb : Nat) (l : List UInt8) (hn : n = l.length) (hl : (⟨l.toArray⟩ : ByteArray) = pg.text) (w : World)
  (hbs : BSlice w a l bb) (hnil : a = none -> l = []) (hbb : l ≠ [] -> bb ∉ foot d p wa) (h : DvIn w d p pd wa wc S) :
  Calls Tryz.prog 145 #[.pointer (some ⟨d, 0, none⟩), .int .i64 at0, .int .u8 pg.kind, .slice a n cap] w fun e w' => e = .returned (.int .i64 (S.putErr at0)) /\
   ∃ wa' wc', DvIn w' d p pd wa' wc' (S.putDo at0 pg) /\ Moves (foot d p wa) (foot d p wa') w w' := by
 have ch := hide (has_any d p pd wa wc S w h at0)
 have cg := hide (gone_any d p pd wa wc S w h)
 have H := hide h
 clear h
 cases hh : S.has at0 with
 | false =>
  rw [hh] at ch
  have E1 : Hid (S.putErr at0 = 1) := by simp [Hid, Dv.putErr, hh]
  have E2 : Hid (S.putDo at0 pg = S) := by simp [Hid, Dv.putDo, hh]
  clear hh
  go_enter Tryz.func145, Tryz.ntmps145
  go_wp2_with (go_at_call 150; refine ch.out.mono ?_; rintro e w' ⟨rfl, rfl⟩)
  go_ret
  refine ⟨by rw [E1.out]; rfl, wa, wc, by rw [E2.out]; exact H.out, Moves.refl _ _⟩
 | true =>
  rw [hh] at ch
  cases hg : S.gone with
  | true =>
   rw [hg] at cg
   have E1 : Hid (S.putErr at0 = 4) := by simp [Hid, Dv.putErr, hh, hg]
   have E2 : Hid (S.putDo at0 pg = S.used) := by simp [Hid, Dv.putDo, hh, hg]
   clear hh hg
   go_enter Tryz.func145, Tryz.ntmps145
   go_wp2_with (first | (go_at_call 150; refine ch.out.mono ?_; rintro e w' ⟨rfl, rfl⟩) | (go_at_call 139; refine cg.out.mono ?_; rintro e w' ⟨rfl, h1, k1⟩))
   go_ret
   refine ⟨by rw [E1.out]; rfl, wa, wc, by rw [E2.out]; exact h1, Moves.of_keep (k1.mono (fun k hk => .inl (by simp at hk; simp [foot, hk])))⟩
  | false =>
   rw [hg] at cg
   obtain ⟨A, c, B, hcs, hat⟩ := Dv.has_part hh
   have E1 : Hid (S.putErr at0 = 0) := by simp [Hid, Dv.putErr, hh, hg]
   have E2 : Hid (S.putDo at0 pg = { S.used with cs := A ++ c.put pg :: B, wr := wrap64 (S.wr + 1) }) := by
    show S.putDo at0 pg = _
    unfold Dv.putDo
    rw [if_neg (by simp [hh]), if_neg (by simp [hg]), hcs, hat, Int.toNat_natCast, putAt_part]
   have hcl : (A.length : Int) < ((A ++ c.put c.now :: B).length : Int) := by simp; omega
   have hwr : S.used.wr = S.wr := by unfold Dv.used; split <;> (try split) <;> rfl
   subst hat
   have HB := hide hbs
   have HBB := hide hbb
   have HNL := hide hnil
   have HCS := hide hcs
   clear hh hg hbs hbb hnil hcs
   subst hn
   go_enter Tryz.func145, Tryz.ntmps145
   go_wp2_with (first | (go_at_call 150; refine ch.out.mono ?_; rintro e w' ⟨rfl, rfl⟩) | (go_at_call 139; refine cg.out.mono ?_; rintro e w' ⟨rfl, h1, k1⟩) | fail)
   refine (hold_any d p pd wa wc S.used A c B (by rw [S.used_cs]; exact HCS.out) _ h1).mono ?_
   rintro e w2 ⟨rfl, wa', wc', h2, m2⟩
   have c0 := h2.dev.cell (i := 0) rfl
   have c5 := h2.dev.cell (i := 5) rfl
   have f5 := h2.dev.frozen 5
   have r0 := h2.row.cell (i := A.length * 2 + 0) (v := .int .u8 c.now.kind) (flat_getP (fun c : Cl => pgCells c.now) 2 (fun _ => rfl) A (c.put c.now) B pd 0 (by decide))
   have r1 := h2.row.cell (i := A.length * 2 + 1) (v := .string c.now.text) (flat_getP (fun c : Cl => pgCells c.now) 2 (fun _ => rfl) A (c.put c.now) B pd 1 (by decide))
   rw [Nat.add_zero] at r0
   have g0 := h2.row.frozen (A.length * 2)
   have g1 := h2.row.frozen (A.length * 2 + 1)
   have hdp := h2.dp
   have hpd := Ne.symm h2.dp
   simp only [hwr] at c5
   have hst : ∀ W : World, W.heap = w2.heap -> (convert 40 9 (.slice a l.length cap)).run Tryz.prog W = .ok (.string pg.text) W := fun W hW => by
    rw [<- hl]
    refine str_any (b := bb) (HB.out.same ?_ ?_) HNL.out cap
    ·rw [hW]; exact Nat.le_trans k1.size m2.keep.size
    ·intro hlt hne
     have hnf := HBB.out hne
     rw [hW, m2.keep.block bb (Nat.lt_of_lt_of_le hlt k1.size) hnf, k1.block bb hlt (fun hk => hnf (by simp at hk; simp [foot, hk]))]
   have hst1 : (convert 40 9 (.slice a l.length cap)).run Tryz.prog w2.drew = .ok (.string pg.text) w2.drew := hst w2.drew rfl
   have K1 := hide k1
   have M2 := hide m2
   have H2 := hide h2
   clear h1 h2 k1 m2 hst hl
   simp only [] at c0
   go_wp2
   go_region
   all_goals go_wp2
   all_goals (
    go_ret
    obtain ⟨D, K⟩ := put_end hf H2.out (wrap64 (S.wr + 1)) rfl
    refine ⟨by rw [E1.out]; rfl, wa', wc', ?_, (Moves.of_keep (K1.out.mono (fun k hk => .inl (by simp at hk; simp [foot, hk])))).trans (M2.out.trans (Moves.of_keep (K.mono (fun k hk => .inl (by simp at hk; rcases hk with rfl | rfl <;> simp [foot]))).drew))⟩
    rw [E2.out]
    exact D.same (fun _ _ => rfl))
theorem put_at (d : Nat) (F : List Nat) (S : Dv) (at0 : Int) (pg : Pg) (hf : pg.fits) (a : Option Addr) (n cap bb : Nat) (l : List UInt8) (hn : n = l.length) (hl : (⟨l.toArray⟩ : ByteArray) = pg.text) (w : World)
  (hbs : BSlice w a l bb) (hnil : a = none -> l = []) (hbb : l ≠ [] -> bb ∉ F) (h : DvAt w d F S) :
  Calls Tryz.prog 145 #[.pointer (some ⟨d, 0, none⟩), .int .i64 at0, .int .u8 pg.kind, .slice a n cap] w fun e w' => e = .returned (.int .i64 (S.putErr at0)) /\
   ∃ F', DvAt w' d F' (S.putDo at0 pg) /\ Moves F F' w w' := by
 obtain ⟨p, pd, wa, wc, rfl, h⟩ := h
 refine (put_any d p pd wa wc S at0 pg hf a n cap bb l hn hl w hbs hnil hbb h).mono ?_
 rintro e w' ⟨rfl, wa', wc', h2, m2⟩
 exact ⟨rfl, foot d p wa', ⟨p, pd, wa', wc', rfl, h2⟩, m2⟩
theorem write_at (d : Nat) (F : List Nat) (S : Dv) (at0 : Int) (a : Option Addr) (n cap bb : Nat) (l : List UInt8) (hn : n = l.length) (w : World)
  (hbs : BSlice w a l bb) (hnil : a = none -> l = []) (hbb : l ≠ [] -> bb ∉ F) (h : DvAt w d F S) :
  Calls Tryz.prog 88 #[.pointer (some ⟨d, 0, none⟩), .int .i64 at0, .slice a n cap] w fun e w' => e = .returned (.int .i64 (S.writeErr at0 ⟨l.toArray⟩)) /\
   ∃ F', DvAt w' d F' (S.writeDo at0 ⟨l.toArray⟩) /\ Moves F F' w w' := by
 have hsz : (⟨l.toArray⟩ : ByteArray).size = n := by rw [hn]; show l.toArray.size = _; simp
 by_cases hbig : 384 < n
 ·have E1 : Hid (S.writeErr at0 ⟨l.toArray⟩ = 1) := by simp [Hid, Dv.writeErr, hsz, hbig]
  have E2 : Hid (S.writeDo at0 ⟨l.toArray⟩ = S) := by simp [Hid, Dv.writeDo, hsz, hbig]
  have H := hide h
  have hb2 : (384 : Int) < (n : Int) := by omega
  clear h hsz hn hbs hnil hbb hbig
  go_enter Tryz.func88, Tryz.ntmps88
  go_wp2
  go_ret
  exact ⟨by rw [E1.out]; rfl, F, by rw [E2.out]; exact H.out, Moves.refl _ _⟩
 ·have E1 : Hid (S.writeErr at0 ⟨l.toArray⟩ = S.putErr at0) := by simp [Hid, Dv.writeErr, hsz, hbig]
  have E2 : Hid (S.writeDo at0 ⟨l.toArray⟩ = S.putDo at0 (.whole ⟨l.toArray⟩)) := by simp [Hid, Dv.writeDo, hsz, hbig]
  have cp := hide (put_at d F S at0 (.whole ⟨l.toArray⟩) (by show (⟨l.toArray⟩ : ByteArray).size <= 384; omega) a n cap bb l hn rfl w hbs hnil hbb h)
  have hb2 : ¬ (384 : Int) < (n : Int) := by omega
  clear h hsz hn hbs hnil hbb hbig
  go_enter Tryz.func88, Tryz.ntmps88
  go_wp2_with (go_at_call 145; refine cp.out.mono ?_; rintro e w' ⟨rfl, F', h1, m1⟩)
  go_ret
  exact ⟨by rw [E1.out]; rfl, F', by rw [E2.out]; exact h1, m1⟩
theorem pgRow_flush (cs : List Cl) : pgRow (cs.map Cl.flush) = pgRow cs := by
 simp [pgRow, List.flatMap_map, Cl.flush]
theorem flush_at (d : Nat) (F : List Nat) (S : Dv) (w : World) (h : DvAt w d F S) :
  Calls Tryz.prog 83 #[.pointer (some ⟨d, 0, none⟩)] w fun e w' => e = .returned (.int .i64 S.flushErr) /\ ∃ F', DvAt w' d F' S.flushDo /\ Moves F F' w w' := by
 obtain ⟨p, pd, wa, wc, rfl, h⟩ := h
 have cg := hide (gone_any d p pd wa wc S w h)
 have hgd := h.good
 have HG := hide hgd
 clear h hgd
 cases hg : S.gone with
 | true =>
  rw [hg] at cg
  have E1 : Hid (S.flushErr = 4) := by simp [Hid, Dv.flushErr, hg]
  have E2 : Hid (S.flushDo = S.used) := by simp [Hid, Dv.flushDo, hg]
  clear hg
  go_enter Tryz.func83, Tryz.ntmps83
  go_wp2_with (go_at_call 139; refine cg.out.mono ?_; rintro e w' ⟨rfl, h1, k1⟩)
  go_ret
  exact ⟨by rw [E1.out]; rfl, foot d p wa, ⟨p, pd, wa, wc, rfl, by rw [E2.out]; exact h1⟩, Moves.of_keep (k1.mono (fun k hk => .inl (by simp at hk; simp [foot, hk])))⟩
 | false =>
  rw [hg] at cg
  have E1 : Hid (S.flushErr = 0) := by simp [Hid, Dv.flushErr, hg]
  have E2 : Hid (S.flushDo = { S.used with cs := S.cs.map Cl.flush, fl := wrap64 (S.fl + 1) }) := by simp [Hid, Dv.flushDo, hg]
  have hfl : S.used.fl = S.fl := by unfold Dv.used; split <;> (try split) <;> rfl
  have HFL := hide hfl
  clear hg hfl
  go_enter Tryz.func83, Tryz.ntmps83
  go_wp2_with (go_at_call 139; refine cg.out.mono ?_; rintro e w' ⟨rfl, h1, k1⟩; have c1 := h1.dev.cell (i := 1) rfl; have f1 := h1.dev.frozen 1; have c6 := h1.dev.cell (i := 6) rfl; have f6 := h1.dev.frozen 6; rw [HFL.out] at c6; have H1 := hide h1; have K1 := hide k1; clear h1 k1)
  go_ret
  have hcs := S.used_cs
  obtain ⟨W, hW⟩ : ∃ W, W = (w'.setCell ⟨d, 1, none⟩ (.slice none 0 0)).setCell ⟨d, 6, none⟩ (.int .i64 (wrap64 (S.fl + 1))) := ⟨_, rfl⟩
  have K : Keep [d] w' W := by rw [hW]; exact ((Keep.refl _ _).setCell (.inl (by simp)) _).setCell (.inl (by simp)) _
  refine ⟨by rw [E1.out]; rfl, foot d p none, ⟨p, pd, none, 0, rfl, ?_⟩, ?_⟩
  ·rw [E2.out, <- hW]
   have hwl : wl 0 (S.cs.map Cl.flush) = [] := wl_flush _ _
   refine ⟨?_, ?_, ?_, H1.out.dp, (fun a ha => by cases ha), ?_⟩
   ·have b := (H1.out.dev.set 1 (.slice none 0 0)).set 6 (.int .i64 (wrap64 (S.fl + 1)))
    rw [<- hW] at b
    have e : dvCells p pd none (wl 0 (S.cs.map Cl.flush)).length 0 { S.used with cs := S.cs.map Cl.flush, fl := wrap64 (S.fl + 1) } =
      ((dvCells p pd wa (wl 0 S.used.cs).length wc S.used).set 1 (.slice none 0 0)).set 6 (.int .i64 (wrap64 (S.fl + 1))) := by
     rw [hwl]; simp only [dvCells, List.length_map, hcs]; rfl
    show Blk W d (dvCells p pd none (wl 0 (S.cs.map Cl.flush)).length 0 _) 95
    rw [e]
    exact b
   ·show Blk W p (pgRow (S.cs.map Cl.flush) ++ pd) 225
    rw [pgRow_flush, <- hcs]
    exact H1.out.row.same (K.block p H1.out.row.lt (by simpa using Ne.symm H1.out.dp))
   ·show World.ownsRow _ 0 227 3 (.slice _ (wl 0 (S.cs.map Cl.flush)).length _) (wl 0 (S.cs.map Cl.flush)).length (wtRow (wl 0 (S.cs.map Cl.flush)))
    rw [hwl]
    exact World.ownsRow_nil _ _ _ _
   ·have := Dv.flushDo_good HG.out
    rw [E2.out] at this
    exact this
  ·rw [<- hW]
   refine ⟨(K1.out.mono (G := foot d p wa) (fun k hk => .inl (by simp at hk; simp [foot, hk]))).trans K (fun x hx => .inl (by simp at hx; simp [foot, hx])), fun k hk => .inl ?_⟩
   simp only [foot, List.mem_cons, Option.map_none, Option.toList_none, List.not_mem_nil, or_false] at hk
   rcases hk with rfl | rfl <;> simp [foot]
end Go.Proofs.YtcdghalnneilpaaGreat
namespace Go.Proofs.YtcdghalnneilpaaGreat
open Go.RowKit Go.Deep
end Go.Proofs.YtcdghalnneilpaaGreat
namespace Go.Proofs.YtcdghalnneilpaaGreat
open Go.RowKit Go.Deep
theorem alloc_sets (V : World) (t : TypeId) : ∀ (vs A M B : List Value), M.length = vs.length -> (V.alloc (.cells (A ++ M ++ B).toArray t)).setCells V.heap.size A.length vs = V.alloc (.cells (A ++ vs ++ B).toArray t)
 | [], A, [], B, _ => rfl
 | v :: r, A, m :: M, B, hl => by
  rw [World.setCells, World.setCell_alloc_at _ _ _ _ _ rfl]
  have ih := alloc_sets V t r (A ++ [v]) M B (by simpa using hl)
  have e : (A ++ m :: M ++ B).toArray.setIfInBounds A.length v = (A ++ [v] ++ M ++ B).toArray := by
   apply Array.ext'
   simp
  rw [e]
  have hl2 : (A ++ [v]).length = A.length + 1 := by simp
  rw [hl2] at ih
  rw [ih]
  simp
theorem make384 (W : World) : (Instr.makeSlice 40 (.int .i64 384) (.int .i64 384)).run Tryz.prog W = .ok (.slice (some ⟨W.heap.size, 0, none⟩) 384 384) (W.alloc (.cells (List.replicate 384 (Value.int .u8 0)).toArray 5)) := by
 have h := run_make_row' (P := Tryz.prog) 40 5 (.int .u8 0) 1 Tryz.underlying40 info5 rfl .i64 .i64 384 (by decide) (by decide) W
 have e : madeCells #[Value.int .u8 0] 384 = (List.replicate 384 (Value.int .u8 0)).toArray := by
  apply Array.ext'
  rw [toList_madeCells_one]
 rw [e] at h
 exact h
theorem full_data (t : ByteArray) : (full t).data.toList = t.data.toList ++ List.replicate (384 - t.size) 0 := by
 simp [full, zeros, ByteArray.data_append]
theorem copy384 (V : World) (N : Nat) (hN : N = V.heap.size) (t : ByteArray) (ht : t.size <= 384) (ty : TypeId) :
  (Builtin.copy_ #[40, 9] ty #[.slice (some ⟨N, 0, none⟩) 384 384, .string t]).run Tryz.prog (V.alloc (.cells (List.replicate 384 (Value.int .u8 0)).toArray 5)) = .ok (goInt t.size) (V.alloc (.cells (bCells (full t).data.toList).toArray 5)) := by
 subst hN
 have hb : Blk (V.alloc (.cells (List.replicate 384 (Value.int .u8 0)).toArray 5)) V.heap.size (List.replicate 384 (Value.int .u8 0)) 5 := Blk.new _ _ _
 obtain ⟨i0, hi0, hp0⟩ := Option.map_eq_some_iff.1 info5
 simp only [Prod.mk.injEq] at hp0
 have h := Go.run_copy_string (P := Tryz.prog) (V.alloc (.cells (List.replicate 384 (Value.int .u8 0)).toArray 5)) 40 9 ty 5 V.heap.size 0 384 384 t Tryz.underlying40 (fun w => by simp [sizeOf, typeInfo, hi0, hp0.2.1]) ht
  (fun j hj => by rw [hb.cell (i := 0 + j) (v := .int .u8 0) (by rw [List.getElem?_replicate, if_pos (by omega)])]; rfl) (fun j hj => hb.frozen _)
 rw [h]
 have hsz : t.data.toList.length = t.size := by rw [Array.length_toList]; rfl
 have := alloc_sets V 5 (t.data.toList.map fun x => Value.int .u8 (x.toNat : Int)) [] (List.replicate t.size (.int .u8 0)) (List.replicate (384 - t.size) (.int .u8 0)) (by simp [hsz])
 rw [List.nil_append, List.nil_append, List.replicate_append_replicate, show t.size + (384 - t.size) = 384 by omega] at this
 rw [List.length_nil] at this
 rw [this]
 congr 4
 rw [full_data]
 simp [bCells]
def Dv.readErr (S : Dv) (at0 : Int) : Int := if S.has at0 = false then 1 else if S.off = true then 4 else match S.cs[at0.toNat]? with | some c => c.now.err | none => 0
def Dv.readText (S : Dv) (at0 : Int) : ByteArray := if S.has at0 = false then ⟨#[]⟩ else if S.off = true then ⟨#[]⟩ else match S.cs[at0.toNat]? with | some c => c.now.read | none => ⟨#[]⟩
def Dv.readDo (S : Dv) (at0 : Int) : Dv := if S.has at0 = false then S else if S.off = true then S else { S with rd := wrap64 (S.rd + 1) }
def ReadsAs (w w' : World) (v : Value) (err : Int) (text : ByteArray) : Prop :=
 (err ≠ 0 /\ v = .slice none 0 0 /\ text = ⟨#[]⟩) \/ (err = 0 /\ text.size = 384 /\ ∃ b, b = w.heap.size + 1 /\ v = .slice (some ⟨b, 0, none⟩) 384 384 /\ Blk w' b (bCells text.data.toList) 5)
theorem full_size (t : ByteArray) (h : t.size <= 384) : (full t).size = 384 := by
 have : (full t).data.toList.length = 384 := by
  rw [full_data]; simp
  have : t.data.size = t.size := rfl
  omega
 rw [Array.length_toList] at this
 exact this
theorem read_any (d p : Nat) (pd : List Value) (wa : Option Addr) (wc : Nat) (S : Dv) (at0 : Int) (w : World) (h : DvIn w d p pd wa wc S) :
  Calls Tryz.prog 99 #[.pointer (some ⟨d, 0, none⟩), .int .i64 at0] w fun e w' => ∃ v, e = .returned (.tuple #[v, .int .i64 (S.readErr at0)]) /\ ReadsAs w w' v (S.readErr at0) (S.readText at0) /\
   DvIn w' d p pd wa wc (S.readDo at0) /\ Keep [d] w w' := by
 have ch := hide (has_any d p pd wa wc S w h at0)
 cases hh : S.has at0 with
 | false =>
  rw [hh] at ch
  have E1 : Hid (S.readErr at0 = 1) := by simp [Hid, Dv.readErr, hh]
  have E2 : Hid (S.readText at0 = ⟨#[]⟩) := by simp [Hid, Dv.readText, hh]
  have E3 : Hid (S.readDo at0 = S) := by simp [Hid, Dv.readDo, hh]
  have H := hide h
  clear h hh
  go_enter Tryz.func99, Tryz.ntmps99
  go_wp2_with (go_at_call 150; refine ch.out.mono ?_; rintro e w' ⟨rfl, rfl⟩)
  go_ret2
  exact ⟨_, by rw [E1.out]; rfl, .inl ⟨by rw [E1.out]; decide, rfl, E2.out⟩, by rw [E3.out]; exact H.out, Keep.refl _ _⟩
 | true =>
  rw [hh] at ch
  have c3 := h.dev.cell (i := 3) rfl
  cases ho : S.off with
  | true =>
   rw [ho] at c3
   have E1 : Hid (S.readErr at0 = 4) := by simp [Hid, Dv.readErr, hh, ho]
   have E2 : Hid (S.readText at0 = ⟨#[]⟩) := by simp [Hid, Dv.readText, hh, ho]
   have E3 : Hid (S.readDo at0 = S) := by simp [Hid, Dv.readDo, hh, ho]
   have H := hide h
   clear h hh ho
   go_enter Tryz.func99, Tryz.ntmps99
   go_wp2_with (go_at_call 150; refine ch.out.mono ?_; rintro e w' ⟨rfl, rfl⟩)
   go_ret2
   exact ⟨_, by rw [E1.out]; rfl, .inl ⟨by rw [E1.out]; decide, rfl, E2.out⟩, by rw [E3.out]; exact H.out, Keep.refl _ _⟩
  | false =>
   rw [ho] at c3
   obtain ⟨A, c, B, hcs, hat⟩ := Dv.has_part hh
   have hget : S.cs[at0.toNat]? = some c := by rw [hcs, hat]; simp
   have E1 : Hid (S.readErr at0 = c.now.err) := by simp [Hid, Dv.readErr, hh, ho, hget]
   have E2 : Hid (S.readText at0 = c.now.read) := by simp [Hid, Dv.readText, hh, ho, hget]
   have E3 : Hid (S.readDo at0 = { S with rd := wrap64 (S.rd + 1) }) := by simp [Hid, Dv.readDo, hh, ho]
   have hlt : (A.length : Int) < (S.cs.length : Int) := by rw [hcs]; simp; omega
   have c0 := h.dev.cell (i := 0) rfl
   have c7 := h.dev.cell (i := 7) rfl
   have f7 := h.dev.frozen 7
   have r0 := h.row.cell (i := A.length * 2 + 0) (v := .int .u8 c.now.kind) (by rw [hcs]; exact flat_getP (fun c : Cl => pgCells c.now) 2 (fun _ => rfl) A c B pd 0 (by decide))
   have r1 := h.row.cell (i := A.length * 2 + 1) (v := .string c.now.text) (by rw [hcs]; exact flat_getP (fun c : Cl => pgCells c.now) 2 (fun _ => rfl) A c B pd 1 (by decide))
   rw [Nat.add_zero] at r0
   have hdp := h.dp
   have hpd := Ne.symm h.dp
   have hpw := h.row.lt
   have hdw := h.dev.lt
   have hfit : c.now.fits := (h.good.fits c (by rw [hcs]; simp)).1
   have K : Keep [d] w (w.setCell ⟨d, 7, none⟩ (.int .i64 (wrap64 (S.rd + 1)))) := (Keep.refl [d] w).setCell (.inl (by simp)) _
   have D : DvIn (w.setCell ⟨d, 7, none⟩ (.int .i64 (wrap64 (S.rd + 1)))) d p pd wa wc { S with rd := wrap64 (S.rd + 1) } := h.turn K (h.dev.set 7 _) rfl ⟨h.good.many, h.good.armed, h.good.fits⟩
   have HK := hide K
   have HD := hide D
   have F := hide hfit
   subst hat
   clear h hh ho hget hcs K D hfit
   obtain ⟨now, last⟩ := c
   simp only at r0 r1 E1 E2 F
   rcases now with ⟨_ | _ | b⟩
   ·
    simp only [Pg.kind, Pg.text] at r0 r1
    go_enter Tryz.func99, Tryz.ntmps99
    go_wp2_with (go_at_call 150; refine ch.out.mono ?_; rintro e w' ⟨rfl, rfl⟩)
    go_ret2
    refine ⟨_, by rw [E1.out]; rfl, .inl ⟨by rw [E1.out]; decide, rfl, E2.out⟩, ?_, HK.out.alloc _⟩
    rw [E3.out]
    exact HD.out.same (fun k hk => blk_alloc_lt _ _ _ (HD.out.lt k hk))
   ·
    simp only [Pg.kind, Pg.text] at r0 r1
    go_enter Tryz.func99, Tryz.ntmps99
    go_wp2_with (go_at_call 150; refine ch.out.mono ?_; rintro e w' ⟨rfl, rfl⟩)
    go_ret2
    refine ⟨_, by rw [E1.out]; rfl, .inl ⟨by rw [E1.out]; decide, rfl, E2.out⟩, ?_, HK.out.alloc _⟩
    rw [E3.out]
    exact HD.out.same (fun k hk => blk_alloc_lt _ _ _ (HD.out.lt k hk))
   ·
    simp only [Pg.kind, Pg.text] at r0 r1
    have hm := make384
    have hcp : ∀ (V : World) (N : Nat) (ty : TypeId), N = V.heap.size -> (Builtin.copy_ #[40, 9] ty #[.slice (some ⟨N, 0, none⟩) 384 384, .string b]).run Tryz.prog (V.alloc (.cells (List.replicate 384 (Value.int .u8 0)).toArray 5)) =
     .ok (goInt b.size) (V.alloc (.cells (bCells (full b).data.toList).toArray 5)) := fun V N ty hN => copy384 V N hN b F.out ty
    generalize hZ : (List.replicate 384 (Value.int .u8 0)).toArray = Z at hm hcp
    have HR : Hid ((full b).size = 384) := full_size b F.out
    clear hZ
    have E2' : Hid (S.readText ↑A.length = full b) := E2.out
    clear E2
    generalize hZ2 : full b = fb at hcp HR E2'
    clear hZ2
    generalize hZ3 : (bCells fb.data.toList).toArray = Z3 at hcp
    have HZ3 := hide hZ3
    clear hZ3
    go_enter Tryz.func99, Tryz.ntmps99
    go_wp2_with (go_at_call 150; refine ch.out.mono ?_; rintro e w' ⟨rfl, rfl⟩)
    go_ret2
    have KA := HK.out.alloc (.cells #[.int .u8 1, .string b] 225)
    refine ⟨_, by rw [E1.out]; rfl, .inr ⟨E1.out, by rw [E2'.out]; exact HR.out, w'.heap.size + 1, rfl, rfl, ?_⟩, ?_, KA.alloc _⟩
    ·rw [E2'.out]
     unfold Blk
     rw [HZ3.out]
     have := blk_alloc_new (((w'.setCell ⟨d, 7, none⟩ (.int .i64 (wrap64 (S.rd + 1)))).alloc (.cells #[.int .u8 1, .string b] 225))) (.cells Z3 5)
     rw [nblk_alloc, nblk_setCell] at this
     exact this
    ·rw [E3.out]
     refine HD.out.same (fun k hk => ?_)
     have hl := HD.out.lt k hk
     rw [blk_alloc_lt _ _ _ (by rw [nblk_alloc]; omega), blk_alloc_lt _ _ _ hl]
theorem read_at (d : Nat) (F : List Nat) (S : Dv) (at0 : Int) (w : World) (h : DvAt w d F S) :
  Calls Tryz.prog 99 #[.pointer (some ⟨d, 0, none⟩), .int .i64 at0] w fun e w' => ∃ v, e = .returned (.tuple #[v, .int .i64 (S.readErr at0)]) /\ ReadsAs w w' v (S.readErr at0) (S.readText at0) /\
   DvAt w' d F (S.readDo at0) /\ Keep F w w' := by
 obtain ⟨p, pd, wa, wc, rfl, h⟩ := h
 refine (read_any d p pd wa wc S at0 w h).mono ?_
 rintro e w' ⟨v, rfl, hr, h2, k2⟩
 exact ⟨v, rfl, hr, ⟨p, pd, wa, wc, rfl, h2⟩, k2.mono (fun k hk => .inl (by simp at hk; simp [foot, hk]))⟩
end Go.Proofs.YtcdghalnneilpaaGreat
namespace Go.Proofs.YtcdghalnneilpaaGreat
open Go.RowKit Go.Deep
theorem made_two (a b : Value) : ∀ n : Nat, (madeCells #[a, b] (n * 2)).toList = (List.replicate n ()).flatMap (fun _ => [a, b])
 | 0 => by simp [madeCells]
 | n + 1 => by
  have ih := made_two a b n
  have h1 : madeCells #[a, b] ((n + 1) * 2) = ((madeCells #[a, b] (n * 2)).push a).push b := by
   unfold madeCells
   rw [show (n + 1) * 2 = n * 2 + 1 + 1 by omega, Array.range_succ, Array.range_succ]
   have e1 : (n * 2) % 2 = 0 := by omega
   have e2 : (n * 2 + 1) % 2 = 1 := by omega
   apply Array.ext'
   simp [e1, e2]
  rw [h1, List.replicate_succ', List.flatMap_append]
  simp [ih]
theorem pgRow_fresh : ∀ n : Nat, pgRow (List.replicate n (⟨.blank, none⟩ : Cl)) = (List.replicate n ()).flatMap (fun _ => [Value.int .u8 0, Value.string ⟨#[]⟩])
 | 0 => rfl
 | n + 1 => by
  rw [List.replicate_succ, pgRow_cons, pgRow_fresh n, List.replicate_succ]
  rfl
theorem makePages (n : Nat) (hn : n <= 4096) (W : World) : (Instr.makeSlice 90 (.int .i64 n) (.int .i64 n)).run Tryz.prog W = .ok (.slice (some ⟨W.heap.size, 0, none⟩) n n) (W.alloc (.cells (pgRow (List.replicate n (⟨.blank, none⟩ : Cl))).toArray 225)) := by
 obtain ⟨i0, hi0, hp0⟩ := Option.map_eq_some_iff.1 info71
 simp only [Prod.mk.injEq] at hp0
 obtain ⟨hz0, hz1, hz2⟩ := hp0
 have h := run_make (P := Tryz.prog) W 90 225 i0 _ Tryz.underlying90 hi0 hz0 .i64 .i64 (n : Int) (n : Int) (by omega) (by omega) (by rw [hz2]; omega) (by omega)
 rw [h]
 simp only [Int.toNat_natCast, hz1]
 congr 3
 apply Array.ext'
 rw [pgRow_fresh]
 exact made_two _ _ n
theorem new_any (n : Nat) (h1 : 1 <= n) (h2 : n <= 4096) (w : World) :
  Calls Tryz.prog 10 #[.int .i64 n] w fun e w' => e = .returned (.tuple #[.pointer (some ⟨w.heap.size + 1, 0, none⟩), .int .i64 0]) /\ DvIn w' (w.heap.size + 1) w.heap.size [] none 0 (Dv.fresh n) /\ Below w.heap.size w w' := by
 have hmk := makePages n h2
 have hz1 : ¬ (n : Int) < 1 := by omega
 have hz2 : ¬ (4096 : Int) < (n : Int) := by omega
 have H2 := hide h2
 clear h1 h2
 generalize hZ : (pgRow (List.replicate n (⟨.blank, none⟩ : Cl))).toArray = Z at hmk
 have HZ := hide hZ
 clear hZ
 go_enter Tryz.func10, Tryz.ntmps10
 go_wp2
 go_ret2
 refine ⟨rfl, ⟨?_, ?_, ?_, by omega, (fun a ha => by cases ha), Dv.fresh_good n H2.out⟩, ((Below.refl _ _).alloc (Nat.le_refl _) _).alloc (by rw [nblk_alloc]; omega) _⟩
 ·have hw : wl 0 (Dv.fresh n).cs = [] := wl_fresh n 0
  have hl : (Dv.fresh n).cs.length = n := by simp [Dv.fresh]
  rw [hw]
  unfold Blk dvCells
  rw [hl]
  have := blk_alloc_new (w.alloc (.cells Z 225)) (.cells #[.slice (some ⟨w.heap.size, 0, none⟩) n n, .slice none 0 0, .int .i64 0, .bool false, .int .i64 0, .int .i64 0, .int .i64 0, .int .i64 0, .int .i64 0] 95)
  rw [nblk_alloc] at this
  exact this
 ·rw [List.append_nil]
  refine Blk.alloc ?_ _
  unfold Blk
  have e : (pgRow (Dv.fresh n).cs).toArray = Z := HZ.out
  rw [e]
  exact blk_alloc_new _ _
 ·have hw : wl 0 (Dv.fresh n).cs = [] := wl_fresh n 0
  rw [hw]
  exact World.ownsRow_nil _ _ _ _
end Go.Proofs.YtcdghalnneilpaaGreat
