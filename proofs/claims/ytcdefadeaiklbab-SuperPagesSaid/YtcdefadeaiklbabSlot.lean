/- 'slot': a page's block. -/
import Derived.Test.YtcdefadeaiklbabDecodeB
import Derived.Test.YtcdefadeaiklbabNew
set_option linter.unusedVariables false
set_option linter.unusedSimpArgs false
set_option maxRecDepth 8000
namespace Go.Proofs.Ytcdefadeaiklbab
open Go.RowKit Go.Deep Math

def pgBk : Pg → Option Bk
  | ⟨some (some b)⟩ => dec (full b).data.toList
  | _ => none
def Dv.slotB (S : Dv) (k : Nat) : Option Bk := match S.cs[k]? with
  | some c => pgBk c.now
  | none => none
def slotV : Option Bk → Value
  | none => bkV Bk.zero 5
  | some b => bkV b 0
theorem has_nat {S : Dv} {k : Nat} (hk : k < S.cs.length) : S.has (k : Int) = true := by
  unfold Dv.has
  simp
  exact hk
theorem read_facts {S : Dv} {k : Nat} {c : Cl} (hk : S.cs[k]? = some c) (hoff : S.off = false) : S.readErr (k : Int) = c.now.err ∧ S.readText (k : Int) = c.now.read := by
  have hlt : k < S.cs.length := (List.getElem?_eq_some_iff.1 hk).1
  constructor
  · simp [Dv.readErr, has_nat hlt, hoff, hk]
  · simp [Dv.readText, has_nat hlt, hoff, hk]
theorem read_whole {d : Nat} {F : List Nat} {S : Dv} {k : Nat} {c : Cl} {b : ByteArray} (hk : S.cs[k]? = some c) (hoff : S.off = false) (hc : c.now = .whole b) (w : World) (h : DvAt w d F S) :
    Calls Try.prog 11 #[.pointer (some ⟨d, 0, none⟩), .int .i64 (k : Nat)] w fun e w' => ∃ g, e = .returned (.tuple #[.slice (some ⟨g, 0, none⟩) 384 384, .int .i64 0]) ∧ w.heap.size ≤ g ∧
      BS w' (some ⟨g, 0, none⟩) 384 384 (full b).data.toList ∧ DvAt w' d F (S.readDo (k : Nat)) ∧ Keep F w w' := by
  obtain ⟨e1, e2⟩ := read_facts hk hoff
  rw [hc] at e1 e2
  refine (read_at d F S k w h).mono ?_
  rintro r w1 ⟨v, rfl, hr, hd1, kp1⟩
  rw [e1, e2] at hr
  rw [e1]
  rcases hr with ⟨h0, _⟩ | ⟨_, hsz, g, hg, rfl, hb⟩
  · exact absurd rfl h0
  · have hsz' : (full b).data.toList.length = 384 := by rw [Array.length_toList]; exact hsz
    refine ⟨g, rfl, hg, buf_bs ?_ hsz'.symm (Nat.le_refl _), hd1, kp1⟩
    unfold Buf
    rw [show zc 0 = [] from rfl, List.append_nil]
    exact hb
theorem read_bare {d : Nat} {F : List Nat} {S : Dv} {k : Nat} {c : Cl} {p : Pg} {e0 : Int} (hk : S.cs[k]? = some c) (hoff : S.off = false) (hc : c.now = p) (he : p.err = e0) (h0 : e0 ≠ 0) (w : World) (h : DvAt w d F S) :
    Calls Try.prog 11 #[.pointer (some ⟨d, 0, none⟩), .int .i64 (k : Nat)] w fun e w' => e = .returned (.tuple #[.slice none 0 0, .int .i64 e0]) ∧ DvAt w' d F (S.readDo (k : Nat)) ∧ Keep F w w' := by
  obtain ⟨e1, e2⟩ := read_facts hk hoff
  rw [hc, he] at e1
  refine (read_at d F S k w h).mono ?_
  rintro r w1 ⟨v, rfl, hr, hd1, kp1⟩
  rw [e1] at hr ⊢
  rcases hr with ⟨_, rfl, _⟩ | ⟨h1, _⟩
  · exact ⟨rfl, hd1, kp1⟩
  · exact absurd h1 h0
theorem DvAt.alloc {w : World} {d : Nat} {F : List Nat} {S : Dv} (h : DvAt w d F S) (o : Obj) : DvAt (w.alloc o) d F S := h.same (fun k hk => blk_alloc_lt _ _ _ (h.lt k hk))
theorem DvAt.below {w w' : World} {d : Nat} {F : List Nat} {S : Dv} (h : DvAt w d F S) (b : Below w.heap.size w w') : DvAt w' d F S := h.same (fun k hk => b.block k (h.lt k hk))
theorem DvAt.new {w : World} {d : Nat} {F : List Nat} {S : Dv} (h : DvAt w d F S) (k : Nat) (hk : w.heap.size ≤ k) : k ∉ F := fun hf => by have := h.lt k hf; omega
def bkL (b : Bk) : List Value := [.int .u64 b.seq, .int .u64 b.epoch, .int .u64 b.res, .int .u64 b.hor, .int .u64 b.gen, .bool b.clean, .int .i64 b.image]

/-- Seven stores: a block into its box. -/
def put7 (w : World) (g : Nat) (b : Bk) : World :=
  ((((((w.setCell ⟨g, 0, none⟩ (.int .u64 b.seq)).setCell ⟨g, 1, none⟩ (.int .u64 b.epoch)).setCell ⟨g, 2, none⟩ (.int .u64 b.res)).setCell ⟨g, 3, none⟩ (.int .u64 b.hor)).setCell ⟨g, 4, none⟩ (.int .u64 b.gen)).setCell ⟨g, 5, none⟩ (.bool b.clean)).setCell ⟨g, 6, none⟩ (.int .i64 b.image)
theorem put7_keep {F : List Nat} {a w : World} {g : Nat} (h : Keep F a w) (hg : g ∈ F ∨ a.heap.size ≤ g) (b : Bk) : Keep F a (put7 w g b) :=
  ((((((h.setCell hg _).setCell hg _).setCell hg _).setCell hg _).setCell hg _).setCell hg _).setCell hg _
theorem put7_size (w : World) (g : Nat) (b : Bk) : (put7 w g b).heap.size = w.heap.size := by
  unfold put7
  simp only [nblk_setCell]
theorem put7_far (w : World) (g k : Nat) (b : Bk) (h : k ≠ g) : (put7 w g b).heap[k]? = w.heap[k]? := by
  unfold put7
  rw [blk_setCell_other _ _ _ _ h, blk_setCell_other _ _ _ _ h, blk_setCell_other _ _ _ _ h, blk_setCell_other _ _ _ _ h, blk_setCell_other _ _ _ _ h, blk_setCell_other _ _ _ _ h, blk_setCell_other _ _ _ _ h]
theorem put7_dv {w : World} {d g : Nat} {F : List Nat} {S : Dv} (h : DvAt w d F S) (hg : g ∉ F) (b : Bk) : DvAt (put7 w g b) d F S :=
  h.same (fun k hk => put7_far _ _ _ _ (fun e => hg (e ▸ hk)))
theorem put7_blk {w : World} {g : Nat} {x : Bk} (h : Blk w g (bkL x) 24) (b : Bk) : Blk (put7 w g b) g (bkL b) 24 :=
  ((((((h.set 0 _).set 1 _).set 2 _).set 3 _).set 4 _).set 5 _).set 6 _
theorem cells7 {w : World} {g : Nat} {b : Bk} (h : Blk w g (bkL b) 24) :
    w.cell? ⟨g, 0, none⟩ = some (.int .u64 b.seq) ∧ w.cell? ⟨g, 1, none⟩ = some (.int .u64 b.epoch) ∧ w.cell? ⟨g, 2, none⟩ = some (.int .u64 b.res) ∧ w.cell? ⟨g, 3, none⟩ = some (.int .u64 b.hor) ∧ w.cell? ⟨g, 4, none⟩ = some (.int .u64 b.gen) ∧ w.cell? ⟨g, 5, none⟩ = some (.bool b.clean) ∧ w.cell? ⟨g, 6, none⟩ = some (.int .i64 b.image) ∧
    w.frozen? ⟨g, 0, none⟩ = false ∧ w.frozen? ⟨g, 1, none⟩ = false ∧ w.frozen? ⟨g, 2, none⟩ = false ∧ w.frozen? ⟨g, 3, none⟩ = false ∧ w.frozen? ⟨g, 4, none⟩ = false ∧ w.frozen? ⟨g, 5, none⟩ = false ∧ w.frozen? ⟨g, 6, none⟩ = false :=
  ⟨h.cell rfl, h.cell rfl, h.cell rfl, h.cell rfl, h.cell rfl, h.cell rfl, h.cell rfl, h.frozen 0, h.frozen 1, h.frozen 2, h.frozen 3, h.frozen 4, h.frozen 5, h.frozen 6⟩
theorem cells7z {w : World} {g : Nat} (h : Blk w g (bkL Bk.zero) 24) :
    w.cell? ⟨g, 0, none⟩ = some (.int .u64 0) ∧ w.cell? ⟨g, 1, none⟩ = some (.int .u64 0) ∧ w.cell? ⟨g, 2, none⟩ = some (.int .u64 0) ∧ w.cell? ⟨g, 3, none⟩ = some (.int .u64 0) ∧ w.cell? ⟨g, 4, none⟩ = some (.int .u64 0) ∧ w.cell? ⟨g, 5, none⟩ = some (.bool false) ∧ w.cell? ⟨g, 6, none⟩ = some (.int .i64 0) ∧
    w.frozen? ⟨g, 0, none⟩ = false ∧ w.frozen? ⟨g, 1, none⟩ = false ∧ w.frozen? ⟨g, 2, none⟩ = false ∧ w.frozen? ⟨g, 3, none⟩ = false ∧ w.frozen? ⟨g, 4, none⟩ = false ∧ w.frozen? ⟨g, 5, none⟩ = false ∧ w.frozen? ⟨g, 6, none⟩ = false := cells7 h

set_option maxHeartbeats 1000000 in
theorem slot_any (d : Nat) (F : List Nat) (S : Dv) (k : Nat) (hk : k < S.cs.length) (hoff : S.off = false) (w : World) (h : DvAt w d F S) :
    Calls Try.prog 19 #[.pointer (some ⟨d, 0, none⟩), .int .i64 (k : Nat)] w fun e w' => e = .returned (slotV (S.slotB k)) ∧ DvAt w' d F (S.readDo (k : Nat)) ∧ Keep F w w' := by
  obtain ⟨c, hc⟩ : ∃ c, S.cs[k]? = some c := ⟨_, List.getElem?_eq_getElem hk⟩
  have hA : DvAt (w.alloc (.cells #[.int .u64 0, .int .u64 0, .int .u64 0, .int .u64 0, .int .u64 0, .bool false, .int .i64 0] 24)) d F S := h.alloc _
  have hz : Blk (w.alloc (.cells #[.int .u64 0, .int .u64 0, .int .u64 0, .int .u64 0, .int .u64 0, .bool false, .int .i64 0] 24)) w.heap.size (bkL Bk.zero) 24 := Blk.new _ _ _
  have NF := hide (h.new w.heap.size (Nat.le_refl _))
  have KA : Hid (Keep F w (w.alloc (.cells #[.int .u64 0, .int .u64 0, .int .u64 0, .int .u64 0, .int .u64 0, .bool false, .int .i64 0] 24))) := (Keep.refl F w).alloc _
  have HZ := hide hz
  have SB : Hid (S.slotB k = pgBk c.now) := by show _ = _; unfold Dv.slotB; rw [hc]
  cases hp : c.now using Pg.elim3 with
  | blank =>
    have c1 := hide (read_bare (e0 := 5) hc hoff hp rfl (by decide) _ hA)
    rw [hp] at SB
    have SB2 : Hid (S.slotB k = none) := SB.out
    clear hA hz h hk hoff hc hp SB
    go_enter Try.func19, Try.ntmps19
    go_wp2_with (first
      | (go_at_call 11; refine c1.out.mono ?_; rintro r w1 ⟨rfl, hd1, kp1⟩; have HD := hide hd1; have HK := hide kp1; have hb := HZ.out.same (kp1.block _ HZ.out.lt NF.out); have HB := hide hb; obtain ⟨z0, z1, z2, z3, z4, z5, z6, f0, f1, f2, f3, f4, f5, f6⟩ := cells7z hb; clear hd1 kp1 hb))
    rw [SB2.out]
    refine bodyPost_ret (v := bkV Bk.zero 5) (by simp [results, Try.results19, go_sem, bkV, Bk.zero, *]) rfl ⟨rfl, ?_, ?_⟩
    · exact put7_dv HD.out NF.out Bk.zero
    · exact put7_keep (KA.out.trans HK.out (fun x hx => .inl hx)) (.inr (Nat.le_refl _)) Bk.zero
  | torn =>
    have c1 := hide (read_bare (e0 := 6) hc hoff hp rfl (by decide) _ hA)
    rw [hp] at SB
    have SB2 : Hid (S.slotB k = none) := SB.out
    clear hA hz h hk hoff hc hp SB
    go_enter Try.func19, Try.ntmps19
    go_wp2_with (first
      | (go_at_call 11; refine c1.out.mono ?_; rintro r w1 ⟨rfl, hd1, kp1⟩; have HD := hide hd1; have HK := hide kp1; have hb := HZ.out.same (kp1.block _ HZ.out.lt NF.out); have HB := hide hb; obtain ⟨z0, z1, z2, z3, z4, z5, z6, f0, f1, f2, f3, f4, f5, f6⟩ := cells7z hb; clear hd1 kp1 hb))
    rw [SB2.out]
    refine bodyPost_ret (v := bkV Bk.zero 5) (by simp [results, Try.results19, go_sem, bkV, Bk.zero, *]) rfl ⟨rfl, ?_, ?_⟩
    · exact put7_dv HD.out NF.out Bk.zero
    · exact put7_keep (KA.out.trans HK.out (fun x hx => .inl hx)) (.inr (Nat.le_refl _)) Bk.zero
  | whole b =>
    have c1 := hide (read_whole hc hoff hp _ hA)
    rw [hp] at SB
    have hsz : (w.alloc (.cells #[.int .u64 0, .int .u64 0, .int .u64 0, .int .u64 0, .int .u64 0, .bool false, .int .i64 0] 24)).heap.size = w.heap.size + 1 := nblk_alloc _ _
    have HS := hide hsz
    have cd : Hid (∀ (W : World) (g : Nat), BS W (some ⟨g, 0, none⟩) 384 384 (full b).data.toList → Calls Try.prog 9 #[.slice (some ⟨g, 0, none⟩) 384 384] W fun e w' => e = .returned (decV (dec (full b).data.toList)) ∧ Below W.heap.size W w') := fun W g hb => decode_any _ _ _ _ (by omega) W hb
    cases hd : dec (full b).data.toList with
    | none =>
      have SB2 : Hid (S.slotB k = none) := SB.out.trans hd
      rw [hd] at cd
      have cd2 : Hid (∀ (W : World) (g : Nat), BS W (some ⟨g, 0, none⟩) 384 384 (full b).data.toList → Calls Try.prog 9 #[.slice (some ⟨g, 0, none⟩) 384 384] W fun e w' => e = .returned (.tuple #[.agg #[.int .u64 0, .int .u64 0, .int .u64 0, .int .u64 0, .int .u64 0, .bool false, .int .i64 0], .int .i64 3]) ∧ Below W.heap.size W w') := cd.out
      clear hA hz h hk hoff hc hp SB hd hsz cd
      go_enter Try.func19, Try.ntmps19
      go_wp2_with (first
        | (go_at_call 11; refine c1.out.mono ?_; rintro r w1 ⟨g, rfl, hg, hbs, hd1, kp1⟩; have HD := hide hd1; have HK := hide kp1; have HBS := hide hbs; clear hg hbs hd1 kp1)
        | (go_at_call 9; refine (cd2.out _ _ HBS.out).mono ?_; rintro r w2 ⟨rfl, hb2⟩; have HB2 := hide hb2; have hb := (HZ.out.same (HK.out.block _ HZ.out.lt NF.out)).same (hb2.block _ (by have := HK.out.size; have := HZ.out.lt; omega)); have hlt := hb.lt; have HB := hide hb; obtain ⟨z0, z1, z2, z3, z4, z5, z6, f0, f1, f2, f3, f4, f5, f6⟩ := cells7z hb; clear hb2 hb))
      rw [SB2.out]
      refine bodyPost_ret (v := bkV Bk.zero 5) (by simp [results, Try.results19, go_sem, bkV, Bk.zero, *]) rfl ⟨rfl, ?_, ?_⟩
      · exact (put7_dv (HD.out.below HB2.out) NF.out Bk.zero).alloc _
      · exact (put7_keep (KA.out.trans (HK.out.trans (Keep.of_below (F := F) HB2.out) (fun x hx => .inl hx)) (fun x hx => .inl hx)) (.inr (Nat.le_refl _)) Bk.zero).alloc _
    | some x =>
      have SB2 : Hid (S.slotB k = some x) := SB.out.trans hd
      rw [hd] at cd
      have cd2 : Hid (∀ (W : World) (g : Nat), BS W (some ⟨g, 0, none⟩) 384 384 (full b).data.toList → Calls Try.prog 9 #[.slice (some ⟨g, 0, none⟩) 384 384] W fun e w' => e = .returned (.tuple #[.agg #[.int .u64 x.seq, .int .u64 x.epoch, .int .u64 x.res, .int .u64 x.hor, .int .u64 x.gen, .bool x.clean, .int .i64 x.image], .int .i64 0]) ∧ Below W.heap.size W w') := cd.out
      clear hA hz h hk hoff hc hp SB hd hsz cd
      go_enter Try.func19, Try.ntmps19
      go_wp2_with (first
        | (go_at_call 11; refine c1.out.mono ?_; rintro r w1 ⟨g, rfl, hg, hbs, hd1, kp1⟩; have HD := hide hd1; have HK := hide kp1; have HBS := hide hbs; clear hg hbs hd1 kp1)
        | (go_at_call 9; refine (cd2.out _ _ HBS.out).mono ?_; rintro r w2 ⟨rfl, hb2⟩; have HB2 := hide hb2; have hb := (HZ.out.same (HK.out.block _ HZ.out.lt NF.out)).same (hb2.block _ (by have := HK.out.size; have := HZ.out.lt; omega)); have hlt := hb.lt; have HB := hide hb; obtain ⟨z0, z1, z2, z3, z4, z5, z6, f0, f1, f2, f3, f4, f5, f6⟩ := cells7z hb; clear hb2 hb))
      rw [SB2.out]
      refine bodyPost_ret (v := bkV x 0) (by simp [results, Try.results19, go_sem, bkV, *]) rfl ⟨rfl, ?_, ?_⟩
      · exact (put7_dv (HD.out.below HB2.out) NF.out x).alloc _
      · exact (put7_keep (KA.out.trans (HK.out.trans (Keep.of_below (F := F) HB2.out) (fun x hx => .inl hx)) (fun x hx => .inl hx)) (.inr (Nat.le_refl _)) x).alloc _
end Go.Proofs.Ytcdefadeaiklbab
