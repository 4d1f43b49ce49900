/-
  Proof of the law 'SuperPlays'.
-/
import Derived.WalkKit
import Derived.Below
import Derived.Test.YtcdefadeaiklbaaRefStoreD
import Derived.Test.YtcdefadeaiklbaaPuts
import Derived.Deep.RegionHeld
namespace Go.Proofs.Ytcdefadeaiklbaa.superPlays
open Go.RowKit Go.Deep
set_option linter.unusedVariables false
set_option linter.unusedSimpArgs false

theorem neq37 (x : Bk) (W : World) : (binOp .neq 37 (.agg #[.int .u64 x.seq, .int .u64 x.epoch, .int .u64 x.res, .int .u64 x.hor, .int .u64 x.gen, .bool x.clean, .int .i64 x.image]) (.agg #[.int .u64 x.seq, .int .u64 x.epoch, .int .u64 x.res, .int .u64 x.hor, .int .u64 x.gen, .bool x.clean, .int .i64 x.image])).run Try.prog W = .ok (.bool false) W := by
  simp [go_sem]
/-- Both devices that a law holds. -/
structure PL (w : World) (d r : Nat) (F G : List Nat) (S T : Dv) (W : World) : Prop where
  pair : Pair W d r F G S T
  lowF : ∀ k ∈ F, w.heap.size ≤ k
  lowG : ∀ k ∈ G, w.heap.size ≤ k
  bel : Below w.heap.size w W
theorem PL.step1 {w W W' : World} {d r : Nat} {F F' G : List Nat} {S S' T : Dv} (h : PL w d r F G S T W) (hd : DvAt W' d F' S') (m : Moves F F' W W') : PL w d r F' G S' T W' := by
  have hs := h.bel.size
  refine ⟨h.pair.step1 hd m, fun k hk => ?_, h.lowG, h.bel.trans (m.keep.below h.lowF hs)⟩
  rcases m.foot k hk with h1 | h1
  · exact h.lowF k h1
  · omega
theorem PL.step2 {w W W' : World} {d r : Nat} {F G G' : List Nat} {S T T' : Dv} (h : PL w d r F G S T W) (hr : RfAt W' r G' T') (m : Moves G G' W W') : PL w d r F G' S T' W' := by
  have hs := h.bel.size
  refine ⟨h.pair.step2 hr m, h.lowF, fun k hk => ?_, h.bel.trans (m.keep.below h.lowG hs)⟩
  rcases m.foot k hk with h1 | h1
  · exact h.lowG k h1
  · omega
theorem PL.below {w W W' : World} {d r : Nat} {F G : List Nat} {S T : Dv} (h : PL w d r F G S T W) (b : Below W.heap.size W W') : PL w d r F G S T W' :=
  ⟨h.pair.below b, h.lowF, h.lowG, h.bel.trans (b.mono h.bel.size)⟩
theorem PL.alloc {w W : World} {d r : Nat} {F G : List Nat} {S T : Dv} (h : PL w d r F G S T W) (o : Obj) : PL w d r F G S T (W.alloc o) := h.below ((Below.refl _ _).alloc (Nat.le_refl _) o)
/-- A variable of the law's, apart from both. -/
structure HP (W : World) (F G : List Nat) (k : Nat) (L : List Value) (t : TypeId) : Prop where
  blk : Blk W k L t
  f : k ∉ F
  g : k ∉ G
theorem HP.step1 {W W' : World} {F F' G : List Nat} {k : Nat} {L : List Value} {t : TypeId} (h : HP W F G k L t) (m : Moves F F' W W') : HP W' F' G k L t := by
  have hl := h.blk.lt
  refine ⟨h.blk.same (m.keep.block _ hl h.f), fun hf => ?_, h.g⟩
  rcases m.foot k hf with h1 | h1
  · exact h.f h1
  · omega
theorem HP.step2 {W W' : World} {F G G' : List Nat} {k : Nat} {L : List Value} {t : TypeId} (h : HP W F G k L t) (m : Moves G G' W W') : HP W' F G' k L t := by
  have hl := h.blk.lt
  refine ⟨h.blk.same (m.keep.block _ hl h.g), h.f, fun hf => ?_⟩
  rcases m.foot k hf with h1 | h1
  · exact h.g h1
  · omega
theorem HP.below {W W' : World} {F G : List Nat} {k : Nat} {L : List Value} {t : TypeId} (h : HP W F G k L t) (b : Below W.heap.size W W') : HP W' F G k L t := ⟨h.blk.same (b.block _ h.blk.lt), h.f, h.g⟩
theorem HP.alloc {W : World} {F G : List Nat} {k : Nat} {L : List Value} {t : TypeId} (h : HP W F G k L t) (o : Obj) : HP (W.alloc o) F G k L t := h.below ((Below.refl _ _).alloc (Nat.le_refl _) o)
theorem PL.hold {w W : World} {d r : Nat} {F G : List Nat} {S T : Dv} (h : PL w d r F G S T W) (L : List Value) (t : TypeId) : HP (W.alloc (.cells L.toArray t)) F G W.heap.size L t :=
  ⟨Blk.new _ _ _, h.pair.dev.new _ (Nat.le_refl _), h.pair.ref.new _ (Nat.le_refl _)⟩
theorem PL.putb {w W : World} {d r g : Nat} {F G : List Nat} {S T : Dv} (h : PL w d r F G S T W) (hf : g ∉ F) (hg : g ∉ G) (h0 : w.heap.size ≤ g) (b : Bk) : PL w d r F G S T (put7 W g b) := by
  refine ⟨⟨put7_dv h.pair.dev hf b, put7_rf h.pair.ref hg b, fun k hk => ?_⟩, h.lowF, h.lowG, ((((((h.bel.setCell h0 _).setCell h0 _).setCell h0 _).setCell h0 _).setCell h0 _).setCell h0 _).setCell h0 _⟩
  rw [put7_size]
  exact h.pair.apart k hk
theorem HP.putb {W : World} {F G : List Nat} {g : Nat} {x : Bk} {t : TypeId} (h : HP W F G g (bkL x) t) (b : Bk) : HP (put7 W g b) F G g (bkL b) t := ⟨put7_blkT h.blk b, h.f, h.g⟩
theorem HP.far {W : World} {F G : List Nat} {g k : Nat} {L : List Value} {t : TypeId} (h : HP W F G k L t) (hk : k ≠ g) (b : Bk) : HP (put7 W g b) F G k L t := ⟨h.blk.same (put7_far W g k b hk), h.f, h.g⟩
theorem rarm_at (r : Nat) (G : List Nat) (S : Dv) (w : World) (h : RfAt w r G S) (k : Int) (hk : k ≤ 9223372036854775807) :
    Calls Try.prog 20 #[.pointer (some ⟨r, 0, none⟩), .int .i64 k] w fun e w' => e = .returned (.tuple #[]) ∧ RfAt w' r G (S.arm k) ∧ Moves G G w w' := by
  obtain ⟨L, rfl, h⟩ := h
  refine (rarm_any r L S w h k hk).mono ?_
  rintro e w' ⟨rfl, h', k'⟩
  exact ⟨rfl, ⟨L, rfl, h'⟩, Moves.of_keep (k'.mono (fun x hx => .inl (by simp at hx; simp [rfoot, hx])))⟩
theorem darm_at (d : Nat) (F : List Nat) (S : Dv) (w : World) (h : DvAt w d F S) (k : Int) (hk : k ≤ 9223372036854775807) :
    Calls Try.prog 19 #[.pointer (some ⟨d, 0, none⟩), .int .i64 k] w fun e w' => e = .returned (.tuple #[]) ∧ DvAt w' d F (S.arm k) ∧ Moves F F w w' := by
  obtain ⟨p, pd, wa, wc, rfl, h⟩ := h
  refine (arm_any d p pd wa wc S w h k hk).mono ?_
  rintro e w' ⟨rfl, h', k'⟩
  exact ⟨rfl, ⟨p, pd, wa, wc, rfl, h'⟩, Moves.of_keep (k'.mono (fun x hx => .inl (by simp at hx; simp [foot, hx])))⟩
theorem picks_at {w W : World} {a : Option Addr} {n cap : Nat} {l : List UInt8} (hb : BS w a n cap l) (hnil : a = none → l = []) (b : Below w.heap.size w W) : ∃ bb, BSlice W a l bb ∧ (l ≠ [] → bb < w.heap.size) := by
  have hb' := hb.later b
  cases a with
  | none => exact ⟨0, .inl (hnil rfl), fun hl => absurd (hnil rfl) hl⟩
  | some x =>
    by_cases hl : l = []
    · exact ⟨0, .inl hl, fun h => absurd hl h⟩
    · have hpos : 0 < l.length := List.length_pos_iff.2 hl
      obtain ⟨b', o', ha, hlt, hc⟩ := hb.cell 0 (by have := hb.len; omega)
      cases ha
      exact ⟨b', hb'.slice, fun _ => hlt⟩
theorem loadV_is (S : Dv) : ∃ (x : Bk) (e : Int), S.loadV = .tuple #[.agg #[.int .u64 x.seq, .int .u64 x.epoch, .int .u64 x.res, .int .u64 x.hor, .int .u64 x.gen, .bool x.clean, .int .i64 x.image], .int .i64 e] := by
  unfold Dv.loadV
  split
  · exact ⟨Bk.zero, 1, rfl⟩
  · split
    · exact ⟨Bk.zero, 4, rfl⟩
    · cases S.loadB with
      | none => exact ⟨Bk.zero, 5, rfl⟩
      | some x => exact ⟨x, 0, rfl⟩
theorem PL.both {w W W' : World} {d r : Nat} {F G : List Nat} {S T S' T' : Dv} (h : PL w d r F G S T W) (hp : Pair W' d r F G S' T') (m : Moves (F ++ G) (F ++ G) W W') : PL w d r F G S' T' W' :=
  ⟨hp, h.lowF, h.lowG, h.bel.trans (m.keep.below (fun k hk => by rcases List.mem_append.1 hk with h1 | h1; exact h.lowF k h1; exact h.lowG k h1) h.bel.size)⟩
theorem HP.both {W W' : World} {F G : List Nat} {k : Nat} {L : List Value} {t : TypeId} (h : HP W F G k L t) (m : Moves (F ++ G) (F ++ G) W W') : HP W' F G k L t :=
  ⟨h.blk.same (m.keep.block _ h.blk.lt (fun hf => by rcases List.mem_append.1 hf with h1 | h1; exact h.f h1; exact h.g h1)), h.f, h.g⟩
def PlayAt (w : World) (d r : Nat) (wr : World) : Prop := ∃ F G S, PL w d r F G S S wr

set_option maxRecDepth 4000 in
set_option maxHeartbeats 4000000 in
theorem walk (a0 : Option Addr) (len0 cap0 : Nat) (z0 : List PutI) (w : World) (hw0 : PutsAt w a0 len0 z0) :
    Calls Try.prog 5 #[.slice a0 len0 cap0] w fun e w' => e = .returned (.bool true) ∧ Below w.heap.size w w' := by
  have ca := hide (awake_any w)
  have hn := hw0.len
  by_cases hlen : 30 < len0
  · have hlt : ((30 : Int) < (len0 : Int)) = True := eq_true (by omega)
    clear hw0 hlen hn
    go_enter Try.func5, Try.ntmps5
    go_wp2_with fail
    refine ca.out.mono ?_
    rintro r w1 ⟨rfl, h1⟩
    have B1 := hide h1
    clear h1 ca
    go_wp2
    go_ret
    exact ⟨rfl, B1.out⟩
  have hlt : ((30 : Int) < (len0 : Int)) = False := eq_false (by omega)
  have HW := hide hw0
  have HN := hide hn
  have HL := hide hlen
  have cN : Hid (∀ W : World, Calls Try.prog 10 #[.int .i64 3] W fun e W' => ∃ d F, e = .returned (.tuple #[.pointer (some ⟨d, 0, none⟩), .int .i64 0]) ∧ Law W d F (Dv.fresh 3) W' ∧ Below W.heap.size W W') := fun W =>
    new_law (Below.refl _ _) 3 (by omega) (by omega)
  have cR : Hid (∀ W : World, Calls Try.prog 18 #[.int .i64 3] W fun e w' => ∃ r G, e = .returned (.pointer (some ⟨r, 0, none⟩)) ∧ RfAt w' r G (Dv.fresh 3) ∧ (∀ k ∈ G, W.heap.size ≤ k) ∧ Below W.heap.size W w') := fun W => rnew_at 3 (by omega) W
  clear hw0 hlen hn
  go_enter Try.func5, Try.ntmps5
  go_wp2_with fail
  refine ca.out.mono ?_
  rintro q w1 ⟨rfl, h1⟩
  have B1 := hide h1
  clear h1 ca
  go_wp2_with fail
  refine (cN.out _).mono ?_
  rintro q w2 ⟨d, F2, rfl, hl, hb⟩
  have L2 := hide hl
  have B2 := hide (B1.out.trans (hb.mono B1.out.size))
  clear hl hb cN hlt
  go_wp2_with fail
  refine (cR.out _).mono ?_
  rintro q w3 ⟨r, G3, rfl, hrf, hlow, hb⟩
  have P3 : Hid (PL w d r F2 G3 (Dv.fresh 3) (Dv.fresh 3) w3) := ⟨⟨L2.out.dev.below hb, hrf, fun k hk => ⟨hrf.lt k hk, fun hf => by have := L2.out.dev.lt k hf; have := hlow k hk; omega⟩⟩, fun k hk => Nat.le_trans B1.out.size (L2.out.low k hk), fun k hk => Nat.le_trans B2.out.size (hlow k hk), B2.out.trans (hb.mono B2.out.size)⟩
  clear hrf hlow hb L2 B1 B2 cR
  go_wp2_with fail
  go_loopg [6] len0 (fun kx s6 wr => ∃ i : Nat, s6 = .int .i64 i ∧ i ≤ len0 ∧ len0 - i ≤ kx ∧ Hid (PlayAt w d r wr))
  case atStart => exact ⟨0, rfl, Nat.zero_le _, by omega, F2, G3, _, P3.out⟩
  case round =>
    obtain ⟨i, rfl, hin, hg, I⟩ := hrel
    by_cases hlt : i < len0
    · have hlt2 : (i : Int) < (len0 : Int) := by omega
      obtain ⟨t, hx⟩ : ∃ x, z0[i]? = some x := ⟨_, List.getElem?_eq_getElem (by have := HN.out; omega)⟩
      have hok := HW.out.ok t (List.mem_of_getElem? hx)
      obtain ⟨F, G, S, hp⟩ := I.out
      obtain ⟨bb, oo, rfl, hbb, hcell⟩ := HW.out.cell i t hx
      have key : ∀ j v, (putL t)[j]? = some v → wr.cell? ⟨bb, oo + i * 10 + j, none⟩ = some v := fun j v hv => (hp.bel.cell (p := ⟨bb, oo + i * 10 + j, none⟩) hbb).trans (hcell j v hv)
      have c0 := key 0 _ rfl
      rw [Nat.add_zero] at c0
      have c1 := key 1 _ rfl
      have c2 := key 2 _ rfl
      have c3 := key 3 _ rfl
      have c4 := key 4 _ rfl
      have c5 := key 5 _ rfl
      have c6 := key 6 _ rfl
      have c7 := key 7 _ rfl
      have c8 := key 8 _ rfl
      have c9 := key 9 _ rfl
      have hi30 : (i : Int) < 31 := by have := HL.out; omega
      have HOK := hide hok
      have HG := hide hg
      have P4 := hide hp
      have LO := hide hp.bel.size
      clear hg hx hok I hp key hcell
      have HX := hide (P4.out.hold (putL t) 46)
      have cA := hide (darm_at d F S _ (P4.out.alloc (.cells #[.int .i64 t.arm, .int .u64 t.b.seq, .int .u64 t.b.epoch, .int .u64 t.b.res, .int .u64 t.b.hor, .int .u64 t.b.gen, .bool t.b.clean, .int .i64 t.b.image, .slice t.a t.n t.cap, .bool t.crash] 46)).pair.dev t.arm HOK.out.arm)
      go_wp2_with fail
      refine cA.out.mono ?_
      rintro q w5 ⟨rfl, hd5, m5⟩
      have P5 := hide ((P4.out.alloc (.cells #[.int .i64 t.arm, .int .u64 t.b.seq, .int .u64 t.b.epoch, .int .u64 t.b.res, .int .u64 t.b.hor, .int .u64 t.b.gen, .bool t.b.clean, .int .i64 t.b.image, .slice t.a t.n t.cap, .bool t.crash] 46)).step1 hd5 m5)
      have HX5 := hide (HX.out.step1 m5)
      clear hd5 m5 cA c0 c1 c2 c3 c4 c5 c6 c7 c8 c9
      have cB := hide (rarm_at r G S _ P5.out.pair.ref t.arm HOK.out.arm)
      have x0 := HX5.out.blk.cell (i := 0) rfl
      go_wp2_with fail
      refine cB.out.mono ?_
      rintro q w6 ⟨rfl, hr6, m6⟩
      have P6 := hide (P5.out.step2 hr6 m6)
      have HX6 := hide (HX5.out.step2 m6)
      clear hr6 m6 cB x0 HX HX5 P4 P5
      generalize hS1 : S.arm t.arm = S1 at *
      clear hS1
      -- Store on the device
      obtain ⟨BB, hBB⟩ : ∃ BB, BB = S1.storeB t.b := ⟨_, rfl⟩
      obtain ⟨EE, hEE⟩ : ∃ EE, EE = S1.storeE := ⟨_, rfl⟩
      obtain ⟨S2, hS2⟩ : ∃ S2, S2 = S1.storeDo t.b := ⟨_, rfl⟩
      have cC : Hid (Calls Try.prog 12 #[.pointer (some ⟨d, 0, none⟩), .agg #[.int .u64 t.b.seq, .int .u64 t.b.epoch, .int .u64 t.b.res, .int .u64 t.b.hor, .int .u64 t.b.gen, .bool t.b.clean, .int .i64 t.b.image]] w6 fun e w' => e = .returned (.tuple #[.agg #[.int .u64 BB.seq, .int .u64 BB.epoch, .int .u64 BB.res, .int .u64 BB.hor, .int .u64 BB.gen, .bool BB.clean, .int .i64 BB.image], .int .i64 EE]) ∧ ∃ F', DvAt w' d F' S2 ∧ Moves F F' w6 w') := by
        rw [hBB, hEE, hS2]; exact store_any d F S1 t.b HOK.out.fits w6 P6.out.pair.dev
      have cD : Hid (∀ W : World, RfAt W r G S1 → Calls Try.prog 21 #[.pointer (some ⟨r, 0, none⟩), .agg #[.int .u64 t.b.seq, .int .u64 t.b.epoch, .int .u64 t.b.res, .int .u64 t.b.hor, .int .u64 t.b.gen, .bool t.b.clean, .int .i64 t.b.image]] W fun e w' => e = .returned (.tuple #[.agg #[.int .u64 BB.seq, .int .u64 BB.epoch, .int .u64 BB.res, .int .u64 BB.hor, .int .u64 BB.gen, .bool BB.clean, .int .i64 BB.image], .int .i64 EE]) ∧ ∃ G', RfAt w' r G' S2 ∧ Moves G G' W w') := fun W hW => by
        rw [hBB, hEE, hS2]; exact rstore_any r G S1 t.b HOK.out.fits W hW
      have cO := hide (own_any t.b)
      clear hBB hEE hS2
      obtain ⟨x1, x2, x3, x4, x5, x6, x7⟩ : w6.cell? ⟨wr.heap.size, 1, none⟩ = some (.int .u64 t.b.seq) ∧ w6.cell? ⟨wr.heap.size, 2, none⟩ = some (.int .u64 t.b.epoch) ∧ w6.cell? ⟨wr.heap.size, 3, none⟩ = some (.int .u64 t.b.res) ∧ w6.cell? ⟨wr.heap.size, 4, none⟩ = some (.int .u64 t.b.hor) ∧ w6.cell? ⟨wr.heap.size, 5, none⟩ = some (.int .u64 t.b.gen) ∧ w6.cell? ⟨wr.heap.size, 6, none⟩ = some (.bool t.b.clean) ∧ w6.cell? ⟨wr.heap.size, 7, none⟩ = some (.int .i64 t.b.image) := ⟨HX6.out.blk.cell rfl, HX6.out.blk.cell rfl, HX6.out.blk.cell rfl, HX6.out.blk.cell rfl, HX6.out.blk.cell rfl, HX6.out.blk.cell rfl, HX6.out.blk.cell rfl⟩
      have xlt := HX6.out.blk.lt
      go_wp2_with fail
      refine cC.out.mono ?_
      rintro q w7 ⟨rfl, F7, hd7, m7⟩
      have P7 := hide (P6.out.step1 hd7 m7)
      have HX7 := hide (HX6.out.step1 m7)
      have HB7 := hide (P7.out.hold (bkL BB) 29)
      have LB := hide P7.out.bel.size
      clear hd7 m7 cC x1 x2 x3 x4 x5 x6 x7 xlt HX6 P6
      obtain ⟨x1, x2, x3, x4, x5, x6, x7⟩ : w7.cell? ⟨wr.heap.size, 1, none⟩ = some (.int .u64 t.b.seq) ∧ w7.cell? ⟨wr.heap.size, 2, none⟩ = some (.int .u64 t.b.epoch) ∧ w7.cell? ⟨wr.heap.size, 3, none⟩ = some (.int .u64 t.b.res) ∧ w7.cell? ⟨wr.heap.size, 4, none⟩ = some (.int .u64 t.b.hor) ∧ w7.cell? ⟨wr.heap.size, 5, none⟩ = some (.int .u64 t.b.gen) ∧ w7.cell? ⟨wr.heap.size, 6, none⟩ = some (.bool t.b.clean) ∧ w7.cell? ⟨wr.heap.size, 7, none⟩ = some (.int .i64 t.b.image) := ⟨HX7.out.blk.cell rfl, HX7.out.blk.cell rfl, HX7.out.blk.cell rfl, HX7.out.blk.cell rfl, HX7.out.blk.cell rfl, HX7.out.blk.cell rfl, HX7.out.blk.cell rfl⟩
      have xlt := HX7.out.blk.lt
      go_wp2_with fail
      refine (cO.out _).mono ?_
      rintro q w8 ⟨rfl, hb8⟩
      have P8 := hide ((P7.out.alloc (.cells #[.int .u64 BB.seq, .int .u64 BB.epoch, .int .u64 BB.res, .int .u64 BB.hor, .int .u64 BB.gen, .bool BB.clean, .int .i64 BB.image] 29)).below hb8)
      have HX8 := hide ((HX7.out.alloc (.cells #[.int .u64 BB.seq, .int .u64 BB.epoch, .int .u64 BB.res, .int .u64 BB.hor, .int .u64 BB.gen, .bool BB.clean, .int .i64 BB.image] 29)).below hb8)
      have HB8 := hide (HB7.out.below hb8)
      clear hb8 cO x1 x2 x3 x4 x5 x6 x7 xlt HX7 HB7 P7
      go_wp2_with fail
      refine (cD.out _ P8.out.pair.ref).mono ?_
      rintro q w9 ⟨rfl, G9, hr9, m9⟩
      have P9 := hide (P8.out.step2 hr9 m9)
      have HX9 := hide (HX8.out.step2 m9)
      have HB9 := hide (HB8.out.step2 m9)
      have HC9 := hide (P9.out.hold (bkL BB) 37)
      have P10 := hide (P9.out.alloc (.cells #[.int .u64 BB.seq, .int .u64 BB.epoch, .int .u64 BB.res, .int .u64 BB.hor, .int .u64 BB.gen, .bool BB.clean, .int .i64 BB.image] 37))
      have HX10 := hide (HX9.out.alloc (.cells #[.int .u64 BB.seq, .int .u64 BB.epoch, .int .u64 BB.res, .int .u64 BB.hor, .int .u64 BB.gen, .bool BB.clean, .int .i64 BB.image] 37))
      have HB10 := hide (HB9.out.alloc (.cells #[.int .u64 BB.seq, .int .u64 BB.epoch, .int .u64 BB.res, .int .u64 BB.hor, .int .u64 BB.gen, .bool BB.clean, .int .i64 BB.image] 37))
      have LC := hide P9.out.bel.size
      have NE : Hid (w7.heap.size ≠ w9.heap.size) := by show _ ≠ _; have := HB9.out.blk.lt; omega
      clear hr9 m9 cD HX8 HB8 P8 P9 HX9 HB9
      have hq37 : ∀ W : World, (binOp .neq 37 (.agg #[.int .u64 BB.seq, .int .u64 BB.epoch, .int .u64 BB.res, .int .u64 BB.hor, .int .u64 BB.gen, .bool BB.clean, .int .i64 BB.image]) (.agg #[.int .u64 BB.seq, .int .u64 BB.epoch, .int .u64 BB.res, .int .u64 BB.hor, .int .u64 BB.gen, .bool BB.clean, .int .i64 BB.image])).run Try.prog W = .ok (.bool false) W := neq37 BB
      have hee : (EE != EE) = false := by simp
      have cO2 := hide (own_any BB)
      go_wp2_with fail
      obtain ⟨b0, b1, b2, b3, b4, b5, b6⟩ := cells7_at HB10.out.blk
      obtain ⟨y0, y1, y2, y3, y4, y5, y6⟩ := cells7_at HC9.out.blk
      go_region_held (fun W => W.cell? ⟨w7.heap.size, 0, none⟩ = some (.int .u64 BB.seq) ∧ W.cell? ⟨w7.heap.size, 1, none⟩ = some (.int .u64 BB.epoch) ∧ W.cell? ⟨w7.heap.size, 2, none⟩ = some (.int .u64 BB.res) ∧ W.cell? ⟨w7.heap.size, 3, none⟩ = some (.int .u64 BB.hor) ∧ W.cell? ⟨w7.heap.size, 4, none⟩ = some (.int .u64 BB.gen) ∧ W.cell? ⟨w7.heap.size, 5, none⟩ = some (.bool BB.clean) ∧ W.cell? ⟨w7.heap.size, 6, none⟩ = some (.int .i64 BB.image) ∧ W.cell? ⟨w9.heap.size, 0, none⟩ = some (.int .u64 BB.seq) ∧ W.cell? ⟨w9.heap.size, 1, none⟩ = some (.int .u64 BB.epoch) ∧ W.cell? ⟨w9.heap.size, 2, none⟩ = some (.int .u64 BB.res) ∧ W.cell? ⟨w9.heap.size, 3, none⟩ = some (.int .u64 BB.hor) ∧ W.cell? ⟨w9.heap.size, 4, none⟩ = some (.int .u64 BB.gen) ∧ W.cell? ⟨w9.heap.size, 5, none⟩ = some (.bool BB.clean) ∧ W.cell? ⟨w9.heap.size, 6, none⟩ = some (.int .i64 BB.image))
        (first | exact ⟨b0, b1, b2, b3, b4, b5, b6, y0, y1, y2, y3, y4, y5, y6⟩ | assumption)
        (first | (go_at_call 16; refine (cO2.out _).mono ?_; rintro q w11 ⟨rfl, hz⟩; have P11 := hide ((P10.out.below (Below.refl _ _).drew).below hz); have HX11 := hide ((HX10.out.below (Below.refl _ _).drew).below hz); have HB11 := hide ((HB10.out.below (Below.refl _ _).drew).below hz); have HC11 := hide ((HC9.out.below (Below.refl _ _).drew).below hz); clear hz b0 b1 b2 b3 b4 b5 b6 y0 y1 y2 y3 y4 y5 y6; obtain ⟨b0, b1, b2, b3, b4, b5, b6⟩ := cells7_at HB11.out.blk; obtain ⟨y0, y1, y2, y3, y4, y5, y6⟩ := cells7_at HC11.out.blk; have hS := And.intro b0 (And.intro b1 (And.intro b2 (And.intro b3 (And.intro b4 (And.intro b5 (And.intro b6 (And.intro y0 (And.intro y1 (And.intro y2 (And.intro y3 (And.intro y4 (And.intro y5 y6)))))))))))); clear b0 b1 b2 b3 b4 b5 b6 y0 y1 y2 y3 y4 y5 y6))
      clear hS hq37 hee cO2 P10 HX10 HB10 HC9
      have x9 := HX11.out.blk.cell (i := 9) rfl
      have x8 := HX11.out.blk.cell (i := 8) rfl
      have xlt := HX11.out.blk.lt
      have cP := hide (power_at d F7 S2 w11 P11.out.pair.dev)
      cases hcr : t.crash with
      | true =>
        rw [hcr] at x9
        clear hcr
        obtain ⟨bb2, hbs, hblt⟩ := picks_at HOK.out.bs HOK.out.nil P11.out.bel
        have HBS := hide hbs
        have HBL := hide hblt
        have hlen2 : t.n = t.pk.length := HOK.out.bs.len
        have HL2 := hide hlen2
        have cK := hide (crash_at d F7 S2 t.a t.n t.cap bb2 t.pk hlen2 (by have := HOK.out.len; omega) w11 hbs (fun h hf => by have := hblt h; have := P11.out.lowF _ hf; omega) P11.out.pair.dev)
        clear hbs hblt hlen2
        go_wp2_with fail
        clear x9 cP
        refine cK.out.mono ?_
        rintro q w12 ⟨rfl, F12, hd, m⟩
        have P12 := hide (P11.out.step1 hd m)
        have HX12 := hide (HX11.out.step1 m)
        have HB12 := hide (HB11.out.step1 m)
        have HC12 := hide (HC11.out.step1 m)
        clear hd m cK x8 xlt HX11 HB11 HC11 HBS
        obtain ⟨bb3, hbs, hblt⟩ := picks_at HOK.out.bs HOK.out.nil P12.out.bel
        have cK := hide (rcrash_at r G9 S2 t.a t.n t.cap bb3 t.pk HL2.out (by have := HOK.out.len; omega) w12 hbs (fun h hf => by have := hblt h; have := P12.out.lowG _ hf; omega) P12.out.pair.ref)
        clear hbs hblt
        have x8 := HX12.out.blk.cell (i := 8) rfl
        have xlt := HX12.out.blk.lt
        go_wp2_with fail
        refine cK.out.mono ?_
        rintro q w13 ⟨rfl, G13, hr, m⟩
        have P13 := hide (P12.out.step2 hr m)
        have HB13 := hide (HB12.out.step2 m)
        have HC13 := hide (HC12.out.step2 m)
        clear hr m cK x8 xlt HX12 HB12 HC12 P12
        have cK := hide (on_at d F12 _ w13 P13.out.pair.dev)
        go_wp2_with fail
        refine cK.out.mono ?_
        rintro q w14 ⟨rfl, F14, hd, m⟩
        have P14 := hide (P13.out.step1 hd m)
        have HB14 := hide (HB13.out.step1 m)
        have HC14 := hide (HC13.out.step1 m)
        clear hd m cK HB13 HC13 P13
        have cK := hide (ron_at r G13 _ w14 P14.out.pair.ref)
        go_wp2_with fail
        refine cK.out.mono ?_
        rintro q wA ⟨rfl, GA, hr, m⟩
        have PA := hide (P14.out.step2 hr m)
        have HBA := hide (HB14.out.step2 m)
        have HCA := hide (HC14.out.step2 m)
        clear hr m cK HB14 HC14 P14
        generalize (S2.crash t.pk).on = S4 at *
        obtain ⟨X, E2, hLV⟩ := loadV_is S4
        have cL : Hid (Calls Try.prog 11 #[.pointer (some ⟨d, 0, none⟩)] wA fun e w' => e = .returned (.tuple #[.agg #[.int .u64 X.seq, .int .u64 X.epoch, .int .u64 X.res, .int .u64 X.hor, .int .u64 X.gen, .bool X.clean, .int .i64 X.image], .int .i64 E2]) ∧ DvAt w' d F14 S4.loadDo ∧ Keep F14 wA w') := by
          have := load_any d F14 S4 wA PA.out.pair.dev
          rw [hLV] at this
          exact this
        have cM : Hid (∀ W : World, RfAt W r GA S4 → Calls Try.prog 27 #[.pointer (some ⟨r, 0, none⟩)] W fun e w' => e = .returned (.tuple #[.agg #[.int .u64 X.seq, .int .u64 X.epoch, .int .u64 X.res, .int .u64 X.hor, .int .u64 X.gen, .bool X.clean, .int .i64 X.image], .int .i64 E2]) ∧ RfAt w' r GA S4.loadDo ∧ Keep GA W w') := fun W hW => by
          have := rload_any r GA S4 W hW
          rw [hLV] at this
          exact this
        clear hLV
        go_wp2_with fail
        refine cL.out.mono ?_
        rintro q w16 ⟨rfl, hd, m⟩
        have P16 := hide (PA.out.step1 hd (Moves.of_keep m))
        have HB16 := hide (HBA.out.step1 (Moves.of_keep m))
        have HC16 := hide (HCA.out.step1 (Moves.of_keep m))
        clear hd m cL HBA HCA PA
        obtain ⟨z0', z1, z2, z3, z4, z5, z6, f0, f1, f2, f3, f4, f5, f6⟩ := cells7T HB16.out.blk
        have zlt := HB16.out.blk.lt
        go_wp2_with fail
        clear z0' z1 z2 z3 z4 z5 z6 f0 f1 f2 f3 f4 f5 f6 zlt
        generalize hW : ((((((w16.setCell ⟨w7.heap.size, 0, none⟩ (.int .u64 X.seq)).setCell ⟨w7.heap.size, 1, none⟩ (.int .u64 X.epoch)).setCell ⟨w7.heap.size, 2, none⟩ (.int .u64 X.res)).setCell ⟨w7.heap.size, 3, none⟩ (.int .u64 X.hor)).setCell ⟨w7.heap.size, 4, none⟩ (.int .u64 X.gen)).setCell ⟨w7.heap.size, 5, none⟩ (.bool X.clean)).setCell ⟨w7.heap.size, 6, none⟩ (.int .i64 X.image) = W16
        have PB : Hid (PL w d r F14 GA S4.loadDo S4 W16) := by rw [← hW]; exact P16.out.putb HB16.out.f HB16.out.g LB.out X
        have HBB : Hid (HP W16 F14 GA w7.heap.size (bkL X) 29) := by rw [← hW]; exact HB16.out.putb X
        have HCB : Hid (HP W16 F14 GA w9.heap.size (bkL BB) 37) := by rw [← hW]; exact HC16.out.far (Ne.symm NE.out) X
        clear hW P16 HB16 HC16
        refine (cM.out _ PB.out.pair.ref).mono ?_
        rintro q w17 ⟨rfl, hr, m⟩
        have P17 := hide (PB.out.step2 hr (Moves.of_keep m))
        have HB17 := hide (HBB.out.step2 (Moves.of_keep m))
        have HC17 := hide (HCB.out.step2 (Moves.of_keep m))
        clear hr m cM PB HBB HCB
        obtain ⟨z0', z1, z2, z3, z4, z5, z6, f0, f1, f2, f3, f4, f5, f6⟩ := cells7T HC17.out.blk
        have zlt := HC17.out.blk.lt
        go_wp2_with fail
        clear z0' z1 z2 z3 z4 z5 z6 f0 f1 f2 f3 f4 f5 f6 zlt
        generalize hW : ((((((w17.setCell ⟨w9.heap.size, 0, none⟩ (.int .u64 X.seq)).setCell ⟨w9.heap.size, 1, none⟩ (.int .u64 X.epoch)).setCell ⟨w9.heap.size, 2, none⟩ (.int .u64 X.res)).setCell ⟨w9.heap.size, 3, none⟩ (.int .u64 X.hor)).setCell ⟨w9.heap.size, 4, none⟩ (.int .u64 X.gen)).setCell ⟨w9.heap.size, 5, none⟩ (.bool X.clean)).setCell ⟨w9.heap.size, 6, none⟩ (.int .i64 X.image) = W18
        have P18 : Hid (PL w d r F14 GA S4.loadDo S4.loadDo W18) := by rw [← hW]; exact P17.out.putb HC17.out.f HC17.out.g LC.out X
        have HB18 : Hid (HP W18 F14 GA w7.heap.size (bkL X) 29) := by rw [← hW]; exact HB17.out.far NE.out X
        have HC18 : Hid (HP W18 F14 GA w9.heap.size (bkL X) 37) := by rw [← hW]; exact HC17.out.putb X
        clear hW P17 HB17 HC17
        have hq37 : ∀ W : World, (binOp .neq 37 (.agg #[.int .u64 X.seq, .int .u64 X.epoch, .int .u64 X.res, .int .u64 X.hor, .int .u64 X.gen, .bool X.clean, .int .i64 X.image]) (.agg #[.int .u64 X.seq, .int .u64 X.epoch, .int .u64 X.res, .int .u64 X.hor, .int .u64 X.gen, .bool X.clean, .int .i64 X.image])).run Try.prog W = .ok (.bool false) W := neq37 X
        have hee : (E2 != E2) = false := by simp
        have cO2 := hide (own_any X)
        have cK := hide (fun (W : World) (h : Pair W d r F14 GA S4.loadDo S4.loadDo) => alike_at d r F14 GA S4.loadDo W h)
        obtain ⟨b0, b1, b2, b3, b4, b5, b6⟩ := cells7_at HB18.out.blk
        obtain ⟨y0, y1, y2, y3, y4, y5, y6⟩ := cells7_at HC18.out.blk
        go_region_held (fun W => W.cell? ⟨w7.heap.size, 0, none⟩ = some (.int .u64 X.seq) ∧ W.cell? ⟨w7.heap.size, 1, none⟩ = some (.int .u64 X.epoch) ∧ W.cell? ⟨w7.heap.size, 2, none⟩ = some (.int .u64 X.res) ∧ W.cell? ⟨w7.heap.size, 3, none⟩ = some (.int .u64 X.hor) ∧ W.cell? ⟨w7.heap.size, 4, none⟩ = some (.int .u64 X.gen) ∧ W.cell? ⟨w7.heap.size, 5, none⟩ = some (.bool X.clean) ∧ W.cell? ⟨w7.heap.size, 6, none⟩ = some (.int .i64 X.image) ∧ W.cell? ⟨w9.heap.size, 0, none⟩ = some (.int .u64 X.seq) ∧ W.cell? ⟨w9.heap.size, 1, none⟩ = some (.int .u64 X.epoch) ∧ W.cell? ⟨w9.heap.size, 2, none⟩ = some (.int .u64 X.res) ∧ W.cell? ⟨w9.heap.size, 3, none⟩ = some (.int .u64 X.hor) ∧ W.cell? ⟨w9.heap.size, 4, none⟩ = some (.int .u64 X.gen) ∧ W.cell? ⟨w9.heap.size, 5, none⟩ = some (.bool X.clean) ∧ W.cell? ⟨w9.heap.size, 6, none⟩ = some (.int .i64 X.image))
          (first | exact ⟨b0, b1, b2, b3, b4, b5, b6, y0, y1, y2, y3, y4, y5, y6⟩ | assumption)
          (first
            | (go_at_call 16; refine (cO2.out _).mono ?_; rintro q w19 ⟨rfl, hz⟩; have P19 := hide ((P18.out.below (Below.refl _ _).drew).below hz); have HB19 := hide ((HB18.out.below (Below.refl _ _).drew).below hz); have HC19 := hide ((HC18.out.below (Below.refl _ _).drew).below hz); clear hz b0 b1 b2 b3 b4 b5 b6 y0 y1 y2 y3 y4 y5 y6; obtain ⟨b0, b1, b2, b3, b4, b5, b6⟩ := cells7_at HB19.out.blk; obtain ⟨y0, y1, y2, y3, y4, y5, y6⟩ := cells7_at HC19.out.blk; have hS := And.intro b0 (And.intro b1 (And.intro b2 (And.intro b3 (And.intro b4 (And.intro b5 (And.intro b6 (And.intro y0 (And.intro y1 (And.intro y2 (And.intro y3 (And.intro y4 (And.intro y5 y6)))))))))))); clear b0 b1 b2 b3 b4 b5 b6 y0 y1 y2 y3 y4 y5 y6)
            | (go_at_call 28; refine (cK.out _ P19.out.pair).mono ?_; rintro q w20 ⟨rfl, hp, m⟩; have P20 := hide (P19.out.both hp m); have HB20 := hide (HB19.out.both m); have HC20 := hide (HC19.out.both m); clear hp m hS; obtain ⟨b0, b1, b2, b3, b4, b5, b6⟩ := cells7_at HB20.out.blk; obtain ⟨y0, y1, y2, y3, y4, y5, y6⟩ := cells7_at HC20.out.blk; have hS2 := And.intro b0 (And.intro b1 (And.intro b2 (And.intro b3 (And.intro b4 (And.intro b5 (And.intro b6 (And.intro y0 (And.intro y1 (And.intro y2 (And.intro y3 (And.intro y4 (And.intro y5 y6)))))))))))); clear b0 b1 b2 b3 b4 b5 b6 y0 y1 y2 y3 y4 y5 y6))
        go_wp2
        go_roundg (len0 - (i + 1))
        case measure => have := HG.out; omega
        case rel => exact ⟨i + 1, rfl, by omega, by omega, F14, GA, _, P20.out⟩
      | false =>
        rw [hcr] at x9
        clear hcr
        cases hof : S2.off with
        | true =>
          rw [hof] at cP
          clear hof
          have cP2 := cP
          obtain ⟨bb2, hbs, hblt⟩ := picks_at HOK.out.bs HOK.out.nil P11.out.bel
          have HBS := hide hbs
          have HBL := hide hblt
          have hlen2 : t.n = t.pk.length := HOK.out.bs.len
          have HL2 := hide hlen2
          have cK := hide (crash_at d F7 S2 t.a t.n t.cap bb2 t.pk hlen2 (by have := HOK.out.len; omega) w11 hbs (fun h hf => by have := hblt h; have := P11.out.lowF _ hf; omega) P11.out.pair.dev)
          clear hbs hblt hlen2
          go_wp2_with (go_at_call 22; refine cP2.out.mono ?_; rintro q wq ⟨rfl, hx⟩; obtain rfl := hx)
          clear x9 cP cP2
          refine cK.out.mono ?_
          rintro q w12 ⟨rfl, F12, hd, m⟩
          have P12 := hide (P11.out.step1 hd m)
          have HX12 := hide (HX11.out.step1 m)
          have HB12 := hide (HB11.out.step1 m)
          have HC12 := hide (HC11.out.step1 m)
          clear hd m cK x8 xlt HX11 HB11 HC11 HBS
          obtain ⟨bb3, hbs, hblt⟩ := picks_at HOK.out.bs HOK.out.nil P12.out.bel
          have cK := hide (rcrash_at r G9 S2 t.a t.n t.cap bb3 t.pk HL2.out (by have := HOK.out.len; omega) w12 hbs (fun h hf => by have := hblt h; have := P12.out.lowG _ hf; omega) P12.out.pair.ref)
          clear hbs hblt
          have x8 := HX12.out.blk.cell (i := 8) rfl
          have xlt := HX12.out.blk.lt
          go_wp2_with fail
          refine cK.out.mono ?_
          rintro q w13 ⟨rfl, G13, hr, m⟩
          have P13 := hide (P12.out.step2 hr m)
          have HB13 := hide (HB12.out.step2 m)
          have HC13 := hide (HC12.out.step2 m)
          clear hr m cK x8 xlt HX12 HB12 HC12 P12
          have cK := hide (on_at d F12 _ w13 P13.out.pair.dev)
          go_wp2_with fail
          refine cK.out.mono ?_
          rintro q w14 ⟨rfl, F14, hd, m⟩
          have P14 := hide (P13.out.step1 hd m)
          have HB14 := hide (HB13.out.step1 m)
          have HC14 := hide (HC13.out.step1 m)
          clear hd m cK HB13 HC13 P13
          have cK := hide (ron_at r G13 _ w14 P14.out.pair.ref)
          go_wp2_with fail
          refine cK.out.mono ?_
          rintro q wA ⟨rfl, GA, hr, m⟩
          have PA := hide (P14.out.step2 hr m)
          have HBA := hide (HB14.out.step2 m)
          have HCA := hide (HC14.out.step2 m)
          clear hr m cK HB14 HC14 P14
          generalize (S2.crash t.pk).on = S4 at *
          obtain ⟨X, E2, hLV⟩ := loadV_is S4
          have cL : Hid (Calls Try.prog 11 #[.pointer (some ⟨d, 0, none⟩)] wA fun e w' => e = .returned (.tuple #[.agg #[.int .u64 X.seq, .int .u64 X.epoch, .int .u64 X.res, .int .u64 X.hor, .int .u64 X.gen, .bool X.clean, .int .i64 X.image], .int .i64 E2]) ∧ DvAt w' d F14 S4.loadDo ∧ Keep F14 wA w') := by
            have := load_any d F14 S4 wA PA.out.pair.dev
            rw [hLV] at this
            exact this
          have cM : Hid (∀ W : World, RfAt W r GA S4 → Calls Try.prog 27 #[.pointer (some ⟨r, 0, none⟩)] W fun e w' => e = .returned (.tuple #[.agg #[.int .u64 X.seq, .int .u64 X.epoch, .int .u64 X.res, .int .u64 X.hor, .int .u64 X.gen, .bool X.clean, .int .i64 X.image], .int .i64 E2]) ∧ RfAt w' r GA S4.loadDo ∧ Keep GA W w') := fun W hW => by
            have := rload_any r GA S4 W hW
            rw [hLV] at this
            exact this
          clear hLV
          go_wp2_with fail
          refine cL.out.mono ?_
          rintro q w16 ⟨rfl, hd, m⟩
          have P16 := hide (PA.out.step1 hd (Moves.of_keep m))
          have HB16 := hide (HBA.out.step1 (Moves.of_keep m))
          have HC16 := hide (HCA.out.step1 (Moves.of_keep m))
          clear hd m cL HBA HCA PA
          obtain ⟨z0', z1, z2, z3, z4, z5, z6, f0, f1, f2, f3, f4, f5, f6⟩ := cells7T HB16.out.blk
          have zlt := HB16.out.blk.lt
          go_wp2_with fail
          clear z0' z1 z2 z3 z4 z5 z6 f0 f1 f2 f3 f4 f5 f6 zlt
          generalize hW : ((((((w16.setCell ⟨w7.heap.size, 0, none⟩ (.int .u64 X.seq)).setCell ⟨w7.heap.size, 1, none⟩ (.int .u64 X.epoch)).setCell ⟨w7.heap.size, 2, none⟩ (.int .u64 X.res)).setCell ⟨w7.heap.size, 3, none⟩ (.int .u64 X.hor)).setCell ⟨w7.heap.size, 4, none⟩ (.int .u64 X.gen)).setCell ⟨w7.heap.size, 5, none⟩ (.bool X.clean)).setCell ⟨w7.heap.size, 6, none⟩ (.int .i64 X.image) = W16
          have PB : Hid (PL w d r F14 GA S4.loadDo S4 W16) := by rw [← hW]; exact P16.out.putb HB16.out.f HB16.out.g LB.out X
          have HBB : Hid (HP W16 F14 GA w7.heap.size (bkL X) 29) := by rw [← hW]; exact HB16.out.putb X
          have HCB : Hid (HP W16 F14 GA w9.heap.size (bkL BB) 37) := by rw [← hW]; exact HC16.out.far (Ne.symm NE.out) X
          clear hW P16 HB16 HC16
          refine (cM.out _ PB.out.pair.ref).mono ?_
          rintro q w17 ⟨rfl, hr, m⟩
          have P17 := hide (PB.out.step2 hr (Moves.of_keep m))
          have HB17 := hide (HBB.out.step2 (Moves.of_keep m))
          have HC17 := hide (HCB.out.step2 (Moves.of_keep m))
          clear hr m cM PB HBB HCB
          obtain ⟨z0', z1, z2, z3, z4, z5, z6, f0, f1, f2, f3, f4, f5, f6⟩ := cells7T HC17.out.blk
          have zlt := HC17.out.blk.lt
          go_wp2_with fail
          clear z0' z1 z2 z3 z4 z5 z6 f0 f1 f2 f3 f4 f5 f6 zlt
          generalize hW : ((((((w17.setCell ⟨w9.heap.size, 0, none⟩ (.int .u64 X.seq)).setCell ⟨w9.heap.size, 1, none⟩ (.int .u64 X.epoch)).setCell ⟨w9.heap.size, 2, none⟩ (.int .u64 X.res)).setCell ⟨w9.heap.size, 3, none⟩ (.int .u64 X.hor)).setCell ⟨w9.heap.size, 4, none⟩ (.int .u64 X.gen)).setCell ⟨w9.heap.size, 5, none⟩ (.bool X.clean)).setCell ⟨w9.heap.size, 6, none⟩ (.int .i64 X.image) = W18
          have P18 : Hid (PL w d r F14 GA S4.loadDo S4.loadDo W18) := by rw [← hW]; exact P17.out.putb HC17.out.f HC17.out.g LC.out X
          have HB18 : Hid (HP W18 F14 GA w7.heap.size (bkL X) 29) := by rw [← hW]; exact HB17.out.far NE.out X
          have HC18 : Hid (HP W18 F14 GA w9.heap.size (bkL X) 37) := by rw [← hW]; exact HC17.out.putb X
          clear hW P17 HB17 HC17
          have hq37 : ∀ W : World, (binOp .neq 37 (.agg #[.int .u64 X.seq, .int .u64 X.epoch, .int .u64 X.res, .int .u64 X.hor, .int .u64 X.gen, .bool X.clean, .int .i64 X.image]) (.agg #[.int .u64 X.seq, .int .u64 X.epoch, .int .u64 X.res, .int .u64 X.hor, .int .u64 X.gen, .bool X.clean, .int .i64 X.image])).run Try.prog W = .ok (.bool false) W := neq37 X
          have hee : (E2 != E2) = false := by simp
          have cO2 := hide (own_any X)
          have cK := hide (fun (W : World) (h : Pair W d r F14 GA S4.loadDo S4.loadDo) => alike_at d r F14 GA S4.loadDo W h)
          obtain ⟨b0, b1, b2, b3, b4, b5, b6⟩ := cells7_at HB18.out.blk
          obtain ⟨y0, y1, y2, y3, y4, y5, y6⟩ := cells7_at HC18.out.blk
          go_region_held (fun W => W.cell? ⟨w7.heap.size, 0, none⟩ = some (.int .u64 X.seq) ∧ W.cell? ⟨w7.heap.size, 1, none⟩ = some (.int .u64 X.epoch) ∧ W.cell? ⟨w7.heap.size, 2, none⟩ = some (.int .u64 X.res) ∧ W.cell? ⟨w7.heap.size, 3, none⟩ = some (.int .u64 X.hor) ∧ W.cell? ⟨w7.heap.size, 4, none⟩ = some (.int .u64 X.gen) ∧ W.cell? ⟨w7.heap.size, 5, none⟩ = some (.bool X.clean) ∧ W.cell? ⟨w7.heap.size, 6, none⟩ = some (.int .i64 X.image) ∧ W.cell? ⟨w9.heap.size, 0, none⟩ = some (.int .u64 X.seq) ∧ W.cell? ⟨w9.heap.size, 1, none⟩ = some (.int .u64 X.epoch) ∧ W.cell? ⟨w9.heap.size, 2, none⟩ = some (.int .u64 X.res) ∧ W.cell? ⟨w9.heap.size, 3, none⟩ = some (.int .u64 X.hor) ∧ W.cell? ⟨w9.heap.size, 4, none⟩ = some (.int .u64 X.gen) ∧ W.cell? ⟨w9.heap.size, 5, none⟩ = some (.bool X.clean) ∧ W.cell? ⟨w9.heap.size, 6, none⟩ = some (.int .i64 X.image))
            (first | exact ⟨b0, b1, b2, b3, b4, b5, b6, y0, y1, y2, y3, y4, y5, y6⟩ | assumption)
            (first
              | (go_at_call 16; refine (cO2.out _).mono ?_; rintro q w19 ⟨rfl, hz⟩; have P19 := hide ((P18.out.below (Below.refl _ _).drew).below hz); have HB19 := hide ((HB18.out.below (Below.refl _ _).drew).below hz); have HC19 := hide ((HC18.out.below (Below.refl _ _).drew).below hz); clear hz b0 b1 b2 b3 b4 b5 b6 y0 y1 y2 y3 y4 y5 y6; obtain ⟨b0, b1, b2, b3, b4, b5, b6⟩ := cells7_at HB19.out.blk; obtain ⟨y0, y1, y2, y3, y4, y5, y6⟩ := cells7_at HC19.out.blk; have hS := And.intro b0 (And.intro b1 (And.intro b2 (And.intro b3 (And.intro b4 (And.intro b5 (And.intro b6 (And.intro y0 (And.intro y1 (And.intro y2 (And.intro y3 (And.intro y4 (And.intro y5 y6)))))))))))); clear b0 b1 b2 b3 b4 b5 b6 y0 y1 y2 y3 y4 y5 y6)
              | (go_at_call 28; refine (cK.out _ P19.out.pair).mono ?_; rintro q w20 ⟨rfl, hp, m⟩; have P20 := hide (P19.out.both hp m); have HB20 := hide (HB19.out.both m); have HC20 := hide (HC19.out.both m); clear hp m hS; obtain ⟨b0, b1, b2, b3, b4, b5, b6⟩ := cells7_at HB20.out.blk; obtain ⟨y0, y1, y2, y3, y4, y5, y6⟩ := cells7_at HC20.out.blk; have hS2 := And.intro b0 (And.intro b1 (And.intro b2 (And.intro b3 (And.intro b4 (And.intro b5 (And.intro b6 (And.intro y0 (And.intro y1 (And.intro y2 (And.intro y3 (And.intro y4 (And.intro y5 y6)))))))))))); clear b0 b1 b2 b3 b4 b5 b6 y0 y1 y2 y3 y4 y5 y6))
          go_wp2
          go_roundg (len0 - (i + 1))
          case measure => have := HG.out; omega
          case rel => exact ⟨i + 1, rfl, by omega, by omega, F14, GA, _, P20.out⟩
        | false =>
          rw [hof] at cP
          clear hof
          go_wp2_with (go_at_call 22; refine cP.out.mono ?_; rintro q wA ⟨rfl, hx⟩; obtain rfl := hx)
          have PA := P11
          have HBA := HB11
          have HCA := HC11
          clear P11 HX11 HB11 HC11 x9 x8 xlt cP
          obtain ⟨X, E2, hLV⟩ := loadV_is S2
          have cL : Hid (Calls Try.prog 11 #[.pointer (some ⟨d, 0, none⟩)] wA fun e w' => e = .returned (.tuple #[.agg #[.int .u64 X.seq, .int .u64 X.epoch, .int .u64 X.res, .int .u64 X.hor, .int .u64 X.gen, .bool X.clean, .int .i64 X.image], .int .i64 E2]) ∧ DvAt w' d F7 S2.loadDo ∧ Keep F7 wA w') := by
            have := load_any d F7 S2 wA PA.out.pair.dev
            rw [hLV] at this
            exact this
          have cM : Hid (∀ W : World, RfAt W r G9 S2 → Calls Try.prog 27 #[.pointer (some ⟨r, 0, none⟩)] W fun e w' => e = .returned (.tuple #[.agg #[.int .u64 X.seq, .int .u64 X.epoch, .int .u64 X.res, .int .u64 X.hor, .int .u64 X.gen, .bool X.clean, .int .i64 X.image], .int .i64 E2]) ∧ RfAt w' r G9 S2.loadDo ∧ Keep G9 W w') := fun W hW => by
            have := rload_any r G9 S2 W hW
            rw [hLV] at this
            exact this
          clear hLV
          refine cL.out.mono ?_
          rintro q w16 ⟨rfl, hd, m⟩
          have P16 := hide (PA.out.step1 hd (Moves.of_keep m))
          have HB16 := hide (HBA.out.step1 (Moves.of_keep m))
          have HC16 := hide (HCA.out.step1 (Moves.of_keep m))
          clear hd m cL HBA HCA PA
          obtain ⟨z0', z1, z2, z3, z4, z5, z6, f0, f1, f2, f3, f4, f5, f6⟩ := cells7T HB16.out.blk
          have zlt := HB16.out.blk.lt
          go_wp2_with fail
          clear z0' z1 z2 z3 z4 z5 z6 f0 f1 f2 f3 f4 f5 f6 zlt
          generalize hW : ((((((w16.setCell ⟨w7.heap.size, 0, none⟩ (.int .u64 X.seq)).setCell ⟨w7.heap.size, 1, none⟩ (.int .u64 X.epoch)).setCell ⟨w7.heap.size, 2, none⟩ (.int .u64 X.res)).setCell ⟨w7.heap.size, 3, none⟩ (.int .u64 X.hor)).setCell ⟨w7.heap.size, 4, none⟩ (.int .u64 X.gen)).setCell ⟨w7.heap.size, 5, none⟩ (.bool X.clean)).setCell ⟨w7.heap.size, 6, none⟩ (.int .i64 X.image) = W16
          have PB : Hid (PL w d r F7 G9 S2.loadDo S2 W16) := by rw [← hW]; exact P16.out.putb HB16.out.f HB16.out.g LB.out X
          have HBB : Hid (HP W16 F7 G9 w7.heap.size (bkL X) 29) := by rw [← hW]; exact HB16.out.putb X
          have HCB : Hid (HP W16 F7 G9 w9.heap.size (bkL BB) 37) := by rw [← hW]; exact HC16.out.far (Ne.symm NE.out) X
          clear hW P16 HB16 HC16
          refine (cM.out _ PB.out.pair.ref).mono ?_
          rintro q w17 ⟨rfl, hr, m⟩
          have P17 := hide (PB.out.step2 hr (Moves.of_keep m))
          have HB17 := hide (HBB.out.step2 (Moves.of_keep m))
          have HC17 := hide (HCB.out.step2 (Moves.of_keep m))
          clear hr m cM PB HBB HCB
          obtain ⟨z0', z1, z2, z3, z4, z5, z6, f0, f1, f2, f3, f4, f5, f6⟩ := cells7T HC17.out.blk
          have zlt := HC17.out.blk.lt
          go_wp2_with fail
          clear z0' z1 z2 z3 z4 z5 z6 f0 f1 f2 f3 f4 f5 f6 zlt
          generalize hW : ((((((w17.setCell ⟨w9.heap.size, 0, none⟩ (.int .u64 X.seq)).setCell ⟨w9.heap.size, 1, none⟩ (.int .u64 X.epoch)).setCell ⟨w9.heap.size, 2, none⟩ (.int .u64 X.res)).setCell ⟨w9.heap.size, 3, none⟩ (.int .u64 X.hor)).setCell ⟨w9.heap.size, 4, none⟩ (.int .u64 X.gen)).setCell ⟨w9.heap.size, 5, none⟩ (.bool X.clean)).setCell ⟨w9.heap.size, 6, none⟩ (.int .i64 X.image) = W18
          have P18 : Hid (PL w d r F7 G9 S2.loadDo S2.loadDo W18) := by rw [← hW]; exact P17.out.putb HC17.out.f HC17.out.g LC.out X
          have HB18 : Hid (HP W18 F7 G9 w7.heap.size (bkL X) 29) := by rw [← hW]; exact HB17.out.far NE.out X
          have HC18 : Hid (HP W18 F7 G9 w9.heap.size (bkL X) 37) := by rw [← hW]; exact HC17.out.putb X
          clear hW P17 HB17 HC17
          have hq37 : ∀ W : World, (binOp .neq 37 (.agg #[.int .u64 X.seq, .int .u64 X.epoch, .int .u64 X.res, .int .u64 X.hor, .int .u64 X.gen, .bool X.clean, .int .i64 X.image]) (.agg #[.int .u64 X.seq, .int .u64 X.epoch, .int .u64 X.res, .int .u64 X.hor, .int .u64 X.gen, .bool X.clean, .int .i64 X.image])).run Try.prog W = .ok (.bool false) W := neq37 X
          have hee : (E2 != E2) = false := by simp
          have cO2 := hide (own_any X)
          have cK := hide (fun (W : World) (h : Pair W d r F7 G9 S2.loadDo S2.loadDo) => alike_at d r F7 G9 S2.loadDo W h)
          obtain ⟨b0, b1, b2, b3, b4, b5, b6⟩ := cells7_at HB18.out.blk
          obtain ⟨y0, y1, y2, y3, y4, y5, y6⟩ := cells7_at HC18.out.blk
          go_region_held (fun W => W.cell? ⟨w7.heap.size, 0, none⟩ = some (.int .u64 X.seq) ∧ W.cell? ⟨w7.heap.size, 1, none⟩ = some (.int .u64 X.epoch) ∧ W.cell? ⟨w7.heap.size, 2, none⟩ = some (.int .u64 X.res) ∧ W.cell? ⟨w7.heap.size, 3, none⟩ = some (.int .u64 X.hor) ∧ W.cell? ⟨w7.heap.size, 4, none⟩ = some (.int .u64 X.gen) ∧ W.cell? ⟨w7.heap.size, 5, none⟩ = some (.bool X.clean) ∧ W.cell? ⟨w7.heap.size, 6, none⟩ = some (.int .i64 X.image) ∧ W.cell? ⟨w9.heap.size, 0, none⟩ = some (.int .u64 X.seq) ∧ W.cell? ⟨w9.heap.size, 1, none⟩ = some (.int .u64 X.epoch) ∧ W.cell? ⟨w9.heap.size, 2, none⟩ = some (.int .u64 X.res) ∧ W.cell? ⟨w9.heap.size, 3, none⟩ = some (.int .u64 X.hor) ∧ W.cell? ⟨w9.heap.size, 4, none⟩ = some (.int .u64 X.gen) ∧ W.cell? ⟨w9.heap.size, 5, none⟩ = some (.bool X.clean) ∧ W.cell? ⟨w9.heap.size, 6, none⟩ = some (.int .i64 X.image))
            (first | exact ⟨b0, b1, b2, b3, b4, b5, b6, y0, y1, y2, y3, y4, y5, y6⟩ | assumption)
            (first
              | (go_at_call 16; refine (cO2.out _).mono ?_; rintro q w19 ⟨rfl, hz⟩; have P19 := hide ((P18.out.below (Below.refl _ _).drew).below hz); have HB19 := hide ((HB18.out.below (Below.refl _ _).drew).below hz); have HC19 := hide ((HC18.out.below (Below.refl _ _).drew).below hz); clear hz b0 b1 b2 b3 b4 b5 b6 y0 y1 y2 y3 y4 y5 y6; obtain ⟨b0, b1, b2, b3, b4, b5, b6⟩ := cells7_at HB19.out.blk; obtain ⟨y0, y1, y2, y3, y4, y5, y6⟩ := cells7_at HC19.out.blk; have hS := And.intro b0 (And.intro b1 (And.intro b2 (And.intro b3 (And.intro b4 (And.intro b5 (And.intro b6 (And.intro y0 (And.intro y1 (And.intro y2 (And.intro y3 (And.intro y4 (And.intro y5 y6)))))))))))); clear b0 b1 b2 b3 b4 b5 b6 y0 y1 y2 y3 y4 y5 y6)
              | (go_at_call 28; refine (cK.out _ P19.out.pair).mono ?_; rintro q w20 ⟨rfl, hp, m⟩; have P20 := hide (P19.out.both hp m); have HB20 := hide (HB19.out.both m); have HC20 := hide (HC19.out.both m); clear hp m hS; obtain ⟨b0, b1, b2, b3, b4, b5, b6⟩ := cells7_at HB20.out.blk; obtain ⟨y0, y1, y2, y3, y4, y5, y6⟩ := cells7_at HC20.out.blk; have hS2 := And.intro b0 (And.intro b1 (And.intro b2 (And.intro b3 (And.intro b4 (And.intro b5 (And.intro b6 (And.intro y0 (And.intro y1 (And.intro y2 (And.intro y3 (And.intro y4 (And.intro y5 y6)))))))))))); clear b0 b1 b2 b3 b4 b5 b6 y0 y1 y2 y3 y4 y5 y6))
          go_wp2
          go_roundg (len0 - (i + 1))
          case measure => have := HG.out; omega
          case rel => exact ⟨i + 1, rfl, by omega, by omega, F7, G9, _, P20.out⟩
    · obtain rfl : i = len0 := by omega
      have hlt2 : ¬ (i : Int) < (i : Int) := by omega
      obtain ⟨F, G, S, hp⟩ := I.out
      have BB := hide hp.bel
      clear hp I
      go_wp2
      go_ret
      exact ⟨rfl, BB.out⟩
end Go.Proofs.Ytcdefadeaiklbaa.superPlays
