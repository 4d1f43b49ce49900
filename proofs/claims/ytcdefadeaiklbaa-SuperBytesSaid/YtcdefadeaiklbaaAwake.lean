/- 'awake'. -/
import Derived.Test.YtcdefadeaiklbaaTwo
set_option linter.unusedVariables false
set_option linter.unusedSimpArgs false
set_option maxRecDepth 8000
namespace Go.Proofs.Ytcdefadeaiklbaa
open Go.RowKit Go.Deep Math

theorem load_two {w0 W : World} {d : Nat} {F : List Nat} {S : Dv} {a b : Option Bk} (h : Law w0 d F S W) (t : Two S a b) :
    Calls Try.prog 11 #[.pointer (some ⟨d, 0, none⟩)] W fun e W' => e = .returned (slotV (newer a b)) ∧ ∃ S', Law w0 d F S' W' ∧ Two S' a b ∧ S'.armed = S.armed ∧ Moves F F W W' := by
  refine (load_law h).mono ?_
  rintro e W' ⟨rfl, hl, hm⟩
  exact ⟨by rw [t.loadV], _, hl, t.loadDo, loadDo_armed S, hm⟩
theorem store_two {w0 W : World} {d : Nat} {F : List Nat} {S : Dv} {a b : Option Bk} (h : Law w0 d F S W) (t : Two S a b) (ha : S.armed = 0) (x : Bk) (hf : x.fits) (hl : lastS a b ≠ 18446744073709551615) :
    Calls Try.prog 12 #[.pointer (some ⟨d, 0, none⟩), .agg #[.int .u64 x.seq, .int .u64 x.epoch, .int .u64 x.res, .int .u64 x.hor, .int .u64 x.gen, .bool x.clean, .int .i64 x.image]] W fun e W' => e = .returned (bkV (nxt a b x) 0) ∧
      ∃ F' S', Law w0 d F' S' W' ∧ Two S' (if (nxt a b x).seq % 2 = 0 then some (nxt a b x) else a) (if (nxt a b x).seq % 2 = 1 then some (nxt a b x) else b) ∧ S'.armed = 0 ∧ Moves F F' W W' := by
  obtain ⟨e1, e2, _, e3, e4⟩ := t.store x hf hl (by omega) (by omega)
  refine (store_law h x hf).mono ?_
  rintro e W' ⟨rfl, F', hl', hm⟩
  exact ⟨by rw [e1, e2], F', _, hl', e3, by omega, hm⟩
theorem read_two {w0 W : World} {d : Nat} {F : List Nat} {S : Dv} {a b : Option Bk} (h : Law w0 d F S W) (t : Two S a b) {k : Nat} {x : Bk} (hx : S.slotB k = some x) :
    Calls Try.prog 29 #[.pointer (some ⟨d, 0, none⟩), .int .i64 (k : Nat)] W fun e W' => ∃ g L, e = .returned (.tuple #[.slice (some ⟨g, 0, none⟩) 384 384, .int .i64 0]) ∧ BS W' (some ⟨g, 0, none⟩) 384 384 L ∧ dec L = some x ∧ ∃ S', Law w0 d F S' W' ∧ Two S' a b ∧ S'.armed = S.armed ∧ Moves F F W W' := by
  refine (read_law h t.off hx).mono ?_
  rintro e W' ⟨g, L, rfl, hb, hd, hl, hm⟩
  exact ⟨g, L, rfl, hb, hd, _, hl, t.read _, readDo_armed S _, hm⟩
def B1 : Bk := ⟨1, 1, 0, 0, 0, false, 0⟩
theorem B1_fits : B1.fits := by constructor <;> simp [B1]
theorem E1_fits : (⟨0, 1, 0, 0, 0, false, 0⟩ : Bk).fits := by constructor <;> simp
theorem B1_told : B1.told = B1 := rfl

set_option maxHeartbeats 1000000 in
theorem awake_any (w : World) : Calls Try.prog 9 #[] w fun e w' => e = .returned (.bool true) ∧ Below w.heap.size w w' := by
  have cN := hide (new_law (Below.refl w.heap.size w) 2 (by omega) (by omega))
  have cL : Hid (∀ (W : World) (d : Nat) (F : List Nat) (S : Dv), Law w d F S W → Two S none none → Calls Try.prog 11 #[.pointer (some ⟨d, 0, none⟩)] W fun e W' => e = .returned (.tuple #[.agg #[.int .u64 0, .int .u64 0, .int .u64 0, .int .u64 0, .int .u64 0, .bool false, .int .i64 0], .int .i64 5]) ∧ ∃ S', Law w d F S' W' ∧ Two S' none none ∧ S'.armed = S.armed ∧ Moves F F W W') :=
    fun W d F S h t => load_two h t
  have cS : Hid (∀ (W : World) (d : Nat) (F : List Nat) (S : Dv), Law w d F S W → Two S none none → S.armed = 0 → Calls Try.prog 12 #[.pointer (some ⟨d, 0, none⟩), .agg #[.int .u64 0, .int .u64 1, .int .u64 0, .int .u64 0, .int .u64 0, .bool false, .int .i64 0]] W fun e W' => e = .returned (.tuple #[.agg #[.int .u64 1, .int .u64 1, .int .u64 0, .int .u64 0, .int .u64 0, .bool false, .int .i64 0], .int .i64 0]) ∧ ∃ F' S', Law w d F' S' W' ∧ Two S' none (some B1) ∧ S'.armed = 0 ∧ Moves F F' W W') :=
    fun W d F S h t ha => store_two h t ha ⟨0, 1, 0, 0, 0, false, 0⟩ E1_fits (by decide)
  have cL2 : Hid (∀ (W : World) (d : Nat) (F : List Nat) (S : Dv), Law w d F S W → Two S none (some B1) → Calls Try.prog 11 #[.pointer (some ⟨d, 0, none⟩)] W fun e W' => e = .returned (.tuple #[.agg #[.int .u64 1, .int .u64 1, .int .u64 0, .int .u64 0, .int .u64 0, .bool false, .int .i64 0], .int .i64 0]) ∧ ∃ S', Law w d F S' W' ∧ Two S' none (some B1) ∧ S'.armed = S.armed ∧ Moves F F W W') :=
    fun W d F S h t => load_two h t
  have cE : Hid (∀ (W : World), Calls Try.prog 14 #[.agg #[.int .u64 1, .int .u64 1, .int .u64 0, .int .u64 0, .int .u64 0, .bool false, .int .i64 0]] W fun e w' => ∃ g, e = .returned (.slice (some ⟨g, 0, none⟩) 64 64) ∧ W.heap.size ≤ g ∧ Buf w' g B1.enc 0 ∧ Below W.heap.size W w') := fun W => encode_any B1 B1_fits W
  have cD : Hid (∀ (W : World) (g : Nat), Buf W g B1.enc 0 → Calls Try.prog 13 #[.slice (some ⟨g, 0, none⟩) 64 64] W fun e w' => e = .returned (.tuple #[.agg #[.int .u64 1, .int .u64 1, .int .u64 0, .int .u64 0, .int .u64 0, .bool false, .int .i64 0], .int .i64 0]) ∧ Below W.heap.size W w') := fun W g hb => by
    have h1 := decode_any _ 64 64 B1.enc (by omega) W (buf_bs hb (by rw [B1.enc_length]) (Nat.le_refl _))
    have h2 := dec_enc B1 B1_fits []
    rw [List.append_nil, B1_told] at h2
    rw [h2] at h1
    exact h1
  have cR : Hid (∀ (W : World) (d : Nat) (F : List Nat) (S : Dv), Law w d F S W → Two S none (some B1) → Calls Try.prog 29 #[.pointer (some ⟨d, 0, none⟩), .int .i64 1] W fun e W' => ∃ g, e = .returned (.tuple #[.slice (some ⟨g, 0, none⟩) 384 384, .int .i64 0]) ∧ ∃ S', Law w d F S' W' ∧ Moves F F W W') := fun W d F S h t => by
    refine (read_two (k := 1) h t t.s1).mono ?_
    rintro e W' ⟨g, L, rfl, _, _, S', hl, _, _, hm⟩
    exact ⟨g, rfl, S', hl, hm⟩
  go_enter Try.func9, Try.ntmps9
  go_wp2_with fail
  refine cN.out.mono ?_
  rintro r w1 ⟨d, F, rfl, hl, _⟩
  have L1 := hide hl
  clear hl
  go_wp2_with fail
  refine (cL.out _ _ _ _ L1.out (Two.fresh 2 (by omega))).mono ?_
  rintro r w2 ⟨rfl, S2, hl, ht, ha, hm⟩
  have L2 := hide hl
  have T2 := hide ht
  have A2 : Hid (S2.armed = 0) := ha
  clear hl ht ha hm L1 cN cL
  go_wp2_with fail
  refine (cS.out _ _ _ _ (L2.out.alloc _) T2.out A2.out).mono ?_
  rintro r w3 ⟨rfl, F3, S3, hl, ht, ha, hm⟩
  have L3 := hide hl
  have T3 := hide ht
  clear hl ht ha hm L2 T2 A2 cS
  go_wp2_with fail
  have H3 := hide (L3.out.hold [.int .u64 1, .int .u64 1, .int .u64 0, .int .u64 0, .int .u64 0, .bool false, .int .i64 0] 29)
  refine (cL2.out _ _ _ _ (L3.out.alloc _) T3.out).mono ?_
  rintro r w4 ⟨rfl, S4, hl, ht, ha, hm⟩
  have L4 := hide hl
  have T4 := hide ht
  have H4 := hide (H3.out.move hm)
  clear hl ht ha hm T3 cL2 H3
  have HC4 := hide (L4.out.hold [.int .u64 1, .int .u64 1, .int .u64 0, .int .u64 0, .int .u64 0, .bool false, .int .i64 0] 29)
  have hb4 := H4.out.blk
  have hlt4 := hb4.lt
  obtain ⟨z0, z1, z2, z3, z4, z5, z6, f0, f1, f2, f3, f4, f5, f6⟩ := cells7 (b := B1) hb4
  simp only [B1] at z0 z1 z2 z3 z4 z5 z6
  clear hb4
  go_wp2_with fail
  refine (cE.out _).mono ?_
  rintro r w5 ⟨g, rfl, _, hb, hbel⟩
  have L5 := hide ((L4.out.alloc _).below hbel)
  have H5 := hide ((H4.out.alloc _).below hbel)
  have HC5 := hide (HC4.out.below hbel)
  have HB := hide hb
  clear hb hbel L4 H4 HC4 z0 z1 z2 z3 z4 z5 z6 f0 f1 f2 f3 f4 f5 f6 hlt4
  go_wp2_with fail
  refine (cD.out _ _ HB.out).mono ?_
  rintro r w6 ⟨rfl, hbel⟩
  have L6 := hide (L5.out.below hbel)
  have H6 := hide (H5.out.below hbel)
  have HC6 := hide (HC5.out.below hbel)
  have HX6 := hide (L6.out.hold [.int .u64 1, .int .u64 1, .int .u64 0, .int .u64 0, .int .u64 0, .bool false, .int .i64 0] 29)
  clear hbel L5 H5 HC5 HB cD
  go_wp2_with fail
  refine (cR.out _ _ _ _ (L6.out.alloc _) T4.out).mono ?_
  rintro r w7 ⟨g7, rfl, S7, hl, hm⟩
  have L7 := hide hl
  have hb7 := ((H6.out.alloc _).move hm).blk
  have hc7 := ((HC6.out.alloc _).move hm).blk
  have hx7 := (HX6.out.move hm).blk
  obtain ⟨z0, z1, z2, z3, z4, z5, z6, f0, f1, f2, f3, f4, f5, f6⟩ := cells7 (b := B1) hb7
  obtain ⟨y0, y1, y2, y3, y4, y5, y6, g0, g1, g2, g3, g4, g5, g6⟩ := cells7 (b := B1) hc7
  obtain ⟨x0, x1, x2, x3, x4, x5, x6, h0, h1, h2, h3, h4, h5, h6⟩ := cells7 (b := B1) hx7
  simp only [B1] at z0 z1 z2 z3 z4 z5 z6 y0 y1 y2 y3 y4 y5 y6 x0 x1 x2 x3 x4 x5 x6
  clear hl hm L6 H6 HC6 HX6 hb7 hc7 hx7 f0 f1 f2 f3 f4 f5 f6 g0 g1 g2 g3 g4 g5 g6 h0 h1 h2 h3 h4 h5 h6 cR T4
  go_wp2_with (go_at_call 14; refine (cE.out _).mono ?_; rintro r w8 ⟨g8, rfl, _, _, hbel⟩; have B8 := hide (L7.out.below hbel).bel; clear hbel)
  go_ret
  exact ⟨rfl, B8.out⟩
end Go.Proofs.Ytcdefadeaiklbaa
