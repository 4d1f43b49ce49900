/- The document's own 'Load'. -/
import Derived.Test.YtcdefadeaiklbaaRefDec
import Derived.Test.YtcdefadeaiklbaaAlike
set_option linter.unusedVariables false
set_option linter.unusedSimpArgs false
set_option maxRecDepth 8000
namespace Go.Proofs.Ytcdefadeaiklbaa
open Go.RowKit Go.Deep Math

theorem put7_blkT {w : World} {g : Nat} {x : Bk} {t : TypeId} (h : Blk w g (bkL x) t) (b : Bk) : Blk (put7 w g b) g (bkL b) t :=
  ((((((h.set 0 _).set 1 _).set 2 _).set 3 _).set 4 _).set 5 _).set 6 _
theorem cells7T {w : World} {g : Nat} {b : Bk} {t : TypeId} (h : Blk w g (bkL b) t) :
    w.cell? ⟨g, 0, none⟩ = some (.int .u64 b.seq) ∧ w.cell? ⟨g, 1, none⟩ = some (.int .u64 b.epoch) ∧ w.cell? ⟨g, 2, none⟩ = some (.int .u64 b.res) ∧ w.cell? ⟨g, 3, none⟩ = some (.int .u64 b.hor) ∧ w.cell? ⟨g, 4, none⟩ = some (.int .u64 b.gen) ∧ w.cell? ⟨g, 5, none⟩ = some (.bool b.clean) ∧ w.cell? ⟨g, 6, none⟩ = some (.int .i64 b.image) ∧
    w.frozen? ⟨g, 0, none⟩ = false ∧ w.frozen? ⟨g, 1, none⟩ = false ∧ w.frozen? ⟨g, 2, none⟩ = false ∧ w.frozen? ⟨g, 3, none⟩ = false ∧ w.frozen? ⟨g, 4, none⟩ = false ∧ w.frozen? ⟨g, 5, none⟩ = false ∧ w.frozen? ⟨g, 6, none⟩ = false :=
  ⟨h.cell rfl, h.cell rfl, h.cell rfl, h.cell rfl, h.cell rfl, h.cell rfl, h.cell rfl, h.frozen 0, h.frozen 1, h.frozen 2, h.frozen 3, h.frozen 4, h.frozen 5, h.frozen 6⟩
theorem cells7zT {w : World} {g : Nat} {t : TypeId} (h : Blk w g (bkL Bk.zero) t) :
    w.cell? ⟨g, 0, none⟩ = some (.int .u64 0) ∧ w.cell? ⟨g, 1, none⟩ = some (.int .u64 0) ∧ w.cell? ⟨g, 2, none⟩ = some (.int .u64 0) ∧ w.cell? ⟨g, 3, none⟩ = some (.int .u64 0) ∧ w.cell? ⟨g, 4, none⟩ = some (.int .u64 0) ∧ w.cell? ⟨g, 5, none⟩ = some (.bool false) ∧ w.cell? ⟨g, 6, none⟩ = some (.int .i64 0) ∧
    w.frozen? ⟨g, 0, none⟩ = false ∧ w.frozen? ⟨g, 1, none⟩ = false ∧ w.frozen? ⟨g, 2, none⟩ = false ∧ w.frozen? ⟨g, 3, none⟩ = false ∧ w.frozen? ⟨g, 4, none⟩ = false ∧ w.frozen? ⟨g, 5, none⟩ = false ∧ w.frozen? ⟨g, 6, none⟩ = false := cells7T h
theorem RfAt.alloc {w : World} {r : Nat} {G : List Nat} {S : Dv} (h : RfAt w r G S) (o : Obj) : RfAt (w.alloc o) r G S := h.below ((Below.refl _ _).alloc (Nat.le_refl _) o)
theorem RfAt.good {w : World} {r : Nat} {G : List Nat} {S : Dv} (h : RfAt w r G S) : S.good := by
  obtain ⟨L, _, h⟩ := h
  exact h.good
theorem RfAt.new {w : World} {r : Nat} {G : List Nat} {S : Dv} (h : RfAt w r G S) (k : Nat) (hk : w.heap.size ≤ k) : k ∉ G := fun hf => by have := h.lt k hf; omega
theorem put7_rf {w : World} {r g : Nat} {G : List Nat} {S : Dv} (h : RfAt w r G S) (hg : g ∉ G) (b : Bk) : RfAt (put7 w g b) r G S :=
  h.same (fun k hk => put7_far _ _ _ _ (fun e => hg (e ▸ hk)))
def bestN (S : Dv) : Nat → Option Bk
  | 0 => none
  | k + 1 => newer (bestN S k) (S.slotB k)
def readK (S : Dv) : Nat → Dv
  | 0 => S
  | k + 1 => (readK S k).readDo (k : Nat)
theorem readK_cs (S : Dv) : ∀ k, (readK S k).cs = S.cs
  | 0 => rfl
  | k + 1 => by rw [readK, readDo_cs, readK_cs S k]
theorem readK_off (S : Dv) : ∀ k, (readK S k).off = S.off
  | 0 => rfl
  | k + 1 => by rw [readK, readDo_off, readK_off S k]
theorem newer_none (x : Option Bk) : newer none x = x := by cases x <;> rfl
theorem best_load (S : Dv) : bestN S 2 = S.loadB := by
  show newer (newer none (S.slotB 0)) (S.slotB 1) = _
  rw [newer_none]
  rfl
/-- What is known ahead of a round. -/
structure RLd (w : World) (r : Nat) (G : List Nat) (S : Dv) (k : Nat) (s5 : Value) (wr : World) : Prop where
  some : s5 = .bool (bestN S k).isSome
  dev : RfAt wr r G (readK S k)
  keep : Keep G w wr
  res : Blk wr w.heap.size (bkL Bk.zero) 37
  best : Blk wr (w.heap.size + 1) (bkL ((bestN S k).getD Bk.zero)) 37
theorem txt_full (s : ByteArray) : txt s.data.toList = s := by unfold txt; rw [Array.toArray_toList]
/-- What is read of a page. -/
theorem rread_bare {r : Nat} {G : List Nat} {S : Dv} {k : Nat} {c : Cl} {p : Pg} {e0 : Int} (hk : S.cs[k]? = some c) (hoff : S.off = false) (hc : c.now = p) (he : p.err = e0) (w : World) (h : RfAt w r G S) :
    Calls Try.prog 46 #[.pointer (some ⟨r, 0, none⟩), .int .i64 (k : Nat)] w fun e w' => e = .returned (.tuple #[.string p.read, .int .i64 e0]) ∧ RfAt w' r G (S.readDo (k : Nat)) ∧ Keep G w w' := by
  obtain ⟨e1, e2⟩ := read_facts hk hoff
  rw [hc, he] at e1
  rw [hc] at e2
  have := rread_at r G S k w h
  rw [e1, e2] at this
  exact this

set_option maxHeartbeats 1000000 in
theorem rload_few (r : Nat) (G : List Nat) (S : Dv) (w : World) (h : RfAt w r G S) (hs : S.cs.length < 2) :
    Calls Try.prog 27 #[.pointer (some ⟨r, 0, none⟩)] w fun e w' => e = .returned (bkV Bk.zero 1) ∧ RfAt w' r G S ∧ Keep G w w' := by
  have H := hide h
  obtain ⟨L, rfl, h⟩ := h
  have c1 := h.dev.cell (i := 1) rfl
  have c3 := h.dev.cell (i := 3) rfl
  have rlt := h.dev.lt
  have h2 : ((S.cs.length : Int) < 2) = True := eq_true (by omega)
  clear h hs c3
  go_enter Try.func27, Try.ntmps27
  go_wp2
  exact bodyPost_ret (v := bkV Bk.zero 1) (by simp [results, Try.results27, go_sem, bkV, Bk.zero, *]) rfl ⟨rfl, H.out.alloc _, (Keep.refl _ w).alloc _⟩
set_option maxHeartbeats 1000000 in
theorem rload_off (r : Nat) (G : List Nat) (S : Dv) (w : World) (h : RfAt w r G S) (hs : 2 ≤ S.cs.length ∧ S.off = true) :
    Calls Try.prog 27 #[.pointer (some ⟨r, 0, none⟩)] w fun e w' => e = .returned (bkV Bk.zero 4) ∧ RfAt w' r G S ∧ Keep G w w' := by
  have H := hide h
  obtain ⟨L, rfl, h⟩ := h
  have c1 := h.dev.cell (i := 1) rfl
  have c3 := h.dev.cell (i := 3) rfl
  have rlt := h.dev.lt
  have h2 : ((S.cs.length : Int) < 2) = False := eq_false (by omega)
  rw [hs.2] at c3
  clear h hs
  go_enter Try.func27, Try.ntmps27
  go_wp2
  exact bodyPost_ret (v := bkV Bk.zero 4) (by simp [results, Try.results27, go_sem, bkV, Bk.zero, *]) rfl ⟨rfl, H.out.alloc _, (Keep.refl _ w).alloc _⟩
set_option maxHeartbeats 4000000 in
theorem rload_on (r : Nat) (G : List Nat) (S : Dv) (w : World) (h : RfAt w r G S) (h2l : 2 ≤ S.cs.length) (hoff : S.off = false) :
    Calls Try.prog 27 #[.pointer (some ⟨r, 0, none⟩)] w fun e w' => e = .returned (slotV S.loadB) ∧ RfAt w' r G ((S.readDo 0).readDo 1) ∧ Keep G w w' := by
  have H := hide h
  have HL := hide h2l
  have HO := hide hoff
  have NG := hide (h.new w.heap.size (Nat.le_refl _))
  have NB := hide (h.new (w.heap.size + 1) (Nat.le_succ _))
  have start : Hid (RLd w r G S 0 (.bool false) ((w.alloc (.cells #[.int .u64 0, .int .u64 0, .int .u64 0, .int .u64 0, .int .u64 0, .bool false, .int .i64 0] 37)).alloc (.cells #[.int .u64 0, .int .u64 0, .int .u64 0, .int .u64 0, .int .u64 0, .bool false, .int .i64 0] 37))) := ⟨rfl, (h.alloc _).alloc _, ((Keep.refl _ w).alloc _).alloc _, (Blk.new w (bkL Bk.zero) 37).alloc _, by
    have := Blk.new (w.alloc (.cells #[.int .u64 0, .int .u64 0, .int .u64 0, .int .u64 0, .int .u64 0, .bool false, .int .i64 0] 37)) (bkL Bk.zero) 37
    rw [nblk_alloc] at this
    exact this⟩
  obtain ⟨L, hG, h⟩ := h
  have c1 := h.dev.cell (i := 1) rfl
  have c3 := h.dev.cell (i := 3) rfl
  have rlt := h.dev.lt
  have h2 : ((S.cs.length : Int) < 2) = False := eq_false (by omega)
  rw [hoff] at c3
  clear h h2l hoff hG
  go_enter Try.func27, Try.ntmps27
  go_wp2_with fail
  clear c1 c3 rlt h2
  go_loopg [5, 6] 2 (fun kx s5 s6 wr => ∃ k : Nat, s6 = .int .i64 k ∧ k ≤ 2 ∧ 2 - k ≤ kx ∧ Hid (RLd w r G S k s5 wr))
  case atStart => exact ⟨0, rfl, by omega, by omega, start.out⟩
  case round =>
    obtain ⟨k, rfl, hk2, hg, I⟩ := hrel
    by_cases hlt : k < 2
    · have hlt2 : (k : Int) < 2 := by omega
      obtain ⟨c, hc⟩ : ∃ c, (readK S k).cs[k]? = some c := ⟨_, List.getElem?_eq_getElem (by rw [readK_cs]; have := HL.out; omega)⟩
      have hoffk : (readK S k).off = false := by rw [readK_off]; exact HO.out
      have SB : Hid (S.slotB k = pgBk c.now) := by show _ = _; unfold Dv.slotB; rw [← readK_cs S k, hc]
      have BN : Hid (bestN S (k + 1) = newer (bestN S k) (S.slotB k)) := rfl
      obtain ⟨hs5, hdev, hkeep, hres, hbest⟩ := I.out
      have HG := hide hg
      have HK := hide hkeep
      have HR := hide hres
      have HDV := hide hdev
      generalize hbn : bestN S k = bn at *
      clear hg I hkeep hres hbn
      cases bn with
      | none =>
        simp only [Option.isSome_none, Option.isSome_some] at hs5
        subst hs5
        have hbest' : Blk wr (w.heap.size + 1) (bkL Bk.zero) 37 := hbest
        have HB := hide hbest'
        clear hbest hbest'
        cases hp : c.now using Pg.elim3 with
        | blank =>
          have c1 : Hid (Calls Try.prog 46 #[.pointer (some ⟨r, 0, none⟩), .int .i64 (k : Nat)] wr fun e w' => e = .returned (.tuple #[.string ⟨#[]⟩, .int .i64 5]) ∧ RfAt w' r G (readK S (k + 1)) ∧ Keep G wr w') := rread_bare hc hoffk hp rfl wr HDV.out
          have SN : Hid (S.slotB k = none) := by show _ = _; rw [SB.out, hp]; rfl
          clear hc hoffk hp SB hdev
          go_wp2_with (go_at_call 46; refine c1.out.mono ?_; rintro q w1 ⟨rfl, hd1, k1⟩; have HD1 := hide hd1; have HK1 := hide k1; clear hd1 k1)
          go_roundg (2 - (k + 1))
          case measure => have := HG.out; omega
          case rel =>
            have hb : bestN S (k + 1) = none := by rw [BN.out, SN.out]; rfl
            exact ⟨k + 1, rfl, by omega, by omega, by rw [hb]; rfl, HD1.out, HK.out.trans HK1.out (fun x hx => .inl hx), HR.out.same (HK1.out.block _ HR.out.lt NG.out), by rw [hb]; exact HB.out.same (HK1.out.block _ HB.out.lt NB.out)⟩
        | torn =>
          have c1 : Hid (Calls Try.prog 46 #[.pointer (some ⟨r, 0, none⟩), .int .i64 (k : Nat)] wr fun e w' => e = .returned (.tuple #[.string ⟨#[]⟩, .int .i64 6]) ∧ RfAt w' r G (readK S (k + 1)) ∧ Keep G wr w') := rread_bare hc hoffk hp rfl wr HDV.out
          have SN : Hid (S.slotB k = none) := by show _ = _; rw [SB.out, hp]; rfl
          clear hc hoffk hp SB hdev
          go_wp2_with (go_at_call 46; refine c1.out.mono ?_; rintro q w1 ⟨rfl, hd1, k1⟩; have HD1 := hide hd1; have HK1 := hide k1; clear hd1 k1)
          go_roundg (2 - (k + 1))
          case measure => have := HG.out; omega
          case rel =>
            have hb : bestN S (k + 1) = none := by rw [BN.out, SN.out]; rfl
            exact ⟨k + 1, rfl, by omega, by omega, by rw [hb]; rfl, HD1.out, HK.out.trans HK1.out (fun x hx => .inl hx), HR.out.same (HK1.out.block _ HR.out.lt NG.out), by rw [hb]; exact HB.out.same (HK1.out.block _ HB.out.lt NB.out)⟩
        | whole b =>
          have c1 : Hid (Calls Try.prog 46 #[.pointer (some ⟨r, 0, none⟩), .int .i64 (k : Nat)] wr fun e w' => e = .returned (.tuple #[.string (full b), .int .i64 0]) ∧ RfAt w' r G (readK S (k + 1)) ∧ Keep G wr w') := rread_bare hc hoffk hp rfl wr HDV.out
          have hfit : b.size ≤ 384 := by
            have hm : c ∈ (readK S k).cs := List.mem_of_getElem? hc
            have := (RfAt.good hdev).fits c hm
            replace this := this.1
            rw [hp] at this
            exact this
          have cd : ∀ W : World, Calls Try.prog 17 #[.string (full b)] W fun e w' => e = .returned (decB2 (dec (full b).data.toList)) ∧ Below W.heap.size W w' := fun W => by
            have := refDecode_any (full b).data.toList (by rw [Array.length_toList]; have := full_size b hfit; show (full b).size ≤ _; omega) W
            rw [txt_full] at this
            exact this
          have SN : S.slotB k = dec (full b).data.toList := by rw [SB.out, hp]; rfl
          generalize full b = fb at *
          clear hc hoffk hp SB hdev hfit
          cases hdd : dec fb.data.toList with
          | none =>
            rw [hdd] at cd SN
            have cd2 : Hid (∀ W : World, Calls Try.prog 17 #[.string fb] W fun e w' => e = .returned (.tuple #[.agg #[.int .u64 0, .int .u64 0, .int .u64 0, .int .u64 0, .int .u64 0, .bool false, .int .i64 0], .bool false]) ∧ Below W.heap.size W w') := cd
            have HSN := hide SN
            clear cd SN hdd
            go_wp2_with (first
              | (go_at_call 46; refine c1.out.mono ?_; rintro q w1 ⟨rfl, hd1, k1⟩; have HD1 := hide hd1; have HK1 := hide k1; clear hd1 k1)
              | (go_at_call 17; refine (cd2.out _).mono ?_; rintro q w2 ⟨rfl, hb2⟩; have HB2 := hide hb2; clear hb2))
            go_roundg (2 - (k + 1))
            case measure => have := HG.out; omega
            case rel =>
              have hb : bestN S (k + 1) = none := by rw [BN.out, HSN.out]; rfl
              have k2 : Keep G wr w2 := HK1.out.trans (Keep.of_below (F := G) HB2.out) (fun x hx => .inl hx)
              exact ⟨k + 1, rfl, by omega, by omega, by rw [hb]; rfl, (HD1.out.below HB2.out).alloc _, (HK.out.trans k2 (fun x hx => .inl hx)).alloc _, (HR.out.same (k2.block _ HR.out.lt NG.out)).alloc _, by rw [hb]; exact (HB.out.same (k2.block _ HB.out.lt NB.out)).alloc _⟩
          | some y =>
            rw [hdd] at cd SN
            have cd2 : Hid (∀ W : World, Calls Try.prog 17 #[.string fb] W fun e w' => e = .returned (.tuple #[.agg #[.int .u64 y.seq, .int .u64 y.epoch, .int .u64 y.res, .int .u64 y.hor, .int .u64 y.gen, .bool y.clean, .int .i64 y.image], .bool true]) ∧ Below W.heap.size W w') := cd
            have HSN := hide SN
            clear cd SN hdd
            go_wp2_with (first
              | (go_at_call 46; refine c1.out.mono ?_; rintro q w1 ⟨rfl, hd1, k1⟩; have HD1 := hide hd1; have HK1 := hide k1; clear hd1 k1))
            refine (cd2.out _).mono ?_
            rintro q w2 ⟨rfl, hb2⟩
            have HB2 := hide hb2
            have k2 : Keep G wr w2 := HK1.out.trans (Keep.of_below (F := G) hb2) (fun x hx => .inl hx)
            have hbb := HB.out.same (k2.block _ HB.out.lt NB.out)
            have HBB := hide hbb
            have HK2 := hide k2
            obtain ⟨z0, z1, z2, z3, z4, z5, z6, f0, f1, f2, f3, f4, f5, f6⟩ := cells7zT hbb
            have blt := hbb.lt
            clear hb2 k2 hbb
            go_wp2
            go_roundg (2 - (k + 1))
            case measure => have := HG.out; omega
            case rel =>
              have hb : bestN S (k + 1) = some y := by rw [BN.out, HSN.out]; rfl
              have hne : w.heap.size ≠ w.heap.size + 1 := by omega
              exact ⟨k + 1, rfl, by omega, by omega, by rw [hb]; rfl, (put7_rf (HD1.out.below HB2.out) NB.out y).alloc _, (put7_keep (HK.out.trans HK2.out (fun x hx => .inl hx)) (.inr (Nat.le_succ _)) y).alloc _, ((HR.out.same (HK2.out.block _ HR.out.lt NG.out)).same (put7_far _ _ _ _ hne)).alloc _, by rw [hb]; exact (put7_blkT HBB.out y).alloc _⟩
      | some x =>
        simp only [Option.isSome_none, Option.isSome_some] at hs5
        subst hs5
        have hbest' : Blk wr (w.heap.size + 1) (bkL x) 37 := hbest
        have HB := hide hbest'
        clear hbest hbest'
        cases hp : c.now using Pg.elim3 with
        | blank =>
          have c1 : Hid (Calls Try.prog 46 #[.pointer (some ⟨r, 0, none⟩), .int .i64 (k : Nat)] wr fun e w' => e = .returned (.tuple #[.string ⟨#[]⟩, .int .i64 5]) ∧ RfAt w' r G (readK S (k + 1)) ∧ Keep G wr w') := rread_bare hc hoffk hp rfl wr HDV.out
          have SN : Hid (S.slotB k = none) := by show _ = _; rw [SB.out, hp]; rfl
          clear hc hoffk hp SB hdev
          go_wp2_with (go_at_call 46; refine c1.out.mono ?_; rintro q w1 ⟨rfl, hd1, k1⟩; have HD1 := hide hd1; have HK1 := hide k1; clear hd1 k1)
          go_roundg (2 - (k + 1))
          case measure => have := HG.out; omega
          case rel =>
            have hb : bestN S (k + 1) = some x := by rw [BN.out, SN.out]; rfl
            exact ⟨k + 1, rfl, by omega, by omega, by rw [hb]; rfl, HD1.out, HK.out.trans HK1.out (fun x hx => .inl hx), HR.out.same (HK1.out.block _ HR.out.lt NG.out), by rw [hb]; exact HB.out.same (HK1.out.block _ HB.out.lt NB.out)⟩
        | torn =>
          have c1 : Hid (Calls Try.prog 46 #[.pointer (some ⟨r, 0, none⟩), .int .i64 (k : Nat)] wr fun e w' => e = .returned (.tuple #[.string ⟨#[]⟩, .int .i64 6]) ∧ RfAt w' r G (readK S (k + 1)) ∧ Keep G wr w') := rread_bare hc hoffk hp rfl wr HDV.out
          have SN : Hid (S.slotB k = none) := by show _ = _; rw [SB.out, hp]; rfl
          clear hc hoffk hp SB hdev
          go_wp2_with (go_at_call 46; refine c1.out.mono ?_; rintro q w1 ⟨rfl, hd1, k1⟩; have HD1 := hide hd1; have HK1 := hide k1; clear hd1 k1)
          go_roundg (2 - (k + 1))
          case measure => have := HG.out; omega
          case rel =>
            have hb : bestN S (k + 1) = some x := by rw [BN.out, SN.out]; rfl
            exact ⟨k + 1, rfl, by omega, by omega, by rw [hb]; rfl, HD1.out, HK.out.trans HK1.out (fun x hx => .inl hx), HR.out.same (HK1.out.block _ HR.out.lt NG.out), by rw [hb]; exact HB.out.same (HK1.out.block _ HB.out.lt NB.out)⟩
        | whole b =>
          have c1 : Hid (Calls Try.prog 46 #[.pointer (some ⟨r, 0, none⟩), .int .i64 (k : Nat)] wr fun e w' => e = .returned (.tuple #[.string (full b), .int .i64 0]) ∧ RfAt w' r G (readK S (k + 1)) ∧ Keep G wr w') := rread_bare hc hoffk hp rfl wr HDV.out
          have hfit : b.size ≤ 384 := by
            have hm : c ∈ (readK S k).cs := List.mem_of_getElem? hc
            have := (RfAt.good hdev).fits c hm
            replace this := this.1
            rw [hp] at this
            exact this
          have cd : ∀ W : World, Calls Try.prog 17 #[.string (full b)] W fun e w' => e = .returned (decB2 (dec (full b).data.toList)) ∧ Below W.heap.size W w' := fun W => by
            have := refDecode_any (full b).data.toList (by rw [Array.length_toList]; have := full_size b hfit; show (full b).size ≤ _; omega) W
            rw [txt_full] at this
            exact this
          have SN : S.slotB k = dec (full b).data.toList := by rw [SB.out, hp]; rfl
          generalize full b = fb at *
          clear hc hoffk hp SB hdev hfit
          cases hdd : dec fb.data.toList with
          | none =>
            rw [hdd] at cd SN
            have cd2 : Hid (∀ W : World, Calls Try.prog 17 #[.string fb] W fun e w' => e = .returned (.tuple #[.agg #[.int .u64 0, .int .u64 0, .int .u64 0, .int .u64 0, .int .u64 0, .bool false, .int .i64 0], .bool false]) ∧ Below W.heap.size W w') := cd
            have HSN := hide SN
            clear cd SN hdd
            go_wp2_with (first
              | (go_at_call 46; refine c1.out.mono ?_; rintro q w1 ⟨rfl, hd1, k1⟩; have HD1 := hide hd1; have HK1 := hide k1; clear hd1 k1)
              | (go_at_call 17; refine (cd2.out _).mono ?_; rintro q w2 ⟨rfl, hb2⟩; have HB2 := hide hb2; clear hb2))
            go_roundg (2 - (k + 1))
            case measure => have := HG.out; omega
            case rel =>
              have hb : bestN S (k + 1) = some x := by rw [BN.out, HSN.out]; rfl
              have k2 : Keep G wr w2 := HK1.out.trans (Keep.of_below (F := G) HB2.out) (fun x hx => .inl hx)
              exact ⟨k + 1, rfl, by omega, by omega, by rw [hb]; rfl, (HD1.out.below HB2.out).alloc _, (HK.out.trans k2 (fun x hx => .inl hx)).alloc _, (HR.out.same (k2.block _ HR.out.lt NG.out)).alloc _, by rw [hb]; exact (HB.out.same (k2.block _ HB.out.lt NB.out)).alloc _⟩
          | some y =>
            rw [hdd] at cd SN
            have cd2 : Hid (∀ W : World, Calls Try.prog 17 #[.string fb] W fun e w' => e = .returned (.tuple #[.agg #[.int .u64 y.seq, .int .u64 y.epoch, .int .u64 y.res, .int .u64 y.hor, .int .u64 y.gen, .bool y.clean, .int .i64 y.image], .bool true]) ∧ Below W.heap.size W w') := cd
            have HSN := hide SN
            clear cd SN hdd
            go_wp2_with (first
              | (go_at_call 46; refine c1.out.mono ?_; rintro q w1 ⟨rfl, hd1, k1⟩; have HD1 := hide hd1; have HK1 := hide k1; clear hd1 k1))
            refine (cd2.out _).mono ?_
            rintro q w2 ⟨rfl, hb2⟩
            have HB2 := hide hb2
            have k2 : Keep G wr w2 := HK1.out.trans (Keep.of_below (F := G) hb2) (fun x hx => .inl hx)
            have hbb := HB.out.same (k2.block _ HB.out.lt NB.out)
            have HBB := hide hbb
            have HK2 := hide k2
            obtain ⟨z0, z1, z2, z3, z4, z5, z6, f0, f1, f2, f3, f4, f5, f6⟩ := cells7T hbb
            have blt := hbb.lt
            clear hb2 k2 hbb
            by_cases hsq : x.seq < y.seq
            · have HLT := hide hsq
              have hlti : ((x.seq : Int) < (y.seq : Int)) = True := eq_true (by omega)
              clear hsq
              go_wp2
              go_roundg (2 - (k + 1))
              case measure => have := HG.out; omega
              case rel =>
                have hb : bestN S (k + 1) = some y := by rw [BN.out, HSN.out]; exact if_pos HLT.out
                have hne : w.heap.size ≠ w.heap.size + 1 := by omega
                exact ⟨k + 1, rfl, by omega, by omega, by rw [hb]; rfl, (put7_rf (HD1.out.below HB2.out) NB.out y).alloc _, (put7_keep (HK.out.trans HK2.out (fun x hx => .inl hx)) (.inr (Nat.le_succ _)) y).alloc _, ((HR.out.same (HK2.out.block _ HR.out.lt NG.out)).same (put7_far _ _ _ _ hne)).alloc _, by rw [hb]; exact (put7_blkT HBB.out y).alloc _⟩
            · have HLT := hide hsq
              have hlti : ((x.seq : Int) < (y.seq : Int)) = False := eq_false (by omega)
              clear hsq
              go_wp2
              go_roundg (2 - (k + 1))
              case measure => have := HG.out; omega
              case rel =>
                have hb : bestN S (k + 1) = some x := by rw [BN.out, HSN.out]; exact if_neg HLT.out
                exact ⟨k + 1, rfl, by omega, by omega, by rw [hb]; rfl, (HD1.out.below HB2.out).alloc _, (HK.out.trans HK2.out (fun x hx => .inl hx)).alloc _, (HR.out.same (HK2.out.block _ HR.out.lt NG.out)).alloc _, by rw [hb]; exact HBB.out.alloc _⟩
    · obtain rfl : k = 2 := by omega
      obtain ⟨hs5, hdev, hkeep, hres, hbest⟩ := I.out
      rw [best_load] at hs5 hbest
      have HDV := hide hdev
      have HK := hide hkeep
      have HD2 : Hid (readK S 2 = (S.readDo 0).readDo 1) := rfl
      have rltz := hres.lt
      obtain ⟨z0, z1, z2, z3, z4, z5, z6, f0, f1, f2, f3, f4, f5, f6⟩ := cells7zT hres
      clear hdev hkeep hres I hg hlt hk2
      cases hlb : S.loadB with
      | none =>
        rw [hlb] at hs5 hbest
        subst hs5
        obtain ⟨y0, y1, y2, y3, y4, y5, y6, g0, g1, g2, g3, g4, g5, g6⟩ := cells7zT hbest
        have blt := hbest.lt
        have HLB := hide hlb
        clear hbest hlb
        go_wp2
        refine bodyPost_ret (v := bkV Bk.zero 5) (by simp [results, Try.results27, go_sem, bkV, Bk.zero, *]) rfl ⟨by rw [HLB.out]; rfl, ?_, ?_⟩
        · rw [← HD2.out]; exact put7_rf HDV.out NG.out Bk.zero
        · exact put7_keep HK.out (.inr (Nat.le_refl _)) Bk.zero
      | some x =>
        rw [hlb] at hs5 hbest
        subst hs5
        obtain ⟨y0, y1, y2, y3, y4, y5, y6, g0, g1, g2, g3, g4, g5, g6⟩ := cells7T hbest
        simp only [Option.getD_some] at y0 y1 y2 y3 y4 y5 y6
        have blt := hbest.lt
        have HLB := hide hlb
        clear hbest hlb
        go_wp2
        refine bodyPost_ret (v := bkV x 0) (by simp [results, Try.results27, go_sem, bkV, *]) rfl ⟨by rw [HLB.out]; rfl, ?_, ?_⟩
        · rw [← HD2.out]; exact put7_rf HDV.out NG.out x
        · exact put7_keep HK.out (.inr (Nat.le_refl _)) x
theorem rload_any (r : Nat) (G : List Nat) (S : Dv) (w : World) (h : RfAt w r G S) :
    Calls Try.prog 27 #[.pointer (some ⟨r, 0, none⟩)] w fun e w' => e = .returned S.loadV ∧ RfAt w' r G S.loadDo ∧ Keep G w w' := by
  by_cases h2 : S.cs.length < 2
  · have e1 : S.loadV = bkV Bk.zero 1 := by unfold Dv.loadV; rw [if_pos h2]
    have e2 : S.loadDo = S := by unfold Dv.loadDo; rw [if_pos h2]
    rw [e1, e2]
    exact rload_few r G S w h h2
  · cases ho : S.off with
    | true =>
      have e1 : S.loadV = bkV Bk.zero 4 := by unfold Dv.loadV; rw [if_neg h2, if_pos ho]
      have e2 : S.loadDo = S := by unfold Dv.loadDo; rw [if_neg h2, if_pos ho]
      rw [e1, e2]
      exact rload_off r G S w h ⟨by omega, ho⟩
    | false =>
      have e1 : S.loadV = slotV S.loadB := by unfold Dv.loadV; rw [if_neg h2, if_neg (by rw [ho]; decide)]
      have e2 : S.loadDo = (S.readDo 0).readDo 1 := by unfold Dv.loadDo; rw [if_neg h2, if_neg (by rw [ho]; decide)]
      rw [e1, e2]
      exact rload_on r G S w h (by omega) ho
end Go.Proofs.Ytcdefadeaiklbaa
