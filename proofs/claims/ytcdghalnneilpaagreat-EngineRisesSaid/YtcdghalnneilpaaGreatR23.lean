/- Joined texts. -/
import Derived.Test.YtcdghalnneilpaaGreatR22
set_option linter.unusedVariables false
set_option linter.unusedSimpArgs false
set_option maxRecDepth 8000
set_option maxHeartbeats 8000000
namespace Go.Proofs.YtcdghalnneilpaaGreat
open Go.RowKit Go.Deep Math
def zB : Obj := .cells #[.int .u64 0, .int .u64 0, .int .u64 0, .int .u64 0, .int .u64 0, .bool false, .int .i64 0] 30
theorem num_at {w W0 W : World} {b off n cap : Nat} {l : List UInt8} (h : BS W0 (some ⟨b, off, none⟩) n cap l) (i m c : Nat) (hi : i + m <= n) (h8 : m <= 8) (hc : m <= c) (hW : W.heap = W0.heap) :
  Calls Tryz.prog 182 #[.slice (some ⟨b, off + i, none⟩) m c] W fun e w' => e = .returned (.int .u64 (up (sl l i (i + m)) : Int)) /\ w' = W := by
 have s := (h.heap hW).sub i (i + m) (off + i) m c rfl (by omega) hi (by omega) hc
 exact snumber_any _ _ _ _ s.len (by omega) W s.reads
theorem decode_long (a : Option Addr) (n cap : Nat) (l : List UInt8) (hcap : cap <= 9223372036854775807) (w : World) (h : BS w a n cap l) (hs : 64 <= n) :
  Calls Tryz.prog 151 #[.slice a n cap] w fun e w' => e = .returned (decV (dec l)) /\ Below w.heap.size w w' := by
 have hnl := h.len
 have hcp := h.cap
 obtain ⟨b, off, rfl, hb, hc44⟩ := h.cell 44 (by omega)
 have H0 := hide h
 have L := hide (h.later (w' := w.alloc zB) ((Below.refl _ _).alloc (Nat.le_refl _) _))
 obtain ⟨UU, hUU⟩ : ∃ UU : Nat -> Nat -> Nat, UU = fun i m => up (sl l i (i + m)) := ⟨_, rfl⟩
 have cA : Hid (∀ (W : World) (i m c : Nat), Below w.heap.size w W -> i + m <= n -> m <= 8 -> m <= c -> Calls Tryz.prog 182 #[.slice (some ⟨b, off + i, none⟩) m c] W fun e w' => e = .returned (.int .u64 (UU i m : Int)) /\ w' = W) := fun W i m c hW h1 h2 h3 => by
  rw [hUU]
  exact num_at (w := w) (W0 := W) (H0.out.later hW) i m c h1 h2 h3 rfl
 have hlt : ((n : Int) < 64) = False := eq_false (by omega)
 have hi44 : (44 : Int) < (n : Int) := by omega
 have n64 : (64 : Int) <= (n : Int) := by omega
 have k12 : (12 : Int) <= (cap : Int) := by omega
 have k20 : (20 : Int) <= (cap : Int) := by omega
 have k28 : (28 : Int) <= (cap : Int) := by omega
 have k36 : (36 : Int) <= (cap : Int) := by omega
 have k44 : (44 : Int) <= (cap : Int) := by omega
 have k52 : (52 : Int) <= (cap : Int) := by omega
 have k64 : (64 : Int) <= (cap : Int) := by omega
 have e4 : ¬ cap = 4 := by omega
 have e12 : ¬ cap = 12 := by omega
 have e20 : ¬ cap = 20 := by omega
 have e28 : ¬ cap = 28 := by omega
 have e36 : ¬ cap = 36 := by omega
 have e48 : ¬ cap = 48 := by omega
 obtain ⟨x44, hx44⟩ : ∃ x : Int, x = ((l.getD 44 0).toNat : Int) := ⟨_, rfl⟩
 rw [<- hx44] at hc44
 have HX := hide hx44
 have HNL := hide hnl
 have HS := hide hs
 have HU := hide hUU
 have hU48 : UU 48 4 < 4294967296 := by
  have h1 := up_lt (sl l 48 (48 + 4))
  rw [sl_length _ _ _ (by omega)] at h1
  have e : (256 : Nat) ^ (48 + 4 - 48) = 4294967296 := by decide
  rw [hUU]
  show up (sl l 48 (48 + 4)) < _
  omega
 have hwi : IntKind.i64.wrap (UU 48 4 : Int) = (UU 48 4 : Int) := by rw [IntKind.wrap_i64]; omega
 have HU48 := hide hU48
 clear h hx44 hnl hUU hs hU48
 go_enter Tryz.func151, Tryz.ntmps151
 go_wp2_with fail
 have c44' : ((w.alloc (.cells #[.int .u64 0, .int .u64 0, .int .u64 0, .int .u64 0, .int .u64 0, .bool false, .int .i64 0] 30)).drew).cell? ⟨b, off + 44, none⟩ = some (.int .u8 x44) := (World.cell?_of_block (a := ⟨b, off + 44, none⟩) (show ((w.alloc zB).drew).heap[b]? = w.heap[b]? from blk_alloc_lt _ _ _ hb)).trans hc44
 have Bz : Blk ((w.alloc (.cells #[.int .u64 0, .int .u64 0, .int .u64 0, .int .u64 0, .int .u64 0, .bool false, .int .i64 0] 30)).alloc (.cells #[.int .u64 0, .int .u64 0, .int .u64 0, .int .u64 0, .int .u64 0, .bool false, .int .i64 0] 30)) (w.heap.size + 1) [.int .u64 0, .int .u64 0, .int .u64 0, .int .u64 0, .int .u64 0, .bool false, .int .i64 0] 30 := by
  have := Blk.new (w.alloc (.cells #[.int .u64 0, .int .u64 0, .int .u64 0, .int .u64 0, .int .u64 0, .bool false, .int .i64 0] 30)) [.int .u64 0, .int .u64 0, .int .u64 0, .int .u64 0, .int .u64 0, .bool false, .int .i64 0] 30
  rw [nblk_alloc] at this
  exact this
 have Be : Blk ((w.alloc (.cells #[.int .u64 0, .int .u64 0, .int .u64 0, .int .u64 0, .int .u64 0, .bool false, .int .i64 0] 30)).alloc (.cells #[.int .u64 (UU 4 8), .int .u64 (UU 12 8), .int .u64 (UU 20 8), .int .u64 (UU 28 8), .int .u64 (UU 36 8), .bool (x44 == 1), .int .i64 (UU 48 4)] 30)) (w.heap.size + 1) [.int .u64 (UU 4 8), .int .u64 (UU 12 8), .int .u64 (UU 20 8), .int .u64 (UU 28 8), .int .u64 (UU 36 8), .bool (x44 == 1), .int .i64 (UU 48 4)] 30 := by
  have := Blk.new (w.alloc (.cells #[.int .u64 0, .int .u64 0, .int .u64 0, .int .u64 0, .int .u64 0, .bool false, .int .i64 0] 30)) [.int .u64 (UU 4 8), .int .u64 (UU 12 8), .int .u64 (UU 20 8), .int .u64 (UU 28 8), .int .u64 (UU 36 8), .bool (x44 == 1), .int .i64 (UU 48 4)] 30
  rw [nblk_alloc] at this
  exact this
 have HBz := hide Bz
 have HBe := hide Be
 clear Bz Be
 apply stage (S := fun W => Below w.heap.size w W /\ Blk W w.heap.size [.int .u64 0, .int .u64 0, .int .u64 0, .int .u64 0, .int .u64 0, .bool false, .int .i64 0] 30 /\ Blk W (w.heap.size + 1) [.int .u64 (UU 4 8), .int .u64 (UU 12 8), .int .u64 (UU 20 8), .int .u64 (UU 28 8), .int .u64 (UU 36 8), .bool (x44 == 1), .int .i64 (UU 48 4)] 30)
 ·intro H
  go_region_held3 (fun W => W.cell? ⟨b, off + 44, none⟩ = some (.int .u8 x44))
   (first | exact c44' | go_keep)
   (first
    | (go_at_call 182; refine (cA.out _ _ _ _ ?_ ?_ ?_ ?_).mono ?_; (first | exact ((Below.refl _ _).alloc (Nat.le_refl _) _).drew | exact (((Below.refl _ _).alloc (Nat.le_refl _) _).alloc (by rw [nblk_alloc]; omega) _).drew); omega; omega; omega; rintro r wx ⟨rfl, rfl⟩))
  all_goals first
   | exact H _ ⟨(((Below.refl _ _).alloc (Nat.le_refl _) _).alloc (by rw [nblk_alloc]; omega) _).drew, (Blk.new w [.int .u64 0, .int .u64 0, .int .u64 0, .int .u64 0, .int .u64 0, .bool false, .int .i64 0] 30).alloc _, HBe.out⟩
   | exact H _ ⟨((((((((((Below.refl _ _).alloc (Nat.le_refl _) _).alloc (by rw [nblk_alloc]; omega) _).setCell (Nat.le_succ _) _).setCell (Nat.le_succ _) _).setCell (Nat.le_succ _) _).setCell (Nat.le_succ _) _).setCell (Nat.le_succ _) _).setCell (Nat.le_succ _) _).setCell (Nat.le_succ _) _).drew, ((((((((Blk.new w [.int .u64 0, .int .u64 0, .int .u64 0, .int .u64 0, .int .u64 0, .bool false, .int .i64 0] 30).alloc _).other (Nat.ne_of_lt (Nat.lt_succ_self _)) _).other (Nat.ne_of_lt (Nat.lt_succ_self _)) _).other (Nat.ne_of_lt (Nat.lt_succ_self _)) _).other (Nat.ne_of_lt (Nat.lt_succ_self _)) _).other (Nat.ne_of_lt (Nat.lt_succ_self _)) _).other (Nat.ne_of_lt (Nat.lt_succ_self _)) _).other (Nat.ne_of_lt (Nat.lt_succ_self _)) _, ((((((HBz.out.set 0 _).set 1 _).set 2 _).set 3 _).set 4 _).set 5 _).set 6 _⟩
 intro W2 hW2
 have eU4 : (UU 4 8) = (decB l).seq := by rw [HU.out]; rfl
 have eU12 : (UU 12 8) = (decB l).epoch := by rw [HU.out]; rfl
 have eU20 : (UU 20 8) = (decB l).res := by rw [HU.out]; rfl
 have eU28 : (UU 28 8) = (decB l).hor := by rw [HU.out]; rfl
 have eU36 : (UU 36 8) = (decB l).gen := by rw [HU.out]; rfl
 have eU48 : ((UU 48 4 : Nat) : Int) = (decB l).image := by rw [HU.out]; rfl
 have eX : (x44 == 1) = (decB l).clean := by
  rw [HX.out]
  show _ = decide (l.getD 44 0 = 1)
  by_cases hh : l.getD 44 0 = 1
  ·rw [hh]; rfl
  ·rw [decide_eq_false hh]
   have : ¬ ((l.getD 44 0).toNat : Int) = 1 := fun e => hh (UInt8.toNat_inj.1 (by simpa using (Int.ofNat.inj e)))
   simpa using this
 rw [eU4, eU12, eU20, eU28, eU36, eU48, eX] at hW2
 rw [eU4, eU12, eU20, eU28, eU36, eU48, eX]
 clear HBz HBe c44' cA hwi HU48 eU4 eU12 eU20 eU28 eU36 eU48 eX
 have hl64 : 64 <= l.length := by have := HS.out; have := HNL.out; omega
 have FF := hide (decB_fits l hl64)
 have DD : Hid (dec l = if (decB l).enc = l.take 64 then some (decB l) else none) := by show _ = _; unfold dec; rw [if_neg (by omega)]
 generalize decB l = B at *
 have bx := hW2.2.2
 have x0 := bx.cell (i := 0) rfl
 have x1 := bx.cell (i := 1) rfl
 have x2 := bx.cell (i := 2) rfl
 have x3 := bx.cell (i := 3) rfl
 have x4 := bx.cell (i := 4) rfl
 have x5 := bx.cell (i := 5) rfl
 have x6 := bx.cell (i := 6) rfl
 have SP : Hid (∀ W : World, Below w.heap.size w W -> (convert 40 9 (.slice (some ⟨b, off, none⟩) 64 cap)).run Tryz.prog W = .ok (.string (txt (l.take 64))) W) := fun W hW => by
  have s := (H0.out.later hW).sub 0 64 off 64 cap rfl (by omega) (by have := HS.out; omega) rfl (by omega)
  exact str_bs s (fun h => by cases h)
 have sP := SP.out W2.drew hW2.1.drew
 have HW2 := hide hW2
 have cE := hide (encode_any B FF.out)
 clear hW2 bx hl64
 have SE : Hid (∀ (W : World) (g : Nat), Buf W g B.enc 0 -> (convert 40 9 (.slice (some ⟨g, 0, none⟩) 64 64)).run Tryz.prog W = .ok (.string (txt B.enc)) W) := fun W g hb =>
  str_bs (buf_bs hb (by rw [B.enc_length]) (Nat.le_refl _)) (fun h => by cases h)
 by_cases heq : B.enc = l.take 64
 ·have DV : Hid (dec l = some B) := by show _ = _; rw [DD.out, if_pos heq]
  rw [<- heq] at SP sP
  clear heq DD
  generalize txt B.enc = s at *
  go_wp2_with fail
  go_region_held (fun W => W.cell? ⟨w.heap.size + 1, 0, none⟩ = some (.int .u64 B.seq) /\ W.cell? ⟨w.heap.size + 1, 1, none⟩ = some (.int .u64 B.epoch) /\ W.cell? ⟨w.heap.size + 1, 2, none⟩ = some (.int .u64 B.res) /\ W.cell? ⟨w.heap.size + 1, 3, none⟩ = some (.int .u64 B.hor) /\ W.cell? ⟨w.heap.size + 1, 4, none⟩ = some (.int .u64 B.gen) /\ W.cell? ⟨w.heap.size + 1, 5, none⟩ = some (.bool B.clean) /\ W.cell? ⟨w.heap.size + 1, 6, none⟩ = some (.int .i64 B.image) /\ (convert 40 9 (.slice (some ⟨b, off, none⟩) 64 cap)).run Tryz.prog W = .ok (.string s) W)
   (first | exact ⟨x0, x1, x2, x3, x4, x5, x6, sP⟩ | assumption)
   (first | (go_at_call 144; refine (cE.out _).mono ?_; rintro r wx ⟨g, rfl, hg, hbuf, hbel⟩; have hb2 : Below w.heap.size w wx := HW2.out.1.drew.trans (hbel.mono HW2.out.1.size); have bz := HW2.out.2.1.same (hbel.block _ HW2.out.2.1.lt); have bx2 := HW2.out.2.2.same (hbel.block _ HW2.out.2.2.lt); have HB2 := hide hb2; have BZ := hide bz; have BX := hide bx2; have sE := SE.out wx g hbuf; have hS := And.intro (bx2.cell (i := 0) rfl) (And.intro (bx2.cell (i := 1) rfl) (And.intro (bx2.cell (i := 2) rfl) (And.intro (bx2.cell (i := 3) rfl) (And.intro (bx2.cell (i := 4) rfl) (And.intro (bx2.cell (i := 5) rfl) (And.intro (bx2.cell (i := 6) rfl) (SP.out wx hb2))))))); clear hg hbuf hbel hb2 bz bx2))
  have z0 := BZ.out.cell (i := 0) rfl
  have f0 := BZ.out.frozen 0
  have z1 := BZ.out.cell (i := 1) rfl
  have f1 := BZ.out.frozen 1
  have z2 := BZ.out.cell (i := 2) rfl
  have f2 := BZ.out.frozen 2
  have z3 := BZ.out.cell (i := 3) rfl
  have f3 := BZ.out.frozen 3
  have z4 := BZ.out.cell (i := 4) rfl
  have f4 := BZ.out.frozen 4
  have z5 := BZ.out.cell (i := 5) rfl
  have f5 := BZ.out.frozen 5
  have z6 := BZ.out.cell (i := 6) rfl
  have f6 := BZ.out.frozen 6
  obtain ⟨y0, y1, y2, y3, y4, y5, y6, y7⟩ := hS
  clear x0 x1 x2 x3 x4 x5 x6 sP sE y7 SP SE cE
  go_wp2
  rw [DV.out]
  exact bodyPost_ret (v := bkV B 0) (by simp [results, Tryz.results151, go_sem, bkV, Sb.zero, *]) rfl ⟨rfl, ((((((HB2.out.setCell (Nat.le_refl _) _).setCell (Nat.le_refl _) _).setCell (Nat.le_refl _) _).setCell (Nat.le_refl _) _).setCell (Nat.le_refl _) _).setCell (Nat.le_refl _) _).setCell (Nat.le_refl _) _⟩
 ·have DV : Hid (dec l = none) := by show _ = _; rw [DD.out, if_neg heq]
  have hne : ((txt B.enc).toList == (txt (l.take 64)).toList) = false := by rw [txt_list, txt_list]; simpa using heq
  clear heq DD
  generalize txt B.enc = s0 at *
  generalize txt (l.take 64) = s at *
  go_wp2_with fail
  go_region_held (fun W => W.cell? ⟨w.heap.size + 1, 0, none⟩ = some (.int .u64 B.seq) /\ W.cell? ⟨w.heap.size + 1, 1, none⟩ = some (.int .u64 B.epoch) /\ W.cell? ⟨w.heap.size + 1, 2, none⟩ = some (.int .u64 B.res) /\ W.cell? ⟨w.heap.size + 1, 3, none⟩ = some (.int .u64 B.hor) /\ W.cell? ⟨w.heap.size + 1, 4, none⟩ = some (.int .u64 B.gen) /\ W.cell? ⟨w.heap.size + 1, 5, none⟩ = some (.bool B.clean) /\ W.cell? ⟨w.heap.size + 1, 6, none⟩ = some (.int .i64 B.image) /\ (convert 40 9 (.slice (some ⟨b, off, none⟩) 64 cap)).run Tryz.prog W = .ok (.string s) W)
   (first | exact ⟨x0, x1, x2, x3, x4, x5, x6, sP⟩ | assumption)
   (first | (go_at_call 144; refine (cE.out _).mono ?_; rintro r wx ⟨g, rfl, hg, hbuf, hbel⟩; have hb2 : Below w.heap.size w wx := HW2.out.1.drew.trans (hbel.mono HW2.out.1.size); have bz := HW2.out.2.1.same (hbel.block _ HW2.out.2.1.lt); have bx2 := HW2.out.2.2.same (hbel.block _ HW2.out.2.2.lt); have HB2 := hide hb2; have BZ := hide bz; have BX := hide bx2; have sE := SE.out wx g hbuf; have hS := And.intro (bx2.cell (i := 0) rfl) (And.intro (bx2.cell (i := 1) rfl) (And.intro (bx2.cell (i := 2) rfl) (And.intro (bx2.cell (i := 3) rfl) (And.intro (bx2.cell (i := 4) rfl) (And.intro (bx2.cell (i := 5) rfl) (And.intro (bx2.cell (i := 6) rfl) (SP.out wx hb2))))))); clear hg hbuf hbel hb2 bz bx2))
  have z0 := BZ.out.cell (i := 0) rfl
  have f0 := BZ.out.frozen 0
  have z1 := BZ.out.cell (i := 1) rfl
  have f1 := BZ.out.frozen 1
  have z2 := BZ.out.cell (i := 2) rfl
  have f2 := BZ.out.frozen 2
  have z3 := BZ.out.cell (i := 3) rfl
  have f3 := BZ.out.frozen 3
  have z4 := BZ.out.cell (i := 4) rfl
  have f4 := BZ.out.frozen 4
  have z5 := BZ.out.cell (i := 5) rfl
  have f5 := BZ.out.frozen 5
  have z6 := BZ.out.cell (i := 6) rfl
  have f6 := BZ.out.frozen 6
  obtain ⟨y0, y1, y2, y3, y4, y5, y6, y7⟩ := hS
  clear x0 x1 x2 x3 x4 x5 x6 sP sE y7 SP SE cE
  go_wp2
  rw [DV.out]
  exact bodyPost_ret (v := bkV Sb.zero 3) (by simp [results, Tryz.results151, go_sem, bkV, Sb.zero, *]) rfl ⟨rfl, ((((((HB2.out.setCell (Nat.le_refl _) _).setCell (Nat.le_refl _) _).setCell (Nat.le_refl _) _).setCell (Nat.le_refl _) _).setCell (Nat.le_refl _) _).setCell (Nat.le_refl _) _).setCell (Nat.le_refl _) _⟩
theorem decode_any (a : Option Addr) (n cap : Nat) (l : List UInt8) (hcap : cap <= 9223372036854775807) (w : World) (h : BS w a n cap l) :
  Calls Tryz.prog 151 #[.slice a n cap] w fun e w' => e = .returned (decV (dec l)) /\ Below w.heap.size w w' := by
 by_cases hs : n < 64
 ·have e : dec l = none := by unfold dec; rw [if_pos (by rw [<- h.len]; exact hs)]
  rw [e]
  exact decode_short a n cap l w h hs
 ·exact decode_long a n cap l hcap w h (by omega)
def pgBk : Pg -> Option Sb
 | ⟨some (some b)⟩ => dec (full b).data.toList
 | _ => none
def Dv.slotB (S : Dv) (k : Nat) : Option Sb := match S.cs[k]? with
 | some c => pgBk c.now
 | none => none
def slotV : Option Sb -> Value
 | none => bkV Sb.zero 5
 | some b => bkV b 0
theorem sread_whole {d : Nat} {F : List Nat} {S : Dv} {k : Nat} {c : Cl} {b : ByteArray} (hk : S.cs[k]? = some c) (hoff : S.off = false) (hc : c.now = .whole b) (w : World) (h : DvAt w d F S) :
  Calls Tryz.prog 99 #[.pointer (some ⟨d, 0, none⟩), .int .i64 (k : Nat)] w fun e w' => ∃ g, e = .returned (.tuple #[.slice (some ⟨g, 0, none⟩) 384 384, .int .i64 0]) /\ w.heap.size <= g /\
   BS w' (some ⟨g, 0, none⟩) 384 384 (full b).data.toList /\ DvAt w' d F (S.readDo (k : Nat)) /\ Keep F w w' := by
 obtain ⟨e1, e2⟩ := read_facts hk hoff
 rw [hc] at e1 e2
 refine (read_at d F S k w h).mono ?_
 rintro r w1 ⟨v, rfl, hr, hd1, kp1⟩
 rw [e1, e2] at hr
 rw [e1]
 rcases hr with ⟨h0, _⟩ | ⟨_, hsz, g, hg, rfl, hb⟩
 ·exact absurd rfl h0
 ·have hsz' : (full b).data.toList.length = 384 := by rw [Array.length_toList]; exact hsz
  refine ⟨g, rfl, (by omega), buf_bs ?_ hsz'.symm (Nat.le_refl _), hd1, kp1⟩
  unfold Buf
  rw [show zc 0 = [] from rfl, List.append_nil]
  exact hb
def bkL (b : Sb) : List Value := [.int .u64 b.seq, .int .u64 b.epoch, .int .u64 b.res, .int .u64 b.hor, .int .u64 b.gen, .bool b.clean, .int .i64 b.image]
def put7 (w : World) (g : Nat) (b : Sb) : World :=
 ((((((w.setCell ⟨g, 0, none⟩ (.int .u64 b.seq)).setCell ⟨g, 1, none⟩ (.int .u64 b.epoch)).setCell ⟨g, 2, none⟩ (.int .u64 b.res)).setCell ⟨g, 3, none⟩ (.int .u64 b.hor)).setCell ⟨g, 4, none⟩ (.int .u64 b.gen)).setCell ⟨g, 5, none⟩ (.bool b.clean)).setCell ⟨g, 6, none⟩ (.int .i64 b.image)
theorem put7_keep {F : List Nat} {a w : World} {g : Nat} (h : Keep F a w) (hg : g ∈ F \/ a.heap.size <= g) (b : Sb) : Keep F a (put7 w g b) :=
 ((((((h.setCell hg _).setCell hg _).setCell hg _).setCell hg _).setCell hg _).setCell hg _).setCell hg _
theorem put7_far (w : World) (g k : Nat) (b : Sb) (h : k ≠ g) : (put7 w g b).heap[k]? = w.heap[k]? := by
 unfold put7
 rw [blk_setCell_other _ _ _ _ h, blk_setCell_other _ _ _ _ h, blk_setCell_other _ _ _ _ h, blk_setCell_other _ _ _ _ h, blk_setCell_other _ _ _ _ h, blk_setCell_other _ _ _ _ h, blk_setCell_other _ _ _ _ h]
theorem put7_dv {w : World} {d g : Nat} {F : List Nat} {S : Dv} (h : DvAt w d F S) (hg : g ∉ F) (b : Sb) : DvAt (put7 w g b) d F S :=
 h.same (fun k hk => put7_far _ _ _ _ (fun e => hg (e ▸ hk)))
theorem put7_blk {w : World} {g : Nat} {x : Sb} (h : Blk w g (bkL x) 30) (b : Sb) : Blk (put7 w g b) g (bkL b) 30 :=
 ((((((h.set 0 _).set 1 _).set 2 _).set 3 _).set 4 _).set 5 _).set 6 _
theorem cells7 {w : World} {g : Nat} {b : Sb} (h : Blk w g (bkL b) 30) :
  w.cell? ⟨g, 0, none⟩ = some (.int .u64 b.seq) /\ w.cell? ⟨g, 1, none⟩ = some (.int .u64 b.epoch) /\ w.cell? ⟨g, 2, none⟩ = some (.int .u64 b.res) /\ w.cell? ⟨g, 3, none⟩ = some (.int .u64 b.hor) /\ w.cell? ⟨g, 4, none⟩ = some (.int .u64 b.gen) /\ w.cell? ⟨g, 5, none⟩ = some (.bool b.clean) /\ w.cell? ⟨g, 6, none⟩ = some (.int .i64 b.image) /\
  w.frozen? ⟨g, 0, none⟩ = false /\ w.frozen? ⟨g, 1, none⟩ = false /\ w.frozen? ⟨g, 2, none⟩ = false /\ w.frozen? ⟨g, 3, none⟩ = false /\ w.frozen? ⟨g, 4, none⟩ = false /\ w.frozen? ⟨g, 5, none⟩ = false /\ w.frozen? ⟨g, 6, none⟩ = false :=
 ⟨h.cell rfl, h.cell rfl, h.cell rfl, h.cell rfl, h.cell rfl, h.cell rfl, h.cell rfl, h.frozen 0, h.frozen 1, h.frozen 2, h.frozen 3, h.frozen 4, h.frozen 5, h.frozen 6⟩
theorem cells7z {w : World} {g : Nat} (h : Blk w g (bkL Sb.zero) 30) :
  w.cell? ⟨g, 0, none⟩ = some (.int .u64 0) /\ w.cell? ⟨g, 1, none⟩ = some (.int .u64 0) /\ w.cell? ⟨g, 2, none⟩ = some (.int .u64 0) /\ w.cell? ⟨g, 3, none⟩ = some (.int .u64 0) /\ w.cell? ⟨g, 4, none⟩ = some (.int .u64 0) /\ w.cell? ⟨g, 5, none⟩ = some (.bool false) /\ w.cell? ⟨g, 6, none⟩ = some (.int .i64 0) /\
  w.frozen? ⟨g, 0, none⟩ = false /\ w.frozen? ⟨g, 1, none⟩ = false /\ w.frozen? ⟨g, 2, none⟩ = false /\ w.frozen? ⟨g, 3, none⟩ = false /\ w.frozen? ⟨g, 4, none⟩ = false /\ w.frozen? ⟨g, 5, none⟩ = false /\ w.frozen? ⟨g, 6, none⟩ = false := cells7 h
theorem slot_any (d : Nat) (F : List Nat) (S : Dv) (k : Nat) (hk : k < S.cs.length) (hoff : S.off = false) (w : World) (h : DvAt w d F S) :
  Calls Tryz.prog 103 #[.pointer (some ⟨d, 0, none⟩), .int .i64 (k : Nat)] w fun e w' => e = .returned (slotV (S.slotB k)) /\ DvAt w' d F (S.readDo (k : Nat)) /\ Keep F w w' := by
 obtain ⟨c, hc⟩ : ∃ c, S.cs[k]? = some c := ⟨_, List.getElem?_eq_getElem hk⟩
 have hA : DvAt (w.alloc (.cells #[.int .u64 0, .int .u64 0, .int .u64 0, .int .u64 0, .int .u64 0, .bool false, .int .i64 0] 30)) d F S := h.alloc _
 have hz : Blk (w.alloc (.cells #[.int .u64 0, .int .u64 0, .int .u64 0, .int .u64 0, .int .u64 0, .bool false, .int .i64 0] 30)) w.heap.size (bkL Sb.zero) 30 := Blk.new _ _ _
 have NF := hide (h.new w.heap.size (Nat.le_refl _))
 have KA : Hid (Keep F w (w.alloc (.cells #[.int .u64 0, .int .u64 0, .int .u64 0, .int .u64 0, .int .u64 0, .bool false, .int .i64 0] 30))) := (Keep.refl F w).alloc _
 have HZ := hide hz
 have SB : Hid (S.slotB k = pgBk c.now) := by show _ = _; unfold Dv.slotB; rw [hc]
 rcases hp : c.now with ⟨_ | _ | b⟩
 ·have c1 := hide (read_bare (e0 := 5) hc hoff hp rfl (by decide) _ hA)
  rw [hp] at SB
  have SB2 : Hid (S.slotB k = none) := SB.out
  clear hA hz h hk hoff hc hp SB
  go_enter Tryz.func103, Tryz.ntmps103
  go_wp2_with (first
   | (go_at_call 99; refine c1.out.mono ?_; rintro r w1 ⟨rfl, hd1, kp1⟩; have HD := hide hd1; have HK := hide kp1; have hb := HZ.out.same (kp1.block _ HZ.out.lt NF.out); have HB := hide hb; obtain ⟨z0, z1, z2, z3, z4, z5, z6, f0, f1, f2, f3, f4, f5, f6⟩ := cells7z hb; clear hd1 kp1 hb))
  rw [SB2.out]
  refine bodyPost_ret (v := bkV Sb.zero 5) (by simp [results, Tryz.results103, go_sem, bkV, Sb.zero, *]) rfl ⟨rfl, ?_, ?_⟩
  ·exact put7_dv HD.out NF.out Sb.zero
  ·exact put7_keep (KA.out.trans HK.out (fun x hx => .inl hx)) (.inr (Nat.le_refl _)) Sb.zero
 ·have c1 := hide (read_bare (e0 := 6) hc hoff hp rfl (by decide) _ hA)
  rw [hp] at SB
  have SB2 : Hid (S.slotB k = none) := SB.out
  clear hA hz h hk hoff hc hp SB
  go_enter Tryz.func103, Tryz.ntmps103
  go_wp2_with (first
   | (go_at_call 99; refine c1.out.mono ?_; rintro r w1 ⟨rfl, hd1, kp1⟩; have HD := hide hd1; have HK := hide kp1; have hb := HZ.out.same (kp1.block _ HZ.out.lt NF.out); have HB := hide hb; obtain ⟨z0, z1, z2, z3, z4, z5, z6, f0, f1, f2, f3, f4, f5, f6⟩ := cells7z hb; clear hd1 kp1 hb))
  rw [SB2.out]
  refine bodyPost_ret (v := bkV Sb.zero 5) (by simp [results, Tryz.results103, go_sem, bkV, Sb.zero, *]) rfl ⟨rfl, ?_, ?_⟩
  ·exact put7_dv HD.out NF.out Sb.zero
  ·exact put7_keep (KA.out.trans HK.out (fun x hx => .inl hx)) (.inr (Nat.le_refl _)) Sb.zero
 ·have c1 := hide (sread_whole hc hoff hp _ hA)
  rw [hp] at SB
  have hsz : (w.alloc (.cells #[.int .u64 0, .int .u64 0, .int .u64 0, .int .u64 0, .int .u64 0, .bool false, .int .i64 0] 30)).heap.size = w.heap.size + 1 := nblk_alloc _ _
  have HS := hide hsz
  have cd : Hid (∀ (W : World) (g : Nat), BS W (some ⟨g, 0, none⟩) 384 384 (full b).data.toList -> Calls Tryz.prog 151 #[.slice (some ⟨g, 0, none⟩) 384 384] W fun e w' => e = .returned (decV (dec (full b).data.toList)) /\ Below W.heap.size W w') := fun W g hb => decode_any _ _ _ _ (by omega) W hb
  cases hd : dec (full b).data.toList with
  | none =>
   have SB2 : Hid (S.slotB k = none) := SB.out.trans hd
   rw [hd] at cd
   have cd2 : Hid (∀ (W : World) (g : Nat), BS W (some ⟨g, 0, none⟩) 384 384 (full b).data.toList -> Calls Tryz.prog 151 #[.slice (some ⟨g, 0, none⟩) 384 384] W fun e w' => e = .returned (.tuple #[.agg #[.int .u64 0, .int .u64 0, .int .u64 0, .int .u64 0, .int .u64 0, .bool false, .int .i64 0], .int .i64 3]) /\ Below W.heap.size W w') := cd.out
   clear hA hz h hk hoff hc hp SB hd hsz cd
   go_enter Tryz.func103, Tryz.ntmps103
   go_wp2_with (first
    | (go_at_call 99; refine c1.out.mono ?_; rintro r w1 ⟨g, rfl, hg, hbs, hd1, kp1⟩; have HD := hide hd1; have HK := hide kp1; have HBS := hide hbs; clear hg hbs hd1 kp1)
    | (go_at_call 151; refine (cd2.out _ _ HBS.out).mono ?_; rintro r w2 ⟨rfl, hb2⟩; have HB2 := hide hb2; have hb := (HZ.out.same (HK.out.block _ HZ.out.lt NF.out)).same (hb2.block _ (by have := HK.out.size; have := HZ.out.lt; omega)); have hlt := hb.lt; have HB := hide hb; obtain ⟨z0, z1, z2, z3, z4, z5, z6, f0, f1, f2, f3, f4, f5, f6⟩ := cells7z hb; clear hb2 hb))
   rw [SB2.out]
   refine bodyPost_ret (v := bkV Sb.zero 5) (by simp [results, Tryz.results103, go_sem, bkV, Sb.zero, *]) rfl ⟨rfl, ?_, ?_⟩
   ·exact (put7_dv (HD.out.below HB2.out) NF.out Sb.zero).alloc _
   ·exact (put7_keep (KA.out.trans (HK.out.trans (Keep.of_below (F := F) HB2.out) (fun x hx => .inl hx)) (fun x hx => .inl hx)) (.inr (Nat.le_refl _)) Sb.zero).alloc _
  | some x =>
   have SB2 : Hid (S.slotB k = some x) := SB.out.trans hd
   rw [hd] at cd
   have cd2 : Hid (∀ (W : World) (g : Nat), BS W (some ⟨g, 0, none⟩) 384 384 (full b).data.toList -> Calls Tryz.prog 151 #[.slice (some ⟨g, 0, none⟩) 384 384] W fun e w' => e = .returned (.tuple #[.agg #[.int .u64 x.seq, .int .u64 x.epoch, .int .u64 x.res, .int .u64 x.hor, .int .u64 x.gen, .bool x.clean, .int .i64 x.image], .int .i64 0]) /\ Below W.heap.size W w') := cd.out
   clear hA hz h hk hoff hc hp SB hd hsz cd
   go_enter Tryz.func103, Tryz.ntmps103
   go_wp2_with (first
    | (go_at_call 99; refine c1.out.mono ?_; rintro r w1 ⟨g, rfl, hg, hbs, hd1, kp1⟩; have HD := hide hd1; have HK := hide kp1; have HBS := hide hbs; clear hg hbs hd1 kp1)
    | (go_at_call 151; refine (cd2.out _ _ HBS.out).mono ?_; rintro r w2 ⟨rfl, hb2⟩; have HB2 := hide hb2; have hb := (HZ.out.same (HK.out.block _ HZ.out.lt NF.out)).same (hb2.block _ (by have := HK.out.size; have := HZ.out.lt; omega)); have hlt := hb.lt; have HB := hide hb; obtain ⟨z0, z1, z2, z3, z4, z5, z6, f0, f1, f2, f3, f4, f5, f6⟩ := cells7z hb; clear hb2 hb))
   rw [SB2.out]
   refine bodyPost_ret (v := bkV x 0) (by simp [results, Tryz.results103, go_sem, bkV, *]) rfl ⟨rfl, ?_, ?_⟩
   ·exact (put7_dv (HD.out.below HB2.out) NF.out x).alloc _
   ·exact (put7_keep (KA.out.trans (HK.out.trans (Keep.of_below (F := F) HB2.out) (fun x hx => .inl hx)) (fun x hx => .inl hx)) (.inr (Nat.le_refl _)) x).alloc _
end Go.Proofs.YtcdghalnneilpaaGreat
