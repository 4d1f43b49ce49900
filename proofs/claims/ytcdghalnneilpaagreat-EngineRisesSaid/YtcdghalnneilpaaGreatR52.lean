/- Joined texts. -/
import Derived.OpenShut
import Derived.Test.YtcdghalnneilpaaGreatR51
set_option linter.unusedVariables false
set_option linter.unusedSimpArgs false
set_option maxRecDepth 8000
set_option maxHeartbeats 8000000
namespace Go.Proofs.YtcdghalnneilpaaGreat
open Go.RowKit Go.Deep Math
theorem used_lo {S : Dv} (h : S.armed ≠ 1) : S.used.losses = S.losses := by
 unfold Dv.used
 split
 ·rfl
 ·first | rfl | (rw [if_neg h])
theorem wrote_len (S : Dv) (n : Sb) : (S.wrote n).cs.length = S.cs.length := by
 unfold Dv.wrote Dv.writeDo
 split
 ·rw [loadDo_cs]
 ·unfold Dv.putDo
  split
  ·rw [loadDo_cs]
  ·split
   ·rw [Dv.used_cs, loadDo_cs]
   ·show (putAt _ _ _).length = _
    rw [putAt_length, loadDo_cs]
theorem flushDo_len (S : Dv) : S.flushDo.cs.length = S.cs.length := by
 unfold Dv.flushDo
 split
 ·rw [Dv.used_cs]
 ·show (List.map _ _).length = _
  rw [List.length_map]
theorem storeDo_len (S : Dv) (b : Sb) : (S.storeDo b).cs.length = S.cs.length := by
 unfold Dv.storeDo
 split
 ·rfl
 ·split
  ·rfl
  ·split
   ·rw [loadDo_cs]
   ·split
    ·exact wrote_len S _
    ·rw [flushDo_len, wrote_len]
theorem storeDo_lo {S : Dv} (h2 : 2 <= S.cs.length) (ho : S.off = false) (hl : S.lastSeq ≠ 18446744073709551615) (h1 : S.armed ≠ 1) (hA : S.armed ≠ 2) (b : Sb) : (S.storeDo b).losses = S.losses := by
 have hno : ¬ S.off = true := by rw [ho]; decide
 have hn2 : ¬ S.cs.length < 2 := by omega
 have eD : S.storeDo b = (S.wrote (S.nextB b)).flushDo := by unfold Dv.storeDo; rw [if_neg hn2, if_neg hno, if_neg hl, if_neg h1]
 obtain ⟨w1, w2, w3⟩ := wrote_off S (S.nextB b) h2 ho h1
 rw [eD, flushed_is S _ h2 ho h1 hA]
 show (S.wrote (S.nextB b)).used.losses = _
 rw [used_lo (by rw [w2]; omega), wrote_is S _ h2 ho h1]
 show S.loadDo.used.losses = _
 rw [used_lo (by rw [loadDo_armed]; exact h1), loadDo_losses]
structure ErIn (w0 W : World) (x d : Nat) (E : En) (S : Dv) (F : List Nat) (jp sp lp mp : Value) : Prop where
 box : Blk W x (enL d E jp sp lp mp) 104
 law : Law w0 d F S W
 off : x ∉ F
 low : w0.heap.size <= x
def ErAt (w0 W : World) (x d : Nat) (E : En) (S : Dv) : Prop := ∃ F jp sp lp mp, ErIn w0 W x d E S F jp sp lp mp
theorem law_keep {w0 W W' : World} {d x : Nat} {F F' : List Nat} {S S' : Dv} (h : Law w0 d F S W) (hd : DvAt W' d F' S') (hx : w0.heap.size <= x) (k : Keep (x :: F) W W') (hF : ∀ q ∈ F', q ∈ F \/ W.heap.size <= q) : Law w0 d F' S' W' :=
 ⟨hd, fun q hq => (hF q hq).elim (h.low q) (fun h1 => Nat.le_trans h.bel.size h1), h.bel.trans (k.below (fun q hq => by
  rcases List.mem_cons.1 hq with rfl | hq
  ·exact hx
  ·exact h.low q hq) h.bel.size)⟩
section
variable {w0 w w' : World} {x d : Nat} {E : En} {S : Dv}
theorem ErAt.below (h : ErAt w0 w x d E S) (b : Below w.heap.size w w') : ErAt w0 w' x d E S := by
 obtain ⟨F, jp, sp, lp, mp, h⟩ := h
 exact ⟨F, jp, sp, lp, mp, h.box.same (b.block _ h.box.lt), h.law.below b, h.off, h.low⟩
theorem er_near (h : ErAt w0 w x d E S) (hl : E.last < 18446744073709551615) (hn : E.last ≠ E.b.res) :
  Calls Tryz.prog 23 #[.pointer (some ⟨x, 0, none⟩)] w fun e w' => e = .returned (.tuple #[.int .u64 ((E.last + 1 : Nat) : Int), .int .i64 0]) /\ ErAt w0 w' x d { E with last := E.last + 1 } S := by
 obtain ⟨F, jp, sp, lp, mp, h⟩ := h
 refine (version_near h.box hl hn).mono ?_
 rintro e w' ⟨rfl, hb, hk⟩
 exact ⟨rfl, F, jp, sp, lp, mp, hb, law_keep h.law (h.law.dev.same (fun q hq => hk.block q (h.law.dev.lt q hq) (fun hm => h.off (by rw [<- List.mem_singleton.1 hm]; exact hq)))) h.low (hk.mono (fun q hq => .inl (by rw [List.mem_singleton.1 hq]; exact List.mem_cons_self))) (fun q hq => .inl hq), h.off, h.low⟩
theorem er_far (h : ErAt w0 w x d E S) (hlo : S.losses = E.losses) (hf : E.b.fits) (hl : E.last < 18446744073709551615) (hn : E.last = E.b.res) (er : Int) (hE : S.storeE = er) :
  Calls Tryz.prog 23 #[.pointer (some ⟨x, 0, none⟩)] w fun e w' => e = .returned (if er = 0 then .tuple #[.int .u64 ((E.last + 1 : Nat) : Int), .int .i64 0] else .tuple #[.int .u64 0, .int .i64 er]) /\ ErAt w0 w' x d (if er = 0 then ⟨E.losses, S.storeB E.b.more, E.last + 1⟩ else E) (S.storeDo E.b.more) := by
 obtain ⟨F, jp, sp, lp, mp, h⟩ := h
 have e1 : E.setE S = er := by unfold En.setE; rw [if_pos hlo, hE]
 have e2 : E.setD S E.b.more = S.storeDo E.b.more := by unfold En.setD; rw [if_pos hlo]
 refine (version_far h.box h.law.dev h.off hf hl hn).mono ?_
 rw [e1, e2]
 rintro e w' ⟨rfl, F', hd, hb, hk, hF⟩
 refine ⟨rfl, F', jp, sp, lp, mp, ?_, law_keep h.law hd h.low hk hF, fun hm => ?_, h.low⟩
 ·by_cases h0 : er = 0
  ·rw [if_pos h0] at hb ⊢
   have e3 : ({ E.setB S E.b.more with last := E.last + 1 } : En) = ⟨E.losses, S.storeB E.b.more, E.last + 1⟩ := by unfold En.setB; rw [e1, if_pos h0]
   rw [e3] at hb
   exact hb
  ·rw [if_neg h0] at hb ⊢
   exact hb
 ·rcases hF x hm with h1 | h1
  ·exact h.off h1
  ·have := h.box.lt; omega
end
def resO : Option Sb -> Nat
 | some x => x.res
 | none => 0
structure Al (E : En) (S : Dv) (last Q R : Nat) : Prop where
 lad : Lad S (some E.b)
 fits : E.b.fits
 lo : S.losses = E.losses
 le1 : last <= E.last
 le2 : E.last <= E.b.res
 seq : E.b.seq <= Q
 res : E.b.res <= R
 len : S.cs.length = 11
structure Brk (S : Dv) (last Q R : Nat) : Prop where
 len : S.cs.length = 11
 back : ∀ ps : List UInt8, ∃ top, Lad ((S.crash ps).on) top /\ last <= resO top /\ topS top <= Q /\ resO top <= R /\ ∀ b, top = some b -> b.fits
theorem Al.brk {E : En} {S : Dv} {last Q R : Nat} (A : Al E S last Q R) : Brk S last Q R :=
 ⟨A.len, fun ps => ⟨some E.b, A.lad.back ps, Nat.le_trans A.le1 A.le2, A.seq, A.res, fun b h => by cases h; exact A.fits⟩⟩
theorem Al.more {E : En} {S : Dv} {last Q R Q' R' : Nat} (A : Al E S last Q R) (h1 : Q <= Q') (h2 : R <= R') : Al E S last Q' R' :=
 ⟨A.lad, A.fits, A.lo, A.le1, A.le2, Nat.le_trans A.seq h1, Nat.le_trans A.res h2, A.len⟩
theorem Al.arm {E : En} {S : Dv} {last Q R : Nat} (A : Al E S last Q R) (k : Int) : Al E (S.arm k) last Q R := by
 obtain ⟨a, b, t, _⟩ := A.lad.ex
 exact ⟨A.lad.like rfl t.off, A.fits, A.lo, A.le1, A.le2, A.seq, A.res, A.len⟩
section
variable {w0 w w' : World} {x d : Nat} {E : En} {S : Dv}
theorem er_version {last Q R : Nat} (h : ErAt w0 w x d E S) (A : Al E S last Q R) (hQ : Q <= 1000000) (hR : R <= 100000000) :
  Calls Tryz.prog 23 #[.pointer (some ⟨x, 0, none⟩)] w fun e w' =>
   (∃ (v : Nat) (E' : En) (S' : Dv), e = .returned (.tuple #[.int .u64 (v : Int), .int .i64 0]) /\ last < v /\ v <= R + 64 /\ ErAt w0 w' x d E' S' /\ Al E' S' v (Q + 1) (R + 64)) \/
   (e = .returned (.tuple #[.int .u64 0, .int .i64 4]) /\ ∃ S', ErAt w0 w' x d E S' /\ Brk S' last (Q + 1) (R + 64)) := by
 have h1 := A.le1
 have h2 := A.le2
 have h3 := A.res
 have h4 := A.seq
 have hls : S.lastSeq = E.b.seq := A.lad.last
 by_cases hn : E.last = E.b.res
 ·have hq : S.lastSeq ≠ 18446744073709551615 := by omega
  have hmf := Sb.more_fits A.fits
  have hmr : E.b.more.res = E.b.res + 64 := by
   show E.b.res + min 64 (18446744073709551615 - E.b.res) = _
   omega
  obtain ⟨a, b, t, _⟩ := A.lad.ex
  by_cases hc : S.armed = 1 \/ S.armed = 2
  ·obtain ⟨e1, e2, e3⟩ := A.lad.cut E.b.more hmf hq hc
   refine (er_far h A.lo A.fits (by omega) hn 4 e1).mono ?_
   rintro e w' ⟨rfl, hE⟩
   rw [if_neg (by decide)] at hE
   refine .inr ⟨rfl, _, hE, by rw [storeDo_len]; exact A.len, fun ps => ?_⟩
   rcases e3 ps with h | h
   ·exact ⟨_, h, by show last <= E.b.res; omega, by show E.b.seq <= _; omega, by show E.b.res <= _; omega, fun b hb => by cases hb; exact A.fits⟩
   ·refine ⟨_, h, ?_, ?_, ?_, fun b hb => by cases hb; exact nextB_fits S _ hmf (by omega)⟩
    ·show last <= E.b.more.res; omega
    ·show S.lastSeq + 1 <= _; omega
    ·show E.b.more.res <= _; omega
  ·have ha1 : S.armed ≠ 1 := fun e => hc (.inl e)
   have ha2 : S.armed ≠ 2 := fun e => hc (.inr e)
   obtain ⟨e1, e2, e3, e4, e5⟩ := A.lad.store E.b.more hmf hq ha1 ha2
   refine (er_far h A.lo A.fits (by omega) hn 0 e1).mono ?_
   rintro e w' ⟨rfl, hE⟩
   rw [if_pos rfl, e2] at hE
   rw [if_pos rfl]
   refine .inl ⟨E.last + 1, _, _, rfl, by omega, by omega, hE, e4, e3, ?_, Nat.le_refl _, ?_, ?_, ?_, by rw [storeDo_len]; exact A.len⟩
   ·rw [storeDo_lo t.len t.off hq ha1 ha2]; exact A.lo
   ·show E.last + 1 <= E.b.more.res; omega
   ·show S.lastSeq + 1 <= _; omega
   ·show E.b.more.res <= _; omega
 ·refine (er_near h (by omega) hn).mono ?_
  rintro e w' ⟨rfl, hE⟩
  exact .inl ⟨E.last + 1, _, _, rfl, by omega, by omega, hE, A.lad, A.fits, A.lo, Nat.le_refl _, by show E.last + 1 <= E.b.res; omega, by show E.b.seq <= _; omega, by show E.b.res <= _; omega, A.len⟩
end
theorem arm_any (d p : Nat) (pd : List Value) (wa : Option Addr) (wc : Nat) (S : Dv) (w : World) (h : DvIn w d p pd wa wc S) (k : Int) (hk : k <= 9223372036854775807) :
  Calls Tryz.prog 45 #[.pointer (some ⟨d, 0, none⟩), .int .i64 k] w fun e w' => e = .returned (.tuple #[]) /\ DvIn w' d p pd wa wc (S.arm k) /\ Keep [d] w w' := by
 have c2 := h.dev.cell (i := 2) rfl
 have f2 := h.dev.frozen 2
 have H : Hid (DvIn w d p pd wa wc S) := h
 have G : Hid _ := Dv.arm_good h.good k hk
 clear h
 obtain ⟨cs, armed, off, losses, wr, fl, rd, cr⟩ := S
 simp only at c2
 obtain ⟨q, hq⟩ : ∃ q : Int, q = max k 0 := ⟨_, rfl⟩
 have e : Hid ((k.toNat : Int) = q) := by show (k.toNat : Int) = q; omega
 have HQ := hide hq
 go_enter Tryz.func45, Tryz.ntmps45
 clear hq
 go_wp2
 go_end0
 rw [<- HQ.out]
 have K : Keep [d] w (w.setCell ⟨d, 2, none⟩ (.int .i64 q)) := (Keep.refl [d] w).setCell (.inl (by simp)) _
 refine ⟨rfl, H.out.turn K ?_ rfl G.out, K⟩
 have := H.out.dev.set 2 (.int .i64 q)
 simp only [Dv.arm, dvCells, e.out]
 exact this
section
variable {w0 w w' : World} {x d : Nat} {E : En} {S : Dv}
theorem er_arm (h : ErAt w0 w x d E S) (k : Int) (hk : k <= 9223372036854775807) : Calls Tryz.prog 45 #[.pointer (some ⟨d, 0, none⟩), .int .i64 k] w fun e w' => e = .returned (.tuple #[]) /\ ErAt w0 w' x d E (S.arm k) := by
 obtain ⟨F, jp, sp, lp, mp, h⟩ := h
 obtain ⟨p, pd, wa, wc, hF, hd⟩ := h.law.dev
 refine (arm_any d p pd wa wc S w hd k hk).mono ?_
 rintro e w' ⟨rfl, h1, k1⟩
 have hdF : d ∈ F := by rw [hF]; simp [foot]
 have m : Moves F F w w' := Moves.of_keep (k1.mono (fun q hq => .inl (by rw [List.mem_singleton.1 hq]; exact hdF)))
 exact ⟨rfl, F, jp, sp, lp, mp, h.box.same (m.keep.block _ h.box.lt h.off), h.law.move ⟨p, pd, wa, wc, hF, h1⟩ m, h.off, h.low⟩
def DevL (w0 W : World) (d : Nat) (S : Dv) : Prop := ∃ F, Law w0 d F S W
theorem DevL.below (h : DevL w0 w d S) (b : Below w.heap.size w w') : DevL w0 w' d S := by
 obtain ⟨F, h⟩ := h
 exact ⟨F, h.below b⟩
theorem DevL.bel (h : DevL w0 w d S) : Below w0.heap.size w0 w := by
 obtain ⟨F, h⟩ := h
 exact h.bel
theorem ErAt.devL (h : ErAt w0 w x d E S) : DevL w0 w d S := by
 obtain ⟨F, _, _, _, _, h⟩ := h
 exact ⟨F, h.law⟩
theorem dl_crash (h : DevL w0 w d S) {a : Option Addr} {n cap : Nat} {l : List UInt8} (hb : BS w0 a n cap l) (hnil : a = none -> l = []) (hn : n <= 140737488351232) :
  Calls Tryz.prog 43 #[.pointer (some ⟨d, 0, none⟩), .slice a n cap] w fun e w' => e = .returned (.tuple #[]) /\ DevL w0 w' d (S.crash l) := by
 obtain ⟨F, h⟩ := h
 have hb' := hb.later h.bel
 have hex : ∃ bb, BSlice w a l bb /\ (l ≠ [] -> bb ∉ F) := by
  cases a with
  | none => exact ⟨0, .inl (hnil rfl), fun hl => absurd (hnil rfl) hl⟩
  | some x =>
   by_cases hl : l = []
   ·exact ⟨0, .inl hl, fun h => absurd hl h⟩
   ·have hpos : 0 < l.length := List.length_pos_iff.2 hl
    obtain ⟨b', o', ha, hlt, hc⟩ := hb.cell 0 (by have := hb.len; omega)
    cases ha
    exact ⟨b', hb'.slice, fun _ hf => by have := h.low _ hf; omega⟩
 obtain ⟨bb, h1, h2⟩ := hex
 refine (crash_at d F S a n cap bb l hb.len (by omega) w h1 h2 h.dev).mono ?_
 rintro e w' ⟨rfl, F', hd, m⟩
 exact ⟨rfl, F', h.move hd m⟩
theorem dl_on (h : DevL w0 w d S) : Calls Tryz.prog 44 #[.pointer (some ⟨d, 0, none⟩)] w fun e w' => e = .returned (.tuple #[]) /\ DevL w0 w' d S.on := by
 obtain ⟨F, h⟩ := h
 refine (on_at d F S w h.dev).mono ?_
 rintro e w' ⟨rfl, F', hd, m⟩
 exact ⟨rfl, F', h.move hd m⟩
theorem dl_open {top : Option Sb} {last Q R : Nat} (h : DevL w0 w d S) (hS : Sure S) (L : Lad S top) (hf : ∀ b, top = some b -> b.fits) (h1 : last <= resO top) (h2 : topS top <= Q) (h3 : resO top <= R) (hQ : Q <= 1000000) (hlen : S.cs.length = 11) :
  Calls Tryz.prog 11 #[.pointer (some ⟨d, 0, none⟩), gSm.val] w fun e w' => ∃ (x : Nat) (b : Sb), e = .returned (.tuple #[.pointer (some ⟨x, 0, none⟩), .agg #[.int .u64 b.seq, .int .u64 b.epoch, .int .u64 b.res, .int .u64 b.hor, .int .u64 b.gen, .bool b.clean, .int .i64 b.image], .int .i64 0]) /\ ∃ E S', ErAt w0 w' x d E S' /\ Al E S' last (Q + 1) R := by
 obtain ⟨F, h⟩ := h
 obtain ⟨b, hb⟩ : ∃ b, b = top.getD Sb.zero := ⟨_, rfl⟩
 have hbf : b.fits := by
  rw [hb]
  cases top with
  | none => exact zero_fits
  | some z => exact hf z rfl
 have hbr : b.res = resO top := by rw [hb]; cases top <;> rfl
 have hload : ∃ e0 : Int, (e0 = 0 \/ e0 = 5) /\ S.loadV = bkV b e0 := by
  rw [L.loadV, hb]
  cases top with
  | none => exact ⟨5, .inr rfl, rfl⟩
  | some z => exact ⟨0, .inl rfl, rfl⟩
 obtain ⟨e0, he0, hl⟩ := hload
 have hls := L.last
 have hq : S.lastSeq ≠ 18446744073709551615 := by omega
 refine (eopen_en (gj := 2) (gb := 3) (gr := 1) (gi := 0) h hS (by omega) (by omega) (by omega) (by omega) (by omega) (by omega) (by omega) (by rw [hlen]; omega) e0 he0 hl hq hbf).mono ?_
 rintro e w' ⟨x, rfl, p, m, nj, q, S1, G, l, ml, v5, T, hE, _, _, hk, _, _⟩
 have hS1 := hS.like hk
 have L1 : Lad S1 top := L.like hk.cs hS1.off
 have hq1 : S1.lastSeq ≠ 18446744073709551615 := by rw [lastSeq_like ⟨hk.cs, hk.off, hk.armed, hk.losses⟩]; exact hq
 have hof : b.opened.fits := opened_fits hbf
 have hc1 : S1.cs.length = 11 := by rw [hk.cs, hlen]
 obtain ⟨e1, e2, e3, e4, e5⟩ := L1.store b.opened hof hq1 (by rw [hS1.armed]; decide) (by rw [hS1.armed]; decide)
 have en : S1.nextB b.opened = S.nextB b.opened := by unfold Dv.nextB; rw [lastSeq_like ⟨hk.cs, hk.off, hk.armed, hk.losses⟩]
 rw [en] at e4 e3
 obtain ⟨F2, M, hu, hG⟩ := hE.bu
 refine ⟨x, b, rfl, _, _, ⟨F2, _, _, _, _, hE.box, hu.bk.law, fun hm => hE.xG (by rw [hG]; exact List.mem_append.2 (.inl hm)), hE.low x (.inl rfl)⟩, e4, e3, ?_, by show last <= b.res; omega, Nat.le_refl _, ?_, by show b.res <= R; omega, by rw [storeDo_len]; exact hc1⟩
 ·rw [storeDo_lo (by omega) hS1.off hq1 (by rw [hS1.armed]; decide) (by rw [hS1.armed]; decide), hk.losses]
 ·show S.lastSeq + 1 <= Q + 1
  omega
end
end Go.Proofs.YtcdghalnneilpaaGreat
namespace Go.Proofs.YtcdghalnneilpaaGreat
open Go.RowKit Go.Deep Go.ChangeShapes Go.WideShapes Math
structure IntsAt (w : World) (a : Option Addr) (len : Nat) (zs : List Int) : Prop where
 len : len = zs.length
 cell : ∀ i z, zs[i]? = some z -> ∃ b o, a = some ⟨b, o, none⟩ /\ b < w.heap.size /\ w.cell? ⟨b, o + i, none⟩ = some (.int .i64 z)
end Go.Proofs.YtcdghalnneilpaaGreat
namespace Go.Proofs.YtcdghalnneilpaaGreat
open Go.RowKit Go.Deep Math
theorem wrap64_le (z : Int) : wrap64 z <= 9223372036854775807 := by unfold wrap64; omega
theorem and127 (x : Int) : bits BinOp.and IntKind.i64 x 127 <= 127 := by
 show IntKind.i64.wrap (((BitVec.ofInt 64 x &&& BitVec.ofInt 64 127).toNat : Nat) : Int) <= 127
 have h : (BitVec.ofInt 64 x &&& BitVec.ofInt 64 127).toNat <= 127 := by
  rw [BitVec.toNat_and]
  exact Nat.le_trans Nat.and_le_right (by decide)
 rw [IntKind.wrap_i64]
 omega
def RiseAt (w0 W : World) (d last i : Nat) : Prop := ∃ S top, DevL w0 W d S /\ Sure S /\ Lad S top /\ (∀ b, top = some b -> b.fits) /\ last <= resO top /\ topS top <= 200 * i /\ resO top <= 9000 * i /\ S.cs.length = 11
section
variable {w0 w w' : World} {d x : Nat} {E : En} {S : Dv} {last i : Nat}
theorem rise_fresh (h : DevL w0 w d (Dv.fresh 11)) : RiseAt w0 w d 0 0 :=
 ⟨Dv.fresh 11, none, h, Sure.fresh 11, Lad.fresh 11 (by omega), fun b h => (by cases h), Nat.zero_le _, Nat.zero_le _, Nat.zero_le _, by simp [Dv.fresh]⟩
theorem RiseAt.below (h : RiseAt w0 w d last i) (b : Below w.heap.size w w') : RiseAt w0 w' d last i := by
 obtain ⟨S, top, h, r⟩ := h
 exact ⟨S, top, h.below b, r⟩
theorem RiseAt.bel (h : RiseAt w0 w d last i) : Below w0.heap.size w0 w := by
 obtain ⟨S, top, h, r⟩ := h
 exact h.bel
theorem rise_open (h : RiseAt w0 w d last i) (hi : i <= 11) :
  Calls Tryz.prog 11 #[.pointer (some ⟨d, 0, none⟩), gSm.val] w fun e w' => ∃ (x : Nat) (b : Sb), e = .returned (.tuple #[.pointer (some ⟨x, 0, none⟩), .agg #[.int .u64 b.seq, .int .u64 b.epoch, .int .u64 b.res, .int .u64 b.hor, .int .u64 b.gen, .bool b.clean, .int .i64 b.image], .int .i64 0]) /\ ∃ E S', ErAt w0 w' x d E S' /\ Al E S' last (200 * i + 1) (9000 * i) := by
 obtain ⟨S, top, hD, hS, L, hf, h1, h2, h3, hlen⟩ := h
 exact dl_open hD hS L hf h1 h2 h3 (by omega) hlen
theorem rise_back {Q R : Nat} {l : List UInt8} (h : DevL w0 w d ((S.crash l).on)) (B : Brk S last Q R) (hQ : Q <= 200 * (i + 1)) (hR : R <= 9000 * (i + 1)) : RiseAt w0 w d last (i + 1) := by
 obtain ⟨top, L, h1, h2, h3, hf⟩ := B.back l
 refine ⟨_, top, h, ⟨rfl, rfl⟩, L, hf, h1, by omega, by omega, ?_⟩
 show (settle (settle S.cs l) []).length = 11
 rw [settle_length, settle_length]
 exact B.len
end
end Go.Proofs.YtcdghalnneilpaaGreat
namespace Go.Proofs.YtcdghalnneilpaaGreat.engineRises
open Go.RowKit Go.Deep Math
set_option maxRecDepth 8000 in
set_option maxHeartbeats 40000000 in
theorem walk (a0 : Option Addr) (len0 cap0 : Nat) (z0 : List Int) (a1 : Option Addr) (len1 cap1 : Nat) (z1 : List UInt8) (w : World) (hw0 : IntsAt w a0 len0 z0) (hw1 : BS w a1 len1 cap1 z1 /\ (a1 = none -> z1 = []) /\ len1 <= 140737488351232) :
  Calls Tryz.prog 6 #[.slice a0 len0 cap0, .slice a1 len1 cap1] w fun e w' => e = .returned (.bool true) /\ Below w.heap.size w w' := by
 have ca := hide (awake_any w)
 have HA := hide hw0
 have HB := hide hw1
 clear hw0 hw1
 go_enter Tryz.func6, Tryz.ntmps6
 go_wp2_with fail
 refine ca.out.mono ?_
 rintro e w1 ⟨rfl, b1⟩
 have B1 := hide b1
 clear b1 ca
 by_cases h1 : 12 < len0
 ·have i1 : (12 : Int) < (len0 : Int) := by omega
  clear h1
  go_wp2
  go_ret
  exact ⟨rfl, B1.out⟩
 have i1 : ¬ (12 : Int) < (len0 : Int) := by omega
 have hl12 : len0 <= 12 := by omega
 have HL := hide hl12
 clear h1 hl12
 have cN := hide (new_law B1.out 11 (by omega) (by omega))
 go_wp2_with fail
 refine cN.out.mono ?_
 rintro e w2 ⟨d, F2, rfl, L2, _⟩
 have D2 : DevL w w2 d (Dv.fresh 11) := ⟨F2, L2⟩
 have HD2 := hide D2
 clear cN L2 D2
 go_wp2_with fail
 go_loopg [7, 8, 9, 10, 11, 12, 13, 14] len0 (fun kx s7 s8 s9 s10 s11 s12 s13 s14 wr => ∃ (i last : Nat), s8 = .int .i64 i /\ s7 = .int .u64 last /\ i <= len0 /\ len0 - i <= kx /\ Hid (RiseAt w wr d last i))
 case atStart => exact ⟨0, 0, rfl, rfl, Nat.zero_le _, by omega, rise_fresh HD2.out⟩
 case round =>
  clear HD2
  obtain ⟨i, last, rfl, rfl, hin, hg, I⟩ := hrel
  by_cases hlt : i < len0
  ·have hlt2 : (i : Int) < (len0 : Int) := by omega
   obtain ⟨z, hz⟩ : ∃ z, z0[i]? = some z := ⟨_, List.getElem?_eq_getElem (by rw [<- HA.out.len]; exact hlt)⟩
   obtain ⟨b, o, rfl, hb, hc⟩ := HA.out.cell i z hz
   have cS := hide (small_any wr)
   have HC := hide (And.intro hb hc)
   have HI12 := hide (show i <= 11 by have := HL.out; omega)
   clear hz hb hc
   go_wp2_with fail
   refine cS.out.mono ?_
   rintro e w3 ⟨rfl, b3⟩
   have cO := hide (rise_open (I.out.below b3) HI12.out)
   clear cS b3 I
   go_wp2_with fail
   refine cO.out.mono ?_
   rintro e w4 ⟨x, bb, rfl, E, S4, hE, hA⟩
   have hE4 := hE.below (w' := (w4.alloc (.cells #[.int .u64 bb.seq, .int .u64 bb.epoch, .int .u64 bb.res, .int .u64 bb.hor, .int .u64 bb.gen, .bool bb.clean, .int .i64 bb.image] 30))) ((Below.refl _ _).alloc (Nat.le_refl _) _)
   have hc1 : (w4.alloc (.cells #[.int .u64 bb.seq, .int .u64 bb.epoch, .int .u64 bb.res, .int .u64 bb.hor, .int .u64 bb.gen, .bool bb.clean, .int .i64 bb.image] 30)).cell? ⟨b, o + i, none⟩ = some (.int .i64 z) := (hE4.devL.bel.cell (p := ⟨b, o + i, none⟩) HC.out.1).trans HC.out.2
   have HE4 := hide hE4
   have HA4 := hide hA
   clear cO hE hA hE4
   go_wp2_with fail
   ·refine (er_arm HE4.out _ (wrap64_le _)).mono ?_
    rintro e W5 ⟨rfl, hE5⟩
    have HI : Hid (∃ E S, ErAt w W5 x d E S /\ Al E S last (200 * i + 1) (9000 * i)) := ⟨E, _, hE5, HA4.out.arm _⟩
    clear hc1 HE4 HA4 hE5
    go_wp2_with fail
    go_loopg [7, 12, 13, 14] 127 (fun kx s7 s12 s13 s14 wr => ∃ (k last : Nat), s12 = .int .i64 k /\ s7 = .int .u64 last /\ k <= 127 /\ 127 - k <= kx /\ Hid (∃ E S, ErAt w wr x d E S /\ Al E S last (200 * i + 1 + k) (9000 * i + 64 * k)))
    case atStart => exact ⟨0, last, rfl, rfl, Nat.zero_le _, by omega, HI.out⟩
    case round =>
     clear HI
     obtain ⟨k, last, rfl, rfl, hk127, hk2, J⟩ := hrel
     obtain ⟨E, S, hE, hA⟩ := J.out
     have hc1 : wr.cell? ⟨b, o + i, none⟩ = some (.int .i64 z) := (hE.devL.bel.cell (p := ⟨b, o + i, none⟩) HC.out.1).trans HC.out.2
     have cV := hide (er_version hE hA (by have := HI12.out; omega) (by have := HI12.out; omega))
     have HE := hide hE
     have HAl := hide hA
     clear J hE hA
     have h127 := hide (and127 (z / 4))
     go_wp2_with fail
     ·refine cV.out.mono ?_
      rintro e w6 (⟨v, E', S', rfl, hlv, hv, hE', hA'⟩ | ⟨rfl, S', hE', hB'⟩)
      ·have hlv2 : ¬ (v : Int) <= (last : Int) := by omega
       have hk1 : k + 1 <= 127 := by have := h127.out; omega
       have HE2 := hide hE'
       have HA2 := hide hA'
       clear cV hE' hA' hv hlv HE HAl
       go_wp2
       go_roundg (127 - (k + 1))
       case measure => omega
       case rel => exact ⟨k + 1, v, rfl, rfl, hk1, by omega, ⟨E', S', HE2.out, HA2.out.more (by omega) (by omega)⟩⟩
      ·have HB2 := hide hB'
       have HE2 := hide hE'
       clear cV hE' hB' HE HAl
       go_wp2_with fail
       refine (dl_crash HE2.out.devL HB.out.1 HB.out.2.1 HB.out.2.2).mono ?_
       rintro e w7 ⟨rfl, hD7⟩
       have HD7 := hide hD7
       clear hD7
       go_wp2_with fail
       refine (dl_on HD7.out).mono ?_
       rintro e w8 ⟨rfl, hD8⟩
       have HD8 := hide hD8
       clear HD7 hD8
       go_wp2
       go_roundg (len0 - (i + 1))
       case measure => omega
       case rel => exact ⟨i + 1, last, rfl, rfl, by omega, by omega, rise_back HD8.out HB2.out (by omega) (by omega)⟩
     ·clear cV
      refine (dl_crash HE.out.devL HB.out.1 HB.out.2.1 HB.out.2.2).mono ?_
      rintro e w7 ⟨rfl, hD7⟩
      have HD7 := hide hD7
      clear hD7
      go_wp2_with fail
      refine (dl_on HD7.out).mono ?_
      rintro e w8 ⟨rfl, hD8⟩
      have HD8 := hide hD8
      clear HD7 hD8
      go_wp2
      go_roundg (len0 - (i + 1))
      case measure => omega
      case rel => exact ⟨i + 1, last, rfl, rfl, by omega, by omega, rise_back HD8.out HAl.out.brk (by omega) (by omega)⟩
   ·obtain ⟨W5, hW5⟩ : ∃ W, W = w4.alloc (.cells #[.int .u64 bb.seq, .int .u64 bb.epoch, .int .u64 bb.res, .int .u64 bb.hor, .int .u64 bb.gen, .bool bb.clean, .int .i64 bb.image] 30) := ⟨_, rfl⟩
    have HI : Hid (∃ E S, ErAt w W5 x d E S /\ Al E S last (200 * i + 1) (9000 * i)) := ⟨E, S4, by rw [hW5]; exact HE4.out, HA4.out⟩
    rw [<- hW5, show (bits BinOp.and IntKind.i64 z 1 == 1) = false by assumption]
    clear hW5 hc1 HE4 HA4
    go_loopg [7, 12, 13, 14] 127 (fun kx s7 s12 s13 s14 wr => ∃ (k last : Nat), s12 = .int .i64 k /\ s7 = .int .u64 last /\ k <= 127 /\ 127 - k <= kx /\ Hid (∃ E S, ErAt w wr x d E S /\ Al E S last (200 * i + 1 + k) (9000 * i + 64 * k)))
    case atStart => exact ⟨0, last, rfl, rfl, Nat.zero_le _, by omega, HI.out⟩
    case round =>
     clear HI
     obtain ⟨k, last, rfl, rfl, hk127, hk2, J⟩ := hrel
     obtain ⟨E, S, hE, hA⟩ := J.out
     have hc1 : wr.cell? ⟨b, o + i, none⟩ = some (.int .i64 z) := (hE.devL.bel.cell (p := ⟨b, o + i, none⟩) HC.out.1).trans HC.out.2
     have cV := hide (er_version hE hA (by have := HI12.out; omega) (by have := HI12.out; omega))
     have HE := hide hE
     have HAl := hide hA
     clear J hE hA
     have h127 := hide (and127 (z / 4))
     go_wp2_with fail
     ·refine cV.out.mono ?_
      rintro e w6 (⟨v, E', S', rfl, hlv, hv, hE', hA'⟩ | ⟨rfl, S', hE', hB'⟩)
      ·have hlv2 : ¬ (v : Int) <= (last : Int) := by omega
       have hk1 : k + 1 <= 127 := by have := h127.out; omega
       have HE2 := hide hE'
       have HA2 := hide hA'
       clear cV hE' hA' hv hlv HE HAl
       go_wp2
       go_roundg (127 - (k + 1))
       case measure => omega
       case rel => exact ⟨k + 1, v, rfl, rfl, hk1, by omega, ⟨E', S', HE2.out, HA2.out.more (by omega) (by omega)⟩⟩
      ·have HB2 := hide hB'
       have HE2 := hide hE'
       clear cV hE' hB' HE HAl
       go_wp2_with fail
       refine (dl_crash HE2.out.devL HB.out.1 HB.out.2.1 HB.out.2.2).mono ?_
       rintro e w7 ⟨rfl, hD7⟩
       have HD7 := hide hD7
       clear hD7
       go_wp2_with fail
       refine (dl_on HD7.out).mono ?_
       rintro e w8 ⟨rfl, hD8⟩
       have HD8 := hide hD8
       clear HD7 hD8
       go_wp2
       go_roundg (len0 - (i + 1))
       case measure => omega
       case rel => exact ⟨i + 1, last, rfl, rfl, by omega, by omega, rise_back HD8.out HB2.out (by omega) (by omega)⟩
     ·clear cV
      refine (dl_crash HE.out.devL HB.out.1 HB.out.2.1 HB.out.2.2).mono ?_
      rintro e w7 ⟨rfl, hD7⟩
      have HD7 := hide hD7
      clear hD7
      go_wp2_with fail
      refine (dl_on HD7.out).mono ?_
      rintro e w8 ⟨rfl, hD8⟩
      have HD8 := hide hD8
      clear HD7 hD8
      go_wp2
      go_roundg (len0 - (i + 1))
      case measure => omega
      case rel => exact ⟨i + 1, last, rfl, rfl, by omega, by omega, rise_back HD8.out HAl.out.brk (by omega) (by omega)⟩
  ·obtain rfl : i = len0 := by omega
   have hlt2 : ¬ (i : Int) < (i : Int) := by omega
   have HB2 := hide I.out.bel
   clear I
   go_wp2
   go_ret
   exact ⟨rfl, HB2.out⟩
end Go.Proofs.YtcdghalnneilpaaGreat.engineRises
