/- Joined texts. -/
import Derived.Test.YtcdghalnneilpaaGreatR04
set_option linter.unusedVariables false
set_option linter.unusedSimpArgs false
set_option maxRecDepth 8000
set_option maxHeartbeats 8000000
namespace Go.Proofs.YtcdghalnneilpaaGreat
open Go.RowKit Go.Deep Math
theorem allGood_any (a : Option Addr) (n cap : Nat) (xs : List It) (hn63 : n <= 9223372036854775807) (w : World) (h : ItsAt w a n xs) :
  Calls Tryz.prog 211 #[.slice a n cap] w fun e w' => e = .returned (.bool (xs.all It.good)) /\ Below w.heap.size w w' := by
 have H := hide h
 clear h
 go_enter Tryz.func211, Tryz.ntmps211
 go_wp2
 go_loopg [7] n (fun kx s7 wr => ∃ i : Nat, s7 = .int .i64 i /\ i <= n /\ n - i <= kx /\ Hid ((xs.take i).all It.good = true /\ Below w.heap.size w wr))
 case atStart => exact ⟨0, rfl, Nat.zero_le _, by omega, by simp, Below.refl _ _⟩
 case round =>
  obtain ⟨i, rfl, hin, hg, I⟩ := hrel
  by_cases hlt : i < n
  ·have hlt2 : (i : Int) < (n : Int) := by omega
   obtain ⟨x, hx⟩ : ∃ x, xs[i]? = some x := ⟨_, List.getElem?_eq_getElem (by rw [<- H.out.len]; exact hlt)⟩
   obtain ⟨b, o, rfl, hb, hc⟩ := H.out.cell i x hx
   have hc' := hc.below I.out.2 hb
   have c0 := hc'.c0
   have c1 := hc'.c1
   have c2 := hc'.c2
   have c3 := hc'.c3
   have c4 := hc'.c4
   have hbw : b < wr.heap.size := Nat.lt_of_lt_of_le hb I.out.2.size
   have cg := hide (good_any (txt x.key) (txt x.value) x.flags x.exp x.ver)
   rw [<- x.good_mayBe] at cg
   unfold itV at cg
   have AT := hide (all_take_succ xs i x hx)
   have AF := hide (all_false xs i x hx)
   clear hc hc' hx
   cases hgx : x.good with
   | true =>
    rw [hgx] at cg AT
    clear AF hgx
    go_wp2_with (go_at_call 50; refine (cg.out _).mono ?_; rintro r w1 ⟨rfl, b1⟩; have B1 := hide b1; clear b1)
    go_roundg (n - (i + 1))
    case measure => omega
    case rel => exact ⟨i + 1, rfl, by omega, by omega, by rw [AT.out, I.out.1]; rfl, (I.out.2.alloc I.out.2.size _).trans (B1.out.mono (by rw [nblk_alloc]; have := I.out.2.size; omega))⟩
   | false =>
    rw [hgx] at cg
    have AF' := hide (AF.out hgx)
    clear AT AF hgx
    go_wp2_with (go_at_call 50; refine (cg.out _).mono ?_; rintro r w1 ⟨rfl, b1⟩; have B1 := hide b1; clear b1)
    go_ret
    exact ⟨by rw [AF'.out]; rfl, (I.out.2.alloc I.out.2.size _).trans (B1.out.mono (by rw [nblk_alloc]; have := I.out.2.size; omega))⟩
  ·obtain rfl : i = n := by omega
   have hlt2 : ¬ (i : Int) < (i : Int) := by omega
   go_wp2
   go_ret
   have := I.out.1
   rw [H.out.len, List.take_length] at this
   exact ⟨by rw [this]; rfl, I.out.2⟩
theorem fit_any (a : Option Addr) (n cap : Nat) (xs : List It) (room : Int) (hr0 : -9223372036854775808 <= room) (hr1 : room <= 65536) (hn63 : n <= 9223372036854775807) (w : World) (h : ItsAt w a n xs) :
  Calls Tryz.prog 212 #[.slice a n cap, .int .i64 room] w fun e w' => e = .returned (.bool (decide ((total xs : Int) <= room))) /\ Below w.heap.size w w' := by
 have H := hide h
 clear h
 go_enter Tryz.func212, Tryz.ntmps212
 go_wp2
 go_loopg [1, 9] n (fun kx s1 s9 wr => ∃ (i : Nat) (rm : Int), s9 = .int .i64 i /\ s1 = .int .i64 rm /\ i <= n /\ n - i <= kx /\ -9223372036854775808 <= rm /\ rm <= 65536 /\ Hid (rm = room - (total (xs.take i) : Int) /\ (0 < i -> 0 <= rm) /\ Below w.heap.size w wr))
 case atStart => exact ⟨0, room, rfl, rfl, Nat.zero_le _, by omega, hr0, hr1, by simp [total], fun h => absurd h (by omega), Below.refl _ _⟩
 case round =>
  obtain ⟨i, rm, rfl, rfl, hin, hg, hm0, hm1, I⟩ := hrel
  by_cases hlt : i < n
  ·have hlt2 : (i : Int) < (n : Int) := by omega
   obtain ⟨x, hx⟩ : ∃ x, xs[i]? = some x := ⟨_, List.getElem?_eq_getElem (by rw [<- H.out.len]; exact hlt)⟩
   obtain ⟨b, o, rfl, hb, hc⟩ := H.out.cell i x hx
   have hc' := hc.below I.out.2.2 hb
   have c0 := hc'.c0
   have c1 := hc'.c1
   have c2 := hc'.c2
   have c3 := hc'.c3
   have c4 := hc'.c4
   have hbw : b < wr.heap.size := Nat.lt_of_lt_of_le hb I.out.2.2.size
   have hf := H.out.fits x (List.mem_of_getElem? hx)
   have cs := hide (size_any (txt x.key) (txt x.value) x.flags x.exp x.ver (by rw [txt_size]; exact hf.2.1) (by rw [txt_size]; exact hf.2.2))
   have es : 32 + (txt x.key).size + (txt x.value).size = x.size := by rw [txt_size, txt_size]; rfl
   rw [es] at cs
   unfold itV at cs
   have TT := hide (total_take_succ xs i x hx)
   have TL := hide (total_take_le xs (i + 1))
   have hsz : x.size <= 281474976702496 := by unfold It.size; omega
   have HSZ := hide hsz
   generalize x.size = sz at cs TT hsz HSZ
   clear hc hc' hx es hf hsz
   by_cases hfit : rm < (sz : Int)
   ·have hf2 : (rm < (sz : Int)) = True := eq_true hfit
    have E : Hid (decide ((total xs : Int) <= room) = false) := by
     show _ = false
     rw [decide_eq_false_iff_not]
     have := TT.out; have := TL.out; have := I.out.1
     omega
    clear hfit
    go_wp2_with (go_at_call 51; refine (cs.out _).mono ?_; rintro r w1 ⟨rfl, b1⟩; have B1 := hide b1; clear b1)
    go_ret
    exact ⟨by rw [E.out]; rfl, (I.out.2.2.alloc I.out.2.2.size _).trans (B1.out.mono (by rw [nblk_alloc]; have := I.out.2.2.size; omega))⟩
   ·have hf2 : (rm < (sz : Int)) = False := eq_false hfit
    have hw := hide (show wrap64 (rm - (sz : Int)) = rm - (sz : Int) by have := HSZ.out; unfold wrap64; omega)
    have HFI := hide hfit
    clear hfit
    go_wp2_with fail
    refine (cs.out _).mono ?_
    rintro r w1 ⟨rfl, b1⟩
    have B1 := hide ((I.out.2.2.alloc I.out.2.2.size (.cells #[.string (txt x.key), .string (txt x.value), .int .u32 x.flags, .int .i64 x.exp, .int .u64 x.ver] 39)).trans (b1.mono (by rw [nblk_alloc]; have := I.out.2.2.size; omega)))
    have bx : Five w1 wr.heap.size (txt x.key) (txt x.value) x.flags x.exp x.ver := by
     have b := (Blk.new wr [.string (txt x.key), .string (txt x.value), .int .u32 x.flags, .int .i64 x.exp, .int .u64 x.ver] 39).same (b1.block wr.heap.size (by rw [nblk_alloc]; omega))
     exact ⟨b.cell rfl, b.cell rfl, b.cell rfl, b.cell rfl, b.cell rfl⟩
    obtain ⟨f0, f1, f2, f3, f4⟩ := bx
    have lw1 : wr.heap.size < w1.heap.size := by have := b1.size; rw [nblk_alloc] at this; omega
    clear b1
    go_wp2_with fail
    refine (cs.out _).mono ?_
    rintro r w2 ⟨rfl, b2⟩
    have B2 := hide (B1.out.trans (b2.mono B1.out.size))
    clear b2
    go_wp2_with fail
    go_roundg (n - (i + 1))
    case measure => omega
    case rel => exact ⟨i + 1, rm - (sz : Int), rfl, by rw [hw.out], by omega, by omega, by have := HFI.out; omega, by have := HFI.out; omega, by rw [TT.out, I.out.1]; omega, fun _ => by have := HFI.out; omega, B2.out⟩
  ·obtain rfl : i = n := by omega
   have hlt2 : ¬ (i : Int) < (i : Int) := by omega
   have hr := I.out.1
   rw [H.out.len, List.take_length] at hr
   have E : Hid (decide ((total xs : Int) <= room) = decide (0 <= rm)) := by show _ = _; rw [decide_eq_decide]; omega
   clear hr
   go_wp2
   go_ret
   exact ⟨by rw [E.out]; rfl, I.out.2.2⟩
theorem lay_bad (a : Option Addr) (n cap : Nat) (xs : List It) (room : Int) (hr : room <= 65536) (hn63 : n <= 9223372036854775807) (w : World) (h : ItsAt w a n xs) (hg : xs.all It.good = false) :
  Calls Tryz.prog 192 #[.slice a n cap, .int .i64 room] w fun e w' => e = .returned (layErr 1) /\ Below w.heap.size w w' := by
 have ca := hide (allGood_any a n cap xs hn63 w h)
 rw [hg] at ca
 have hr2 : ¬ (65536 < room) := by omega
 clear h hg hr hn63
 go_enter Tryz.func192, Tryz.ntmps192
 go_wp2_with (go_at_call 211; refine ca.out.mono ?_; rintro r w1 ⟨rfl, b1⟩; have B1 := hide b1; clear b1)
 go_ret2
 exact ⟨rfl, B1.out⟩
theorem lay_ok (a : Option Addr) (n cap : Nat) (xs : List It) (room : Nat) (hr : room <= 65536) (hn63 : n <= 9223372036854775807) (w : World) (h : ItsAt w a n xs) (hg : xs.all It.good = true) (hfit : total xs <= room) :
  Calls Tryz.prog 192 #[.slice a n cap, .int .i64 room] w fun e w' => ∃ g, e = .returned (.tuple #[.slice (some ⟨g, 0, none⟩) room room, .int .i64 0]) /\ w.heap.size <= g /\ Buf w' g (encs xs) (room - total xs) /\ Below w.heap.size w w' := by
 have ca := hide (allGood_any a n cap xs hn63 w h)
 rw [hg] at ca
 have cf := hide (fun w1 (b : Below w.heap.size w w1) => fit_any a n cap xs (room : Int) (by omega) (by omega) hn63 w1 (h.below b))
 rw [decide_eq_true (show (total xs : Int) <= (room : Int) by omega)] at cf
 have hr2 : ¬ (65536 < (room : Int)) := by omega
 have hmk := make_cap room (by omega)
 have HR := hide hr
 have HF := hide hfit
 have HG := hide hg
 generalize hZ : (zc room).toArray = Z at hmk
 have HZ := hide hZ
 have H := hide h
 clear h hg hr hfit hZ
 go_enter Tryz.func192, Tryz.ntmps192
 go_wp2_with (go_at_call 211; refine ca.out.mono ?_; rintro r w1 ⟨rfl, b1⟩; have B1 := hide b1; clear b1)
 go_wp2_with (go_at_call 212; refine (cf.out _ B1.out).mono ?_; rintro r w2 ⟨rfl, b2⟩; have B2 := hide (B1.out.trans (b2.mono B1.out.size)); clear b2)
 have hW := hide (show w.heap.size <= w2.heap.size from B2.out.size)
 have b0 : Hid (Buf (w2.alloc (.cells Z 5)) w2.heap.size [] room) := by
  show Buf _ _ _ _
  unfold Buf; rw [show bCells [] ++ zc room = zc room from rfl]; unfold Blk; rw [HZ.out]; exact blk_alloc_new _ _
 have B3 := hide (B2.out.alloc B2.out.size (.cells Z 5))
 clear hmk HZ ca cf B1
 generalize w2.heap.size = g at hW b0 ⊢
 generalize w2.alloc (.cells Z 5) = w3 at b0 B3 ⊢
 clear B2
 go_loopg [6, 24] n (fun kx s6 s24 wr => ∃ i m : Nat, s6 = .slice (some ⟨g, 0, none⟩) m room /\ s24 = .int .i64 i /\ i <= n /\ n - i <= kx /\ Hid (m = total (xs.take i) /\ m <= room /\ Buf wr g (encs (xs.take i)) (room - m) /\ Below w.heap.size w wr))
 case atStart => exact ⟨0, 0, rfl, rfl, Nat.zero_le _, by omega, rfl, Nat.zero_le _, b0.out, B3.out⟩
 case round =>
  obtain ⟨i, m, rfl, rfl, hin, hg, I⟩ := hrel
  by_cases hlt : i < n
  ·have hlt2 : (i : Int) < (n : Int) := by omega
   obtain ⟨x, hx⟩ : ∃ x, xs[i]? = some x := ⟨_, List.getElem?_eq_getElem (by rw [<- H.out.len]; exact hlt)⟩
   obtain ⟨b, o, rfl, hb, hc⟩ := H.out.cell i x hx
   have hc' := hc.below I.out.2.2.2 hb
   have c0 := hc'.c0
   have c1 := hc'.c1
   have c2 := hc'.c2
   have c3 := hc'.c3
   have c4 := hc'.c4
   have hbw : b < wr.heap.size := Nat.lt_of_lt_of_le hb I.out.2.2.2.size
   have hxg : x.good = true := List.all_eq_true.1 HG.out x (List.mem_of_getElem? hx)
   have hxf := (H.out.fits x (List.mem_of_getElem? hx)).1
   have TT := hide (total_take_succ xs i x hx)
   have TE : Hid (encs (xs.take (i + 1)) = encs (xs.take i) ++ x.enc) := by
    show _ = _
    rw [List.take_add_one, hx, encs_append]; simp [encs]
   have hsz : m + x.size <= room := by
    have h1 := total_take_le xs (i + 1)
    have h2 := TT.out; have h3 := I.out.1; have h4 := HF.out
    omega
   have hm : m = (encs (xs.take i)).length := by rw [encs_length]; exact I.out.1
   have cadd := hide (fun W (hW : Buf W g (encs (xs.take i)) (room - m)) => add_any g (room - m) m room (encs (xs.take i)) x hxf hxg (by omega) hm (by rw [<- hm]; have := I.out.2.1; omega) (by have := HR.out; omega) W hW)
   have ev : x.val = .agg #[.string (txt x.key), .string (txt x.value), .int .u32 x.flags, .int .i64 x.exp, .int .u64 x.ver] := rfl
   rw [ev] at cadd
   have SZ := hide hsz
   clear hc hc' hx ev hxf hxg hm hsz
   generalize x.size = sz at cadd TT SZ
   go_wp2_with (go_at_call 189; refine (cadd.out _ (I.out.2.2.1.alloc _)).mono ?_; rintro r w4 ⟨rfl, hb4, k4⟩; have HB4 := hide hb4; have K4 := hide k4; clear hb4 k4)
   go_roundg (n - (i + 1))
   case measure => omega
   case rel =>
    refine ⟨i + 1, m + sz, rfl, rfl, by omega, by omega, by rw [TT.out, I.out.1], SZ.out, ?_, ?_⟩
    ·rw [TE.out, <- Nat.sub_sub]; exact HB4.out
    ·exact (I.out.2.2.2.alloc I.out.2.2.2.size _).trans (K4.out.below (fun k hk => by simp at hk; subst hk; exact hW.out) (by rw [nblk_alloc]; have := I.out.2.2.2.size; omega))
  ·obtain rfl : i = n := by omega
   have hlt2 : ¬ (i : Int) < (i : Int) := by omega
   have E : Hid (Buf wr g (encs xs) (room - total xs)) := by
    have h1 := I.out.1
    have h2 := I.out.2.2.1
    rw [H.out.len, List.take_length] at h1 h2
    rw [h1] at h2
    exact h2
   by_cases hr0 : room = 0
   ·subst hr0
    go_wp2
    go_ret2
    exact ⟨g, rfl, hW.out, by have := E.out; rwa [Nat.zero_sub] at this, I.out.2.2.2⟩
   ·have hr3 : ¬ (room : Int) = 0 := by omega
    go_wp2
    go_ret2
    exact ⟨g, rfl, hW.out, E.out, I.out.2.2.2⟩
theorem str_bs {w : World} {a : Option Addr} {n cap : Nat} {l : List UInt8} (h : BS w a n cap l) (hnil : a = none -> l = []) : (convert 40 9 (.slice a n cap)).run Tryz.prog w = .ok (.string (txt l)) w := by
 have hn := h.len
 subst hn
 cases a with
 | none =>
  rw [hnil rfl, run_convert_bytes_string w 40 9 5 none _ cap Tryz.underlying40 Tryz.underlying5 Tryz.underlying9]
  unfold Conv.bytesToString
  simp [Sem.run_bind, Result.andThen]
  rfl
 | some x =>
  refine run_convert_bytes_back w 40 9 5 x cap l Tryz.underlying40 Tryz.underlying5 Tryz.underlying9 (fun j hj => ?_)
  obtain ⟨b, off, ha, _, hc⟩ := h.cell j hj
  cases ha
  rw [Addr.add_lit, hc]
  simp [List.getD_eq_getElem?_getD, List.getElem?_eq_getElem hj]
theorem bs_box {w V : World} {b off n cap : Nat} {l : List UInt8} (h : BS V (some ⟨b, off, none⟩) n cap l) (hne : b ≠ w.heap.size) (p1 p2 p3 p4 p5 : Value) :
  BS (((((V.setCell ⟨w.heap.size, 0, none⟩ p1).setCell ⟨w.heap.size, 1, none⟩ p2).setCell ⟨w.heap.size, 2, none⟩ p3).setCell ⟨w.heap.size, 3, none⟩ p4).setCell ⟨w.heap.size, 4, none⟩ p5).drew (some ⟨b, off, none⟩) n cap l := by
 obtain ⟨X, hX⟩ : ∃ X, X = (((((V.setCell ⟨w.heap.size, 0, none⟩ p1).setCell ⟨w.heap.size, 1, none⟩ p2).setCell ⟨w.heap.size, 2, none⟩ p3).setCell ⟨w.heap.size, 3, none⟩ p4).setCell ⟨w.heap.size, 4, none⟩ p5) := ⟨_, rfl⟩
 have e : X.heap[b]? = V.heap[b]? := by
  rw [hX]
  exact ((((blk_setCell_other _ _ _ _ hne).trans (blk_setCell_other _ _ _ _ hne)).trans (blk_setCell_other _ _ _ _ hne)).trans (blk_setCell_other _ _ _ _ hne)).trans (blk_setCell_other _ _ _ _ hne)
 rw [<- hX]
 refine BS.mk' h.len h.cap ⟨fun i hi => ?_, h.reads.2⟩
 obtain ⟨b', off', ha, hc⟩ := h.reads.1 i hi
 simp only [Option.some.injEq, Addr.mk.injEq, and_true] at ha
 obtain ⟨rfl, rfl⟩ := ha
 exact ⟨b, off, rfl, (World.cell?_of_block (a := ⟨b, off + i, none⟩) (show X.drew.heap[b]? = V.heap[b]? from e)).trans hc⟩
end Go.Proofs.YtcdghalnneilpaaGreat
