/- The document's own device, records, Dump and Load beside the program's: texts joined. -/
import Derived.Test.YtanbbmlekebhhaaJ6
import Derived.Test.YtanbbmlekebhhaaJ4
import Derived.Deep.RegionWith
import Derived.Test.YtanbbmlekebhhaaJ1
import Derived.Test.YtanbbmlekebhhaaJ2
import Derived.Test.YtanbbmlekebhhaaIm9
import Derived.Test.YtanbbmlekebhhaaAw
/- 'alike': both devices read the same. -/
set_option linter.unusedVariables false
set_option linter.unusedSimpArgs false
set_option maxRecDepth 30000
namespace Go.Proofs.Ytanbbmlekebhhaa
open Go.RowKit Go.Deep

/-- The first k pages are read. -/
def Dv.readN (S : Dv) : Nat → Dv
  | 0 => S
  | k + 1 => (S.readN k).readDo k

theorem Dv.readDo_rd (S : Dv) (p : Int) : ∃ x, S.readDo p = { S with rd := x } := by
  unfold Dv.readDo
  split
  · exact ⟨S.rd, rfl⟩
  · split
    · exact ⟨S.rd, rfl⟩
    · exact ⟨_, rfl⟩
theorem Dv.readN_rd (S : Dv) : ∀ k, ∃ x, S.readN k = { S with rd := x }
  | 0 => ⟨S.rd, rfl⟩
  | k + 1 => by
    obtain ⟨x, hx⟩ := Dv.readN_rd S k
    obtain ⟨y, hy⟩ := Dv.readDo_rd (S.readN k) k
    exact ⟨y, by show (S.readN k).readDo k = _; rw [hy, hx]⟩

set_option maxHeartbeats 1000000 in
theorem alike_at (d r : Nat) (F G : List Nat) (S : Dv) (w : World) (hP : Pair w d r F G S S) :
    Calls Try.prog 16 #[.pointer (some ⟨d, 0, none⟩), .pointer (some ⟨r, 0, none⟩)] w fun e w' => e = .returned (.bool true) ∧ Pair w' d r F G (S.readN S.cs.length) (S.readN S.cs.length) ∧ Moves (F ++ G) (F ++ G) w w' := by
  obtain ⟨n, hn⟩ : ∃ n, n = S.cs.length := ⟨_, rfl⟩
  have hnl : n ≤ 4096 := by rw [hn]; exact hP.dev.good.many
  have HN := hide hn
  have P0 := hide hP
  rw [← hn]
  clear hn hP
  go_enter Try.func16, Try.ntmps16
  go_wp2_with fail
  go_loopg [5] n (fun kx s5 wr => ∃ k : Nat, s5 = .int .i64 k ∧ k ≤ n ∧ n - k ≤ kx ∧ Hid (Pair wr d r F G (S.readN k) (S.readN k) ∧ Moves (F ++ G) (F ++ G) w wr))
  case atStart => exact ⟨0, rfl, Nat.zero_le _, by omega, P0.out, Moves.refl _ _⟩
  case round =>
    obtain ⟨k, rfl, hkn, hg, I⟩ := hrel
    have hlen : (S.readN k).cs.length = n := by
      obtain ⟨x, hx⟩ := S.readN_rd k
      rw [hx, HN.out]
    have cp := pages_at d F (S.readN k) wr I.out.1.dev
    rw [hlen] at cp
    have CP := hide cp
    clear cp hlen
    by_cases hlt : k < n
    · have hlt2 : (k : Int) < (n : Int) := by omega
      go_wp2_with (go_at_call 45; refine CP.out.mono ?_; rintro e w0 ⟨rfl, hw0⟩; obtain rfl : wr = w0 := hw0.symm)
      refine (read_at d F (S.readN k) k _ I.out.1.dev).mono ?_
      rintro e w1 ⟨v, rfl, hr, h1, k1⟩
      have p1 := I.out.1.step1 h1 (Moves.of_keep k1)
      obtain ⟨t, ht⟩ : ∃ t, t = (S.readN k).readText k := ⟨_, rfl⟩
      obtain ⟨er, her⟩ : ∃ er, er = (S.readN k).readErr k := ⟨_, rfl⟩
      rw [← ht, ← her] at hr
      rw [← her]
      have vs : ∃ a m c, v = .slice a m c ∧ ∀ W : World, Keep G w1 W → (convert 39 9 (.slice a m c)).run Try.prog W = .ok (.string t) W := by
        rcases hr with ⟨_, rfl, rfl⟩ | ⟨_, hsz, b, hb, rfl, hblk⟩
        · exact ⟨none, 0, 0, rfl, fun W _ => str_any (w := W) (a := none) (l := []) (b := 0) (.inl rfl) (fun _ => rfl) 0⟩
        · refine ⟨_, _, _, rfl, fun W hK => ?_⟩
          have hbG : b ∉ G := fun hf => by have := I.out.1.ref.lt b hf; omega
          have hb2 := hblk.same (hK.block b hblk.lt hbG)
          have h := str_any (w := W) (blk_slice (cap := 0) (pad := []) (by rw [List.append_nil]; exact hb2)) (fun h => by cases h) 384
          have hl : t.data.toList.length = 384 := by rw [Array.length_toList]; exact hsz
          rw [hl] at h
          rw [h]
      obtain ⟨a, m, c, rfl, hcv⟩ := vs
      have R1 := hide (rread_at r G (S.readN k) k w1 p1.ref)
      rw [← ht, ← her] at R1
      have P1 := hide p1
      have M1 := hide (I.out.2.trans (Moves.of_keep k1).left)
      have CV := hide hcv
      clear hr h1 k1 p1 hcv ht her
      go_wp2_with fail
      refine R1.out.mono ?_
      rintro e w2 ⟨rfl, h2, k2⟩
      have P2 := hide (P1.out.step2 h2 (Moves.of_keep k2))
      have M2 := hide (M1.out.trans (Moves.of_keep k2).right)
      have cv := CV.out w2 k2
      clear h2 k2
      go_wp2
      go_roundg (n - (k + 1))
      case measure => omega
      case rel => exact ⟨k + 1, rfl, by omega, by omega, P2.out, M2.out⟩
    · obtain rfl : k = n := by omega
      have hlt2 : ¬ (k : Int) < (k : Int) := by omega
      have cl := hide (fun W (h : W.heap = wr.heap) => losses_at d F (S.readN k) W (I.out.1.dev.same (fun _ _ => by rw [h])))
      have cw := hide (fun W (h : W.heap = wr.heap) => power_at d F (S.readN k) W (I.out.1.dev.same (fun _ _ => by rw [h])))
      obtain ⟨L, hL, hR⟩ := I.out.1.ref
      have c3 := hR.dev.cell (i := 3) rfl
      have c5 := hR.dev.cell (i := 5) rfl
      have hrr := hR.dev.lt
      clear hL hR
      generalize (S.readN k).losses = lo at cl c5
      generalize (S.readN k).off = of at cw c3
      cases of
      all_goals (
        simp only [Bool.not_false, Bool.not_true] at cw
        go_wp2_with (go_at_call 45; refine CP.out.mono ?_; rintro e w0 ⟨rfl, hw0⟩; obtain rfl : wr = w0 := hw0.symm)
        go_quiet (first
          | (go_at_call 47; refine Calls.quiet_of_same (cl.out _ ?_); rfl)
          | (go_at_call 33; refine Calls.quiet_of_same (cw.out _ ?_); rfl))
        go_wp2
        go_ret
        exact ⟨rfl, ⟨I.out.1.dev.same (fun _ _ => rfl), I.out.1.ref.same (fun _ _ => rfl), fun k hk => I.out.1.apart k hk⟩, ⟨I.out.2.keep.os, I.out.2.keep.tape, I.out.2.keep.output, I.out.2.keep.size, I.out.2.keep.block⟩, I.out.2.foot⟩)
end Go.Proofs.Ytanbbmlekebhhaa

/- The document's own Dump. -/
set_option linter.unusedVariables false
set_option linter.unusedSimpArgs false
set_option maxRecDepth 8000
namespace Go.Proofs.Ytanbbmlekebhhaa
open Go.RowKit Go.Deep Math

def RDmPost (w : World) (r : Nat) (G : List Nat) (p k : Nat) (er : Int) (S' : Dv) (e : Ending) (w' : World) : Prop :=
  e = .returned (.tuple #[.int .i64 p, .int .i64 k, .int .i64 er]) ∧ ∃ G', RfAt w' r G' S' ∧ Moves G G' w w'

theorem within_not {N : Nat} {f p : Int} (h : withinB N f p = false) : f < 0 ∨ (0 ≤ f ∧ p < 0) ∨ (0 ≤ f ∧ 0 ≤ p ∧ (N : Int) < p) ∨ (0 ≤ f ∧ 0 ≤ p ∧ p ≤ (N : Int) ∧ (N : Int) - p < f) := by
  simp only [withinB, Bool.and_eq_false_iff, decide_eq_false_iff_not] at h
  omega

theorem txt_take (c : List UInt8) : (txt c).extract 0 376 = txt (c.take 376) := by
  rw [txt_extract]; unfold sl; rw [List.drop_zero]
theorem page_txt (k : Nat) (p : List UInt8) : (⟨#[73, 77]⟩ : ByteArray) ++ txt (low p.length 2) ++ txt (low k 4) ++ txt p = ⟨(pageI k p).toArray⟩ := by
  have e : (⟨#[73, 77]⟩ : ByteArray) = txt [73, 77] := rfl
  have e2 : (⟨(pageI k p).toArray⟩ : ByteArray) = txt (pageI k p) := rfl
  rw [e, e2, txt_append, txt_append, txt_append]
  unfold pageI headI
  simp only [List.append_assoc]

set_option maxHeartbeats 2000000 in
theorem rdump_at (r : Nat) (G : List Nat) (S : Dv) (first pages : Int) (hf1 : first ≤ 9223372036854775807) (hp1 : pages ≤ 9223372036854775807) (hf0 : -9223372036854775808 ≤ first) (hp0 : -9223372036854775808 ≤ pages) (a : Option Addr) (n cap : Nat) (xs : List It) (hn40 : n ≤ 40) (w : World) (h : RawAt w a n xs) (hR : RfAt w r G S) (hm : S.cs.length ≤ 4096) :
    Calls Try.prog 15 #[.pointer (some ⟨r, 0, none⟩), .int .i64 first, .int .i64 pages, .slice a n cap] w (RDmPost w r G (S.dumpP first pages xs) (S.dumpN first pages xs) (S.dumpErr first pages xs) (S.dumpDo first pages xs)) := by
  have HR := hide hR
  have H := hide h
  obtain ⟨L, hL, hI⟩ := hR
  have c1 := hI.dev.cell (i := 1) rfl
  have f1 := hI.dev.frozen 1
  clear hI hL
  unfold RDmPost
  cases hw : withinB S.cs.length first pages with
  | false =>
    have hok : S.dumpOk first pages xs = false := by unfold Dv.dumpOk; rw [hw]; rfl
    have her : S.dumpErr first pages xs = 1 := by unfold Dv.dumpErr; rw [if_pos hok]
    rw [show S.dumpP first pages xs = 0 by unfold Dv.dumpP; rw [her]; rfl, show S.dumpN first pages xs = 0 by unfold Dv.dumpN; rw [her]; rfl, show S.dumpDo first pages xs = S by unfold Dv.dumpDo; rw [if_pos hok], her]
    have hc := within_not hw
    clear hw h hok her
    generalize S.cs.length = N at *
    rcases hc with h1 | ⟨h1, h2⟩ | ⟨h1, h2, h3⟩ | ⟨h1, h2, h3, h4⟩
    · go_enter Try.func15, Try.ntmps15
      go_wp2
      exact bodyPost_ret (v := .tuple #[.int .i64 0, .int .i64 0, .int .i64 1]) (by simp [results, Try.results15, go_sem]) rfl ⟨rfl, G, HR.out, Moves.refl _ _⟩
    · go_enter Try.func15, Try.ntmps15
      go_wp2
      exact bodyPost_ret (v := .tuple #[.int .i64 0, .int .i64 0, .int .i64 1]) (by simp [results, Try.results15, go_sem]) rfl ⟨rfl, G, HR.out, Moves.refl _ _⟩
    · go_enter Try.func15, Try.ntmps15
      go_wp2
      exact bodyPost_ret (v := .tuple #[.int .i64 0, .int .i64 0, .int .i64 1]) (by simp [results, Try.results15, go_sem]) rfl ⟨rfl, G, HR.out, Moves.refl _ _⟩
    · go_enter Try.func15, Try.ntmps15
      go_wp2
      exact bodyPost_ret (v := .tuple #[.int .i64 0, .int .i64 0, .int .i64 1]) (by simp [results, Try.results15, go_sem]) rfl ⟨rfl, G, HR.out, Moves.refl _ _⟩
  | true =>
    have hw2 := hw
    simp only [withinB, Bool.and_eq_true, decide_eq_true_eq] at hw2
    obtain ⟨w1, w2, w3⟩ := hw2
    obtain ⟨f, rfl⟩ := Int.eq_ofNat_of_zero_le w1
    obtain ⟨P, rfl⟩ := Int.eq_ofNat_of_zero_le w2
    have hfP : f + P ≤ S.cs.length := by omega
    clear w1 w2 w3 hf0 hp0 hf1 hp1
    have OK : Hid (xs.all It.good = true → S.dumpOk f P xs = true) := fun hg => by unfold Dv.dumpOk; rw [hw, hg]; rfl
    have BAD : Hid (xs.all It.good = false → S.dumpP f P xs = 0 ∧ S.dumpN f P xs = 0 ∧ S.dumpErr f P xs = 1 ∧ S.dumpDo f P xs = S) := fun hg => by
      have hok : S.dumpOk f P xs = false := by unfold Dv.dumpOk; rw [hg, Bool.and_false]
      have her : S.dumpErr f P xs = 1 := by unfold Dv.dumpErr; rw [if_pos hok]
      exact ⟨by unfold Dv.dumpP; rw [her]; rfl, by unfold Dv.dumpN; rw [her]; rfl, her, by unfold Dv.dumpDo; rw [if_pos hok]⟩
    have D1 : Hid (xs.all It.good = true → ∀ m, m = dmpN (P : Int) xs → (S.dumpErr f P xs = (S.dmp f P xs).1 ∧ S.dumpDo f P xs = (S.dmp f P xs).2 ∧ ((S.dmp f P xs).1 = 0 → S.dumpP f P xs = pgsN (dmpB P xs).length ∧ S.dumpN f P xs = m) ∧ ((S.dmp f P xs).1 ≠ 0 → S.dumpP f P xs = 0 ∧ S.dumpN f P xs = 0))) := fun hg m g2 => by
      have hok := OK.out hg
      have h1 : S.dumpErr f P xs = (S.dmp f P xs).1 := by unfold Dv.dumpErr; rw [if_neg (by rw [hok]; decide)]
      refine ⟨h1, by unfold Dv.dumpDo; rw [if_neg (by rw [hok]; decide)], fun h0 => ⟨by unfold Dv.dumpP; rw [h1, if_pos h0], by unfold Dv.dumpN; rw [h1, if_pos h0, g2]⟩, fun h0 => ⟨by unfold Dv.dumpP; rw [h1, if_neg h0], by unfold Dv.dumpN; rw [h1, if_neg h0]⟩⟩
    have D2 : Hid (S.dmp f P xs = wrI f (dmpB P xs).length S 0 (dmpB P xs)) := rfl
    clear OK
    generalize S.dmp f P xs = DM at *
    generalize S.dumpErr f P xs = er at *
    generalize S.dumpDo f P xs = SD at *
    generalize S.dumpP f P xs = rp at *
    generalize S.dumpN f P xs = rn at *
    have HFP := hide hfP
    have HM := hide hm
    have x1 : ((f : Int) < 0) = False := eq_false (by omega)
    have x2 : ((P : Int) < 0) = False := eq_false (by omega)
    have x3 : ((S.cs.length : Int) < (P : Int)) = False := eq_false (by omega)
    have x4 : ((S.cs.length : Int) - (P : Int) < (f : Int)) = False := eq_false (by omega)
    have hP : P ≤ 4096 := by omega
    have hNi : (S.cs.length : Int) ≤ 4096 := by omega
    have hPi : (P : Int) ≤ (S.cs.length : Int) := by omega
    clear hfP hm hw h
    go_enter Try.func15, Try.ntmps15
    go_wp2_with fail
    go_loopg [11, 12, 13, 14] n (fun kx s11 s12 s13 s14 wr => ∃ (i m : Nat) (fl : Bool) (b : List UInt8), s11 = .string (txt b) ∧ s12 = .int .i64 m ∧ s13 = .bool fl ∧ s14 = .int .i64 i ∧ i ≤ n ∧ n - i ≤ kx ∧ Hid (Pk xs (376 * P) i m fl b ∧ Below w.heap.size w wr))
    case atStart => exact ⟨0, 0, false, [], rfl, rfl, rfl, rfl, Nat.zero_le _, by omega, Pk.zero _ _, Below.refl _ _⟩
    case round =>
      obtain ⟨i, m, fl, b, rfl, rfl, rfl, rfl, hin, hg, I⟩ := hrel
      by_cases hlt : i < n
      · have hlt2 : (i : Int) < (n : Int) := by omega
        obtain ⟨x, hx⟩ : ∃ x, xs[i]? = some x := ⟨_, List.getElem?_eq_getElem (by rw [← H.out.len]; exact hlt)⟩
        obtain ⟨bk, o, rfl, hb, hc⟩ := H.out.cell i x hx
        have hc' := hc.below I.out.2 hb
        have d0 := hc'.c0
        have d1 := hc'.c1
        have d2 := hc'.c2
        have d3 := hc'.c3
        have d4 := hc'.c4
        have hbw : bk < wr.heap.size := Nat.lt_of_lt_of_le hb I.out.2.size
        have cg := hide (refGood_any (txt x.key) (txt x.value) x.flags x.exp x.ver)
        rw [← x.good_mayBe] at cg
        unfold itV at cg
        have HC := hide (And.intro hb hc)
        have FT := hide (H.out.fits x (List.mem_of_getElem? hx))
        clear hc hc'
        cases hgx : x.good with
        | false =>
          rw [hgx] at cg
          have EB := hide (BAD.out (Pk.bad hx hgx))
          clear hgx hx HC
          go_wp2_with (go_at_call 19; refine (cg.out _).mono ?_; rintro e w2 ⟨rfl, b2⟩; have B2 := hide b2; clear b2)
          refine bodyPost_ret (v := .tuple #[.int .i64 0, .int .i64 0, .int .i64 1]) (by simp [results, Try.results15, go_sem]) rfl ?_
          obtain ⟨e1, e2, e3, e4⟩ := EB.out
          rw [e1, e2, e3, e4]
          exact ⟨rfl, G, HR.out.below (I.out.2.trans (B2.out.mono I.out.2.size)), Moves.of_keep (Keep.of_below (I.out.2.trans (B2.out.mono I.out.2.size)))⟩
        | true =>
          rw [hgx] at cg
          have hz := (It.good_iff x).1 hgx
          have cs := hide (refSize_any (txt x.key) (txt x.value) x.flags x.exp x.ver (by rw [txt_size]; omega) (by rw [txt_size]; omega))
          have es : 32 + (txt x.key).size + (txt x.value).size = x.size := by rw [txt_size, txt_size]; rfl
          rw [es] at cs
          unfold itV at cs
          have cp := hide (refPut_any x FT.out hgx)
          have hsz : x.size ≤ 1306 := by unfold It.size; omega
          have hsz0 : (0 : Int) ≤ (x.size : Int) := by omega
          have hszi : (x.size : Int) ≤ 1306 := by omega
          cases fl with
          | true =>
            have E := hide (I.out.1.past hx hgx)
            clear hgx hx HC es hz hsz cs cp FT
            go_wp2_with (go_at_call 19; refine (cg.out _).mono ?_; rintro e w2 ⟨rfl, b2⟩; have B2 := hide b2; clear b2)
            go_roundg (n - (i + 1))
            case measure => omega
            case rel => exact ⟨i + 1, m, true, b, rfl, rfl, rfl, rfl, by omega, by omega, E.out, I.out.2.trans (B2.out.mono I.out.2.size)⟩
          | false =>
            have FY := hide (fun hs => I.out.1.yes hx hgx hs)
            have FN := hide (fun hs => I.out.1.no hx hgx hs)
            have hbl := I.out.1.len
            have hts : (txt b).size = b.length := txt_size b
            have hbi : (b.length : Int) ≤ 1540096 := by omega
            have hb0 : (0 : Int) ≤ (b.length : Int) := by omega
            have HMI := hide (And.intro hin I.out.1.le)
            have hmi : (m : Int) ≤ 40 := by have := I.out.1.le; omega
            have eapp : txt b ++ txt x.enc = txt (b ++ x.enc) := txt_append _ _
            have EA := hide eapp
            clear hgx hx es hz FT hbl eapp
            obtain ⟨tb, htb⟩ : ∃ tb, tb = txt b := ⟨_, rfl⟩
            rw [← htb] at hts EA ⊢
            obtain ⟨te, hte⟩ : ∃ te, te = txt x.enc := ⟨_, rfl⟩
            rw [← hte] at cp EA
            obtain ⟨bl, hbl⟩ : ∃ bl, bl = b.length := ⟨_, rfl⟩
            rw [← hbl] at hts hbi hb0 FY FN
            have ELN : Hid (te.size = x.size) := by show _ = _; rw [hte, txt_size]; exact x.enc_length
            generalize x.size = sz at *
            have HTB := hide htb
            clear htb hte hbl
            go_wp2_with fail
            refine (cg.out _).mono ?_
            rintro e w2 ⟨rfl, b2⟩
            have I2 := hide (I.out.2.trans (b2.mono I.out.2.size))
            have hc' := HC.out.2.below I2.out HC.out.1
            have d0 := hc'.c0
            have d1 := hc'.c1
            have d2 := hc'.c2
            have d3 := hc'.c3
            have d4 := hc'.c4
            have hbw : bk < w2.heap.size := Nat.lt_of_lt_of_le HC.out.1 I2.out.size
            clear b2 hc' cg
            by_cases hfit : bl + sz ≤ 376 * P
            · have hf2 : (376 * (P : Int) < (bl : Int) + (sz : Int)) = False := eq_false (by omega)
              have E := hide (FY.out hfit)
              have hes : te.size = sz := ELN.out
              clear hfit FY FN
              go_wp2_with fail
              refine (cs.out _).mono ?_
              rintro e w3 ⟨rfl, b3⟩
              have I3 := hide (I2.out.trans (b3.mono I2.out.size))
              have hc' := HC.out.2.below I3.out HC.out.1
              have d0 := hc'.c0
              have d1 := hc'.c1
              have d2 := hc'.c2
              have d3 := hc'.c3
              have d4 := hc'.c4
              have hbw : bk < w3.heap.size := Nat.lt_of_lt_of_le HC.out.1 I3.out.size
              clear b3 hc' cs
              go_wp2_with (go_at_call 43; refine (cp.out _).mono ?_; rintro e w4 ⟨rfl, b4⟩; have B4 := hide b4; clear b4)
              go_roundg (n - (i + 1))
              case measure => omega
              case rel => exact ⟨i + 1, m + 1, false, b ++ x.enc, by rw [EA.out], rfl, rfl, rfl, by omega, by omega, E.out, I3.out.trans (B4.out.mono I3.out.size)⟩
            · have hf2 : (376 * (P : Int) < (bl : Int) + (sz : Int)) = True := eq_true (by omega)
              have E := hide (FN.out (by omega))
              clear hfit FY FN
              go_wp2_with (go_at_call 20; refine (cs.out _).mono ?_; rintro e w3 ⟨rfl, b3⟩; have B3 := hide b3; clear b3)
              go_roundg (n - (i + 1))
              case measure => omega
              case rel => exact ⟨i + 1, m, true, b, by rw [HTB.out], rfl, rfl, rfl, by omega, by omega, E.out, I2.out.trans (B3.out.mono I2.out.size)⟩
      · obtain rfl : i = n := by omega
        have hlt2 : ¬ (i : Int) < (i : Int) := by omega
        obtain ⟨g1, g2, g3⟩ := I.out.1.all H.out.len
        have hlenB : (dmpB (P : Int) xs).length ≤ 376 * P := by rw [← g3]; exact I.out.1.len
        have D3 := hide (D1.out g1 m g2)
        have I2 := hide I.out.2
        have hmi : (m : Int) ≤ 40 := by have := I.out.1.le; omega
        rw [g3]
        clear I g1 g2 g3 BAD D1 H
        obtain ⟨B, hB⟩ : ∃ B, B = dmpB (P : Int) xs := ⟨_, rfl⟩
        rw [← hB] at D3 D2 hlenB ⊢
        clear hB
        have R2 := hide (HR.out.below I2.out)
        have hpg : pgsN B.length ≤ P := by unfold pgsN; omega
        have HPG := hide hpg
        have HSG : Hid (∀ Sk : Dv, True) := fun _ => trivial
        clear hlenB hpg
        go_wp2_with fail
        go_loopg [11, 15] B.length (fun kx s11 s15 wr2 => ∃ (k : Nat) (c : List UInt8), s11 = .string (txt c) ∧ s15 = .int .i64 k ∧ c.length ≤ kx ∧ c.length ≤ B.length ∧ Hid (∃ Sk, Wk S f B k c Sk ∧ RfAt wr2 r G Sk ∧ Keep G w wr2))
        case atStart => exact ⟨0, B, rfl, rfl, Nat.le_refl _, Nat.le_refl _, S, Wk.zero _ _ _, R2.out, Keep.of_below I2.out⟩
        case round =>
          obtain ⟨k, c, rfl, rfl, hk, hcB, I⟩ := hrel
          obtain ⟨Sk, hW, hRk, hK⟩ := I.out
          clear I
          have hkp : k + pgsN c.length ≤ P := by have := hW.cnt; have := HPG.out; omega
          have hts : (txt c).size = c.length := txt_size c
          have HK := hide hK
          by_cases h0 : c.length = 0
          · have hc0 : c = [] := List.eq_nil_of_length_eq_zero h0
            subst hc0
            obtain ⟨q1, q2⟩ := hW.done
            have cF := hide (rflush_at r G Sk wr hRk)
            have DD : Hid (DM = (Sk.flushErr, Sk.flushDo)) := by show _ = _; rw [D2.out]; exact q1
            have HQ := hide q2
            have hki : (k : Int) ≤ 4096 := by omega
            generalize Sk.flushErr = fe at *
            generalize Sk.flushDo = SF at *
            clear hW hRk hK hkp q1 q2 h0 D2 HPG
            generalize txt [] = t0 at *
            have hlt2 : ¬ (0 : Int) < (([] : List UInt8).length : Int) := by simp
            by_cases hfe : fe = 0
            · subst hfe
              have EQ : Hid (rp = k ∧ rn = m ∧ er = 0 ∧ SD = SF) := by
                obtain ⟨e1, e2, e3, e4⟩ := D3.out
                have h1 : DM.1 = 0 := by rw [DD.out]
                obtain ⟨e5, e6⟩ := e3 h1
                exact ⟨by rw [e5, HQ.out], e6, by rw [e1, h1], by rw [e2, DD.out]⟩
              clear D3 DD
              go_wp2_with (go_at_call 39; refine cF.out.mono ?_; rintro e w3 ⟨rfl, G3, h3, m3⟩; have H3 := hide h3; have M3 := hide m3; clear h3 m3)
              refine bodyPost_ret (v := .tuple #[.int .i64 k, .int .i64 m, .int .i64 0]) (by simp [results, Try.results15, go_sem]) rfl ?_
              obtain ⟨e1, e2, e3, e4⟩ := EQ.out
              rw [e1, e2, e3, e4]
              exact ⟨rfl, G3, H3.out, (Moves.of_keep HK.out).trans M3.out⟩
            · have EQ : Hid (rp = 0 ∧ rn = 0 ∧ er = fe ∧ SD = SF) := by
                obtain ⟨e1, e2, e3, e4⟩ := D3.out
                have h1 : DM.1 = fe := by rw [DD.out]
                obtain ⟨e5, e6⟩ := e4 (by rw [h1]; exact hfe)
                exact ⟨e5, e6, by rw [e1, h1], by rw [e2, DD.out]⟩
              clear D3 DD
              go_wp2_with (go_at_call 39; refine cF.out.mono ?_; rintro e w3 ⟨rfl, G3, h3, m3⟩; have H3 := hide h3; have M3 := hide m3; clear h3 m3)
              refine bodyPost_ret (v := .tuple #[.int .i64 0, .int .i64 0, .int .i64 fe]) (by simp [results, Try.results15, go_sem]) rfl ?_
              obtain ⟨e1, e2, e3, e4⟩ := EQ.out
              rw [e1, e2, e3, e4]
              exact ⟨rfl, G3, H3.out, (Moves.of_keep HK.out).trans M3.out⟩
          · have hlt2 : (0 : Int) < (c.length : Int) := by omega
            have hk1 : k < 4096 := by
              have := pgsN_drop c h0
              omega
            obtain ⟨s1, s2⟩ := hW.step h0
            obtain ⟨p, hp⟩ : ∃ p, p = c.take 376 := ⟨_, rfl⟩
            have hpl : p.length ≤ 376 := by rw [hp, List.length_take]; omega
            have hpt := page_txt k p
            have cW := hide (fun (W : World) (hr : RfAt W r G Sk) => rwrite_at r G Sk ((f + k : Nat) : Int) ⟨(pageI k p).toArray⟩ W hr)
            rw [← hp] at s1 s2
            rw [← hpt] at cW s1 s2
            have hfe : ((f + k : Nat) : Int) = (f : Int) + (k : Int) := by omega
            rw [hfe] at cW s1 s2
            have S1 := hide s1
            have S2 := hide s2
            have hps : (txt p).size = p.length := txt_size p
            have c44a := hide (fun W => low_any p.length 2 (by omega) (by omega) W)
            have c44b := hide (fun W => low_any k 4 (by omega) (by omega) W)
            have HRK := hide hRk
            have z1 : (txt (low p.length 2)).size = 2 := by rw [txt_size, low_length]
            have z2 : (txt (low k 4)).size = 4 := by rw [txt_size, low_length]
            have u1 : IntKind.u64.wrap (p.length : Int) = (p.length : Int) := by rw [IntKind.wrap_u64]; omega
            have u2 : IntKind.u64.wrap (k : Int) = (k : Int) := by rw [IntKind.wrap_u64]; omega
            have hfk : (f : Int) + (k : Int) ≤ 8192 := by have := HFP.out; have := HM.out; omega
            have hdl : (c.drop 376).length < c.length := by rw [List.length_drop]; omega
            have HDL := hide hdl
            have HCB := hide hcB
            have hpi : (p.length : Int) ≤ 376 := by omega
            have hp0 : (0 : Int) ≤ (p.length : Int) := by omega
            clear s1 s2 hRk hW hK hpt hkp hfe hdl hcB
            generalize Sk.writeErr ((f : Int) + (k : Int)) ((⟨#[73, 77]⟩ : ByteArray) ++ txt (low p.length 2) ++ txt (low k 4) ++ txt p) = we at *
            generalize Sk.writeDo ((f : Int) + (k : Int)) ((⟨#[73, 77]⟩ : ByteArray) ++ txt (low p.length 2) ++ txt (low k 4) ++ txt p) = SW at *
            generalize txt (low p.length 2) = t1 at *
            generalize txt (low k 4) = t2 at *
            have hd : txt (c.drop 376) = txt (c.drop 376) := rfl
            obtain ⟨td, htd⟩ : ∃ td, td = txt (c.drop 376) := ⟨_, rfl⟩
            have HTD := hide htd
            by_cases hbig : 376 < c.length
            · have hbi : (376 : Int) < (c.length : Int) := by omega
              have hp376 : p.length = 376 := by rw [hp, List.length_take]; omega
              have e1 : (txt c).extract 0 376 = txt p := by rw [hp]; exact txt_take c
              have e2 : (txt c).extract 376 c.length = td := by rw [htd, txt_extract]; unfold sl; rw [List.take_length]
              rw [hp376] at hps c44a u1 hpi hp0
              rw [show ((376 : Nat) : Int) = 376 from rfl] at c44a u1 hpi hp0
              clear hp htd hbig hd hp376
              generalize txt p = tp at *
              generalize txt c = tc at *
              by_cases hwe : we = 0
              · have EQ := hide (S1.out hwe)
                subst hwe
                clear S1 S2
                go_wp2_with (first
                  | (go_at_call 44; refine (c44a.out _).mono ?_; clear c44a; rintro e w3 ⟨rfl, b3⟩; have B3 := hide b3; clear b3)
                  | (go_at_call 44; refine (c44b.out _).mono ?_; clear c44b; rintro e w4 ⟨rfl, b4⟩; have B4 := hide (B3.out.trans (b4.mono B3.out.size)); clear b4)
                  | (go_at_call 36; refine (cW.out _ (HRK.out.below B4.out)).mono ?_; rintro e w5 ⟨rfl, h5, k5⟩; have H5 := hide h5; have K5 := hide k5; clear h5 k5))
                go_roundg (c.drop 376).length
                case measure => have := HDL.out; omega
                case rel => exact ⟨k + 1, c.drop 376, by rw [HTD.out], rfl, Nat.le_refl _, by have := HDL.out; have := HCB.out; omega, SW, EQ.out, H5.out, (HK.out.trans (Keep.of_below B4.out) (fun x hx => .inl hx)).trans K5.out (fun x hx => .inl hx)⟩
              · have EQ : Hid (rp = 0 ∧ rn = 0 ∧ er = we ∧ SD = SW) := by
                  obtain ⟨e1, e2, e3, e4⟩ := D3.out
                  have h1 : DM = (we, SW) := by rw [D2.out]; exact S2.out hwe
                  obtain ⟨e5, e6⟩ := e4 (by rw [h1]; exact hwe)
                  exact ⟨e5, e6, by rw [e1, h1], by rw [e2, h1]⟩
                clear S1 S2 D3
                go_wp2_with (first
                  | (go_at_call 44; refine (c44a.out _).mono ?_; clear c44a; rintro e w3 ⟨rfl, b3⟩; have B3 := hide b3; clear b3)
                  | (go_at_call 44; refine (c44b.out _).mono ?_; clear c44b; rintro e w4 ⟨rfl, b4⟩; have B4 := hide (B3.out.trans (b4.mono B3.out.size)); clear b4)
                  | (go_at_call 36; refine (cW.out _ (HRK.out.below B4.out)).mono ?_; rintro e w5 ⟨rfl, h5, k5⟩; have H5 := hide h5; have K5 := hide k5; clear h5 k5))
                refine bodyPost_ret (v := .tuple #[.int .i64 0, .int .i64 0, .int .i64 we]) (by simp [results, Try.results15, go_sem]) rfl ?_
                obtain ⟨e1, e2, e3, e4⟩ := EQ.out
                rw [e1, e2, e3, e4]
                exact ⟨rfl, G, H5.out, Moves.of_keep ((HK.out.trans (Keep.of_below B4.out) (fun x hx => .inl hx)).trans K5.out (fun x hx => .inl hx))⟩
            · have hbi : ¬ (376 : Int) < (c.length : Int) := by omega
              have hpc : c = p := by rw [hp]; exact (List.take_of_length_le (by omega)).symm
              have e2 : (txt c).extract c.length c.length = td := by rw [htd, txt_extract]; unfold sl; rw [List.take_length, List.drop_length, List.drop_eq_nil_of_le (by omega)]
              have ENIL : Hid (c.drop 376 = []) := List.drop_eq_nil_of_le (by omega)
              subst hpc
              clear hp htd hbig hd hps
              generalize hT : txt c = tc at *
              clear hT
              by_cases hwe : we = 0
              · have EQ := hide (S1.out hwe)
                subst hwe
                clear S1 S2
                go_wp2_with (first
                  | (go_at_call 44; refine (c44a.out _).mono ?_; clear c44a; rintro e w3 ⟨rfl, b3⟩; have B3 := hide b3; clear b3)
                  | (go_at_call 44; refine (c44b.out _).mono ?_; clear c44b; rintro e w4 ⟨rfl, b4⟩; have B4 := hide (B3.out.trans (b4.mono B3.out.size)); clear b4)
                  | (go_at_call 36; refine (cW.out _ (HRK.out.below B4.out)).mono ?_; rintro e w5 ⟨rfl, h5, k5⟩; have H5 := hide h5; have K5 := hide k5; clear h5 k5))
                go_roundg (c.drop 376).length
                case measure => have := HDL.out; omega
                case rel => exact ⟨k + 1, c.drop 376, by rw [ENIL.out]; rfl, rfl, Nat.le_refl _, by have := HDL.out; have := HCB.out; omega, SW, EQ.out, H5.out, (HK.out.trans (Keep.of_below B4.out) (fun x hx => .inl hx)).trans K5.out (fun x hx => .inl hx)⟩
              · have EQ : Hid (rp = 0 ∧ rn = 0 ∧ er = we ∧ SD = SW) := by
                  obtain ⟨e1, e2, e3, e4⟩ := D3.out
                  have h1 : DM = (we, SW) := by rw [D2.out]; exact S2.out hwe
                  obtain ⟨e5, e6⟩ := e4 (by rw [h1]; exact hwe)
                  exact ⟨e5, e6, by rw [e1, h1], by rw [e2, h1]⟩
                clear S1 S2 D3
                go_wp2_with (first
                  | (go_at_call 44; refine (c44a.out _).mono ?_; clear c44a; rintro e w3 ⟨rfl, b3⟩; have B3 := hide b3; clear b3)
                  | (go_at_call 44; refine (c44b.out _).mono ?_; clear c44b; rintro e w4 ⟨rfl, b4⟩; have B4 := hide (B3.out.trans (b4.mono B3.out.size)); clear b4)
                  | (go_at_call 36; refine (cW.out _ (HRK.out.below B4.out)).mono ?_; rintro e w5 ⟨rfl, h5, k5⟩; have H5 := hide h5; have K5 := hide k5; clear h5 k5))
                refine bodyPost_ret (v := .tuple #[.int .i64 0, .int .i64 0, .int .i64 we]) (by simp [results, Try.results15, go_sem]) rfl ?_
                obtain ⟨e1, e2, e3, e4⟩ := EQ.out
                rw [e1, e2, e3, e4]
                exact ⟨rfl, G, H5.out, Moves.of_keep ((HK.out.trans (Keep.of_below B4.out) (fun x hx => .inl hx)).trans K5.out (fun x hx => .inl hx))⟩
end Go.Proofs.Ytanbbmlekebhhaa

/- The document's own Load. -/
set_option linter.unusedVariables false
set_option linter.unusedSimpArgs false
set_option maxRecDepth 8000
namespace Go.Proofs.Ytanbbmlekebhhaa
open Go.RowKit Go.Deep Math

theorem lsiF_fits : ∀ (f : Nat) (b : List UInt8) (ys : List It), lsiF f b = some ys → ∀ x ∈ ys, x.fits
  | 0, _, ys, h, x, hx => by simp only [lsiF, Option.some.injEq] at h; subst h; cases hx
  | f + 1, b, ys, h, x, hx => by
    unfold lsiF at h
    split at h
    · simp only [Option.some.injEq] at h; subst h; cases hx
    · cases hT : (take b).v with
      | none => rw [hT] at h; cases h
      | some o =>
        cases o with
        | none => rw [hT] at h; cases h
        | some p =>
          obtain ⟨y, m⟩ := p
          rw [hT] at h
          simp only [Option.map_eq_some_iff] at h
          obtain ⟨zs, hz, rfl⟩ := h
          have hk : take b = .ok y m := by
            cases hB : take b with
            | mk v =>
              rw [hB] at hT
              simp only at hT
              subst hT
              rfl
          rcases List.mem_cons.1 hx with rfl | hx
          · exact (take_ok hk).1
          · exact lsiF_fits f _ zs hz x hx
theorem loadIts_fits (S : Dv) (first n : Int) : ∀ x ∈ S.loadIts first n, x.fits := by
  unfold Dv.loadIts
  split
  · intro x hx; cases hx
  · split
    · intro x hx; cases hx
    · split
      · intro x hx; cases hx
      · rename_i b _
        intro x hx
        cases hL : lsi b with
        | none => rw [hL] at hx; cases hx
        | some ys => rw [hL] at hx; exact lsiF_fits _ _ _ hL x hx

def RLdPost (w : World) (G : List Nat) (er : Int) (xs : List It) (e : Ending) (w' : World) : Prop :=
  ∃ v, e = .returned (.tuple #[v, .int .i64 er]) ∧ w'.ownsRow w.heap.size 32 5 v xs.length (itsCells xs) ∧ Keep G w w'

/-- What is read of a page that stands has its length. -/
theorem read_full {S : Dv} {at0 : Int} (h : S.readErr at0 = 0) (hg : S.good) : (S.readText at0).size = 384 := by
  unfold Dv.readErr at h
  unfold Dv.readText
  split at h
  · cases h
  · rename_i h1
    rw [if_neg h1]
    split at h
    · cases h
    · rename_i h2
      rw [if_neg h2]
      cases hc : S.cs[at0.toNat]? with
      | none =>
        exfalso
        simp only [Dv.has, Bool.and_eq_false_iff, decide_eq_false_iff_not, not_or, Classical.not_not] at h1
        rw [List.getElem?_eq_none_iff] at hc
        omega
      | some c =>
        rw [hc] at h
        have hf := (hg.fits c (List.mem_of_getElem? hc)).1
        obtain ⟨cn, cl⟩ := c
        simp only at h hf ⊢
        cases cn using Pg.elim3 with
        | blank => cases h
        | torn => cases h
        | whole b =>
          have hb : b.size ≤ 384 := hf
          show (full b).size = 384
          unfold full
          rw [cat_size, zeros_size]; omega
theorem load_none {S : Dv} {f N : Nat} (hw : withinB S.cs.length f N = true) (hO : S.off = false) (h : S.joined f N N = none) : S.loadErr f N = 3 ∧ S.loadIts f N = [] := by
  unfold Dv.loadErr Dv.loadIts
  simp only [hw, hO, Int.toNat_natCast, h]
  exact ⟨rfl, rfl⟩
theorem load_bad2 {S : Dv} {f N : Nat} {b : List UInt8} (hw : withinB S.cs.length f N = true) (hO : S.off = false) (h : S.joined f N N = some b) (hL : lsi b = none) : S.loadErr f N = 3 ∧ S.loadIts f N = [] := by
  unfold Dv.loadErr Dv.loadIts
  simp only [hw, hO, Int.toNat_natCast, h, hL]
  exact ⟨rfl, rfl⟩
theorem load_some2 {S : Dv} {f N : Nat} {b : List UInt8} {ys : List It} (hw : withinB S.cs.length f N = true) (hO : S.off = false) (h : S.joined f N N = some b) (hL : lsi b = some ys) : S.loadErr f N = 0 ∧ S.loadIts f N = ys := by
  unfold Dv.loadErr Dv.loadIts
  simp only [hw, hO, Int.toNat_natCast, h, hL]
  exact ⟨rfl, rfl⟩

set_option maxHeartbeats 4000000 in
theorem rload_at (r : Nat) (G : List Nat) (S : Dv) (first n : Int) (hf1 : first ≤ 9223372036854775807) (hn1 : n ≤ 9223372036854775807) (hf0 : -9223372036854775808 ≤ first) (hn0 : -9223372036854775808 ≤ n) (w : World) (hR : RfAt w r G S) (hm2 : S.cs.length ≤ 2000) :
    Calls Try.prog 17 #[.pointer (some ⟨r, 0, none⟩), .int .i64 first, .int .i64 n] w (RLdPost w G (S.loadErr first n) (S.loadIts first n)) := by
  have HR := hide hR
  obtain ⟨L, hL, hI⟩ := hR
  have c1 := hI.dev.cell (i := 1) rfl
  have c3 := hI.dev.cell (i := 3) rfl
  have hm := hI.good.many
  have HG := hide hI.good
  clear hI hL
  unfold RLdPost
  cases hw : withinB S.cs.length first n with
  | false =>
    rw [show S.loadErr first n = 1 by unfold Dv.loadErr; rw [hw]; rfl, show S.loadIts first n = [] by unfold Dv.loadIts; rw [hw]; rfl]
    have hc := within_not hw
    clear hw
    generalize S.cs.length = N at *
    rcases hc with h1 | ⟨h1, h2⟩ | ⟨h1, h2, h3⟩ | ⟨h1, h2, h3, h4⟩
    · go_enter Try.func17, Try.ntmps17
      go_wp2
      go_ret2
      exact ⟨_, rfl, World.ownsRow_nil _ _ _ _, Keep.refl _ _⟩
    · go_enter Try.func17, Try.ntmps17
      go_wp2
      go_ret2
      exact ⟨_, rfl, World.ownsRow_nil _ _ _ _, Keep.refl _ _⟩
    · go_enter Try.func17, Try.ntmps17
      go_wp2
      go_ret2
      exact ⟨_, rfl, World.ownsRow_nil _ _ _ _, Keep.refl _ _⟩
    · go_enter Try.func17, Try.ntmps17
      go_wp2
      go_ret2
      exact ⟨_, rfl, World.ownsRow_nil _ _ _ _, Keep.refl _ _⟩
  | true =>
    have hw2 := hw
    simp only [withinB, Bool.and_eq_true, decide_eq_true_eq] at hw2
    obtain ⟨w1, w2, w3⟩ := hw2
    obtain ⟨f, rfl⟩ := Int.eq_ofNat_of_zero_le w1
    obtain ⟨N, rfl⟩ := Int.eq_ofNat_of_zero_le w2
    have hfN : f + N ≤ 4096 := by omega
    have x1 : ((f : Int) < 0) = False := eq_false (by omega)
    have x2 : ((N : Int) < 0) = False := eq_false (by omega)
    have x3 : ((S.cs.length : Int) < (N : Int)) = False := eq_false (by omega)
    have x4 : ((S.cs.length : Int) - (N : Int) < (f : Int)) = False := eq_false (by omega)
    have hNi : (S.cs.length : Int) ≤ 4096 := by omega
    have hPi : (N : Int) ≤ (S.cs.length : Int) := by omega
    have hN2k : N ≤ 2000 := by omega
    clear w1 w2 w3 hf1 hn1 hf0 hn0 hm2
    cases hO : S.off with
    | true =>
      rw [show S.loadErr f N = 4 by unfold Dv.loadErr; rw [hw, hO]; rfl, show S.loadIts f N = [] by unfold Dv.loadIts; rw [hw, hO]; rfl]
      rw [hO] at c3
      clear hw hO hm
      generalize S.cs.length = M at *
      go_enter Try.func17, Try.ntmps17
      go_wp2
      go_ret2
      exact ⟨_, rfl, World.ownsRow_nil _ _ _ _, Keep.refl _ _⟩
    | false =>
      rw [hO] at c3
      obtain ⟨er, her⟩ : ∃ er, er = S.loadErr f N := ⟨_, rfl⟩
      obtain ⟨xs, hxs⟩ : ∃ xs, xs = S.loadIts f N := ⟨_, rfl⟩
      have BADJ : Hid (∀ k, k < N → S.joined f N (k + 1) = none → er = 3 ∧ xs = []) := fun k hk hj => by
        have := joined_none S f N (k + 1) (N - (k + 1)) hj
        rw [show k + 1 + (N - (k + 1)) = N by omega] at this
        rw [her, hxs]
        exact load_none hw hO this
      have BAD2 : Hid (∀ b, S.joined f N N = some b → lsi b = none → er = 3 ∧ xs = []) := fun b h1 h2 => by rw [her, hxs]; exact load_bad2 hw hO h1 h2
      have YES : Hid (∀ b ys, S.joined f N N = some b → lsi b = some ys → er = 0 ∧ xs = ys) := fun b ys h1 h2 => by rw [her, hxs]; exact load_some2 hw hO h1 h2
      rw [← her, ← hxs]
      clear her hxs hw hO hm
      have HFN := hide hfN
      have hN : N ≤ 4096 := by omega
      obtain ⟨i0, hi0, hp0⟩ := Option.map_eq_some_iff.1 info30
      simp only [Prod.mk.injEq] at hp0
      obtain ⟨hz0, hz1, hz2⟩ := hp0
      clear hfN
      generalize hML : S.cs.length = M at *
      clear hML
      go_enter Try.func17, Try.ntmps17
      go_wp2_with fail
      go_loopg [8, 9] N (fun kx s8 s9 wr => ∃ (k : Nat) (b : List UInt8), s8 = .string (txt b) ∧ s9 = .int .i64 k ∧ k ≤ N ∧ N - k ≤ kx ∧ Hid (∃ Sk, S.joined f N k = some b ∧ RfAt wr r G Sk ∧ Keep G w wr ∧ Like S Sk))
      case atStart => exact ⟨0, [], rfl, rfl, Nat.zero_le _, by omega, S, rfl, HR.out, Keep.refl _ _, Like.refl _⟩
      case round =>
        obtain ⟨k, b, rfl, rfl, hkN, hkx, I⟩ := hrel
        obtain ⟨Sk, hj, hRk, hK, hlk⟩ := I.out
        clear I
        have hbl := S.joined_le f N (fun _ _ => part_le) k b hj
        have hts : (txt b).size = b.length := txt_size b
        have hbl2 : b.length ≤ 752000 := by omega
        by_cases hlt : k < N
        · have hlt2 : (k : Int) < (N : Int) := by omega
          have cr := hide (rread_at r G Sk ((f + k : Nat) : Int) wr hRk)
          have hfk : ((f + k : Nat) : Int) = (f : Int) + (k : Int) := by omega
          have hpt := hlk.part ((f + k : Nat) : Int) k
          have hlk2 := hlk.trans (like_read Sk ((f + k : Nat) : Int))
          have hfk8 : (f : Int) + (k : Int) ≤ 8192 := by have := HFN.out; omega
          have hpart : S.part ((f + k : Nat) : Int) k = if Sk.readErr ((f + k : Nat) : Int) = 0 then imP (Sk.readText ((f + k : Nat) : Int)).data.toList k else none := by rw [← hpt]; rfl
          have hsz : Sk.readErr ((f + k : Nat) : Int) = 0 → (Sk.readText ((f + k : Nat) : Int)).size = 384 := fun h => read_full h (by obtain ⟨L', _, hI'⟩ := hRk; exact hI'.good)
          rw [hfk] at cr hlk2 hpart hsz
          have HJ : Hid (∀ p, S.part ((f : Int) + (k : Int)) k = p → S.joined f N (k + 1) = match p with | none => none | some p => if p.length < 376 ∧ k + 1 < N then none else some (b ++ p)) := fun p hp => by
            rw [Dv.joined, hj, hfk]; simp only; rw [hp]; cases p <;> rfl
          generalize S.part ((f : Int) + (k : Int)) k = pt at *
          generalize Sk.readErr ((f : Int) + (k : Int)) = re at *
          generalize Sk.readText ((f : Int) + (k : Int)) = rt at *
          generalize Sk.readDo ((f : Int) + (k : Int)) = Sn at *
          have HK := hide hK
          have HLK := hide hlk2
          clear hj hRk hK hlk hlk2 hpt hfk hbl
          by_cases hre : re = 0
          · have hs384 := hsz hre
            rw [if_pos hre] at hpart
            subst hre
            obtain ⟨l, rfl⟩ : ∃ l, rt = txt l := ⟨rt.data.toList, by unfold txt; rw [Array.toArray_toList]⟩
            have hll : l.length = 384 := by rw [← txt_size l]; exact hs384
            have HP : Hid (pt = if sl l 0 2 = [73, 77] ∧ up (sl l 2 4) ≤ 376 ∧ up (sl l 4 8) = k then some (sl l 8 (8 + up (sl l 2 4))) else none) := by
              show _ = _
              rw [hpart]
              show imP (txt l).data.toList k = _
              rw [show (txt l).data.toList = l by unfold txt; simp]
              rfl
            have hm16 : up (sl l 2 4) < 65536 := by
              have h1 := up_lt (sl l 2 4)
              rw [sl_length _ _ _ (by omega)] at h1
              exact h1
            have hu32 : up (sl l 4 8) < 4294967296 := by
              have h1 := up_lt (sl l 4 8)
              rw [sl_length _ _ _ (by omega)] at h1
              exact h1
            have c24 := hide (fun W => up_any (sl l 2 4) (by rw [sl_length _ _ _ (by omega)]; omega) W)
            have c48 := hide (fun W => up_any (sl l 4 8) (by rw [sl_length _ _ _ (by omega)]; omega) W)
            have e02 : (txt l).extract 0 2 = txt (sl l 0 2) := txt_extract _ _ _
            have e24 : (txt l).extract 2 4 = txt (sl l 2 4) := txt_extract _ _ _
            have e48 : (txt l).extract 4 8 = txt (sl l 4 8) := txt_extract _ _ _
            have e8m : (txt l).extract 8 (8 + up (sl l 2 4)) = txt (sl l 8 (8 + up (sl l 2 4))) := txt_extract _ _ _
            have he : ((txt (sl l 0 2)).toList == [73, 77]) = decide (sl l 0 2 = [73, 77]) := by rw [txt_list]; by_cases e : sl l 0 2 = [73, 77] <;> simp [e]
            have hpl : up (sl l 2 4) ≤ 376 → (sl l 8 (8 + up (sl l 2 4))).length = up (sl l 2 4) := fun h => by rw [sl_length _ _ _ (by omega)]; omega
            generalize txt l = tl at *
            generalize txt (sl l 0 2) = s2 at *
            generalize txt (sl l 2 4) = s4 at *
            generalize txt (sl l 4 8) = s8 at *
            generalize up (sl l 2 4) = m at *
            generalize up (sl l 4 8) = u at *
            generalize sl l 8 (8 + m) = pp at *
            have v1 : IntKind.i64.wrap (m : Int) = (m : Int) := by rw [IntKind.wrap_i64]; omega
            have v2 : IntKind.u64.wrap (k : Int) = (k : Int) := by rw [IntKind.wrap_u64]; omega
            have hmi : (m : Int) < 65536 := by omega
            have hui : (u : Int) < 4294967296 := by omega
            have hki : (k : Int) ≤ 4096 := by omega
            have hNi2 : (N : Int) ≤ 4096 := by omega
            clear hsz hpart
            by_cases q1 : sl l 0 2 = [73, 77]
            · rw [decide_eq_true q1] at he
              by_cases q2 : m ≤ 376
              · have q2i : ((376 : Int) < (m : Int)) = False := eq_false (by omega)
                by_cases q3 : u = k
                · subst q3
                  by_cases q4 : m < 376 ∧ u + 1 < N
                  · have q4i : ((u : Int) < (N : Int) - 1) = True := eq_true (by omega)
                    have q5i : ((m : Int) < 376) = True := eq_true (by omega)
                    have NB := hide (BADJ.out _ hlt (by rw [HJ.out pt rfl, HP.out]; rw [if_pos ⟨q1, q2, rfl⟩]; simp only; rw [if_pos (by rw [hpl q2]; exact q4)]))
                    clear HJ HP
                    go_wp2_with (first
                      | (go_at_call 46; refine cr.out.mono ?_; rintro e w1 ⟨rfl, h1, k1⟩; have H1 := hide h1; have K1 := hide k1; clear h1 k1)
                      | (go_at_call 48; refine (c24.out _).mono ?_; clear c24; rintro e w' ⟨rfl, hw⟩; obtain rfl : w1 = w' := hw.symm; clear hw)
                      | (go_at_call 48; refine (c48.out _).mono ?_; clear c48; rintro e w' ⟨rfl, hw⟩; obtain rfl : w1 = w' := hw.symm; clear hw))
                    go_ret2
                    obtain ⟨e1, e2⟩ := NB.out
                    rw [e1, e2]
                    exact ⟨_, rfl, World.ownsRow_nil _ _ _ _, HK.out.trans K1.out (fun x hx => .inl hx)⟩
                  · have NJ : Hid (S.joined f N (u + 1) = some (b ++ pp)) := by
                      show _ = _
                      rw [HJ.out pt rfl, HP.out, if_pos ⟨q1, q2, rfl⟩]; simp only; rw [if_neg (by rw [hpl q2]; exact q4)]
                    have hppl := hpl q2
                    have hpps : (txt pp).size = m := by rw [txt_size]; exact hppl
                    have happ : txt b ++ txt pp = txt (b ++ pp) := txt_append _ _
                    have HAPP := hide happ
                    have hqq : (m : Int) ≤ 376 := by omega
                    have hq8 : (8 : Int) + (m : Int) ≤ 384 := by omega
                    have hbi : (b.length : Int) ≤ 1540096 := by omega
                    clear HJ HP happ
                    generalize txt pp = tp at *
                    generalize htb : txt b = tb at *
                    clear htb
                    by_cases q5 : m < 376
                    · have q5i : ((m : Int) < 376) = True := eq_true (by omega)
                      have q4i : ((u : Int) < (N : Int) - 1) = False := eq_false (by omega)
                      go_wp2_with (first
                        | (go_at_call 46; refine cr.out.mono ?_; rintro e w1 ⟨rfl, h1, k1⟩; have H1 := hide h1; have K1 := hide k1; clear h1 k1)
                        | (go_at_call 48; refine (c24.out _).mono ?_; clear c24; rintro e w' ⟨rfl, hw⟩; obtain rfl : w1 = w' := hw.symm; clear hw)
                        | (go_at_call 48; refine (c48.out _).mono ?_; clear c48; rintro e w' ⟨rfl, hw⟩; obtain rfl : w1 = w' := hw.symm; clear hw))
                      go_roundg (N - (u + 1))
                      case measure => omega
                      case rel => exact ⟨u + 1, b ++ pp, by rw [HAPP.out], rfl, by omega, by omega, Sn, NJ.out, H1.out, HK.out.trans K1.out (fun x hx => .inl hx), HLK.out⟩
                    · have q5i : ((m : Int) < 376) = False := eq_false (by omega)
                      by_cases q6 : u + 1 < N
                      · have q4i : ((u : Int) < (N : Int) - 1) = True := eq_true (by omega)
                        go_wp2_with (first
                          | (go_at_call 46; refine cr.out.mono ?_; rintro e w1 ⟨rfl, h1, k1⟩; have H1 := hide h1; have K1 := hide k1; clear h1 k1)
                          | (go_at_call 48; refine (c24.out _).mono ?_; clear c24; rintro e w' ⟨rfl, hw⟩; obtain rfl : w1 = w' := hw.symm; clear hw)
                          | (go_at_call 48; refine (c48.out _).mono ?_; clear c48; rintro e w' ⟨rfl, hw⟩; obtain rfl : w1 = w' := hw.symm; clear hw))
                        go_roundg (N - (u + 1))
                        case measure => omega
                        case rel => exact ⟨u + 1, b ++ pp, by rw [HAPP.out], rfl, by omega, by omega, Sn, NJ.out, H1.out, HK.out.trans K1.out (fun x hx => .inl hx), HLK.out⟩
                      · have q4i : ((u : Int) < (N : Int) - 1) = False := eq_false (by omega)
                        go_wp2_with (first
                          | (go_at_call 46; refine cr.out.mono ?_; rintro e w1 ⟨rfl, h1, k1⟩; have H1 := hide h1; have K1 := hide k1; clear h1 k1)
                          | (go_at_call 48; refine (c24.out _).mono ?_; clear c24; rintro e w' ⟨rfl, hw⟩; obtain rfl : w1 = w' := hw.symm; clear hw)
                          | (go_at_call 48; refine (c48.out _).mono ?_; clear c48; rintro e w' ⟨rfl, hw⟩; obtain rfl : w1 = w' := hw.symm; clear hw))
                        go_roundg (N - (u + 1))
                        case measure => omega
                        case rel => exact ⟨u + 1, b ++ pp, by rw [HAPP.out], rfl, by omega, by omega, Sn, NJ.out, H1.out, HK.out.trans K1.out (fun x hx => .inl hx), HLK.out⟩
                · have q3i : ((u : Int) = (k : Int)) = False := eq_false (by omega)
                  have q3j : ((u : Int) != (k : Int)) = true := by simp [q3i]
                  have NB := hide (BADJ.out _ hlt (by rw [HJ.out pt rfl, HP.out]; rw [if_neg (fun h => q3 h.2.2)]))
                  clear HJ HP
                  go_wp2_with (first
                    | (go_at_call 46; refine cr.out.mono ?_; rintro e w1 ⟨rfl, h1, k1⟩; have H1 := hide h1; have K1 := hide k1; clear h1 k1)
                    | (go_at_call 48; refine (c24.out _).mono ?_; clear c24; rintro e w' ⟨rfl, hw⟩; obtain rfl : w1 = w' := hw.symm; clear hw)
                    | (go_at_call 48; refine (c48.out _).mono ?_; clear c48; rintro e w' ⟨rfl, hw⟩; obtain rfl : w1 = w' := hw.symm; clear hw))
                  go_ret2
                  obtain ⟨e1, e2⟩ := NB.out
                  rw [e1, e2]
                  exact ⟨_, rfl, World.ownsRow_nil _ _ _ _, HK.out.trans K1.out (fun x hx => .inl hx)⟩
              · have q2i : ((376 : Int) < (m : Int)) = True := eq_true (by omega)
                have NB := hide (BADJ.out _ hlt (by rw [HJ.out pt rfl, HP.out]; rw [if_neg (fun h => q2 h.2.1)]))
                clear HJ HP
                go_wp2_with (first
                  | (go_at_call 46; refine cr.out.mono ?_; rintro e w1 ⟨rfl, h1, k1⟩; have H1 := hide h1; have K1 := hide k1; clear h1 k1)
                  | (go_at_call 48; refine (c24.out _).mono ?_; clear c24; rintro e w' ⟨rfl, hw⟩; obtain rfl : w1 = w' := hw.symm; clear hw)
                  | (go_at_call 48; refine (c48.out _).mono ?_; clear c48; rintro e w' ⟨rfl, hw⟩; obtain rfl : w1 = w' := hw.symm; clear hw))
                go_ret2
                obtain ⟨e1, e2⟩ := NB.out
                rw [e1, e2]
                exact ⟨_, rfl, World.ownsRow_nil _ _ _ _, HK.out.trans K1.out (fun x hx => .inl hx)⟩
            · rw [decide_eq_false q1] at he
              have NB := hide (BADJ.out _ hlt (by rw [HJ.out pt rfl, HP.out]; rw [if_neg (fun h => q1 h.1)]))
              clear HJ HP
              go_wp2_with (first
                | (go_at_call 46; refine cr.out.mono ?_; rintro e w1 ⟨rfl, h1, k1⟩; have H1 := hide h1; have K1 := hide k1; clear h1 k1)
                | (go_at_call 48; refine (c24.out _).mono ?_; clear c24; rintro e w' ⟨rfl, hw⟩; obtain rfl : w1 = w' := hw.symm; clear hw)
                | (go_at_call 48; refine (c48.out _).mono ?_; clear c48; rintro e w' ⟨rfl, hw⟩; obtain rfl : w1 = w' := hw.symm; clear hw))
              go_ret2
              obtain ⟨e1, e2⟩ := NB.out
              rw [e1, e2]
              exact ⟨_, rfl, World.ownsRow_nil _ _ _ _, HK.out.trans K1.out (fun x hx => .inl hx)⟩
          · have NB := hide (BADJ.out _ hlt (by rw [HJ.out pt rfl, hpart, if_neg hre]))
            clear HJ hpart hsz
            go_wp2_with (go_at_call 46; refine cr.out.mono ?_; rintro e w1 ⟨rfl, h1, k1⟩; have H1 := hide h1; have K1 := hide k1; clear h1 k1)
            go_ret2
            obtain ⟨e1, e2⟩ := NB.out
            rw [e1, e2]
            exact ⟨_, rfl, World.ownsRow_nil _ _ _ _, HK.out.trans K1.out (fun x hx => .inl hx)⟩
        · obtain rfl : k = N := by omega
          have hlt2 : ¬ (k : Int) < (k : Int) := by omega
          have J2 := hide hj
          have hbn : b.length ≤ 752000 := hbl2
          have HGlt := hide hRk.lt
          have hG0 := hide HR.out.lt
          clear hj hRk hlk hbl hts
          go_wp2_with fail
          go_loopg [8, 13] b.length (fun kx s8 s13 wr2 => ∃ (c : List UInt8) (va : Option Addr) (vk vc : Nat), s8 = .string (txt c) ∧ s13 = .slice va vk vc ∧ c.length ≤ kx ∧ c.length ≤ b.length ∧ ∃ acc : List It, Hid (wr2.ownsRow w.heap.size 32 5 (.slice va vk vc) acc.length (itsCells acc) ∧ lsi b = (lsi c).map (acc ++ ·) ∧ Keep G w wr2 ∧ acc.length + c.length ≤ b.length))
          case atStart => exact ⟨b, none, 0, 0, rfl, rfl, Nat.le_refl _, Nat.le_refl _, [], World.ownsRow_nil _ _ _ _, by cases lsi b <;> simp, hK, by simp⟩
          case round =>
            obtain ⟨c, va, vk, vc, rfl, rfl, hk, hcb, acc, I⟩ := hrel
            have hts : (txt c).size = c.length := txt_size c
            by_cases hE : c.length = 0
            · have E : Hid (lsi b = some acc) := by
                show _ = _
                have h2 : c = [] := List.eq_nil_of_length_eq_zero hE
                rw [I.out.2.1, h2, lsi_nil]
                simp
              have hE2 : ¬ (0 : Int) < (c.length : Int) := by omega
              have NB := hide (YES.out b acc J2.out E.out)
              clear hE
              go_wp2
              go_ret2
              obtain ⟨e1, e2⟩ := NB.out
              rw [e1, e2]
              exact ⟨_, rfl, I.out.1, I.out.2.2.1⟩
            · have ct := hide (refTake_any c (by omega))
              have hE2 : (0 : Int) < (c.length : Int) := by omega
              have hrl : c.length ≠ 0 := hE
              rcases hT : take c with ⟨_ | _ | ⟨x, sz⟩⟩
              · rw [hT] at ct
                have E : Hid (lsi b = none) := by
                  show _ = _
                  rw [I.out.2.1, lsi_end hrl hT]
                  rfl
                have NB := hide (BAD2.out b J2.out E.out)
                have etk : tkV Tk.none = .tuple #[.agg #[.string (txt []), .string (txt []), .int .u32 0, .int .i64 0, .int .u64 0], .int .i64 0, .int .i64 5] := rfl
                rw [etk] at ct
                clear hE hT etk hrl
                generalize txt [] = nb at ct
                generalize txt c = tc at *
                go_wp2_with (go_at_call 49; refine (ct.out _).mono ?_; rintro r1 w1 ⟨rfl, b1⟩; have B1 := hide b1; clear b1)
                go_ret2
                obtain ⟨e1, e2⟩ := NB.out
                rw [e1, e2]
                exact ⟨_, rfl, World.ownsRow_nil _ _ _ _, (I.out.2.2.1.trans (Keep.of_below B1.out) (fun x hx => .inl hx)).alloc _⟩
              · rw [hT] at ct
                have E : Hid (lsi b = none) := by
                  show _ = _
                  rw [I.out.2.1, lsi_bad hrl hT]
                  rfl
                have NB := hide (BAD2.out b J2.out E.out)
                have etk : tkV Tk.bad = .tuple #[.agg #[.string (txt []), .string (txt []), .int .u32 0, .int .i64 0, .int .u64 0], .int .i64 0, .int .i64 3] := rfl
                rw [etk] at ct
                clear hE hT etk hrl
                generalize txt [] = nb at ct
                generalize txt c = tc at *
                go_wp2_with (go_at_call 49; refine (ct.out _).mono ?_; rintro r1 w1 ⟨rfl, b1⟩; have B1 := hide b1; clear b1)
                go_ret2
                obtain ⟨e1, e2⟩ := NB.out
                rw [e1, e2]
                exact ⟨_, rfl, World.ownsRow_nil _ _ _ _, (I.out.2.2.1.trans (Keep.of_below B1.out) (fun x hx => .inl hx)).alloc _⟩
              · obtain ⟨t1, t2, t3, t4, t5⟩ := take_ok hT
                rw [hT] at ct
                have E : Hid (lsi b = (lsi (c.drop sz)).map ((acc ++ [x]) ++ ·)) := by
                  show _ = _
                  rw [I.out.2.1, lsi_ok hT]
                  cases lsi (c.drop sz) <;> simp
                have etk : tkV (Tk.ok x sz) = .tuple #[.agg #[.string (txt x.key), .string (txt x.value), .int .u32 x.flags, .int .i64 x.exp, .int .u64 x.ver], .int .i64 sz, .int .i64 0] := rfl
                rw [etk] at ct
                have hsz : sz ≤ c.length := t4
                have hsp : 0 < sz := by rw [t3]; exact x.size_pos
                have hszi : (sz : Int) ≤ (c.length : Int) := by omega
                have SP := hide hsp
                have SZ := hide hsz
                have edr : (txt c).extract sz c.length = txt (c.drop sz) := by rw [txt_extract]; unfold sl; rw [List.take_length]
                obtain ⟨td, htd⟩ : ∃ td, td = txt (c.drop sz) := ⟨_, rfl⟩
                rw [← htd] at edr
                have HTD := hide htd
                clear hE hT etk t1 t2 t3 t4 t5 hsp hsz hrl htd
                have hac : acc.length ≤ 1099511627776 := by have := I.out.2.2.2; omega
                have HAC := hide (show acc.length + 1 ≤ 1099511627776 by have := I.out.2.2.2; omega)
                have HCB := hide hcb
                generalize txt c = tc at *
                go_wp2_with (first
                  | (go_at_call 49; refine (ct.out _).mono ?_; rintro r1 w1 ⟨rfl, b1⟩; have B1 := hide b1; clear b1)
                  | (at_builtin; refine wpList_append_own _ rfl _ _ 33 rfl w.heap.size 32 i0 _ 5 56 Try.underlying33 hi0 hz0 hz1 hz2 rfl (by decide) _ _ _ rfl (((rown_below I.out.1 B1.out).alloc _).alloc _) ⟨w1.heap.size + 1, 0, none⟩ 1 1 (itCells x) rfl ?qc1 ?qc2 ?qc3 ?qc4 ?qc5 ?qc6 ?_))
                case qc1 => rfl
                case qc2 =>
                  intro j u hj
                  rw [Addr.add_lit, Nat.zero_add]
                  have hh := (Blk.new (w1.alloc (.cells #[.string (txt x.key), .string (txt x.value), .int .u32 x.flags, .int .i64 x.exp, .int .u64 x.ver] 32)) (itCells x) 32).cell hj
                  rw [nblk_alloc] at hh
                  exact hh
                case qc3 => intro u hu; simp [itCells] at hu; rcases hu with rfl | rfl | rfl | rfl | rfl <;> rfl
                case qc4 => have := HAC.out; unfold maxLen; omega
                case qc5 => have := HAC.out; omega
                case qc6 => have := I.out.2.2.1.size; have := B1.out.size; simp; omega
                intro v' w2 hown hgrow hnil
                obtain ⟨g2, cp2, rfl⟩ : ∃ g2 cp2, v' = .slice (some ⟨g2, 0, none⟩) (acc.length + 1) cp2 := own_some hown (by omega)
                have FK : Hid (Keep G w w2) := by
                  have h1 := I.out.2.2.1.trans (Keep.of_below B1.out) (fun x hx => .inl hx)
                  have h2 := h1.alloc (.cells #[.string (txt x.key), .string (txt x.value), .int .u32 x.flags, .int .i64 x.exp, .int .u64 x.ver] 32)
                  have h3 := h2.alloc (.cells #[.string (txt x.key), .string (txt x.value), .int .u32 x.flags, .int .i64 x.exp, .int .u64 x.ver] 32)
                  exact h3.grown hgrow (fun q hq => .inr (I.out.1.lt q hq).1)
                rw [itsCells_snoc] at hown
                have FO := hide hown
                clear hown hgrow hnil
                have hl : Hid (acc.length + 1 = (acc ++ [x]).length) := by show _ = _; simp
                go_wp2
                go_roundg (c.drop sz).length
                case measure => have := SP.out; have := SZ.out; rw [List.length_drop]; omega
                case rel =>
                  refine ⟨c.drop sz, _, _, _, by rw [HTD.out], rfl, Nat.le_refl _, by rw [List.length_drop]; have := HCB.out; omega, acc ++ [x], ?_, E.out, FK.out, ?_⟩
                  · rw [← hl.out]; exact FO.out
                  · rw [← hl.out, List.length_drop]; have := I.out.2.2.2; have := SP.out; have := SZ.out; omega
end Go.Proofs.Ytanbbmlekebhhaa

/- Both devices beside one another under Dump and Load, and what the law's walk wants besides. -/
set_option linter.unusedVariables false
set_option linter.unusedSimpArgs false
set_option maxRecDepth 8000
namespace Go.Proofs.Ytanbbmlekebhhaa
open Go.RowKit Go.Deep Math

theorem its_get (xs : List It) (i : Nat) (x : It) (hx : xs[i]? = some x) (j : Nat) (hj : j < 5) : (itsCells xs)[i * 5 + j]? = (itCells x)[j]? := by
  have hi : i < xs.length := (List.getElem?_eq_some_iff.1 hx).1
  have e : xs = xs.take i ++ x :: xs.drop (i + 1) := by
    have h2 := List.take_append_drop i xs
    rw [List.drop_eq_getElem_cons hi, (List.getElem?_eq_some_iff.1 hx).2] at h2
    exact h2.symm
  have hl : ((xs.take i).flatMap itCells).length = i * 5 := by
    have := itsCells_length (xs.take i)
    unfold itsCells at this
    rw [this, List.length_take]; congr 1; omega
  have h3 : itsCells xs = (xs.take i).flatMap itCells ++ (itCells x ++ (xs.drop (i + 1)).flatMap itCells) := by
    conv => lhs; rw [e]
    unfold itsCells
    rw [List.flatMap_append, List.flatMap_cons]
  rw [h3, List.getElem?_append_right (by omega), hl, show i * 5 + j - i * 5 = j by omega, List.getElem?_append_left (by show j < 5; omega)]
theorem raw_news {w : World} {b o n : Nat} {xs : List It} (h : RawAt w (some ⟨b, o, none⟩) n xs) : ∀ j u, (itsCells xs)[j]? = some u → w.cell? ((⟨b, o, none⟩ : Addr).add j) = some u := by
  intro j u hu
  have hj : j < xs.length * 5 := by
    have := (List.getElem?_eq_some_iff.1 hu).1
    rw [itsCells_length] at this
    exact this
  have hi : j / 5 < xs.length := by omega
  obtain ⟨x, hx⟩ : ∃ x, xs[j / 5]? = some x := ⟨_, List.getElem?_eq_getElem hi⟩
  have e1 := its_get xs (j / 5) x hx (j % 5) (Nat.mod_lt _ (by omega))
  rw [show j / 5 * 5 + j % 5 = j by omega, hu] at e1
  obtain ⟨b', o', ha, _, hc⟩ := h.cell (j / 5) x hx
  cases ha
  have hadd : (⟨b, o, none⟩ : Addr).add j = ⟨b, o + j, none⟩ := by unfold Addr.add; split <;> simp_all
  have hr : j % 5 < 5 := Nat.mod_lt _ (by omega)
  rw [hadd, show o + j = o + j / 5 * 5 + j % 5 by omega]
  generalize j % 5 = r at e1 hr ⊢
  generalize o + j / 5 * 5 = q at hc ⊢
  match r, hr with
  | 0, _ => cases e1; exact hc.c0
  | 1, _ => cases e1; exact hc.c1
  | 2, _ => cases e1; exact hc.c2
  | 3, _ => cases e1; exact hc.c3
  | 4, _ => cases e1; exact hc.c4
theorem its_one (xs : List It) : ∀ u ∈ itsCells xs, u.oneCell' = true := by
  intro u hu
  obtain ⟨x, _, hx⟩ := List.mem_flatMap.1 hu
  simp only [itCells, List.mem_cons, List.not_mem_nil, or_false] at hx
  rcases hx with rfl | rfl | rfl | rfl | rfl <;> rfl

theorem append_items (w1 : World) (a : Option Addr) (n cap : Nat) (xs : List It) (ty : TypeId) (hr : RawAt w1 a n xs) (hn : n ≤ 40) :
    ∃ v' w', (Builtin.append_ #[33, 33] ty #[.slice (some ⟨w1.heap.size, 0, none⟩) 0 0, .slice a n cap]).run Try.prog (w1.alloc (.cells #[] 32)) = .ok v' w' ∧
      w'.ownsRow w1.heap.size 32 5 v' n (itsCells xs) ∧ Below w1.heap.size w1 w' := by
  obtain ⟨i0, hi0, hp0⟩ := Option.map_eq_some_iff.1 info30
  simp only [Prod.mk.injEq] at hp0
  obtain ⟨hz0, hz1, hz2⟩ := hp0
  have hown : (w1.alloc (.cells #[] 32)).ownsRow w1.heap.size 32 5 (.slice (some ⟨w1.heap.size, 0, none⟩) 0 0) 0 [] := World.ownsRow_made w1 #[] 0 (Nat.le_refl _) (Nat.zero_le _) (by simp)
  have hB : Below w1.heap.size w1 (w1.alloc (.cells #[] 32)) := (Below.refl _ _).alloc (Nat.le_refl _) _
  cases a with
  | none =>
    have h0 : xs = [] := by
      cases xs with
      | nil => rfl
      | cons x r => obtain ⟨b, o, ha, _⟩ := hr.cell 0 x rfl; cases ha
    have hl := hr.len
    subst h0
    obtain rfl : n = 0 := by simpa using hl
    have h := run_append_room_src (P := Try.prog) (w1.alloc (.cells #[] 32)) 33 33 ty 32 i0 Try.underlying33 hi0 w1.heap.size 0 0 0 (.slice none 0 cap) 0 [] (Src.ofNil _ Try.underlying33 cap) (Nat.le_refl _) (fun j hj => by simp at hj) (fun j hj => by simp at hj)
    exact ⟨_, _, h, hown, hB⟩
  | some x =>
    by_cases h0 : xs = []
    · have hl := hr.len
      subst h0
      obtain rfl : n = 0 := by simpa using hl
      obtain ⟨v', w', h1, h2, h3, h4⟩ := run_append_own (P := Try.prog) (w1.alloc (.cells #[] 32)) w1.heap.size 33 ty 32 i0 _ 5 56 Try.underlying33 hi0 hz0 hz1 hz2 rfl (by decide) _ 0 [] hown x 0 cap [] rfl (fun j u hj => by simp at hj) (fun u hu => by cases hu) (by unfold maxLen; omega) (by omega) (by rw [nblk_alloc]; omega)
      exact ⟨v', w', h1, h2, hB.grown h3 (by rw [nblk_alloc]; omega) (by intro k hk; simp [Value.ownBlock] at hk; omega)⟩
    · obtain ⟨b, o, hx⟩ : ∃ b o, x = ⟨b, o, none⟩ := by
        cases xs with
        | nil => exact absurd rfl h0
        | cons y r => obtain ⟨b, o, ha, _⟩ := hr.cell 0 y rfl; cases ha; exact ⟨_, _, rfl⟩
      subst hx
      obtain ⟨v', w', h1, h2, h3, h4⟩ := run_append_own (P := Try.prog) (w1.alloc (.cells #[] 32)) w1.heap.size 33 ty 32 i0 _ 5 56 Try.underlying33 hi0 hz0 hz1 hz2 rfl (by decide) _ 0 [] hown ⟨b, o, none⟩ n cap (itsCells xs) (by rw [itsCells_length, hr.len]) (raw_news (hr.below hB)) (its_one _) (by unfold maxLen; omega) (by omega) (by rw [nblk_alloc]; omega)
      rw [Nat.zero_add, List.nil_append] at h2
      exact ⟨v', w', h1, h2, hB.grown h3 (by rw [nblk_alloc]; omega) (by intro k hk; simp [Value.ownBlock] at hk; omega)⟩
theorem wpList_app_items {ops : Array Oper} {rest : List Oper} {o : Oper} {a : Act} {Q : Exit → Act → World → Prop} (hgd : o.guard = none) (s x : Operand)
    (ho : o.op = .call { callee := .builtin .append, args := #[s, x], argTypes := #[33, 33] }) {w1 w : World} (hw : w = w1.alloc (.cells #[] 32)) (hs : a.eval s = .slice (some ⟨w1.heap.size, 0, none⟩) 0 0)
    {a0 : Option Addr} {n cap : Nat} {xs : List It} (hx : a.eval x = .slice a0 n cap) (hr : RawAt w1 a0 n xs) (hn : n ≤ 40)
    (h : ∀ v' w', w'.ownsRow w1.heap.size 32 5 v' n (itsCells xs) → Below w1.heap.size w1 w' → wpList Try.prog ops Q rest (a.put o.dst v') w') : wpList Try.prog ops Q (o :: rest) a w := by
  obtain ⟨v', w', h1, h2, h3⟩ := append_items w1 a0 n cap xs o.type hr hn
  subst hw
  refine wpList_plain hgd fun K hK => ?_
  unfold Oper.wp execOp
  simp only [ho, resolve, invoke, builtin, Sem.run_bind, Sem.run_pure, Result.andThen_ok, List.map_toArray, List.map_cons, List.map_nil, hs, hx, h1]
  exact hK _ _ (h v' w' h2 h3)

theorem since2 {B : Nat} {w a : World} {F G : List Nat} (h : Since B w a F) (hG : ∀ k ∈ G, B ≤ k) : Since B w a (F ++ G) := ⟨h.1, h.2.1, fun k hk => by rcases List.mem_append.1 hk with h1 | h1; exact h.2.2 k h1; exact hG k h1⟩
theorem put_len (S : Dv) (p : Int) (g : Pg) : (S.putDo p g).cs.length = S.cs.length := by
  unfold Dv.putDo
  split
  · rfl
  · split
    · rw [S.used_cs]
    · show (putAt _ _ _).length = _; rw [putAt_length]
theorem write_len (S : Dv) (p : Int) (b : ByteArray) : (S.writeDo p b).cs.length = S.cs.length := by
  unfold Dv.writeDo
  split
  · rfl
  · exact put_len _ _ _
theorem flush_len (S : Dv) : S.flushDo.cs.length = S.cs.length := by
  unfold Dv.flushDo
  split
  · rw [S.used_cs]
  · show (List.map _ _).length = _; rw [List.length_map]
theorem act_len (S : Dv) (t : ActI) : (S.act t).cs.length = S.cs.length := by
  unfold Dv.act
  split
  · exact write_len _ _ _
  split
  · exact put_len _ _ _
  split
  · exact flush_len _
  split
  · rfl
  split
  · show (settle _ _).length = _; rw [settle_length]
  · show (settle _ _).length = _; rw [settle_length]
theorem wrI_len (first : Nat) : ∀ (f : Nat) (S : Dv) (k : Nat) (c : List UInt8), (wrI first f S k c).2.cs.length = S.cs.length
  | 0, S, k, c => flush_len S
  | f + 1, S, k, c => by
    unfold wrI
    split
    · exact flush_len S
    · split
      · rw [wrI_len first f]; exact write_len _ _ _
      · exact write_len _ _ _
theorem dump_len (S : Dv) (first pages : Int) (xs : List It) : (S.dumpDo first pages xs).cs.length = S.cs.length := by
  unfold Dv.dumpDo
  split
  · rfl
  · exact wrI_len _ _ _ _ _
theorem readN_len (S : Dv) (k : Nat) : (S.readN k).cs = S.cs := by obtain ⟨x, hx⟩ := S.readN_rd k; rw [hx]
theorem i64_lo {z : Int} (h : (Lit.int .i64 z).wf = true) : -9223372036854775808 ≤ z := by
  have h2 : IntKind.i64.min = -9223372036854775808 := rfl
  simp [Lit.wf, h2] at h
  exact h.1

theorem lsiF_len : ∀ (f : Nat) (b : List UInt8) (ys : List It), lsiF f b = some ys → ys.length ≤ b.length
  | 0, _, ys, h => by simp only [lsiF, Option.some.injEq] at h; subst h; simp
  | f + 1, b, ys, h => by
    unfold lsiF at h
    split at h
    · simp only [Option.some.injEq] at h; subst h; simp
    · cases hT : (take b).v with
      | none => rw [hT] at h; cases h
      | some o =>
        cases o with
        | none => rw [hT] at h; cases h
        | some p =>
          obtain ⟨y, m⟩ := p
          rw [hT] at h
          simp only [Option.map_eq_some_iff] at h
          obtain ⟨zs, hz, rfl⟩ := h
          have hk : take b = .ok y m := by
            cases hB : take b with
            | mk v =>
              rw [hB] at hT
              simp only at hT
              subst hT
              rfl
          obtain ⟨_, _, t3, t4, _⟩ := take_ok hk
          have h1 := lsiF_len f _ zs hz
          have h2 := y.size_pos
          rw [List.length_drop] at h1
          simp only [List.length_cons]
          omega
theorem loadIts_len (S : Dv) (first n : Int) : (S.loadIts first n).length ≤ 376 * S.cs.length := by
  unfold Dv.loadIts
  split
  · simp
  · rename_i hw
    have hw2 : withinB S.cs.length first n = true := by simpa using hw
    simp only [withinB, Bool.and_eq_true, decide_eq_true_eq] at hw2
    split
    · simp
    · split
      · simp
      · rename_i b hb
        have h1 := S.joined_le first.toNat n.toNat (fun _ _ => part_le) n.toNat b hb
        have h3 : ((lsi b).getD []).length ≤ b.length := by
          cases hL : lsi b with
          | none => simp
          | some ys => exact lsiF_len _ _ _ hL
        omega

/-- What the calls so far have left. -/
def Inv (w wr : World) (d r p : Nat) : Prop := ∃ F G S, Pair wr d r F G S S ∧ S.cs.length = p ∧ Since w.heap.size w wr (F ++ G)
theorem Inv.below {w a b : World} {d r p : Nat} (h : Inv w a d r p) (k : Below a.heap.size a b) : Inv w b d r p := by
  obtain ⟨F, G, S, h1, h2, h3⟩ := h
  exact ⟨F, G, S, h1.below k, h2, h3.below k⟩
theorem bytes_apart {w : World} {t : ActI} {b o : Nat} (h : OneAct w b o t) {F : List Nat} (hF : ∀ k ∈ F, w.heap.size ≤ k) : t.l ≠ [] → t.bb ∉ F := fun hl hk => by
  have := hF _ hk
  rcases h.bytes with h0 | ⟨h0, _⟩
  · exact hl h0
  · omega

/-- Dump of both. -/
theorem dump_both (d r : Nat) (F G : List Nat) (S : Dv) (first pages : Int) (hp1 : pages ≤ 9223372036854775807) (a : Option Addr) (n cap : Nat) (xs : List It) (hn40 : n ≤ 40) (hnc : n ≤ cap) (w : World) (h : RawAt w a n xs) (hP : Pair w d r F G S S) :
    Calls Try.prog 11 #[.pointer (some ⟨d, 0, none⟩), .int .i64 first, .int .i64 pages, .slice a n cap] w fun e w' => e = .returned (.tuple #[.int .i64 (S.dumpP first pages xs : Nat), .int .i64 (S.dumpN first pages xs : Nat), .int .i64 (S.dumpErr first pages xs)]) ∧ ∃ F', Pair w' d r F' G (S.dumpDo first pages xs) S ∧ Moves (F ++ G) (F' ++ G) w w' := by
  refine (dump15 d F S first pages hp1 a n cap xs (by omega) hnc w h hP.dev).mono ?_
  rintro e w' ⟨rfl, F', h1, m1⟩
  exact ⟨rfl, F', hP.step1 h1 m1, m1.left⟩
theorem dump_ref (d r : Nat) (F G : List Nat) (S T : Dv) (first pages : Int) (hf1 : first ≤ 9223372036854775807) (hp1 : pages ≤ 9223372036854775807) (hf0 : -9223372036854775808 ≤ first) (hp0 : -9223372036854775808 ≤ pages) (a : Option Addr) (n cap : Nat) (xs : List It) (hn40 : n ≤ 40) (w : World) (h : RawAt w a n xs) (hP : Pair w d r F G T S) :
    Calls Try.prog 15 #[.pointer (some ⟨r, 0, none⟩), .int .i64 first, .int .i64 pages, .slice a n cap] w fun e w' => e = .returned (.tuple #[.int .i64 (S.dumpP first pages xs : Nat), .int .i64 (S.dumpN first pages xs : Nat), .int .i64 (S.dumpErr first pages xs)]) ∧ ∃ G', Pair w' d r F G' T (S.dumpDo first pages xs) ∧ Moves (F ++ G) (F ++ G') w w' := by
  have hg : S.good := by obtain ⟨L, _, hI⟩ := hP.ref; exact hI.good
  refine (rdump_at r G S first pages hf1 hp1 hf0 hp0 a n cap xs hn40 w h hP.ref hg.many).mono ?_
  rintro e w' ⟨rfl, G', h1, m1⟩
  exact ⟨rfl, G', hP.step2 h1 m1, m1.right⟩
end Go.Proofs.Ytanbbmlekebhhaa
