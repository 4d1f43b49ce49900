/- Package image: 'Dump'. -/
import Derived.Test.YtanbbmlekebhhaaIm6
import Derived.Test.YtanbbmlekebhhaaRExt
set_option linter.unusedVariables false
set_option linter.unusedSimpArgs false
set_option maxRecDepth 8000
namespace Go.Proofs.Ytanbbmlekebhhaa
open Go.RowKit Go.Deep Math

theorem RawAt.take {w : World} {a : Option Addr} {n : Nat} {xs : List It} (h : RawAt w a n xs) (k : Nat) (hk : k ≤ n) : RawAt w a k (xs.take k) :=
  ⟨by rw [List.length_take, ← h.len]; omega, fun x hx => h.fits x (List.mem_of_mem_take hx), fun i x hx => h.cell i x (by
    rw [List.getElem?_take] at hx
    split at hx
    · exact hx
    · cases hx)⟩

/-- How many of the items are written. -/
def dmpN (pages : Int) (xs : List It) : Nat := fitN xs (376 * pages.toNat)
def dmpB (pages : Int) (xs : List It) : List UInt8 := encs (xs.take (dmpN pages xs))
/-- What Dump answers and leaves, where the device has the pages and all items are good. -/
def Dv.dmp (S : Dv) (first pages : Int) (xs : List It) : Int × Dv := wrI first.toNat (dmpB pages xs).length S 0 (dmpB pages xs)
def Dv.dumpOk (S : Dv) (first pages : Int) (xs : List It) : Bool := withinB S.cs.length first pages && xs.all It.good
def Dv.dumpErr (S : Dv) (first pages : Int) (xs : List It) : Int := if S.dumpOk first pages xs = false then 1 else (S.dmp first pages xs).1
def Dv.dumpDo (S : Dv) (first pages : Int) (xs : List It) : Dv := if S.dumpOk first pages xs = false then S else (S.dmp first pages xs).2
def Dv.dumpP (S : Dv) (first pages : Int) (xs : List It) : Nat := if S.dumpErr first pages xs = 0 then pgsN (dmpB pages xs).length else 0
def Dv.dumpN (S : Dv) (first pages : Int) (xs : List It) : Nat := if S.dumpErr first pages xs = 0 then dmpN pages xs else 0
def DmPost (w : World) (d : Nat) (F : List Nat) (p k : Nat) (er : Int) (S' : Dv) (e : Ending) (w' : World) : Prop :=
  e = .returned (.tuple #[.int .i64 p, .int .i64 k, .int .i64 er]) ∧ ∃ F', DvAt w' d F' S' ∧ Moves F F' w w'


set_option maxHeartbeats 4000000 in
theorem dump15 (d : Nat) (F : List Nat) (S : Dv) (first pages : Int) (hp1 : pages ≤ 9223372036854775807) (a : Option Addr) (n cap : Nat) (xs : List It) (hn63 : n ≤ 9223372036854775807) (hnc : n ≤ cap) (w : World) (h : RawAt w a n xs) (hD : DvAt w d F S) :
    Calls Try.prog 11 #[.pointer (some ⟨d, 0, none⟩), .int .i64 first, .int .i64 pages, .slice a n cap] w (DmPost w d F (S.dumpP first pages xs) (S.dumpN first pages xs) (S.dumpErr first pages xs) (S.dumpDo first pages xs)) := by
  have cw := hide (within_any d F S first pages hp1 w hD)
  have ca := hide (allGood15 a n cap xs hn63 w h)
  have H := hide h
  have HD := hide hD
  have hm := hD.good.many
  unfold DmPost
  cases hw : withinB S.cs.length first pages with
  | false =>
    rw [hw] at cw
    have hok : S.dumpOk first pages xs = false := by unfold Dv.dumpOk; rw [hw]; rfl
    have her : S.dumpErr first pages xs = 1 := by unfold Dv.dumpErr; rw [if_pos hok]
    rw [show S.dumpP first pages xs = 0 by unfold Dv.dumpP; rw [her]; rfl, show S.dumpN first pages xs = 0 by unfold Dv.dumpN; rw [her]; rfl, show S.dumpDo first pages xs = S by unfold Dv.dumpDo; rw [if_pos hok], her]
    clear hw hm hD h hok her
    go_enter Try.func11, Try.ntmps11
    go_wp2_with (go_at_call 28; refine cw.out.mono ?_; rintro e w' ⟨rfl, hw⟩; obtain rfl : w = w' := hw.symm; clear hw)
    exact bodyPost_ret (v := .tuple #[.int .i64 0, .int .i64 0, .int .i64 1]) (by simp [results, Try.results11, go_sem]) rfl ⟨rfl, F, HD.out, Moves.refl _ _⟩
  | true =>
    rw [hw] at cw
    cases hg : xs.all It.good with
    | false =>
      rw [hg] at ca
      have hok : S.dumpOk first pages xs = false := by unfold Dv.dumpOk; rw [hg, Bool.and_false]
      have her : S.dumpErr first pages xs = 1 := by unfold Dv.dumpErr; rw [if_pos hok]
      rw [show S.dumpP first pages xs = 0 by unfold Dv.dumpP; rw [her]; rfl, show S.dumpN first pages xs = 0 by unfold Dv.dumpN; rw [her]; rfl, show S.dumpDo first pages xs = S by unfold Dv.dumpDo; rw [if_pos hok], her]
      clear hw hm hD h hok her hg
      go_enter Try.func11, Try.ntmps11
      go_wp2_with (first
        | (go_at_call 28; refine cw.out.mono ?_; rintro e w' ⟨rfl, hw⟩; obtain rfl : w = w' := hw.symm; clear hw)
        | (go_at_call 29; refine ca.out.mono ?_; rintro e w1 ⟨rfl, b1⟩; have B1 := hide b1; clear b1))
      exact bodyPost_ret (v := .tuple #[.int .i64 0, .int .i64 0, .int .i64 1]) (by simp [results, Try.results11, go_sem]) rfl ⟨rfl, F, HD.out.below B1.out, Moves.of_keep (Keep.of_below B1.out)⟩
    | true =>
      rw [hg] at ca
      have hok : S.dumpOk first pages xs = true := by unfold Dv.dumpOk; rw [hg, hw]; rfl
      have hw2 := hw
      simp only [withinB, Bool.and_eq_true, decide_eq_true_eq] at hw2
      obtain ⟨w1, w2, w3⟩ := hw2
      obtain ⟨f, rfl⟩ := Int.eq_ofNat_of_zero_le w1
      obtain ⟨N, rfl⟩ := Int.eq_ofNat_of_zero_le w2
      have hfN : f + N ≤ 4096 := by omega
      have hgd : ∀ x ∈ xs, x.good = true := fun x hx => List.all_eq_true.1 hg x hx
      have hits : ItsAt w a n xs := h.its (fun x hx => by have := good_sizes (hgd x hx); omega)
      obtain ⟨k, hk⟩ : ∃ k, k = fitN xs (376 * N) := ⟨_, rfl⟩
      have hkn : k ≤ n := by rw [h.len, hk]; exact fitN_le _ _
      have htot : total (xs.take k) ≤ 376 * N := by rw [hk]; exact fitN_total _ _
      have ht20 : total (xs.take k) ≤ 1540096 := by omega
      have hb : dmpB (N : Int) xs = encs (xs.take k) := by unfold dmpB dmpN; rw [Int.toNat_natCast, ← hk]
      have hbl : (dmpB (N : Int) xs).length = total (xs.take k) := by rw [hb, encs_length]
      obtain ⟨er, her⟩ : ∃ er, er = (wrI f (total (xs.take k)) S 0 (encs (xs.take k))).1 := ⟨_, rfl⟩
      obtain ⟨S2, hS2⟩ : ∃ S2, S2 = (wrI f (total (xs.take k)) S 0 (encs (xs.take k))).2 := ⟨_, rfl⟩
      have hdm : S.dmp f N xs = (er, S2) := by unfold Dv.dmp; rw [hbl, hb, Int.toNat_natCast, her, hS2]
      have e1 : S.dumpErr f N xs = er := by unfold Dv.dumpErr; rw [if_neg (by rw [hok]; simp), hdm]
      have e2 : S.dumpDo f N xs = S2 := by unfold Dv.dumpDo; rw [if_neg (by rw [hok]; simp), hdm]
      have cf : Hid (∀ W, Below w.heap.size w W → Calls Try.prog 30 #[.slice a n cap, .int .i64 ((376 * N : Nat) : Int)] W fun e w' => e = .returned (.int .i64 (k : Int)) ∧ Below W.heap.size W w') := fun W hW => by
        rw [hk]
        exact fit15 a n cap xs (376 * N) (by omega) hn63 W (hits.below hW)
      have cR : Hid (∀ W, Below w.heap.size w W → Calls Try.prog 32 #[.slice a k cap] W (RecsPost W (xs.take k))) := fun W hW =>
        records15 a k cap (xs.take k) (fun x hx => hgd x (List.mem_of_mem_take hx)) (by omega) (by omega) W ((h.take k hkn).below hW)
      have cW : Hid (∀ (W : World) (v : Value), Below w.heap.size w W → W.ownsRow w.heap.size 5 1 v (total (xs.take k)) (bCells (encs (xs.take k))) → Calls Try.prog 31 #[.pointer (some ⟨d, 0, none⟩), .int .i64 (f : Int), v] W (WrPost W d F (total (xs.take k)) er S2)) := fun W v hW hv => by
        obtain ⟨a', c', rfl⟩ := own_slice hv
        obtain ⟨hbs, hc'⟩ := own_bs hv
        have hq : ∀ x, a' = some x → w.heap.size ≤ x.block ∧ x.block < W.heap.size := fun x hx => by
          subst hx
          rcases hv.2 with ⟨h1, _⟩ | ⟨g, cp, cur, h1, hg1, hh, _⟩
          · cases h1
          · simp only [Value.slice.injEq, Option.some.injEq] at h1
            rw [h1.1]
            exact ⟨hg1, (Array.getElem?_eq_some_iff.1 hh).1⟩
        rw [her, hS2]
        exact write15 d F S f (by omega) a' _ c' _ (by omega) hc' W hbs (fun x hx hf => by have := hD.lt _ hf; have := (hq x hx).1; omega) (fun x hx => (hq x hx).2) (hD.below hW)
      have hki : (k : Int) ≤ (n : Int) := by omega
      have HKN := hide hkn
      have hkc : k ≤ cap := by omega
      have h376 : ((376 * N : Nat) : Int) = 376 * (N : Int) := by omega
      rw [h376] at cf
      have hNi : (N : Int) ≤ 4096 := by omega
      unfold RecsPost at cR
      generalize htt : total (xs.take k) = tt at *
      generalize hee : encs (xs.take k) = ee at *
      by_cases h0 : er = 0
      · have e3 : S.dumpP f N xs = pgsN tt := by unfold Dv.dumpP; rw [e1, if_pos h0, hbl]
        have e4 : S.dumpN f N xs = k := by unfold Dv.dumpN; rw [e1, if_pos h0]; unfold dmpN; rw [Int.toNat_natCast, ← hk]
        rw [e1, e2, e3, e4, h0]
        rw [h0] at cW
        clear hw hm hD h hok hg hgd hits hk htot ht20 hb hbl her hS2 hdm e1 e2 e3 e4 h0 w1 w2 w3 htt hee hfN h376
        go_enter Try.func11, Try.ntmps11
        go_wp2_with (first
          | (go_at_call 28; refine cw.out.mono ?_; rintro e w' ⟨rfl, hw⟩; obtain rfl : w = w' := hw.symm; clear hw)
          | (go_at_call 29; refine ca.out.mono ?_; rintro e w1 ⟨rfl, b1⟩; have B1 := hide b1; clear b1)
          | (go_at_call 30; refine (cf.out _ B1.out).mono ?_; rintro e w2 ⟨rfl, b2⟩; have B2 := hide (B1.out.trans (b2.mono B1.out.size)); clear b2)
          | (go_at_call 32; refine (cR.out _ B2.out).mono ?_; rintro e w3 ⟨v, rfl, hv, b3⟩; have HV := hide (own_lower hv B2.out.size); have B3 := hide (B2.out.trans (b3.mono B2.out.size)); clear b3 hv)
          | (go_at_call 31; refine (cW.out _ _ B3.out HV.out).mono ?_; rintro e w4 ⟨m, rfl, hm, F', h4, h5⟩; obtain rfl := hm rfl; have H4 := hide h4; have H5 := hide h5; clear h4 h5 hm))
        exact bodyPost_ret (v := .tuple #[.int .i64 (pgsN tt : Int), .int .i64 (k : Int), .int .i64 0]) (by simp [results, Try.results11, go_sem]) rfl ⟨rfl, F', H4.out, (Moves.of_keep (Keep.of_below B3.out)).trans H5.out⟩
      · have e3 : S.dumpP f N xs = 0 := by unfold Dv.dumpP; rw [e1, if_neg h0]
        have e4 : S.dumpN f N xs = 0 := by unfold Dv.dumpN; rw [e1, if_neg h0]
        rw [e1, e2, e3, e4]
        clear hw hm hD h hok hg hgd hits hk htot ht20 hb hbl her hS2 hdm e1 e2 e3 e4 w1 w2 w3 htt hee hfN h376
        go_enter Try.func11, Try.ntmps11
        go_wp2_with (first
          | (go_at_call 28; refine cw.out.mono ?_; rintro e w' ⟨rfl, hw⟩; obtain rfl : w = w' := hw.symm; clear hw)
          | (go_at_call 29; refine ca.out.mono ?_; rintro e w1 ⟨rfl, b1⟩; have B1 := hide b1; clear b1)
          | (go_at_call 30; refine (cf.out _ B1.out).mono ?_; rintro e w2 ⟨rfl, b2⟩; have B2 := hide (B1.out.trans (b2.mono B1.out.size)); clear b2)
          | (go_at_call 32; refine (cR.out _ B2.out).mono ?_; rintro e w3 ⟨v, rfl, hv, b3⟩; have HV := hide (own_lower hv B2.out.size); have B3 := hide (B2.out.trans (b3.mono B2.out.size)); clear b3 hv)
          | (go_at_call 31; refine (cW.out _ _ B3.out HV.out).mono ?_; rintro e w4 ⟨m, rfl, hm, F', h4, h5⟩; have H4 := hide h4; have H5 := hide h5; clear h4 h5 hm))
        exact bodyPost_ret (v := .tuple #[.int .i64 0, .int .i64 0, .int .i64 er]) (by simp [results, Try.results11, go_sem]) rfl ⟨rfl, F', H4.out, (Moves.of_keep (Keep.of_below B3.out)).trans H5.out⟩
end Go.Proofs.Ytanbbmlekebhhaa
