/- Package image: 'laid', 'within', 'allGood', 'fit'. -/
import Derived.Test.YtanbbmlekebhhaaIm1
import Derived.Test.YtanbbmlekebhhaaRLs
set_option linter.unusedVariables false
set_option linter.unusedSimpArgs false
set_option maxRecDepth 8000
namespace Go.Proofs.Ytanbbmlekebhhaa
open Go.RowKit Go.Deep Math

theorem LS.num {w W : World} {g r N : Nat} {cur : List UInt8} (h : LS w W g cur r N) (n k m : Nat) (hm : m = cur.length) (hk : k ≤ 8) (hkr : k ≤ r) (hn : n < 4294967296) (hN : N ≤ 400) :
    Calls Try.prog 66 #[.slice (some ⟨g, 0, none⟩) m N, .int .i64 n, .int .i64 k] W fun e w' => e = .returned (.slice (some ⟨g, 0, none⟩) (m + k) N) ∧ LS w w' g (cur ++ low n k) (r - k) N ∧ Keep [g] W w' := by
  have hl := h.len
  refine (addNumber15 g r k m N cur n hn hkr hk hm (by omega) (by omega) W h.buf).mono ?_
  rintro e w' ⟨he, hb, hkp⟩
  have hng := h.ng
  exact ⟨he, ⟨hb, h.below.trans (hkp.below (by simp; omega) h.below.size), hng, by rw [List.length_append, low_length]; omega⟩, hkp⟩

/-- A page of the image: its bytes' number, its place, the bytes. -/
def headI (k len : Nat) : List UInt8 := [73, 77] ++ low len 2 ++ low k 4
def pageI (k : Nat) (b : List UInt8) : List UInt8 := headI k b.length ++ b
theorem headI_length (k len : Nat) : (headI k len).length = 8 := by simp [headI, low_length]
theorem pageI_length (k : Nat) (b : List UInt8) : (pageI k b).length = 8 + b.length := by rw [pageI, List.length_append, headI_length]

set_option maxHeartbeats 1000000 in
theorem laid15 (k : Nat) (hk : k < 4294967296) (a : Option Addr) (len cap : Nat) (l : List UInt8) (hlen : len ≤ 376) (w : World) (h : BS w a len cap l) :
    Calls Try.prog 55 #[.int .i64 k, .slice a len cap] w fun e w' => e = .returned (.slice (some ⟨w.heap.size, 0, none⟩) (8 + len) (8 + len)) ∧ Buf w' w.heap.size (pageI k l) 0 ∧ Below w.heap.size w w' := by
  obtain ⟨N, hN⟩ : ∃ N, N = 8 + len := ⟨_, rfl⟩
  have hN4 : N ≤ 400 := by omega
  have hmk := make_cap N (by omega) w
  rw [show (N : Int) = 8 + (len : Int) by omega] at hmk
  generalize hZ : (zc N).toArray = Z at hmk
  have hs1 : ∀ W, Src Try.prog 1 9 (.string ⟨#[73, 77]⟩) 2 (bCells [73, 77]) W := fun W => Src.ofString (P := Try.prog) W Try.underlying9 (txt [73, 77])
  obtain ⟨W1, hm, h1, hz1⟩ := (LS.start w N Z hZ).app (nl := 0) (hs1 _) (by omega) rfl rfl 39
  have hl := h.len
  have H := hide h
  have HR1 := hide hm
  have HN := hide hN
  have HN4 := hide hN4
  have HK := hide hk
  have HL := hide hl
  have H1 := hide h1
  have C1 := hide (h1.num len 2 2 rfl (by omega) (by omega) (by omega) hN4)
  rw [← hN]
  clear h h1 hs1 hl hN hN4 hk hZ hm hz1 H1
  go_enter Try.func55, Try.ntmps55
  go_wp2_with (first
    | (go_at_call 66; fail)
    | (at_builtin; refine Lib.wpList_append_run _ rfl _ _ _ _ rfl _ _ rfl rfl _ _ HR1.out ?_))
  refine C1.out.mono ?_
  rintro r W3 ⟨rfl, h4, _⟩
  have C2 := hide (h4.num k 4 4 (by simp [low_length]) (by omega) (by have := HN.out; omega) HK.out HN4.out)
  clear h4 C1 HR1
  go_wp2_with fail
  refine C2.out.mono ?_
  rintro r W4 ⟨rfl, h5, _⟩
  have hb := h5.below
  obtain ⟨W5, hm5, h6, hz6⟩ := h5.app (nl := 4 + 4) (H.out.later hb).src (by have := HN.out; omega) HL.out.symm (by simp [low_length]) 39
  have HR5 := hide hm5
  have H6 := hide h6
  clear h5 C2 hm5 h6 hz6 hb
  go_wp2_with (at_builtin; refine Lib.wpList_append_run _ rfl _ _ _ _ rfl _ _ rfl rfl _ _ HR5.out ?_)
  go_ret
  have hN := HN.out
  refine ⟨by rw [hN]; rfl, ?_, H6.out.below⟩
  have hb := H6.out.buf
  rw [show N - 2 - 2 - 4 - len = 0 by omega] at hb
  have e : ([] : List UInt8) ++ [73, 77] ++ low len 2 ++ low k 4 ++ l = pageI k l := by
    rw [HL.out]; simp [pageI, headI]
  rw [e] at hb
  exact hb

/-- Has a device of n pages these? -/
def withinB (n : Nat) (first pages : Int) : Bool := decide (0 ≤ first) && (decide (0 ≤ pages) && decide (first ≤ (n : Int) - pages))

set_option maxHeartbeats 400000 in
theorem within_any (d : Nat) (F : List Nat) (S : Dv) (first pages : Int) (hp1 : pages ≤ 9223372036854775807) (w : World) (h : DvAt w d F S) :
    Calls Try.prog 28 #[.pointer (some ⟨d, 0, none⟩), .int .i64 first, .int .i64 pages] w fun e w' => e = .returned (.bool (withinB S.cs.length first pages)) ∧ w' = w := by
  obtain ⟨p, pd, wa, wc, rfl, h⟩ := h
  have hm := h.good.many
  have cp := hide (pages_any d p pd wa wc S w h)
  clear h
  unfold withinB
  generalize S.cs.length = n at *
  by_cases h1 : 0 ≤ first
  · have i1 : ((0 : Int) ≤ first) = True := eq_true h1
    by_cases h2 : 0 ≤ pages
    · have i2 : ((0 : Int) ≤ pages) = True := eq_true h2
      have hn0 : (n : Int) ≤ 4096 := by omega
      by_cases h3 : first ≤ (n : Int) - pages
      · have i3 : (first ≤ (n : Int) - pages) = True := eq_true h3
        simp only [i1, i2, i3, decide_true, Bool.and_self]
        go_enter Try.func28, Try.ntmps28
        go_wp2_with (go_at_call 45; refine cp.out.mono ?_; rintro e w' ⟨rfl, hw⟩; obtain rfl : w = w' := hw.symm; clear hw)
        go_ret
        exact ⟨rfl, rfl⟩
      · have i3 : (first ≤ (n : Int) - pages) = False := eq_false h3
        simp only [i1, i2, i3, decide_true, decide_false, Bool.and_false]
        go_enter Try.func28, Try.ntmps28
        go_wp2_with (go_at_call 45; refine cp.out.mono ?_; rintro e w' ⟨rfl, hw⟩; obtain rfl : w = w' := hw.symm; clear hw)
        go_ret
        exact ⟨rfl, rfl⟩
    · have i2 : ((0 : Int) ≤ pages) = False := eq_false h2
      simp only [i1, i2, decide_true, decide_false, Bool.and_false, Bool.false_and]
      clear h2
      go_enter Try.func28, Try.ntmps28
      go_wp2
      go_ret
      exact ⟨rfl, rfl⟩
  · have i1 : ((0 : Int) ≤ first) = False := eq_false h1
    simp only [i1, decide_false, Bool.false_and]
    clear h1
    go_enter Try.func28, Try.ntmps28
    go_wp2
    go_ret
    exact ⟨rfl, rfl⟩

set_option maxHeartbeats 1000000 in
theorem allGood15 (a : Option Addr) (n cap : Nat) (xs : List It) (hn63 : n ≤ 9223372036854775807) (w : World) (h : RawAt w a n xs) :
    Calls Try.prog 29 #[.slice a n cap] w fun e w' => e = .returned (.bool (xs.all It.good)) ∧ Below w.heap.size w w' := by
  have H := hide h
  clear h
  go_enter Try.func29, Try.ntmps29
  go_wp2
  go_loopg [7] n (fun kx s7 wr => ∃ i : Nat, s7 = .int .i64 i ∧ i ≤ n ∧ n - i ≤ kx ∧ Hid ((xs.take i).all It.good = true ∧ Below w.heap.size w wr))
  case atStart => exact ⟨0, rfl, Nat.zero_le _, by omega, by simp, Below.refl _ _⟩
  case round =>
    obtain ⟨i, rfl, hin, hg, I⟩ := hrel
    by_cases hlt : i < n
    · have hlt2 : (i : Int) < (n : Int) := by omega
      obtain ⟨x, hx⟩ : ∃ x, xs[i]? = some x := ⟨_, List.getElem?_eq_getElem (by rw [← H.out.len]; exact hlt)⟩
      obtain ⟨b, o, rfl, hb, hc⟩ := H.out.cell i x hx
      have hc' := hc.below I.out.2 hb
      have c0 := hc'.c0
      have c1 := hc'.c1
      have c2 := hc'.c2
      have c3 := hc'.c3
      have c4 := hc'.c4
      have hbw : b < wr.heap.size := Nat.lt_of_lt_of_le hb I.out.2.size
      have cg := hide (good_any (txt x.key) (txt x.value) x.flags x.exp x.ver)
      rw [← x.good_mayBe] at cg
      unfold itV at cg
      have AT := hide (all_take_succ xs i x hx)
      have AF := hide (all_false xs i x hx)
      clear hc hc' hx
      cases hgx : x.good with
      | true =>
        rw [hgx] at cg AT
        clear AF hgx
        go_wp2_with (go_at_call 53; refine (cg.out _).mono ?_; rintro r w1 ⟨rfl, b1⟩; have B1 := hide b1; clear b1)
        go_roundg (n - (i + 1))
        case measure => omega
        case rel => exact ⟨i + 1, rfl, by omega, by omega, by rw [AT.out, I.out.1]; rfl, (I.out.2.alloc I.out.2.size _).trans (B1.out.mono (by rw [nblk_alloc]; have := I.out.2.size; omega))⟩
      | false =>
        rw [hgx] at cg
        have AF' := hide (AF.out hgx)
        clear AT AF hgx
        go_wp2_with (go_at_call 53; refine (cg.out _).mono ?_; rintro r w1 ⟨rfl, b1⟩; have B1 := hide b1; clear b1)
        go_ret
        exact ⟨by rw [AF'.out]; rfl, (I.out.2.alloc I.out.2.size _).trans (B1.out.mono (by rw [nblk_alloc]; have := I.out.2.size; omega))⟩
    · obtain rfl : i = n := by omega
      have hlt2 : ¬ (i : Int) < (i : Int) := by omega
      go_wp2
      go_ret
      have := I.out.1
      rw [H.out.len, List.take_length] at this
      exact ⟨by rw [this]; rfl, I.out.2⟩

/-- How many of the first ones room holds. -/
def fitN : List It → Nat → Nat
  | [], _ => 0
  | x :: r, m => if x.size ≤ m then fitN r (m - x.size) + 1 else 0
theorem fitN_le : ∀ (xs : List It) (m : Nat), fitN xs m ≤ xs.length
  | [], _ => Nat.le_refl _
  | x :: r, m => by
    unfold fitN; split
    · have := fitN_le r (m - x.size); simp; omega
    · exact Nat.zero_le _
theorem fitN_total : ∀ (xs : List It) (m : Nat), total (xs.take (fitN xs m)) ≤ m
  | [], m => by simp [fitN, total]
  | x :: r, m => by
    unfold fitN; split
    · rename_i h
      have := fitN_total r (m - x.size)
      simp only [List.take_succ_cons, total]; omega
    · simp [total]
theorem fitN_step (xs : List It) (i m : Nat) (x : It) (h : xs[i]? = some x) (hs : x.size ≤ m) : fitN (xs.drop i) m = fitN (xs.drop (i + 1)) (m - x.size) + 1 := by
  have hi := (List.getElem?_eq_some_iff.1 h)
  rw [List.drop_eq_getElem_cons hi.1, hi.2, fitN, if_pos hs]
theorem fitN_stop (xs : List It) (i m : Nat) (x : It) (h : xs[i]? = some x) (hs : m < x.size) : fitN (xs.drop i) m = 0 := by
  have hi := (List.getElem?_eq_some_iff.1 h)
  rw [List.drop_eq_getElem_cons hi.1, hi.2, fitN, if_neg (by omega)]

set_option maxHeartbeats 1000000 in
theorem fit15 (a : Option Addr) (n cap : Nat) (xs : List It) (room : Nat) (hr1 : room ≤ 9007199254740992) (hn63 : n ≤ 9223372036854775807) (w : World) (h : ItsAt w a n xs) :
    Calls Try.prog 30 #[.slice a n cap, .int .i64 room] w fun e w' => e = .returned (.int .i64 (fitN xs room : Int)) ∧ Below w.heap.size w w' := by
  have H := hide h
  clear h
  go_enter Try.func30, Try.ntmps30
  go_wp2
  go_loopg [1, 9] n (fun kx s1 s9 wr => ∃ (i rm : Nat), s9 = .int .i64 i ∧ s1 = .int .i64 rm ∧ i ≤ n ∧ n - i ≤ kx ∧ rm ≤ 9007199254740992 ∧ Hid (fitN xs room = i + fitN (xs.drop i) rm ∧ Below w.heap.size w wr))
  case atStart => exact ⟨0, room, rfl, rfl, Nat.zero_le _, by omega, hr1, by simp, Below.refl _ _⟩
  case round =>
    obtain ⟨i, rm, rfl, rfl, hin, hg, hm1, I⟩ := hrel
    by_cases hlt : i < n
    · have hlt2 : (i : Int) < (n : Int) := by omega
      obtain ⟨x, hx⟩ : ∃ x, xs[i]? = some x := ⟨_, List.getElem?_eq_getElem (by rw [← H.out.len]; exact hlt)⟩
      obtain ⟨b, o, rfl, hb, hc⟩ := H.out.cell i x hx
      have hc' := hc.below I.out.2 hb
      have c0 := hc'.c0
      have c1 := hc'.c1
      have c2 := hc'.c2
      have c3 := hc'.c3
      have c4 := hc'.c4
      have hbw : b < wr.heap.size := Nat.lt_of_lt_of_le hb I.out.2.size
      have hf := H.out.fits x (List.mem_of_getElem? hx)
      have cs := hide (size_any (txt x.key) (txt x.value) x.flags x.exp x.ver (by rw [txt_size]; exact hf.2.1) (by rw [txt_size]; exact hf.2.2))
      have es : 32 + (txt x.key).size + (txt x.value).size = x.size := by rw [txt_size, txt_size]; rfl
      rw [es] at cs
      unfold itV at cs
      have TS := hide (fitN_step xs i rm x hx)
      have TL := hide (fitN_stop xs i rm x hx)
      have hsz : x.size ≤ 281474976702496 := by unfold It.size; omega
      have hszi : (x.size : Int) ≤ 281474976702496 := by omega
      have hsz0 : (0 : Int) ≤ (x.size : Int) := by omega
      have hrmi : (rm : Int) ≤ 9007199254740992 := by omega
      generalize x.size = sz at *
      clear hc hc' hx es hf hsz
      by_cases hfit : rm < sz
      · have hf2 : ((rm : Int) - (sz : Int) < 0) = True := eq_true (by omega)
        have E := hide (TL.out hfit)
        clear hfit TS TL
        go_wp2_with (go_at_call 54; refine (cs.out _).mono ?_; rintro r w1 ⟨rfl, b1⟩; have B1 := hide b1; clear b1)
        go_ret
        exact ⟨ret_int (by rw [I.out.1, E.out]; rfl), (I.out.2.alloc I.out.2.size _).trans (B1.out.mono (by rw [nblk_alloc]; have := I.out.2.size; omega))⟩
      · have hf2 : ((rm : Int) - (sz : Int) < 0) = False := eq_false (by omega)
        have E := hide (TS.out (by omega))
        have HF := hide hfit
        clear hfit TS TL
        go_wp2_with (go_at_call 54; refine (cs.out _).mono ?_; rintro r w1 ⟨rfl, b1⟩; have B1 := hide b1; clear b1)
        go_roundg (n - (i + 1))
        case measure => omega
        case rel => exact ⟨i + 1, rm - sz, rfl, by rw [Int.ofNat_sub (by have := HF.out; omega)], by omega, by omega, by omega, by rw [I.out.1, E.out]; omega, (I.out.2.alloc I.out.2.size _).trans (B1.out.mono (by rw [nblk_alloc]; have := I.out.2.size; omega))⟩
    · obtain rfl : i = n := by omega
      have hlt2 : ¬ (i : Int) < (i : Int) := by omega
      have E : Hid (fitN xs room = i) := by
        show _ = _
        rw [I.out.1, H.out.len, List.drop_length]; rfl
      go_wp2
      go_ret
      exact ⟨ret_int (by rw [E.out]), I.out.2⟩
end Go.Proofs.Ytanbbmlekebhhaa
