/- 'Lay'. -/
import Derived.Test.YtbccnfbombgdmaaRLay
set_option linter.unusedVariables false
set_option linter.unusedSimpArgs false
namespace Go.Proofs.Ytbccnfbombgdmaa
open Go.RowKit Go.Deep Math

def layErr (e : Int) : Value := .tuple #[.slice none 0 0, .int .i64 e]

set_option maxHeartbeats 400000 in
theorem lay_big (a : Option Addr) (n cap : Nat) (room : Int) (hr : 65536 < room) (w : World) :
    Calls Try.prog 50 #[.slice a n cap, .int .i64 room] w fun e w' => e = .returned (layErr 1) ∧ w' = w := by
  go_enter Try.func50, Try.ntmps50
  go_wp2
  go_ret2
  exact ⟨rfl, rfl⟩

set_option maxHeartbeats 400000 in
theorem lay_bad (a : Option Addr) (n cap : Nat) (xs : List It) (room : Int) (hr : room ≤ 65536) (hn63 : n ≤ 9223372036854775807) (w : World) (h : ItsAt w a n xs) (hg : xs.all It.good = false) :
    Calls Try.prog 50 #[.slice a n cap, .int .i64 room] w fun e w' => e = .returned (layErr 1) ∧ Below w.heap.size w w' := by
  have ca := hide (allGood_any a n cap xs hn63 w h)
  rw [hg] at ca
  have hr2 : ¬ (65536 < room) := by omega
  clear h hg hr hn63
  go_enter Try.func50, Try.ntmps50
  go_wp2_with (go_at_call 58; refine ca.out.mono ?_; rintro r w1 ⟨rfl, b1⟩; have B1 := hide b1; clear b1)
  go_ret2
  exact ⟨rfl, B1.out⟩

set_option maxHeartbeats 400000 in
theorem lay_full (a : Option Addr) (n cap : Nat) (xs : List It) (room : Int) (hr0 : -9223372036854775808 ≤ room) (hr : room ≤ 65536) (hn63 : n ≤ 9223372036854775807) (w : World) (h : ItsAt w a n xs) (hg : xs.all It.good = true) (hfull : ¬ (total xs : Int) ≤ room) :
    Calls Try.prog 50 #[.slice a n cap, .int .i64 room] w fun e w' => e = .returned (layErr 7) ∧ Below w.heap.size w w' := by
  have ca := hide (allGood_any a n cap xs hn63 w h)
  rw [hg] at ca
  have cf := hide (fun w1 (b : Below w.heap.size w w1) => fit_any a n cap xs room hr0 hr hn63 w1 (h.below b))
  rw [decide_eq_false hfull] at cf
  have hr2 : ¬ (65536 < room) := by omega
  clear h hg hr hn63 hfull hr0
  go_enter Try.func50, Try.ntmps50
  go_wp2_with (go_at_call 58; refine ca.out.mono ?_; rintro r w1 ⟨rfl, b1⟩; have B1 := hide b1; clear b1)
  go_wp2_with (go_at_call 59; refine (cf.out _ B1.out).mono ?_; rintro r w2 ⟨rfl, b2⟩; have B2 := hide (B1.out.trans (b2.mono B1.out.size)); clear b2)
  go_ret2
  exact ⟨rfl, B2.out⟩

set_option maxHeartbeats 1000000 in
theorem lay_ok (a : Option Addr) (n cap : Nat) (xs : List It) (room : Nat) (hr : room ≤ 65536) (hn63 : n ≤ 9223372036854775807) (w : World) (h : ItsAt w a n xs) (hg : xs.all It.good = true) (hfit : total xs ≤ room) :
    Calls Try.prog 50 #[.slice a n cap, .int .i64 room] w fun e w' => ∃ g, e = .returned (.tuple #[.slice (some ⟨g, 0, none⟩) room room, .int .i64 0]) ∧ w.heap.size ≤ g ∧ Buf w' g (encs xs) (room - total xs) ∧ Below w.heap.size w w' := by
  have ca := hide (allGood_any a n cap xs hn63 w h)
  rw [hg] at ca
  have cf := hide (fun w1 (b : Below w.heap.size w w1) => fit_any a n cap xs (room : Int) (by omega) (by omega) hn63 w1 (h.below b))
  rw [decide_eq_true (show (total xs : Int) ≤ (room : Int) by omega)] at cf
  have hr2 : ¬ (65536 < (room : Int)) := by omega
  have hmk := make_cap room (by omega)
  have HR := hide hr
  have HF := hide hfit
  have HG := hide hg
  generalize hZ : (zc room).toArray = Z at hmk
  have HZ := hide hZ
  have H := hide h
  clear h hg hr hfit hZ
  go_enter Try.func50, Try.ntmps50
  go_wp2_with (go_at_call 58; refine ca.out.mono ?_; rintro r w1 ⟨rfl, b1⟩; have B1 := hide b1; clear b1)
  go_wp2_with (go_at_call 59; refine (cf.out _ B1.out).mono ?_; rintro r w2 ⟨rfl, b2⟩; have B2 := hide (B1.out.trans (b2.mono B1.out.size)); clear b2)
  have hW := hide (show w.heap.size ≤ w2.heap.size from B2.out.size)
  have b0 : Hid (Buf (w2.alloc (.cells Z 5)) w2.heap.size [] room) := by
    show Buf _ _ _ _
    unfold Buf; rw [show bCells [] ++ zc room = zc room from rfl]; unfold Blk; rw [HZ.out]; exact blk_alloc_new _ _
  have B3 := hide (B2.out.alloc B2.out.size (.cells Z 5))
  clear hmk HZ ca cf B1
  generalize w2.heap.size = g at hW b0 ⊢
  generalize w2.alloc (.cells Z 5) = w3 at b0 B3 ⊢
  clear B2
  go_loopg [6, 24] n (fun kx s6 s24 wr => ∃ i m : Nat, s6 = .slice (some ⟨g, 0, none⟩) m room ∧ s24 = .int .i64 i ∧ i ≤ n ∧ n - i ≤ kx ∧ Hid (m = total (xs.take i) ∧ m ≤ room ∧ Buf wr g (encs (xs.take i)) (room - m) ∧ Below w.heap.size w wr))
  case atStart => exact ⟨0, 0, rfl, rfl, Nat.zero_le _, by omega, rfl, Nat.zero_le _, b0.out, B3.out⟩
  case round =>
    obtain ⟨i, m, rfl, rfl, hin, hg, I⟩ := hrel
    by_cases hlt : i < n
    · have hlt2 : (i : Int) < (n : Int) := by omega
      obtain ⟨x, hx⟩ : ∃ x, xs[i]? = some x := ⟨_, List.getElem?_eq_getElem (by rw [← H.out.len]; exact hlt)⟩
      obtain ⟨b, o, rfl, hb, hc⟩ := H.out.cell i x hx
      have hc' := hc.below I.out.2.2.2 hb
      have c0 := hc'.c0
      have c1 := hc'.c1
      have c2 := hc'.c2
      have c3 := hc'.c3
      have c4 := hc'.c4
      have hbw : b < wr.heap.size := Nat.lt_of_lt_of_le hb I.out.2.2.2.size
      have hxg : x.good = true := List.all_eq_true.1 HG.out x (List.mem_of_getElem? hx)
      have hxf := (H.out.fits x (List.mem_of_getElem? hx)).1
      have TT := hide (total_take_succ xs i x hx)
      have TE : Hid (encs (xs.take (i + 1)) = encs (xs.take i) ++ x.enc) := by
        show _ = _
        rw [List.take_add_one, hx, encs_append]; simp [encs]
      have hsz : m + x.size ≤ room := by
        have h1 := total_take_le xs (i + 1)
        have h2 := TT.out; have h3 := I.out.1; have h4 := HF.out
        omega
      have hm : m = (encs (xs.take i)).length := by rw [encs_length]; exact I.out.1
      have cadd := hide (fun W (hW : Buf W g (encs (xs.take i)) (room - m)) => add_any g (room - m) m room (encs (xs.take i)) x hxf hxg (by omega) hm (by rw [← hm]; have := I.out.2.1; omega) (by have := HR.out; omega) W hW)
      have ev : x.val = .agg #[.string (txt x.key), .string (txt x.value), .int .u32 x.flags, .int .i64 x.exp, .int .u64 x.ver] := rfl
      rw [ev] at cadd
      have SZ := hide hsz
      clear hc hc' hx ev hxf hxg hm hsz
      generalize x.size = sz at cadd TT SZ
      go_wp2_with (go_at_call 60; refine (cadd.out _ (I.out.2.2.1.alloc _)).mono ?_; rintro r w4 ⟨rfl, hb4, k4⟩; have HB4 := hide hb4; have K4 := hide k4; clear hb4 k4)
      go_roundg (n - (i + 1))
      case measure => omega
      case rel =>
        refine ⟨i + 1, m + sz, rfl, rfl, by omega, by omega, by rw [TT.out, I.out.1], SZ.out, ?_, ?_⟩
        · rw [TE.out, ← Nat.sub_sub]; exact HB4.out
        · exact (I.out.2.2.2.alloc I.out.2.2.2.size _).trans (K4.out.below (fun k hk => by simp at hk; subst hk; exact hW.out) (by rw [nblk_alloc]; have := I.out.2.2.2.size; omega))
    · obtain rfl : i = n := by omega
      have hlt2 : ¬ (i : Int) < (i : Int) := by omega
      have E : Hid (Buf wr g (encs xs) (room - total xs)) := by
        have h1 := I.out.1
        have h2 := I.out.2.2.1
        rw [H.out.len, List.take_length] at h1 h2
        rw [h1] at h2
        exact h2
      by_cases hr0 : room = 0
      · subst hr0
        go_wp2
        go_ret2
        exact ⟨g, rfl, hW.out, by have := E.out; rwa [Nat.zero_sub] at this, I.out.2.2.2⟩
      · have hr3 : ¬ (room : Int) = 0 := by omega
        go_wp2
        go_ret2
        exact ⟨g, rfl, hW.out, E.out, I.out.2.2.2⟩
end Go.Proofs.Ytbccnfbombgdmaa
