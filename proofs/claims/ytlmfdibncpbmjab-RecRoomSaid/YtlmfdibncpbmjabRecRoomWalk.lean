/-
  RecRoom holds for all inputs of the model, with no condition.
-/
import Derived.WalkKit
import Derived.Below
import Derived.Test.YtlmfdibncpbmjabItems
import Derived.Test.YtlmfdibncpbmjabRow
import Derived.Test.YtlmfdibncpbmjabTakeE
import Derived.Test.YtlmfdibncpbmjabAwake
import Derived.Deep.RegionHeld3
namespace Go.Proofs.Ytlmfdibncpbmjab.recRoom
open Go.RowKit Go.Deep
set_option linter.unusedVariables false
set_option linter.unusedSimpArgs false

theorem refGood_it (x : It) (w : World) : Calls Try.prog 6 #[.agg #[.string (txt x.key), .string (txt x.value), .int .u32 x.flags, .int .i64 x.exp, .int .u64 x.ver]] w fun r w' => r = .returned (.bool x.good) ∧ Below w.heap.size w w' := by
  rw [x.good_mayBe]; exact refGood_any (txt x.key) (txt x.value) x.flags x.exp x.ver w
theorem size_it (x : It) (hk : x.key.length ≤ 140737488351232) (hv : x.value.length ≤ 140737488351232) (w : World) : Calls Try.prog 7 #[.agg #[.string (txt x.key), .string (txt x.value), .int .u32 x.flags, .int .i64 x.exp, .int .u64 x.ver]] w fun r w' => r = .returned (.int .i64 x.size) ∧ Below w.heap.size w w' := by
  have := size_any (txt x.key) (txt x.value) x.flags x.exp x.ver (by rw [txt_size]; exact hk) (by rw [txt_size]; exact hv) w
  rw [txt_size, txt_size] at this
  exact this
theorem total_le : ∀ (l : List It), l.all It.good = true → total l ≤ 1306 * l.length
  | [], _ => by simp [total]
  | x :: r, h => by
    simp only [List.all_cons, Bool.and_eq_true] at h
    obtain ⟨q1, q2, q3, q4⟩ := x.good_iff.1 h.1
    have := total_le r h.2
    simp only [total, List.length_cons]
    unfold It.size
    omega
theorem all_its {w : World} {a : Option Addr} {n : Nat} {xs : List It} (h : RawAt w a n xs) (hg : xs.all It.good = true) : ItsAt w a n xs :=
  h.its (fun x hx => by
    obtain ⟨q1, q2, q3, q4⟩ := x.good_iff.1 (List.all_eq_true.1 hg x hx)
    omega)
theorem lay_fullX (a : Option Addr) (n cap : Nat) (xs : List It) (room : Int) (hr0 : -9223372036854775808 ≤ room) (hr : room ≤ 65536) (hn63 : n ≤ 9223372036854775807) (w : World) (h : ItsAt w a n xs) (hg : xs.all It.good = true) (hfull : ¬ (total xs : Int) ≤ room) :
    Calls Try.prog 8 #[.slice a n cap, .int .i64 room] w fun e w' => e = .returned (.tuple #[.slice none 0 0, .int .i64 7]) ∧ Below w.heap.size w w' := lay_full a n cap xs room hr0 hr hn63 w h hg hfull
set_option maxRecDepth 4000 in
set_option maxHeartbeats 4000000 in
theorem walk (a0 : Option Addr) (len0 cap0 : Nat) (z0 : List It) (a1 : Int) (w : World) (hw0 : RawAt w a0 len0 z0) (hw1 : (Lit.int .i64 a1).wf = true) :
    Calls Try.prog 3 #[.slice a0 len0 cap0, .int .i64 a1] w fun e w' => e = .returned (.bool true) ∧ Below w.heap.size w w' := by
  have HR := hide hw0
  have k1 := wf_i64 hw1
  have ca := hide (awake_any take_is)
  have hln : len0 = z0.length := HR.out.len
  have HL := hide hln
  clear hw0 hw1 hln
  go_enter Try.func3, Try.ntmps3
  go_wp2_with fail
  refine (ca.out _).mono ?_
  rintro r w1 ⟨rfl, h1⟩
  have A := hide h1
  clear h1 ca
  by_cases c1 : 20 < len0
  · have c1' : ((20 : Int) < (len0 : Int)) = True := eq_true (by omega)
    clear c1
    go_wp2
    go_ret
    exact ⟨rfl, A.out⟩
  have c1' : ((20 : Int) < (len0 : Int)) = False := eq_false (by omega)
  by_cases c2 : a1 < 0
  · have c2' : (a1 < 0) = True := eq_true c2
    clear c1 c2
    go_wp2
    go_ret
    exact ⟨rfl, A.out⟩
  have c2' : (a1 < 0) = False := eq_false c2
  by_cases c3 : 100 < a1
  · have c3' : ((100 : Int) < a1) = True := eq_true c3
    clear c1 c2 c3
    go_wp2
    go_ret
    exact ⟨rfl, A.out⟩
  have c3' : ((100 : Int) < a1) = False := eq_false c3
  obtain ⟨m, rfl⟩ : ∃ m : Nat, a1 = (m : Int) := ⟨a1.toNat, by omega⟩
  have M1 : Hid (m ≤ 100) := by show _ ≤ _; omega
  have L1 : Hid (len0 ≤ 20) := by show _ ≤ _; omega
  clear c1 c2 c3 k1
  go_wp2_with fail
  go_loopg [5, 6] len0 (fun kx s4 s5 wr => ∃ i T : Nat, s5 = .int .i64 i ∧ s4 = .int .i64 T ∧ i ≤ len0 ∧ len0 - i ≤ kx ∧ Hid (T = total (z0.take i) ∧ (z0.take i).all It.good = true ∧ Below w.heap.size w wr))
  case atStart => exact ⟨0, 0, rfl, rfl, Nat.zero_le _, by omega, rfl, rfl, A.out⟩
  case round =>
    obtain ⟨i, T, rfl, rfl, hin, hg, I⟩ := hrel
    have TL : Hid (T ≤ 26120) := by
      have h1 := total_le _ I.out.2.1
      rw [← I.out.1, List.length_take] at h1
      show _ ≤ _
      have := L1.out
      omega
    by_cases hlt : i < len0
    · have hlt2 : (i : Int) < (len0 : Int) := by omega
      obtain ⟨x, hx⟩ : ∃ x, z0[i]? = some x := ⟨_, List.getElem?_eq_getElem (by rw [← HL.out]; exact hlt)⟩
      obtain ⟨b, o, rfl, hb, hcl⟩ := HR.out.cell i x hx
      have hc' := hcl.below I.out.2.2 hb
      have x0 := hc'.c0
      have x1 := hc'.c1
      have x2 := hc'.c2
      have x3 := hc'.c3
      have x4 := hc'.c4
      have cg := hide (refGood_it x)
      have AT := hide (all_take_succ z0 i x hx)
      have TT := hide (total_take_succ z0 i x hx)
      have HB := hide hb
      have HCL := hide hcl
      clear hc' hx hcl hb
      cases hgx : x.good with
      | false =>
        rw [hgx] at cg
        clear hgx
        go_wp2_with (go_at_call 6; refine (cg.out _).mono ?_; rintro r w2 ⟨rfl, h2⟩; have B2 := hide (I.out.2.2.trans (h2.mono I.out.2.2.size)); clear h2)
        go_ret
        exact ⟨rfl, B2.out⟩
      | true =>
        rw [hgx] at cg AT
        obtain ⟨q1, q2, q3, q4⟩ := x.good_iff.1 hgx
        have cz := hide (size_it x (by omega) (by omega))
        have XS : Hid (x.size ≤ 1306) := by show _ ≤ _; unfold It.size; omega
        clear hgx q1 q2 q3 q4
        go_wp2_with fail
        refine (cg.out _).mono ?_
        rintro r w2 ⟨rfl, h2⟩
        have B2 := hide (I.out.2.2.trans (h2.mono I.out.2.2.size))
        clear h2 cg x0 x1 x2 x3 x4
        have hc' := HCL.out.below B2.out HB.out
        have x0 := hc'.c0
        have x1 := hc'.c1
        have x2 := hc'.c2
        have x3 := hc'.c3
        have x4 := hc'.c4
        clear hc'
        have hw := hide (show wrap64 ((T : Int) + (x.size : Int)) = ((T + x.size : Nat) : Int) by have := XS.out; have := TL.out; unfold wrap64; omega)
        go_wp2_with (go_at_call 7; refine (cz.out _).mono ?_; rintro r w3 ⟨rfl, h3⟩; have B3 := hide (B2.out.trans (h3.mono B2.out.size)); clear h3)
        have hwi := hide (show wrap64 ((i : Int) + 1) = ((i + 1 : Nat) : Int) by have := L1.out; unfold wrap64; omega)
        go_roundg (len0 - (i + 1))
        case measure => omega
        case rel => exact ⟨i + 1, T + x.size, by rw [hwi.out], by rw [hw.out], by omega, by omega, by rw [TT.out, I.out.1], by rw [AT.out, I.out.2.1]; rfl, B3.out⟩
    · obtain rfl : i = len0 := by omega
      have hlt2 : ¬ (i : Int) < (i : Int) := by omega
      have hall : z0.all It.good = true := by have := I.out.2.1; rwa [HL.out, List.take_length] at this
      have hT : T = total z0 := by have := I.out.1; rwa [HL.out, List.take_length] at this
      have IT := hide (all_its (HR.out.below I.out.2.2) hall)
      have BI := hide I.out.2.2
      have hwa : wrap64 ((T : Int) + (m : Int)) = ((T + m : Nat) : Int) := by have := TL.out; have := M1.out; unfold wrap64; omega
      have hws : wrap64 ((T : Int) - 1) = (T : Int) - 1 := by have := TL.out; unfold wrap64; omega
      have cA := hide (fun W (h : Below wr.heap.size wr W) => lay_ok a0 i cap0 z0 (T + m) (by have := TL.out; have := M1.out; omega) (by have := L1.out; omega) W (IT.out.below h) hall (by omega))
      have cF := hide (fun W (h : Below wr.heap.size wr W) => lay_fullX a0 i cap0 z0 ((T : Int) - 1) (by omega) (by have := TL.out; omega) (by have := L1.out; omega) W (IT.out.below h) hall (by omega))
      have cB := hide (fun W (h : Below wr.heap.size wr W) => lay_ok a0 i cap0 z0 T (by have := TL.out; omega) (by have := L1.out; omega) W (IT.out.below h) hall (by omega))
      have HT := hide hT
      have HA := hide hall
      clear hall hT I
      go_wp2_with fail
      refine (cA.out _ (Below.refl _ _)).mono ?_
      clear cA
      rintro r w2 ⟨ga, rfl, _, ba, h2⟩
      have SA : Hid (BS w2 (some ⟨ga, 0, none⟩) (T + m) (T + m) (encs z0 ++ List.replicate m 0)) := by
        have e : T + m - total z0 = m := by rw [← HT.out]; omega
        rw [e] at ba
        exact buf_bs (buf_full ba) (by rw [List.length_append, encs_length, List.length_replicate, ← HT.out]) (Nat.le_refl _)
      have B2 := hide h2
      clear h2 ba hwa
      go_wp2_with fail
      refine (cF.out _ B2.out).mono ?_
      clear cF
      rintro r w3 ⟨rfl, h3⟩
      replace SA := hide (SA.out.later h3)
      replace B2 := hide (B2.out.trans (h3.mono B2.out.size))
      clear h3 hws
      go_wp2_with fail
      refine (cB.out _ B2.out).mono ?_
      clear cB
      rintro r w4 ⟨gb, rfl, _, bb, h4⟩
      have SB : Hid (BS w4 (some ⟨gb, 0, none⟩) T T (encs z0)) := by
        have e : T - total z0 = 0 := by rw [← HT.out]; omega
        rw [e] at bb
        exact buf_bs bb (by rw [encs_length, ← HT.out]) (Nat.le_refl _)
      replace SA := hide (SA.out.later h4)
      replace B2 := hide (B2.out.trans (h4.mono B2.out.size))
      clear h4 bb
      have cL := hide (list_any take_is _ _ _ _ (by have := TL.out; have := M1.out; omega) w4 SA.out)
      rw [lst_encs z0 _ (fun x hx => ⟨(IT.out.fits x hx).1, List.all_eq_true.1 HA.out x hx⟩) (by cases m <;> simp [take, ended, List.replicate_succ])] at cL
      go_wp2_with fail
      refine cL.out.mono ?_
      clear cL
      rintro r w5 ⟨h5, v, rfl, ho⟩
      obtain ⟨aL, kL, rfl, hi, _⟩ := own_its ho rfl IT.out.fits
      have II := hide hi
      replace SA := hide (SA.out.later h5)
      replace SB := hide (SB.out.later h5)
      replace B2 := hide (B2.out.trans (h5.mono B2.out.size))
      clear h5 ho hi
      have cI := hide (fun W (h : Below w5.heap.size w5 W) => items_same aL a0 z0.length kL cap0 z0 (by have := L1.out; have := HL.out; omega) W (II.out.below h) (by have := (IT.out.below B2.out).below h; rw [HL.out] at this; exact this))
      have SE : Hid (sl (encs z0 ++ List.replicate m 0) 0 T = encs z0) := sl_first _ _ _ (by rw [encs_length, HT.out])
      have SXB : Hid (∀ W : World, Below w5.heap.size w5 W → (convert 30 9 (.slice (some ⟨ga, 0, none⟩) T (T + m))).run Try.prog W = .ok (.string (txt (encs z0))) W ∧ (convert 30 9 (.slice (some ⟨gb, 0, none⟩) T T)).run Try.prog W = .ok (.string (txt (encs z0))) W) := fun W hW => by
        have := str_bs ((SA.out.sub 0 T 0 T (T + m) rfl (Nat.zero_le _) (by omega) rfl (by omega)).later hW) (fun h => by cases h)
        rw [SE.out] at this
        exact ⟨this, str_bs (SB.out.later hW) (fun h => by cases h)⟩
      have BX := hide (Below.refl w5.heap.size w5).drew
      have hz := HL.out
      subst hz
      have hTm : (T : Int) ≤ ((T + m : Nat) : Int) := by omega
      have hTm2 : ((T + m : Nat) : Int) = (T : Int) + (m : Int) := by omega
      have hTm3 : IntKind.i64.wrap ((T : Int) + (m : Int)) = (T : Int) + (m : Int) := by rw [IntKind.wrap_i64]; have := TL.out; have := M1.out; omega
      have hTm4 : (T : Int) ≤ (T : Int) + (m : Int) := by omega
      go_wp2_with fail
      generalize txt (encs z0) = sz at *
      clear SE
      go_region_held3 (fun W => (convert 30 9 (.slice (some ⟨ga, 0, none⟩) T (T + m))).run Try.prog W = .ok (.string sz) W ∧ (convert 30 9 (.slice (some ⟨gb, 0, none⟩) T T)).run Try.prog W = .ok (.string sz) W)
        (exact SXB.out _ BX.out)
        (first
          | (go_at_call 10; refine (cI.out _ BX.out).mono ?_; rintro r wx ⟨rfl, hx⟩; replace BX := hide (BX.out.trans (hx.mono BX.out.size)); clear hx))
      all_goals go_wp2
      all_goals (
        go_ret
        have h5 := BI.out.trans (B2.out.mono BI.out.size)
        exact ⟨rfl, h5.trans (BX.out.mono h5.size)⟩)
end Go.Proofs.Ytlmfdibncpbmjab.recRoom
