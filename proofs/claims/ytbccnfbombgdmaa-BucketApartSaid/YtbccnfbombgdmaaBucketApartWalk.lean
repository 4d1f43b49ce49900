/-
  BucketApart holds: what is done to keys of one bucket changes no other bucket.
-/
import Derived.WalkKit
import Derived.Below
import Derived.Test.YtbccnfbombgdmaaLaw8
import Derived.Test.YtbccnfbombgdmaaRItems
namespace Go.Proofs.Ytbccnfbombgdmaa.bucketApart
open Go.RowKit Go.Deep Math
set_option linter.unusedVariables false
set_option linter.unusedSimpArgs false

open Classical in
set_option maxRecDepth 8000 in
set_option maxHeartbeats 40000000 in
theorem walk (a0 : Option Addr) (len0 cap0 : Nat) (z0 : List It) (z1 : It) (w : World) (hw0 : RawAt w a0 len0 z0) (hw1 : z1.fits ∧ z1.key.length ≤ maxLen) :
    Calls Try.prog 6 #[.slice a0 len0 cap0, z1.val] w fun e w' => e = .returned (.bool true) ∧ Below w.heap.size w w' := by
  obtain ⟨hxf, hxk⟩ := hw1
  have HXF := hide hxf
  have HXK := hide hxk
  have hbx : Blk (w.alloc (.cells #[.string (txt z1.key), .string (txt z1.value), .int .u32 z1.flags, .int .i64 z1.exp, .int .u64 z1.ver] 36)) w.heap.size (itCells z1) 36 := Blk.new w _ 36
  have hbe : Below w.heap.size w (w.alloc (.cells #[.string (txt z1.key), .string (txt z1.value), .int .u32 z1.flags, .int .i64 z1.exp, .int .u64 z1.ver] 36)) := (Below.refl _ _).alloc (Nat.le_refl _) _
  have HW := hide (hw0.below hbe)
  have HLEN := hide hw0.len
  clear hw0 hxf hxk
  go_enter Try.func6, Try.ntmps6
  simp only [It.val, itV]
  go_wp2_with fail
  obtain ⟨w0, hw0⟩ : ∃ w0, w0 = w.alloc (.cells #[.string (txt z1.key), .string (txt z1.value), .int .u32 z1.flags, .int .i64 z1.exp, .int .u64 z1.ver] 36) := ⟨_, rfl⟩
  rw [← hw0] at hbx hbe HW ⊢
  obtain ⟨N, hN⟩ : ∃ N, N = w.heap.size := ⟨_, rfl⟩
  rw [← hN] at hbx ⊢
  have HBX := hide hbx
  have HBE := hide hbe
  clear hw0 hN hbx hbe
  have ca := hide (awake_any w0)
  refine ca.out.mono ?_
  rintro r w1 ⟨rfl, h1⟩
  have B1 := hide h1
  clear h1 ca
  by_cases e3 : 40 < len0
  · have e3' : ((40 : Int) < (len0 : Int)) = True := eq_true (by omega)
    clear e3
    go_wp2
    go_ret
    exact ⟨rfl, HBE.out.trans (B1.out.mono HBE.out.size)⟩
  have e3' : ((40 : Int) < (len0 : Int)) = False := eq_false (by omega)
  have hl40 : len0 ≤ 40 := by omega
  clear e3
  have cN := hide (new_law B1.out 4 (by omega) (by omega))
  go_wp2_with fail
  refine cN.out.mono ?_
  rintro e w2 ⟨d, F2, rfl, hl2, _⟩
  have L2 := hide hl2
  clear hl2 cN e3' B1
  have cO := hide (bu_open L2.out (Sure.fresh 4) 0 4 (by omega) (by omega) (by decide))
  go_wp2_with fail
  refine cO.out.mono ?_
  rintro e w3 ⟨s, S3, G3, rfl, hb3, _, _⟩
  obtain ⟨f3, hf3⟩ : ∃ f3, f3 = (fun k => (Dv.fresh 4).its (0 + k)) := ⟨_, rfl⟩
  obtain ⟨t3, ht3⟩ : ∃ t3, t3 = ((List.range 4).map (fun k => toldB ((Dv.fresh 4).its (0 + k)))) := ⟨_, rfl⟩
  rw [← hf3, ← ht3] at hb3
  have U3 := hide hb3
  have HH3 : Hid (Home 4 f3) := fun k hk x hx => by
    rw [hf3] at hx
    match k, hk with
    | 0, _ => cases hx
    | 1, _ => cases hx
    | 2, _ => cases hx
    | 3, _ => cases hx
  clear hb3 hf3 ht3 cO L2
  go_wp2_with fail
  go_loopg [9] len0 (fun kx s9 wr => ∃ i : Nat, s9 = .int .i64 i ∧ i ≤ len0 ∧ len0 - i ≤ kx ∧ Hid (∃ S f bs G, Bu w0 wr d s 0 4 S f bs G ∧ Home 4 f))
  case atStart => exact ⟨0, rfl, Nat.zero_le _, by omega, _, _, _, _, U3.out, HH3.out⟩
  case round =>
    obtain ⟨i, rfl, hin, hg, I⟩ := hrel
    obtain ⟨S, f, bs, G, hbu, hhm⟩ := I.out
    have U := hide hbu
    have HH := hide hhm
    clear I hbu hhm
    by_cases hlt : i < len0
    · have hlt2 : (i : Int) < (len0 : Int) := by omega
      obtain ⟨x, hx⟩ : ∃ x, z0[i]? = some x := ⟨_, List.getElem?_eq_getElem (by rw [← HLEN.out]; exact hlt)⟩
      obtain ⟨b, o, rfl, hb, hc⟩ := (HW.out.below U.out.bel).cell i x hx
      obtain ⟨c0, c1, c2, c3, c4⟩ := hc.vals
      have cP := hide (bu_any U.out x (HW.out.fits x (List.mem_of_getElem? hx)))
      clear hc hx hb
      go_wp2_with fail
      refine cP.out.mono ?_
      rintro e w4 ⟨va, vn, vc, er, rfl, S4, f4, bs4, G4, hb4, _, _, _, hor⟩
      have U4 := hide hb4
      have HH4 : Hid (Home 4 f4) := by
        rcases hor with ⟨_, rfl, _⟩ | ⟨_, _, _, rfl, _⟩
        · exact HH.out
        · exact HH.out.put x
      clear hb4 hor cP c0 c1 c2 c3 c4
      go_wp2
      go_roundg (len0 - (i + 1))
      case measure => omega
      case rel => exact ⟨i + 1, rfl, by omega, by omega, S4, f4, bs4, G4, U4.out, HH4.out⟩
    · obtain rfl : i = len0 := by omega
      have hlt2 : ¬ (i : Int) < (i : Int) := by omega
      have cI := hide (bu_items U.out)
      go_wp2_with fail
      refine cI.out.mono ?_
      rintro e w5 ⟨v, rfl, hr, S5, hb5, _, _⟩
      have hra := RowA.of_new U.out hr
      obtain ⟨la, lc, rfl⟩ := hr.sl
      obtain ⟨ma, hma⟩ : ∃ m, m = (allF 4 f).length := ⟨_, rfl⟩
      rw [← hma] at hra ⊢
      have HMA := hide hma
      have R5 := hide hra
      have U5 := hide hb5
      have OK5 := hide hb5.oks
      have X5 := HBX.out.same (hb5.bel.block N HBX.out.lt)
      have c0 := X5.cell (i := 0) rfl
      have c1 := X5.cell (i := 1) rfl
      have c2 := X5.cell (i := 2) rfl
      have c3 := X5.cell (i := 3) rfl
      have c4 := X5.cell (i := 4) rfl
      have cP := hide (bu_any hb5 z1 HXF.out)
      clear hr hra hb5 hma cI U X5
      go_wp2_with fail
      refine cP.out.mono ?_
      rintro e w6 ⟨va, vn, vc, er, rfl, S6, f6, bs6, G6, hb6, mv6, _, _, hor⟩
      have U6 := hide hb6
      have R6 := hide (R5.out.move mv6)
      have HOR : Hid ((er = 1 ∧ f6 = f) ∨ (er = 0 ∧ f6 = putF 4 f z1)) := by
        rcases hor with ⟨rfl, rfl, _⟩ | ⟨rfl, _, _, rfl, _⟩
        · exact .inl ⟨rfl, rfl⟩
        · exact .inr ⟨rfl, rfl⟩
      have X6 := HBX.out.same (hb6.bel.block N HBX.out.lt)
      clear c0 c1 c2 c3 c4
      have c0 := X6.cell (i := 0) rfl
      have cD := hide (bu_drop hb6 z1.key HXK.out)
      obtain ⟨dr, hdr⟩ : ∃ dr : Int, dr = (if (f6 (bkt z1.key 4)).filter (notKey z1.key) = f6 (bkt z1.key 4) then 5 else 0) := ⟨_, rfl⟩
      rw [← hdr] at cD
      clear hb6 mv6 hor cP X6 R5 U5 hdr
      go_wp2_with fail
      refine cD.out.mono ?_
      rintro e w7 ⟨rfl, S7, G7, hb7, mv7, _, _⟩
      have U7 := hide hb7
      have R7 := hide (R6.out.move mv7)
      clear hb7 mv7 cD c0 R6 U6
      have cI := hide (bu_items U7.out)
      go_wp2_with fail
      refine cI.out.mono ?_
      rintro e w8 ⟨v, rfl, hr, S8, hb8, _, mv8⟩
      obtain ⟨g, hg8⟩ : ∃ g, g = dropF 4 f6 z1.key := ⟨_, rfl⟩
      rw [← hg8] at hr hb8
      obtain ⟨lb, ld, rfl⟩ := hr.sl
      obtain ⟨mb, hmb⟩ : ∃ m, m = (allF 4 g).length := ⟨_, rfl⟩
      have OK8 := hide hb8.oks
      have hIb := (hr.its OK8.out.1)
      have R8 := R7.out.move mv8
      have hIa := (R8.row.its OK5.out.1)
      obtain ⟨lb', ld', hvb, hIb, _, _, _⟩ := hIb
      obtain ⟨la', lc', hva, hIa, _, _, _⟩ := hIa
      simp only [Value.slice.injEq] at hva hvb
      obtain ⟨rfl, hq9, rfl⟩ := hva
      clear hq9
      obtain ⟨rfl, hq9, rfl⟩ := hvb
      clear hq9
      rw [← hmb] at hIb ⊢
      rw [← HMA.out] at hIa
      have HMB := hide hmb
      have IA := hide hIa
      have IB := hide hIb
      have HBL := hide hb8.bel
      have HHG : Hid (Home 4 g ∧ (∀ k, k ≠ bkt z1.key 4 → g k = f k) ∧ (er = 0 ∨ (er = 1 ∧ mb ≤ ma))) := by
        rcases HOR.out with ⟨he, hf⟩ | ⟨he, hf⟩
        · rw [hf] at hg8
          refine ⟨by rw [hg8]; exact HH.out.drop _, fun k hk => by rw [hg8]; exact drop_other _ k hk, .inr ⟨he, ?_⟩⟩
          rw [hmb, HMA.out, hg8]
          exact drop_le _
        · rw [hf] at hg8
          exact ⟨by rw [hg8]; exact (HH.out.put _).drop _, fun k hk => by rw [hg8, drop_other _ k hk, put_other _ k hk], .inl he⟩
      have X8 := HBX.out.same (hb8.bel.block N HBX.out.lt)
      have c0 := X8.cell (i := 0) rfl
      have cH : Hid (Calls Try.prog 24 #[.string (txt z1.key)] w8 fun e w' => e = .returned (.int .u64 (Bl.hashK (txt z1.key))) ∧ w' = w8) := Bl.refHash_any (txt z1.key) w8 (by rw [txt_size]; exact HXK.out)
      have hkr := Bl.hashK_range (txt z1.key)
      have HSAME : Hid ((allF 4 g).filter (notAt (Bl.hashK (txt z1.key) % 4)) = (allF 4 f).filter (notAt (Bl.hashK (txt z1.key) % 4))) := others_same HH.out HHG.out.1 z1.key HHG.out.2.1
      obtain ⟨K, hK⟩ : ∃ K, K = Bl.hashK (txt z1.key) := ⟨_, rfl⟩
      rw [← hK] at cH hkr HSAME
      have hr0 := hkr.1
      have hr1 := hkr.2
      have hlb : Hid (ma ≤ 1000 ∧ mb ≤ 1000) := ⟨by have := total_len (allF 4 f); have := OK5.out.2; have := HMA.out; omega, by have := total_len (allF 4 g); have := OK8.out.2; omega⟩
      clear hr hb8 mv8 hmb hIa hIb R8 X8 cI hK hkr hg8 R7 U7
      go_wp2_with fail
      refine cH.out.mono ?_
      rintro e w9 ⟨rfl, hw9⟩
      obtain rfl : w8 = w9 := hw9.symm
      clear hw9 cH c0
      have cA := hide (others_any la ma lc (allF 4 f) (K % 4) hlb.out.1 w8 IA.out)
      go_wp2_with fail
      refine cA.out.mono ?_
      rintro e w10 ⟨pa, pn, pc, rfl, hpn, hrp, b10⟩
      have cB := hide (others_any lb mb ld (allF 4 g) (K % 4) hlb.out.2 w10 (IB.out.below b10))
      have HPN := hide hpn
      have RP := hide hrp
      have B10 := hide b10
      clear hpn hrp b10 cA
      go_wp2_with fail
      refine cB.out.mono ?_
      rintro e w11 ⟨qa, qn, qc, rfl, hqn, hrq, b11⟩
      rw [HSAME.out] at hqn hrq
      rw [← HPN.out] at hqn
      subst hqn
      have hrp := RP.out.below b11
      have hok : Oks ((allF 4 f).filter (notAt (K % 4))) := fun x hx => OK5.out.1 x (List.mem_filter.1 hx).1
      obtain ⟨qa', qc', hvq, hIq, _, _, _⟩ := hrq.its hok
      obtain ⟨pa', pc', hvp, hIp, _, _, _⟩ := hrp.its hok
      simp only [Value.slice.injEq] at hvq hvp
      obtain ⟨rfl, hq9, rfl⟩ := hvq
      clear hq9
      obtain ⟨rfl, hq9, rfl⟩ := hvp
      clear hq9
      rw [← HPN.out] at hIq hIp
      have cS := hide (items_same pa qa qn pc qc _ (by have := hIp.len; have := List.length_filter_le (notAt (K % 4)) (allF 4 f); have := hlb.out.1; have := HMA.out; omega) w11 hIp hIq)
      have B11 := hide ((HBL.out.trans (B10.out.mono HBL.out.size)).trans (b11.mono (Nat.le_trans HBL.out.size B10.out.size)))
      clear hrp hrq hok hIq hIp b11 cB
      go_wp2_with fail
      refine cS.out.mono ?_
      rintro e w12 ⟨rfl, b12⟩
      have B12 := hide (HBE.out.trans ((B11.out.trans (b12.mono B11.out.size)).mono HBE.out.size))
      clear b12 cS
      rcases HHG.out.2.2 with rfl | ⟨rfl, hle⟩
      · go_wp2
        go_ret
        exact ⟨rfl, B12.out⟩
      · have hle2 : ((mb : Int) ≤ (ma : Int)) := by omega
        clear hle
        go_wp2
        go_ret
        exact ⟨rfl, B12.out⟩
end Go.Proofs.Ytbccnfbombgdmaa.bucketApart
