/-
  BucketFirst holds: those that are left out are the ones that came first, and no more than must be.
-/
import Derived.WalkKit
import Derived.Below
import Derived.Test.YtbccnfbombgdmaaLaw8
import Derived.Test.YtbccnfbombgdmaaRItems
namespace Go.Proofs.Ytbccnfbombgdmaa.bucketFirst
open Go.RowKit Go.Deep Math
set_option linter.unusedVariables false
set_option linter.unusedSimpArgs false

theorem enter26 (args : Array Value) (w : World) : (callFunc 26 args).run Try.prog w = .ok (.enter 26 args) w := enters_of Try.func26 (by kernel_rfl) rfl args w
theorem total_mem : ∀ (xs : List It) (y : It), y ∈ xs → y.size ≤ total xs
  | x :: r, y, h => by
    have e : total (x :: r) = x.size + total r := rfl
    rcases List.mem_cons.1 h with rfl | h
    · omega
    · have := total_mem r y h; omega
theorem total_drop_le (xs : List It) (k : Nat) : total (xs.drop k) ≤ total xs := by
  have := total_append (xs.take k) (xs.drop k)
  rw [List.take_append_drop] at this
  omega
set_option maxRecDepth 8000 in
set_option maxHeartbeats 40000000 in
theorem walk (a0 : Option Addr) (len0 cap0 : Nat) (z0 : List It) (w : World) (hw0 : RawAt w a0 len0 z0) :
    Calls Try.prog 7 #[.slice a0 len0 cap0] w fun e w' => e = .returned (.bool true) ∧ Below w.heap.size w w' := by
  have ca := hide (awake_any w)
  have HW := hide hw0
  have HLEN := hide hw0.len
  clear hw0
  go_enter Try.func7, Try.ntmps7
  go_wp2_with fail
  refine ca.out.mono ?_
  rintro r w1 ⟨rfl, h1⟩
  have B1 := hide h1
  clear h1 ca
  by_cases e3 : 40 < len0
  · have e3' : ((40 : Int) < (len0 : Int)) = True := eq_true (by omega)
    clear e3
    go_wp2
    go_ret
    exact ⟨rfl, B1.out⟩
  have e3' : ((40 : Int) < (len0 : Int)) = False := eq_false (by omega)
  have hl40 : len0 ≤ 40 := by omega
  clear e3
  have cN := hide (new_law B1.out 1 (by omega) (by omega))
  go_wp2_with fail
  refine cN.out.mono ?_
  rintro e w2 ⟨d, F2, rfl, hl2, _⟩
  have L2 := hide hl2
  clear hl2 cN e3' B1
  have cO := hide (bu_open L2.out (Sure.fresh 1) 0 1 (by omega) (by omega) (by decide))
  go_wp2_with fail
  refine cO.out.mono ?_
  rintro e w3 ⟨s, S3, G3, rfl, hb3, _, _⟩
  obtain ⟨f3, hf3⟩ : ∃ f3, f3 = (fun k => (Dv.fresh 1).its (0 + k)) := ⟨_, rfl⟩
  obtain ⟨t3, ht3⟩ : ∃ t3, t3 = ((List.range 1).map (fun k => toldB ((Dv.fresh 1).its (0 + k)))) := ⟨_, rfl⟩
  rw [← hf3, ← ht3] at hb3
  have U3 := hide hb3
  clear hb3 hf3 ht3 cO L2
  go_wp2_with fail
  go_loopg [7] len0 (fun kx s7 wr => ∃ i : Nat, s7 = .int .i64 i ∧ i ≤ len0 ∧ len0 - i ≤ kx ∧ Hid (∃ S f bs G, Bu w wr d s 0 1 S f bs G))
  case atStart => exact ⟨0, rfl, Nat.zero_le _, by omega, _, _, _, _, U3.out⟩
  case round =>
    obtain ⟨i, rfl, hin, hg, I⟩ := hrel
    obtain ⟨S, f, bs, G, hbu⟩ := I.out
    have U := hide hbu
    clear I hbu U3
    by_cases hlt : i < len0
    · have hlt2 : (i : Int) < (len0 : Int) := by omega
      obtain ⟨x, hx⟩ : ∃ x, z0[i]? = some x := ⟨_, List.getElem?_eq_getElem (by rw [← HLEN.out]; exact hlt)⟩
      have HX := hide hx
      have HXF := hide (HW.out.fits x (List.mem_of_getElem? hx))
      obtain ⟨b, o, rfl, hb, hc⟩ := HW.out.cell i x hx
      have XW : Hid (∀ w', Below w.heap.size w w' → OneIt w' b (o + i * 5) x) := fun w' hb' => hc.below hb' hb
      clear hx hb hc
      have cI := hide (bu_items U.out)
      go_wp2_with fail
      refine cI.out.mono ?_
      rintro e w4 ⟨v, rfl, hr, S4, hb4, _, _⟩
      rw [allF_one] at hr
      have hok : Oks (f 0) ∧ total (f 0) ≤ 384 := by have := hb4.oks; rw [allF_one] at this; simpa using this
      obtain ⟨va, vc, rfl, hI, _, _, _⟩ := hr.its hok.1
      obtain ⟨vm, hvm⟩ : ∃ m, m = (f 0).length := ⟨_, rfl⟩
      rw [← hvm] at hI ⊢
      have cW := hide (without_any va vm vc (f 0) x.key (by have := total_len (f 0); omega) w4 hI)
      have HOK := hide hok
      have U4 := hide hb4
      obtain ⟨c0, c1, c2, c3, c4⟩ := (XW.out w4 hb4.bel).vals
      clear hr hb4 hok hI hvm cI U
      go_wp2_with fail
      refine cW.out.mono ?_
      rintro e w5 ⟨wa, wn, wc, rfl, hwn, hrw, b5⟩
      have hU5 := U4.out.below b5
      have R5 := hide (RowA.of hU5 hrw)
      have HWN := hide hwn
      have cP := hide (bu_any hU5 x HXF.out)
      clear c0 c1 c2 c3 c4
      obtain ⟨c0, c1, c2, c3, c4⟩ := (XW.out w5 hU5.bel).vals
      clear hwn hrw b5 cW hU5 U4
      go_wp2_with fail
      refine cP.out.mono ?_
      rintro e w6 ⟨oa, on, oc, er, rfl, S6, f6, bs6, G6, hb6, mv6, _, _, hor⟩
      clear c0 c1 c2 c3 c4 cP
      rcases hor with ⟨rfl, rfl, _, rfl, rfl, rfl, _⟩ | ⟨rfl, hxg, hxs, rfl, _, hon, hro⟩
      · have U6 := hide hb6
        clear hb6 mv6
        go_wp2
        go_roundg (len0 - (i + 1))
        case measure => omega
        case rel => exact ⟨i + 1, rfl, by omega, by omega, _, _, _, _, U6.out⟩
      · obtain ⟨fl, ov, hop⟩ := onePut f x hxs
        have hov : on = ov := by rw [hon, hop.out, List.length_take]; have := hop.ho; omega
        subst hov
        rw [hop.out] at hro
        have RO := hide (RowA.of hb6 hro)
        have R6 := hide (R5.out.move mv6)
        have HXG := hide hxg
        have HXS := hide hxs
        have OP := hide hop
        have U6 := hide hb6
        have cI := hide (bu_items hb6)
        clear hb6 mv6 hxg hxs hon hro hop R5
        go_wp2_with fail
        refine cI.out.mono ?_
        rintro e wA ⟨v, rfl, hr, S7, hb7, _, mv7⟩
        rw [OP.out.now] at hr
        have hR := R6.out.move mv7
        have hO := RO.out.move mv7
        have HFT : Hid (total fl ≤ 384) := by show _ ≤ _; rw [OP.out.hfl]; exact Nat.le_trans (total_filter _ _) HOK.out.2
        have HFO : Hid (Oks fl) := fun z hz => by rw [OP.out.hfl] at hz; exact HOK.out.1 z (List.mem_filter.1 hz).1
        have hxok : Oks [x] := fun z hz => by
          simp at hz
          have := good_sizes HXG.out
          rw [hz]
          exact ⟨HXF.out, by omega, by omega⟩
        obtain ⟨na, nc, rfl, hIN, _, _, _⟩ := hr.its (fun z hz => by
          rcases List.mem_append.1 hz with h1 | h1
          · exact HFO.out z (List.mem_of_mem_drop h1)
          · exact hxok z h1)
        obtain ⟨oa', oc', hvo, hIQ, _, _, _⟩ := hO.row.its (fun z hz => HFO.out z (List.mem_of_mem_take hz))
        simp only [Value.slice.injEq] at hvo
        obtain ⟨rfl, hq9, rfl⟩ := hvo
        clear hq9
        have hwl : wn = fl.length := by rw [HWN.out, OP.out.hfl]
        have hrow : Row wA w4.heap.size (.slice wa wn wc) fl := by have := hR.row; rw [← OP.out.hfl] at this; exact this
        have hol : (fl.take on).length = on := by rw [List.length_take]; have := OP.out.ho; omega
        rw [hol] at hIQ
        obtain ⟨nn, hnn⟩ : ∃ nn, nn = (fl.drop on ++ [x]).length := ⟨_, rfl⟩
        rw [← hnn] at hIN ⊢
        have hnl : nn = wn - on + 1 := by rw [hnn, hwl]; simp
        have hole : on ≤ wn := by rw [hwl]; exact OP.out.ho
        have hfl12 : wn ≤ 12 := by rw [hwl]; have := total_len fl; have := HFT.out; omega
        obtain ⟨m, hm⟩ : ∃ m, m = wn - on := ⟨_, rfl⟩
        have hxm : (fl.drop on ++ [x])[m]? = some x := by
          rw [List.getElem?_append_right (by rw [List.length_drop, hm, hwl]; exact Nat.le_refl _)]
          rw [List.length_drop, hm, hwl, Nat.sub_self]
          rfl
        obtain ⟨nb, no, rfl, hnb, hnc⟩ := hIN.cell m x hxm
        have XN : Hid (∀ w', Below wA.heap.size wA w' → OneIt w' nb (no + m * 5) x) := fun w' hb => hnc.below hb hnb
        have XL : Hid (∀ w', Below wA.heap.size wA w' → OneIt w' b (o + i * 5) x) := fun w' hb => XW.out w' (hb7.bel.trans (hb.mono hb7.bel.size))
        have IQ := hide hIQ
        have IN := hide hIN
        have UA := hide hb7
        obtain ⟨s4, h4⟩ : ∃ s4 : Int, IntKind.i64.wrap ((on : Int) + (nn : Int)) = s4 := ⟨_, rfl⟩
        have h7 : IntKind.i64.wrap ((wn : Int) + 1) = s4 := by rw [← h4]; congr 1; omega
        have h22 : IntKind.i64.wrap ((nn : Int) - 1) = (m : Int) := by rw [IntKind.wrap_i64, show (nn : Int) - 1 = (m : Int) by omega]; omega
        have hmn : (m : Int) < (nn : Int) := by omega
        have hnn13 : nn ≤ 13 := by omega
        have DR : Hid (Below wA.heap.size wA { wA with drawn := wA.drawn + 1 }) := ⟨rfl, rfl, rfl, Nat.le_refl _, fun _ _ => rfl⟩
        have IT : Hid (fl.take on = fl.take on) := rfl
        rcases hrow.form with ⟨hnil, hfl0⟩ | ⟨wb, wcap, pad, hsome, _, hwb, hwc, hwm, hwp⟩
        · simp only [Value.slice.injEq] at hnil
          obtain ⟨rfl, rfl, rfl⟩ := hnil
          obtain rfl : on = 0 := by omega
          have cS : Hid (∀ W, Below wA.heap.size wA W → Calls Try.prog 23 #[.slice oa 0 oc, .slice none 0 0] W fun e w' => e = .returned (.bool true) ∧ Below wA.heap.size wA w') := fun W hW => by
            refine (items_same oa none 0 oc 0 [] (by omega) W ⟨rfl, fun z hz => by simp at hz, fun j z hz => by simp at hz⟩ ⟨rfl, fun z hz => by simp at hz, fun j z hz => by simp at hz⟩).mono ?_
            rintro e w' ⟨rfl, b⟩
            exact ⟨rfl, hW.trans (b.mono hW.size)⟩
          simp at h4 h7
          clear hr hb7 mv7 hR hO hxok hIN hIQ hwl hrow hol hnn hnl hole hm hxm hnb hnc hfl0 cI R6 RO U6
          go_wp2_with fail
          refine wp_region_guard (by kernel_rfl) (by kernel_rfl) (fun jx => ([.slice oa 0 oc, .int .i64 0, .slice (some ⟨nb, no, none⟩) nn nc, .int .i64 (nn : Int), .int .i64 s4, .slice none 0 0, .int .i64 0, .int .i64 s4, .bool false, .bool false, .slice oa 0 oc, .slice none 0 0, .slice oa 0 oc, .int .i64 0, .slice none 0 0, .bool true, .bool false, .bool false, .bool false, .slice (some ⟨nb, no, none⟩) nn nc, .slice (some ⟨nb, no, none⟩) nn nc, .int .i64 (nn : Int), .int .i64 (m : Int), .pointer (some ⟨nb, no + m * 5, none⟩), .agg #[.string (txt x.key), .string (txt x.value), .int .u32 x.flags, .int .i64 x.exp, .int .u64 x.ver], .slice (some ⟨b, o, none⟩) len0 cap0, .int .i64 (i : Int), .pointer (some ⟨b, o + i * 5, none⟩), .agg #[.string (txt x.key), .string (txt x.value), .int .u32 x.flags, .int .i64 x.exp, .int .u64 x.ver], .bool false, .bool false] : List Value).getD jx undef) (fun W => Below wA.heap.size wA W) (size_of (n := 122) (by kernel_rfl) rfl) (DR.out) ?_ ?_
          · intro jx ox hi w' ev hc hin hout hcst hfn
            have hltx : jx < 31 := by
              have := (Array.getElem?_eq_some_iff.1 hi).1
              simpa using this
            match jx, hltx with
            | 0, _ =>
              simp only [List.getElem?_toArray, List.getElem?_cons_zero, List.getElem?_cons_succ, Option.some.injEq] at hi
              subst hi
              rw [if_pos (by first | rfl | simp [wantV])]
              have e0 : ev (.tmp 10) = .slice oa 0 oc := hout 10 (by kernel_rfl) (show (10 : Nat) < 122 by decide)
              refine .inl ⟨w', ?_, hc⟩
              show _ = Result.ok (Next.value (.slice oa 0 oc)) w'
              simp [execOp, e0, hcst, go_sem]
            | 1, _ =>
              simp only [List.getElem?_toArray, List.getElem?_cons_zero, List.getElem?_cons_succ, Option.some.injEq] at hi
              subst hi
              rw [if_pos (by first | rfl | simp [wantV])]
              have e0 : ev (.tmp 64) = .slice oa 0 oc := hin 64 0 ⟨0, .data⟩ (by kernel_rfl) (by simp) rfl rfl (show (64 : Nat) < 122 by decide)
              refine .inl ⟨w', ?_, hc⟩
              show _ = Result.ok (Next.value (.int .i64 0)) w'
              simp [execOp, e0, hcst, go_sem]
            | 2, _ =>
              simp only [List.getElem?_toArray, List.getElem?_cons_zero, List.getElem?_cons_succ, Option.some.injEq] at hi
              subst hi
              rw [if_pos (by first | rfl | simp [wantV])]
              have e0 : ev (.tmp 12) = .slice (some ⟨nb, no, none⟩) nn nc := hout 12 (by kernel_rfl) (show (12 : Nat) < 122 by decide)
              refine .inl ⟨w', ?_, hc⟩
              show _ = Result.ok (Next.value (.slice (some ⟨nb, no, none⟩) nn nc)) w'
              simp [execOp, e0, hcst, go_sem]
            | 3, _ =>
              simp only [List.getElem?_toArray, List.getElem?_cons_zero, List.getElem?_cons_succ, Option.some.injEq] at hi
              subst hi
              rw [if_pos (by first | rfl | simp [wantV])]
              have e0 : ev (.tmp 66) = .slice (some ⟨nb, no, none⟩) nn nc := hin 66 2 ⟨2, .data⟩ (by kernel_rfl) (by simp) rfl rfl (show (66 : Nat) < 122 by decide)
              refine .inl ⟨w', ?_, hc⟩
              show _ = Result.ok (Next.value (.int .i64 (nn : Int))) w'
              simp [execOp, e0, hcst, go_sem]
            | 4, _ =>
              simp only [List.getElem?_toArray, List.getElem?_cons_zero, List.getElem?_cons_succ, Option.some.injEq] at hi
              subst hi
              rw [if_pos (by first | rfl | simp [wantV])]
              have e0 : ev (.tmp 65) = .int .i64 0 := hin 65 1 ⟨1, .data⟩ (by kernel_rfl) (by simp) rfl rfl (show (65 : Nat) < 122 by decide)
              have e1 : ev (.tmp 67) = .int .i64 (nn : Int) := hin 67 3 ⟨3, .data⟩ (by kernel_rfl) (by simp) rfl rfl (show (67 : Nat) < 122 by decide)
              refine .inl ⟨w', ?_, hc⟩
              show _ = Result.ok (Next.value (.int .i64 s4)) w'
              simp [execOp, e0, e1, hcst, go_sem, h4]
            | 5, _ =>
              simp only [List.getElem?_toArray, List.getElem?_cons_zero, List.getElem?_cons_succ, Option.some.injEq] at hi
              subst hi
              rw [if_pos (by first | rfl | simp [wantV])]
              have e0 : ev (.tmp 8) = .slice none 0 0 := hout 8 (by kernel_rfl) (show (8 : Nat) < 122 by decide)
              refine .inl ⟨w', ?_, hc⟩
              show _ = Result.ok (Next.value (.slice none 0 0)) w'
              simp [execOp, e0, hcst, go_sem]
            | 6, _ =>
              simp only [List.getElem?_toArray, List.getElem?_cons_zero, List.getElem?_cons_succ, Option.some.injEq] at hi
              subst hi
              rw [if_pos (by first | rfl | simp [wantV])]
              have e0 : ev (.tmp 69) = .slice none 0 0 := hin 69 5 ⟨5, .data⟩ (by kernel_rfl) (by simp) rfl rfl (show (69 : Nat) < 122 by decide)
              refine .inl ⟨w', ?_, hc⟩
              show _ = Result.ok (Next.value (.int .i64 0)) w'
              simp [execOp, e0, hcst, go_sem]
            | 7, _ =>
              simp only [List.getElem?_toArray, List.getElem?_cons_zero, List.getElem?_cons_succ, Option.some.injEq] at hi
              subst hi
              rw [if_pos (by first | rfl | simp [wantV])]
              have e0 : ev (.tmp 70) = .int .i64 0 := hin 70 6 ⟨6, .data⟩ (by kernel_rfl) (by simp) rfl rfl (show (70 : Nat) < 122 by decide)
              refine .inl ⟨w', ?_, hc⟩
              show _ = Result.ok (Next.value (.int .i64 s4)) w'
              simp [execOp, e0, hcst, go_sem, h7]
            | 8, _ =>
              simp only [List.getElem?_toArray, List.getElem?_cons_zero, List.getElem?_cons_succ, Option.some.injEq] at hi
              subst hi
              rw [if_pos (by first | rfl | simp [wantV])]
              have e0 : ev (.tmp 68) = .int .i64 s4 := hin 68 4 ⟨4, .data⟩ (by kernel_rfl) (by simp) rfl rfl (show (68 : Nat) < 122 by decide)
              have e1 : ev (.tmp 71) = .int .i64 s4 := hin 71 7 ⟨7, .data⟩ (by kernel_rfl) (by simp) rfl rfl (show (71 : Nat) < 122 by decide)
              refine .inl ⟨w', ?_, hc⟩
              show _ = Result.ok (Next.value (.bool false)) w'
              simp [execOp, e0, e1, hcst, go_sem]
            | 9, _ =>
              simp only [List.getElem?_toArray, List.getElem?_cons_zero, List.getElem?_cons_succ, Option.some.injEq] at hi
              subst hi
              rw [if_pos (by first | rfl | simp [wantV])]
              have e0 : ev (.tmp 72) = .bool false := hin 72 8 ⟨8, .data⟩ (by kernel_rfl) (by simp) rfl rfl (show (72 : Nat) < 122 by decide)
              refine .inl ⟨w', ?_, hc⟩
              show _ = Result.ok (Next.value (.bool false)) w'
              simp [execOp, e0, hcst, go_sem]
            | 10, _ =>
              simp only [List.getElem?_toArray, List.getElem?_cons_zero, List.getElem?_cons_succ, Option.some.injEq] at hi
              subst hi
              rw [if_pos (by first | rfl | simp [wantV])]
              have e0 : ev (.tmp 10) = .slice oa 0 oc := hout 10 (by kernel_rfl) (show (10 : Nat) < 122 by decide)
              refine .inl ⟨w', ?_, hc⟩
              show _ = Result.ok (Next.value (.slice oa 0 oc)) w'
              simp [execOp, e0, hcst, go_sem]
            | 11, _ =>
              simp only [List.getElem?_toArray, List.getElem?_cons_zero, List.getElem?_cons_succ, Option.some.injEq] at hi
              subst hi
              rw [if_pos (by first | rfl | simp [wantV])]
              have e0 : ev (.tmp 8) = .slice none 0 0 := hout 8 (by kernel_rfl) (show (8 : Nat) < 122 by decide)
              refine .inl ⟨w', ?_, hc⟩
              show _ = Result.ok (Next.value (.slice none 0 0)) w'
              simp [execOp, e0, hcst, go_sem]
            | 12, _ =>
              simp only [List.getElem?_toArray, List.getElem?_cons_zero, List.getElem?_cons_succ, Option.some.injEq] at hi
              subst hi
              rw [if_pos (by first | rfl | simp [wantV])]
              have e0 : ev (.tmp 10) = .slice oa 0 oc := hout 10 (by kernel_rfl) (show (10 : Nat) < 122 by decide)
              refine .inl ⟨w', ?_, hc⟩
              show _ = Result.ok (Next.value (.slice oa 0 oc)) w'
              simp [execOp, e0, hcst, go_sem]
            | 13, _ =>
              simp only [List.getElem?_toArray, List.getElem?_cons_zero, List.getElem?_cons_succ, Option.some.injEq] at hi
              subst hi
              rw [if_pos (by first | rfl | simp [wantV])]
              have e0 : ev (.tmp 76) = .slice oa 0 oc := hin 76 12 ⟨12, .data⟩ (by kernel_rfl) (by simp) rfl rfl (show (76 : Nat) < 122 by decide)
              refine .inl ⟨w', ?_, hc⟩
              show _ = Result.ok (Next.value (.int .i64 0)) w'
              simp [execOp, e0, hcst, go_sem]
            | 14, _ =>
              simp only [List.getElem?_toArray, List.getElem?_cons_zero, List.getElem?_cons_succ, Option.some.injEq] at hi
              subst hi
              rw [if_pos (by first | rfl | simp [wantV])]
              have e0 : ev (.tmp 75) = .slice none 0 0 := hin 75 11 ⟨11, .data⟩ (by kernel_rfl) (by simp) rfl rfl (show (75 : Nat) < 122 by decide)
              have e1 : ev (.tmp 77) = .int .i64 0 := hin 77 13 ⟨13, .data⟩ (by kernel_rfl) (by simp) rfl rfl (show (77 : Nat) < 122 by decide)
              refine .inl ⟨w', ?_, hc⟩
              show _ = Result.ok (Next.value (.slice none 0 0)) w'
              simp only [execOp, e0, e1, hcst]
              go_simp
            | 15, _ =>
              simp only [List.getElem?_toArray, List.getElem?_cons_zero, List.getElem?_cons_succ, Option.some.injEq] at hi
              subst hi
              rw [if_pos (by first | rfl | simp [wantV])]
              have e0 : ev (.tmp 74) = .slice oa 0 oc := hin 74 10 ⟨10, .data⟩ (by kernel_rfl) (by simp) rfl rfl (show (74 : Nat) < 122 by decide)
              have e1 : ev (.tmp 78) = .slice none 0 0 := hin 78 14 ⟨14, .data⟩ (by kernel_rfl) (by simp) rfl rfl (show (78 : Nat) < 122 by decide)
              refine .inr (.inr ⟨23, #[.slice oa 0 oc, .slice none 0 0], ?_, ?_⟩)
              · have ef := hfn 23
                simp [execOp, resolve, invoke, ef, hcst, e0, e1, Result.andThen]
                exact enter23 _ _
              · exact cS.out w' hc
            | 16, _ =>
              simp only [List.getElem?_toArray, List.getElem?_cons_zero, List.getElem?_cons_succ, Option.some.injEq] at hi
              subst hi
              rw [if_pos (by first | rfl | simp [wantV])]
              have e0 : ev (.tmp 79) = .bool true := hin 79 15 ⟨15, .data⟩ (by kernel_rfl) (by simp) rfl rfl (show (79 : Nat) < 122 by decide)
              refine .inl ⟨w', ?_, hc⟩
              show _ = Result.ok (Next.value (.bool false)) w'
              simp [execOp, e0, hcst, go_sem]
            | 17, _ =>
              simp only [List.getElem?_toArray, List.getElem?_cons_zero, List.getElem?_cons_succ, Option.some.injEq] at hi
              subst hi
              rw [if_pos (by first | rfl | simp [wantV])]
              have e0 : ev (.tmp 73) = .bool false := hin 73 9 ⟨9, .data⟩ (by kernel_rfl) (by simp) rfl rfl (show (73 : Nat) < 122 by decide)
              have e1 : ev (.tmp 80) = .bool false := hin 80 16 ⟨16, .data⟩ (by kernel_rfl) (by simp) rfl rfl (show (80 : Nat) < 122 by decide)
              refine .inl ⟨w', ?_, hc⟩
              show _ = Result.ok (Next.value (.bool false)) w'
              simp [execOp, e0, e1, hcst, go_sem]
            | 18, _ =>
              simp only [List.getElem?_toArray, List.getElem?_cons_zero, List.getElem?_cons_succ, Option.some.injEq] at hi
              subst hi
              rw [if_pos (by first | rfl | simp [wantV])]
              have e0 : ev (.tmp 81) = .bool false := hin 81 17 ⟨17, .data⟩ (by kernel_rfl) (by simp) rfl rfl (show (81 : Nat) < 122 by decide)
              refine .inl ⟨w', ?_, hc⟩
              show _ = Result.ok (Next.value (.bool false)) w'
              simp [execOp, e0, hcst, go_sem]
            | 19, _ =>
              simp only [List.getElem?_toArray, List.getElem?_cons_zero, List.getElem?_cons_succ, Option.some.injEq] at hi
              subst hi
              rw [if_pos (by first | rfl | simp [wantV])]
              have e0 : ev (.tmp 12) = .slice (some ⟨nb, no, none⟩) nn nc := hout 12 (by kernel_rfl) (show (12 : Nat) < 122 by decide)
              refine .inl ⟨w', ?_, hc⟩
              show _ = Result.ok (Next.value (.slice (some ⟨nb, no, none⟩) nn nc)) w'
              simp [execOp, e0, hcst, go_sem]
            | 20, _ =>
              simp only [List.getElem?_toArray, List.getElem?_cons_zero, List.getElem?_cons_succ, Option.some.injEq] at hi
              subst hi
              rw [if_pos (by first | rfl | simp [wantV])]
              have e0 : ev (.tmp 12) = .slice (some ⟨nb, no, none⟩) nn nc := hout 12 (by kernel_rfl) (show (12 : Nat) < 122 by decide)
              refine .inl ⟨w', ?_, hc⟩
              show _ = Result.ok (Next.value (.slice (some ⟨nb, no, none⟩) nn nc)) w'
              simp [execOp, e0, hcst, go_sem]
            | 21, _ =>
              simp only [List.getElem?_toArray, List.getElem?_cons_zero, List.getElem?_cons_succ, Option.some.injEq] at hi
              subst hi
              rw [if_pos (by first | rfl | simp [wantV])]
              have e0 : ev (.tmp 84) = .slice (some ⟨nb, no, none⟩) nn nc := hin 84 20 ⟨20, .data⟩ (by kernel_rfl) (by simp) rfl rfl (show (84 : Nat) < 122 by decide)
              refine .inl ⟨w', ?_, hc⟩
              show _ = Result.ok (Next.value (.int .i64 (nn : Int))) w'
              simp [execOp, e0, hcst, go_sem]
            | 22, _ =>
              simp only [List.getElem?_toArray, List.getElem?_cons_zero, List.getElem?_cons_succ, Option.some.injEq] at hi
              subst hi
              rw [if_pos (by first | rfl | simp [wantV])]
              have e0 : ev (.tmp 85) = .int .i64 (nn : Int) := hin 85 21 ⟨21, .data⟩ (by kernel_rfl) (by simp) rfl rfl (show (85 : Nat) < 122 by decide)
              refine .inl ⟨w', ?_, hc⟩
              show _ = Result.ok (Next.value (.int .i64 (m : Int))) w'
              simp [execOp, e0, hcst, go_sem, h22]
            | 23, _ =>
              simp only [List.getElem?_toArray, List.getElem?_cons_zero, List.getElem?_cons_succ, Option.some.injEq] at hi
              subst hi
              rw [if_pos (by first | rfl | simp [wantV])]
              have e0 : ev (.tmp 83) = .slice (some ⟨nb, no, none⟩) nn nc := hin 83 19 ⟨19, .data⟩ (by kernel_rfl) (by simp) rfl rfl (show (83 : Nat) < 122 by decide)
              have e1 : ev (.tmp 86) = .int .i64 (m : Int) := hin 86 22 ⟨22, .data⟩ (by kernel_rfl) (by simp) rfl rfl (show (86 : Nat) < 122 by decide)
              refine .inl ⟨w', ?_, hc⟩
              show _ = Result.ok (Next.value (.pointer (some ⟨nb, no + m * 5, none⟩))) w'
              simp only [execOp, e0, e1, hcst]
              go_simp
            | 24, _ =>
              simp only [List.getElem?_toArray, List.getElem?_cons_zero, List.getElem?_cons_succ, Option.some.injEq] at hi
              subst hi
              rw [if_pos (by first | rfl | simp [wantV])]
              have e0 : ev (.tmp 87) = .pointer (some ⟨nb, no + m * 5, none⟩) := hin 87 23 ⟨23, .data⟩ (by kernel_rfl) (by simp) rfl rfl (show (87 : Nat) < 122 by decide)
              refine .inl ⟨w', ?_, hc⟩
              show _ = Result.ok (Next.value (.agg #[.string (txt x.key), .string (txt x.value), .int .u32 x.flags, .int .i64 x.exp, .int .u64 x.ver])) w'
              obtain ⟨y0, y1, y2, y3, y4⟩ := (XN.out w' hc).vals
              simp only [execOp, e0]
              go_simp
            | 25, _ =>
              simp only [List.getElem?_toArray, List.getElem?_cons_zero, List.getElem?_cons_succ, Option.some.injEq] at hi
              subst hi
              rw [if_pos (by first | rfl | simp [wantV])]
              have e0 : ev (.tmp 0) = .slice (some ⟨b, o, none⟩) len0 cap0 := hout 0 (by kernel_rfl) (show (0 : Nat) < 122 by decide)
              refine .inl ⟨w', ?_, hc⟩
              show _ = Result.ok (Next.value (.slice (some ⟨b, o, none⟩) len0 cap0)) w'
              simp [execOp, e0, hcst, go_sem]
            | 26, _ =>
              simp only [List.getElem?_toArray, List.getElem?_cons_zero, List.getElem?_cons_succ, Option.some.injEq] at hi
              subst hi
              rw [if_pos (by first | rfl | simp [wantV])]
              have e0 : ev (.tmp 7) = .int .i64 (i : Int) := hout 7 (by kernel_rfl) (show (7 : Nat) < 122 by decide)
              refine .inl ⟨w', ?_, hc⟩
              show _ = Result.ok (Next.value (.int .i64 (i : Int))) w'
              simp [execOp, e0, hcst, go_sem]
            | 27, _ =>
              simp only [List.getElem?_toArray, List.getElem?_cons_zero, List.getElem?_cons_succ, Option.some.injEq] at hi
              subst hi
              rw [if_pos (by first | rfl | simp [wantV])]
              have e0 : ev (.tmp 89) = .slice (some ⟨b, o, none⟩) len0 cap0 := hin 89 25 ⟨25, .data⟩ (by kernel_rfl) (by simp) rfl rfl (show (89 : Nat) < 122 by decide)
              have e1 : ev (.tmp 90) = .int .i64 (i : Int) := hin 90 26 ⟨26, .data⟩ (by kernel_rfl) (by simp) rfl rfl (show (90 : Nat) < 122 by decide)
              refine .inl ⟨w', ?_, hc⟩
              show _ = Result.ok (Next.value (.pointer (some ⟨b, o + i * 5, none⟩))) w'
              simp only [execOp, e0, e1, hcst]
              go_simp
            | 28, _ =>
              simp only [List.getElem?_toArray, List.getElem?_cons_zero, List.getElem?_cons_succ, Option.some.injEq] at hi
              subst hi
              rw [if_pos (by first | rfl | simp [wantV])]
              have e0 : ev (.tmp 91) = .pointer (some ⟨b, o + i * 5, none⟩) := hin 91 27 ⟨27, .data⟩ (by kernel_rfl) (by simp) rfl rfl (show (91 : Nat) < 122 by decide)
              refine .inl ⟨w', ?_, hc⟩
              show _ = Result.ok (Next.value (.agg #[.string (txt x.key), .string (txt x.value), .int .u32 x.flags, .int .i64 x.exp, .int .u64 x.ver])) w'
              obtain ⟨y0, y1, y2, y3, y4⟩ := (XL.out w' hc).vals
              simp only [execOp, e0]
              go_simp
            | 29, _ =>
              simp only [List.getElem?_toArray, List.getElem?_cons_zero, List.getElem?_cons_succ, Option.some.injEq] at hi
              subst hi
              rw [if_pos (by first | rfl | simp [wantV])]
              have e0 : ev (.tmp 88) = .agg #[.string (txt x.key), .string (txt x.value), .int .u32 x.flags, .int .i64 x.exp, .int .u64 x.ver] := hin 88 24 ⟨24, .data⟩ (by kernel_rfl) (by simp) rfl rfl (show (88 : Nat) < 122 by decide)
              have e1 : ev (.tmp 92) = .agg #[.string (txt x.key), .string (txt x.value), .int .u32 x.flags, .int .i64 x.exp, .int .u64 x.ver] := hin 92 28 ⟨28, .data⟩ (by kernel_rfl) (by simp) rfl rfl (show (92 : Nat) < 122 by decide)
              refine .inl ⟨w', ?_, hc⟩
              show _ = Result.ok (Next.value (.bool false)) w'
              simp [execOp, e0, e1, hcst, go_sem]
            | 30, _ =>
              simp only [List.getElem?_toArray, List.getElem?_cons_zero, List.getElem?_cons_succ, Option.some.injEq] at hi
              subst hi
              rw [if_pos (by first | rfl | simp [wantV])]
              have e0 : ev (.tmp 82) = .bool false := hin 82 18 ⟨18, .data⟩ (by kernel_rfl) (by simp) rfl rfl (show (82 : Nat) < 122 by decide)
              have e1 : ev (.tmp 93) = .bool false := hin 93 29 ⟨29, .data⟩ (by kernel_rfl) (by simp) rfl rfl (show (93 : Nat) < 122 by decide)
              refine .inl ⟨w', ?_, hc⟩
              show _ = Result.ok (Next.value (.bool false)) w'
              simp [execOp, e0, e1, hcst, go_sem]
          · intro w7 hc
            simp only [lexF, Act.put, List.setIfInBounds_toArray, List.set_cons_succ, List.set_cons_zero, List.getD_cons_succ, List.getD_cons_zero]
            have BB := hide hc
            have UB := hide (UA.out.below hc)
            obtain ⟨wB, hwB⟩ : ∃ wB, wB = w7 := ⟨_, rfl⟩
            rw [← hwB] at BB UB ⊢
            clear hc hwB DR cS
            have DB : Hid (Below wB.heap.size wB { wB with drawn := wB.drawn + 1 }) := ⟨rfl, rfl, rfl, Nat.le_refl _, fun _ _ => rfl⟩
            go_wp2_with fail
            refine wp_region_guard (by kernel_rfl) (by kernel_rfl) (fun jx => ([.slice oa 0 oc, .int .i64 0, .bool false, .bool false, undef, undef, undef, undef, undef, undef, undef, undef, undef, undef, undef, undef, undef, undef, undef, undef, undef, undef, undef, undef, undef, undef, .bool false] : List Value).getD jx undef) (fun W => Below wB.heap.size wB W) (size_of (n := 122) (by kernel_rfl) rfl) (DB.out) ?_ ?_
            · intro jx ox hi w' ev hc hin hout hcst hfn
              have hltx : jx < 27 := by
                have := (Array.getElem?_eq_some_iff.1 hi).1
                simpa using this
              match jx, hltx with
              | 0, _ =>
                simp only [List.getElem?_toArray, List.getElem?_cons_zero, List.getElem?_cons_succ, Option.some.injEq] at hi
                subst hi
                rw [if_pos (by first | rfl | simp [wantV])]
                have e0 : ev (.tmp 10) = .slice oa 0 oc := hout 10 (by kernel_rfl) (show (10 : Nat) < 122 by decide)
                refine .inl ⟨w', ?_, hc⟩
                show _ = Result.ok (Next.value (.slice oa 0 oc)) w'
                simp [execOp, e0, hcst, go_sem]
              | 1, _ =>
                simp only [List.getElem?_toArray, List.getElem?_cons_zero, List.getElem?_cons_succ, Option.some.injEq] at hi
                subst hi
                rw [if_pos (by first | rfl | simp [wantV])]
                have e0 : ev (.tmp 95) = .slice oa 0 oc := hin 95 0 ⟨0, .data⟩ (by kernel_rfl) (by simp) rfl rfl (show (95 : Nat) < 122 by decide)
                refine .inl ⟨w', ?_, hc⟩
                show _ = Result.ok (Next.value (.int .i64 0)) w'
                simp [execOp, e0, hcst, go_sem]
              | 2, _ =>
                simp only [List.getElem?_toArray, List.getElem?_cons_zero, List.getElem?_cons_succ, Option.some.injEq] at hi
                subst hi
                rw [if_pos (by first | rfl | simp [wantV])]
                have e0 : ev (.tmp 96) = .int .i64 0 := hin 96 1 ⟨1, .data⟩ (by kernel_rfl) (by simp) rfl rfl (show (96 : Nat) < 122 by decide)
                refine .inl ⟨w', ?_, hc⟩
                show _ = Result.ok (Next.value (.bool false)) w'
                simp [execOp, e0, hcst, go_sem]
              | 3, _ =>
                simp only [List.getElem?_toArray, List.getElem?_cons_zero, List.getElem?_cons_succ, Option.some.injEq] at hi
                subst hi
                rw [if_pos (by first | rfl | simp [wantV])]
                have e0 : ev (.tmp 97) = .bool false := hin 97 2 ⟨2, .data⟩ (by kernel_rfl) (by simp) rfl rfl (show (97 : Nat) < 122 by decide)
                refine .inl ⟨w', ?_, hc⟩
                show _ = Result.ok (Next.value (.bool false)) w'
                simp [execOp, e0, hcst, go_sem]
              | 4, _ =>
                simp only [List.getElem?_toArray, List.getElem?_cons_zero, List.getElem?_cons_succ, Option.some.injEq] at hi
                subst hi
                rw [if_neg (by first | (simp [wantV]; done) | (simp [wantV]; rfl))]
                rfl
              | 5, _ =>
                simp only [List.getElem?_toArray, List.getElem?_cons_zero, List.getElem?_cons_succ, Option.some.injEq] at hi
                subst hi
                rw [if_neg (by first | (simp [wantV]; done) | (simp [wantV]; rfl))]
                rfl
              | 6, _ =>
                simp only [List.getElem?_toArray, List.getElem?_cons_zero, List.getElem?_cons_succ, Option.some.injEq] at hi
                subst hi
                rw [if_neg (by first | (simp [wantV]; done) | (simp [wantV]; rfl))]
                rfl
              | 7, _ =>
                simp only [List.getElem?_toArray, List.getElem?_cons_zero, List.getElem?_cons_succ, Option.some.injEq] at hi
                subst hi
                rw [if_neg (by first | (simp [wantV]; done) | (simp [wantV]; rfl))]
                rfl
              | 8, _ =>
                simp only [List.getElem?_toArray, List.getElem?_cons_zero, List.getElem?_cons_succ, Option.some.injEq] at hi
                subst hi
                rw [if_neg (by first | (simp [wantV]; done) | (simp [wantV]; rfl))]
                rfl
              | 9, _ =>
                simp only [List.getElem?_toArray, List.getElem?_cons_zero, List.getElem?_cons_succ, Option.some.injEq] at hi
                subst hi
                rw [if_neg (by first | (simp [wantV]; done) | (simp [wantV]; rfl))]
                rfl
              | 10, _ =>
                simp only [List.getElem?_toArray, List.getElem?_cons_zero, List.getElem?_cons_succ, Option.some.injEq] at hi
                subst hi
                rw [if_neg (by first | (simp [wantV]; done) | (simp [wantV]; rfl))]
                rfl
              | 11, _ =>
                simp only [List.getElem?_toArray, List.getElem?_cons_zero, List.getElem?_cons_succ, Option.some.injEq] at hi
                subst hi
                rw [if_neg (by first | (simp [wantV]; done) | (simp [wantV]; rfl))]
                rfl
              | 12, _ =>
                simp only [List.getElem?_toArray, List.getElem?_cons_zero, List.getElem?_cons_succ, Option.some.injEq] at hi
                subst hi
                rw [if_neg (by first | (simp [wantV]; done) | (simp [wantV]; rfl))]
                rfl
              | 13, _ =>
                simp only [List.getElem?_toArray, List.getElem?_cons_zero, List.getElem?_cons_succ, Option.some.injEq] at hi
                subst hi
                rw [if_neg (by first | (simp [wantV]; done) | (simp [wantV]; rfl))]
                rfl
              | 14, _ =>
                simp only [List.getElem?_toArray, List.getElem?_cons_zero, List.getElem?_cons_succ, Option.some.injEq] at hi
                subst hi
                rw [if_neg (by first | (simp [wantV]; done) | (simp [wantV]; rfl))]
                rfl
              | 15, _ =>
                simp only [List.getElem?_toArray, List.getElem?_cons_zero, List.getElem?_cons_succ, Option.some.injEq] at hi
                subst hi
                rw [if_neg (by first | (simp [wantV]; done) | (simp [wantV]; rfl))]
                rfl
              | 16, _ =>
                simp only [List.getElem?_toArray, List.getElem?_cons_zero, List.getElem?_cons_succ, Option.some.injEq] at hi
                subst hi
                rw [if_neg (by first | (simp [wantV]; done) | (simp [wantV]; rfl))]
                rfl
              | 17, _ =>
                simp only [List.getElem?_toArray, List.getElem?_cons_zero, List.getElem?_cons_succ, Option.some.injEq] at hi
                subst hi
                rw [if_neg (by first | (simp [wantV]; done) | (simp [wantV]; rfl))]
                rfl
              | 18, _ =>
                simp only [List.getElem?_toArray, List.getElem?_cons_zero, List.getElem?_cons_succ, Option.some.injEq] at hi
                subst hi
                rw [if_neg (by first | (simp [wantV]; done) | (simp [wantV]; rfl))]
                rfl
              | 19, _ =>
                simp only [List.getElem?_toArray, List.getElem?_cons_zero, List.getElem?_cons_succ, Option.some.injEq] at hi
                subst hi
                rw [if_neg (by first | (simp [wantV]; done) | (simp [wantV]; rfl))]
                rfl
              | 20, _ =>
                simp only [List.getElem?_toArray, List.getElem?_cons_zero, List.getElem?_cons_succ, Option.some.injEq] at hi
                subst hi
                rw [if_neg (by first | (simp [wantV]; done) | (simp [wantV]; rfl))]
                rfl
              | 21, _ =>
                simp only [List.getElem?_toArray, List.getElem?_cons_zero, List.getElem?_cons_succ, Option.some.injEq] at hi
                subst hi
                rw [if_neg (by first | (simp [wantV]; done) | (simp [wantV]; rfl))]
                rfl
              | 22, _ =>
                simp only [List.getElem?_toArray, List.getElem?_cons_zero, List.getElem?_cons_succ, Option.some.injEq] at hi
                subst hi
                rw [if_neg (by first | (simp [wantV]; done) | (simp [wantV]; rfl))]
                rfl
              | 23, _ =>
                simp only [List.getElem?_toArray, List.getElem?_cons_zero, List.getElem?_cons_succ, Option.some.injEq] at hi
                subst hi
                rw [if_neg (by first | (simp [wantV]; done) | (simp [wantV]; rfl))]
                rfl
              | 24, _ =>
                simp only [List.getElem?_toArray, List.getElem?_cons_zero, List.getElem?_cons_succ, Option.some.injEq] at hi
                subst hi
                rw [if_neg (by first | (simp [wantV]; done) | (simp [wantV]; rfl))]
                rfl
              | 25, _ =>
                simp only [List.getElem?_toArray, List.getElem?_cons_zero, List.getElem?_cons_succ, Option.some.injEq] at hi
                subst hi
                rw [if_neg (by first | (simp [wantV]; done) | (simp [wantV]; rfl))]
                rfl
              | 26, _ =>
                simp only [List.getElem?_toArray, List.getElem?_cons_zero, List.getElem?_cons_succ, Option.some.injEq] at hi
                subst hi
                rw [if_pos (by first | rfl | simp [wantV])]
                have e0 : ev (.tmp 98) = .bool false := hin 98 3 ⟨3, .data⟩ (by kernel_rfl) (by simp) rfl rfl (show (98 : Nat) < 122 by decide)
                have e1 : ev (.tmp 120) = undef := hin 120 25 ⟨25, .data⟩ (by kernel_rfl) (by simp) rfl rfl (show (120 : Nat) < 122 by decide)
                refine .inl ⟨w', ?_, hc⟩
                show _ = Result.ok (Next.value (.bool false)) w'
                simp [execOp, e0, e1, hcst, go_sem]
            · intro w7 hc
              simp only [lexF, Act.put, List.setIfInBounds_toArray, List.set_cons_succ, List.set_cons_zero, List.getD_cons_succ, List.getD_cons_zero]
              have HE := hide hc
              clear hc DB
              go_wp2
              go_roundg (len0 - (i + 1))
              case measure => omega
              case rel => exact ⟨i + 1, rfl, by omega, by omega, S7, _, _, G6, (UB.out.below HE.out)⟩
        · simp only [Value.slice.injEq] at hsome
          obtain ⟨rfl, hq9, rfl⟩ := hsome
          clear hq9
          have hIW : ItsAt wA (some ⟨wb, 0, none⟩) wn fl := its_blk hwb hwl HFO.out
          have cS : Hid (∀ W, Below wA.heap.size wA W → Calls Try.prog 23 #[.slice oa on oc, .slice (some ⟨wb, 0, none⟩) on wc] W fun e w' => e = .returned (.bool true) ∧ Below wA.heap.size wA w') := fun W hW => by
            refine (items_same oa _ on oc wc (fl.take on) (by omega) W (IQ.out.below hW) ((hIW.take on hole).below hW)).mono ?_
            rintro e w' ⟨rfl, b⟩
            exact ⟨rfl, hW.trans (b.mono hW.size)⟩
          have hwc2 : on ≤ wc := by have := hwc; omega
          have hwc3 : wc ≤ 9223372036854775807 := by unfold maxLen at hwm; omega
          clear hr hb7 mv7 hR hO hxok hIN hIQ hwl hrow hol hnn hnl hm hxm hnb hnc hwb hwc hwm hwp hIW cI R6 RO U6
          go_wp2_with fail
          refine wp_region_guard (by kernel_rfl) (by kernel_rfl) (fun jx => ([.slice oa on oc, .int .i64 (on : Int), .slice (some ⟨nb, no, none⟩) nn nc, .int .i64 (nn : Int), .int .i64 s4, .slice (some ⟨wb, 0, none⟩) wn wc, .int .i64 (wn : Int), .int .i64 s4, .bool false, .bool false, .slice oa on oc, .slice (some ⟨wb, 0, none⟩) wn wc, .slice oa on oc, .int .i64 (on : Int), .slice (some ⟨wb, 0, none⟩) on wc, .bool true, .bool false, .bool false, .bool false, .slice (some ⟨nb, no, none⟩) nn nc, .slice (some ⟨nb, no, none⟩) nn nc, .int .i64 (nn : Int), .int .i64 (m : Int), .pointer (some ⟨nb, no + m * 5, none⟩), .agg #[.string (txt x.key), .string (txt x.value), .int .u32 x.flags, .int .i64 x.exp, .int .u64 x.ver], .slice (some ⟨b, o, none⟩) len0 cap0, .int .i64 (i : Int), .pointer (some ⟨b, o + i * 5, none⟩), .agg #[.string (txt x.key), .string (txt x.value), .int .u32 x.flags, .int .i64 x.exp, .int .u64 x.ver], .bool false, .bool false] : List Value).getD jx undef) (fun W => Below wA.heap.size wA W) (size_of (n := 122) (by kernel_rfl) rfl) (DR.out) ?_ ?_
          · intro jx ox hi w' ev hc hin hout hcst hfn
            have hltx : jx < 31 := by
              have := (Array.getElem?_eq_some_iff.1 hi).1
              simpa using this
            match jx, hltx with
            | 0, _ =>
              simp only [List.getElem?_toArray, List.getElem?_cons_zero, List.getElem?_cons_succ, Option.some.injEq] at hi
              subst hi
              rw [if_pos (by first | rfl | simp [wantV])]
              have e0 : ev (.tmp 10) = .slice oa on oc := hout 10 (by kernel_rfl) (show (10 : Nat) < 122 by decide)
              refine .inl ⟨w', ?_, hc⟩
              show _ = Result.ok (Next.value (.slice oa on oc)) w'
              simp [execOp, e0, hcst, go_sem]
            | 1, _ =>
              simp only [List.getElem?_toArray, List.getElem?_cons_zero, List.getElem?_cons_succ, Option.some.injEq] at hi
              subst hi
              rw [if_pos (by first | rfl | simp [wantV])]
              have e0 : ev (.tmp 64) = .slice oa on oc := hin 64 0 ⟨0, .data⟩ (by kernel_rfl) (by simp) rfl rfl (show (64 : Nat) < 122 by decide)
              refine .inl ⟨w', ?_, hc⟩
              show _ = Result.ok (Next.value (.int .i64 (on : Int))) w'
              simp [execOp, e0, hcst, go_sem]
            | 2, _ =>
              simp only [List.getElem?_toArray, List.getElem?_cons_zero, List.getElem?_cons_succ, Option.some.injEq] at hi
              subst hi
              rw [if_pos (by first | rfl | simp [wantV])]
              have e0 : ev (.tmp 12) = .slice (some ⟨nb, no, none⟩) nn nc := hout 12 (by kernel_rfl) (show (12 : Nat) < 122 by decide)
              refine .inl ⟨w', ?_, hc⟩
              show _ = Result.ok (Next.value (.slice (some ⟨nb, no, none⟩) nn nc)) w'
              simp [execOp, e0, hcst, go_sem]
            | 3, _ =>
              simp only [List.getElem?_toArray, List.getElem?_cons_zero, List.getElem?_cons_succ, Option.some.injEq] at hi
              subst hi
              rw [if_pos (by first | rfl | simp [wantV])]
              have e0 : ev (.tmp 66) = .slice (some ⟨nb, no, none⟩) nn nc := hin 66 2 ⟨2, .data⟩ (by kernel_rfl) (by simp) rfl rfl (show (66 : Nat) < 122 by decide)
              refine .inl ⟨w', ?_, hc⟩
              show _ = Result.ok (Next.value (.int .i64 (nn : Int))) w'
              simp [execOp, e0, hcst, go_sem]
            | 4, _ =>
              simp only [List.getElem?_toArray, List.getElem?_cons_zero, List.getElem?_cons_succ, Option.some.injEq] at hi
              subst hi
              rw [if_pos (by first | rfl | simp [wantV])]
              have e0 : ev (.tmp 65) = .int .i64 (on : Int) := hin 65 1 ⟨1, .data⟩ (by kernel_rfl) (by simp) rfl rfl (show (65 : Nat) < 122 by decide)
              have e1 : ev (.tmp 67) = .int .i64 (nn : Int) := hin 67 3 ⟨3, .data⟩ (by kernel_rfl) (by simp) rfl rfl (show (67 : Nat) < 122 by decide)
              refine .inl ⟨w', ?_, hc⟩
              show _ = Result.ok (Next.value (.int .i64 s4)) w'
              simp [execOp, e0, e1, hcst, go_sem, h4]
            | 5, _ =>
              simp only [List.getElem?_toArray, List.getElem?_cons_zero, List.getElem?_cons_succ, Option.some.injEq] at hi
              subst hi
              rw [if_pos (by first | rfl | simp [wantV])]
              have e0 : ev (.tmp 8) = .slice (some ⟨wb, 0, none⟩) wn wc := hout 8 (by kernel_rfl) (show (8 : Nat) < 122 by decide)
              refine .inl ⟨w', ?_, hc⟩
              show _ = Result.ok (Next.value (.slice (some ⟨wb, 0, none⟩) wn wc)) w'
              simp [execOp, e0, hcst, go_sem]
            | 6, _ =>
              simp only [List.getElem?_toArray, List.getElem?_cons_zero, List.getElem?_cons_succ, Option.some.injEq] at hi
              subst hi
              rw [if_pos (by first | rfl | simp [wantV])]
              have e0 : ev (.tmp 69) = .slice (some ⟨wb, 0, none⟩) wn wc := hin 69 5 ⟨5, .data⟩ (by kernel_rfl) (by simp) rfl rfl (show (69 : Nat) < 122 by decide)
              refine .inl ⟨w', ?_, hc⟩
              show _ = Result.ok (Next.value (.int .i64 (wn : Int))) w'
              simp [execOp, e0, hcst, go_sem]
            | 7, _ =>
              simp only [List.getElem?_toArray, List.getElem?_cons_zero, List.getElem?_cons_succ, Option.some.injEq] at hi
              subst hi
              rw [if_pos (by first | rfl | simp [wantV])]
              have e0 : ev (.tmp 70) = .int .i64 (wn : Int) := hin 70 6 ⟨6, .data⟩ (by kernel_rfl) (by simp) rfl rfl (show (70 : Nat) < 122 by decide)
              refine .inl ⟨w', ?_, hc⟩
              show _ = Result.ok (Next.value (.int .i64 s4)) w'
              simp [execOp, e0, hcst, go_sem, h7]
            | 8, _ =>
              simp only [List.getElem?_toArray, List.getElem?_cons_zero, List.getElem?_cons_succ, Option.some.injEq] at hi
              subst hi
              rw [if_pos (by first | rfl | simp [wantV])]
              have e0 : ev (.tmp 68) = .int .i64 s4 := hin 68 4 ⟨4, .data⟩ (by kernel_rfl) (by simp) rfl rfl (show (68 : Nat) < 122 by decide)
              have e1 : ev (.tmp 71) = .int .i64 s4 := hin 71 7 ⟨7, .data⟩ (by kernel_rfl) (by simp) rfl rfl (show (71 : Nat) < 122 by decide)
              refine .inl ⟨w', ?_, hc⟩
              show _ = Result.ok (Next.value (.bool false)) w'
              simp [execOp, e0, e1, hcst, go_sem]
            | 9, _ =>
              simp only [List.getElem?_toArray, List.getElem?_cons_zero, List.getElem?_cons_succ, Option.some.injEq] at hi
              subst hi
              rw [if_pos (by first | rfl | simp [wantV])]
              have e0 : ev (.tmp 72) = .bool false := hin 72 8 ⟨8, .data⟩ (by kernel_rfl) (by simp) rfl rfl (show (72 : Nat) < 122 by decide)
              refine .inl ⟨w', ?_, hc⟩
              show _ = Result.ok (Next.value (.bool false)) w'
              simp [execOp, e0, hcst, go_sem]
            | 10, _ =>
              simp only [List.getElem?_toArray, List.getElem?_cons_zero, List.getElem?_cons_succ, Option.some.injEq] at hi
              subst hi
              rw [if_pos (by first | rfl | simp [wantV])]
              have e0 : ev (.tmp 10) = .slice oa on oc := hout 10 (by kernel_rfl) (show (10 : Nat) < 122 by decide)
              refine .inl ⟨w', ?_, hc⟩
              show _ = Result.ok (Next.value (.slice oa on oc)) w'
              simp [execOp, e0, hcst, go_sem]
            | 11, _ =>
              simp only [List.getElem?_toArray, List.getElem?_cons_zero, List.getElem?_cons_succ, Option.some.injEq] at hi
              subst hi
              rw [if_pos (by first | rfl | simp [wantV])]
              have e0 : ev (.tmp 8) = .slice (some ⟨wb, 0, none⟩) wn wc := hout 8 (by kernel_rfl) (show (8 : Nat) < 122 by decide)
              refine .inl ⟨w', ?_, hc⟩
              show _ = Result.ok (Next.value (.slice (some ⟨wb, 0, none⟩) wn wc)) w'
              simp [execOp, e0, hcst, go_sem]
            | 12, _ =>
              simp only [List.getElem?_toArray, List.getElem?_cons_zero, List.getElem?_cons_succ, Option.some.injEq] at hi
              subst hi
              rw [if_pos (by first | rfl | simp [wantV])]
              have e0 : ev (.tmp 10) = .slice oa on oc := hout 10 (by kernel_rfl) (show (10 : Nat) < 122 by decide)
              refine .inl ⟨w', ?_, hc⟩
              show _ = Result.ok (Next.value (.slice oa on oc)) w'
              simp [execOp, e0, hcst, go_sem]
            | 13, _ =>
              simp only [List.getElem?_toArray, List.getElem?_cons_zero, List.getElem?_cons_succ, Option.some.injEq] at hi
              subst hi
              rw [if_pos (by first | rfl | simp [wantV])]
              have e0 : ev (.tmp 76) = .slice oa on oc := hin 76 12 ⟨12, .data⟩ (by kernel_rfl) (by simp) rfl rfl (show (76 : Nat) < 122 by decide)
              refine .inl ⟨w', ?_, hc⟩
              show _ = Result.ok (Next.value (.int .i64 (on : Int))) w'
              simp [execOp, e0, hcst, go_sem]
            | 14, _ =>
              simp only [List.getElem?_toArray, List.getElem?_cons_zero, List.getElem?_cons_succ, Option.some.injEq] at hi
              subst hi
              rw [if_pos (by first | rfl | simp [wantV])]
              have e0 : ev (.tmp 75) = .slice (some ⟨wb, 0, none⟩) wn wc := hin 75 11 ⟨11, .data⟩ (by kernel_rfl) (by simp) rfl rfl (show (75 : Nat) < 122 by decide)
              have e1 : ev (.tmp 77) = .int .i64 (on : Int) := hin 77 13 ⟨13, .data⟩ (by kernel_rfl) (by simp) rfl rfl (show (77 : Nat) < 122 by decide)
              refine .inl ⟨w', ?_, hc⟩
              show _ = Result.ok (Next.value (.slice (some ⟨wb, 0, none⟩) on wc)) w'
              simp only [execOp, e0, e1, hcst]
              go_simp
            | 15, _ =>
              simp only [List.getElem?_toArray, List.getElem?_cons_zero, List.getElem?_cons_succ, Option.some.injEq] at hi
              subst hi
              rw [if_pos (by first | rfl | simp [wantV])]
              have e0 : ev (.tmp 74) = .slice oa on oc := hin 74 10 ⟨10, .data⟩ (by kernel_rfl) (by simp) rfl rfl (show (74 : Nat) < 122 by decide)
              have e1 : ev (.tmp 78) = .slice (some ⟨wb, 0, none⟩) on wc := hin 78 14 ⟨14, .data⟩ (by kernel_rfl) (by simp) rfl rfl (show (78 : Nat) < 122 by decide)
              refine .inr (.inr ⟨23, #[.slice oa on oc, .slice (some ⟨wb, 0, none⟩) on wc], ?_, ?_⟩)
              · have ef := hfn 23
                simp [execOp, resolve, invoke, ef, hcst, e0, e1, Result.andThen]
                exact enter23 _ _
              · exact cS.out w' hc
            | 16, _ =>
              simp only [List.getElem?_toArray, List.getElem?_cons_zero, List.getElem?_cons_succ, Option.some.injEq] at hi
              subst hi
              rw [if_pos (by first | rfl | simp [wantV])]
              have e0 : ev (.tmp 79) = .bool true := hin 79 15 ⟨15, .data⟩ (by kernel_rfl) (by simp) rfl rfl (show (79 : Nat) < 122 by decide)
              refine .inl ⟨w', ?_, hc⟩
              show _ = Result.ok (Next.value (.bool false)) w'
              simp [execOp, e0, hcst, go_sem]
            | 17, _ =>
              simp only [List.getElem?_toArray, List.getElem?_cons_zero, List.getElem?_cons_succ, Option.some.injEq] at hi
              subst hi
              rw [if_pos (by first | rfl | simp [wantV])]
              have e0 : ev (.tmp 73) = .bool false := hin 73 9 ⟨9, .data⟩ (by kernel_rfl) (by simp) rfl rfl (show (73 : Nat) < 122 by decide)
              have e1 : ev (.tmp 80) = .bool false := hin 80 16 ⟨16, .data⟩ (by kernel_rfl) (by simp) rfl rfl (show (80 : Nat) < 122 by decide)
              refine .inl ⟨w', ?_, hc⟩
              show _ = Result.ok (Next.value (.bool false)) w'
              simp [execOp, e0, e1, hcst, go_sem]
            | 18, _ =>
              simp only [List.getElem?_toArray, List.getElem?_cons_zero, List.getElem?_cons_succ, Option.some.injEq] at hi
              subst hi
              rw [if_pos (by first | rfl | simp [wantV])]
              have e0 : ev (.tmp 81) = .bool false := hin 81 17 ⟨17, .data⟩ (by kernel_rfl) (by simp) rfl rfl (show (81 : Nat) < 122 by decide)
              refine .inl ⟨w', ?_, hc⟩
              show _ = Result.ok (Next.value (.bool false)) w'
              simp [execOp, e0, hcst, go_sem]
            | 19, _ =>
              simp only [List.getElem?_toArray, List.getElem?_cons_zero, List.getElem?_cons_succ, Option.some.injEq] at hi
              subst hi
              rw [if_pos (by first | rfl | simp [wantV])]
              have e0 : ev (.tmp 12) = .slice (some ⟨nb, no, none⟩) nn nc := hout 12 (by kernel_rfl) (show (12 : Nat) < 122 by decide)
              refine .inl ⟨w', ?_, hc⟩
              show _ = Result.ok (Next.value (.slice (some ⟨nb, no, none⟩) nn nc)) w'
              simp [execOp, e0, hcst, go_sem]
            | 20, _ =>
              simp only [List.getElem?_toArray, List.getElem?_cons_zero, List.getElem?_cons_succ, Option.some.injEq] at hi
              subst hi
              rw [if_pos (by first | rfl | simp [wantV])]
              have e0 : ev (.tmp 12) = .slice (some ⟨nb, no, none⟩) nn nc := hout 12 (by kernel_rfl) (show (12 : Nat) < 122 by decide)
              refine .inl ⟨w', ?_, hc⟩
              show _ = Result.ok (Next.value (.slice (some ⟨nb, no, none⟩) nn nc)) w'
              simp [execOp, e0, hcst, go_sem]
            | 21, _ =>
              simp only [List.getElem?_toArray, List.getElem?_cons_zero, List.getElem?_cons_succ, Option.some.injEq] at hi
              subst hi
              rw [if_pos (by first | rfl | simp [wantV])]
              have e0 : ev (.tmp 84) = .slice (some ⟨nb, no, none⟩) nn nc := hin 84 20 ⟨20, .data⟩ (by kernel_rfl) (by simp) rfl rfl (show (84 : Nat) < 122 by decide)
              refine .inl ⟨w', ?_, hc⟩
              show _ = Result.ok (Next.value (.int .i64 (nn : Int))) w'
              simp [execOp, e0, hcst, go_sem]
            | 22, _ =>
              simp only [List.getElem?_toArray, List.getElem?_cons_zero, List.getElem?_cons_succ, Option.some.injEq] at hi
              subst hi
              rw [if_pos (by first | rfl | simp [wantV])]
              have e0 : ev (.tmp 85) = .int .i64 (nn : Int) := hin 85 21 ⟨21, .data⟩ (by kernel_rfl) (by simp) rfl rfl (show (85 : Nat) < 122 by decide)
              refine .inl ⟨w', ?_, hc⟩
              show _ = Result.ok (Next.value (.int .i64 (m : Int))) w'
              simp [execOp, e0, hcst, go_sem, h22]
            | 23, _ =>
              simp only [List.getElem?_toArray, List.getElem?_cons_zero, List.getElem?_cons_succ, Option.some.injEq] at hi
              subst hi
              rw [if_pos (by first | rfl | simp [wantV])]
              have e0 : ev (.tmp 83) = .slice (some ⟨nb, no, none⟩) nn nc := hin 83 19 ⟨19, .data⟩ (by kernel_rfl) (by simp) rfl rfl (show (83 : Nat) < 122 by decide)
              have e1 : ev (.tmp 86) = .int .i64 (m : Int) := hin 86 22 ⟨22, .data⟩ (by kernel_rfl) (by simp) rfl rfl (show (86 : Nat) < 122 by decide)
              refine .inl ⟨w', ?_, hc⟩
              show _ = Result.ok (Next.value (.pointer (some ⟨nb, no + m * 5, none⟩))) w'
              simp only [execOp, e0, e1, hcst]
              go_simp
            | 24, _ =>
              simp only [List.getElem?_toArray, List.getElem?_cons_zero, List.getElem?_cons_succ, Option.some.injEq] at hi
              subst hi
              rw [if_pos (by first | rfl | simp [wantV])]
              have e0 : ev (.tmp 87) = .pointer (some ⟨nb, no + m * 5, none⟩) := hin 87 23 ⟨23, .data⟩ (by kernel_rfl) (by simp) rfl rfl (show (87 : Nat) < 122 by decide)
              refine .inl ⟨w', ?_, hc⟩
              show _ = Result.ok (Next.value (.agg #[.string (txt x.key), .string (txt x.value), .int .u32 x.flags, .int .i64 x.exp, .int .u64 x.ver])) w'
              obtain ⟨y0, y1, y2, y3, y4⟩ := (XN.out w' hc).vals
              simp only [execOp, e0]
              go_simp
            | 25, _ =>
              simp only [List.getElem?_toArray, List.getElem?_cons_zero, List.getElem?_cons_succ, Option.some.injEq] at hi
              subst hi
              rw [if_pos (by first | rfl | simp [wantV])]
              have e0 : ev (.tmp 0) = .slice (some ⟨b, o, none⟩) len0 cap0 := hout 0 (by kernel_rfl) (show (0 : Nat) < 122 by decide)
              refine .inl ⟨w', ?_, hc⟩
              show _ = Result.ok (Next.value (.slice (some ⟨b, o, none⟩) len0 cap0)) w'
              simp [execOp, e0, hcst, go_sem]
            | 26, _ =>
              simp only [List.getElem?_toArray, List.getElem?_cons_zero, List.getElem?_cons_succ, Option.some.injEq] at hi
              subst hi
              rw [if_pos (by first | rfl | simp [wantV])]
              have e0 : ev (.tmp 7) = .int .i64 (i : Int) := hout 7 (by kernel_rfl) (show (7 : Nat) < 122 by decide)
              refine .inl ⟨w', ?_, hc⟩
              show _ = Result.ok (Next.value (.int .i64 (i : Int))) w'
              simp [execOp, e0, hcst, go_sem]
            | 27, _ =>
              simp only [List.getElem?_toArray, List.getElem?_cons_zero, List.getElem?_cons_succ, Option.some.injEq] at hi
              subst hi
              rw [if_pos (by first | rfl | simp [wantV])]
              have e0 : ev (.tmp 89) = .slice (some ⟨b, o, none⟩) len0 cap0 := hin 89 25 ⟨25, .data⟩ (by kernel_rfl) (by simp) rfl rfl (show (89 : Nat) < 122 by decide)
              have e1 : ev (.tmp 90) = .int .i64 (i : Int) := hin 90 26 ⟨26, .data⟩ (by kernel_rfl) (by simp) rfl rfl (show (90 : Nat) < 122 by decide)
              refine .inl ⟨w', ?_, hc⟩
              show _ = Result.ok (Next.value (.pointer (some ⟨b, o + i * 5, none⟩))) w'
              simp only [execOp, e0, e1, hcst]
              go_simp
            | 28, _ =>
              simp only [List.getElem?_toArray, List.getElem?_cons_zero, List.getElem?_cons_succ, Option.some.injEq] at hi
              subst hi
              rw [if_pos (by first | rfl | simp [wantV])]
              have e0 : ev (.tmp 91) = .pointer (some ⟨b, o + i * 5, none⟩) := hin 91 27 ⟨27, .data⟩ (by kernel_rfl) (by simp) rfl rfl (show (91 : Nat) < 122 by decide)
              refine .inl ⟨w', ?_, hc⟩
              show _ = Result.ok (Next.value (.agg #[.string (txt x.key), .string (txt x.value), .int .u32 x.flags, .int .i64 x.exp, .int .u64 x.ver])) w'
              obtain ⟨y0, y1, y2, y3, y4⟩ := (XL.out w' hc).vals
              simp only [execOp, e0]
              go_simp
            | 29, _ =>
              simp only [List.getElem?_toArray, List.getElem?_cons_zero, List.getElem?_cons_succ, Option.some.injEq] at hi
              subst hi
              rw [if_pos (by first | rfl | simp [wantV])]
              have e0 : ev (.tmp 88) = .agg #[.string (txt x.key), .string (txt x.value), .int .u32 x.flags, .int .i64 x.exp, .int .u64 x.ver] := hin 88 24 ⟨24, .data⟩ (by kernel_rfl) (by simp) rfl rfl (show (88 : Nat) < 122 by decide)
              have e1 : ev (.tmp 92) = .agg #[.string (txt x.key), .string (txt x.value), .int .u32 x.flags, .int .i64 x.exp, .int .u64 x.ver] := hin 92 28 ⟨28, .data⟩ (by kernel_rfl) (by simp) rfl rfl (show (92 : Nat) < 122 by decide)
              refine .inl ⟨w', ?_, hc⟩
              show _ = Result.ok (Next.value (.bool false)) w'
              simp [execOp, e0, e1, hcst, go_sem]
            | 30, _ =>
              simp only [List.getElem?_toArray, List.getElem?_cons_zero, List.getElem?_cons_succ, Option.some.injEq] at hi
              subst hi
              rw [if_pos (by first | rfl | simp [wantV])]
              have e0 : ev (.tmp 82) = .bool false := hin 82 18 ⟨18, .data⟩ (by kernel_rfl) (by simp) rfl rfl (show (82 : Nat) < 122 by decide)
              have e1 : ev (.tmp 93) = .bool false := hin 93 29 ⟨29, .data⟩ (by kernel_rfl) (by simp) rfl rfl (show (93 : Nat) < 122 by decide)
              refine .inl ⟨w', ?_, hc⟩
              show _ = Result.ok (Next.value (.bool false)) w'
              simp [execOp, e0, e1, hcst, go_sem]
          · intro w7 hc
            simp only [lexF, Act.put, List.setIfInBounds_toArray, List.set_cons_succ, List.set_cons_zero, List.getD_cons_succ, List.getD_cons_zero]
            have BB := hide hc
            have UB := hide (UA.out.below hc)
            obtain ⟨wB, hwB⟩ : ∃ wB, wB = w7 := ⟨_, rfl⟩
            rw [← hwB] at BB UB ⊢
            clear hc hwB DR cS
            by_cases h0 : on = 0
            · subst h0
              have DB : Hid (Below wB.heap.size wB { wB with drawn := wB.drawn + 1 }) := ⟨rfl, rfl, rfl, Nat.le_refl _, fun _ _ => rfl⟩
              go_wp2_with fail
              refine wp_region_guard (by kernel_rfl) (by kernel_rfl) (fun jx => ([.slice oa 0 oc, .int .i64 0, .bool false, .bool false, undef, undef, undef, undef, undef, undef, undef, undef, undef, undef, undef, undef, undef, undef, undef, undef, undef, undef, undef, undef, undef, undef, .bool false] : List Value).getD jx undef) (fun W => Below wB.heap.size wB W) (size_of (n := 122) (by kernel_rfl) rfl) (DB.out) ?_ ?_
              · intro jx ox hi w' ev hc hin hout hcst hfn
                have hltx : jx < 27 := by
                  have := (Array.getElem?_eq_some_iff.1 hi).1
                  simpa using this
                match jx, hltx with
                | 0, _ =>
                  simp only [List.getElem?_toArray, List.getElem?_cons_zero, List.getElem?_cons_succ, Option.some.injEq] at hi
                  subst hi
                  rw [if_pos (by first | rfl | simp [wantV])]
                  have e0 : ev (.tmp 10) = .slice oa 0 oc := hout 10 (by kernel_rfl) (show (10 : Nat) < 122 by decide)
                  refine .inl ⟨w', ?_, hc⟩
                  show _ = Result.ok (Next.value (.slice oa 0 oc)) w'
                  simp [execOp, e0, hcst, go_sem]
                | 1, _ =>
                  simp only [List.getElem?_toArray, List.getElem?_cons_zero, List.getElem?_cons_succ, Option.some.injEq] at hi
                  subst hi
                  rw [if_pos (by first | rfl | simp [wantV])]
                  have e0 : ev (.tmp 95) = .slice oa 0 oc := hin 95 0 ⟨0, .data⟩ (by kernel_rfl) (by simp) rfl rfl (show (95 : Nat) < 122 by decide)
                  refine .inl ⟨w', ?_, hc⟩
                  show _ = Result.ok (Next.value (.int .i64 0)) w'
                  simp [execOp, e0, hcst, go_sem]
                | 2, _ =>
                  simp only [List.getElem?_toArray, List.getElem?_cons_zero, List.getElem?_cons_succ, Option.some.injEq] at hi
                  subst hi
                  rw [if_pos (by first | rfl | simp [wantV])]
                  have e0 : ev (.tmp 96) = .int .i64 0 := hin 96 1 ⟨1, .data⟩ (by kernel_rfl) (by simp) rfl rfl (show (96 : Nat) < 122 by decide)
                  refine .inl ⟨w', ?_, hc⟩
                  show _ = Result.ok (Next.value (.bool false)) w'
                  simp [execOp, e0, hcst, go_sem]
                | 3, _ =>
                  simp only [List.getElem?_toArray, List.getElem?_cons_zero, List.getElem?_cons_succ, Option.some.injEq] at hi
                  subst hi
                  rw [if_pos (by first | rfl | simp [wantV])]
                  have e0 : ev (.tmp 97) = .bool false := hin 97 2 ⟨2, .data⟩ (by kernel_rfl) (by simp) rfl rfl (show (97 : Nat) < 122 by decide)
                  refine .inl ⟨w', ?_, hc⟩
                  show _ = Result.ok (Next.value (.bool false)) w'
                  simp [execOp, e0, hcst, go_sem]
                | 4, _ =>
                  simp only [List.getElem?_toArray, List.getElem?_cons_zero, List.getElem?_cons_succ, Option.some.injEq] at hi
                  subst hi
                  rw [if_neg (by first | (simp [wantV]; done) | (simp [wantV]; rfl))]
                  rfl
                | 5, _ =>
                  simp only [List.getElem?_toArray, List.getElem?_cons_zero, List.getElem?_cons_succ, Option.some.injEq] at hi
                  subst hi
                  rw [if_neg (by first | (simp [wantV]; done) | (simp [wantV]; rfl))]
                  rfl
                | 6, _ =>
                  simp only [List.getElem?_toArray, List.getElem?_cons_zero, List.getElem?_cons_succ, Option.some.injEq] at hi
                  subst hi
                  rw [if_neg (by first | (simp [wantV]; done) | (simp [wantV]; rfl))]
                  rfl
                | 7, _ =>
                  simp only [List.getElem?_toArray, List.getElem?_cons_zero, List.getElem?_cons_succ, Option.some.injEq] at hi
                  subst hi
                  rw [if_neg (by first | (simp [wantV]; done) | (simp [wantV]; rfl))]
                  rfl
                | 8, _ =>
                  simp only [List.getElem?_toArray, List.getElem?_cons_zero, List.getElem?_cons_succ, Option.some.injEq] at hi
                  subst hi
                  rw [if_neg (by first | (simp [wantV]; done) | (simp [wantV]; rfl))]
                  rfl
                | 9, _ =>
                  simp only [List.getElem?_toArray, List.getElem?_cons_zero, List.getElem?_cons_succ, Option.some.injEq] at hi
                  subst hi
                  rw [if_neg (by first | (simp [wantV]; done) | (simp [wantV]; rfl))]
                  rfl
                | 10, _ =>
                  simp only [List.getElem?_toArray, List.getElem?_cons_zero, List.getElem?_cons_succ, Option.some.injEq] at hi
                  subst hi
                  rw [if_neg (by first | (simp [wantV]; done) | (simp [wantV]; rfl))]
                  rfl
                | 11, _ =>
                  simp only [List.getElem?_toArray, List.getElem?_cons_zero, List.getElem?_cons_succ, Option.some.injEq] at hi
                  subst hi
                  rw [if_neg (by first | (simp [wantV]; done) | (simp [wantV]; rfl))]
                  rfl
                | 12, _ =>
                  simp only [List.getElem?_toArray, List.getElem?_cons_zero, List.getElem?_cons_succ, Option.some.injEq] at hi
                  subst hi
                  rw [if_neg (by first | (simp [wantV]; done) | (simp [wantV]; rfl))]
                  rfl
                | 13, _ =>
                  simp only [List.getElem?_toArray, List.getElem?_cons_zero, List.getElem?_cons_succ, Option.some.injEq] at hi
                  subst hi
                  rw [if_neg (by first | (simp [wantV]; done) | (simp [wantV]; rfl))]
                  rfl
                | 14, _ =>
                  simp only [List.getElem?_toArray, List.getElem?_cons_zero, List.getElem?_cons_succ, Option.some.injEq] at hi
                  subst hi
                  rw [if_neg (by first | (simp [wantV]; done) | (simp [wantV]; rfl))]
                  rfl
                | 15, _ =>
                  simp only [List.getElem?_toArray, List.getElem?_cons_zero, List.getElem?_cons_succ, Option.some.injEq] at hi
                  subst hi
                  rw [if_neg (by first | (simp [wantV]; done) | (simp [wantV]; rfl))]
                  rfl
                | 16, _ =>
                  simp only [List.getElem?_toArray, List.getElem?_cons_zero, List.getElem?_cons_succ, Option.some.injEq] at hi
                  subst hi
                  rw [if_neg (by first | (simp [wantV]; done) | (simp [wantV]; rfl))]
                  rfl
                | 17, _ =>
                  simp only [List.getElem?_toArray, List.getElem?_cons_zero, List.getElem?_cons_succ, Option.some.injEq] at hi
                  subst hi
                  rw [if_neg (by first | (simp [wantV]; done) | (simp [wantV]; rfl))]
                  rfl
                | 18, _ =>
                  simp only [List.getElem?_toArray, List.getElem?_cons_zero, List.getElem?_cons_succ, Option.some.injEq] at hi
                  subst hi
                  rw [if_neg (by first | (simp [wantV]; done) | (simp [wantV]; rfl))]
                  rfl
                | 19, _ =>
                  simp only [List.getElem?_toArray, List.getElem?_cons_zero, List.getElem?_cons_succ, Option.some.injEq] at hi
                  subst hi
                  rw [if_neg (by first | (simp [wantV]; done) | (simp [wantV]; rfl))]
                  rfl
                | 20, _ =>
                  simp only [List.getElem?_toArray, List.getElem?_cons_zero, List.getElem?_cons_succ, Option.some.injEq] at hi
                  subst hi
                  rw [if_neg (by first | (simp [wantV]; done) | (simp [wantV]; rfl))]
                  rfl
                | 21, _ =>
                  simp only [List.getElem?_toArray, List.getElem?_cons_zero, List.getElem?_cons_succ, Option.some.injEq] at hi
                  subst hi
                  rw [if_neg (by first | (simp [wantV]; done) | (simp [wantV]; rfl))]
                  rfl
                | 22, _ =>
                  simp only [List.getElem?_toArray, List.getElem?_cons_zero, List.getElem?_cons_succ, Option.some.injEq] at hi
                  subst hi
                  rw [if_neg (by first | (simp [wantV]; done) | (simp [wantV]; rfl))]
                  rfl
                | 23, _ =>
                  simp only [List.getElem?_toArray, List.getElem?_cons_zero, List.getElem?_cons_succ, Option.some.injEq] at hi
                  subst hi
                  rw [if_neg (by first | (simp [wantV]; done) | (simp [wantV]; rfl))]
                  rfl
                | 24, _ =>
                  simp only [List.getElem?_toArray, List.getElem?_cons_zero, List.getElem?_cons_succ, Option.some.injEq] at hi
                  subst hi
                  rw [if_neg (by first | (simp [wantV]; done) | (simp [wantV]; rfl))]
                  rfl
                | 25, _ =>
                  simp only [List.getElem?_toArray, List.getElem?_cons_zero, List.getElem?_cons_succ, Option.some.injEq] at hi
                  subst hi
                  rw [if_neg (by first | (simp [wantV]; done) | (simp [wantV]; rfl))]
                  rfl
                | 26, _ =>
                  simp only [List.getElem?_toArray, List.getElem?_cons_zero, List.getElem?_cons_succ, Option.some.injEq] at hi
                  subst hi
                  rw [if_pos (by first | rfl | simp [wantV])]
                  have e0 : ev (.tmp 98) = .bool false := hin 98 3 ⟨3, .data⟩ (by kernel_rfl) (by simp) rfl rfl (show (98 : Nat) < 122 by decide)
                  have e1 : ev (.tmp 120) = undef := hin 120 25 ⟨25, .data⟩ (by kernel_rfl) (by simp) rfl rfl (show (120 : Nat) < 122 by decide)
                  refine .inl ⟨w', ?_, hc⟩
                  show _ = Result.ok (Next.value (.bool false)) w'
                  simp [execOp, e0, e1, hcst, go_sem]
              · intro w7 hc
                simp only [lexF, Act.put, List.setIfInBounds_toArray, List.set_cons_succ, List.set_cons_zero, List.getD_cons_succ, List.getD_cons_zero]
                have HE := hide hc
                clear hc DB
                go_wp2
                go_roundg (len0 - (i + 1))
                case measure => omega
                case rel => exact ⟨i + 1, rfl, by omega, by omega, S7, _, _, G6, (UB.out.below HE.out)⟩
            · obtain ⟨y, hy, hlt9⟩ := OP.out.last (by omega)
              obtain ⟨p, hp⟩ : ∃ p, p + 1 = on := ⟨on - 1, by omega⟩
              have hyo : (fl.take on)[p]? = some y := by rw [List.getElem?_take, if_pos (by omega)]; rw [show p = on - 1 by omega]; exact hy
              obtain ⟨ob, oo, rfl, hob, hoc⟩ := (IQ.out.below BB.out).cell p y hyo
              have XO : Hid (∀ w', Below wB.heap.size wB w' → OneIt w' ob (oo + p * 5) y) := fun w' hb => hoc.below hb hob
              obtain ⟨tn, htn⟩ : ∃ tn, tn = total (fl.drop on ++ [x]) := ⟨_, rfl⟩
              obtain ⟨kl, hk0⟩ : ∃ kl, kl = y.key.length := ⟨_, rfl⟩
              obtain ⟨vl, hv0⟩ : ∃ vl, vl = y.value.length := ⟨_, rfl⟩
              have hkl : (txt y.key).size = kl := by rw [txt_size, hk0]
              have hvl : (txt y.value).size = vl := by rw [txt_size, hv0]
              have hyz : Hid (y.size ≤ 384) := by
                have h1 := total_mem fl y (List.mem_of_getElem? hy)
                exact Nat.le_trans h1 HFT.out
              have hsum : 384 < tn + (32 + kl + vl) := by rw [htn, hk0, hv0]; exact hlt9
              have htl : tn ≤ 1000 := by rw [htn]; have h1 := total_drop_le fl on; have h2 := HFT.out; have h3 := HXS.out; rw [total_append]; simp only [total]; omega
              have hkv : kl + vl ≤ 384 := by have := hyz.out; unfold It.size at this; omega
              have cT : Hid (∀ W, Below wB.heap.size wB W → Calls Try.prog 26 #[.slice (some ⟨nb, no, none⟩) nn nc] W fun e w' => e = .returned (.int .i64 (tn : Int)) ∧ Below wB.heap.size wB w') := fun W hW => by
                refine (total_any _ nn nc (fl.drop on ++ [x]) (by omega) (by rw [← htn]; omega) W ((IN.out.below BB.out).below hW)).mono ?_
                rintro e w' ⟨rfl, b⟩
                exact ⟨by rw [htn], hW.trans (b.mono hW.size)⟩
              obtain ⟨s6, h6⟩ : ∃ s6 : Int, IntKind.i64.wrap ((tn : Int) + 32) = s6 := ⟨_, rfl⟩
              obtain ⟨s15, h15⟩ : ∃ s : Int, IntKind.i64.wrap (s6 + (kl : Int)) = s := ⟨_, rfl⟩
              obtain ⟨s24, h24⟩ : ∃ s : Int, IntKind.i64.wrap (s15 + (vl : Int)) = s := ⟨_, rfl⟩
              have h10 : IntKind.i64.wrap ((on : Int) - 1) = (p : Int) := by rw [IntKind.wrap_i64, show (on : Int) - 1 = (p : Int) by omega]; omega
              have hs24 : (384 : Int) < s24 := by
                have e6 : s6 = (tn : Int) + 32 := by rw [← h6, IntKind.wrap_i64]; omega
                have e15 : s15 = s6 + (kl : Int) := by rw [← h15, IntKind.wrap_i64]; omega
                have e24 : s24 = s15 + (vl : Int) := by rw [← h24, IntKind.wrap_i64]; omega
                omega
              have hpo : (p : Int) < (on : Int) := by omega
              have hon0 : (0 : Int) < (on : Int) := by omega
              have DB : Hid (Below wB.heap.size wB { wB with drawn := wB.drawn + 1 }) := ⟨rfl, rfl, rfl, Nat.le_refl _, fun _ _ => rfl⟩
              clear hy hyo hob hoc htn hk0 hv0 hlt9 hsum htl hkv h4 h7 h22
              go_wp2_with fail
              refine wp_region_guard (by kernel_rfl) (by kernel_rfl) (fun jx => ([.slice (some ⟨ob, oo, none⟩) on oc, .int .i64 (on : Int), .bool true, .bool true, .slice (some ⟨nb, no, none⟩) nn nc, .int .i64 (tn : Int), .int .i64 s6, .slice (some ⟨ob, oo, none⟩) on oc, .slice (some ⟨ob, oo, none⟩) on oc, .int .i64 (on : Int), .int .i64 (p : Int), .pointer (some ⟨ob, oo + p * 5, none⟩), .pointer (some ⟨ob, oo + p * 5, none⟩), .string (txt y.key), .int .i64 (kl : Int), .int .i64 s15, .slice (some ⟨ob, oo, none⟩) on oc, .slice (some ⟨ob, oo, none⟩) on oc, .int .i64 (on : Int), .int .i64 (p : Int), .pointer (some ⟨ob, oo + p * 5, none⟩), .pointer (some ⟨ob, oo + p * 5 + 1, none⟩), .string (txt y.value), .int .i64 (vl : Int), .int .i64 s24, .bool false, .bool false] : List Value).getD jx undef) (fun W => Below wB.heap.size wB W) (size_of (n := 122) (by kernel_rfl) rfl) (DB.out) ?_ ?_
              · intro jx ox hi w' ev hc hin hout hcst hfn
                have hltx : jx < 27 := by
                  have := (Array.getElem?_eq_some_iff.1 hi).1
                  simpa using this
                match jx, hltx with
                | 0, _ =>
                  simp only [List.getElem?_toArray, List.getElem?_cons_zero, List.getElem?_cons_succ, Option.some.injEq] at hi
                  subst hi
                  rw [if_pos (by first | rfl | simp [wantV])]
                  have e0 : ev (.tmp 10) = .slice (some ⟨ob, oo, none⟩) on oc := hout 10 (by kernel_rfl) (show (10 : Nat) < 122 by decide)
                  refine .inl ⟨w', ?_, hc⟩
                  show _ = Result.ok (Next.value (.slice (some ⟨ob, oo, none⟩) on oc)) w'
                  simp [execOp, e0, hcst, go_sem]
                | 1, _ =>
                  simp only [List.getElem?_toArray, List.getElem?_cons_zero, List.getElem?_cons_succ, Option.some.injEq] at hi
                  subst hi
                  rw [if_pos (by first | rfl | simp [wantV])]
                  have e0 : ev (.tmp 95) = .slice (some ⟨ob, oo, none⟩) on oc := hin 95 0 ⟨0, .data⟩ (by kernel_rfl) (by simp) rfl rfl (show (95 : Nat) < 122 by decide)
                  refine .inl ⟨w', ?_, hc⟩
                  show _ = Result.ok (Next.value (.int .i64 (on : Int))) w'
                  simp [execOp, e0, hcst, go_sem]
                | 2, _ =>
                  simp only [List.getElem?_toArray, List.getElem?_cons_zero, List.getElem?_cons_succ, Option.some.injEq] at hi
                  subst hi
                  rw [if_pos (by first | rfl | simp [wantV])]
                  have e0 : ev (.tmp 96) = .int .i64 (on : Int) := hin 96 1 ⟨1, .data⟩ (by kernel_rfl) (by simp) rfl rfl (show (96 : Nat) < 122 by decide)
                  refine .inl ⟨w', ?_, hc⟩
                  show _ = Result.ok (Next.value (.bool true)) w'
                  simp only [execOp, e0, hcst]
                  go_simp
                  omega
                | 3, _ =>
                  simp only [List.getElem?_toArray, List.getElem?_cons_zero, List.getElem?_cons_succ, Option.some.injEq] at hi
                  subst hi
                  rw [if_pos (by first | rfl | simp [wantV])]
                  have e0 : ev (.tmp 97) = .bool true := hin 97 2 ⟨2, .data⟩ (by kernel_rfl) (by simp) rfl rfl (show (97 : Nat) < 122 by decide)
                  refine .inl ⟨w', ?_, hc⟩
                  show _ = Result.ok (Next.value (.bool true)) w'
                  simp [execOp, e0, hcst, go_sem]
                | 4, _ =>
                  simp only [List.getElem?_toArray, List.getElem?_cons_zero, List.getElem?_cons_succ, Option.some.injEq] at hi
                  subst hi
                  rw [if_pos (by first | rfl | simp [wantV])]
                  have e0 : ev (.tmp 12) = .slice (some ⟨nb, no, none⟩) nn nc := hout 12 (by kernel_rfl) (show (12 : Nat) < 122 by decide)
                  refine .inl ⟨w', ?_, hc⟩
                  show _ = Result.ok (Next.value (.slice (some ⟨nb, no, none⟩) nn nc)) w'
                  simp [execOp, e0, hcst, go_sem]
                | 5, _ =>
                  simp only [List.getElem?_toArray, List.getElem?_cons_zero, List.getElem?_cons_succ, Option.some.injEq] at hi
                  subst hi
                  rw [if_pos (by first | rfl | simp [wantV])]
                  have e0 : ev (.tmp 99) = .slice (some ⟨nb, no, none⟩) nn nc := hin 99 4 ⟨4, .data⟩ (by kernel_rfl) (by simp) rfl rfl (show (99 : Nat) < 122 by decide)
                  refine .inr (.inr ⟨26, #[.slice (some ⟨nb, no, none⟩) nn nc], ?_, ?_⟩)
                  · have ef := hfn 26
                    simp [execOp, resolve, invoke, ef, hcst, e0, Result.andThen]
                    exact enter26 _ _
                  · exact cT.out w' hc
                | 6, _ =>
                  simp only [List.getElem?_toArray, List.getElem?_cons_zero, List.getElem?_cons_succ, Option.some.injEq] at hi
                  subst hi
                  rw [if_pos (by first | rfl | simp [wantV])]
                  have e0 : ev (.tmp 100) = .int .i64 (tn : Int) := hin 100 5 ⟨5, .data⟩ (by kernel_rfl) (by simp) rfl rfl (show (100 : Nat) < 122 by decide)
                  refine .inl ⟨w', ?_, hc⟩
                  show _ = Result.ok (Next.value (.int .i64 s6)) w'
                  simp [execOp, e0, hcst, go_sem, h6]
                | 7, _ =>
                  simp only [List.getElem?_toArray, List.getElem?_cons_zero, List.getElem?_cons_succ, Option.some.injEq] at hi
                  subst hi
                  rw [if_pos (by first | rfl | simp [wantV])]
                  have e0 : ev (.tmp 10) = .slice (some ⟨ob, oo, none⟩) on oc := hout 10 (by kernel_rfl) (show (10 : Nat) < 122 by decide)
                  refine .inl ⟨w', ?_, hc⟩
                  show _ = Result.ok (Next.value (.slice (some ⟨ob, oo, none⟩) on oc)) w'
                  simp [execOp, e0, hcst, go_sem]
                | 8, _ =>
                  simp only [List.getElem?_toArray, List.getElem?_cons_zero, List.getElem?_cons_succ, Option.some.injEq] at hi
                  subst hi
                  rw [if_pos (by first | rfl | simp [wantV])]
                  have e0 : ev (.tmp 10) = .slice (some ⟨ob, oo, none⟩) on oc := hout 10 (by kernel_rfl) (show (10 : Nat) < 122 by decide)
                  refine .inl ⟨w', ?_, hc⟩
                  show _ = Result.ok (Next.value (.slice (some ⟨ob, oo, none⟩) on oc)) w'
                  simp [execOp, e0, hcst, go_sem]
                | 9, _ =>
                  simp only [List.getElem?_toArray, List.getElem?_cons_zero, List.getElem?_cons_succ, Option.some.injEq] at hi
                  subst hi
                  rw [if_pos (by first | rfl | simp [wantV])]
                  have e0 : ev (.tmp 103) = .slice (some ⟨ob, oo, none⟩) on oc := hin 103 8 ⟨8, .data⟩ (by kernel_rfl) (by simp) rfl rfl (show (103 : Nat) < 122 by decide)
                  refine .inl ⟨w', ?_, hc⟩
                  show _ = Result.ok (Next.value (.int .i64 (on : Int))) w'
                  simp [execOp, e0, hcst, go_sem]
                | 10, _ =>
                  simp only [List.getElem?_toArray, List.getElem?_cons_zero, List.getElem?_cons_succ, Option.some.injEq] at hi
                  subst hi
                  rw [if_pos (by first | rfl | simp [wantV])]
                  have e0 : ev (.tmp 104) = .int .i64 (on : Int) := hin 104 9 ⟨9, .data⟩ (by kernel_rfl) (by simp) rfl rfl (show (104 : Nat) < 122 by decide)
                  refine .inl ⟨w', ?_, hc⟩
                  show _ = Result.ok (Next.value (.int .i64 (p : Int))) w'
                  simp [execOp, e0, hcst, go_sem, h10]
                | 11, _ =>
                  simp only [List.getElem?_toArray, List.getElem?_cons_zero, List.getElem?_cons_succ, Option.some.injEq] at hi
                  subst hi
                  rw [if_pos (by first | rfl | simp [wantV])]
                  have e0 : ev (.tmp 102) = .slice (some ⟨ob, oo, none⟩) on oc := hin 102 7 ⟨7, .data⟩ (by kernel_rfl) (by simp) rfl rfl (show (102 : Nat) < 122 by decide)
                  have e1 : ev (.tmp 105) = .int .i64 (p : Int) := hin 105 10 ⟨10, .data⟩ (by kernel_rfl) (by simp) rfl rfl (show (105 : Nat) < 122 by decide)
                  refine .inl ⟨w', ?_, hc⟩
                  show _ = Result.ok (Next.value (.pointer (some ⟨ob, oo + p * 5, none⟩))) w'
                  simp only [execOp, e0, e1, hcst]
                  go_simp
                | 12, _ =>
                  simp only [List.getElem?_toArray, List.getElem?_cons_zero, List.getElem?_cons_succ, Option.some.injEq] at hi
                  subst hi
                  rw [if_pos (by first | rfl | simp [wantV])]
                  have e0 : ev (.tmp 106) = .pointer (some ⟨ob, oo + p * 5, none⟩) := hin 106 11 ⟨11, .data⟩ (by kernel_rfl) (by simp) rfl rfl (show (106 : Nat) < 122 by decide)
                  refine .inl ⟨w', ?_, hc⟩
                  show _ = Result.ok (Next.value (.pointer (some ⟨ob, oo + p * 5, none⟩))) w'
                  simp only [execOp, e0, hcst]
                  go_simp
                | 13, _ =>
                  simp only [List.getElem?_toArray, List.getElem?_cons_zero, List.getElem?_cons_succ, Option.some.injEq] at hi
                  subst hi
                  rw [if_pos (by first | rfl | simp [wantV])]
                  have e0 : ev (.tmp 107) = .pointer (some ⟨ob, oo + p * 5, none⟩) := hin 107 12 ⟨12, .data⟩ (by kernel_rfl) (by simp) rfl rfl (show (107 : Nat) < 122 by decide)
                  refine .inl ⟨w', ?_, hc⟩
                  show _ = Result.ok (Next.value (.string (txt y.key))) w'
                  obtain ⟨y0, y1, y2, y3, y4⟩ := (XO.out w' hc).vals
                  simp only [execOp, e0]
                  go_simp
                | 14, _ =>
                  simp only [List.getElem?_toArray, List.getElem?_cons_zero, List.getElem?_cons_succ, Option.some.injEq] at hi
                  subst hi
                  rw [if_pos (by first | rfl | simp [wantV])]
                  have e0 : ev (.tmp 108) = .string (txt y.key) := hin 108 13 ⟨13, .data⟩ (by kernel_rfl) (by simp) rfl rfl (show (108 : Nat) < 122 by decide)
                  refine .inl ⟨w', ?_, hc⟩
                  show _ = Result.ok (Next.value (.int .i64 (kl : Int))) w'
                  simp [execOp, e0, hcst, go_sem, hkl]
                | 15, _ =>
                  simp only [List.getElem?_toArray, List.getElem?_cons_zero, List.getElem?_cons_succ, Option.some.injEq] at hi
                  subst hi
                  rw [if_pos (by first | rfl | simp [wantV])]
                  have e0 : ev (.tmp 101) = .int .i64 s6 := hin 101 6 ⟨6, .data⟩ (by kernel_rfl) (by simp) rfl rfl (show (101 : Nat) < 122 by decide)
                  have e1 : ev (.tmp 109) = .int .i64 (kl : Int) := hin 109 14 ⟨14, .data⟩ (by kernel_rfl) (by simp) rfl rfl (show (109 : Nat) < 122 by decide)
                  refine .inl ⟨w', ?_, hc⟩
                  show _ = Result.ok (Next.value (.int .i64 s15)) w'
                  simp [execOp, e0, e1, hcst, go_sem, h15]
                | 16, _ =>
                  simp only [List.getElem?_toArray, List.getElem?_cons_zero, List.getElem?_cons_succ, Option.some.injEq] at hi
                  subst hi
                  rw [if_pos (by first | rfl | simp [wantV])]
                  have e0 : ev (.tmp 10) = .slice (some ⟨ob, oo, none⟩) on oc := hout 10 (by kernel_rfl) (show (10 : Nat) < 122 by decide)
                  refine .inl ⟨w', ?_, hc⟩
                  show _ = Result.ok (Next.value (.slice (some ⟨ob, oo, none⟩) on oc)) w'
                  simp [execOp, e0, hcst, go_sem]
                | 17, _ =>
                  simp only [List.getElem?_toArray, List.getElem?_cons_zero, List.getElem?_cons_succ, Option.some.injEq] at hi
                  subst hi
                  rw [if_pos (by first | rfl | simp [wantV])]
                  have e0 : ev (.tmp 10) = .slice (some ⟨ob, oo, none⟩) on oc := hout 10 (by kernel_rfl) (show (10 : Nat) < 122 by decide)
                  refine .inl ⟨w', ?_, hc⟩
                  show _ = Result.ok (Next.value (.slice (some ⟨ob, oo, none⟩) on oc)) w'
                  simp [execOp, e0, hcst, go_sem]
                | 18, _ =>
                  simp only [List.getElem?_toArray, List.getElem?_cons_zero, List.getElem?_cons_succ, Option.some.injEq] at hi
                  subst hi
                  rw [if_pos (by first | rfl | simp [wantV])]
                  have e0 : ev (.tmp 112) = .slice (some ⟨ob, oo, none⟩) on oc := hin 112 17 ⟨17, .data⟩ (by kernel_rfl) (by simp) rfl rfl (show (112 : Nat) < 122 by decide)
                  refine .inl ⟨w', ?_, hc⟩
                  show _ = Result.ok (Next.value (.int .i64 (on : Int))) w'
                  simp [execOp, e0, hcst, go_sem]
                | 19, _ =>
                  simp only [List.getElem?_toArray, List.getElem?_cons_zero, List.getElem?_cons_succ, Option.some.injEq] at hi
                  subst hi
                  rw [if_pos (by first | rfl | simp [wantV])]
                  have e0 : ev (.tmp 113) = .int .i64 (on : Int) := hin 113 18 ⟨18, .data⟩ (by kernel_rfl) (by simp) rfl rfl (show (113 : Nat) < 122 by decide)
                  refine .inl ⟨w', ?_, hc⟩
                  show _ = Result.ok (Next.value (.int .i64 (p : Int))) w'
                  simp [execOp, e0, hcst, go_sem, h10]
                | 20, _ =>
                  simp only [List.getElem?_toArray, List.getElem?_cons_zero, List.getElem?_cons_succ, Option.some.injEq] at hi
                  subst hi
                  rw [if_pos (by first | rfl | simp [wantV])]
                  have e0 : ev (.tmp 111) = .slice (some ⟨ob, oo, none⟩) on oc := hin 111 16 ⟨16, .data⟩ (by kernel_rfl) (by simp) rfl rfl (show (111 : Nat) < 122 by decide)
                  have e1 : ev (.tmp 114) = .int .i64 (p : Int) := hin 114 19 ⟨19, .data⟩ (by kernel_rfl) (by simp) rfl rfl (show (114 : Nat) < 122 by decide)
                  refine .inl ⟨w', ?_, hc⟩
                  show _ = Result.ok (Next.value (.pointer (some ⟨ob, oo + p * 5, none⟩))) w'
                  simp only [execOp, e0, e1, hcst]
                  go_simp
                | 21, _ =>
                  simp only [List.getElem?_toArray, List.getElem?_cons_zero, List.getElem?_cons_succ, Option.some.injEq] at hi
                  subst hi
                  rw [if_pos (by first | rfl | simp [wantV])]
                  have e0 : ev (.tmp 115) = .pointer (some ⟨ob, oo + p * 5, none⟩) := hin 115 20 ⟨20, .data⟩ (by kernel_rfl) (by simp) rfl rfl (show (115 : Nat) < 122 by decide)
                  refine .inl ⟨w', ?_, hc⟩
                  show _ = Result.ok (Next.value (.pointer (some ⟨ob, oo + p * 5 + 1, none⟩))) w'
                  simp only [execOp, e0, hcst]
                  go_simp
                | 22, _ =>
                  simp only [List.getElem?_toArray, List.getElem?_cons_zero, List.getElem?_cons_succ, Option.some.injEq] at hi
                  subst hi
                  rw [if_pos (by first | rfl | simp [wantV])]
                  have e0 : ev (.tmp 116) = .pointer (some ⟨ob, oo + p * 5 + 1, none⟩) := hin 116 21 ⟨21, .data⟩ (by kernel_rfl) (by simp) rfl rfl (show (116 : Nat) < 122 by decide)
                  refine .inl ⟨w', ?_, hc⟩
                  show _ = Result.ok (Next.value (.string (txt y.value))) w'
                  obtain ⟨y0, y1, y2, y3, y4⟩ := (XO.out w' hc).vals
                  simp only [execOp, e0]
                  go_simp
                | 23, _ =>
                  simp only [List.getElem?_toArray, List.getElem?_cons_zero, List.getElem?_cons_succ, Option.some.injEq] at hi
                  subst hi
                  rw [if_pos (by first | rfl | simp [wantV])]
                  have e0 : ev (.tmp 117) = .string (txt y.value) := hin 117 22 ⟨22, .data⟩ (by kernel_rfl) (by simp) rfl rfl (show (117 : Nat) < 122 by decide)
                  refine .inl ⟨w', ?_, hc⟩
                  show _ = Result.ok (Next.value (.int .i64 (vl : Int))) w'
                  simp [execOp, e0, hcst, go_sem, hvl]
                | 24, _ =>
                  simp only [List.getElem?_toArray, List.getElem?_cons_zero, List.getElem?_cons_succ, Option.some.injEq] at hi
                  subst hi
                  rw [if_pos (by first | rfl | simp [wantV])]
                  have e0 : ev (.tmp 110) = .int .i64 s15 := hin 110 15 ⟨15, .data⟩ (by kernel_rfl) (by simp) rfl rfl (show (110 : Nat) < 122 by decide)
                  have e1 : ev (.tmp 118) = .int .i64 (vl : Int) := hin 118 23 ⟨23, .data⟩ (by kernel_rfl) (by simp) rfl rfl (show (118 : Nat) < 122 by decide)
                  refine .inl ⟨w', ?_, hc⟩
                  show _ = Result.ok (Next.value (.int .i64 s24)) w'
                  simp [execOp, e0, e1, hcst, go_sem, h24]
                | 25, _ =>
                  simp only [List.getElem?_toArray, List.getElem?_cons_zero, List.getElem?_cons_succ, Option.some.injEq] at hi
                  subst hi
                  rw [if_pos (by first | rfl | simp [wantV])]
                  have e0 : ev (.tmp 119) = .int .i64 s24 := hin 119 24 ⟨24, .data⟩ (by kernel_rfl) (by simp) rfl rfl (show (119 : Nat) < 122 by decide)
                  refine .inl ⟨w', ?_, hc⟩
                  show _ = Result.ok (Next.value (.bool false)) w'
                  simp [execOp, e0, hcst, go_sem]
                  omega
                | 26, _ =>
                  simp only [List.getElem?_toArray, List.getElem?_cons_zero, List.getElem?_cons_succ, Option.some.injEq] at hi
                  subst hi
                  rw [if_pos (by first | rfl | simp [wantV])]
                  have e0 : ev (.tmp 98) = .bool true := hin 98 3 ⟨3, .data⟩ (by kernel_rfl) (by simp) rfl rfl (show (98 : Nat) < 122 by decide)
                  have e1 : ev (.tmp 120) = .bool false := hin 120 25 ⟨25, .data⟩ (by kernel_rfl) (by simp) rfl rfl (show (120 : Nat) < 122 by decide)
                  refine .inl ⟨w', ?_, hc⟩
                  show _ = Result.ok (Next.value (.bool false)) w'
                  simp [execOp, e0, e1, hcst, go_sem]
              · intro w7 hc
                simp only [lexF, Act.put, List.setIfInBounds_toArray, List.set_cons_succ, List.set_cons_zero, List.getD_cons_succ, List.getD_cons_zero]
                have HE := hide hc
                clear hc DB
                go_wp2
                go_roundg (len0 - (i + 1))
                case measure => omega
                case rel => exact ⟨i + 1, rfl, by omega, by omega, S7, _, _, G6, (UB.out.below HE.out)⟩
    · obtain rfl : i = len0 := by omega
      have hlt2 : ¬ (i : Int) < (i : Int) := by omega
      have BU := hide U.out.bel
      go_wp2
      go_ret
      exact ⟨rfl, BU.out⟩
end Go.Proofs.Ytbccnfbombgdmaa.bucketFirst
