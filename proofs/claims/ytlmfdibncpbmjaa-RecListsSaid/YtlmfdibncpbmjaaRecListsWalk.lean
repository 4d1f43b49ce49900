/-
  RecLists holds for all inputs of the model, with no condition.
-/
import Derived.WalkKit
import Derived.Below
import Derived.Test.YtlmfdibncpbmjaaRefLay
import Derived.Test.YtlmfdibncpbmjaaItems
import Derived.Test.YtlmfdibncpbmjaaRow
import Derived.Test.YtlmfdibncpbmjaaTakeE
import Derived.Test.YtlmfdibncpbmjaaAwake
import Derived.Test.YtlmfdibncpbmjaaListC
import Derived.Deep.RegionHeld3
import Derived.Deep.AppendSrc
import Derived.Laws.AppendOwn
namespace Go.Proofs.Ytlmfdibncpbmjaa.recLists
open Go.RowKit Go.Deep
set_option linter.unusedVariables false
set_option linter.unusedSimpArgs false

theorem its_cell {w : World} {a : Addr} {n : Nat} {xs : List It} (h : RawAt w (some a) n xs) : ∀ j u, (itsCells xs)[j]? = some u → w.cell? (a.add j) = some u := by
  intro j u hj
  have hjl : j < (itsCells xs).length := (List.getElem?_eq_some_iff.1 hj).1
  rw [itsCells_length] at hjl
  have hi : j / 5 < xs.length := by omega
  obtain ⟨b, o, ha, _, hc⟩ := h.cell (j / 5) _ (List.getElem?_eq_getElem hi)
  simp only [Option.some.injEq] at ha
  subst ha
  have hr : j % 5 < 5 := Nat.mod_lt _ (by omega)
  have hg := its_get xs (j / 5) _ (List.getElem?_eq_getElem hi) (j % 5) hr
  have ej : j / 5 * 5 + j % 5 = j := by omega
  rw [ej, hj] at hg
  rw [Addr.add_lit]
  have eo : o + j = o + j / 5 * 5 + j % 5 := by omega
  rw [eo]
  rcases (show j % 5 = 0 ∨ j % 5 = 1 ∨ j % 5 = 2 ∨ j % 5 = 3 ∨ j % 5 = 4 by omega) with e | e | e | e | e <;> rw [e] at hg ⊢ <;> simp only [itCells, List.getElem?_cons_zero, List.getElem?_cons_succ, Option.some.injEq] at hg <;> subst hg
  · exact hc.c0
  · exact hc.c1
  · exact hc.c2
  · exact hc.c3
  · exact hc.c4
theorem its_one (xs : List It) : ∀ u ∈ itsCells xs, u.oneCell' = true := by
  intro u hu
  obtain ⟨x, _, hx⟩ := List.mem_flatMap.1 hu
  simp [itCells] at hx
  rcases hx with rfl | rfl | rfl | rfl | rfl <;> rfl
/-- 'append([]api.Item{}, l...)'. -/
theorem append_its (w1 : World) (a : Option Addr) (n cap : Nat) (xs : List It) (h : RawAt w1 a n xs) (hl : n ≤ 1000) :
    ∃ g c w', (Builtin.append_ #[35, 35] 35 #[.slice (some ⟨w1.heap.size, 0, none⟩) 0 0, .slice a n cap]).run Try.prog (w1.alloc (.cells #[] 30)) = .ok (.slice (some ⟨g, 0, none⟩) n c) w' ∧
      w'.ownsRow w1.heap.size 30 5 (.slice (some ⟨g, 0, none⟩) n c) n (itsCells xs) ∧ Below w1.heap.size w1 w' := by
  obtain ⟨i0, hi0, hp0⟩ := Option.map_eq_some_iff.1 info30
  simp only [Prod.mk.injEq] at hp0
  obtain ⟨hz0, hz1, hz2⟩ := hp0
  have hown : (w1.alloc (.cells #[] 30)).ownsRow w1.heap.size 30 5 (.slice (some ⟨w1.heap.size, 0, none⟩) 0 0) 0 [] := World.ownsRow_made w1 #[] 0 (Nat.le_refl _) (Nat.zero_le _) (by simp)
  have hn := h.len
  have hB : Below w1.heap.size w1 (w1.alloc (.cells #[] 30)) := (Below.refl _ _).alloc (Nat.le_refl _) _
  cases a with
  | none =>
    have hx : xs = [] := by
      cases xs with
      | nil => rfl
      | cons x r => obtain ⟨_, _, h0, _⟩ := h.cell 0 x rfl; cases h0
    subst hx
    have hn0 : n = 0 := by simpa using hn
    subst hn0
    have hr := run_append_room_src (P := Try.prog) (w1.alloc (.cells #[] 30)) 35 35 35 30 i0 Try.underlying35 hi0 w1.heap.size 0 0 0 (.slice none 0 cap) 0 [] (Src.ofNil _ Try.underlying35 cap) (Nat.le_refl _) (fun j hj => by simp at hj) (fun j hj => by simp at hj)
    exact ⟨w1.heap.size, 0, _, hr, hown, hB⟩
  | some x =>
    obtain ⟨v', w', hr, ho, hg, hnl⟩ := run_append_own (P := Try.prog) (w1.alloc (.cells #[] 30)) w1.heap.size 35 35 30 i0 _ 5 56 Try.underlying35 hi0 hz0 hz1 hz2 rfl (by decide) _ 0 [] hown x n cap (itsCells xs) (by rw [itsCells_length, hn]) (its_cell (h.below hB))
      (its_one xs) (by unfold maxLen; omega) (by omega) (by rw [nblk_alloc]; omega)
    rw [Nat.zero_add, List.nil_append] at ho
    obtain ⟨g, c, rfl⟩ : ∃ g c, v' = .slice (some ⟨g, 0, none⟩) n c := by
      rcases ho.2 with ⟨h, _⟩ | ⟨g, c, cur, hv, _⟩
      · exact absurd (hnl.1 h).1 (by simp)
      · exact ⟨g, c, hv⟩
    exact ⟨g, c, w', hr, ho, hB.grown hg hB.size (fun q hq => (hown.lt q hq).1)⟩
theorem lay_cases (xs : List It) (room : Int) (hr0 : -9223372036854775808 ≤ room) :
    (∃ k : Int, ¬ k = 0 ∧ layS xs room = .tuple #[.string (txt []), .int .i64 k] ∧ ∀ (a : Option Addr) (n cap : Nat) (w : World), n ≤ 1000 → ItsAt w a n xs → Calls Try.prog 12 #[.slice a n cap, .int .i64 room] w fun e w' => e = .returned (.tuple #[.slice none 0 0, .int .i64 k]) ∧ Below w.heap.size w w') ∨
    (xs.all It.good = true ∧ ∃ R : Nat, room = (R : Int) ∧ R ≤ 65536 ∧ total xs ≤ R ∧ layS xs room = .tuple #[.string (txt (encs xs ++ List.replicate (R - total xs) 0)), .int .i64 0]) := by
  by_cases h1 : 65536 < room
  · exact .inl ⟨1, by omega, by unfold layS; rw [if_pos h1], fun a n cap w hn h => (lay_big a n cap room h1 w).mono (fun e w' ⟨he, hw⟩ => ⟨he, by rw [hw]; exact Below.refl _ _⟩)⟩
  cases hg : xs.all It.good with
  | false => exact .inl ⟨1, by omega, by unfold layS; rw [if_neg h1, if_pos hg], fun a n cap w hn h => lay_bad a n cap xs room (by omega) (by omega) w h hg⟩
  | true =>
    have hnf : ¬ xs.all It.good = false := by rw [hg]; simp
    by_cases hf : (total xs : Int) ≤ room
    · refine .inr ⟨rfl, room.toNat, by omega, by omega, by omega, ?_⟩
      unfold layS
      rw [if_neg h1, if_neg hnf, if_pos hf]
    · exact .inl ⟨7, by omega, by unfold layS; rw [if_neg h1, if_neg hnf, if_neg hf], fun a n cap w hn h => lay_full a n cap xs room hr0 (by omega) (by omega) w h hg hf⟩
set_option maxRecDepth 4000 in
set_option maxHeartbeats 4000000 in
theorem walk (a0 : Option Addr) (len0 cap0 : Nat) (z0 : List It) (a1 : Int) (w : World) (hw0 : RawAt w a0 len0 z0) (hw1 : (Lit.int .i64 a1).wf = true) :
    Calls Try.prog 7 #[.slice a0 len0 cap0, .int .i64 a1] w fun e w' => e = .returned (.bool true) ∧ Below w.heap.size w w' := by
  have HR := hide hw0
  have k1 := wf_i64 hw1
  have ca := hide (awake_any take_is)
  have hln : len0 = z0.length := HR.out.len
  have HL := hide hln
  clear hw0 hw1 hln
  go_enter Try.func7, Try.ntmps7
  go_wp2_with fail
  refine (ca.out _).mono ?_
  rintro r w1 ⟨rfl, h1⟩
  have A := hide h1
  clear h1 ca
  by_cases c1 : 30 < len0
  · have c1' : ((30 : Int) < (len0 : Int)) = True := eq_true (by omega)
    clear c1
    go_wp2
    go_ret
    exact ⟨rfl, A.out⟩
  have c1' : ((30 : Int) < (len0 : Int)) = False := eq_false (by omega)
  by_cases c2 : a1 < -10
  · have c2' : (a1 < -10) = True := eq_true c2
    clear c1 c2
    go_wp2
    go_ret
    exact ⟨rfl, A.out⟩
  have c2' : (a1 < -10) = False := eq_false c2
  by_cases c3 : 70000 < a1
  · have c3' : ((70000 : Int) < a1) = True := eq_true c3
    clear c1 c2 c3
    go_wp2
    go_ret
    exact ⟨rfl, A.out⟩
  have c3' : ((70000 : Int) < a1) = False := eq_false c3
  have L1 : Hid (len0 ≤ 30) := by show _ ≤ _; omega
  have K1 := hide k1
  clear c1 c2 c3 k1
  go_wp2_with fail
  go_loopg [5] len0 (fun kx s5 wr => ∃ i : Nat, s5 = .int .i64 i ∧ i ≤ len0 ∧ len0 - i ≤ kx ∧ Hid ((∀ x ∈ z0.take i, x.key.length ≤ 300 ∧ x.value.length ≤ 1200) ∧ Below w.heap.size w wr))
  case atStart => exact ⟨0, rfl, Nat.zero_le _, by omega, fun x hx => by simp at hx, A.out⟩
  case round =>
    obtain ⟨i, rfl, hin, hg, I⟩ := hrel
    by_cases hlt : i < len0
    · have hlt2 : (i : Int) < (len0 : Int) := by omega
      obtain ⟨x, hx⟩ : ∃ x, z0[i]? = some x := ⟨_, List.getElem?_eq_getElem (by rw [← HL.out]; exact hlt)⟩
      obtain ⟨b, o, rfl, hb, hcl⟩ := HR.out.cell i x hx
      have hc' := hcl.below I.out.2.drew hb
      have x0 := hc'.c0
      have x1 := hc'.c1
      have hc2 := hcl.below I.out.2 hb
      have y0 := hc2.c0
      have y1 := hc2.c1
      have TA : Hid (x.key.length ≤ 300 ∧ x.value.length ≤ 1200 → ∀ y ∈ z0.take (i + 1), y.key.length ≤ 300 ∧ y.value.length ≤ 1200) := fun hxx y hy => by
        rw [List.take_add_one, hx] at hy
        simp at hy
        rcases hy with hy | rfl
        · exact I.out.1 y (by simpa using hy)
        · exact hxx
      have hks := hide (txt_size x.key)
      have hvs := hide (txt_size x.value)
      clear hc' hc2 hx hcl
      by_cases d1 : 300 < (txt x.key).size
      · have d1' : ((300 : Int) < ((txt x.key).size : Int)) = True := eq_true (by omega)
        clear d1
        go_wp2
        go_ret
        exact ⟨rfl, I.out.2⟩
      have d1' : ((300 : Int) < ((txt x.key).size : Int)) = False := eq_false (by omega)
      by_cases d2 : 1200 < (txt x.value).size
      · have d2' : ((1200 : Int) < ((txt x.value).size : Int)) = True := eq_true (by omega)
        clear d1 d2
        go_wp2
        go_ret
        exact ⟨rfl, I.out.2⟩
      have d2' : ((1200 : Int) < ((txt x.value).size : Int)) = False := eq_false (by omega)
      have TB := hide (TA.out ⟨by rw [← hks.out]; omega, by rw [← hvs.out]; omega⟩)
      clear d1 d2 TA
      go_wp2
      have hwi := hide (show wrap64 ((i : Int) + 1) = ((i + 1 : Nat) : Int) by have := L1.out; unfold wrap64; omega)
      go_roundg (len0 - (i + 1))
      case measure => omega
      case rel => exact ⟨i + 1, by rw [hwi.out], by omega, by omega, TB.out, I.out.2⟩
    · obtain rfl : i = len0 := by omega
      have hlt2 : ¬ (i : Int) < (i : Int) := by omega
      have hbd : ∀ x ∈ z0, x.key.length ≤ 300 ∧ x.value.length ≤ 1200 := by have := I.out.1; rwa [HL.out, List.take_length] at this
      have HF : Hid (∀ x ∈ z0, x.fits ∧ x.key.length ≤ 140737488351232 ∧ x.value.length ≤ 140737488351232) := fun x hx => ⟨HR.out.fits x hx, by have := hbd x hx; omega, by have := hbd x hx; omega⟩
      have RW := hide (HR.out.below I.out.2)
      have BI := hide I.out.2
      clear hbd I
      obtain ⟨g, c, wA, hrA, hoA, hBA⟩ := append_its wr a0 i cap0 z0 RW.out (by have := L1.out; omega)
      have HRA := hide hrA
      obtain ⟨ag, cg, hv, hig, _⟩ := own_its hoA HL.out HF.out
      simp only [Value.slice.injEq, true_and] at hv
      obtain ⟨rfl, rfl⟩ := hv
      have IG := hide hig
      have BA := hide hBA
      clear hrA hoA hBA hig
      have cY := hide (fun (W : World) (h : Below wr.heap.size wr W) => refLay_any a0 i cap0 z0 a1 K1.out.1 K1.out.2 (by have := L1.out; omega) W (RW.out.below h))
      rcases lay_cases z0 a1 K1.out.1 with ⟨k, hk0, eS, cL⟩ | ⟨hgood, R, rfl, hR, hfit, eS⟩
      · rw [eS] at cY
        have CL := hide (cL (some ⟨g, 0, none⟩) i c wA (by have := L1.out; omega) IG.out)
        have sN : ∀ W : World, (convert 23 9 (.slice none 0 0)).run Try.prog W = .ok (.string (txt [])) W := fun W => str_bs (w := W) (a := none) (n := 0) (cap := 0) (l := []) (BS.mk' rfl (Nat.le_refl _) (Reads.nil _ _)) (fun _ => rfl)
        clear eS cL
        generalize txt [] = nb at cY sN
        go_wp2_with (at_builtin; refine Lib.wpList_append_run _ rfl _ _ _ _ rfl _ _ rfl rfl _ _ HRA.out ?_)
        refine CL.out.mono ?_
        rintro r w3 ⟨rfl, h3⟩
        have B3 := hide (BA.out.trans (h3.mono BA.out.size))
        clear h3 CL
        go_wp2_with fail
        refine (cY.out _ B3.out).mono ?_
        rintro r w4 ⟨rfl, h4⟩
        have B4 := hide (B3.out.trans (h4.mono B3.out.size))
        clear h4 cY
        go_wp2
        go_ret
        exact ⟨rfl, BI.out.trans (B4.out.mono BI.out.size)⟩
      · rw [eS] at cY
        have CL := hide (lay_ok (some ⟨g, 0, none⟩) i c z0 R hR (by have := L1.out; omega) wA IG.out hgood hfit)
        have HG := hide hgood
        have HRR := hide hR
        have HFT := hide hfit
        clear eS hgood hR hfit
        go_wp2_with (at_builtin; refine Lib.wpList_append_run _ rfl _ _ _ _ rfl _ _ rfl rfl _ _ HRA.out ?_)
        refine CL.out.mono ?_
        rintro r w3 ⟨gp, rfl, _, bp, h3⟩
        have SP : Hid (BS w3 (some ⟨gp, 0, none⟩) R R (encs z0 ++ List.replicate (R - total z0) 0)) :=
          buf_bs (buf_full bp) (by have := HFT.out; rw [List.length_append, encs_length, List.length_replicate]; omega) (Nat.le_refl _)
        have B3 := hide (BA.out.trans (h3.mono BA.out.size))
        clear h3 CL bp
        have cE : Hid (lst (encs z0 ++ List.replicate (R - total z0) 0) = some z0) := lst_encs z0 _ (fun x hx => ⟨HR.out.fits x hx, List.all_eq_true.1 HG.out x hx⟩) (by cases (R - total z0) <;> simp [take, ended, List.replicate_succ])
        generalize encs z0 ++ List.replicate (R - total z0) 0 = EE at cY SP cE
        go_wp2_with fail
        refine (cY.out _ B3.out).mono ?_
        rintro r w4 ⟨rfl, h4⟩
        have B4 := hide (B3.out.trans (h4.mono B3.out.size))
        replace SP := hide (SP.out.later h4)
        clear h4 cY
        have sP : (convert 23 9 (.slice (some ⟨gp, 0, none⟩) R R)).run Try.prog w4 = .ok (.string (txt EE)) w4 := str_bs SP.out (fun h => by cases h)
        have cK := hide (list_any take_is _ _ _ _ (by have := HRR.out; omega) w4 SP.out)
        rw [cE.out] at cK
        generalize txt EE = et at sP
        go_wp2_with fail
        refine cK.out.mono ?_
        rintro r w5 ⟨h5, v, rfl, ho⟩
        obtain ⟨aL, kL, rfl, hi, _⟩ := own_its ho rfl HF.out
        have B5 := hide (B4.out.trans (h5.mono B4.out.size))
        have cI := hide (items_same aL a0 z0.length kL cap0 z0 (by have := L1.out; have := HL.out; omega) w5 hi (by have := (RW.out.below B5.out).its (fun x hx => (HF.out x hx).2); rw [HL.out] at this; exact this))
        clear h5 ho hi cK sP
        have hz := HL.out
        subst hz
        go_wp2_with (go_at_call 22; refine cI.out.mono ?_; rintro r w6 ⟨rfl, h6⟩; have B6 := hide (B5.out.trans (h6.mono B5.out.size)); clear h6)
        go_ret
        exact ⟨rfl, BI.out.trans (B6.out.mono BI.out.size)⟩
end Go.Proofs.Ytlmfdibncpbmjaa.recLists
