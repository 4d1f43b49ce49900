/-
  Numbers
-/
import Derived.WalkKit
import Derived.Below
import Derived.Test.YtbjkahdlejaheabRun9
import Derived.Test.YtbjkahdlejaheabRItems
import Derived.Test.YtbjkahdlejaheabRRow
namespace Go.Proofs.Ytbjkahdlejaheab.regionNumbers
open Go.RowKit Go.Deep Math
set_option linter.unusedVariables false
set_option linter.unusedSimpArgs false

theorem run_mono {R k : Nat} {S : Dv} {T : Lg} (h : Run9 R k S T) : Run9 R (k + 1) S T :=
  ⟨h.calm, h.losses, h.room, h.first', h.regions', Nat.le_succ_of_le h.num, Nat.le_succ_of_le h.cap, Nat.le_succ_of_le h.regs, Nat.le_succ_of_le h.all, h.cont, h.oks, h.pos⟩
def NS (w : World) (d l m k : Nat) (W : World) : Prop := ∃ F S v5 v6 v7 T, LG w W d F S l m v5 v6 v7 T ∧ Run9 1 k S T ∧ (T.opn = [] → T.num = 0)
theorem xor_ne (a c : UInt8) (h : c ≠ 0) : a ^^^ c ≠ a := by
  intro e
  apply h
  have : a ^^^ (a ^^^ c) = a ^^^ a := by rw [e]
  simpa [← UInt8.xor_assoc] using this
theorem bits_xor_u8 (a c : UInt8) : bits .xor .u8 (a.toNat : Int) (c.toNat : Int) = ((a ^^^ c).toNat : Int) := by
  rw [u8_xor_nat _ _ (by have := a.toNat_lt; omega) (by have := c.toNat_lt; omega), UInt8.toNat_xor]
theorem lg_cell {w0 W : World} {d : Nat} {F : List Nat} {S : Dv} {l m : Nat} {v5 v6 v7 : Value} {T : Lg} (G : LG w0 W d F S l m v5 v6 v7 T) (g i : Nat) (v : Value) (h0 : w0.heap.size ≤ g) (hl : g ∉ lblocks l m v5 v6 v7 T) (hF : g ∉ F) : LG w0 (W.setCell ⟨g, i, none⟩ v) d F S l m v5 v6 v7 T := by
  have hs : ∀ q, q ≠ g → (W.setCell ⟨g, i, none⟩ v).heap[q]? = W.heap[q]? := fun q hq => blk_setCell_other W ⟨g, i, none⟩ v q hq
  refine ⟨G.lg.same (fun q hq => hs q (fun e => hl (e ▸ hq))), G.dev.same (fun q hq => hs q (fun e => hF (e ▸ hq))), G.bel.trans (((Keep.refl [g] W).setCell (p := ⟨g, i, none⟩) (.inl (by simp)) v).below (fun q hq => by simp only [List.mem_singleton] at hq; rw [hq]; exact h0) G.bel.size), G.lowF, G.lowL⟩
theorem flip_cnt {cs : List Cl} {n P : Nat} (PF : ∀ k, k < 4 → ∃ l, fmAt cs k = some l ∧ fmPlace l = k ∧ fmNum l = n) (hP : P < 4) (hlen : P < cs.length) (l' : List UInt8) (hl' : l'.length = 384) (hf' : isForm l' = true) (hn' : fmNum l' ≠ n) :
    cnt (putAt cs P (.whole ⟨l'.toArray⟩)) 0 = none ∧ n ≤ maxNum 0 (forms (putAt cs P (.whole ⟨l'.toArray⟩)) 0 4) := by
  have PF' : ∀ k, ∃ l, k < 4 → (fmAt cs k = some l ∧ fmPlace l = k ∧ fmNum l = n) := fun k => by
    by_cases h : k < 4
    · obtain ⟨l, hl⟩ := PF k h
      exact ⟨l, fun _ => hl⟩
    · exact ⟨[], fun h' => absurd h' h⟩
  obtain ⟨f0, hf0⟩ : ∃ f0 : Nat → List UInt8, ∀ k, k < 4 → (fmAt cs k = some (f0 k) ∧ fmPlace (f0 k) = k ∧ fmNum (f0 k) = n) := ⟨fun k => Classical.choose (PF' k), fun k => Classical.choose_spec (PF' k)⟩
  obtain ⟨f, hf⟩ : ∃ f : Nat → List UInt8, f = fun k => if k = P then l' else f0 k := ⟨_, rfl⟩
  have hfP : f P = l' := by rw [hf]; simp
  have hfo : ∀ k, k ≠ P → f k = f0 k := fun k hk => by rw [hf]; simp [hk]
  have h : ∀ k, k < 4 → fmAt (putAt cs P (.whole ⟨l'.toArray⟩)) (0 + k) = some (f k) := fun k hk => by
    rw [Nat.zero_add]
    by_cases e : k = P
    · rw [e, hfP]; exact fm_put_same cs P l' hlen hl' hf'
    · rw [fm_put_other cs P k _ e, hfo k e]; exact (hf0 k hk).1
  by_cases e : P = 0
  · refine ⟨cnt_odd f h 1 (by omega) (.inr ?_), max_four f h n 1 (by omega) (by rw [hfo 1 (by omega)]; exact (hf0 1 (by omega)).2.2) 0⟩
    rw [hfo 1 (by omega), (hf0 1 (by omega)).2.2, ← e, hfP]
    exact Ne.symm hn'
  · refine ⟨cnt_odd f h P hP (.inr ?_), max_four f h n 0 (by omega) (by rw [hfo 0 (Ne.symm e)]; exact (hf0 0 (by omega)).2.2) 0⟩
    rw [hfP, hfo 0 (Ne.symm e), (hf0 0 (by omega)).2.2]
    exact hn'
set_option maxRecDepth 8000 in
set_option maxHeartbeats 40000000 in
theorem walk (a0 : Option Addr) (len0 cap0 : Nat) (z0 : List It) (a1 : Int) (a2 : Int) (a3 : Int) (w : World) (hw0 : RawAt w a0 len0 z0) (hw1 : (Lit.int .i64 a1).wf = true) (hw2 : (Lit.int .i64 a2).wf = true) (hw3 : (Lit.int .u8 a3).wf = true) :
    Calls Try.prog 5 #[.slice a0 len0 cap0, .int .i64 a1, .int .i64 a2, .int .u8 a3] w fun e w' => e = .returned (.bool true) ∧ Below w.heap.size w w' := by
  have ca := hide (awake_any w)
  have HW := hide hw0
  have HLEN := hide hw0.len
  have h3b : 0 ≤ a3 ∧ a3 < 256 := by
    have h1 : IntKind.u8.min = 0 := rfl
    have h2 : IntKind.u8.max = 255 := rfl
    simp [Lit.wf, h1, h2] at hw3
    omega
  clear hw0 hw1 hw2 hw3
  by_cases hpre : len0 = 0 ∨ 20 < len0 ∨ a1 < 0 ∨ 3 < a1 ∨ a2 < 0 ∨ 7 < a2 ∨ a3 = 0
  · go_enter Try.func5, Try.ntmps5
    by_cases q0 : len0 = 0
    · have e1' : ((len0 : Int) == 0) = true := by simp; omega
      clear hpre h3b q0
      go_wp2_with fail
      refine ca.out.mono ?_
      rintro r w1 ⟨rfl, h1⟩
      have B1 := hide h1
      clear h1 ca
      go_wp2
      go_ret
      exact ⟨rfl, B1.out⟩
    have e1' : ((len0 : Int) == 0) = false := by simp; omega
    by_cases q1 : 20 < len0
    · have e2' : ((20 : Int) < (len0 : Int)) = True := eq_true (by omega)
      clear hpre h3b q0 q1
      go_wp2_with fail
      refine ca.out.mono ?_
      rintro r w1 ⟨rfl, h1⟩
      have B1 := hide h1
      clear h1 ca
      go_wp2
      go_ret
      exact ⟨rfl, B1.out⟩
    have e2' : ((20 : Int) < (len0 : Int)) = False := eq_false (by omega)
    by_cases q2 : a1 < 0
    · have e3' : (a1 < 0) = True := eq_true (by omega)
      clear hpre h3b q0 q1 q2
      go_wp2_with fail
      refine ca.out.mono ?_
      rintro r w1 ⟨rfl, h1⟩
      have B1 := hide h1
      clear h1 ca
      go_wp2
      go_ret
      exact ⟨rfl, B1.out⟩
    have e3' : (a1 < 0) = False := eq_false (by omega)
    by_cases q3 : 3 < a1
    · have e4' : (3 < a1) = True := eq_true (by omega)
      clear hpre h3b q0 q1 q2 q3
      go_wp2_with fail
      refine ca.out.mono ?_
      rintro r w1 ⟨rfl, h1⟩
      have B1 := hide h1
      clear h1 ca
      go_wp2
      go_ret
      exact ⟨rfl, B1.out⟩
    have e4' : (3 < a1) = False := eq_false (by omega)
    by_cases q4 : a2 < 0
    · have e5' : (a2 < 0) = True := eq_true (by omega)
      clear hpre h3b q0 q1 q2 q3 q4
      go_wp2_with fail
      refine ca.out.mono ?_
      rintro r w1 ⟨rfl, h1⟩
      have B1 := hide h1
      clear h1 ca
      go_wp2
      go_ret
      exact ⟨rfl, B1.out⟩
    have e5' : (a2 < 0) = False := eq_false (by omega)
    by_cases q5 : 7 < a2
    · have e6' : (7 < a2) = True := eq_true (by omega)
      clear hpre h3b q0 q1 q2 q3 q4 q5
      go_wp2_with fail
      refine ca.out.mono ?_
      rintro r w1 ⟨rfl, h1⟩
      have B1 := hide h1
      clear h1 ca
      go_wp2
      go_ret
      exact ⟨rfl, B1.out⟩
    have e6' : (7 < a2) = False := eq_false (by omega)
    have e7' : (a3 == 0) = true := by simp; omega
    clear hpre h3b q0 q1 q2 q3 q4 q5
    go_wp2_with fail
    refine ca.out.mono ?_
    rintro r w1 ⟨rfl, h1⟩
    have B1 := hide h1
    clear h1 ca
    go_wp2
    go_ret
    exact ⟨rfl, B1.out⟩
  obtain ⟨P, rfl⟩ : ∃ n : Nat, a1 = (n : Int) := ⟨a1.toNat, by omega⟩
  obtain ⟨at0, rfl⟩ : ∃ n : Nat, a2 = (n : Int) := ⟨a2.toNat, by omega⟩
  obtain ⟨c, hcv⟩ : ∃ c : UInt8, (c.toNat : Int) = a3 := ⟨UInt8.ofNat a3.toNat, by rw [UInt8.toNat_ofNat']; omega⟩
  have HC0 : Hid (c ≠ 0) := fun h => by
    rw [h] at hcv
    have : a3 = 0 := by simpa using hcv.symm
    omega
  have HCV := hide hcv
  have e1' : ((len0 : Int) == 0) = false := by simp; omega
  have e2' : ((20 : Int) < (len0 : Int)) = False := eq_false (by omega)
  have e3' : ((P : Int) < 0) = False := eq_false (by omega)
  have e4' : (3 < (P : Int)) = False := eq_false (by omega)
  have e5' : ((at0 : Int) < 0) = False := eq_false (by omega)
  have e6' : (7 < (at0 : Int)) = False := eq_false (by omega)
  have e7' : (a3 == 0) = false := by simp; omega
  have HN : Hid (1 ≤ len0 ∧ len0 ≤ 20 ∧ P < 4 ∧ at0 < 8) := ⟨by omega, by omega, by omega, by omega⟩
  have hP4 : (P : Int) < 4 := by omega
  have hat8 : (at0 : Int) < 8 := by omega
  have hl20 : len0 ≤ 20 := by omega
  clear hpre hcv h3b
  go_enter Try.func5, Try.ntmps5
  go_wp2_with fail
  refine ca.out.mono ?_
  rintro r w1 ⟨rfl, h1⟩
  have B1 := hide h1
  clear h1 ca
  have cN := hide (new_law B1.out 4 (by omega) (by omega))
  go_wp2_with fail
  refine cN.out.mono ?_
  rintro e w2 ⟨d, F2, rfl, hl2, _⟩
  have cO := hide (open_new hl2 0 1 (by omega) (by omega) (by omega))
  clear hl2 cN e1' e2' e3' e4' e5' e6' e7' B1
  go_wp2_with fail
  refine cO.out.mono ?_
  rintro e w4 ⟨l, m, v5, T, S, rfl, G4, hN, _⟩
  have U4 : Hid (NS w d l m 0 w4) := ⟨F2, S, v5, _, _, T, G4, Run9.new hN (by omega), fun _ => hN.num⟩
  clear cO G4 hN
  go_wp2_with fail
  go_loopg [13] len0 (fun kx s13 wr => ∃ i : Nat, s13 = .int .i64 i ∧ i ≤ len0 ∧ len0 - i ≤ kx ∧ Hid (NS w d l m i wr))
  case atStart => exact ⟨0, rfl, Nat.zero_le _, by omega, U4.out⟩
  case round =>
    obtain ⟨i, rfl, hin, hg, I⟩ := hrel
    obtain ⟨F, S, v5, v6, v7, T, hG, hR, h0⟩ := I.out
    have G := hide hG
    have R := hide hR
    have H0 := hide h0
    clear I hG hR h0 U4
    by_cases hlt : i < len0
    · have hlt2 : (i : Int) < (len0 : Int) := by omega
      obtain ⟨x, hx⟩ : ∃ x, z0[i]? = some x := ⟨_, List.getElem?_eq_getElem (by rw [← HLEN.out]; exact hlt)⟩
      have HXF := hide (HW.out.fits x (List.mem_of_getElem? hx))
      obtain ⟨b, o, rfl, hb, hc⟩ := HW.out.cell i x hx
      have XW : Hid (∀ w', Below w.heap.size w w' → OneIt w' b (o + i * 5) x) := fun w' hb' => hc.below hb' hb
      clear hx hb hc
      obtain ⟨c0, c1, c2, c3, c4⟩ := (XW.out wr G.out.bel).vals
      have cP := hide (put_run G.out R.out (by omega) (by omega) (by omega) x HXF.out)
      rw [show x.val = .agg #[.string (txt x.key), .string (txt x.value), .int .u32 x.flags, .int .i64 x.exp, .int .u64 x.ver] from rfl] at cP
      go_wp2_with fail
      refine cP.out.mono ?_
      rintro e w5 hor
      have KE : Hid (NS w d l m (i + 1) w5 ∧ ∃ v, e = .returned v) := by
        rcases hor with ⟨_, rfl, b5⟩ | ⟨_, va, vn, vc, v5', v6', v7', F', S', T', ls, rfl, _, _, G5, R5, hcs⟩
        · exact ⟨⟨F, S, v5, v6, v7, T, G.out.below b5, run_mono R.out, H0.out⟩, _, rfl⟩
        · refine ⟨⟨F', S', v5', v6', v7', T', G5, R5, fun h => ?_⟩, _, rfl⟩
          rcases hcs with ⟨_, _, rfl, _⟩ | ⟨_, _, rfl, _⟩
          · exact absurd h (by show _ ++ [_] ≠ []; simp)
          · exact absurd h (by show _ ++ [_] ≠ []; simp)
      obtain ⟨v, rfl⟩ := KE.out.2
      clear hor cP c0 c1 c2 c3 c4
      go_wp2
      go_roundg (len0 - (i + 1))
      case measure => omega
      case rel => exact ⟨i + 1, rfl, by omega, by omega, KE.out.1⟩
    · obtain rfl : i = len0 := by omega
      have hlt2 : ¬ (i : Int) < (i : Int) := by omega
      have cS := hide (seal_run G.out R.out (by omega) (by omega) (by omega))
      go_wp2_with fail
      refine cS.out.mono ?_
      rintro e w5 (⟨ho, rfl, h5⟩ | ⟨ho, va, vn, vc, v5', F', S', rfl, hvn, hrow, G5, hcs5, hcalm5, hlos5⟩)
      · obtain rfl : w5 = wr := h5
        have cNu := hide (number_log G.out.lg)
        rw [H0.out ho] at cNu
        have BE := hide G.out.bel
        clear cS ho G R H0
        go_wp2_with fail
        refine cNu.out.mono ?_
        rintro e w6 ⟨rfl, h6⟩
        subst h6
        clear cNu
        go_wp2
        go_ret
        exact ⟨rfl, BE.out⟩
      · have hnx : T.next = 0 := by unfold Lg.next; rw [R.out.regions', Nat.mod_one]
        rw [hnx] at hcs5
        have cNu := hide (number_log G5.lg)
        obtain ⟨n, hn⟩ : ∃ n, n = T.num + 1 := ⟨_, rfl⟩
        rw [show (T.cut v6).num = n from hn.symm] at cNu
        rw [← hn] at hcs5
        have hn1 : 1 ≤ n ∧ n ≤ 21 := by have := R.out.num; omega
        have hnb : ((n : Int) == 0) = false := by simp; omega
        have hroom : 4 ≤ S.cs.length := by have := R.out.room; omega
        have cR := hide (read_sealed G5 hcalm5 S.cs n T.cont hcs5 hroom (by omega) P HN.out.2.2.1)
        have PF : Hid (∀ k, k < 4 → ∃ l, fmAt S'.cs k = some l ∧ fmPlace l = k ∧ fmNum l = n) := fun k hk => by
          have := put4_form S.cs 0 n T.cont (by omega) (by omega) k hk
          rw [Nat.zero_add] at this
          rw [hcs5]; exact this
        have HL4 : Hid (4 ≤ S'.cs.length) := by show _ ≤ _; rw [hcs5, put4_length]; exact hroom
        have HNN := hide hn1
        have HTN : Hid ((T.cut v6).num = n) := hn.symm
        have HLB := hide (And.intro G5.lg.lt (And.intro G5.dev.lt G5.bel.size))
        clear cS ho hvn hrow G5 hcs5 hcalm5 hlos5 hnx hn hn1 hroom G R H0
        generalize T.cut v6 = T5 at *
        go_wp2_with fail
        refine cNu.out.mono ?_
        rintro e w6 ⟨rfl, h6⟩
        obtain rfl : w6 = w5 := h6
        clear cNu
        go_wp2_with fail
        refine cR.out.mono ?_
        rintro e w7 ⟨l9, S7, rfl, hb7, hl9, hfm, G7, hcs7, hcalm7, hlos7⟩
        obtain ⟨g, hg9⟩ : ∃ g, g = w6.heap.size + 1 := ⟨_, rfl⟩
        rw [← hg9] at hb7 ⊢
        have hlt9 : 8 + at0 < l9.length := by rw [hl9]; have := HN.out.2.2.2; omega
        obtain ⟨u, hu⟩ : ∃ u, l9[8 + at0]? = some u := ⟨_, List.getElem?_eq_getElem hlt9⟩
        have lc : w7.cell? ⟨g, 8 + at0, none⟩ = some (.int .u8 (u.toNat : Int)) := hb7.cell (by unfold bCells; rw [List.getElem?_map, hu]; rfl)
        have lf := hb7.frozen (8 + at0)
        have hbx := bits_xor_u8 u c
        rw [HCV.out] at hbx
        obtain ⟨hff, hfp, hfn, hfl⟩ := flip_num l9 hl9 (by
          obtain ⟨lx, h1, _, _⟩ := PF.out P HN.out.2.2.1
          unfold fmAt at hfm
          cases hq : S'.cs[P]? with
          | none => rw [hq] at hfm; cases hfm
          | some cc =>
            rw [hq] at hfm
            simp only [Option.bind_some, fmPg] at hfm
            cases ht : pgText cc.now with
            | none => rw [ht] at hfm; cases hfm
            | some ll =>
              rw [ht] at hfm
              simp only [Option.bind_some] at hfm
              split at hfm
              · cases hfm; assumption
              · cases hfm) at0 HN.out.2.2.2 (u ^^^ c) (by rw [hu]; intro e; exact xor_ne u c HC0.out (Option.some.inj e).symm)
        obtain ⟨xv, hxv⟩ : ∃ xv : Int, xv = ((u ^^^ c).toNat : Int) := ⟨_, rfl⟩
        obtain ⟨ub, hub⟩ : ∃ ub : Int, ub = (u.toNat : Int) := ⟨_, rfl⟩
        have hset : Blk (w7.setCell ⟨g, 8 + at0, none⟩ (.int .u8 xv)) g (bCells (l9.set (8 + at0) (u ^^^ c))) 5 := by
          have := hb7.set (8 + at0) (.int .u8 xv)
          rw [hxv] at this ⊢
          rw [show bCells (l9.set (8 + at0) (u ^^^ c)) = (bCells l9).set (8 + at0) (.int .u8 ((u ^^^ c).toNat : Int)) by unfold bCells; rw [List.map_set]]
          exact this
        have hgl : g ∉ lblocks l m v5' (.slice none 0 0) (.slice none 0 0) T5 := fun hm => by have := HLB.out.1 g hm; omega
        have hgF : g ∉ F' := fun hm => by have := HLB.out.2.1 g hm; omega
        have G8 := lg_cell G7 g (8 + at0) (.int .u8 xv) (by have := HLB.out.2.2; omega) hgl hgF
        obtain ⟨W8, hW8⟩ : ∃ W8, W8 = w7.setCell ⟨g, 8 + at0, none⟩ (.int .u8 xv) := ⟨_, rfl⟩
        have hPl : P < S7.cs.length := by rw [hcs7]; have := HL4.out; have := HN.out.2.2.1; omega
        have cW := hide (write_page G8 hcalm7 P hPl g _ hfl hset)
        have hfc := flip_cnt (cs := S7.cs) (by rw [hcs7]; exact PF.out) HN.out.2.2.1 hPl _ hfl hff (by
          obtain ⟨lx, h1, _, h3⟩ := PF.out P HN.out.2.2.1
          have : lx = l9 := by rw [hfm] at h1; exact (Option.some.inj h1).symm
          rw [← h3, this]; exact hfn)
        have HFC := hide (And.intro hfc (show 4 ≤ S7.cs.length by rw [hcs7]; exact HL4.out))
        rw [← hub] at lc hbx
        rw [← hxv] at hbx
        clear cR hb7 hl9 hfm G7 hcs7 hlos7 hlt9 hu hff hfp hfn hfl hxv hub hset hgl hgF G8 hW8 hPl hfc hg9 hcalm7
        generalize l9.set (8 + at0) (u ^^^ c) = l8 at *
        go_wp2_with fail
        refine cW.out.mono ?_
        rintro e w9 ⟨rfl, F9, S9, G9, hcs9, hcalm9, hlos9⟩
        have cO := hide (open_none G9 hcalm9 (by rw [hcs9, putAt_length]; exact HFC.out.2) (by rw [hcs9]; exact HFC.out.1.1))
        have HC9 := hide hcs9
        clear cW G9 hcs9 hcalm9 hlos9 lc lf hbx
        go_wp2_with fail
        refine cO.out.mono ?_
        rintro e wa ⟨lh, mh, v5h, v6h, v7h, Th, Sh, rfl, hLh, hit, hall, hregs, hnum, Gh⟩
        have cI := hide (items_log hLh (by rw [hall]; simp) (by rw [hregs]; simp))
        rw [hit] at cI
        obtain ⟨N, hN⟩ : ∃ N, N = Th.num := ⟨_, rfl⟩
        have hge : ((n : Int) ≤ (N : Int)) = True := eq_true (by
          have := HFC.out.1.2
          rw [← HC9.out, ← hnum, ← hN] at this
          omega)
        have HNU := hide hN
        have HLH := hide hLh
        have HGH := hide Gh
        clear cO hLh hit hall hregs hnum Gh hN
        go_wp2_with fail
        refine cI.out.mono ?_
        rintro e wb ⟨xa, xn, xc, rfl, hxn, hrw, bb⟩
        have hxn0 : xn = 0 := hxn
        subst hxn0
        have cN1 := hide (number_log (HLH.out.below bb))
        rw [← HNU.out] at cN1
        have cN2 := hide (number_log (HGH.out.below bb).lg)
        rw [HTN.out] at cN2
        have BE := hide (HGH.out.below bb).bel
        clear cI hxn hrw bb
        go_wp2_with fail
        refine cN1.out.mono ?_
        rintro e wc ⟨rfl, hc1⟩
        obtain rfl : wc = wb := hc1
        clear cN1
        go_wp2_with fail
        refine cN2.out.mono ?_
        rintro e wd ⟨rfl, hd1⟩
        obtain rfl : wd = wc := hd1
        clear cN2
        go_wp2
        go_ret
        exact ⟨rfl, BE.out⟩
end Go.Proofs.Ytbjkahdlejaheab.regionNumbers
