/-
  Rounds
-/
import Derived.WalkKit
import Derived.Below
import Derived.Test.YtbjkahdlejaheaaRn9
namespace Go.Proofs.Ytbjkahdlejaheaa.regionRounds
open Go.RowKit Go.Deep Math
set_option linter.unusedVariables false
set_option linter.unusedSimpArgs false

set_option maxRecDepth 8000 in
set_option maxHeartbeats 40000000 in
theorem walk (a0 : Int) (a1 : Int) (w : World) (hw0 : (Lit.int .i64 a0).wf = true) (hw1 : (Lit.int .i64 a1).wf = true) :
    Calls Try.prog 6 #[.int .i64 a0, .int .i64 a1] w fun e w' => e = .returned (.bool true) ∧ Below w.heap.size w w' := by
  have ca := hide (awake_any w)
  clear hw0 hw1
  by_cases hpre : a0 < 1 ∨ 4 < a0 ∨ a1 < 0 ∨ 20 < a1
  · go_enter Try.func6, Try.ntmps6
    by_cases e1 : a0 < 1
    · have e1' : (a0 < 1) = True := eq_true e1
      clear e1 hpre
      go_wp2_with fail
      refine ca.out.mono ?_
      rintro r w1 ⟨rfl, h1⟩
      have B1 := hide h1
      clear h1 ca
      go_wp2
      go_ret
      exact ⟨rfl, B1.out⟩
    · have e1' : (a0 < 1) = False := eq_false e1
      by_cases e2 : 4 < a0
      · have e2' : (4 < a0) = True := eq_true e2
        clear e1 e2 hpre
        go_wp2_with fail
        refine ca.out.mono ?_
        rintro r w1 ⟨rfl, h1⟩
        have B1 := hide h1
        clear h1 ca
        go_wp2
        go_ret
        exact ⟨rfl, B1.out⟩
      · have e2' : (4 < a0) = False := eq_false e2
        by_cases e3 : a1 < 0
        · have e3' : (a1 < 0) = True := eq_true e3
          clear e1 e2 e3 hpre
          go_wp2_with fail
          refine ca.out.mono ?_
          rintro r w1 ⟨rfl, h1⟩
          have B1 := hide h1
          clear h1 ca
          go_wp2
          go_ret
          exact ⟨rfl, B1.out⟩
        · have e3' : (a1 < 0) = False := eq_false e3
          have e4' : (20 < a1) = True := eq_true (by omega)
          clear e1 e2 e3 hpre
          go_wp2_with fail
          refine ca.out.mono ?_
          rintro r w1 ⟨rfl, h1⟩
          have B1 := hide h1
          clear h1 ca
          go_wp2
          go_ret
          exact ⟨rfl, B1.out⟩
  obtain ⟨R, rfl⟩ : ∃ n : Nat, a0 = (n : Int) := ⟨a0.toNat, by omega⟩
  obtain ⟨M, rfl⟩ : ∃ n : Nat, a1 = (n : Int) := ⟨a1.toNat, by omega⟩
  have e1' : ((R : Int) < 1) = False := eq_false (by omega)
  have e2' : ((4 : Int) < (R : Int)) = False := eq_false (by omega)
  have e3' : ((M : Int) < 0) = False := eq_false (by omega)
  have e4' : ((20 : Int) < (M : Int)) = False := eq_false (by omega)
  have HN : Hid (1 ≤ R ∧ R ≤ 4 ∧ M ≤ 20) := ⟨by omega, by omega, by omega⟩
  clear hpre
  go_enter Try.func6, Try.ntmps6
  go_wp2_with fail
  refine ca.out.mono ?_
  rintro r w1 ⟨rfl, h1⟩
  have B1 := hide h1
  clear h1 ca
  have cN := hide (new_law B1.out 16 (by omega) (by omega))
  go_wp2_with fail
  refine cN.out.mono ?_
  rintro e w2 ⟨d, F2, rfl, hl2, _⟩
  have cO := hide (open_new hl2 0 R HN.out.1 (by have := HN.out.2.1; omega) (by have := HN.out.2.1; omega))
  clear hl2 cN e1' e2' e3' e4' B1
  go_wp2_with fail
  refine cO.out.mono ?_
  rintro e w4 ⟨l, m, v5, T, S, rfl, G4, hN, _⟩
  have U4 : Hid (RS w d l m R 0 w4) := ⟨F2, S, v5, T, G4, Rnd.new hN, hN.calm, hN.losses, by rw [hN.cs]; rfl⟩
  clear cO G4 hN
  go_wp2_with fail
  have hM : M ≤ 20 := HN.out.2.2
  go_loopg [9] (M + 1) (fun kx s9 wr => ∃ i : Nat, s9 = .int .i64 i ∧ 1 ≤ i ∧ i ≤ M + 1 ∧ M + 1 - i ≤ kx ∧ Hid (RS w d l m R (i - 1) wr))
  case atStart => exact ⟨1, rfl, by omega, by omega, by omega, U4.out⟩
  case round =>
    obtain ⟨i, rfl, hi1, hiM, hg, I⟩ := hrel
    by_cases hlt : i ≤ M
    · have hlt2 : ((i : Int) ≤ (M : Int)) = True := eq_true (by omega)
      obtain ⟨j, hj⟩ : ∃ j, i = j + 1 := ⟨i - 1, by omega⟩
      have HJ := hide hj
      clear hj
      have bk := Blk.new wr [.int .u8 (97 + (i : Int))] 5
      have hconv : (convert 41 9 (.slice (some ⟨wr.heap.size, 0, none⟩) 1 1)).run Try.prog (wr.alloc (.cells #[.int .u8 (97 + (i : Int))] 5)) = .ok (.string (txt (kk i))) (wr.alloc (.cells #[.int .u8 (97 + (i : Int))] 5)) := by
        refine run_convert_bytes_back _ 41 9 5 ⟨wr.heap.size, 0, none⟩ 1 (kk i) Try.underlying41 Try.underlying5 Try.underlying9 (fun k hk => ?_)
        have hk0 : k = 0 := by simp [kk] at hk; exact hk
        subst hk0
        rw [Addr.add_lit]
        refine (bk.cell (i := 0) rfl).trans ?_
        have e : (UInt8.ofNat (97 + i)).toNat = 97 + i := by simp; omega
        simp only [kk, List.getElem_cons_zero, e]
        rfl
      have cIt := hide (it_any (txt (kk i)) i (wr.alloc (.cells #[.int .u8 (97 + (i : Int))] 5)))
      unfold itV at cIt
      have HB : Hid (Below wr.heap.size wr (wr.alloc (.cells #[.int .u8 (97 + (i : Int))] 5))) := (Below.refl _ _).alloc (Nat.le_refl _) _
      obtain ⟨F, S, v5a, T, hG, hR, hS⟩ : RS w d l m R j wr := by have := I.out; rw [HJ.out] at this; exact this
      have HG := hide (hG.below HB.out)
      have HR := hide hR
      have HS := hide hS
      have OK := hide (it9_ok (kk i) i (by show 1 ≤ 1; omega) (by show 1 ≤ 250; omega) (by omega) (by omega))
      clear bk I U4 hG hR hS HB
      generalize hkb : txt (kk i) = kb at *
      have HKB := hide hkb
      clear hkb
      go_wp2_with fail
      refine cIt.out.mono ?_
      rintro e w5 ⟨rfl, b5⟩
      have G5 := HG.out.below b5
      have hcont0 : T.cont = [] := by unfold Lg.cont; rw [HR.out.opn]; rfl
      have cP := hide (put_room G5.lg (it9 (kk i) i) OK.out.1 OK.out.2 (by rw [hcont0]; show 0 + 34 ≤ 1472; omega) (by have := HR.out.cap; have := HJ.out; omega) (by rw [HR.out.opn]; decide))
      rw [show (it9 (kk i) i).val = .agg #[.string kb, .string ⟨#[118]⟩, .int .u32 0, .int .i64 0, .int .u64 (i : Int)] by rw [← HKB.out]; rfl] at cP
      have HG5 := hide G5
      clear cIt b5 G5 hcont0 HG hconv
      go_wp2_with fail
      refine cP.out.mono ?_
      rintro e w6 ⟨rfl, v6, v7, hL6, hK6, h66, h76⟩
      have G6 := HG5.out.put hL6 hK6 h66 h76
      have cS := hide (round_seal G6 HR.out HS.out HN.out.1 HN.out.2.1 (by have := HJ.out; omega) (by show it9 (kk i) i = _; rw [HJ.out]))
      clear cP hL6 hK6 h66 h76 G6 HG5
      go_wp2_with fail
      refine cS.out.mono ?_
      rintro e w7 ⟨va, vn, vc, v57, F7, S7, T7, rfl, hvn, hrow, G7, hR7, hS7⟩
      have cNu := hide (number_log G7.lg)
      rw [hR7.num, ← HJ.out] at cNu
      have US : Hid (RS w d l m R (i + 1 - 1) w7) := by show RS w d l m R i w7; rw [HJ.out]; exact ⟨F7, S7, v57, T7, G7, hR7, hS7⟩
      clear cS G7 hR7 hS7 HR HS
      by_cases hRj : R ≤ j
      · have hl : lostR R j = [it9 (kk (j + 1 - R)) (j + 1 - R)] := by unfold lostR; rw [if_pos hRj]
        rw [hl] at hvn hrow
        have hri : ((R : Int) < (i : Int)) = True := eq_true (by have := HJ.out; omega)
        have hv1 : vn = 1 := hvn
        subst hv1
        have hok2 := it9_ok (kk (j + 1 - R)) (j + 1 - R) (by show 1 ≤ 1; omega) (by show 1 ≤ 250; omega) (by omega) (by have := HJ.out; omega)
        obtain ⟨a0, cap0, he0, hIt, _, hcap0, _⟩ := hrow.its (fun x hx => by
          simp only [List.mem_singleton] at hx
          rw [hx]
          exact ⟨hok2.1, by show 1 ≤ 140737488351232; omega, by show 1 ≤ 140737488351232; omega⟩)
        simp only [Value.slice.injEq] at he0
        obtain ⟨rfl, hq9, rfl⟩ := he0
        clear hq9
        obtain ⟨gb, go, rfl, _, hc⟩ := hIt.cell 0 _ rfl
        have c4 := hc.c4
        have ev : (((it9 (kk (j + 1 - R)) (j + 1 - R)).ver : Nat) : Int) = (i : Int) - (R : Int) := by show ((j + 1 - R : Nat) : Int) = _; have := HJ.out; omega
        rw [ev] at c4
        have qw : IntKind.u64.wrap (wrap64 ((i : Int) - (R : Int))) = (i : Int) - (R : Int) := by
          rw [IntKind.wrap_u64]
          unfold wrap64
          have := HJ.out
          omega
        simp only [Nat.zero_mul, Nat.add_zero] at c4
        clear hvn hrow hok2 hIt hc ev hl hcap0
        go_wp2_with fail
        refine cNu.out.mono ?_
        rintro e w8 ⟨rfl, h8⟩
        subst h8
        clear cNu
        go_wp2
        go_roundg (M + 1 - (i + 1))
        case measure => omega
        case rel => exact ⟨i + 1, rfl, by omega, by omega, by omega, US.out⟩
      · have hl : lostR R j = [] := by unfold lostR; rw [if_neg hRj]
        rw [hl] at hvn hrow
        have hri : ((R : Int) < (i : Int)) = False := eq_false (by have := HJ.out; omega)
        have hv1 : vn = 0 := hvn
        subst hv1
        clear hvn hrow hl
        go_wp2_with fail
        refine cNu.out.mono ?_
        rintro e w8 ⟨rfl, h8⟩
        subst h8
        clear cNu
        go_wp2
        go_roundg (M + 1 - (i + 1))
        case measure => omega
        case rel => exact ⟨i + 1, rfl, by omega, by omega, by omega, US.out⟩
    · have hlt2 : ((i : Int) ≤ (M : Int)) = False := eq_false (by omega)
      obtain ⟨F, S, v5a, T, hG, hR, hS⟩ : RS w d l m R M wr := by have := I.out; rw [show i - 1 = M by omega] at this; exact this
      have hlen := hR.len
      have cI := hide (items_log hG.lg (by omega) (by omega))
      rw [hlen.2.2] at cI
      have HB := hide hG.bel
      clear hG hR hS I U4 hlen
      by_cases hRM : R < M
      · have hrm : ((R : Int) < (M : Int)) = True := eq_true (by omega)
        rw [show M - (M - R) = R by omega] at cI
        go_wp2_with fail
        refine cI.out.mono ?_
        rintro e w9 ⟨xa, xn, xc, rfl, rfl, hrow, b9⟩
        have BE := hide (HB.out.trans (b9.mono HB.out.size))
        clear cI hrow b9
        go_wp2
        go_ret
        exact ⟨rfl, BE.out⟩
      · have hrm : ((R : Int) < (M : Int)) = False := eq_false (by omega)
        rw [show M - (M - R) = M by omega] at cI
        go_wp2_with fail
        refine cI.out.mono ?_
        rintro e w9 ⟨xa, xn, xc, rfl, rfl, hrow, b9⟩
        have BE := hide (HB.out.trans (b9.mono HB.out.size))
        clear cI hrow b9
        go_wp2
        go_ret
        exact ⟨rfl, BE.out⟩
end Go.Proofs.Ytbjkahdlejaheaa.regionRounds
