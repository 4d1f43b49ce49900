/-
  Pages that are left and those that classes have are together the pages: proof of the law 'SlabLeft'. No conditions.
-/
import Derived.Test.YteeanaoglcpaaabDoorCards
import Derived.Test.YteeanaoglcpaaabDoorTie
import Derived.WalkKit
import Derived.ProofKit
import Derived.OpenShut
import Derived.ShutString
import Derived.ChangeOld
import Derived.Deep.DeepHandedRow
import Derived.Lib.LaidTab
import Derived.Stop.LaidErr
import Derived.LaidMore
import Derived.Test.YteeanaoglcpaaabDoorActs
import Derived.Test.YteeanaoglcpaaabDoorSt
namespace Go.Proofs.YteeanaoglcpaaabDoor.slabLeft
open Go.ChangeShapes Go.WideShapes Go.ChangeAt Go.RowKit Go.Deep Go.Shelf Math
set_option linter.unusedVariables false
set_option linter.unusedSimpArgs false

theorem quo_many (c : Nat) (hc : c < 6) : (4096 : Int) / ((64 * 2 ^ c : Nat) : Int) = (many c : Int) ∧ 1 ≤ 64 * 2 ^ c ∧ 64 * 2 ^ c ≤ 2048 := by
  rcases (show c = 0 ∨ c = 1 ∨ c = 2 ∨ c = 3 ∨ c = 4 ∨ c = 5 by omega) with rfl | rfl | rfl | rfl | rfl | rfl <;> decide
/-- The pages of none, and those of the first k classes. -/
def sumO (l : List Pg) : Nat → Nat
  | 0 => ownd (-1) l
  | k + 1 => sumO l k + ownd (k : Int) l
theorem sumO_le (l : List Pg) (hn : l.length ≤ 20) : ∀ k, sumO l k ≤ 20 * (k + 1)
  | 0 => Nat.le_trans (ownd_le _ _) (by omega)
  | k + 1 => by have := sumO_le l hn k; have h2 := ownd_le (k : Int) l; show sumO l k + _ ≤ _; omega
theorem sumO_six {l : List Pg} (hg : Good l) : sumO l 6 = l.length := by
  induction l with
  | nil => rfl
  | cons p l ih =>
    have h := ih (fun q hq => hg q (List.mem_cons_of_mem _ hq))
    have hp := hg p (by simp)
    simp only [sumO, ownd, List.length_cons] at h ⊢
    rcases hp with ⟨hc, _⟩ | ⟨c, hc6, hc, _⟩
    · rw [hc]
      simp
      simp at h
      omega
    · rw [hc]
      rcases (show c = 0 ∨ c = 1 ∨ c = 2 ∨ c = 3 ∨ c = 4 ∨ c = 5 by omega) with rfl | rfl | rfl | rfl | rfl | rfl <;> (simp; simp at h; omega)
theorem usd_own {l : List Pg} (hg : Good l) (c : Nat) : usd (c : Int) l ≤ ownd (c : Int) l * many c := by
  induction l with
  | nil => simp [usd]
  | cons p l ih =>
    have h := ih (fun q hq => hg q (List.mem_cons_of_mem _ hq))
    have hp := hg p (by simp)
    simp only [usd, ownd]
    by_cases hc : p.c = (c : Int)
    · rw [if_pos hc, if_pos hc, Nat.add_mul, Nat.one_mul]
      rcases hp with ⟨h1, _⟩ | ⟨d, _, hd, ht⟩
      · omega
      · obtain rfl : d = c := by omega
        have := pop_bound (n := 64) ht (many_le d)
        omega
    · rw [if_neg hc, if_neg hc, Nat.zero_add, Nat.zero_add]
      exact h
set_option maxHeartbeats 4000000 in
set_option maxRecDepth 8000 in
/-- The walk: the Go text returns true, and writes nothing that was there. -/
theorem walk (w : World) (a0 : Int) (w0 : (Lit.int .i64 a0).wf = true) (a1 : Option Addr) (len1 cap1 : Nat) (z1 : List ActI) (w1 : ActsAt w a1 len1 z1) (htab : Tab w) :
    Calls Tryd.prog 3 #[.int .i64 a0, .slice a1 len1 cap1] w fun e w' => e = .returned (.bool true) ∧ Below w.heap.size w w' := by
  have ca := hide (awake_any w htab)
  by_cases x0 : a0 < 1
  · clear w0 w1
    go_enter Tryd.func3, Tryd.ntmps3
    go_wp2_with fail
    refine ca.out.mono ?_
    rintro e w1 ⟨rfl, h1⟩
    have B1 := hide h1
    clear h1 ca
    go_wp2
    go_ret
    exact ⟨rfl, B1.out⟩
  by_cases x1 : 20 < a0
  · clear w0 w1
    go_enter Tryd.func3, Tryd.ntmps3
    go_wp2_with fail
    refine ca.out.mono ?_
    rintro e w1 ⟨rfl, h1⟩
    have B1 := hide h1
    clear h1 ca
    go_wp2
    go_ret
    exact ⟨rfl, B1.out⟩
  by_cases x2 : 100 < len1
  · have x3 : (100 : Int) < (len1 : Int) := by omega
    clear w0 w1 x2
    go_enter Tryd.func3, Tryd.ntmps3
    go_wp2_with fail
    refine ca.out.mono ?_
    rintro e w1 ⟨rfl, h1⟩
    have B1 := hide h1
    clear h1 ca
    go_wp2
    go_ret
    exact ⟨rfl, B1.out⟩
  obtain ⟨n, rfl⟩ : ∃ n : Nat, a0 = (n : Int) := ⟨a0.toNat, by omega⟩
  have h1n : 1 ≤ n := by omega
  have hn20 : n ≤ 20 := by omega
  have x3 : ¬ (100 : Int) < (len1 : Int) := by omega
  have hl1 : len1 ≤ 100 := by omega
  have AA := hide w1
  have T := hide htab
  clear w0 w1 htab x2
  go_enter Tryd.func3, Tryd.ntmps3
  go_wp2_with fail
  refine ca.out.mono ?_
  rintro e w1 ⟨rfl, h1⟩
  have cN := hide (new_l h1 T.out n h1n (by omega))
  clear h1 ca
  go_wp2_with fail
  refine cN.out.mono ?_
  rintro e w2 ⟨f, s, rfl, h2, _, _, _⟩
  have S2 := hide h2
  clear h2 cN
  go_wp2_with fail
  go_loopg [7] len1 (fun kx s7 wr => ∃ i : Nat, s7 = .int .i64 i ∧ i ≤ len1 ∧ len1 - i ≤ kx ∧ Hid (∃ l, Sl w f s l wr ∧ l.length = n))
  case atStart => exact ⟨0, rfl, Nat.zero_le _, by omega, _, S2.out, by simp⟩
  case round =>
    obtain ⟨i, rfl, hil, hkx, I⟩ := hrel
    obtain ⟨l, iS, iL⟩ := I.out
    have IS := hide iS
    have IL := hide iL
    clear I iS iL S2
    by_cases hlt : i < len1
    · have hlt2 : (i : Int) < (len1 : Int) := by omega
      obtain ⟨b, o, x, ha, hx, hfit, hone⟩ := AA.out.at IS.out.bel i hlt
      obtain ⟨fr, nt, cs, rw9⟩ := x
      obtain ⟨k0, k1, k2, k3⟩ := hone
      subst ha
      obtain ⟨⟨f1, f2⟩, f3, f4⟩ := hfit
      simp only at *
      clear hx k3
      cases fr with
      | true =>
        have c1 : Hid (Calls Tryd.prog 6 #[.pointer (some ⟨f, 0, none⟩), .int .i64 nt] wr fun e W' => ∃ z l', e = .returned (.int .i64 z) ∧ Sl w f s l' W' ∧ l'.length = n) := by
          refine (free_l IS.out nt f2).mono ?_
          rintro e W ⟨rfl, h, _⟩
          refine ⟨_, _, rfl, h, ?_⟩
          unfold frL
          split
          · rw [clr_len, IL.out]
          · exact IL.out
        go_wp2_with fail
        refine c1.out.mono ?_
        rintro e w3 ⟨z, l3, rfl, h3, hl3⟩
        clear c1 IS IL k0 k1 k2
        go_wp2_with fail
        have S3 := hide h3
        have HL3 := hide hl3
        have G3 := hide h3.good
        have cl := hide (left_l h3)
        have ho := ownd_le (-1) l3
        have HO0 : Hid (ownd (-1) l3 = sumO l3 0) := rfl
        rw [hl3] at ho
        generalize hr0 : ownd (-1) l3 = r0 at *
        have HR0 := hide hr0
        clear h3 hl3 hr0
        go_wp2_with fail
        refine cl.out.mono ?_
        rintro e w4 ⟨rfl, h4, _⟩
        have S4 := hide h4
        clear h4 cl
        go_wp2_with fail
        go_loopg [8, 9] 6 (fun kx s8 s9 wr => ∃ (k r : Nat), s9 = .int .i64 k ∧ s8 = .int .i64 r ∧ k ≤ 6 ∧ r ≤ 20 * (k + 1) ∧ 6 - k ≤ kx ∧ Hid (r = sumO l3 k ∧ Sl w f s l3 wr))
        case atStart => exact ⟨0, r0, rfl, rfl, by omega, by omega, by omega, HO0.out, S4.out⟩
        case round =>
          obtain ⟨k, r, rfl, rfl, hk6, hr20, hkx2, J⟩ := hrel
          by_cases hk : k < 6
          · have hk2 : (k : Int) < 6 := by omega
            have hu := usd_own G3.out k
            have ho := ownd_le (k : Int) l3
            rw [HL3.out] at ho
            have E : Hid (sumO l3 (k + 1) = r + ownd (k : Int) l3) := by show sumO l3 k + _ = _; rw [J.out.1]
            have EL : Hid (sumO l3 (k + 1) ≤ 20 * (k + 1 + 1)) := sumO_le l3 (by have := HL3.out; omega) (k + 1)
            obtain ⟨qm, q1, q2⟩ := quo_many k hk
            have ck : Hid (∀ W, Calls Tryd.prog 11 #[.int .i64 (k : Int)] W fun e w' => e = .returned (.int .i64 ((64 * 2 ^ k : Nat) : Int)) ∧ w' = W) := fun W => chunk_ok k hk W
            have cp : Hid (∀ W, Sl w f s l3 W → Calls Tryd.prog 9 #[.pointer (some ⟨f, 0, none⟩), .int .i64 (k : Int)] W fun e W' => e = .returned (.int .i64 (ownd (k : Int) l3 : Int)) ∧ Sl w f s l3 W') := fun W hS => by
              refine (pages_l hS (k : Int) (by omega)).mono ?_
              rintro e W ⟨rfl, h, _⟩
              exact ⟨rfl, h⟩
            have cu : Hid (∀ W, Sl w f s l3 W → Calls Tryd.prog 10 #[.pointer (some ⟨f, 0, none⟩), .int .i64 (k : Int)] W fun e W' => e = .returned (.int .i64 (usd (k : Int) l3 : Int)) ∧ Sl w f s l3 W') := fun W hS => by
              refine (used_l hS (k : Int)).mono ?_
              rintro e W ⟨rfl, h, _⟩
              exact ⟨rfl, h⟩
            have mk := many_le k
            obtain ⟨M, hM⟩ : ∃ M, M = 64 * 2 ^ k := ⟨_, rfl⟩
            rw [← hM] at ck qm q1 q2
            generalize many k = m at *
            generalize usd (k : Int) l3 = u at *
            generalize ownd (k : Int) l3 = o at *
            obtain ⟨om, hom⟩ : ∃ om, om = o * m := ⟨_, rfl⟩
            have hom2 : (o : Int) * (m : Int) = (om : Int) := by rw [hom]; simp
            have hom9 : om ≤ 1280 := by rw [hom]; exact Nat.le_trans (Nat.mul_le_mul (show o ≤ 20 by omega) mk) (by decide)
            have hub : ¬ (om : Int) < (u : Int) := by omega
            have hr9 : r ≤ 140 := by omega
            have c1 := hide (cp.out wr J.out.2)
            clear hM hom hu
            go_wp2_with fail
            refine c1.out.mono ?_
            rintro e w5 ⟨rfl, h5⟩
            have c2 := hide (cu.out w5 h5)
            clear h5 c1 cu
            go_wp2_with fail
            refine c2.out.mono ?_
            rintro e w6 ⟨rfl, h6⟩
            have c3 := hide (cp.out w6 h6)
            clear h6 c2 cp
            go_wp2_with fail
            refine c3.out.mono ?_
            rintro e w7 ⟨rfl, h7⟩
            have S7 := hide h7
            clear h7 c3
            go_wp2_with fail
            refine (ck.out _).mono ?_
            rintro e wx ⟨rfl, hx⟩
            obtain rfl : w7 = wx := hx.symm
            clear hx ck
            go_wp2
            go_roundg (6 - (k + 1))
            case measure => omega
            case rel => exact ⟨k + 1, r + o, by go_num, by go_num, by omega, by rw [← E.out]; exact EL.out, by omega, E.out.symm, S7.out⟩
          · obtain rfl : k = 6 := by omega
            have hk2 : ¬ ((6 : Nat) : Int) < 6 := by omega
            obtain rfl : r = n := by rw [J.out.1, sumO_six G3.out, HL3.out]
            go_wp2
            go_roundg (len1 - (i + 1))
            case measure => omega
            case rel => exact ⟨i + 1, by go_num, by omega, by omega, l3, J.out.2, HL3.out⟩
      | false =>
        by_cases hcs : 0 ≤ cs ∧ cs < 6
        · obtain ⟨cn, rfl⟩ : ∃ n : Nat, cs = (n : Int) := ⟨cs.toNat, by omega⟩
          have c1 : Hid (Calls Tryd.prog 7 #[.pointer (some ⟨f, 0, none⟩), .int .i64 (cn : Int)] wr fun e W' => ∃ z y l', e = .returned (.tuple #[.int .i64 z, .int .i64 y]) ∧ Sl w f s l' W' ∧ l'.length = n) := by
            refine (take_l IS.out cn (by omega)).mono ?_
            rintro e W ⟨rfl, h, _⟩
            exact ⟨_, _, _, rfl, h, by rw [tkL_len, IL.out]⟩
          clear hcs
          go_wp2_with fail
          refine c1.out.mono ?_
          rintro e w3 ⟨z, y, l3, rfl, h3, hl3⟩
          clear c1 IS IL k0 k1 k2
          go_wp2_with fail
          have S3 := hide h3
          have HL3 := hide hl3
          have G3 := hide h3.good
          have cl := hide (left_l h3)
          have ho := ownd_le (-1) l3
          have HO0 : Hid (ownd (-1) l3 = sumO l3 0) := rfl
          rw [hl3] at ho
          generalize hr0 : ownd (-1) l3 = r0 at *
          have HR0 := hide hr0
          clear h3 hl3 hr0
          go_wp2_with fail
          refine cl.out.mono ?_
          rintro e w4 ⟨rfl, h4, _⟩
          have S4 := hide h4
          clear h4 cl
          go_wp2_with fail
          go_loopg [8, 9] 6 (fun kx s8 s9 wr => ∃ (k r : Nat), s9 = .int .i64 k ∧ s8 = .int .i64 r ∧ k ≤ 6 ∧ r ≤ 20 * (k + 1) ∧ 6 - k ≤ kx ∧ Hid (r = sumO l3 k ∧ Sl w f s l3 wr))
          case atStart => exact ⟨0, r0, rfl, rfl, by omega, by omega, by omega, HO0.out, S4.out⟩
          case round =>
            obtain ⟨k, r, rfl, rfl, hk6, hr20, hkx2, J⟩ := hrel
            by_cases hk : k < 6
            · have hk2 : (k : Int) < 6 := by omega
              have hu := usd_own G3.out k
              have ho := ownd_le (k : Int) l3
              rw [HL3.out] at ho
              have E : Hid (sumO l3 (k + 1) = r + ownd (k : Int) l3) := by show sumO l3 k + _ = _; rw [J.out.1]
              have EL : Hid (sumO l3 (k + 1) ≤ 20 * (k + 1 + 1)) := sumO_le l3 (by have := HL3.out; omega) (k + 1)
              obtain ⟨qm, q1, q2⟩ := quo_many k hk
              have ck : Hid (∀ W, Calls Tryd.prog 11 #[.int .i64 (k : Int)] W fun e w' => e = .returned (.int .i64 ((64 * 2 ^ k : Nat) : Int)) ∧ w' = W) := fun W => chunk_ok k hk W
              have cp : Hid (∀ W, Sl w f s l3 W → Calls Tryd.prog 9 #[.pointer (some ⟨f, 0, none⟩), .int .i64 (k : Int)] W fun e W' => e = .returned (.int .i64 (ownd (k : Int) l3 : Int)) ∧ Sl w f s l3 W') := fun W hS => by
                refine (pages_l hS (k : Int) (by omega)).mono ?_
                rintro e W ⟨rfl, h, _⟩
                exact ⟨rfl, h⟩
              have cu : Hid (∀ W, Sl w f s l3 W → Calls Tryd.prog 10 #[.pointer (some ⟨f, 0, none⟩), .int .i64 (k : Int)] W fun e W' => e = .returned (.int .i64 (usd (k : Int) l3 : Int)) ∧ Sl w f s l3 W') := fun W hS => by
                refine (used_l hS (k : Int)).mono ?_
                rintro e W ⟨rfl, h, _⟩
                exact ⟨rfl, h⟩
              have mk := many_le k
              obtain ⟨M, hM⟩ : ∃ M, M = 64 * 2 ^ k := ⟨_, rfl⟩
              rw [← hM] at ck qm q1 q2
              generalize many k = m at *
              generalize usd (k : Int) l3 = u at *
              generalize ownd (k : Int) l3 = o at *
              obtain ⟨om, hom⟩ : ∃ om, om = o * m := ⟨_, rfl⟩
              have hom2 : (o : Int) * (m : Int) = (om : Int) := by rw [hom]; simp
              have hom9 : om ≤ 1280 := by rw [hom]; exact Nat.le_trans (Nat.mul_le_mul (show o ≤ 20 by omega) mk) (by decide)
              have hub : ¬ (om : Int) < (u : Int) := by omega
              have hr9 : r ≤ 140 := by omega
              have c1 := hide (cp.out wr J.out.2)
              clear hM hom hu
              go_wp2_with fail
              refine c1.out.mono ?_
              rintro e w5 ⟨rfl, h5⟩
              have c2 := hide (cu.out w5 h5)
              clear h5 c1 cu
              go_wp2_with fail
              refine c2.out.mono ?_
              rintro e w6 ⟨rfl, h6⟩
              have c3 := hide (cp.out w6 h6)
              clear h6 c2 cp
              go_wp2_with fail
              refine c3.out.mono ?_
              rintro e w7 ⟨rfl, h7⟩
              have S7 := hide h7
              clear h7 c3
              go_wp2_with fail
              refine (ck.out _).mono ?_
              rintro e wx ⟨rfl, hx⟩
              obtain rfl : w7 = wx := hx.symm
              clear hx ck
              go_wp2
              go_roundg (6 - (k + 1))
              case measure => omega
              case rel => exact ⟨k + 1, r + o, by go_num, by go_num, by omega, by rw [← E.out]; exact EL.out, by omega, E.out.symm, S7.out⟩
            · obtain rfl : k = 6 := by omega
              have hk2 : ¬ ((6 : Nat) : Int) < 6 := by omega
              obtain rfl : r = n := by rw [J.out.1, sumO_six G3.out, HL3.out]
              go_wp2
              go_roundg (len1 - (i + 1))
              case measure => omega
              case rel => exact ⟨i + 1, by go_num, by omega, by omega, l3, J.out.2, HL3.out⟩
        · have c1 : Hid (Calls Tryd.prog 7 #[.pointer (some ⟨f, 0, none⟩), .int .i64 cs] wr fun e W' => ∃ z y l', e = .returned (.tuple #[.int .i64 z, .int .i64 y]) ∧ Sl w f s l' W' ∧ l'.length = n) := by
            refine (take_bad f cs (by omega) wr).mono ?_
            rintro e W ⟨rfl, rfl⟩
            exact ⟨_, _, _, rfl, IS.out, IL.out⟩
          clear hcs
          go_wp2_with fail
          refine c1.out.mono ?_
          rintro e w3 ⟨z, y, l3, rfl, h3, hl3⟩
          clear c1 IS IL k0 k1 k2
          go_wp2_with fail
          have S3 := hide h3
          have HL3 := hide hl3
          have G3 := hide h3.good
          have cl := hide (left_l h3)
          have ho := ownd_le (-1) l3
          have HO0 : Hid (ownd (-1) l3 = sumO l3 0) := rfl
          rw [hl3] at ho
          generalize hr0 : ownd (-1) l3 = r0 at *
          have HR0 := hide hr0
          clear h3 hl3 hr0
          go_wp2_with fail
          refine cl.out.mono ?_
          rintro e w4 ⟨rfl, h4, _⟩
          have S4 := hide h4
          clear h4 cl
          go_wp2_with fail
          go_loopg [8, 9] 6 (fun kx s8 s9 wr => ∃ (k r : Nat), s9 = .int .i64 k ∧ s8 = .int .i64 r ∧ k ≤ 6 ∧ r ≤ 20 * (k + 1) ∧ 6 - k ≤ kx ∧ Hid (r = sumO l3 k ∧ Sl w f s l3 wr))
          case atStart => exact ⟨0, r0, rfl, rfl, by omega, by omega, by omega, HO0.out, S4.out⟩
          case round =>
            obtain ⟨k, r, rfl, rfl, hk6, hr20, hkx2, J⟩ := hrel
            by_cases hk : k < 6
            · have hk2 : (k : Int) < 6 := by omega
              have hu := usd_own G3.out k
              have ho := ownd_le (k : Int) l3
              rw [HL3.out] at ho
              have E : Hid (sumO l3 (k + 1) = r + ownd (k : Int) l3) := by show sumO l3 k + _ = _; rw [J.out.1]
              have EL : Hid (sumO l3 (k + 1) ≤ 20 * (k + 1 + 1)) := sumO_le l3 (by have := HL3.out; omega) (k + 1)
              obtain ⟨qm, q1, q2⟩ := quo_many k hk
              have ck : Hid (∀ W, Calls Tryd.prog 11 #[.int .i64 (k : Int)] W fun e w' => e = .returned (.int .i64 ((64 * 2 ^ k : Nat) : Int)) ∧ w' = W) := fun W => chunk_ok k hk W
              have cp : Hid (∀ W, Sl w f s l3 W → Calls Tryd.prog 9 #[.pointer (some ⟨f, 0, none⟩), .int .i64 (k : Int)] W fun e W' => e = .returned (.int .i64 (ownd (k : Int) l3 : Int)) ∧ Sl w f s l3 W') := fun W hS => by
                refine (pages_l hS (k : Int) (by omega)).mono ?_
                rintro e W ⟨rfl, h, _⟩
                exact ⟨rfl, h⟩
              have cu : Hid (∀ W, Sl w f s l3 W → Calls Tryd.prog 10 #[.pointer (some ⟨f, 0, none⟩), .int .i64 (k : Int)] W fun e W' => e = .returned (.int .i64 (usd (k : Int) l3 : Int)) ∧ Sl w f s l3 W') := fun W hS => by
                refine (used_l hS (k : Int)).mono ?_
                rintro e W ⟨rfl, h, _⟩
                exact ⟨rfl, h⟩
              have mk := many_le k
              obtain ⟨M, hM⟩ : ∃ M, M = 64 * 2 ^ k := ⟨_, rfl⟩
              rw [← hM] at ck qm q1 q2
              generalize many k = m at *
              generalize usd (k : Int) l3 = u at *
              generalize ownd (k : Int) l3 = o at *
              obtain ⟨om, hom⟩ : ∃ om, om = o * m := ⟨_, rfl⟩
              have hom2 : (o : Int) * (m : Int) = (om : Int) := by rw [hom]; simp
              have hom9 : om ≤ 1280 := by rw [hom]; exact Nat.le_trans (Nat.mul_le_mul (show o ≤ 20 by omega) mk) (by decide)
              have hub : ¬ (om : Int) < (u : Int) := by omega
              have hr9 : r ≤ 140 := by omega
              have c1 := hide (cp.out wr J.out.2)
              clear hM hom hu
              go_wp2_with fail
              refine c1.out.mono ?_
              rintro e w5 ⟨rfl, h5⟩
              have c2 := hide (cu.out w5 h5)
              clear h5 c1 cu
              go_wp2_with fail
              refine c2.out.mono ?_
              rintro e w6 ⟨rfl, h6⟩
              have c3 := hide (cp.out w6 h6)
              clear h6 c2 cp
              go_wp2_with fail
              refine c3.out.mono ?_
              rintro e w7 ⟨rfl, h7⟩
              have S7 := hide h7
              clear h7 c3
              go_wp2_with fail
              refine (ck.out _).mono ?_
              rintro e wx ⟨rfl, hx⟩
              obtain rfl : w7 = wx := hx.symm
              clear hx ck
              go_wp2
              go_roundg (6 - (k + 1))
              case measure => omega
              case rel => exact ⟨k + 1, r + o, by go_num, by go_num, by omega, by rw [← E.out]; exact EL.out, by omega, E.out.symm, S7.out⟩
            · obtain rfl : k = 6 := by omega
              have hk2 : ¬ ((6 : Nat) : Int) < 6 := by omega
              obtain rfl : r = n := by rw [J.out.1, sumO_six G3.out, HL3.out]
              go_wp2
              go_roundg (len1 - (i + 1))
              case measure => omega
              case rel => exact ⟨i + 1, by go_num, by omega, by omega, l3, J.out.2, HL3.out⟩
    · obtain rfl : i = len1 := by omega
      have hlt2 : ¬ (i : Int) < (i : Int) := by omega
      have B9 := hide IS.out.bel
      go_wp2
      go_ret
      exact ⟨rfl, B9.out⟩

theorem laidOut : laidOutB Tryd.prog = true := by kernel_rfl
theorem own : ownKnob Tryd.prog.godebug = none := by kernel_rfl
/-- What the row lists: the table of trailing zeros. -/
theorem table {W : World} (h : laidMetH Tryd.prog Rows.slabLeftRow.laid W) : Tab W :=
  Tab.of (Lib.tabIs_of_head (rest := []) (g := 0) (t := 48) (e := 5) (n := 64) (by kernel_rfl) (by kernel_rfl) (by kernel_rfl) (by kernel_rfl) (by kernel_rfl) (by kernel_rfl) (show laidMet Tryd.prog Rows.slabLeftRow.laid W from h))
/-- What the walk gives, for every argument and every world that holds the table. -/
theorem contract (H : Type) (enc : TypeId × Value → H) (W : World) (base : Nat) (args : Array Value) (ds gs : List (DataW H)) (before : List MemPlace)
    (hval : ∀ (j : Nat) t v, Tryd.f3.params[j]? = some t → args[j]? = some v → Value.okWide Tryd.prog W .any base t v)
    (hW : DataW.Whole enc Tryd.prog Tryd.f3.params.toList Rows.slabLeftSpec.vars false W args.toList ds gs before) (hL : laidMetH Tryd.prog Rows.slabLeftRow.laid W) :
    Calls Tryd.prog 3 args W fun e W' => ∃ v, e = .returned v ∧ Rows.slabLeftSpec.post enc Tryd.prog Tryd.f3 false true false false W args v W' := by
  have hW' := hW
  obtain ⟨p, q, hA0, hV, rfl, hfz, hnd⟩ := hW
  have hA : DataW.TrodAll enc Tryd.prog W 0 (fun _ => true) true Tryd.f3.params.toList args.toList ds p := hA0
  rw [Tryd.params3] at hA hval
  obtain ⟨v0, vs0, d0, ds0, p0, q0, hargs, rfl, rfl, h0, r0⟩ := trodAll_cons hA
  obtain ⟨v1, vs1, d1, ds1, p1, q1, rfl, rfl, rfl, h1, r1⟩ := trodAll_cons r0
  obtain ⟨rfl, rfl, rfl⟩ := trodAll_nil r1
  obtain rfl : args = #[v0, v1] := by cases args; simp_all
  obtain ⟨rfl, rfl⟩ := trodVars_none hV
  obtain ⟨a0, rfl, rfl, rfl, w0⟩ := open_int Tryd.underlying3 (hval 0 3 v0 rfl rfl) h0
  obtain ⟨a1, len1, cap1, rfl⟩ := okWide_slice Tryd.underlying22 (hval 1 22 v1 rfl rfl)
  have k1 := h1
  have lt1 : ∀ x ∈ p1, x.block < W.heap.size := by obtain ⟨m, hm⟩ := k1; exact DataW.trod_lt m _ _ _ hm
  obtain ⟨z1, w1⟩ : ∃ xs, ActsAt W a1 len1 xs := by
    obtain ⟨fuel, hf⟩ := h1
    exact acts_open hf
  clear hA0
  try simp only [List.append_nil] at hW'
  refine (walk W a0 w0 a1 len1 cap1 z1 w1 (table hL)).mono fun e W' ⟨he, bel⟩ => ?_
  subst he
  exact ⟨_, rfl, _, _, _, [], _, [], hW', trodAll_mk1 (shut_bool Tryd.underlying4 _), (trodAll_cons_mk (shut_int Tryd.underlying3 w0) (trodAll_cons_mk (Below.trod laidOut (by kernel_rfl) (of_decide_eq_true (by kernel_rfl)) k1 bel lt1) trodAll_mk0)), rfl, bel.frame _, fun h => by cases h⟩

/-- The witness: what the initialisers leave is met. -/
theorem laid_met (os : Os) : laidMet Tryd.prog Rows.slabLeftRow.laid ((World.doorLaid Tryd.prog 14 os).forCall (fun _ _ => 0) ⟨#[], #[.int .i64 0, .slice none 0 0], []⟩).memory :=
  laidMet_of_run' 8 (by kernel_rfl) (by kernel_rfl)
theorem reads (os : Os) {H : Type} (enc : TypeId × Value → H) : ∃ xs places, DataW.whole enc Tryd.prog ((World.doorLaid Tryd.prog 14 os).forCall (fun _ _ => 0) ⟨#[], #[.int .i64 0, .slice none 0 0], []⟩).memory Tryd.f3.params.toList Rows.slabLeftSpec.vars false (#[.int .i64 0, .slice none 0 0] : Array Value).toList 8 = some (xs, [], places) :=
  by
  have h : (DataW.whole enc Tryd.prog ((World.doorLaid Tryd.prog 14 os).forCall (fun _ _ => 0) ⟨#[], #[.int .i64 0, .slice none 0 0], []⟩).memory Tryd.f3.params.toList Rows.slabLeftSpec.vars false (#[.int .i64 0, .slice none 0 0] : Array Value).toList 8).map (fun r => r.2.1.isEmpty) = some true := by kernel_rfl
  obtain ⟨⟨xs, gs, pl⟩, h1, h2⟩ := Option.map_eq_some_iff.1 h
  have h3 : gs = [] := List.isEmpty_iff.1 h2
  subst h3
  exact ⟨xs, pl, h1⟩

set_option maxRecDepth 100000 in
theorem lifted (os : Os) (started : os.Started) (H : Type) (enc : TypeId × Value → H) (F : Stop.Interp) :
    ReturnsInHanded {} Tryd.checked os 3 .any ((OpenSpec.ofChange Rows.slabLeftSpec).preRow enc Tryd.prog Tryd.f3 Rows.slabLeftRow.domain false Rows.slabLeftRow.laid) (((OpenSpec.ofChange Rows.slabLeftSpec).at F).post enc Tryd.prog Tryd.f3 false true false false) := by
  obtain ⟨xs, places, hx⟩ := reads os enc
  refine returnsInHanded_of_row (C := Tryd.checked) (s := OpenSpec.ofChange Rows.slabLeftSpec) own started (by kernel_rfl) Tryd.func3
    (witness_row_at (enc := enc) (C := Tryd.checked) false (World.doorLaid Tryd.prog 14 os) #[.int .i64 0, .slice none 0 0] rfl (by kernel_rfl) (by kernel_rfl) (by kernel_rfl)
      (OpenSpec.preRow_of_cond 8 hx (by kernel_rfl) (fun k hk => by cases hk) (by kernel_rfl) (laid_met os))) ?_
  intro W base args ds gs before hval hW _ _ _ hL _ _
  exact contract H enc W base args ds gs before hval hW hL

theorem said : Rows.SlabLeftSaid :=
  OpenClaim.holds_of_cond 3 Tryd.f3 rfl rfl rfl rfl rfl rfl rfl ⟨rfl, rfl, rfl, rfl, rfl⟩ rfl rfl rfl rfl rfl (by kernel_rfl) Tryd.func3 (by kernel_rfl)
    (of_decide_eq_true (by kernel_rfl)) (by unfold Func.isWrapper; first | (rw [if_pos (by decide +kernel)]; kernel_rfl) | (rw [if_neg (by decide +kernel)]; exact ⟨rfl, rfl⟩))
    (fun os started H enc _ F => by rw [OpenClaim.pre_eq_preRow]; exact lifted os started H enc F)

theorem plain (f : FuncId) (fn : Func) (hf : Tryd.pinned.checked.prog.funcNamed Rows.slabLeftRow.func = some f) (hfn : Tryd.pinned.checked.prog.funcs[f]? = some fn) :
    false = Tryd.pinned.checked.prog.looks [] ∧ ∀ (j : Nat) t, fn.params[j]? = some t → Tryd.pinned.checked.prog.wantsStandIn t = false := by
  obtain rfl : f = 3 := Option.some.inj ((show Tryd.prog.funcNamed Rows.slabLeftRow.func = some 3 by kernel_rfl).symm.trans hf) |>.symm
  obtain rfl : fn = Tryd.f3 := (Option.some.inj (Tryd.func3.symm.trans hfn)).symm
  refine ⟨by kernel_rfl, fun j t ht => ?_⟩
  rw [Tryd.params3] at ht
  have hm : t ∈ [3, 22] := by simpa using Array.mem_of_getElem? ht
  have hall : ([3, 22].all fun u => !Tryd.prog.wantsStandIn u) = true := by kernel_rfl
  exact (show Tryd.prog.wantsStandIn t = false by simpa using List.all_eq_true.1 hall t hm)

theorem card : Rows.SlabLeftCardSaid :=
  Claim7.holds_tied_plain_at .later [] _ _ _ _ said (fun _ h => by cases h) (by kernel_rfl) (fun _ h => by cases h) slabLeft_row_tie rfl ⟨rfl, rfl⟩ (by kernel_rfl) rfl plain (by kernel_rfl)
end Go.Proofs.YteeanaoglcpaaabDoor.slabLeft
namespace Go.Proofs.YteeanaoglcpaaabDoor
theorem slabLeft_holds : Rows.SlabLeftCardSaid := slabLeft.card
#print axioms slabLeft_holds
end Go.Proofs.YteeanaoglcpaaabDoor
