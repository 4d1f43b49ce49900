/-
  Chunks that are taken are unlike one another, and Take goes well while fewer are taken than there are pages: proof of the law 'SlabApart'. No conditions.
-/
import Derived.Test.YteeanaoglcpaaaaDoorCards
import Derived.Test.YteeanaoglcpaaaaDoorTie
import Derived.WalkKit
import Derived.ProofKit
import Derived.OpenShut
import Derived.ShutString
import Derived.ChangeOld
import Derived.Deep.DeepHandedRow
import Derived.Lib.LaidTab
import Derived.Stop.LaidErr
import Derived.LaidMore
import Derived.Test.YteeanaoglcpaaaaDoorInts
import Derived.Test.YteeanaoglcpaaaaDoorTot
import Derived.Test.YteeanaoglcpaaaaDoorActs
import Derived.Test.YteeanaoglcpaaaaDoorAnyQ
namespace Go.Proofs.YteeanaoglcpaaaaDoor.slabApart
open Go.ChangeShapes Go.WideShapes Go.ChangeAt Go.RowKit Go.Deep Go.Shelf Math
set_option linter.unusedVariables false
set_option linter.unusedSimpArgs false

/-- The world as the region's operations turn it. -/
def Chain4 (A B C D : World) (n : Nat) (W : World) : Prop := match n with
  | 0 => W = A
  | 1 => W = B
  | 2 => W = C
  | _ => W = D
set_option maxHeartbeats 4000000 in
set_option maxRecDepth 8000 in
/-- The walk: the Go text returns true, and writes nothing that was there. -/
theorem walk (w : World) (a0 : Int) (w0 : (Lit.int .i64 a0).wf = true) (a1 : Option Addr) (len1 cap1 : Nat) (z1 : List ActI) (w1 : ActsAt w a1 len1 z1) (htab : Tab w) :
    Calls Tryd.prog 5 #[.int .i64 a0, .slice a1 len1 cap1] w fun e w' => e = .returned (.bool true) ∧ Below w.heap.size w w' := by
  have ca := hide (awake_any w htab)
  by_cases x0 : a0 < 1
  · clear w0 w1
    go_enter Tryd.func5, Tryd.ntmps5
    go_wp2_with fail
    refine ca.out.mono ?_
    rintro e w1 ⟨rfl, h1⟩
    have B1 := hide h1
    clear h1 ca
    go_wp2
    go_ret
    exact ⟨rfl, B1.out⟩
  by_cases x1 : 30 < a0
  · clear w0 w1
    go_enter Tryd.func5, Tryd.ntmps5
    go_wp2_with fail
    refine ca.out.mono ?_
    rintro e w1 ⟨rfl, h1⟩
    have B1 := hide h1
    clear h1 ca
    go_wp2
    go_ret
    exact ⟨rfl, B1.out⟩
  by_cases x2 : 150 < len1
  · have x3 : (150 : Int) < (len1 : Int) := by omega
    clear w0 w1 x2
    go_enter Tryd.func5, Tryd.ntmps5
    go_wp2_with fail
    refine ca.out.mono ?_
    rintro e w1 ⟨rfl, h1⟩
    have B1 := hide h1
    clear h1 ca
    go_wp2
    go_ret
    exact ⟨rfl, B1.out⟩
  obtain ⟨n, rfl⟩ : ∃ n : Nat, a0 = (n : Int) := ⟨a0.toNat, by omega⟩
  have h1n : 1 ≤ n := by omega
  have hn30 : n ≤ 30 := by omega
  have x3 : ¬ (150 : Int) < (len1 : Int) := by omega
  have hl1 : len1 ≤ 150 := by omega
  have AA := hide w1
  have T := hide htab
  clear w0 w1 htab x2
  go_enter Tryd.func5, Tryd.ntmps5
  go_wp2_with fail
  refine ca.out.mono ?_
  rintro e w1 ⟨rfl, h1⟩
  have cN := hide (new_l h1 T.out n h1n (by omega))
  clear h1 ca
  go_wp2_with fail
  refine cN.out.mono ?_
  rintro e w2 ⟨f, s, rfl, h2, _, _, _⟩
  have S2 := hide h2
  clear h2 cN
  go_wp2_with fail
  go_loopg [7, 8] len1 (fun kx s7 s8 wr => ∃ (i m : Nat) (va : Option Addr) (vc : Nat), s8 = .int .i64 i ∧ s7 = .slice va m vc ∧ i ≤ len1 ∧ m ≤ i ∧ len1 - i ≤ kx ∧ Hid (∃ l xs, Sl w f s l wr ∧ l.length = n ∧ m = xs.length ∧ NR w (.slice va m vc) xs wr ∧ Inv l xs))
  case atStart => exact ⟨0, 0, none, 0, rfl, rfl, Nat.zero_le _, Nat.le_refl _, by omega, _, [], S2.out, by simp, rfl, NR.nil _ _, Inv.start n⟩
  case round =>
    obtain ⟨i, m, va, vc, rfl, rfl, hil, hmi, hkx, I⟩ := hrel
    obtain ⟨l, xs, iS, iL, iM, iR, iV⟩ := I.out
    have IS := hide iS
    have IL := hide iL
    have IM := hide iM
    have IR := hide iR
    have IV := hide iV
    clear I iS iL iM iR iV S2
    by_cases hlt : i < len1
    · have hlt2 : (i : Int) < (len1 : Int) := by omega
      obtain ⟨b, o, x, ha, hx, hfit, hone⟩ := AA.out.at IS.out.bel i hlt
      obtain ⟨fr, nt, cs, rw9⟩ := x
      obtain ⟨k0, k1, k2, k3⟩ := hone
      subst ha
      clear hfit
      simp only at *
      clear hx k3
      cases fr with
      | true =>
        by_cases hm0 : 0 < m
        · have hm1 : (0 : Int) < (m : Int) := by omega
          obtain ⟨q, hq, hq9⟩ := and_low nt 65535 (by omega)
          have hq' : bits BinOp.and IntKind.i64 nt 65535 = (q : Int) := hq
          obtain ⟨k, hk⟩ : ∃ k, k = q % m := ⟨_, rfl⟩
          have hkm : k < m := by rw [hk]; exact Nat.mod_lt _ hm0
          have hq1 : (q : Int) % (m : Int) = (k : Int) := by rw [hk]; omega
          have hq2 : ((q : Int).tmod (m : Int)) = (k : Int) := by rw [Int.tmod_eq_emod_of_nonneg (by omega), hq1]
          have hm2 : ((m : Int) == 0) = false := by simp; omega
          obtain ⟨y, hy⟩ : ∃ y, xs[k]? = some y := ⟨_, List.getElem?_eq_getElem (by rw [← IM.out]; exact hkm)⟩
          obtain ⟨g, cap, hv, hcell, hg, hcap⟩ := IR.out.cell hy
          simp only [Value.slice.injEq] at hv
          obtain ⟨rfl, -, rfl⟩ := hv
          obtain ⟨htk, hiv⟩ := IV.out.free hy
          obtain ⟨yn, hyn, _⟩ := takI_pos htk
          have hy9 : y ≤ 9223372036854775807 := by
            have h1 := htk
            rw [hyn, takI_nat] at h1
            unfold bitAt at h1
            have h2 : yn / 64 < l.length := by
              apply Nat.lt_of_not_le
              intro hle
              rw [List.getElem?_eq_none hle] at h1
              cases h1
            have := IL.out
            omega
          have cf : Hid (Calls Tryd.prog 12 #[.pointer (some ⟨f, 0, none⟩), .int .i64 y] wr fun e W' => e = .returned (.int .i64 0) ∧ Sl w f s (clr l y.toNat) W' ∧ NR w (.slice (some ⟨g, 0, none⟩) m vc) xs W') := by
            refine (free_l IS.out y hy9).mono ?_
            rintro e W ⟨rfl, h, kp⟩
            unfold frE frL at *
            rw [htk] at h ⊢
            exact ⟨rfl, h, IR.out.keep IS.out.inn kp⟩
          have HIV := hide hiv
          have hkm2 : (k : Int) < (m : Int) := by omega
          clear hiv htk hyn hy hk hq
          go_wp2_with fail
          refine cf.out.mono ?_
          rintro e w3 ⟨rfl, h3, r3⟩
          obtain ⟨W, hW⟩ : ∃ W, W = { w3 with drawn := w3.drawn + 1 } := ⟨_, rfl⟩
          have bd : Below w3.heap.size w3 W := by rw [hW]; exact ⟨rfl, rfl, rfl, Nat.le_refl _, fun _ _ => rfl⟩
          have rW := r3.below bd
          have SW := h3.on bd
          rw [IM.out] at rW
          obtain ⟨ua, uc, W2, va, vc2, W3, to, tc, h8, hr2, hr3, nr3, b3⟩ := cut_int rW SW.bel.size (k := k) (by rw [← IM.out]; exact hkm) hcap (by rw [← IM.out]; omega)
          rw [← IM.out] at h8 hr3 nr3
          obtain ⟨K, hK⟩ : ∃ K, K = k + 1 := ⟨_, rfl⟩
          rw [← hK] at h8 hr3
          obtain ⟨mk, hmk⟩ : ∃ mk, mk = m - K := ⟨_, rfl⟩
          rw [← hmk] at h8 hr3
          obtain ⟨m1, hm1'⟩ : ∃ m1, m1 = m - 1 := ⟨_, rfl⟩
          rw [← hm1'] at hr3 nr3
          have HSU : Hid (∀ X, (binOp .add 3 (.int .i64 (k : Int)) (.int .i64 1)).run Tryd.prog X = .ok (.int .i64 (K : Int)) X) := fun X => by rw [hK]; exact run_succ k (by omega) X
          have HS3 : Hid (∀ X, (Instr.sliceAt 35 (.slice (some ⟨g, 0, none⟩) m vc) none (some (.int .i64 (k : Int))) none).run Tryd.prog X = .ok (.slice (some ⟨g, 0, none⟩) k vc) X) := fun X => run_head g m vc k (by have := IM.out; omega) X
          have HS8 := hide h8
          have HR2 := hide hr2
          have HR3 := hide hr3
          have S3 := hide (SW.on b3)
          have N3 := hide nr3
          have HM1 := hide hm1'
          have HW := hide hW
          have HD0 : Hid (Chain4 W (W.alloc (.cells #[] 3)) W2 W3 0 { w3 with drawn := w3.drawn + 1 }) := hW.symm
          have HD1 : Hid (Chain4 W (W.alloc (.cells #[] 3)) W2 W3 1 (W.alloc (.cells #[] 3))) := rfl
          have HD2 : Hid (Chain4 W (W.alloc (.cells #[] 3)) W2 W3 2 W2) := rfl
          have HD3 : Hid (Chain4 W (W.alloc (.cells #[] 3)) W2 W3 3 W3) := rfl
          obtain ⟨CC, hCC⟩ : ∃ CC, CC = Chain4 W (W.alloc (.cells #[] 3)) W2 W3 := ⟨_, rfl⟩
          clear h3 r3 cf bd rW SW h8 hr2 hr3 nr3 b3 hm1' hW hmk hK
          go_wp2_with fail
          refine wp_region_chainp (by kernel_rfl) (by kernel_rfl) (fun jx => ([.slice (some ⟨W.heap.size, 0, none⟩) 0 0, .slice (some ⟨g, 0, none⟩) m vc, .int .i64 (k : Int), .slice (some ⟨g, 0, none⟩) k vc, .slice ua k uc, .slice (some ⟨g, 0, none⟩) m vc, .int .i64 (k : Int), .int .i64 (K : Int), .slice (some ⟨g, to, none⟩) mk tc, .slice va m1 vc2, .slice va m1 vc2] : List Value).getD jx undef) [0, 4, 9] (by kernel_rfl) (Chain4 W (W.alloc (.cells #[] 3)) W2 W3) (HD0.out) ?_ ?_
          · intro jx ox hi sx w' ev hlm hks hc hin hout hold hcst hfn
            have hltx : jx < 11 := by
              have := (Array.getElem?_eq_some_iff.1 hi).1
              simpa using this
            match jx, hltx with
            | 0, _ =>
              simp only [List.getElem?_toArray, List.getElem?_cons_zero, List.getElem?_cons_succ, Option.some.injEq] at hi
              subst hi
              rw [if_pos (by decide)]
              have hsx : sx = 0 := hks 0 rfl
              subst hsx
              have hw : w' = W := hc
              subst hw
              refine .inl ⟨w'.alloc (.cells #[] 3), ?_, HD1.out⟩
              have q := run_none w'
              simp [execOp, hcst, q, Result.andThen]
            | 1, _ =>
              simp only [List.getElem?_toArray, List.getElem?_cons_zero, List.getElem?_cons_succ, Option.some.injEq] at hi
              subst hi
              have e0 : ev (.tmp 7) = .slice (some ⟨g, 0, none⟩) m vc := hold 7 10 (by kernel_rfl) (by kernel_rfl) (show (7 : Nat) < 122 by decide)
              rw [if_neg (by decide)]
              refine .inl ⟨w', ?_, hc⟩
              show _ = Result.ok (Next.value (.slice (some ⟨g, 0, none⟩) m vc)) w'
              simp [execOp, e0, hcst, go_sem]
            | 2, _ =>
              simp only [List.getElem?_toArray, List.getElem?_cons_zero, List.getElem?_cons_succ, Option.some.injEq] at hi
              subst hi
              have e0 : ev (.tmp 9) = .int .i64 (k : Int) := hout 9 (by kernel_rfl) (show (9 : Nat) < 122 by decide)
              rw [if_neg (by decide)]
              refine .inl ⟨w', ?_, hc⟩
              show _ = Result.ok (Next.value (.int .i64 (k : Int))) w'
              simp [execOp, e0, hcst, go_sem]
            | 3, _ =>
              simp only [List.getElem?_toArray, List.getElem?_cons_zero, List.getElem?_cons_succ, Option.some.injEq] at hi
              subst hi
              have e0 : ev (.tmp 66) = .slice (some ⟨g, 0, none⟩) m vc := hin 66 1 ⟨1, .data⟩ (by kernel_rfl) (by simp) rfl rfl (show (66 : Nat) < 122 by decide)
              have e1 : ev (.tmp 67) = .int .i64 (k : Int) := hin 67 2 ⟨2, .data⟩ (by kernel_rfl) (by simp) rfl rfl (show (67 : Nat) < 122 by decide)
              rw [if_neg (by decide)]
              refine .inl ⟨w', ?_, hc⟩
              show _ = Result.ok (Next.value (.slice (some ⟨g, 0, none⟩) k vc)) w'
              have q := HS3.out w'
              simp [execOp, e0, e1, hcst, q, Result.andThen]
            | 4, _ =>
              simp only [List.getElem?_toArray, List.getElem?_cons_zero, List.getElem?_cons_succ, Option.some.injEq] at hi
              subst hi
              have e0 : ev (.tmp 65) = .slice (some ⟨W.heap.size, 0, none⟩) 0 0 := hin 65 0 ⟨0, .data⟩ (by kernel_rfl) (by simp) rfl rfl (show (65 : Nat) < 122 by decide)
              have e1 : ev (.tmp 68) = .slice (some ⟨g, 0, none⟩) k vc := hin 68 3 ⟨3, .data⟩ (by kernel_rfl) (by simp) rfl rfl (show (68 : Nat) < 122 by decide)
              rw [if_pos (by decide)]
              have hsx : sx = 1 := hks 1 rfl
              subst hsx
              have hw : w' = W.alloc (.cells #[] 3) := hc
              subst hw
              refine .inl ⟨W2, ?_, HD2.out⟩
              have q := HR2.out
              simp [execOp, e0, e1, hcst, resolve, invoke, builtin, Result.andThen, q]
            | 5, _ =>
              simp only [List.getElem?_toArray, List.getElem?_cons_zero, List.getElem?_cons_succ, Option.some.injEq] at hi
              subst hi
              have e0 : ev (.tmp 7) = .slice (some ⟨g, 0, none⟩) m vc := hold 7 10 (by kernel_rfl) (by kernel_rfl) (show (7 : Nat) < 122 by decide)
              rw [if_neg (by decide)]
              refine .inl ⟨w', ?_, hc⟩
              show _ = Result.ok (Next.value (.slice (some ⟨g, 0, none⟩) m vc)) w'
              simp [execOp, e0, hcst, go_sem]
            | 6, _ =>
              simp only [List.getElem?_toArray, List.getElem?_cons_zero, List.getElem?_cons_succ, Option.some.injEq] at hi
              subst hi
              have e0 : ev (.tmp 9) = .int .i64 (k : Int) := hout 9 (by kernel_rfl) (show (9 : Nat) < 122 by decide)
              rw [if_neg (by decide)]
              refine .inl ⟨w', ?_, hc⟩
              show _ = Result.ok (Next.value (.int .i64 (k : Int))) w'
              simp [execOp, e0, hcst, go_sem]
            | 7, _ =>
              simp only [List.getElem?_toArray, List.getElem?_cons_zero, List.getElem?_cons_succ, Option.some.injEq] at hi
              subst hi
              have e0 : ev (.tmp 71) = .int .i64 (k : Int) := hin 71 6 ⟨6, .data⟩ (by kernel_rfl) (by simp) rfl rfl (show (71 : Nat) < 122 by decide)
              rw [if_neg (by decide)]
              refine .inl ⟨w', ?_, hc⟩
              show _ = Result.ok (Next.value (.int .i64 (K : Int))) w'
              have q := HSU.out w'
              simp [execOp, e0, hcst, eqGuard, q, Result.andThen, pure, Sem.run]
            | 8, _ =>
              simp only [List.getElem?_toArray, List.getElem?_cons_zero, List.getElem?_cons_succ, Option.some.injEq] at hi
              subst hi
              have e0 : ev (.tmp 70) = .slice (some ⟨g, 0, none⟩) m vc := hin 70 5 ⟨5, .data⟩ (by kernel_rfl) (by simp) rfl rfl (show (70 : Nat) < 122 by decide)
              have e1 : ev (.tmp 72) = .int .i64 (K : Int) := hin 72 7 ⟨7, .data⟩ (by kernel_rfl) (by simp) rfl rfl (show (72 : Nat) < 122 by decide)
              rw [if_neg (by decide)]
              refine .inl ⟨w', ?_, hc⟩
              show _ = Result.ok (Next.value (.slice (some ⟨g, to, none⟩) mk tc)) w'
              have q := HS8.out w'
              simp [execOp, e0, e1, hcst, q, Result.andThen]
            | 9, _ =>
              simp only [List.getElem?_toArray, List.getElem?_cons_zero, List.getElem?_cons_succ, Option.some.injEq] at hi
              subst hi
              have e0 : ev (.tmp 69) = .slice ua k uc := hin 69 4 ⟨4, .data⟩ (by kernel_rfl) (by simp) rfl rfl (show (69 : Nat) < 122 by decide)
              have e1 : ev (.tmp 73) = .slice (some ⟨g, to, none⟩) mk tc := hin 73 8 ⟨8, .data⟩ (by kernel_rfl) (by simp) rfl rfl (show (73 : Nat) < 122 by decide)
              rw [if_pos (by decide)]
              have hsx : sx = 2 := hks 2 rfl
              subst hsx
              have hw : w' = W2 := hc
              subst hw
              refine .inl ⟨W3, ?_, HD3.out⟩
              have q := HR3.out
              simp [execOp, e0, e1, hcst, resolve, invoke, builtin, Result.andThen, q]
            | 10, _ =>
              simp only [List.getElem?_toArray, List.getElem?_cons_zero, List.getElem?_cons_succ, Option.some.injEq] at hi
              subst hi
              have e0 : ev (.tmp 74) = .slice va m1 vc2 := hin 74 9 ⟨9, .data⟩ (by kernel_rfl) (by simp) rfl rfl (show (74 : Nat) < 122 by decide)
              rw [if_neg (by decide)]
              refine .inl ⟨w', ?_, hc⟩
              show _ = Result.ok (Next.value (.slice va m1 vc2)) w'
              simp [execOp, e0, hcst, go_sem]
          · intro w9 hc
            simp only [lexF, Act.put, List.setIfInBounds_toArray, List.set_cons_succ, List.set_cons_zero, List.getD_cons_succ, List.getD_cons_zero]
            clear hcell
            have hw9 : w9 = W3 := hc
            subst hw9
            go_wp2
            go_roundg (len1 - (i + 1))
            case measure => omega
            case rel => exact ⟨i + 1, m1, va, vc2, by go_num, rfl, by omega, by have := HM1.out; omega, by omega, _, _, S3.out, by rw [clr_len, IL.out], by rw [List.length_append, List.length_take, List.length_drop, HM1.out]; have := IM.out; omega, N3.out, HIV.out⟩
        · obtain rfl : m = 0 := by omega
          have hm1 : ¬ (0 : Int) < ((0 : Nat) : Int) := by omega
          go_wp2
          go_roundg (len1 - (i + 1))
          case measure => omega
          case rel => exact ⟨i + 1, 0, va, vc, by go_num, rfl, by omega, by omega, by omega, _, _, IS.out, IL.out, IM.out, IR.out, IV.out⟩
      | false =>
        obtain ⟨q, hq, hq9⟩ := and_low cs 7 (by omega)
        have hq' : bits BinOp.and IntKind.i64 cs 7 = (q : Int) := hq
        obtain ⟨c, hc⟩ : ∃ c, c = q % 6 := ⟨_, rfl⟩
        have hc6 : c < 6 := by omega
        have hq1 : (q : Int) % 6 = (c : Int) := by omega
        have ct := hide (take_l IS.out c hc6)
        have HQ := hide hc6
        clear hq hc
        cases hp : pfor c l with
        | none =>
          obtain ⟨e1, e2, e3⟩ := tk_none hp
          rw [e1, e2, e3] at ct
          have hfull := full_tot IS.out.good.fit hp
          rw [IL.out, ← IV.out.len, ← IM.out] at hfull
          have hnm : ¬ (m : Int) < (n : Int) := by omega
          have ct2 : Hid (Calls Tryd.prog 11 #[.pointer (some ⟨f, 0, none⟩), .int .i64 (c : Int)] wr fun e W' => e = .returned (.tuple #[.int .i64 0, .int .i64 7]) ∧ Sl w f s l W' ∧ NR w (.slice va m vc) xs W') := by
            refine ct.out.mono ?_
            rintro e W ⟨rfl, h, kp⟩
            exact ⟨rfl, h, IR.out.keep IS.out.inn kp⟩
          clear ct e1 e2 e3 hp hfull
          go_wp2_with fail
          refine ct2.out.mono ?_
          rintro e w3 ⟨rfl, h3, r3⟩
          have S3 := hide h3
          have R3 := hide r3
          clear h3 r3 ct2
          go_wp2
          go_roundg (len1 - (i + 1))
          case measure => omega
          case rel => exact ⟨i + 1, m, va, vc, by go_num, rfl, by omega, by omega, by omega, _, _, S3.out, IL.out, IM.out, R3.out, IV.out⟩
        | some a =>
          have he : tkE c l = 0 := by unfold tkE; rw [hp]
          have hni := IV.out.notin HQ.out IS.out.good he
          have hinv := IV.out.take HQ.out IS.out.good he
          obtain ⟨z, hz⟩ : ∃ z, z = (tkC c l : Int) := ⟨_, rfl⟩
          rw [← hz] at ct hni hinv
          rw [he] at ct
          have ct2 : Hid (Calls Tryd.prog 11 #[.pointer (some ⟨f, 0, none⟩), .int .i64 (c : Int)] wr fun e W' => e = .returned (.tuple #[.int .i64 z, .int .i64 0]) ∧ Sl w f s (tkL c l) W' ∧ NR w (.slice va m vc) xs W') := by
            refine ct.out.mono ?_
            rintro e W ⟨rfl, h, kp⟩
            exact ⟨rfl, h, IR.out.keep IS.out.inn kp⟩
          have HNI := hide hni
          have HV := hide hinv
          clear ct hp he hz hni hinv
          go_wp2_with fail
          refine ct2.out.mono ?_
          rintro e w3 ⟨rfl, h3, r3⟩
          have S3 := hide h3
          have R3 := hide r3
          clear h3 r3 ct2
          go_wp2_with fail
          go_loop [12] (fun s12 => ∃ k : Nat, s12 = .int .i64 k ∧ k ≤ m) (fun s12 => m - (intOf s12).toNat)
          case atStart => exact ⟨0, rfl, Nat.zero_le _⟩
          case round =>
            obtain ⟨k, rfl, hkm⟩ := hrel
            by_cases hk : k < m
            · have hk2 : (k : Int) < (m : Int) := by omega
              obtain ⟨y, hy⟩ : ∃ y, xs[k]? = some y := ⟨_, List.getElem?_eq_getElem (by rw [← IM.out]; exact hk)⟩
              obtain ⟨g, cap, hv, hcell, hg, hcap⟩ := R3.out.cell hy
              simp only [Value.slice.injEq] at hv
              obtain ⟨rfl, -, rfl⟩ := hv
              have hyz : (y == z) = false := by
                have : y ≠ z := fun e => HNI.out (e ▸ List.mem_of_getElem? hy)
                simp [this]
              clear hy
              go_wp2
              go_round
              case rel => exact ⟨k + 1, by go_num, by omega⟩
              case measure => simp [intOf]; omega
            · obtain rfl : k = m := by omega
              have hk2 : ¬ (k : Int) < (k : Int) := by omega
              obtain ⟨ua, uc, w4, hrun, hnr, hk4⟩ := app_int R3.out S3.out.bel.size z (by rw [← IM.out]; omega)
              rw [← IM.out] at hrun hnr
              have S4 := hide (S3.out.off R3.out hk4)
              have HRN := hide hrun
              have R4 := hide hnr
              clear hrun hnr hk4
              go_wp2_with (at_builtin; refine Lib.wpList_append_run _ rfl _ _ _ _ rfl _ _ rfl rfl _ _ (HRN.out _) ?_)
              go_roundg (len1 - (i + 1))
              case measure => omega
              case rel => exact ⟨i + 1, k + 1, ua, uc, by go_num, rfl, by omega, by omega, by omega, _, _, S4.out, by rw [tkL_len, IL.out], by rw [List.length_append, ← IM.out]; rfl, R4.out, HV.out⟩
    · obtain rfl : i = len1 := by omega
      have hlt2 : ¬ (i : Int) < (i : Int) := by omega
      have G := hide IS.out.good
      go_wp2_with fail
      go_loopg [13, 14] 6 (fun kx s13 s14 wr => ∃ (k r : Nat), s14 = .int .i64 k ∧ s13 = .int .i64 r ∧ k ≤ 6 ∧ r ≤ 1920 * k ∧ 6 - k ≤ kx ∧ Hid (r = sumU l k ∧ Sl w f s l wr))
      case atStart => exact ⟨0, 0, rfl, rfl, by omega, by omega, by omega, rfl, IS.out⟩
      case round =>
        obtain ⟨k, r, rfl, rfl, hk6, hr9, hkx2, J⟩ := hrel
        by_cases hk : k < 6
        · have hk2 : (k : Int) < 6 := by omega
          have hu := usd_le (k : Int) l
          rw [IL.out] at hu
          have cu := hide (used_l J.out.2 (k : Int))
          have E : Hid (sumU l (k + 1) = r + usd (k : Int) l) := by show sumU l k + _ = _; rw [J.out.1]
          generalize usd (k : Int) l = u at *
          go_wp2_with fail
          refine cu.out.mono ?_
          rintro e w5 ⟨rfl, h5, _⟩
          have S5 := hide h5
          clear h5 cu
          go_wp2
          go_roundg (6 - (k + 1))
          case measure => omega
          case rel => exact ⟨k + 1, r + u, by go_num, by go_num, by omega, by omega, by omega, E.out.symm, S5.out⟩
        · obtain rfl : k = 6 := by omega
          have hk2 : ¬ ((6 : Nat) : Int) < 6 := by omega
          obtain rfl : r = m := by rw [J.out.1, sumU_six G.out, IM.out, IV.out.len]
          have B9 := hide J.out.2.bel
          go_wp2
          go_ret
          exact ⟨rfl, B9.out⟩

theorem laidOut : laidOutB Tryd.prog = true := by kernel_rfl
theorem own : ownKnob Tryd.prog.godebug = none := by kernel_rfl
/-- What the row lists: the table of trailing zeros. -/
theorem table {W : World} (h : laidMetH Tryd.prog Rows.slabApartRow.laid W) : Tab W :=
  Tab.of (Lib.tabIs_of_head (rest := []) (g := 0) (t := 58) (e := 5) (n := 64) (by kernel_rfl) (by kernel_rfl) (by kernel_rfl) (by kernel_rfl) (by kernel_rfl) (by kernel_rfl) (show laidMet Tryd.prog Rows.slabApartRow.laid W from h))
/-- What the walk gives, for every argument and every world that holds the table. -/
theorem contract (H : Type) (enc : TypeId × Value → H) (W : World) (base : Nat) (args : Array Value) (ds gs : List (DataW H)) (before : List MemPlace)
    (hval : ∀ (j : Nat) t v, Tryd.f5.params[j]? = some t → args[j]? = some v → Value.okWide Tryd.prog W .any base t v)
    (hW : DataW.Whole enc Tryd.prog Tryd.f5.params.toList Rows.slabApartSpec.vars false W args.toList ds gs before) (hL : laidMetH Tryd.prog Rows.slabApartRow.laid W) :
    Calls Tryd.prog 5 args W fun e W' => ∃ v, e = .returned v ∧ Rows.slabApartSpec.post enc Tryd.prog Tryd.f5 false true false false W args v W' := by
  have hW' := hW
  obtain ⟨p, q, hA0, hV, rfl, hfz, hnd⟩ := hW
  have hA : DataW.TrodAll enc Tryd.prog W 0 (fun _ => true) true Tryd.f5.params.toList args.toList ds p := hA0
  rw [Tryd.params5] at hA hval
  obtain ⟨v0, vs0, d0, ds0, p0, q0, hargs, rfl, rfl, h0, r0⟩ := trodAll_cons hA
  obtain ⟨v1, vs1, d1, ds1, p1, q1, rfl, rfl, rfl, h1, r1⟩ := trodAll_cons r0
  obtain ⟨rfl, rfl, rfl⟩ := trodAll_nil r1
  obtain rfl : args = #[v0, v1] := by cases args; simp_all
  obtain ⟨rfl, rfl⟩ := trodVars_none hV
  obtain ⟨a0, rfl, rfl, rfl, w0⟩ := open_int Tryd.underlying3 (hval 0 3 v0 rfl rfl) h0
  obtain ⟨a1, len1, cap1, rfl⟩ := okWide_slice Tryd.underlying32 (hval 1 32 v1 rfl rfl)
  have k1 := h1
  have lt1 : ∀ x ∈ p1, x.block < W.heap.size := by obtain ⟨m, hm⟩ := k1; exact DataW.trod_lt m _ _ _ hm
  obtain ⟨z1, w1⟩ : ∃ xs, ActsAt W a1 len1 xs := by
    obtain ⟨fuel, hf⟩ := h1
    exact acts_open hf
  clear hA0
  try simp only [List.append_nil] at hW'
  refine (walk W a0 w0 a1 len1 cap1 z1 w1 (table hL)).mono fun e W' ⟨he, bel⟩ => ?_
  subst he
  exact ⟨_, rfl, _, _, _, [], _, [], hW', trodAll_mk1 (shut_bool Tryd.underlying4 _), (trodAll_cons_mk (shut_int Tryd.underlying3 w0) (trodAll_cons_mk (Below.trod laidOut (by kernel_rfl) (of_decide_eq_true (by kernel_rfl)) k1 bel lt1) trodAll_mk0)), rfl, bel.frame _, fun h => by cases h⟩

/-- The witness: what the initialisers leave is met. -/
theorem laid_met (os : Os) : laidMet Tryd.prog Rows.slabApartRow.laid ((World.doorLaid Tryd.prog 14 os).forCall (fun _ _ => 0) ⟨#[], #[.int .i64 0, .slice none 0 0], []⟩).memory :=
  laidMet_of_run' 8 (by kernel_rfl) (by kernel_rfl)
theorem reads (os : Os) {H : Type} (enc : TypeId × Value → H) : ∃ xs places, DataW.whole enc Tryd.prog ((World.doorLaid Tryd.prog 14 os).forCall (fun _ _ => 0) ⟨#[], #[.int .i64 0, .slice none 0 0], []⟩).memory Tryd.f5.params.toList Rows.slabApartSpec.vars false (#[.int .i64 0, .slice none 0 0] : Array Value).toList 8 = some (xs, [], places) :=
  by
  have h : (DataW.whole enc Tryd.prog ((World.doorLaid Tryd.prog 14 os).forCall (fun _ _ => 0) ⟨#[], #[.int .i64 0, .slice none 0 0], []⟩).memory Tryd.f5.params.toList Rows.slabApartSpec.vars false (#[.int .i64 0, .slice none 0 0] : Array Value).toList 8).map (fun r => r.2.1.isEmpty) = some true := by kernel_rfl
  obtain ⟨⟨xs, gs, pl⟩, h1, h2⟩ := Option.map_eq_some_iff.1 h
  have h3 : gs = [] := List.isEmpty_iff.1 h2
  subst h3
  exact ⟨xs, pl, h1⟩

set_option maxRecDepth 100000 in
theorem lifted (os : Os) (started : os.Started) (H : Type) (enc : TypeId × Value → H) (F : Stop.Interp) :
    ReturnsInHanded {} Tryd.checked os 5 .any ((OpenSpec.ofChange Rows.slabApartSpec).preRow enc Tryd.prog Tryd.f5 Rows.slabApartRow.domain false Rows.slabApartRow.laid) (((OpenSpec.ofChange Rows.slabApartSpec).at F).post enc Tryd.prog Tryd.f5 false true false false) := by
  obtain ⟨xs, places, hx⟩ := reads os enc
  refine returnsInHanded_of_row (C := Tryd.checked) (s := OpenSpec.ofChange Rows.slabApartSpec) own started (by kernel_rfl) Tryd.func5
    (witness_row_at (enc := enc) (C := Tryd.checked) false (World.doorLaid Tryd.prog 14 os) #[.int .i64 0, .slice none 0 0] rfl (by kernel_rfl) (by kernel_rfl) (by kernel_rfl)
      (OpenSpec.preRow_of_cond 8 hx (by kernel_rfl) (fun k hk => by cases hk) (by kernel_rfl) (laid_met os))) ?_
  intro W base args ds gs before hval hW _ _ _ hL _ _
  exact contract H enc W base args ds gs before hval hW hL

theorem said : Rows.SlabApartSaid :=
  OpenClaim.holds_of_cond 5 Tryd.f5 rfl rfl rfl rfl rfl rfl rfl ⟨rfl, rfl, rfl, rfl, rfl⟩ rfl rfl rfl rfl rfl (by kernel_rfl) Tryd.func5 (by kernel_rfl)
    (of_decide_eq_true (by kernel_rfl)) (by unfold Func.isWrapper; first | (rw [if_pos (by decide +kernel)]; kernel_rfl) | (rw [if_neg (by decide +kernel)]; exact ⟨rfl, rfl⟩))
    (fun os started H enc _ F => by rw [OpenClaim.pre_eq_preRow]; exact lifted os started H enc F)

theorem plain (f : FuncId) (fn : Func) (hf : Tryd.pinned.checked.prog.funcNamed Rows.slabApartRow.func = some f) (hfn : Tryd.pinned.checked.prog.funcs[f]? = some fn) :
    false = Tryd.pinned.checked.prog.looks [] ∧ ∀ (j : Nat) t, fn.params[j]? = some t → Tryd.pinned.checked.prog.wantsStandIn t = false := by
  obtain rfl : f = 5 := Option.some.inj ((show Tryd.prog.funcNamed Rows.slabApartRow.func = some 5 by kernel_rfl).symm.trans hf) |>.symm
  obtain rfl : fn = Tryd.f5 := (Option.some.inj (Tryd.func5.symm.trans hfn)).symm
  refine ⟨by kernel_rfl, fun j t ht => ?_⟩
  rw [Tryd.params5] at ht
  have hm : t ∈ [3, 32] := by simpa using Array.mem_of_getElem? ht
  have hall : ([3, 32].all fun u => !Tryd.prog.wantsStandIn u) = true := by kernel_rfl
  exact (show Tryd.prog.wantsStandIn t = false by simpa using List.all_eq_true.1 hall t hm)

theorem card : Rows.SlabApartCardSaid :=
  Claim7.holds_tied_plain_at .later [] _ _ _ _ said (fun _ h => by cases h) (by kernel_rfl) (fun _ h => by cases h) slabApart_row_tie rfl ⟨rfl, rfl⟩ (by kernel_rfl) rfl plain (by kernel_rfl)
end Go.Proofs.YteeanaoglcpaaaaDoor.slabApart
namespace Go.Proofs.YteeanaoglcpaaaaDoor
theorem slabApart_holds : Rows.SlabApartCardSaid := slabApart.card
#print axioms slabApart_holds
end Go.Proofs.YteeanaoglcpaaaaDoor
