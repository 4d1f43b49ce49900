/-
  Chunks are taken and given back as the document says: proof of the law 'SlabPlays'. No conditions.
-/
import Derived.Test.YteeanaoglcpaaaaDoorCards
import Derived.Test.YteeanaoglcpaaaaDoorTie
import Derived.WalkKit
import Derived.ProofKit
import Derived.OpenShut
import Derived.ShutString
import Derived.ChangeOld
import Derived.Deep.DeepHandedRow
import Derived.Lib.LaidTab
import Derived.Stop.LaidErr
import Derived.LaidMore
import Derived.Test.YteeanaoglcpaaaaDoorPl
namespace Go.Proofs.YteeanaoglcpaaaaDoor.slabPlays
open Go.ChangeShapes Go.WideShapes Go.ChangeAt Go.RowKit Go.Deep Go.Shelf Math
set_option linter.unusedVariables false
set_option linter.unusedSimpArgs false

theorem enter15 (args : Array Value) (w : World) : (callFunc 15 args).run Tryd.prog w = .ok (.enter 15 args) w := enters_of Tryd.func15 (by kernel_rfl) rfl args w
theorem frE_zero (l : List Pg) (k : Int) : (frE l k == 0) = takI l k := by
  unfold frE
  cases takI l k <;> rfl
set_option maxHeartbeats 4000000 in
set_option maxRecDepth 8000 in
/-- The walk: the Go text returns true, and writes nothing that was there. -/
theorem walk (w : World) (a0 : Int) (w0 : (Lit.int .i64 a0).wf = true) (a1 : Option Addr) (len1 cap1 : Nat) (z1 : List ActI) (w1 : ActsAt w a1 len1 z1) (a2 : Int) (w2 : (Lit.int .i64 a2).wf = true) (htab : Tab w) :
    Calls Tryd.prog 4 #[.int .i64 a0, .slice a1 len1 cap1, .int .i64 a2] w fun e w' => e = .returned (.bool true) ∧ Below w.heap.size w w' := by
  have ca := hide (awake_any w htab)
  have hw0 := wf_i64 w0
  by_cases xb : a0 < 1 ∨ 1024 < a0
  · have cb : Hid (∀ W, Calls Tryd.prog 10 #[.int .i64 a0] W fun e w' => e = .returned (.tuple #[.pointer none, .int .i64 1]) ∧ w' = W) := fun W => new_bad a0 W xb
    by_cases x0 : a0 < 1
    · clear w0 w1 w2 xb
      go_enter Tryd.func4, Tryd.ntmps4
      go_wp2_with fail
      refine ca.out.mono ?_
      rintro e w1 ⟨rfl, h1⟩
      have B1 := hide h1
      clear h1 ca
      go_wp2_with fail
      refine (cb.out _).mono ?_
      rintro e wx ⟨rfl, hx⟩
      obtain rfl : w1 = wx := hx.symm
      clear hx cb
      go_wp2
      go_ret
      exact ⟨rfl, B1.out⟩
    · have x1 : 1024 < a0 := by omega
      clear w0 w1 w2 xb
      go_enter Tryd.func4, Tryd.ntmps4
      go_wp2_with fail
      refine ca.out.mono ?_
      rintro e w1 ⟨rfl, h1⟩
      have B1 := hide h1
      clear h1 ca
      go_wp2_with fail
      refine (cb.out _).mono ?_
      rintro e wx ⟨rfl, hx⟩
      obtain rfl : w1 = wx := hx.symm
      clear hx cb
      go_wp2
      go_ret
      exact ⟨rfl, B1.out⟩
  · obtain ⟨n, rfl⟩ : ∃ n : Nat, a0 = (n : Int) := ⟨a0.toNat, by omega⟩
    have x0 : ¬ (n : Int) < 1 := by omega
    have x1 : ¬ (1024 : Int) < (n : Int) := by omega
    have h1n : 1 ≤ n := by omega
    have hn9 : n ≤ 1024 := by omega
    have T := hide htab
    have AA := hide w1
    clear w0 w1 w2 htab xb hw0
    by_cases x2 : 200 < len1
    · have x3 : (200 : Int) < (len1 : Int) := by omega
      clear x2
      go_enter Tryd.func4, Tryd.ntmps4
      go_wp2_with fail
      refine ca.out.mono ?_
      rintro e w1 ⟨rfl, h1⟩
      have cN := hide (new_l h1 T.out n h1n hn9)
      clear h1 ca
      go_wp2_with fail
      refine cN.out.mono ?_
      rintro e w2 ⟨f, s, rfl, h2, -, -, -⟩
      have B2 := hide h2.bel
      clear h2 cN
      go_wp2
      go_ret
      exact ⟨rfl, B2.out⟩
    · have x3 : ¬ (200 : Int) < (len1 : Int) := by omega
      have hl9 : len1 ≤ 200 := by omega
      clear x2
      by_cases x4 : 40 < n
      · have x5 : (40 : Int) < (n : Int) := by omega
        clear x4
        go_enter Tryd.func4, Tryd.ntmps4
        go_wp2_with fail
        refine ca.out.mono ?_
        rintro e w1 ⟨rfl, h1⟩
        have cN := hide (new_l h1 T.out n h1n hn9)
        clear h1 ca
        go_wp2_with fail
        refine cN.out.mono ?_
        rintro e w2 ⟨f, s, rfl, h2, -, -, -⟩
        have B2 := hide h2.bel
        clear h2 cN
        go_wp2
        go_ret
        exact ⟨rfl, B2.out⟩
      · have x5 : ¬ (40 : Int) < (n : Int) := by omega
        have hn40 : n ≤ 40 := by omega
        clear x4
        go_enter Tryd.func4, Tryd.ntmps4
        go_wp2_with fail
        refine ca.out.mono ?_
        rintro e w1 ⟨rfl, h1⟩
        have cN := hide (new_l h1 T.out n h1n hn9)
        clear h1 ca
        go_wp2_with fail
        refine cN.out.mono ?_
        rintro e w2 ⟨f, s, rfl, h2, -, -, -⟩
        have S2 := hide h2
        have cR := hide (newR n h1n hn9 w2)
        clear h2 cN
        go_wp2_with fail
        refine cR.out.mono ?_
        rintro e w3 ⟨r, a, b, cA, cB, lr, rfl, hrf, hpg, hb3⟩
        have P0 : Hid (PL w f s w2.heap.size r a b cA cB (List.replicate n blank) (List.replicate n blank) (.slice none 0 0) [] w3) := ⟨S2.out.on hb3, ⟨lr, hrf, hpg⟩, NR.nil _ _, by simp [own, Value.ownBlock], S2.out.bel.size⟩
        obtain ⟨B, hB⟩ : ∃ B, B = w2.heap.size := ⟨_, rfl⟩
        rw [← hB] at P0
        clear cR S2 hrf hpg hb3 hB
        go_wp2_with fail
        go_loopg [10, 11] len1 (fun kx s10 s11 wr => ∃ (i m : Nat) (va : Option Addr) (vc : Nat), s11 = .int .i64 i ∧ s10 = .slice va m vc ∧ i ≤ len1 ∧ m ≤ i ∧ len1 - i ≤ kx ∧ Hid (∃ l xs, PL w f s B r a b cA cB l l (.slice va m vc) xs wr ∧ l.length = n ∧ m = xs.length ∧ ∀ x ∈ xs, 0 ≤ x ∧ x ≤ 100000))
        case atStart => exact ⟨0, 0, none, 0, rfl, rfl, Nat.zero_le _, Nat.le_refl _, by omega, _, [], P0.out, by simp, rfl, fun x hx => by simp at hx⟩
        case round =>
          obtain ⟨i, m, va, vc, rfl, rfl, hil, hmi, hkx, I⟩ := hrel
          obtain ⟨l, xs, iP, iL, iM, iX⟩ := I.out
          have IP := hide iP
          have IL := hide iL
          have IM := hide iM
          have IX := hide iX
          clear I iP iL iM iX P0
          by_cases hlt : i < len1
          · have hlt2 : (i : Int) < (len1 : Int) := by omega
            obtain ⟨ab, ao, x, ha, hx, hfit, hone⟩ := AA.out.at IP.out.sl.bel i hlt
            obtain ⟨fr, nt, cs, rw9⟩ := x
            obtain ⟨k0, k1, k2, k3⟩ := hone
            subst ha
            obtain ⟨⟨f1, f2⟩, f3, f4⟩ := hfit
            simp only at *
            clear hx
            have PA := hide (IP.out.alloc (.cells #[.bool fr, .int .i64 nt, .int .i64 cs, .bool rw9] 37))
            have BA : Hid (Blk (wr.alloc (.cells #[.bool fr, .int .i64 nt, .int .i64 cs, .bool rw9] 37)) wr.heap.size [.bool fr, .int .i64 nt, .int .i64 cs, .bool rw9] 37) := Blk.new wr [.bool fr, .int .i64 nt, .int .i64 cs, .bool rw9] 37
            obtain ⟨bx, hbx⟩ : ∃ bx, bx = wr.heap.size := ⟨_, rfl⟩
            rw [← hbx] at BA
            have HBX := hide hbx
            clear hbx
            cases fr with
            | false =>
              by_cases hcs : 0 ≤ cs ∧ cs ≤ 5
              · obtain ⟨cn, rfl⟩ : ∃ n : Nat, cs = (n : Int) := ⟨cs.toNat, by omega⟩
                have hcn : cn < 6 := by omega
                have y0 : ¬ (cn : Int) < 0 := by omega
                have y1 : ¬ (5 : Int) < (cn : Int) := by omega
                have HC := hide hcn
                have ct := hide (PA.out.takeS cn hcn)
                have G := hide IP.out.sl.good
                clear hcs f3 f4
                cases hp : pfor cn l with
                | none =>
                  obtain ⟨e1, e2, e3⟩ := tk_none hp
                  rw [e1, e2, e3] at ct
                  have eR : Hid (tkR cn l = -1) := by show _ = _; unfold tkR; rw [e2]; rfl
                  have eL := hide e3
                  clear e1 e2 e3 hp
                  go_wp2_with fail
                  refine ct.out.mono ?_
                  rintro e w5 ⟨rfl, h5, kb5⟩
                  have b5 := kb5 _ _ BA.out
                  have z0 := b5.cell (i := 2) rfl
                  have cf := hide (h5.takeF cn HC.out)
                  rw [eR.out, eL.out] at cf
                  rw [HBX.out] at z0
                  clear h5 kb5 b5 ct
                  go_wp2_with fail
                  refine cf.out.mono ?_
                  rintro e w6 ⟨rfl, h6, -⟩
                  have P6 := hide h6
                  clear h6 cf z0
                  go_wp2
                  go_roundg (len1 - (i + 1))
                  case measure => omega
                  case rel => exact ⟨i + 1, m, va, vc, by go_num, rfl, by omega, by omega, by omega, l, xs, P6.out, IL.out, IM.out, IX.out⟩
                | some pa =>
                  have he : tkE cn l = 0 := by unfold tkE; rw [hp]
                  obtain ⟨_, _, _, hb64⟩ := take_bits HC.out G.out he
                  have hof := of_taken HC.out G.out he
                  rw [IL.out] at hb64
                  obtain ⟨z, hz⟩ : ∃ z, z = (tkC cn l : Int) := ⟨_, rfl⟩
                  have hz9 : z ≤ 100000 := by omega
                  have hz0 : 0 ≤ z := by omega
                  have eR : Hid (tkR cn l = z) := by show _ = _; unfold tkR; rw [if_pos he, hz]
                  rw [he, ← hz] at ct
                  rw [← hz] at hof
                  have HOF := hide hof
                  clear he hof hp hb64 hz
                  go_wp2_with fail
                  refine ct.out.mono ?_
                  rintro e w5 ⟨rfl, h5, kb5⟩
                  have b5 := kb5 _ _ BA.out
                  have z0 := b5.cell (i := 2) rfl
                  have cf := hide (h5.takeF cn HC.out)
                  rw [eR.out] at cf
                  rw [HBX.out] at z0
                  have B5 := hide b5
                  clear h5 kb5 b5 ct
                  go_wp2_with fail
                  refine cf.out.mono ?_
                  rintro e w6 ⟨rfl, h6, kb6⟩
                  have b6 := kb6 _ _ B5.out
                  have P6 := hide h6
                  have zneg : ¬ z < 0 := by omega
                  have cOf : Hid (∀ W, Below w6.heap.size w6 W → Calls Tryd.prog 15 #[.pointer (some ⟨f, 0, none⟩), .int .i64 z] W fun e W' => e = .returned (.int .i64 (cn : Int)) ∧ Below W.heap.size W W') := fun W hW => by
                    refine ((P6.out.below hW).ofS z (by omega)).mono ?_
                    rintro e W' ⟨rfl, _, hb⟩
                    exact ⟨by rw [HOF.out], hb⟩
                  have RD : Hid (∀ W, Below w6.heap.size w6 W → W.cell? ⟨bx, 2, none⟩ = some (.int .i64 (cn : Int))) := fun W hW => (b6.same (hW.block bx b6.lt)).cell (i := 2) rfl
                  have DR : Hid (Below w6.heap.size w6 w6.drew) := (Below.refl _ _).drew
                  clear h6 kb6 b6 cf z0
                  go_wp2_with fail
                  rw [← HBX.out]
                  refine wp_region_guard (by kernel_rfl) (by kernel_rfl) (fun jx => ([.int .i64 0, .bool false, .bool false, .int .i64 z, .int .i64 z, .bool false, .bool false, .bool false, .pointer (some ⟨f, 0, none⟩), .int .i64 z, .int .i64 (cn : Int), .pointer (some ⟨bx, 2, none⟩), .int .i64 (cn : Int), .bool false, .bool false] : List Value).getD jx undef) (fun W => Below w6.heap.size w6 W) (size_of (n := 228) (by kernel_rfl) rfl) (DR.out) ?_ ?_
                  · intro jx ox hi w' ev hc hin hout hcst hfn
                    have hltx : jx < 15 := by
                      have := (Array.getElem?_eq_some_iff.1 hi).1
                      simpa using this
                    match jx, hltx with
                    | 0, _ =>
                      simp only [List.getElem?_toArray, List.getElem?_cons_zero, List.getElem?_cons_succ, Option.some.injEq] at hi
                      subst hi
                      rw [if_pos (by first | rfl | simp [wantV])]
                      have e0 : ev (.tmp 14) = .int .i64 0 := hout 14 (by kernel_rfl) (show (14 : Nat) < 228 by decide)
                      refine .inl ⟨w', ?_, hc⟩
                      show _ = Result.ok (Next.value (.int .i64 0)) w'
                      simp [execOp, e0, hcst, go_sem]
                    | 1, _ =>
                      simp only [List.getElem?_toArray, List.getElem?_cons_zero, List.getElem?_cons_succ, Option.some.injEq] at hi
                      subst hi
                      rw [if_pos (by first | rfl | simp [wantV])]
                      have e0 : ev (.tmp 112) = .int .i64 0 := hin 112 0 ⟨0, .data⟩ (by kernel_rfl) (by simp) rfl rfl (show (112 : Nat) < 228 by decide)
                      refine .inl ⟨w', ?_, hc⟩
                      show _ = Result.ok (Next.value (.bool false)) w'
                      simp [execOp, e0, hcst, go_sem]
                    | 2, _ =>
                      simp only [List.getElem?_toArray, List.getElem?_cons_zero, List.getElem?_cons_succ, Option.some.injEq] at hi
                      subst hi
                      rw [if_pos (by first | rfl | simp [wantV])]
                      have e0 : ev (.tmp 113) = .bool false := hin 113 1 ⟨1, .data⟩ (by kernel_rfl) (by simp) rfl rfl (show (113 : Nat) < 228 by decide)
                      refine .inl ⟨w', ?_, hc⟩
                      show _ = Result.ok (Next.value (.bool false)) w'
                      simp [execOp, e0, hcst, go_sem]
                    | 3, _ =>
                      simp only [List.getElem?_toArray, List.getElem?_cons_zero, List.getElem?_cons_succ, Option.some.injEq] at hi
                      subst hi
                      rw [if_pos (by first | rfl | simp [wantV])]
                      have e0 : ev (.tmp 13) = .int .i64 z := hout 13 (by kernel_rfl) (show (13 : Nat) < 228 by decide)
                      refine .inl ⟨w', ?_, hc⟩
                      show _ = Result.ok (Next.value (.int .i64 z)) w'
                      simp [execOp, e0, hcst, go_sem]
                    | 4, _ =>
                      simp only [List.getElem?_toArray, List.getElem?_cons_zero, List.getElem?_cons_succ, Option.some.injEq] at hi
                      subst hi
                      rw [if_pos (by first | rfl | simp [wantV])]
                      have e0 : ev (.tmp 15) = .int .i64 z := hout 15 (by kernel_rfl) (show (15 : Nat) < 228 by decide)
                      refine .inl ⟨w', ?_, hc⟩
                      show _ = Result.ok (Next.value (.int .i64 z)) w'
                      simp [execOp, e0, hcst, go_sem]
                    | 5, _ =>
                      simp only [List.getElem?_toArray, List.getElem?_cons_zero, List.getElem?_cons_succ, Option.some.injEq] at hi
                      subst hi
                      rw [if_pos (by first | rfl | simp [wantV])]
                      have e0 : ev (.tmp 115) = .int .i64 z := hin 115 3 ⟨3, .data⟩ (by kernel_rfl) (by simp) rfl rfl (show (115 : Nat) < 228 by decide)
                      have e1 : ev (.tmp 116) = .int .i64 z := hin 116 4 ⟨4, .data⟩ (by kernel_rfl) (by simp) rfl rfl (show (116 : Nat) < 228 by decide)
                      refine .inl ⟨w', ?_, hc⟩
                      show _ = Result.ok (Next.value (.bool false)) w'
                      simp [execOp, e0, e1, hcst, go_sem]
                    | 6, _ =>
                      simp only [List.getElem?_toArray, List.getElem?_cons_zero, List.getElem?_cons_succ, Option.some.injEq] at hi
                      subst hi
                      rw [if_pos (by first | rfl | simp [wantV])]
                      have e0 : ev (.tmp 114) = .bool false := hin 114 2 ⟨2, .data⟩ (by kernel_rfl) (by simp) rfl rfl (show (114 : Nat) < 228 by decide)
                      have e1 : ev (.tmp 117) = .bool false := hin 117 5 ⟨5, .data⟩ (by kernel_rfl) (by simp) rfl rfl (show (117 : Nat) < 228 by decide)
                      refine .inl ⟨w', ?_, hc⟩
                      show _ = Result.ok (Next.value (.bool false)) w'
                      simp [execOp, e0, e1, hcst, go_sem]
                    | 7, _ =>
                      simp only [List.getElem?_toArray, List.getElem?_cons_zero, List.getElem?_cons_succ, Option.some.injEq] at hi
                      subst hi
                      rw [if_pos (by first | rfl | simp [wantV])]
                      have e0 : ev (.tmp 118) = .bool false := hin 118 6 ⟨6, .data⟩ (by kernel_rfl) (by simp) rfl rfl (show (118 : Nat) < 228 by decide)
                      refine .inl ⟨w', ?_, hc⟩
                      show _ = Result.ok (Next.value (.bool false)) w'
                      simp [execOp, e0, hcst, go_sem]
                    | 8, _ =>
                      simp only [List.getElem?_toArray, List.getElem?_cons_zero, List.getElem?_cons_succ, Option.some.injEq] at hi
                      subst hi
                      rw [if_pos (by first | rfl | simp [wantV])]
                      have e0 : ev (.tmp 7) = .pointer (some ⟨f, 0, none⟩) := hout 7 (by kernel_rfl) (show (7 : Nat) < 228 by decide)
                      refine .inl ⟨w', ?_, hc⟩
                      show _ = Result.ok (Next.value (.pointer (some ⟨f, 0, none⟩))) w'
                      simp [execOp, e0, hcst, go_sem]
                    | 9, _ =>
                      simp only [List.getElem?_toArray, List.getElem?_cons_zero, List.getElem?_cons_succ, Option.some.injEq] at hi
                      subst hi
                      rw [if_pos (by first | rfl | simp [wantV])]
                      have e0 : ev (.tmp 13) = .int .i64 z := hout 13 (by kernel_rfl) (show (13 : Nat) < 228 by decide)
                      refine .inl ⟨w', ?_, hc⟩
                      show _ = Result.ok (Next.value (.int .i64 z)) w'
                      simp [execOp, e0, hcst, go_sem]
                    | 10, _ =>
                      simp only [List.getElem?_toArray, List.getElem?_cons_zero, List.getElem?_cons_succ, Option.some.injEq] at hi
                      subst hi
                      rw [if_pos (by first | rfl | simp [wantV])]
                      have e0 : ev (.tmp 120) = .pointer (some ⟨f, 0, none⟩) := hin 120 8 ⟨8, .data⟩ (by kernel_rfl) (by simp) rfl rfl (show (120 : Nat) < 228 by decide)
                      have e1 : ev (.tmp 121) = .int .i64 z := hin 121 9 ⟨9, .data⟩ (by kernel_rfl) (by simp) rfl rfl (show (121 : Nat) < 228 by decide)
                      refine .inr (.inr ⟨15, #[.pointer (some ⟨f, 0, none⟩), .int .i64 z], ?_, ?_⟩)
                      · have ef := hfn 15
                        simp [execOp, resolve, invoke, ef, hcst, e0, e1, Result.andThen]
                        exact enter15 _ _
                      · refine (cOf.out w' hc).mono ?_
                        rintro e w2 ⟨rfl, b2⟩
                        exact ⟨rfl, hc.trans (b2.mono hc.size)⟩
                    | 11, _ =>
                      simp only [List.getElem?_toArray, List.getElem?_cons_zero, List.getElem?_cons_succ, Option.some.injEq] at hi
                      subst hi
                      rw [if_pos (by first | rfl | simp [wantV])]
                      have e0 : ev (.tmp 12) = .pointer (some ⟨bx, 0, none⟩) := hout 12 (by kernel_rfl) (show (12 : Nat) < 228 by decide)
                      refine .inl ⟨w', ?_, hc⟩
                      show _ = Result.ok (Next.value (.pointer (some ⟨bx, 2, none⟩))) w'
                      simp [execOp, e0, hcst, go_sem]
                    | 12, _ =>
                      simp only [List.getElem?_toArray, List.getElem?_cons_zero, List.getElem?_cons_succ, Option.some.injEq] at hi
                      subst hi
                      rw [if_pos (by first | rfl | simp [wantV])]
                      have e0 : ev (.tmp 123) = .pointer (some ⟨bx, 2, none⟩) := hin 123 11 ⟨11, .data⟩ (by kernel_rfl) (by simp) rfl rfl (show (123 : Nat) < 228 by decide)
                      refine .inl ⟨w', ?_, hc⟩
                      show _ = Result.ok (Next.value (.int .i64 (cn : Int))) w'
                      have q := RD.out w' hc
                      simp [execOp, e0, q, hcst, go_sem]
                    | 13, _ =>
                      simp only [List.getElem?_toArray, List.getElem?_cons_zero, List.getElem?_cons_succ, Option.some.injEq] at hi
                      subst hi
                      rw [if_pos (by first | rfl | simp [wantV])]
                      have e0 : ev (.tmp 122) = .int .i64 (cn : Int) := hin 122 10 ⟨10, .data⟩ (by kernel_rfl) (by simp) rfl rfl (show (122 : Nat) < 228 by decide)
                      have e1 : ev (.tmp 124) = .int .i64 (cn : Int) := hin 124 12 ⟨12, .data⟩ (by kernel_rfl) (by simp) rfl rfl (show (124 : Nat) < 228 by decide)
                      refine .inl ⟨w', ?_, hc⟩
                      show _ = Result.ok (Next.value (.bool false)) w'
                      simp [execOp, e0, e1, hcst, go_sem]
                    | 14, _ =>
                      simp only [List.getElem?_toArray, List.getElem?_cons_zero, List.getElem?_cons_succ, Option.some.injEq] at hi
                      subst hi
                      rw [if_pos (by first | rfl | simp [wantV])]
                      have e0 : ev (.tmp 119) = .bool false := hin 119 7 ⟨7, .data⟩ (by kernel_rfl) (by simp) rfl rfl (show (119 : Nat) < 228 by decide)
                      have e1 : ev (.tmp 125) = .bool false := hin 125 13 ⟨13, .data⟩ (by kernel_rfl) (by simp) rfl rfl (show (125 : Nat) < 228 by decide)
                      refine .inl ⟨w', ?_, hc⟩
                      show _ = Result.ok (Next.value (.bool false)) w'
                      simp [execOp, e0, e1, hcst, go_sem]
                  · intro w7 hc
                    simp only [lexF, Act.put, List.setIfInBounds_toArray, List.set_cons_succ, List.set_cons_zero, List.getD_cons_succ, List.getD_cons_zero]
                    have P7 := hide (P6.out.below hc)
                    clear hc P6 cOf RD DR
                    obtain ⟨ua, uc, w8, hrun, hP8⟩ := P7.out.app z (by rw [← IM.out]; omega)
                    rw [← IM.out] at hrun hP8
                    have P8 := hide hP8
                    have HRN := hide hrun
                    clear hrun hP8
                    go_wp2_with (at_builtin; refine Lib.wpList_append_run _ rfl _ _ _ _ rfl _ _ rfl rfl _ _ (HRN.out _) ?_)
                    go_roundg (len1 - (i + 1))
                    case measure => omega
                    case rel => exact ⟨i + 1, m + 1, ua, uc, by go_num, rfl, by omega, by omega, by omega, _, _, P8.out, by rw [tkL_len, IL.out], by rw [List.length_append, ← IM.out]; rfl, fun y hy => by rcases List.mem_append.1 hy with h1 | h1; exact IX.out y h1; simp at h1; subst h1; exact ⟨hz0, hz9⟩⟩
              · have hbad : cs < 0 ∨ 5 < cs := by omega
                have ct : Hid (Calls Tryd.prog 11 #[.pointer (some ⟨f, 0, none⟩), .int .i64 cs] (wr.alloc (.cells #[.bool false, .int .i64 nt, .int .i64 cs, .bool rw9] 37)) fun e W' => e = .returned (.tuple #[.int .i64 0, .int .i64 1]) ∧ W' = wr.alloc (.cells #[.bool false, .int .i64 nt, .int .i64 cs, .bool rw9] 37)) := take_bad f cs hbad _
                have z0 := BA.out.cell (i := 2) rfl
                rw [HBX.out] at z0
                obtain ⟨W4, hW4⟩ : ∃ W4, W4 = wr.alloc (.cells #[.bool false, .int .i64 nt, .int .i64 cs, .bool rw9] 37) := ⟨_, rfl⟩
                rw [← hW4] at ct z0 PA
                have HW4 := hide hW4
                by_cases y0 : cs < 0
                · clear hbad hcs hW4
                  go_wp2_with fail
                  rw [← HW4.out]
                  refine ct.out.mono ?_
                  rintro e wx ⟨rfl, hwx⟩
                  obtain rfl : W4 = wx := hwx.symm
                  clear hwx ct HW4
                  go_wp2
                  go_roundg (len1 - (i + 1))
                  case measure => omega
                  case rel => exact ⟨i + 1, m, va, vc, by go_num, rfl, by omega, by omega, by omega, l, xs, PA.out, IL.out, IM.out, IX.out⟩
                · have y1 : 5 < cs := by omega
                  clear hbad hcs hW4
                  go_wp2_with fail
                  rw [← HW4.out]
                  refine ct.out.mono ?_
                  rintro e wx ⟨rfl, hwx⟩
                  obtain rfl : W4 = wx := hwx.symm
                  clear hwx ct HW4
                  go_wp2
                  go_roundg (len1 - (i + 1))
                  case measure => omega
                  case rel => exact ⟨i + 1, m, va, vc, by go_num, rfl, by omega, by omega, by omega, l, xs, PA.out, IL.out, IM.out, IX.out⟩
            | true =>
              cases rw9 with
              | true =>
                obtain ⟨z, hz⟩ : ∃ z, z = nt := ⟨_, rfl⟩
                have hz8 : -9223372036854775808 ≤ z := by omega
                have hz9 : z ≤ 9223372036854775807 := by omega
                have cf : Hid (Calls Tryd.prog 19 #[.pointer (some ⟨r, 0, none⟩), .int .i64 z] (wr.alloc (.cells #[.bool true, .int .i64 nt, .int .i64 cs, .bool true] 37)) fun e W' => e = .returned (.bool (takI l z)) ∧ PL w f s B r a b cA cB l (frL l z) (.slice va m vc) xs W') := by
                  refine (PA.out.freeF z hz8 hz9).mono ?_
                  rintro e W' ⟨rfl, h, _⟩
                  exact ⟨rfl, h⟩
                have eO := hide (of_freed (l := l) z)
                have eE := hide (frE_zero l z)
                obtain ⟨tv, htv⟩ : ∃ tv, tv = takI l z := ⟨_, rfl⟩
                rw [← htv] at cf eE
                subst hz
                go_wp2_with fail
                refine cf.out.mono ?_
                rintro e w5 ⟨rfl, h5⟩
                have cs5 := hide (h5.freeS z hz9)
                obtain ⟨fe, hfe⟩ : ∃ fe, fe = frE l z := ⟨_, rfl⟩
                rw [← hfe] at cs5 eE
                clear h5 cf htv hfe
                have eE' := eE.out
                clear eE
                go_wp2_with fail
                refine cs5.out.mono ?_
                rintro e w6 ⟨rfl, h6, -⟩
                have co := hide (h6.ofS z hz9)
                rw [eO.out] at co
                have bne : (tv != tv) = false := by cases tv <;> rfl
                clear h6 cs5
                go_wp2_with fail
                refine co.out.mono ?_
                rintro e w7 ⟨rfl, h7, -⟩
                have P7 := hide h7
                clear h7 co
                go_wp2
                go_roundg (len1 - (i + 1))
                case measure => omega
                case rel => exact ⟨i + 1, m, va, vc, by go_num, rfl, by omega, by omega, by omega, _, xs, P7.out, by rw [frL_len, IL.out], IM.out, IX.out⟩
              | false =>
                by_cases hm0 : 0 < m
                · have hm1 : (0 : Int) < (m : Int) := by omega
                  obtain ⟨q, hq, hq9⟩ := and_low nt 65535 (by omega)
                  have hq' : bits BinOp.and IntKind.i64 nt 65535 = (q : Int) := hq
                  obtain ⟨k, hk⟩ : ∃ k, k = q % m := ⟨_, rfl⟩
                  have hkm : k < m := by rw [hk]; exact Nat.mod_lt _ hm0
                  have hq1 : (q : Int) % (m : Int) = (k : Int) := by rw [hk]; omega
                  have hq2 : ((q : Int).tmod (m : Int)) = (k : Int) := by rw [Int.tmod_eq_emod_of_nonneg (by omega), hq1]
                  have hm2 : ((m : Int) == 0) = false := by simp; omega
                  obtain ⟨z, hz⟩ : ∃ y, xs[k]? = some y := ⟨_, List.getElem?_eq_getElem (by rw [← IM.out]; exact hkm)⟩
                  obtain ⟨g, cap, hv, hcell, hg, hcap⟩ := PA.out.nr.cell hz
                  simp only [Value.slice.injEq] at hv
                  obtain ⟨rfl, -, rfl⟩ := hv
                  have hzb := IX.out z (List.mem_of_getElem? hz)
                  have hz8 : -9223372036854775808 ≤ z := by omega
                  have hz9 : z ≤ 9223372036854775807 := by omega
                  have hkm2 : (k : Int) < (m : Int) := by omega
                  clear hz hk hq hzb
                  have cf : Hid (Calls Tryd.prog 19 #[.pointer (some ⟨r, 0, none⟩), .int .i64 z] (wr.alloc (.cells #[.bool true, .int .i64 nt, .int .i64 cs, .bool false] 37)) fun e W' => e = .returned (.bool (takI l z)) ∧ PL w f s B r a b cA cB l (frL l z) (.slice (some ⟨g, 0, none⟩) m vc) xs W') := by
                    refine (PA.out.freeF z hz8 hz9).mono ?_
                    rintro e W' ⟨rfl, h, _⟩
                    exact ⟨rfl, h⟩
                  have eO := hide (of_freed (l := l) z)
                  have eE := hide (frE_zero l z)
                  obtain ⟨tv, htv⟩ : ∃ tv, tv = takI l z := ⟨_, rfl⟩
                  rw [← htv] at cf eE
                  go_wp2_with fail
                  refine cf.out.mono ?_
                  rintro e w5 ⟨rfl, h5⟩
                  have cs5 := hide (h5.freeS z hz9)
                  obtain ⟨fe, hfe⟩ : ∃ fe, fe = frE l z := ⟨_, rfl⟩
                  rw [← hfe] at cs5 eE
                  clear h5 cf htv hfe
                  have eE' := eE.out
                  clear eE
                  go_wp2_with fail
                  refine cs5.out.mono ?_
                  rintro e w6 ⟨rfl, h6, -⟩
                  have co := hide (h6.ofS z hz9)
                  rw [eO.out] at co
                  have bne : (tv != tv) = false := by cases tv <;> rfl
                  clear h6 cs5
                  go_wp2_with fail
                  refine co.out.mono ?_
                  rintro e w7 ⟨rfl, h7, -⟩
                  have P7 := hide h7
                  clear h7 co
                  go_wp2
                  go_roundg (len1 - (i + 1))
                  case measure => omega
                  case rel => exact ⟨i + 1, m, (some ⟨g, 0, none⟩), vc, by go_num, rfl, by omega, by omega, by omega, _, xs, P7.out, by rw [frL_len, IL.out], IM.out, IX.out⟩
                · obtain rfl : m = 0 := by omega
                  have hm1 : ¬ (0 : Int) < ((0 : Nat) : Int) := by omega
                  obtain ⟨z, hz⟩ : ∃ z, z = nt := ⟨_, rfl⟩
                  have hz8 : -9223372036854775808 ≤ z := by omega
                  have hz9 : z ≤ 9223372036854775807 := by omega
                  have cf : Hid (Calls Tryd.prog 19 #[.pointer (some ⟨r, 0, none⟩), .int .i64 z] (wr.alloc (.cells #[.bool true, .int .i64 nt, .int .i64 cs, .bool false] 37)) fun e W' => e = .returned (.bool (takI l z)) ∧ PL w f s B r a b cA cB l (frL l z) (.slice va 0 vc) xs W') := by
                    refine (PA.out.freeF z hz8 hz9).mono ?_
                    rintro e W' ⟨rfl, h, _⟩
                    exact ⟨rfl, h⟩
                  have eO := hide (of_freed (l := l) z)
                  have eE := hide (frE_zero l z)
                  obtain ⟨tv, htv⟩ : ∃ tv, tv = takI l z := ⟨_, rfl⟩
                  rw [← htv] at cf eE
                  subst hz
                  go_wp2_with fail
                  refine cf.out.mono ?_
                  rintro e w5 ⟨rfl, h5⟩
                  have cs5 := hide (h5.freeS z hz9)
                  obtain ⟨fe, hfe⟩ : ∃ fe, fe = frE l z := ⟨_, rfl⟩
                  rw [← hfe] at cs5 eE
                  clear h5 cf htv hfe
                  have eE' := eE.out
                  clear eE
                  go_wp2_with fail
                  refine cs5.out.mono ?_
                  rintro e w6 ⟨rfl, h6, -⟩
                  have co := hide (h6.ofS z hz9)
                  rw [eO.out] at co
                  have bne : (tv != tv) = false := by cases tv <;> rfl
                  clear h6 cs5
                  go_wp2_with fail
                  refine co.out.mono ?_
                  rintro e w7 ⟨rfl, h7, -⟩
                  have P7 := hide h7
                  clear h7 co
                  go_wp2
                  go_roundg (len1 - (i + 1))
                  case measure => omega
                  case rel => exact ⟨i + 1, 0, va, vc, by go_num, rfl, by omega, by omega, by omega, _, xs, P7.out, by rw [frL_len, IL.out], IM.out, IX.out⟩
          · obtain rfl : i = len1 := by omega
            have hlt2 : ¬ (i : Int) < (i : Int) := by omega
            have hl6 := IL.out
            go_wp2_with fail
            go_loopg [19] 6 (fun kx s19 wr => ∃ (c : Nat), s19 = .int .i64 c ∧ c ≤ 6 ∧ 6 - c ≤ kx ∧ Hid (PL w f s B r a b cA cB l l (.slice va m vc) xs wr))
            case atStart => exact ⟨0, rfl, by omega, by omega, IP.out⟩
            case round =>
              obtain ⟨c, rfl, hc6, hkc, J⟩ := hrel
              obtain ⟨r0, rca, rof⟩ := J.out.cells
              rw [IL.out] at r0 rca
              by_cases hc : c < 6
              · have hc2 : (c : Int) < 6 := by omega
                have ROF := hide rof
                clear rof
                go_wp2_with fail
                go_loop [20, 21, 22] (fun s20 s21 s22 => ∃ p u h : Nat, s22 = .int .i64 p ∧ s20 = .int .i64 u ∧ s21 = .int .i64 h ∧ p ≤ n ∧ u ≤ 64 * p ∧ h ≤ p ∧ Hid (u = usd (c : Int) (l.take p) ∧ h = ownd (c : Int) (l.take p))) (fun _ _ s22 => n - (intOf s22).toNat)
                case atStart => exact ⟨0, 0, 0, rfl, rfl, rfl, Nat.zero_le _, Nat.le_refl _, Nat.le_refl _, rfl, rfl⟩
                case round =>
                  obtain ⟨p, u, h, rfl, rfl, rfl, hpn, hu, hh, K⟩ := hrel
                  by_cases hp : p < n
                  · have hp2 : (p : Int) < (n : Int) := by omega
                    obtain ⟨y, hy⟩ : ∃ y, l[p]? = some y := ⟨_, List.getElem?_eq_getElem (by rw [IL.out]; exact hp)⟩
                    have q0 := ROF.out p y hy
                    have cu := hide (J.out.usedF hy)
                    have E1 : Hid (usd (c : Int) (l.take (p + 1)) = u + if y.c = (c : Int) then pop 64 y.t else 0) := by
                      show _ = _
                      rw [take_snoc hy, usd_app, ← K.out.1]; simp [usd]
                    have E2 : Hid (ownd (c : Int) (l.take (p + 1)) = h + if y.c = (c : Int) then 1 else 0) := by
                      show _ = _
                      rw [take_snoc hy, ownd_app, ← K.out.2]; simp [ownd]
                    have hpl := pop_le 64 y.t
                    clear hy
                    by_cases hyc : y.c = (c : Int)
                    · rw [if_pos hyc] at E1 E2
                      rw [hyc] at q0
                      generalize pop 64 y.t = pu at *
                      clear hyc
                      go_wp2_with fail
                      refine cu.out.mono ?_
                      rintro e wx ⟨rfl, hwx⟩
                      obtain rfl : wr = wx := hwx.symm
                      clear hwx cu
                      go_wp2
                      go_round
                      case rel => exact ⟨p + 1, u + pu, h + 1, by go_num, by go_num, by go_num, by omega, by omega, by omega, E1.out.symm, E2.out.symm⟩
                      case measure => simp [intOf]; omega
                    · rw [if_neg hyc] at E1 E2
                      have hyc2 : (y.c == (c : Int)) = false := by simp [hyc]
                      generalize y.c = yc at *
                      clear hyc cu
                      go_wp2
                      go_round
                      case rel => exact ⟨p + 1, u, h, by go_num, rfl, rfl, by omega, by omega, by omega, E1.out.symm, E2.out.symm⟩
                      case measure => simp [intOf]; omega
                  · obtain rfl : n = p := by omega
                    have hp2 : ¬ (n : Int) < (n : Int) := by omega
                    have e1 : u = usd (c : Int) l := by rw [K.out.1, List.take_of_length_le (by rw [IL.out]; exact Nat.le_refl _)]
                    have e2 : h = ownd (c : Int) l := by rw [K.out.2, List.take_of_length_le (by rw [IL.out]; exact Nat.le_refl _)]
                    have cu : Hid (∀ W, PL w f s B r a b cA cB l l (.slice va m vc) xs W → Calls Tryd.prog 21 #[.pointer (some ⟨f, 0, none⟩), .int .i64 (c : Int)] W fun e W' => e = .returned (.int .i64 (u : Int)) ∧ PL w f s B r a b cA cB l l (.slice va m vc) xs W') := fun W hP => by
                      refine (used_l hP.sl (c : Int)).mono ?_
                      rintro e W' ⟨rfl, _, hb⟩
                      exact ⟨by rw [e1], hP.below hb⟩
                    have cp : Hid (∀ W, PL w f s B r a b cA cB l l (.slice va m vc) xs W → Calls Tryd.prog 22 #[.pointer (some ⟨f, 0, none⟩), .int .i64 (c : Int)] W fun e W' => e = .returned (.int .i64 (h : Int)) ∧ PL w f s B r a b cA cB l l (.slice va m vc) xs W') := fun W hP => by
                      refine (pages_l hP.sl (c : Int) (by omega)).mono ?_
                      rintro e W' ⟨rfl, _, hb⟩
                      exact ⟨by rw [e2], hP.below hb⟩
                    have c1 := hide (cu.out wr J.out)
                    clear e1 e2 cu
                    go_wp2_with fail
                    refine c1.out.mono ?_
                    rintro e w5 ⟨rfl, h5⟩
                    have c2 := hide (cp.out w5 h5)
                    clear h5 c1 cp
                    go_wp2_with fail
                    refine c2.out.mono ?_
                    rintro e w6 ⟨rfl, h6⟩
                    have P6 := hide h6
                    clear h6 c2
                    go_wp2
                    go_roundg (6 - (c + 1))
                    case measure => omega
                    case rel => exact ⟨c + 1, by go_num, by omega, by omega, P6.out⟩
              · obtain rfl : c = 6 := by omega
                have hc2 : ¬ ((6 : Nat) : Int) < 6 := by omega
                have ROF := hide rof
                have G := hide J.out.sl.good
                clear rof
                go_wp2_with fail
                go_loop [18, 23] (fun s18 s23 => ∃ p h : Nat, s23 = .int .i64 p ∧ s18 = .int .i64 h ∧ p ≤ n ∧ h ≤ p ∧ Hid (h = ownd (-1) (l.take p))) (fun _ s23 => n - (intOf s23).toNat)
                case atStart => exact ⟨0, 0, rfl, rfl, Nat.zero_le _, Nat.le_refl _, rfl⟩
                case round =>
                  obtain ⟨p, h, rfl, rfl, hpn, hh, K⟩ := hrel
                  by_cases hp : p < n
                  · have hp2 : (p : Int) < (n : Int) := by omega
                    obtain ⟨y, hy⟩ : ∃ y, l[p]? = some y := ⟨_, List.getElem?_eq_getElem (by rw [IL.out]; exact hp)⟩
                    have q0 := ROF.out p y hy
                    have hok := G.out.at hy
                    have E2 : Hid (ownd (-1) (l.take (p + 1)) = h + if y.c = -1 then 1 else 0) := by
                      show _ = _
                      rw [take_snoc hy, ownd_app, ← K.out]; simp [ownd]
                    clear hy
                    by_cases hyc : y.c = -1
                    · rw [if_pos hyc] at E2
                      rw [hyc] at q0
                      clear hyc hok
                      go_wp2
                      go_round
                      case rel => exact ⟨p + 1, h + 1, by go_num, by go_num, by omega, by omega, E2.out.symm⟩
                      case measure => simp [intOf]; omega
                    · rw [if_neg hyc] at E2
                      have hyn : ¬ y.c < 0 := by
                        rcases hok with ⟨h1, _⟩ | ⟨d, _, h2, _⟩
                        · exact absurd h1 hyc
                        · omega
                      generalize y.c = yc at *
                      clear hyc hok
                      go_wp2
                      go_round
                      case rel => exact ⟨p + 1, h, by go_num, rfl, by omega, by omega, E2.out.symm⟩
                      case measure => simp [intOf]; omega
                  · obtain rfl : n = p := by omega
                    have hp2 : ¬ (n : Int) < (n : Int) := by omega
                    have e2 : h = ownd (-1) l := by rw [K.out, List.take_of_length_le (by rw [IL.out]; exact Nat.le_refl _)]
                    have cl : Hid (Calls Tryd.prog 16 #[.pointer (some ⟨f, 0, none⟩)] wr fun e W' => e = .returned (.int .i64 (h : Int)) ∧ Below w.heap.size w W') := by
                      refine (left_l J.out.sl).mono ?_
                      rintro e W' ⟨rfl, hS, _⟩
                      exact ⟨by rw [e2], hS.bel⟩
                    clear e2
                    have cz := hide (fun W : World => class_any a2 W)
                    have cy := hide (fun W : World => refClass_any a2 W)
                    generalize cls a2 = cv at *
                    go_wp2_with fail
                    refine cl.out.mono ?_
                    rintro e w5 ⟨rfl, h5⟩
                    have B5 := hide h5
                    clear h5 cl
                    go_wp2_with fail
                    refine (cz.out _).mono ?_
                    rintro e wx ⟨rfl, hwx⟩
                    obtain rfl : w5 = wx := hwx.symm
                    clear hwx cz
                    go_wp2_with fail
                    refine (cy.out _).mono ?_
                    rintro e wx ⟨rfl, hwx⟩
                    obtain rfl : w5 = wx := hwx.symm
                    clear hwx cy
                    go_wp2
                    go_ret
                    exact ⟨rfl, B5.out⟩

theorem laidOut : laidOutB Tryd.prog = true := by kernel_rfl
theorem own : ownKnob Tryd.prog.godebug = none := by kernel_rfl
/-- What the row lists: the table of trailing zeros. -/
theorem table {W : World} (h : laidMetH Tryd.prog Rows.slabPlaysRow.laid W) : Tab W :=
  Tab.of (Lib.tabIs_of_head (rest := []) (g := 0) (t := 58) (e := 5) (n := 64) (by kernel_rfl) (by kernel_rfl) (by kernel_rfl) (by kernel_rfl) (by kernel_rfl) (by kernel_rfl) (show laidMet Tryd.prog Rows.slabPlaysRow.laid W from h))
/-- What the walk gives, for every argument and every world that holds the table. -/
theorem contract (H : Type) (enc : TypeId × Value → H) (W : World) (base : Nat) (args : Array Value) (ds gs : List (DataW H)) (before : List MemPlace)
    (hval : ∀ (j : Nat) t v, Tryd.f4.params[j]? = some t → args[j]? = some v → Value.okWide Tryd.prog W .any base t v)
    (hW : DataW.Whole enc Tryd.prog Tryd.f4.params.toList Rows.slabPlaysSpec.vars false W args.toList ds gs before) (hL : laidMetH Tryd.prog Rows.slabPlaysRow.laid W) :
    Calls Tryd.prog 4 args W fun e W' => ∃ v, e = .returned v ∧ Rows.slabPlaysSpec.post enc Tryd.prog Tryd.f4 false true false false W args v W' := by
  have hW' := hW
  obtain ⟨p, q, hA0, hV, rfl, hfz, hnd⟩ := hW
  have hA : DataW.TrodAll enc Tryd.prog W 0 (fun _ => true) true Tryd.f4.params.toList args.toList ds p := hA0
  rw [Tryd.params4] at hA hval
  obtain ⟨v0, vs0, d0, ds0, p0, q0, hargs, rfl, rfl, h0, r0⟩ := trodAll_cons hA
  obtain ⟨v1, vs1, d1, ds1, p1, q1, rfl, rfl, rfl, h1, r1⟩ := trodAll_cons r0
  obtain ⟨v2, vs2, d2, ds2, p2, q2, rfl, rfl, rfl, h2, r2⟩ := trodAll_cons r1
  obtain ⟨rfl, rfl, rfl⟩ := trodAll_nil r2
  obtain rfl : args = #[v0, v1, v2] := by cases args; simp_all
  obtain ⟨rfl, rfl⟩ := trodVars_none hV
  obtain ⟨a0, rfl, rfl, rfl, w0⟩ := open_int Tryd.underlying3 (hval 0 3 v0 rfl rfl) h0
  obtain ⟨a1, len1, cap1, rfl⟩ := okWide_slice Tryd.underlying32 (hval 1 32 v1 rfl rfl)
  have k1 := h1
  have lt1 : ∀ x ∈ p1, x.block < W.heap.size := by obtain ⟨m, hm⟩ := k1; exact DataW.trod_lt m _ _ _ hm
  obtain ⟨z1, w1⟩ : ∃ xs, ActsAt W a1 len1 xs := by
    obtain ⟨fuel, hf⟩ := h1
    exact acts_open hf
  obtain ⟨a2, rfl, rfl, rfl, w2⟩ := open_int Tryd.underlying3 (hval 2 3 v2 rfl rfl) h2
  clear hA0
  try simp only [List.append_nil] at hW'
  refine (walk W a0 w0 a1 len1 cap1 z1 w1 a2 w2 (table hL)).mono fun e W' ⟨he, bel⟩ => ?_
  subst he
  exact ⟨_, rfl, _, _, _, [], _, [], hW', trodAll_mk1 (shut_bool Tryd.underlying4 _), (trodAll_cons_mk (shut_int Tryd.underlying3 w0) (trodAll_cons_mk (Below.trod laidOut (by kernel_rfl) (of_decide_eq_true (by kernel_rfl)) k1 bel lt1) (trodAll_cons_mk (shut_int Tryd.underlying3 w2) trodAll_mk0))), rfl, bel.frame _, fun h => by cases h⟩

/-- The witness: what the initialisers leave is met. -/
theorem laid_met (os : Os) : laidMet Tryd.prog Rows.slabPlaysRow.laid ((World.doorLaid Tryd.prog 14 os).forCall (fun _ _ => 0) ⟨#[], #[.int .i64 0, .slice none 0 0, .int .i64 0], []⟩).memory :=
  laidMet_of_run' 8 (by kernel_rfl) (by kernel_rfl)
theorem reads (os : Os) {H : Type} (enc : TypeId × Value → H) : ∃ xs places, DataW.whole enc Tryd.prog ((World.doorLaid Tryd.prog 14 os).forCall (fun _ _ => 0) ⟨#[], #[.int .i64 0, .slice none 0 0, .int .i64 0], []⟩).memory Tryd.f4.params.toList Rows.slabPlaysSpec.vars false (#[.int .i64 0, .slice none 0 0, .int .i64 0] : Array Value).toList 8 = some (xs, [], places) :=
  by
  have h : (DataW.whole enc Tryd.prog ((World.doorLaid Tryd.prog 14 os).forCall (fun _ _ => 0) ⟨#[], #[.int .i64 0, .slice none 0 0, .int .i64 0], []⟩).memory Tryd.f4.params.toList Rows.slabPlaysSpec.vars false (#[.int .i64 0, .slice none 0 0, .int .i64 0] : Array Value).toList 8).map (fun r => r.2.1.isEmpty) = some true := by kernel_rfl
  obtain ⟨⟨xs, gs, pl⟩, h1, h2⟩ := Option.map_eq_some_iff.1 h
  have h3 : gs = [] := List.isEmpty_iff.1 h2
  subst h3
  exact ⟨xs, pl, h1⟩

set_option maxRecDepth 100000 in
theorem lifted (os : Os) (started : os.Started) (H : Type) (enc : TypeId × Value → H) (F : Stop.Interp) :
    ReturnsInHanded {} Tryd.checked os 4 .any ((OpenSpec.ofChange Rows.slabPlaysSpec).preRow enc Tryd.prog Tryd.f4 Rows.slabPlaysRow.domain false Rows.slabPlaysRow.laid) (((OpenSpec.ofChange Rows.slabPlaysSpec).at F).post enc Tryd.prog Tryd.f4 false true false false) := by
  obtain ⟨xs, places, hx⟩ := reads os enc
  refine returnsInHanded_of_row (C := Tryd.checked) (s := OpenSpec.ofChange Rows.slabPlaysSpec) own started (by kernel_rfl) Tryd.func4
    (witness_row_at (enc := enc) (C := Tryd.checked) false (World.doorLaid Tryd.prog 14 os) #[.int .i64 0, .slice none 0 0, .int .i64 0] rfl (by kernel_rfl) (by kernel_rfl) (by kernel_rfl)
      (OpenSpec.preRow_of_cond 8 hx (by kernel_rfl) (fun k hk => by cases hk) (by kernel_rfl) (laid_met os))) ?_
  intro W base args ds gs before hval hW _ _ _ hL _ _
  exact contract H enc W base args ds gs before hval hW hL

theorem said : Rows.SlabPlaysSaid :=
  OpenClaim.holds_of_cond 4 Tryd.f4 rfl rfl rfl rfl rfl rfl rfl ⟨rfl, rfl, rfl, rfl, rfl⟩ rfl rfl rfl rfl rfl (by kernel_rfl) Tryd.func4 (by kernel_rfl)
    (of_decide_eq_true (by kernel_rfl)) (by unfold Func.isWrapper; first | (rw [if_pos (by decide +kernel)]; kernel_rfl) | (rw [if_neg (by decide +kernel)]; exact ⟨rfl, rfl⟩))
    (fun os started H enc _ F => by rw [OpenClaim.pre_eq_preRow]; exact lifted os started H enc F)

theorem plain (f : FuncId) (fn : Func) (hf : Tryd.pinned.checked.prog.funcNamed Rows.slabPlaysRow.func = some f) (hfn : Tryd.pinned.checked.prog.funcs[f]? = some fn) :
    false = Tryd.pinned.checked.prog.looks [] ∧ ∀ (j : Nat) t, fn.params[j]? = some t → Tryd.pinned.checked.prog.wantsStandIn t = false := by
  obtain rfl : f = 4 := Option.some.inj ((show Tryd.prog.funcNamed Rows.slabPlaysRow.func = some 4 by kernel_rfl).symm.trans hf) |>.symm
  obtain rfl : fn = Tryd.f4 := (Option.some.inj (Tryd.func4.symm.trans hfn)).symm
  refine ⟨by kernel_rfl, fun j t ht => ?_⟩
  rw [Tryd.params4] at ht
  have hm : t ∈ [3, 32, 3] := by simpa using Array.mem_of_getElem? ht
  have hall : ([3, 32, 3].all fun u => !Tryd.prog.wantsStandIn u) = true := by kernel_rfl
  exact (show Tryd.prog.wantsStandIn t = false by simpa using List.all_eq_true.1 hall t hm)

theorem card : Rows.SlabPlaysCardSaid :=
  Claim7.holds_tied_plain_at .later [] _ _ _ _ said (fun _ h => by cases h) (by kernel_rfl) (fun _ h => by cases h) slabPlays_row_tie rfl ⟨rfl, rfl⟩ (by kernel_rfl) rfl plain (by kernel_rfl)
end Go.Proofs.YteeanaoglcpaaaaDoor.slabPlays
namespace Go.Proofs.YteeanaoglcpaaaaDoor
theorem slabPlays_holds : Rows.SlabPlaysCardSaid := slabPlays.card
#print axioms slabPlays_holds
end Go.Proofs.YteeanaoglcpaaaaDoor
