/-
  SegPlays answers true for every list of calls: numbers are added, used, balanced, let go as the document says, list by list.
-/
import Derived.WalkKit
import Derived.Below
import Derived.Test.YtgjgdhjnkbbceaaAwake
import Derived.Test.YtgjgdhjnkbbceaaMa2
import Derived.Test.YtgjgdhjnkbbceaaRf5
namespace Go.Proofs.Ytgjgdhjnkbbceaa.segPlays
open Go.RowKit Go.Deep Sgm
set_option linter.unusedVariables false
set_option linter.unusedSimpArgs false

theorem enter12 (args : Array Value) (w : World) : (callFunc 12 args).run Try.prog w = .ok (.enter 12 args) w := Go.Proofs.enters_of Try.func12 (by kernel_rfl) rfl args w
theorem enter13 (args : Array Value) (w : World) : (callFunc 13 args).run Try.prog w = .ok (.enter 13 args) w := Go.Proofs.enters_of Try.func13 (by kernel_rfl) rfl args w
theorem enter15 (args : Array Value) (w : World) : (callFunc 15 args).run Try.prog w = .ok (.enter 15 args) w := Go.Proofs.enters_of Try.func15 (by kernel_rfl) rfl args w
theorem enter16 (args : Array Value) (w : World) : (callFunc 16 args).run Try.prog w = .ok (.enter 16 args) w := Go.Proofs.enters_of Try.func16 (by kernel_rfl) rfl args w
theorem enter17 (args : Array Value) (w : World) : (callFunc 17 args).run Try.prog w = .ok (.enter 17 args) w := Go.Proofs.enters_of Try.func17 (by kernel_rfl) rfl args w
theorem enter18 (args : Array Value) (w : World) : (callFunc 18 args).run Try.prog w = .ok (.enter 18 args) w := Go.Proofs.enters_of Try.func18 (by kernel_rfl) rfl args w
/-- Both as the law holds them, with a call in its box. -/
structure Two (w : World) (f r : Nat) (s t : St) (N : Nat) (op id : Int) (W : World) : Prop where
  sl : SL w f s W
  rz : RfZ w.heap.size r t W
  bx : Blk W N [.int .i64 op, .int .i64 id] 35
theorem ints_same {B1 B2 : Nat} {a1 a2 : Option Addr} {n c1 c2 : Nat} {xs : List Int} {W : World} (g1 : GR intK B1 (.slice a1 n c1) xs W) (g2 : GR intK B2 (.slice a2 n c2) xs W) (hn : n = xs.length) (h9 : xs.length ≤ 100000) :
    Calls Try.prog 21 #[.slice a1 n c1, .slice a2 n c2] W fun e W' => e = .returned (.bool true) ∧ Below W.heap.size W W' := by
  subst hn
  refine (ints_any a1 a2 c1 c2 xs xs W g1.rd g2.rd (by omega)).mono ?_
  rintro e W' ⟨rfl, q, rfl⟩
  exact ⟨by simp, below_drewN (Below.refl _ W) q⟩
theorem ids_same {B : Nat} {v : Value} {xs : List Nd} {W : World} (g : GR nodK B v xs W) (h9 : xs.length ≤ 100000) :
    Calls Try.prog 22 #[v] W fun e W' => ∃ va vc, e = .returned (.slice va xs.length vc) ∧ GR intK W.heap.size (.slice va xs.length vc) (ids xs) W' ∧ Below W.heap.size W W' := by
  refine (rids_any g h9).mono ?_
  rintro e W' ⟨va, vc, rfl, g1, b1⟩
  have el : (ids xs).length = xs.length := by simp [ids]
  rw [el] at g1 ⊢
  exact ⟨va, vc, rfl, g1, b1⟩
theorem refNew {w W : World} (h : Below w.heap.size w W) : RfZ w.heap.size W.heap.size St0 (W.alloc (.cells #[.slice none 0 0, .slice none 0 0, .slice none 0 0] 33)) := by
  refine ⟨Nat.le_trans h.size (by rw [nblk_alloc]; omega), fun _ => .slice none 0 0, fun _ => [], ⟨Blk.new W _ 33, fun k hk => GR.nil _ _ _, fun j k _ _ _ q hq => by simp [ownB, Value.ownBlock] at hq, h.size⟩, rfl⟩
theorem rl_le {R : Nat → List Nd} (hn : (rs R).all.length ≤ 100000) : ∀ k, k < 3 → (R k).length ≤ 100000 := fun k hk => Nat.le_trans (rrow_le hk) hn
section
variable {w W : World} {f r N : Nat} {s t : St} {op id : Int}
theorem two_radd (h : Two w f r s t N op id W) (nd : t.Nd) (hn : t.all.length < 100000) : Calls Try.prog 16 #[.pointer (some ⟨r, 0, none⟩), .int .i64 id] W fun e W' => e = .returned (.bool (!t.has id)) ∧ Two w f r s (addS id t) N op id W' := by
  obtain ⟨hB, V, R, hr, rfl⟩ := h.rz
  refine (radd_any hB hr nd id hn).mono ?_
  rintro e W' ⟨rfl, z, o⟩
  exact ⟨rfl, h.sl.offR (Nat.le_refl _) o, z, h.bx.offR o (by decide) (by decide)⟩
theorem two_rtch (h : Two w f r s t N op id W) (nd : t.Nd) (hn : t.all.length < 100000) : Calls Try.prog 17 #[.pointer (some ⟨r, 0, none⟩), .int .i64 id] W fun e W' => e = .returned (.bool (t.has id)) ∧ Two w f r s (tchS id t) N op id W' := by
  obtain ⟨hB, V, R, hr, rfl⟩ := h.rz
  refine (rtouch_any hB hr nd id (rl_le (by omega))).mono ?_
  rintro e W' ⟨rfl, z, o⟩
  exact ⟨rfl, h.sl.offR (Nat.le_refl _) o, z, h.bx.offR o (by decide) (by decide)⟩
theorem two_rrmv (h : Two w f r s t N op id W) (nd : t.Nd) (hn : t.all.length < 100000) : Calls Try.prog 18 #[.pointer (some ⟨r, 0, none⟩), .int .i64 id] W fun e W' => e = .returned (.bool (t.has id)) ∧ Two w f r s (rmvS id t) N op id W' := by
  obtain ⟨hB, V, R, hr, rfl⟩ := h.rz
  refine (rremove_any hB hr id (rl_le (by omega))).mono ?_
  rintro e W' ⟨rfl, z, o⟩
  exact ⟨rfl, h.sl.offR (Nat.le_refl _) o, z, h.bx.offR o (by decide) (by decide)⟩
theorem two_revi (h : Two w f r s t N op id W) (nd : t.Nd) (hn : t.all.length < 100000) : Calls Try.prog 19 #[.pointer (some ⟨r, 0, none⟩)] W fun e W' => e = .returned (.tuple #[.int .i64 ((evi t).getD 0), .bool (evi t).isSome]) ∧ Two w f r s (eviS t) N op id W' := by
  obtain ⟨hB, V, R, hr, rfl⟩ := h.rz
  refine (revict_any hB hr nd (by omega)).mono ?_
  rintro e W' ⟨rfl, z, o⟩
  exact ⟨rfl, h.sl.offR (Nat.le_refl _) o, z, h.bx.offR o (by decide) (by decide)⟩
theorem two_add (h : Two w f r s t N op id W) (hi : I64 id) (hn : s.all.length < 100000) : Calls Try.prog 15 #[.pointer (some ⟨f, 0, none⟩), .int .i64 id] W fun e W' => e = .returned (.bool (!s.has id)) ∧ Two w f r (addS id s) t N op id W' := by
  refine (add_l h.sl hi hn).mono ?_
  rintro e W' ⟨rfl, z, o⟩
  exact ⟨rfl, z, h.rz.offT o, h.bx.offT o (by decide) (by decide)⟩
theorem two_tch (h : Two w f r s t N op id W) (hi : I64 id) : Calls Try.prog 12 #[.pointer (some ⟨f, 0, none⟩), .int .i64 id] W fun e W' => e = .returned (.bool (s.has id)) ∧ Two w f r (tchS id s) t N op id W' := by
  refine (touch_l h.sl hi).mono ?_
  rintro e W' ⟨rfl, z, o⟩
  exact ⟨rfl, z, h.rz.offT o, h.bx.offT o (by decide) (by decide)⟩
theorem two_rmv (h : Two w f r s t N op id W) (hi : I64 id) (hn : s.all.length < 100000) : Calls Try.prog 13 #[.pointer (some ⟨f, 0, none⟩), .int .i64 id] W fun e W' => e = .returned (.bool (s.has id)) ∧ Two w f r (rmvS id s) t N op id W' := by
  refine (remove_l h.sl hi (by omega)).mono ?_
  rintro e W' ⟨rfl, z, o⟩
  exact ⟨rfl, z, h.rz.offT o, h.bx.offT o (by decide) (by decide)⟩
theorem two_evi (h : Two w f r s t N op id W) (hn : s.all.length < 100000) : Calls Try.prog 11 #[.pointer (some ⟨f, 0, none⟩)] W fun e W' => e = .returned (.tuple #[.int .i64 ((evi s).getD 0), .bool (evi s).isSome]) ∧ Two w f r (eviS s) t N op id W' := by
  refine (evict_l h.sl (by omega)).mono ?_
  rintro e W' ⟨rfl, z, o⟩
  exact ⟨rfl, z, h.rz.offT o, h.bx.offT o (by decide) (by decide)⟩
theorem Two.drew (h : Two w f r s t N op id W) : Two w f r s t N op id W.drew := by
  have b : Below W.heap.size W W.drew := ⟨rfl, rfl, rfl, Nat.le_refl _, fun _ _ => rfl⟩
  exact ⟨h.sl.on b, h.rz.below b, h.bx.same rfl⟩
end
set_option maxRecDepth 8000 in
set_option maxHeartbeats 40000000 in
theorem walk (a0 : Option Addr) (len0 cap0 : Nat) (z0 : List ActI) (w : World) (hw0 : ActsAt w a0 len0 z0) :
    Calls Try.prog 4 #[.slice a0 len0 cap0] w fun e w' => e = .returned (.bool true) ∧ Below w.heap.size w w' := by
  have c0 := hide (awake_any w)
  have HW := hide hw0
  by_cases hlen : 150 < len0
  · have hl : (150 : Int) < (len0 : Int) := by omega
    clear hw0 hlen
    skip
    go_enter Try.func4, Try.ntmps4
    go_wp2_with fail
    refine c0.out.mono ?_
    rintro e w1 ⟨rfl, B1⟩
    have B := hide B1
    clear c0 B1
    go_wp2
    go_ret
    exact ⟨rfl, B.out⟩
  have hl : ¬ (150 : Int) < (len0 : Int) := by omega
  have hl2 : len0 ≤ 150 := by omega
  clear hw0 hlen
  go_enter Try.func4, Try.ntmps4
  go_wp2_with fail
  refine c0.out.mono ?_
  rintro e w1 ⟨rfl, B1⟩
  have cN := hide (new_l B1)
  clear c0 B1
  go_wp2_with fail
  refine cN.out.mono ?_
  rintro e w2 ⟨f, rfl, h2, _⟩
  obtain ⟨r, hr⟩ : ∃ r, r = w2.heap.size := ⟨_, rfl⟩
  have z2 := refNew h2.bel
  have b2 : Below w2.heap.size w2 (w2.alloc (.cells #[.slice none 0 0, .slice none 0 0, .slice none 0 0] 33)) := (Below.refl _ w2).alloc (Nat.le_refl _) _
  have H2 : Hid (SL w f St0 (w2.alloc (.cells #[.slice none 0 0, .slice none 0 0, .slice none 0 0] 33)) ∧ RfZ w.heap.size w2.heap.size St0 (w2.alloc (.cells #[.slice none 0 0, .slice none 0 0, .slice none 0 0] 33))) := ⟨h2.on b2, z2⟩
  clear hr z2 b2
  clear cN h2
  go_wp2
  generalize w2.heap.size = r at *
  go_loopg [5, 6, 7, 8, 9, 10, 11, 12, 13, 14] len0 (fun kx s5 s6 s7 s8 s9 s10 s11 s12 s13 s14 wr => ∃ (i : Nat) (s : St), s5 = .int .i64 i ∧ Hid (i ≤ len0 ∧ len0 - i ≤ kx ∧ SL w f s wr ∧ RfZ w.heap.size r s wr ∧ s.all.length ≤ i))
  case atStart => exact ⟨0, _, rfl, Nat.zero_le _, Nat.le_refl _, H2.out.1, H2.out.2, by simp [St0, St.all]⟩
  case round =>
    obtain ⟨i, s, rfl, I⟩ := hrel
    by_cases hlt : i < len0
    · have hlt2 : (i : Int) < (len0 : Int) := by omega
      obtain ⟨b, o, x, rfl, hx, hxf, hc⟩ := HW.out.at I.out.2.2.1.bel i hlt
      have k0 := hc.c0
      have k1 := hc.c1
      obtain ⟨i1, hi1⟩ : ∃ i1, i1 = i + 1 := ⟨_, rfl⟩
      have e1 : (i : Int) + 1 = (i1 : Int) := by omega
      have HK : Hid (len0 - i ≤ _) := I.out.2.1
      have HI1 := hide hi1
      have Hlt := hide hlt
      have HI9 : Hid (I64 x.id) := hxf.2
      have HND := hide I.out.2.2.1.nd
      have HLn : Hid (s.all.length < 100000) := (by have := I.out.2.2.2.2; omega : s.all.length < 100000)
      have HLi := hide I.out.2.2.2.2
      obtain ⟨op, hop⟩ : ∃ op, op = x.op := ⟨_, rfl⟩
      obtain ⟨id, hid⟩ : ∃ id, id = x.id := ⟨_, rfl⟩
      rw [← hop] at k0
      rw [← hid] at k1 HI9
      obtain ⟨N, hN⟩ : ∃ N, N = wr.heap.size := ⟨_, rfl⟩
      obtain ⟨W0, hW0⟩ : ∃ W0, W0 = wr.alloc (.cells #[.int .i64 op, .int .i64 id] 35) := ⟨_, rfl⟩
      have TW : Hid (Two w f r s s N op id W0) := by
        have b2 : Below wr.heap.size wr W0 := by rw [hW0]; exact (Below.refl _ wr).alloc (Nat.le_refl _) _
        refine ⟨I.out.2.2.1.on b2, I.out.2.2.2.1.below b2, ?_⟩
        rw [hW0, hN]
        exact Blk.new wr [.int .i64 op, .int .i64 id] 35
      have HS : Hid ((stepS op id s).all.length ≤ i1) := (by have := step_le op id s; have := HLi.out; omega : _ ≤ i1)
      obtain ⟨s2, hs2⟩ : ∃ s2, s2 = stepS op id s := ⟨_, rfl⟩
      rw [← hs2] at HS
      have HL : Hid (s2.all.length ≤ i1) := HS
      have Hi9 : Hid (i1 ≤ 150) := (by omega : i1 ≤ 150)
      have HLX : Hid (s2.all.length ≤ 150) := Nat.le_trans HS.out Hi9.out
      have hcE := TW.out.bx.cell (i := 0) rfl
      rw [hW0, hN] at hcE
      have HN := hide hN
      have HW1 := hide hW0.symm
      clear I hx hxf hc hi1 hlt hop hid HS hW0 hN
      by_cases o0 : op = 0
      · subst o0
        have hs2 : s2 = addS id s := hs2
        have hT0 := TW.out.drew
        have s2e : s2 = addS id s := hs2
        obtain ⟨A, hA⟩ : ∃ A, A = W0.drew := ⟨_, rfl⟩
        rw [← hA] at hT0
        obtain ⟨Q1, hQ1⟩ : ∃ Q1 : World → Prop, Q1 = Two w f r s2 s N 0 id := ⟨_, rfl⟩
        obtain ⟨Q2, hQ2⟩ : ∃ Q2 : World → Prop, Q2 = Two w f r s2 s2 N 0 id := ⟨_, rfl⟩
        obtain ⟨fr, hfr⟩ : ∃ fr, fr = !s.has id := ⟨_, rfl⟩
        have CA : Hid (Calls Try.prog 15 #[.pointer (some ⟨f, 0, none⟩), .int .i64 id] A fun e W' => e = .returned (.bool fr) ∧ Q1 W') := by
          rw [hQ1, hfr, s2e]; exact two_add hT0 HI9.out HLn.out
        have CB : Hid (∀ W, Q1 W → Calls Try.prog 16 #[.pointer (some ⟨r, 0, none⟩), .int .i64 id] W fun e W' => e = .returned (.bool fr) ∧ Q2 W') := fun W hW => by
          rw [hQ1] at hW
          rw [hQ2, hfr]
          have := two_radd hW HND.out HLn.out
          rw [← s2e] at this
          exact this
        have HX : Hid (∀ sx W, sx ≤ 1 → CL3 A Q1 Q2 Q2 sx W → W.cell? ⟨N, 1, none⟩ = some (.int .i64 id)) := fun sx W hs hc => by
          match sx, hs, hc with
          | 0, _, hc => have hc : W = A := hc; subst hc; exact hT0.bx.cell (i := 1) rfl
          | 1, _, hc =>
            have hc : Q1 W := hc
            rw [hQ1] at hc
            exact hc.bx.cell (i := 1) rfl
        have HQ : Hid (∀ W, Q2 W → SL w f s2 W ∧ RfZ w.heap.size r s2 W) := fun W hW => by rw [hQ2] at hW; exact ⟨hW.sl, hW.rz⟩
        have HA : Hid (CL3 A Q1 Q2 Q2 0 { W0 with drawn := W0.drawn + 1 }) := hA.symm
        clear hT0 hA hQ1 hQ2 hfr hs2 s2e HI9 HND HLn TW
        go_wp2
        rw [HW1.out, ← HN.out]
        clear hcE HW1 HN k0 k1
        refine wp_region_chain (by kernel_rfl) (by kernel_rfl) (fun jx => ([.pointer (some ⟨f, 0, none⟩), .pointer (some ⟨N, 1, none⟩), .int .i64 id, .bool fr, .pointer (some ⟨r, 0, none⟩), .pointer (some ⟨N, 1, none⟩), .int .i64 id, .bool fr, .bool true, .bool true] : List Value).getD jx undef) [3, 7] (by kernel_rfl) (CL3 A Q1 Q2 Q2) (HA.out) ?_ ?_
        · intro jx ox hi sx w' ev hlm hks hc hin hout hcst hfn
          have hltx : jx < 10 := by
            have := (Array.getElem?_eq_some_iff.1 hi).1
            simpa using this
          match jx, hltx with
          | 0, _ =>
            simp only [List.getElem?_toArray, List.getElem?_cons_zero, List.getElem?_cons_succ, Option.some.injEq] at hi
            subst hi
            have e0 : ev (.tmp 3) = .pointer (some ⟨f, 0, none⟩) := hout 3 (by kernel_rfl) (show (3 : Nat) < 131 by decide)
            rw [if_neg (by decide)]
            refine .inl ⟨w', ?_, hc⟩
            show _ = Result.ok (Next.value (.pointer (some ⟨f, 0, none⟩))) w'
            simp [execOp, e0, hcst, go_sem]
          | 1, _ =>
            simp only [List.getElem?_toArray, List.getElem?_cons_zero, List.getElem?_cons_succ, Option.some.injEq] at hi
            subst hi
            have e0 : ev (.tmp 6) = .pointer (some ⟨N, 0, none⟩) := hout 6 (by kernel_rfl) (show (6 : Nat) < 131 by decide)
            rw [if_neg (by decide)]
            refine .inl ⟨w', ?_, hc⟩
            show _ = Result.ok (Next.value (.pointer (some ⟨N, 1, none⟩))) w'
            simp [execOp, e0, hcst, go_sem]
          | 2, _ =>
            simp only [List.getElem?_toArray, List.getElem?_cons_zero, List.getElem?_cons_succ, Option.some.injEq] at hi
            subst hi
            have e0 : ev (.tmp 56) = .pointer (some ⟨N, 1, none⟩) := hin 56 1 ⟨1, .data⟩ (by kernel_rfl) (by simp) rfl rfl (show (56 : Nat) < 131 by decide)
            rw [if_neg (by decide)]
            have hl2 : sx ≤ 0 := Nat.le_trans hlm (Nat.le_of_eq (by kernel_rfl))
            refine .inl ⟨w', ?_, hc⟩
            show _ = Result.ok (Next.value (.int .i64 id)) w'
            have q1 := HX.out sx w' (Nat.le_trans hl2 (by decide)) hc
            simp [execOp, e0, hcst, go_sem, q1]
          | 3, _ =>
            simp only [List.getElem?_toArray, List.getElem?_cons_zero, List.getElem?_cons_succ, Option.some.injEq] at hi
            subst hi
            have e0 : ev (.tmp 55) = .pointer (some ⟨f, 0, none⟩) := hin 55 0 ⟨0, .data⟩ (by kernel_rfl) (by simp) rfl rfl (show (55 : Nat) < 131 by decide)
            have e1 : ev (.tmp 57) = .int .i64 id := hin 57 2 ⟨2, .data⟩ (by kernel_rfl) (by simp) rfl rfl (show (57 : Nat) < 131 by decide)
            rw [if_pos (by decide)]
            have hsx : sx = 0 := hks 0 rfl
            subst hsx
            refine .inr (.inr ⟨15, #[.pointer (some ⟨f, 0, none⟩), .int .i64 id], ?_, ?_⟩)
            · have ef := hfn 15
              simp [execOp, resolve, invoke, ef, hcst, e0, e1, Result.andThen]
              exact enter15 _ _
            · have hw : w' = A := hc
              subst hw
              refine CA.out.mono ?_
              rintro e wq ⟨rfl, hq⟩
              exact ⟨rfl, hq⟩
          | 4, _ =>
            simp only [List.getElem?_toArray, List.getElem?_cons_zero, List.getElem?_cons_succ, Option.some.injEq] at hi
            subst hi
            have e0 : ev (.tmp 4) = .pointer (some ⟨r, 0, none⟩) := hout 4 (by kernel_rfl) (show (4 : Nat) < 131 by decide)
            rw [if_neg (by decide)]
            refine .inl ⟨w', ?_, hc⟩
            show _ = Result.ok (Next.value (.pointer (some ⟨r, 0, none⟩))) w'
            simp [execOp, e0, hcst, go_sem]
          | 5, _ =>
            simp only [List.getElem?_toArray, List.getElem?_cons_zero, List.getElem?_cons_succ, Option.some.injEq] at hi
            subst hi
            have e0 : ev (.tmp 6) = .pointer (some ⟨N, 0, none⟩) := hout 6 (by kernel_rfl) (show (6 : Nat) < 131 by decide)
            rw [if_neg (by decide)]
            refine .inl ⟨w', ?_, hc⟩
            show _ = Result.ok (Next.value (.pointer (some ⟨N, 1, none⟩))) w'
            simp [execOp, e0, hcst, go_sem]
          | 6, _ =>
            simp only [List.getElem?_toArray, List.getElem?_cons_zero, List.getElem?_cons_succ, Option.some.injEq] at hi
            subst hi
            have e0 : ev (.tmp 60) = .pointer (some ⟨N, 1, none⟩) := hin 60 5 ⟨5, .data⟩ (by kernel_rfl) (by simp) rfl rfl (show (60 : Nat) < 131 by decide)
            rw [if_neg (by decide)]
            have hl2 : sx ≤ 1 := Nat.le_trans hlm (Nat.le_of_eq (by kernel_rfl))
            refine .inl ⟨w', ?_, hc⟩
            show _ = Result.ok (Next.value (.int .i64 id)) w'
            have q1 := HX.out sx w' (Nat.le_trans hl2 (by decide)) hc
            simp [execOp, e0, hcst, go_sem, q1]
          | 7, _ =>
            simp only [List.getElem?_toArray, List.getElem?_cons_zero, List.getElem?_cons_succ, Option.some.injEq] at hi
            subst hi
            have e0 : ev (.tmp 59) = .pointer (some ⟨r, 0, none⟩) := hin 59 4 ⟨4, .data⟩ (by kernel_rfl) (by simp) rfl rfl (show (59 : Nat) < 131 by decide)
            have e1 : ev (.tmp 61) = .int .i64 id := hin 61 6 ⟨6, .data⟩ (by kernel_rfl) (by simp) rfl rfl (show (61 : Nat) < 131 by decide)
            rw [if_pos (by decide)]
            have hsx : sx = 1 := hks 1 rfl
            subst hsx
            refine .inr (.inr ⟨16, #[.pointer (some ⟨r, 0, none⟩), .int .i64 id], ?_, ?_⟩)
            · have ef := hfn 16
              simp [execOp, resolve, invoke, ef, hcst, e0, e1, Result.andThen]
              exact enter16 _ _
            · refine (CB.out w' hc).mono ?_
              rintro e wq ⟨rfl, hq⟩
              exact ⟨rfl, hq⟩
          | 8, _ =>
            simp only [List.getElem?_toArray, List.getElem?_cons_zero, List.getElem?_cons_succ, Option.some.injEq] at hi
            subst hi
            have e0 : ev (.tmp 58) = .bool fr := hin 58 3 ⟨3, .data⟩ (by kernel_rfl) (by simp) rfl rfl (show (58 : Nat) < 131 by decide)
            have e1 : ev (.tmp 62) = .bool fr := hin 62 7 ⟨7, .data⟩ (by kernel_rfl) (by simp) rfl rfl (show (62 : Nat) < 131 by decide)
            rw [if_neg (by decide)]
            refine .inl ⟨w', ?_, hc⟩
            show _ = Result.ok (Next.value (.bool true)) w'
            simp [execOp, e0, e1, hcst, go_sem]
          | 9, _ =>
            simp only [List.getElem?_toArray, List.getElem?_cons_zero, List.getElem?_cons_succ, Option.some.injEq] at hi
            subst hi
            have e0 : ev (.tmp 63) = .bool true := hin 63 8 ⟨8, .data⟩ (by kernel_rfl) (by simp) rfl rfl (show (63 : Nat) < 131 by decide)
            rw [if_neg (by decide)]
            refine .inl ⟨w', ?_, hc⟩
            show _ = Result.ok (Next.value (.bool true)) w'
            simp [execOp, e0, hcst, go_sem]
        · intro w7 hc
          simp only [lexF, Act.put, List.setIfInBounds_toArray, List.set_cons_succ, List.set_cons_zero, List.getD_cons_succ, List.getD_cons_zero]
          have HT := hide (HQ.out w7 hc)
          obtain ⟨Wt, hWt⟩ : ∃ Wt, Wt = w7 := ⟨_, rfl⟩
          rw [← hWt] at HT ⊢
          clear CA CB HX HQ HA hc hWt
          have c5 := hide (lists_l HT.out.1 (by have := HLX.out; omega))
          simp only [rwV] at c5
          obtain ⟨nh, hnh⟩ : ∃ nh, nh = s2.h.length := ⟨_, rfl⟩
          obtain ⟨nw, hnw⟩ : ∃ nw, nw = s2.w.length := ⟨_, rfl⟩
          obtain ⟨nc, hnc⟩ : ∃ nc, nc = s2.c.length := ⟨_, rfl⟩
          rw [← hnh, ← hnw, ← hnc] at c5
          have hsum : nh + nw + nc ≤ 100000 := by
            have : s2.all.length = nh + nw + nc := by rw [hnh, hnw, hnc]; simp [St.all]; omega
            have := HLX.out
            omega
          have HH := hide hnh
          have HWW := hide hnw
          have HCC := hide hnc
          obtain ⟨S0, hS0⟩ : ∃ S0, S0 = Wt.heap.size := ⟨_, rfl⟩
          obtain ⟨S1, hS1⟩ : ∃ S1, S1 = S0 + 1 + nh := ⟨_, rfl⟩
          obtain ⟨S2, hS2⟩ : ∃ S2, S2 = S1 + 1 + nw := ⟨_, rfl⟩
          rw [← hS0, ← hS1, ← hS2] at c5
          have HS0 := hide hS0
          have HS1 := hide hS1
          have HS2 := hide hS2
          clear hnh hnw hnc hS0 hS1 hS2
          go_wp2_with fail
          refine c5.out.mono ?_
          rintro e w5 ⟨rfl, P5, h5⟩
          obtain ⟨hB5, V, R, hr5, hR⟩ := HT.out.2.below P5.bel
          have eh : R 0 = s2.h := by rw [← hR]; rfl
          have ew : R 1 = s2.w := by rw [← hR]; rfl
          have ec : R 2 = s2.c := by rw [← hR]; rfl
          have G0 : Hid (GR intK S0 (.slice (some ⟨S0, 0, none⟩) nh nh) (ids s2.h) w5) := by
            have := P5.r0
            unfold rwV at this
            rw [← HS0.out, ← HH.out] at this
            exact this
          have G1 : Hid (GR intK S0 (.slice (some ⟨S1, 0, none⟩) nw nw) (ids s2.w) w5) := by
            have := P5.r1
            unfold rwV at this
            rw [← HS0.out, ← HH.out, ← HWW.out, ← HS1.out] at this
            exact this
          have G2 : Hid (GR intK S0 (.slice (some ⟨S2, 0, none⟩) nc nc) (ids s2.c) w5) := by
            have := P5.r2
            unfold rwV at this
            rw [← HS0.out, ← HH.out, ← HWW.out, ← HCC.out, ← HS1.out, ← HS2.out] at this
            exact this
          have H5 := hide h5
          have HR5 := hide hr5
          have EH := hide eh
          have EW := hide ew
          have EC := hide ec
          have HRS := hide hR
          obtain ⟨a0, d0, v0⟩ := (hr5.row 0 (by decide)).slice
          have k0 := hr5.cell (k := 0) (by decide)
          rw [v0, eh, ← HH.out] at k0
          have c6 : Hid (Calls Try.prog 22 #[.slice a0 nh d0] w5 fun e W' => ∃ va vc, e = .returned (.slice va nh vc) ∧ GR intK w5.heap.size (.slice va nh vc) (ids s2.h) W' ∧ Below w5.heap.size w5 W') := by
            have := ids_same (hr5.row 0 (by decide)) (by rw [eh, ← HH.out]; omega)
            rw [v0, eh, ← HH.out] at this
            exact this
          clear c5 P5 h5 hr5 hR eh ew ec v0 hB5 HT
          go_wp2_with fail
          refine c6.out.mono ?_
          rintro e w6 ⟨va6, vc6, rfl, g6, b6⟩
          have G0' := G0.out.below b6
          have c7 := hide (ints_same G0' g6 (by rw [HH.out]; simp [ids]) (by simp only [ids, List.length_map]; rw [← HH.out]; omega))
          have G1' := hide (G1.out.below b6)
          have G2' := hide (G2.out.below b6)
          have H6 := hide (H5.out.on b6)
          have HR6 := hide (HR5.out.below b6)
          clear c6 G0 G0' g6 G1 G2 H5 HR5 b6 k0
          go_wp2_with fail
          refine c7.out.mono ?_
          rintro e w7 ⟨rfl, b7⟩
          have G1 := hide (G1'.out.below b7)
          have G2 := hide (G2'.out.below b7)
          have H7 := hide (H6.out.on b7)
          have HR7 := hide (HR6.out.below b7)
          obtain ⟨a1, d1, v1⟩ := (HR7.out.row 1 (by decide)).slice
          have k1 := HR7.out.cell (k := 1) (by decide)
          rw [v1, EW.out, ← HWW.out] at k1
          have c8 : Hid (Calls Try.prog 22 #[.slice a1 nw d1] w7 fun e W' => ∃ va vc, e = .returned (.slice va nw vc) ∧ GR intK w7.heap.size (.slice va nw vc) (ids s2.w) W' ∧ Below w7.heap.size w7 W') := by
            have := ids_same (HR7.out.row 1 (by decide)) (by rw [EW.out, ← HWW.out]; omega)
            rw [v1, EW.out, ← HWW.out] at this
            exact this
          clear c7 b7 G1' G2' H6 HR6 v1
          go_wp2_with fail
          refine c8.out.mono ?_
          rintro e w8 ⟨va8, vc8, rfl, g8, b8⟩
          have c9 := hide (ints_same (G1.out.below b8) g8 (by rw [HWW.out]; simp [ids]) (by simp only [ids, List.length_map]; rw [← HWW.out]; omega))
          have G2' := hide (G2.out.below b8)
          have H8 := hide (H7.out.on b8)
          have HR8 := hide (HR7.out.below b8)
          clear c8 G1 G2 g8 b8 H7 HR7 k1
          go_wp2_with fail
          refine c9.out.mono ?_
          rintro e w9 ⟨rfl, b9⟩
          have G2 := hide (G2'.out.below b9)
          have H9 := hide (H8.out.on b9)
          have HR9 := hide (HR8.out.below b9)
          obtain ⟨a2, d2, v2⟩ := (HR9.out.row 2 (by decide)).slice
          have k2 := HR9.out.cell (k := 2) (by decide)
          rw [v2, EC.out, ← HCC.out] at k2
          have ca : Hid (Calls Try.prog 22 #[.slice a2 nc d2] w9 fun e W' => ∃ va vc, e = .returned (.slice va nc vc) ∧ GR intK w9.heap.size (.slice va nc vc) (ids s2.c) W' ∧ Below w9.heap.size w9 W') := by
            have := ids_same (HR9.out.row 2 (by decide)) (by rw [EC.out, ← HCC.out]; omega)
            rw [v2, EC.out, ← HCC.out] at this
            exact this
          clear c9 b9 G2' H8 HR8 v2
          go_wp2_with fail
          refine ca.out.mono ?_
          rintro e wa ⟨va10, vc10, rfl, ga, ba⟩
          have cb := hide (ints_same (G2.out.below ba) ga (by rw [HCC.out]; simp [ids]) (by simp only [ids, List.length_map]; rw [← HCC.out]; omega))
          have Ha := hide (H9.out.on ba)
          have HRa := hide (HR9.out.below ba)
          clear ca G2 ga ba H9 HR9 k2
          go_wp2_with fail
          refine cb.out.mono ?_
          rintro e wb ⟨rfl, bb⟩
          have Hb := hide (Ha.out.on bb)
          have HRb := hide (HRa.out.below bb)
          have cc := hide (len_l Hb.out)
          have cd := hide (rlen_any HRb.out (by rw [HRS.out]; have := HLX.out; omega))
          rw [HRS.out] at cd
          have hl9 : s2.all.length ≤ 100000 := by have := HLX.out; omega
          obtain ⟨na, hna⟩ : ∃ na, na = s2.all.length := ⟨_, rfl⟩
          rw [← hna] at cc cd hl9
          clear cb bb Ha HRa hna
          go_wp2_with fail
          refine cc.out.mono ?_
          rintro e wx ⟨rfl, hx⟩
          obtain rfl : wb = wx := hx.symm
          clear hx cc
          go_wp2_with fail
          refine cd.out.mono ?_
          rintro e wd ⟨rfl, q, hq⟩
          have bd : Below wb.heap.size wb wd := by rw [hq]; exact below_drewN (Below.refl _ wb) q
          have HF : Hid (SL w f s2 wd ∧ RfZ w.heap.size r s2 wd) := ⟨Hb.out.on bd, RfZ.below ⟨Nat.le_trans Hb.out.bel.size (Nat.le_refl _), V, R, HRb.out, HRS.out⟩ bd⟩
          clear cd hq bd Hb HRb
          go_wp2
          go_roundg (len0 - i1)
          case measure => have := HK.out; have := HI1.out; have := Hlt.out; omega
          case rel => exact ⟨i1, s2, rfl, by have := HI1.out; have := Hlt.out; omega, Nat.le_refl _, HF.out.1, HF.out.2, HL.out⟩
      by_cases o1 : op = 1
      · subst o1
        have hs2 : s2 = tchS id s := hs2
        have hT0 := TW.out.drew
        have s2e : s2 = tchS id s := hs2
        obtain ⟨A, hA⟩ : ∃ A, A = W0.drew := ⟨_, rfl⟩
        rw [← hA] at hT0
        obtain ⟨Q1, hQ1⟩ : ∃ Q1 : World → Prop, Q1 = Two w f r s2 s N 1 id := ⟨_, rfl⟩
        obtain ⟨Q2, hQ2⟩ : ∃ Q2 : World → Prop, Q2 = Two w f r s2 s2 N 1 id := ⟨_, rfl⟩
        obtain ⟨fr, hfr⟩ : ∃ fr, fr = s.has id := ⟨_, rfl⟩
        have CA : Hid (Calls Try.prog 12 #[.pointer (some ⟨f, 0, none⟩), .int .i64 id] A fun e W' => e = .returned (.bool fr) ∧ Q1 W') := by
          rw [hQ1, hfr, s2e]; exact two_tch hT0 HI9.out
        have CB : Hid (∀ W, Q1 W → Calls Try.prog 17 #[.pointer (some ⟨r, 0, none⟩), .int .i64 id] W fun e W' => e = .returned (.bool fr) ∧ Q2 W') := fun W hW => by
          rw [hQ1] at hW
          rw [hQ2, hfr]
          have := two_rtch hW HND.out HLn.out
          rw [← s2e] at this
          exact this
        have HX : Hid (∀ sx W, sx ≤ 1 → CL3 A Q1 Q2 Q2 sx W → W.cell? ⟨N, 1, none⟩ = some (.int .i64 id)) := fun sx W hs hc => by
          match sx, hs, hc with
          | 0, _, hc => have hc : W = A := hc; subst hc; exact hT0.bx.cell (i := 1) rfl
          | 1, _, hc =>
            have hc : Q1 W := hc
            rw [hQ1] at hc
            exact hc.bx.cell (i := 1) rfl
        have HQ : Hid (∀ W, Q2 W → SL w f s2 W ∧ RfZ w.heap.size r s2 W) := fun W hW => by rw [hQ2] at hW; exact ⟨hW.sl, hW.rz⟩
        have HA : Hid (CL3 A Q1 Q2 Q2 0 { W0 with drawn := W0.drawn + 1 }) := hA.symm
        clear hT0 hA hQ1 hQ2 hfr hs2 s2e HI9 HND HLn TW
        go_wp2
        rw [HW1.out, ← HN.out]
        clear hcE HW1 HN k0 k1
        refine wp_region_chain (by kernel_rfl) (by kernel_rfl) (fun jx => ([.pointer (some ⟨f, 0, none⟩), .pointer (some ⟨N, 1, none⟩), .int .i64 id, .bool fr, .pointer (some ⟨r, 0, none⟩), .pointer (some ⟨N, 1, none⟩), .int .i64 id, .bool fr, .bool true, .bool true] : List Value).getD jx undef) [3, 7] (by kernel_rfl) (CL3 A Q1 Q2 Q2) (HA.out) ?_ ?_
        · intro jx ox hi sx w' ev hlm hks hc hin hout hcst hfn
          have hltx : jx < 10 := by
            have := (Array.getElem?_eq_some_iff.1 hi).1
            simpa using this
          match jx, hltx with
          | 0, _ =>
            simp only [List.getElem?_toArray, List.getElem?_cons_zero, List.getElem?_cons_succ, Option.some.injEq] at hi
            subst hi
            have e0 : ev (.tmp 3) = .pointer (some ⟨f, 0, none⟩) := hout 3 (by kernel_rfl) (show (3 : Nat) < 131 by decide)
            rw [if_neg (by decide)]
            refine .inl ⟨w', ?_, hc⟩
            show _ = Result.ok (Next.value (.pointer (some ⟨f, 0, none⟩))) w'
            simp [execOp, e0, hcst, go_sem]
          | 1, _ =>
            simp only [List.getElem?_toArray, List.getElem?_cons_zero, List.getElem?_cons_succ, Option.some.injEq] at hi
            subst hi
            have e0 : ev (.tmp 6) = .pointer (some ⟨N, 0, none⟩) := hout 6 (by kernel_rfl) (show (6 : Nat) < 131 by decide)
            rw [if_neg (by decide)]
            refine .inl ⟨w', ?_, hc⟩
            show _ = Result.ok (Next.value (.pointer (some ⟨N, 1, none⟩))) w'
            simp [execOp, e0, hcst, go_sem]
          | 2, _ =>
            simp only [List.getElem?_toArray, List.getElem?_cons_zero, List.getElem?_cons_succ, Option.some.injEq] at hi
            subst hi
            have e0 : ev (.tmp 67) = .pointer (some ⟨N, 1, none⟩) := hin 67 1 ⟨1, .data⟩ (by kernel_rfl) (by simp) rfl rfl (show (67 : Nat) < 131 by decide)
            rw [if_neg (by decide)]
            have hl2 : sx ≤ 0 := Nat.le_trans hlm (Nat.le_of_eq (by kernel_rfl))
            refine .inl ⟨w', ?_, hc⟩
            show _ = Result.ok (Next.value (.int .i64 id)) w'
            have q1 := HX.out sx w' (Nat.le_trans hl2 (by decide)) hc
            simp [execOp, e0, hcst, go_sem, q1]
          | 3, _ =>
            simp only [List.getElem?_toArray, List.getElem?_cons_zero, List.getElem?_cons_succ, Option.some.injEq] at hi
            subst hi
            have e0 : ev (.tmp 66) = .pointer (some ⟨f, 0, none⟩) := hin 66 0 ⟨0, .data⟩ (by kernel_rfl) (by simp) rfl rfl (show (66 : Nat) < 131 by decide)
            have e1 : ev (.tmp 68) = .int .i64 id := hin 68 2 ⟨2, .data⟩ (by kernel_rfl) (by simp) rfl rfl (show (68 : Nat) < 131 by decide)
            rw [if_pos (by decide)]
            have hsx : sx = 0 := hks 0 rfl
            subst hsx
            refine .inr (.inr ⟨12, #[.pointer (some ⟨f, 0, none⟩), .int .i64 id], ?_, ?_⟩)
            · have ef := hfn 12
              simp [execOp, resolve, invoke, ef, hcst, e0, e1, Result.andThen]
              exact enter12 _ _
            · have hw : w' = A := hc
              subst hw
              refine CA.out.mono ?_
              rintro e wq ⟨rfl, hq⟩
              exact ⟨rfl, hq⟩
          | 4, _ =>
            simp only [List.getElem?_toArray, List.getElem?_cons_zero, List.getElem?_cons_succ, Option.some.injEq] at hi
            subst hi
            have e0 : ev (.tmp 4) = .pointer (some ⟨r, 0, none⟩) := hout 4 (by kernel_rfl) (show (4 : Nat) < 131 by decide)
            rw [if_neg (by decide)]
            refine .inl ⟨w', ?_, hc⟩
            show _ = Result.ok (Next.value (.pointer (some ⟨r, 0, none⟩))) w'
            simp [execOp, e0, hcst, go_sem]
          | 5, _ =>
            simp only [List.getElem?_toArray, List.getElem?_cons_zero, List.getElem?_cons_succ, Option.some.injEq] at hi
            subst hi
            have e0 : ev (.tmp 6) = .pointer (some ⟨N, 0, none⟩) := hout 6 (by kernel_rfl) (show (6 : Nat) < 131 by decide)
            rw [if_neg (by decide)]
            refine .inl ⟨w', ?_, hc⟩
            show _ = Result.ok (Next.value (.pointer (some ⟨N, 1, none⟩))) w'
            simp [execOp, e0, hcst, go_sem]
          | 6, _ =>
            simp only [List.getElem?_toArray, List.getElem?_cons_zero, List.getElem?_cons_succ, Option.some.injEq] at hi
            subst hi
            have e0 : ev (.tmp 71) = .pointer (some ⟨N, 1, none⟩) := hin 71 5 ⟨5, .data⟩ (by kernel_rfl) (by simp) rfl rfl (show (71 : Nat) < 131 by decide)
            rw [if_neg (by decide)]
            have hl2 : sx ≤ 1 := Nat.le_trans hlm (Nat.le_of_eq (by kernel_rfl))
            refine .inl ⟨w', ?_, hc⟩
            show _ = Result.ok (Next.value (.int .i64 id)) w'
            have q1 := HX.out sx w' (Nat.le_trans hl2 (by decide)) hc
            simp [execOp, e0, hcst, go_sem, q1]
          | 7, _ =>
            simp only [List.getElem?_toArray, List.getElem?_cons_zero, List.getElem?_cons_succ, Option.some.injEq] at hi
            subst hi
            have e0 : ev (.tmp 70) = .pointer (some ⟨r, 0, none⟩) := hin 70 4 ⟨4, .data⟩ (by kernel_rfl) (by simp) rfl rfl (show (70 : Nat) < 131 by decide)
            have e1 : ev (.tmp 72) = .int .i64 id := hin 72 6 ⟨6, .data⟩ (by kernel_rfl) (by simp) rfl rfl (show (72 : Nat) < 131 by decide)
            rw [if_pos (by decide)]
            have hsx : sx = 1 := hks 1 rfl
            subst hsx
            refine .inr (.inr ⟨17, #[.pointer (some ⟨r, 0, none⟩), .int .i64 id], ?_, ?_⟩)
            · have ef := hfn 17
              simp [execOp, resolve, invoke, ef, hcst, e0, e1, Result.andThen]
              exact enter17 _ _
            · refine (CB.out w' hc).mono ?_
              rintro e wq ⟨rfl, hq⟩
              exact ⟨rfl, hq⟩
          | 8, _ =>
            simp only [List.getElem?_toArray, List.getElem?_cons_zero, List.getElem?_cons_succ, Option.some.injEq] at hi
            subst hi
            have e0 : ev (.tmp 69) = .bool fr := hin 69 3 ⟨3, .data⟩ (by kernel_rfl) (by simp) rfl rfl (show (69 : Nat) < 131 by decide)
            have e1 : ev (.tmp 73) = .bool fr := hin 73 7 ⟨7, .data⟩ (by kernel_rfl) (by simp) rfl rfl (show (73 : Nat) < 131 by decide)
            rw [if_neg (by decide)]
            refine .inl ⟨w', ?_, hc⟩
            show _ = Result.ok (Next.value (.bool true)) w'
            simp [execOp, e0, e1, hcst, go_sem]
          | 9, _ =>
            simp only [List.getElem?_toArray, List.getElem?_cons_zero, List.getElem?_cons_succ, Option.some.injEq] at hi
            subst hi
            have e0 : ev (.tmp 74) = .bool true := hin 74 8 ⟨8, .data⟩ (by kernel_rfl) (by simp) rfl rfl (show (74 : Nat) < 131 by decide)
            rw [if_neg (by decide)]
            refine .inl ⟨w', ?_, hc⟩
            show _ = Result.ok (Next.value (.bool true)) w'
            simp [execOp, e0, hcst, go_sem]
        · intro w7 hc
          simp only [lexF, Act.put, List.setIfInBounds_toArray, List.set_cons_succ, List.set_cons_zero, List.getD_cons_succ, List.getD_cons_zero]
          have HT := hide (HQ.out w7 hc)
          obtain ⟨Wt, hWt⟩ : ∃ Wt, Wt = w7 := ⟨_, rfl⟩
          rw [← hWt] at HT ⊢
          clear CA CB HX HQ HA hc hWt
          have c5 := hide (lists_l HT.out.1 (by have := HLX.out; omega))
          simp only [rwV] at c5
          obtain ⟨nh, hnh⟩ : ∃ nh, nh = s2.h.length := ⟨_, rfl⟩
          obtain ⟨nw, hnw⟩ : ∃ nw, nw = s2.w.length := ⟨_, rfl⟩
          obtain ⟨nc, hnc⟩ : ∃ nc, nc = s2.c.length := ⟨_, rfl⟩
          rw [← hnh, ← hnw, ← hnc] at c5
          have hsum : nh + nw + nc ≤ 100000 := by
            have : s2.all.length = nh + nw + nc := by rw [hnh, hnw, hnc]; simp [St.all]; omega
            have := HLX.out
            omega
          have HH := hide hnh
          have HWW := hide hnw
          have HCC := hide hnc
          obtain ⟨S0, hS0⟩ : ∃ S0, S0 = Wt.heap.size := ⟨_, rfl⟩
          obtain ⟨S1, hS1⟩ : ∃ S1, S1 = S0 + 1 + nh := ⟨_, rfl⟩
          obtain ⟨S2, hS2⟩ : ∃ S2, S2 = S1 + 1 + nw := ⟨_, rfl⟩
          rw [← hS0, ← hS1, ← hS2] at c5
          have HS0 := hide hS0
          have HS1 := hide hS1
          have HS2 := hide hS2
          clear hnh hnw hnc hS0 hS1 hS2
          go_wp2_with fail
          refine c5.out.mono ?_
          rintro e w5 ⟨rfl, P5, h5⟩
          obtain ⟨hB5, V, R, hr5, hR⟩ := HT.out.2.below P5.bel
          have eh : R 0 = s2.h := by rw [← hR]; rfl
          have ew : R 1 = s2.w := by rw [← hR]; rfl
          have ec : R 2 = s2.c := by rw [← hR]; rfl
          have G0 : Hid (GR intK S0 (.slice (some ⟨S0, 0, none⟩) nh nh) (ids s2.h) w5) := by
            have := P5.r0
            unfold rwV at this
            rw [← HS0.out, ← HH.out] at this
            exact this
          have G1 : Hid (GR intK S0 (.slice (some ⟨S1, 0, none⟩) nw nw) (ids s2.w) w5) := by
            have := P5.r1
            unfold rwV at this
            rw [← HS0.out, ← HH.out, ← HWW.out, ← HS1.out] at this
            exact this
          have G2 : Hid (GR intK S0 (.slice (some ⟨S2, 0, none⟩) nc nc) (ids s2.c) w5) := by
            have := P5.r2
            unfold rwV at this
            rw [← HS0.out, ← HH.out, ← HWW.out, ← HCC.out, ← HS1.out, ← HS2.out] at this
            exact this
          have H5 := hide h5
          have HR5 := hide hr5
          have EH := hide eh
          have EW := hide ew
          have EC := hide ec
          have HRS := hide hR
          obtain ⟨a0, d0, v0⟩ := (hr5.row 0 (by decide)).slice
          have k0 := hr5.cell (k := 0) (by decide)
          rw [v0, eh, ← HH.out] at k0
          have c6 : Hid (Calls Try.prog 22 #[.slice a0 nh d0] w5 fun e W' => ∃ va vc, e = .returned (.slice va nh vc) ∧ GR intK w5.heap.size (.slice va nh vc) (ids s2.h) W' ∧ Below w5.heap.size w5 W') := by
            have := ids_same (hr5.row 0 (by decide)) (by rw [eh, ← HH.out]; omega)
            rw [v0, eh, ← HH.out] at this
            exact this
          clear c5 P5 h5 hr5 hR eh ew ec v0 hB5 HT
          go_wp2_with fail
          refine c6.out.mono ?_
          rintro e w6 ⟨va6, vc6, rfl, g6, b6⟩
          have G0' := G0.out.below b6
          have c7 := hide (ints_same G0' g6 (by rw [HH.out]; simp [ids]) (by simp only [ids, List.length_map]; rw [← HH.out]; omega))
          have G1' := hide (G1.out.below b6)
          have G2' := hide (G2.out.below b6)
          have H6 := hide (H5.out.on b6)
          have HR6 := hide (HR5.out.below b6)
          clear c6 G0 G0' g6 G1 G2 H5 HR5 b6 k0
          go_wp2_with fail
          refine c7.out.mono ?_
          rintro e w7 ⟨rfl, b7⟩
          have G1 := hide (G1'.out.below b7)
          have G2 := hide (G2'.out.below b7)
          have H7 := hide (H6.out.on b7)
          have HR7 := hide (HR6.out.below b7)
          obtain ⟨a1, d1, v1⟩ := (HR7.out.row 1 (by decide)).slice
          have k1 := HR7.out.cell (k := 1) (by decide)
          rw [v1, EW.out, ← HWW.out] at k1
          have c8 : Hid (Calls Try.prog 22 #[.slice a1 nw d1] w7 fun e W' => ∃ va vc, e = .returned (.slice va nw vc) ∧ GR intK w7.heap.size (.slice va nw vc) (ids s2.w) W' ∧ Below w7.heap.size w7 W') := by
            have := ids_same (HR7.out.row 1 (by decide)) (by rw [EW.out, ← HWW.out]; omega)
            rw [v1, EW.out, ← HWW.out] at this
            exact this
          clear c7 b7 G1' G2' H6 HR6 v1
          go_wp2_with fail
          refine c8.out.mono ?_
          rintro e w8 ⟨va8, vc8, rfl, g8, b8⟩
          have c9 := hide (ints_same (G1.out.below b8) g8 (by rw [HWW.out]; simp [ids]) (by simp only [ids, List.length_map]; rw [← HWW.out]; omega))
          have G2' := hide (G2.out.below b8)
          have H8 := hide (H7.out.on b8)
          have HR8 := hide (HR7.out.below b8)
          clear c8 G1 G2 g8 b8 H7 HR7 k1
          go_wp2_with fail
          refine c9.out.mono ?_
          rintro e w9 ⟨rfl, b9⟩
          have G2 := hide (G2'.out.below b9)
          have H9 := hide (H8.out.on b9)
          have HR9 := hide (HR8.out.below b9)
          obtain ⟨a2, d2, v2⟩ := (HR9.out.row 2 (by decide)).slice
          have k2 := HR9.out.cell (k := 2) (by decide)
          rw [v2, EC.out, ← HCC.out] at k2
          have ca : Hid (Calls Try.prog 22 #[.slice a2 nc d2] w9 fun e W' => ∃ va vc, e = .returned (.slice va nc vc) ∧ GR intK w9.heap.size (.slice va nc vc) (ids s2.c) W' ∧ Below w9.heap.size w9 W') := by
            have := ids_same (HR9.out.row 2 (by decide)) (by rw [EC.out, ← HCC.out]; omega)
            rw [v2, EC.out, ← HCC.out] at this
            exact this
          clear c9 b9 G2' H8 HR8 v2
          go_wp2_with fail
          refine ca.out.mono ?_
          rintro e wa ⟨va10, vc10, rfl, ga, ba⟩
          have cb := hide (ints_same (G2.out.below ba) ga (by rw [HCC.out]; simp [ids]) (by simp only [ids, List.length_map]; rw [← HCC.out]; omega))
          have Ha := hide (H9.out.on ba)
          have HRa := hide (HR9.out.below ba)
          clear ca G2 ga ba H9 HR9 k2
          go_wp2_with fail
          refine cb.out.mono ?_
          rintro e wb ⟨rfl, bb⟩
          have Hb := hide (Ha.out.on bb)
          have HRb := hide (HRa.out.below bb)
          have cc := hide (len_l Hb.out)
          have cd := hide (rlen_any HRb.out (by rw [HRS.out]; have := HLX.out; omega))
          rw [HRS.out] at cd
          have hl9 : s2.all.length ≤ 100000 := by have := HLX.out; omega
          obtain ⟨na, hna⟩ : ∃ na, na = s2.all.length := ⟨_, rfl⟩
          rw [← hna] at cc cd hl9
          clear cb bb Ha HRa hna
          go_wp2_with fail
          refine cc.out.mono ?_
          rintro e wx ⟨rfl, hx⟩
          obtain rfl : wb = wx := hx.symm
          clear hx cc
          go_wp2_with fail
          refine cd.out.mono ?_
          rintro e wd ⟨rfl, q, hq⟩
          have bd : Below wb.heap.size wb wd := by rw [hq]; exact below_drewN (Below.refl _ wb) q
          have HF : Hid (SL w f s2 wd ∧ RfZ w.heap.size r s2 wd) := ⟨Hb.out.on bd, RfZ.below ⟨Nat.le_trans Hb.out.bel.size (Nat.le_refl _), V, R, HRb.out, HRS.out⟩ bd⟩
          clear cd hq bd Hb HRb
          go_wp2
          go_roundg (len0 - i1)
          case measure => have := HK.out; have := HI1.out; have := Hlt.out; omega
          case rel => exact ⟨i1, s2, rfl, by have := HI1.out; have := Hlt.out; omega, Nat.le_refl _, HF.out.1, HF.out.2, HL.out⟩
      by_cases o2 : op = 2
      · subst o2
        have hs2 : s2 = rmvS id s := hs2
        have hT0 := TW.out.drew
        have s2e : s2 = rmvS id s := hs2
        obtain ⟨A, hA⟩ : ∃ A, A = W0.drew := ⟨_, rfl⟩
        rw [← hA] at hT0
        obtain ⟨Q1, hQ1⟩ : ∃ Q1 : World → Prop, Q1 = Two w f r s2 s N 2 id := ⟨_, rfl⟩
        obtain ⟨Q2, hQ2⟩ : ∃ Q2 : World → Prop, Q2 = Two w f r s2 s2 N 2 id := ⟨_, rfl⟩
        obtain ⟨fr, hfr⟩ : ∃ fr, fr = s.has id := ⟨_, rfl⟩
        have CA : Hid (Calls Try.prog 13 #[.pointer (some ⟨f, 0, none⟩), .int .i64 id] A fun e W' => e = .returned (.bool fr) ∧ Q1 W') := by
          rw [hQ1, hfr, s2e]; exact two_rmv hT0 HI9.out HLn.out
        have CB : Hid (∀ W, Q1 W → Calls Try.prog 18 #[.pointer (some ⟨r, 0, none⟩), .int .i64 id] W fun e W' => e = .returned (.bool fr) ∧ Q2 W') := fun W hW => by
          rw [hQ1] at hW
          rw [hQ2, hfr]
          have := two_rrmv hW HND.out HLn.out
          rw [← s2e] at this
          exact this
        have HX : Hid (∀ sx W, sx ≤ 1 → CL3 A Q1 Q2 Q2 sx W → W.cell? ⟨N, 1, none⟩ = some (.int .i64 id)) := fun sx W hs hc => by
          match sx, hs, hc with
          | 0, _, hc => have hc : W = A := hc; subst hc; exact hT0.bx.cell (i := 1) rfl
          | 1, _, hc =>
            have hc : Q1 W := hc
            rw [hQ1] at hc
            exact hc.bx.cell (i := 1) rfl
        have HQ : Hid (∀ W, Q2 W → SL w f s2 W ∧ RfZ w.heap.size r s2 W) := fun W hW => by rw [hQ2] at hW; exact ⟨hW.sl, hW.rz⟩
        have HA : Hid (CL3 A Q1 Q2 Q2 0 { W0 with drawn := W0.drawn + 1 }) := hA.symm
        clear hT0 hA hQ1 hQ2 hfr hs2 s2e HI9 HND HLn TW
        go_wp2
        rw [HW1.out, ← HN.out]
        clear hcE HW1 HN k0 k1
        refine wp_region_chain (by kernel_rfl) (by kernel_rfl) (fun jx => ([.pointer (some ⟨f, 0, none⟩), .pointer (some ⟨N, 1, none⟩), .int .i64 id, .bool fr, .pointer (some ⟨r, 0, none⟩), .pointer (some ⟨N, 1, none⟩), .int .i64 id, .bool fr, .bool true, .bool true] : List Value).getD jx undef) [3, 7] (by kernel_rfl) (CL3 A Q1 Q2 Q2) (HA.out) ?_ ?_
        · intro jx ox hi sx w' ev hlm hks hc hin hout hcst hfn
          have hltx : jx < 10 := by
            have := (Array.getElem?_eq_some_iff.1 hi).1
            simpa using this
          match jx, hltx with
          | 0, _ =>
            simp only [List.getElem?_toArray, List.getElem?_cons_zero, List.getElem?_cons_succ, Option.some.injEq] at hi
            subst hi
            have e0 : ev (.tmp 3) = .pointer (some ⟨f, 0, none⟩) := hout 3 (by kernel_rfl) (show (3 : Nat) < 131 by decide)
            rw [if_neg (by decide)]
            refine .inl ⟨w', ?_, hc⟩
            show _ = Result.ok (Next.value (.pointer (some ⟨f, 0, none⟩))) w'
            simp [execOp, e0, hcst, go_sem]
          | 1, _ =>
            simp only [List.getElem?_toArray, List.getElem?_cons_zero, List.getElem?_cons_succ, Option.some.injEq] at hi
            subst hi
            have e0 : ev (.tmp 6) = .pointer (some ⟨N, 0, none⟩) := hout 6 (by kernel_rfl) (show (6 : Nat) < 131 by decide)
            rw [if_neg (by decide)]
            refine .inl ⟨w', ?_, hc⟩
            show _ = Result.ok (Next.value (.pointer (some ⟨N, 1, none⟩))) w'
            simp [execOp, e0, hcst, go_sem]
          | 2, _ =>
            simp only [List.getElem?_toArray, List.getElem?_cons_zero, List.getElem?_cons_succ, Option.some.injEq] at hi
            subst hi
            have e0 : ev (.tmp 78) = .pointer (some ⟨N, 1, none⟩) := hin 78 1 ⟨1, .data⟩ (by kernel_rfl) (by simp) rfl rfl (show (78 : Nat) < 131 by decide)
            rw [if_neg (by decide)]
            have hl2 : sx ≤ 0 := Nat.le_trans hlm (Nat.le_of_eq (by kernel_rfl))
            refine .inl ⟨w', ?_, hc⟩
            show _ = Result.ok (Next.value (.int .i64 id)) w'
            have q1 := HX.out sx w' (Nat.le_trans hl2 (by decide)) hc
            simp [execOp, e0, hcst, go_sem, q1]
          | 3, _ =>
            simp only [List.getElem?_toArray, List.getElem?_cons_zero, List.getElem?_cons_succ, Option.some.injEq] at hi
            subst hi
            have e0 : ev (.tmp 77) = .pointer (some ⟨f, 0, none⟩) := hin 77 0 ⟨0, .data⟩ (by kernel_rfl) (by simp) rfl rfl (show (77 : Nat) < 131 by decide)
            have e1 : ev (.tmp 79) = .int .i64 id := hin 79 2 ⟨2, .data⟩ (by kernel_rfl) (by simp) rfl rfl (show (79 : Nat) < 131 by decide)
            rw [if_pos (by decide)]
            have hsx : sx = 0 := hks 0 rfl
            subst hsx
            refine .inr (.inr ⟨13, #[.pointer (some ⟨f, 0, none⟩), .int .i64 id], ?_, ?_⟩)
            · have ef := hfn 13
              simp [execOp, resolve, invoke, ef, hcst, e0, e1, Result.andThen]
              exact enter13 _ _
            · have hw : w' = A := hc
              subst hw
              refine CA.out.mono ?_
              rintro e wq ⟨rfl, hq⟩
              exact ⟨rfl, hq⟩
          | 4, _ =>
            simp only [List.getElem?_toArray, List.getElem?_cons_zero, List.getElem?_cons_succ, Option.some.injEq] at hi
            subst hi
            have e0 : ev (.tmp 4) = .pointer (some ⟨r, 0, none⟩) := hout 4 (by kernel_rfl) (show (4 : Nat) < 131 by decide)
            rw [if_neg (by decide)]
            refine .inl ⟨w', ?_, hc⟩
            show _ = Result.ok (Next.value (.pointer (some ⟨r, 0, none⟩))) w'
            simp [execOp, e0, hcst, go_sem]
          | 5, _ =>
            simp only [List.getElem?_toArray, List.getElem?_cons_zero, List.getElem?_cons_succ, Option.some.injEq] at hi
            subst hi
            have e0 : ev (.tmp 6) = .pointer (some ⟨N, 0, none⟩) := hout 6 (by kernel_rfl) (show (6 : Nat) < 131 by decide)
            rw [if_neg (by decide)]
            refine .inl ⟨w', ?_, hc⟩
            show _ = Result.ok (Next.value (.pointer (some ⟨N, 1, none⟩))) w'
            simp [execOp, e0, hcst, go_sem]
          | 6, _ =>
            simp only [List.getElem?_toArray, List.getElem?_cons_zero, List.getElem?_cons_succ, Option.some.injEq] at hi
            subst hi
            have e0 : ev (.tmp 82) = .pointer (some ⟨N, 1, none⟩) := hin 82 5 ⟨5, .data⟩ (by kernel_rfl) (by simp) rfl rfl (show (82 : Nat) < 131 by decide)
            rw [if_neg (by decide)]
            have hl2 : sx ≤ 1 := Nat.le_trans hlm (Nat.le_of_eq (by kernel_rfl))
            refine .inl ⟨w', ?_, hc⟩
            show _ = Result.ok (Next.value (.int .i64 id)) w'
            have q1 := HX.out sx w' (Nat.le_trans hl2 (by decide)) hc
            simp [execOp, e0, hcst, go_sem, q1]
          | 7, _ =>
            simp only [List.getElem?_toArray, List.getElem?_cons_zero, List.getElem?_cons_succ, Option.some.injEq] at hi
            subst hi
            have e0 : ev (.tmp 81) = .pointer (some ⟨r, 0, none⟩) := hin 81 4 ⟨4, .data⟩ (by kernel_rfl) (by simp) rfl rfl (show (81 : Nat) < 131 by decide)
            have e1 : ev (.tmp 83) = .int .i64 id := hin 83 6 ⟨6, .data⟩ (by kernel_rfl) (by simp) rfl rfl (show (83 : Nat) < 131 by decide)
            rw [if_pos (by decide)]
            have hsx : sx = 1 := hks 1 rfl
            subst hsx
            refine .inr (.inr ⟨18, #[.pointer (some ⟨r, 0, none⟩), .int .i64 id], ?_, ?_⟩)
            · have ef := hfn 18
              simp [execOp, resolve, invoke, ef, hcst, e0, e1, Result.andThen]
              exact enter18 _ _
            · refine (CB.out w' hc).mono ?_
              rintro e wq ⟨rfl, hq⟩
              exact ⟨rfl, hq⟩
          | 8, _ =>
            simp only [List.getElem?_toArray, List.getElem?_cons_zero, List.getElem?_cons_succ, Option.some.injEq] at hi
            subst hi
            have e0 : ev (.tmp 80) = .bool fr := hin 80 3 ⟨3, .data⟩ (by kernel_rfl) (by simp) rfl rfl (show (80 : Nat) < 131 by decide)
            have e1 : ev (.tmp 84) = .bool fr := hin 84 7 ⟨7, .data⟩ (by kernel_rfl) (by simp) rfl rfl (show (84 : Nat) < 131 by decide)
            rw [if_neg (by decide)]
            refine .inl ⟨w', ?_, hc⟩
            show _ = Result.ok (Next.value (.bool true)) w'
            simp [execOp, e0, e1, hcst, go_sem]
          | 9, _ =>
            simp only [List.getElem?_toArray, List.getElem?_cons_zero, List.getElem?_cons_succ, Option.some.injEq] at hi
            subst hi
            have e0 : ev (.tmp 85) = .bool true := hin 85 8 ⟨8, .data⟩ (by kernel_rfl) (by simp) rfl rfl (show (85 : Nat) < 131 by decide)
            rw [if_neg (by decide)]
            refine .inl ⟨w', ?_, hc⟩
            show _ = Result.ok (Next.value (.bool true)) w'
            simp [execOp, e0, hcst, go_sem]
        · intro w7 hc
          simp only [lexF, Act.put, List.setIfInBounds_toArray, List.set_cons_succ, List.set_cons_zero, List.getD_cons_succ, List.getD_cons_zero]
          have HT := hide (HQ.out w7 hc)
          obtain ⟨Wt, hWt⟩ : ∃ Wt, Wt = w7 := ⟨_, rfl⟩
          rw [← hWt] at HT ⊢
          clear CA CB HX HQ HA hc hWt
          have c5 := hide (lists_l HT.out.1 (by have := HLX.out; omega))
          simp only [rwV] at c5
          obtain ⟨nh, hnh⟩ : ∃ nh, nh = s2.h.length := ⟨_, rfl⟩
          obtain ⟨nw, hnw⟩ : ∃ nw, nw = s2.w.length := ⟨_, rfl⟩
          obtain ⟨nc, hnc⟩ : ∃ nc, nc = s2.c.length := ⟨_, rfl⟩
          rw [← hnh, ← hnw, ← hnc] at c5
          have hsum : nh + nw + nc ≤ 100000 := by
            have : s2.all.length = nh + nw + nc := by rw [hnh, hnw, hnc]; simp [St.all]; omega
            have := HLX.out
            omega
          have HH := hide hnh
          have HWW := hide hnw
          have HCC := hide hnc
          obtain ⟨S0, hS0⟩ : ∃ S0, S0 = Wt.heap.size := ⟨_, rfl⟩
          obtain ⟨S1, hS1⟩ : ∃ S1, S1 = S0 + 1 + nh := ⟨_, rfl⟩
          obtain ⟨S2, hS2⟩ : ∃ S2, S2 = S1 + 1 + nw := ⟨_, rfl⟩
          rw [← hS0, ← hS1, ← hS2] at c5
          have HS0 := hide hS0
          have HS1 := hide hS1
          have HS2 := hide hS2
          clear hnh hnw hnc hS0 hS1 hS2
          go_wp2_with fail
          refine c5.out.mono ?_
          rintro e w5 ⟨rfl, P5, h5⟩
          obtain ⟨hB5, V, R, hr5, hR⟩ := HT.out.2.below P5.bel
          have eh : R 0 = s2.h := by rw [← hR]; rfl
          have ew : R 1 = s2.w := by rw [← hR]; rfl
          have ec : R 2 = s2.c := by rw [← hR]; rfl
          have G0 : Hid (GR intK S0 (.slice (some ⟨S0, 0, none⟩) nh nh) (ids s2.h) w5) := by
            have := P5.r0
            unfold rwV at this
            rw [← HS0.out, ← HH.out] at this
            exact this
          have G1 : Hid (GR intK S0 (.slice (some ⟨S1, 0, none⟩) nw nw) (ids s2.w) w5) := by
            have := P5.r1
            unfold rwV at this
            rw [← HS0.out, ← HH.out, ← HWW.out, ← HS1.out] at this
            exact this
          have G2 : Hid (GR intK S0 (.slice (some ⟨S2, 0, none⟩) nc nc) (ids s2.c) w5) := by
            have := P5.r2
            unfold rwV at this
            rw [← HS0.out, ← HH.out, ← HWW.out, ← HCC.out, ← HS1.out, ← HS2.out] at this
            exact this
          have H5 := hide h5
          have HR5 := hide hr5
          have EH := hide eh
          have EW := hide ew
          have EC := hide ec
          have HRS := hide hR
          obtain ⟨a0, d0, v0⟩ := (hr5.row 0 (by decide)).slice
          have k0 := hr5.cell (k := 0) (by decide)
          rw [v0, eh, ← HH.out] at k0
          have c6 : Hid (Calls Try.prog 22 #[.slice a0 nh d0] w5 fun e W' => ∃ va vc, e = .returned (.slice va nh vc) ∧ GR intK w5.heap.size (.slice va nh vc) (ids s2.h) W' ∧ Below w5.heap.size w5 W') := by
            have := ids_same (hr5.row 0 (by decide)) (by rw [eh, ← HH.out]; omega)
            rw [v0, eh, ← HH.out] at this
            exact this
          clear c5 P5 h5 hr5 hR eh ew ec v0 hB5 HT
          go_wp2_with fail
          refine c6.out.mono ?_
          rintro e w6 ⟨va6, vc6, rfl, g6, b6⟩
          have G0' := G0.out.below b6
          have c7 := hide (ints_same G0' g6 (by rw [HH.out]; simp [ids]) (by simp only [ids, List.length_map]; rw [← HH.out]; omega))
          have G1' := hide (G1.out.below b6)
          have G2' := hide (G2.out.below b6)
          have H6 := hide (H5.out.on b6)
          have HR6 := hide (HR5.out.below b6)
          clear c6 G0 G0' g6 G1 G2 H5 HR5 b6 k0
          go_wp2_with fail
          refine c7.out.mono ?_
          rintro e w7 ⟨rfl, b7⟩
          have G1 := hide (G1'.out.below b7)
          have G2 := hide (G2'.out.below b7)
          have H7 := hide (H6.out.on b7)
          have HR7 := hide (HR6.out.below b7)
          obtain ⟨a1, d1, v1⟩ := (HR7.out.row 1 (by decide)).slice
          have k1 := HR7.out.cell (k := 1) (by decide)
          rw [v1, EW.out, ← HWW.out] at k1
          have c8 : Hid (Calls Try.prog 22 #[.slice a1 nw d1] w7 fun e W' => ∃ va vc, e = .returned (.slice va nw vc) ∧ GR intK w7.heap.size (.slice va nw vc) (ids s2.w) W' ∧ Below w7.heap.size w7 W') := by
            have := ids_same (HR7.out.row 1 (by decide)) (by rw [EW.out, ← HWW.out]; omega)
            rw [v1, EW.out, ← HWW.out] at this
            exact this
          clear c7 b7 G1' G2' H6 HR6 v1
          go_wp2_with fail
          refine c8.out.mono ?_
          rintro e w8 ⟨va8, vc8, rfl, g8, b8⟩
          have c9 := hide (ints_same (G1.out.below b8) g8 (by rw [HWW.out]; simp [ids]) (by simp only [ids, List.length_map]; rw [← HWW.out]; omega))
          have G2' := hide (G2.out.below b8)
          have H8 := hide (H7.out.on b8)
          have HR8 := hide (HR7.out.below b8)
          clear c8 G1 G2 g8 b8 H7 HR7 k1
          go_wp2_with fail
          refine c9.out.mono ?_
          rintro e w9 ⟨rfl, b9⟩
          have G2 := hide (G2'.out.below b9)
          have H9 := hide (H8.out.on b9)
          have HR9 := hide (HR8.out.below b9)
          obtain ⟨a2, d2, v2⟩ := (HR9.out.row 2 (by decide)).slice
          have k2 := HR9.out.cell (k := 2) (by decide)
          rw [v2, EC.out, ← HCC.out] at k2
          have ca : Hid (Calls Try.prog 22 #[.slice a2 nc d2] w9 fun e W' => ∃ va vc, e = .returned (.slice va nc vc) ∧ GR intK w9.heap.size (.slice va nc vc) (ids s2.c) W' ∧ Below w9.heap.size w9 W') := by
            have := ids_same (HR9.out.row 2 (by decide)) (by rw [EC.out, ← HCC.out]; omega)
            rw [v2, EC.out, ← HCC.out] at this
            exact this
          clear c9 b9 G2' H8 HR8 v2
          go_wp2_with fail
          refine ca.out.mono ?_
          rintro e wa ⟨va10, vc10, rfl, ga, ba⟩
          have cb := hide (ints_same (G2.out.below ba) ga (by rw [HCC.out]; simp [ids]) (by simp only [ids, List.length_map]; rw [← HCC.out]; omega))
          have Ha := hide (H9.out.on ba)
          have HRa := hide (HR9.out.below ba)
          clear ca G2 ga ba H9 HR9 k2
          go_wp2_with fail
          refine cb.out.mono ?_
          rintro e wb ⟨rfl, bb⟩
          have Hb := hide (Ha.out.on bb)
          have HRb := hide (HRa.out.below bb)
          have cc := hide (len_l Hb.out)
          have cd := hide (rlen_any HRb.out (by rw [HRS.out]; have := HLX.out; omega))
          rw [HRS.out] at cd
          have hl9 : s2.all.length ≤ 100000 := by have := HLX.out; omega
          obtain ⟨na, hna⟩ : ∃ na, na = s2.all.length := ⟨_, rfl⟩
          rw [← hna] at cc cd hl9
          clear cb bb Ha HRa hna
          go_wp2_with fail
          refine cc.out.mono ?_
          rintro e wx ⟨rfl, hx⟩
          obtain rfl : wb = wx := hx.symm
          clear hx cc
          go_wp2_with fail
          refine cd.out.mono ?_
          rintro e wd ⟨rfl, q, hq⟩
          have bd : Below wb.heap.size wb wd := by rw [hq]; exact below_drewN (Below.refl _ wb) q
          have HF : Hid (SL w f s2 wd ∧ RfZ w.heap.size r s2 wd) := ⟨Hb.out.on bd, RfZ.below ⟨Nat.le_trans Hb.out.bel.size (Nat.le_refl _), V, R, HRb.out, HRS.out⟩ bd⟩
          clear cd hq bd Hb HRb
          go_wp2
          go_roundg (len0 - i1)
          case measure => have := HK.out; have := HI1.out; have := Hlt.out; omega
          case rel => exact ⟨i1, s2, rfl, by have := HI1.out; have := Hlt.out; omega, Nat.le_refl _, HF.out.1, HF.out.2, HL.out⟩
      have n0 : (op == 0) = false := by simpa using o0
      have n1 : (op == 1) = false := by simpa using o1
      have n2 : (op == 2) = false := by simpa using o2
      have s2e : s2 = eviS s := by rw [hs2]; unfold stepS; rw [if_neg o0, if_neg o1, if_neg o2]
      have cE : Hid (Calls Try.prog 11 #[.pointer (some ⟨f, 0, none⟩)] W0 fun e W' => e = .returned (.tuple #[.int .i64 ((evi s).getD 0), .bool (evi s).isSome]) ∧ Two w f r s2 s N op id W') := by rw [s2e]; exact two_evi TW.out HLn.out
      have cF : Hid (∀ W, Two w f r s2 s N op id W → Calls Try.prog 19 #[.pointer (some ⟨r, 0, none⟩)] W fun e W' => e = .returned (.tuple #[.int .i64 ((evi s).getD 0), .bool (evi s).isSome]) ∧ Two w f r s2 s2 N op id W') := fun W hW => by
        have := two_revi hW HND.out HLn.out
        rw [← s2e] at this
        exact this
      clear hs2 s2e o0 o1 o2 HI9 HND HLn TW
      generalize (evi s).getD 0 = gd at *
      generalize (evi s).isSome = gs at *
      rw [← HW1.out] at cE
      go_wp2_with fail
      refine cE.out.mono ?_
      rintro e w3 ⟨rfl, h3⟩
      have c4 := hide (cF.out w3 h3)
      clear cE cF h3 hcE HW1 HN k0 k1
      go_wp2_with fail
      refine c4.out.mono ?_
      rintro e w4 ⟨rfl, h4⟩
      have HT : Hid (SL w f s2 w4 ∧ RfZ w.heap.size r s2 w4) := ⟨h4.sl, h4.rz⟩
      obtain ⟨Wt, hWt⟩ : ∃ Wt, Wt = w4 := ⟨_, rfl⟩
      rw [← hWt] at HT ⊢
      clear c4 h4 hWt
      have c5 := hide (lists_l HT.out.1 (by have := HLX.out; omega))
      simp only [rwV] at c5
      obtain ⟨nh, hnh⟩ : ∃ nh, nh = s2.h.length := ⟨_, rfl⟩
      obtain ⟨nw, hnw⟩ : ∃ nw, nw = s2.w.length := ⟨_, rfl⟩
      obtain ⟨nc, hnc⟩ : ∃ nc, nc = s2.c.length := ⟨_, rfl⟩
      rw [← hnh, ← hnw, ← hnc] at c5
      have hsum : nh + nw + nc ≤ 100000 := by
        have : s2.all.length = nh + nw + nc := by rw [hnh, hnw, hnc]; simp [St.all]; omega
        have := HLX.out
        omega
      have HH := hide hnh
      have HWW := hide hnw
      have HCC := hide hnc
      obtain ⟨S0, hS0⟩ : ∃ S0, S0 = Wt.heap.size := ⟨_, rfl⟩
      obtain ⟨S1, hS1⟩ : ∃ S1, S1 = S0 + 1 + nh := ⟨_, rfl⟩
      obtain ⟨S2, hS2⟩ : ∃ S2, S2 = S1 + 1 + nw := ⟨_, rfl⟩
      rw [← hS0, ← hS1, ← hS2] at c5
      have HS0 := hide hS0
      have HS1 := hide hS1
      have HS2 := hide hS2
      clear hnh hnw hnc hS0 hS1 hS2
      go_wp2_with fail
      refine c5.out.mono ?_
      rintro e w5 ⟨rfl, P5, h5⟩
      obtain ⟨hB5, V, R, hr5, hR⟩ := HT.out.2.below P5.bel
      have eh : R 0 = s2.h := by rw [← hR]; rfl
      have ew : R 1 = s2.w := by rw [← hR]; rfl
      have ec : R 2 = s2.c := by rw [← hR]; rfl
      have G0 : Hid (GR intK S0 (.slice (some ⟨S0, 0, none⟩) nh nh) (ids s2.h) w5) := by
        have := P5.r0
        unfold rwV at this
        rw [← HS0.out, ← HH.out] at this
        exact this
      have G1 : Hid (GR intK S0 (.slice (some ⟨S1, 0, none⟩) nw nw) (ids s2.w) w5) := by
        have := P5.r1
        unfold rwV at this
        rw [← HS0.out, ← HH.out, ← HWW.out, ← HS1.out] at this
        exact this
      have G2 : Hid (GR intK S0 (.slice (some ⟨S2, 0, none⟩) nc nc) (ids s2.c) w5) := by
        have := P5.r2
        unfold rwV at this
        rw [← HS0.out, ← HH.out, ← HWW.out, ← HCC.out, ← HS1.out, ← HS2.out] at this
        exact this
      have H5 := hide h5
      have HR5 := hide hr5
      have EH := hide eh
      have EW := hide ew
      have EC := hide ec
      have HRS := hide hR
      obtain ⟨a0, d0, v0⟩ := (hr5.row 0 (by decide)).slice
      have k0 := hr5.cell (k := 0) (by decide)
      rw [v0, eh, ← HH.out] at k0
      have c6 : Hid (Calls Try.prog 22 #[.slice a0 nh d0] w5 fun e W' => ∃ va vc, e = .returned (.slice va nh vc) ∧ GR intK w5.heap.size (.slice va nh vc) (ids s2.h) W' ∧ Below w5.heap.size w5 W') := by
        have := ids_same (hr5.row 0 (by decide)) (by rw [eh, ← HH.out]; omega)
        rw [v0, eh, ← HH.out] at this
        exact this
      clear c5 P5 h5 hr5 hR eh ew ec v0 hB5 HT
      go_wp2_with fail
      refine c6.out.mono ?_
      rintro e w6 ⟨va6, vc6, rfl, g6, b6⟩
      have G0' := G0.out.below b6
      have c7 := hide (ints_same G0' g6 (by rw [HH.out]; simp [ids]) (by simp only [ids, List.length_map]; rw [← HH.out]; omega))
      have G1' := hide (G1.out.below b6)
      have G2' := hide (G2.out.below b6)
      have H6 := hide (H5.out.on b6)
      have HR6 := hide (HR5.out.below b6)
      clear c6 G0 G0' g6 G1 G2 H5 HR5 b6 k0
      go_wp2_with fail
      refine c7.out.mono ?_
      rintro e w7 ⟨rfl, b7⟩
      have G1 := hide (G1'.out.below b7)
      have G2 := hide (G2'.out.below b7)
      have H7 := hide (H6.out.on b7)
      have HR7 := hide (HR6.out.below b7)
      obtain ⟨a1, d1, v1⟩ := (HR7.out.row 1 (by decide)).slice
      have k1 := HR7.out.cell (k := 1) (by decide)
      rw [v1, EW.out, ← HWW.out] at k1
      have c8 : Hid (Calls Try.prog 22 #[.slice a1 nw d1] w7 fun e W' => ∃ va vc, e = .returned (.slice va nw vc) ∧ GR intK w7.heap.size (.slice va nw vc) (ids s2.w) W' ∧ Below w7.heap.size w7 W') := by
        have := ids_same (HR7.out.row 1 (by decide)) (by rw [EW.out, ← HWW.out]; omega)
        rw [v1, EW.out, ← HWW.out] at this
        exact this
      clear c7 b7 G1' G2' H6 HR6 v1
      go_wp2_with fail
      refine c8.out.mono ?_
      rintro e w8 ⟨va8, vc8, rfl, g8, b8⟩
      have c9 := hide (ints_same (G1.out.below b8) g8 (by rw [HWW.out]; simp [ids]) (by simp only [ids, List.length_map]; rw [← HWW.out]; omega))
      have G2' := hide (G2.out.below b8)
      have H8 := hide (H7.out.on b8)
      have HR8 := hide (HR7.out.below b8)
      clear c8 G1 G2 g8 b8 H7 HR7 k1
      go_wp2_with fail
      refine c9.out.mono ?_
      rintro e w9 ⟨rfl, b9⟩
      have G2 := hide (G2'.out.below b9)
      have H9 := hide (H8.out.on b9)
      have HR9 := hide (HR8.out.below b9)
      obtain ⟨a2, d2, v2⟩ := (HR9.out.row 2 (by decide)).slice
      have k2 := HR9.out.cell (k := 2) (by decide)
      rw [v2, EC.out, ← HCC.out] at k2
      have ca : Hid (Calls Try.prog 22 #[.slice a2 nc d2] w9 fun e W' => ∃ va vc, e = .returned (.slice va nc vc) ∧ GR intK w9.heap.size (.slice va nc vc) (ids s2.c) W' ∧ Below w9.heap.size w9 W') := by
        have := ids_same (HR9.out.row 2 (by decide)) (by rw [EC.out, ← HCC.out]; omega)
        rw [v2, EC.out, ← HCC.out] at this
        exact this
      clear c9 b9 G2' H8 HR8 v2
      go_wp2_with fail
      refine ca.out.mono ?_
      rintro e wa ⟨va10, vc10, rfl, ga, ba⟩
      have cb := hide (ints_same (G2.out.below ba) ga (by rw [HCC.out]; simp [ids]) (by simp only [ids, List.length_map]; rw [← HCC.out]; omega))
      have Ha := hide (H9.out.on ba)
      have HRa := hide (HR9.out.below ba)
      clear ca G2 ga ba H9 HR9 k2
      go_wp2_with fail
      refine cb.out.mono ?_
      rintro e wb ⟨rfl, bb⟩
      have Hb := hide (Ha.out.on bb)
      have HRb := hide (HRa.out.below bb)
      have cc := hide (len_l Hb.out)
      have cd := hide (rlen_any HRb.out (by rw [HRS.out]; have := HLX.out; omega))
      rw [HRS.out] at cd
      have hl9 : s2.all.length ≤ 100000 := by have := HLX.out; omega
      obtain ⟨na, hna⟩ : ∃ na, na = s2.all.length := ⟨_, rfl⟩
      rw [← hna] at cc cd hl9
      clear cb bb Ha HRa hna
      go_wp2_with fail
      refine cc.out.mono ?_
      rintro e wx ⟨rfl, hx⟩
      obtain rfl : wb = wx := hx.symm
      clear hx cc
      go_wp2_with fail
      refine cd.out.mono ?_
      rintro e wd ⟨rfl, q, hq⟩
      have bd : Below wb.heap.size wb wd := by rw [hq]; exact below_drewN (Below.refl _ wb) q
      have HF : Hid (SL w f s2 wd ∧ RfZ w.heap.size r s2 wd) := ⟨Hb.out.on bd, RfZ.below ⟨Nat.le_trans Hb.out.bel.size (Nat.le_refl _), V, R, HRb.out, HRS.out⟩ bd⟩
      clear cd hq bd Hb HRb
      go_wp2
      go_roundg (len0 - i1)
      case measure => have := HK.out; have := HI1.out; have := Hlt.out; omega
      case rel => exact ⟨i1, s2, rfl, by have := HI1.out; have := Hlt.out; omega, Nat.le_refl _, HF.out.1, HF.out.2, HL.out⟩
    · have hlt2 : ¬ (i : Int) < (len0 : Int) := by omega
      have BB := hide I.out.2.2.1.bel
      clear I hlt
      go_wp2
      go_ret
      exact ⟨rfl, BB.out⟩
end Go.Proofs.Ytgjgdhjnkbbceaa.segPlays
