/-
  Each call that adds takes one page, be it one mark or twenty-three: proof of the law 'TombPages'. No conditions.
-/
import Derived.WalkKit
import Derived.Below
import Derived.Test.YtghdkicijdfpcaaArgs
namespace Go.Proofs.Ytghdkicijdfpcaa.tombPages
open Go.RowKit Go.Deep Math
set_option linter.unusedVariables false
set_option linter.unusedSimpArgs false

theorem and31 (z : Int) : 0 ≤ bits .and .i64 z 31 ∧ bits .and .i64 z 31 ≤ 31 := by
  have h : (BitVec.ofInt 64 z &&& BitVec.ofInt 64 31).toNat ≤ 31 := by
    rw [BitVec.toNat_and]
    exact Nat.le_trans Nat.and_le_right (by decide)
  have e : bits .and .i64 z 31 = IntKind.i64.wrap ((BitVec.ofInt 64 z &&& BitVec.ofInt 64 31).toNat : Int) := rfl
  rw [e, IntKind.wrap_i64]
  omega
theorem small_of (z : Int) : ∃ n : Nat, n < 24 ∧ (bits .and .i64 z 31).tmod 24 = (n : Int) := by
  obtain ⟨h1, h2⟩ := and31 z
  refine ⟨((bits .and .i64 z 31) % 24).toNat, by omega, ?_⟩
  rw [Int.tmod_eq_emod_of_nonneg h1]
  omega
/-- The marks of a call. -/
def xsK (i k : Nat) : List Mk := (List.range k).map fun t => (i, t)
theorem xsK_succ (i k : Nat) : xsK i (k + 1) = xsK i k ++ [(i, k)] := by simp [xsK, List.range_succ]
theorem xsK_fits (i k : Nat) (hi : i ≤ 100) (hk : k ≤ 100) : ∀ x ∈ xsK i k, Mk.fits x := by
  intro x hx
  obtain ⟨t, ht, rfl⟩ := List.mem_map.1 hx
  have := List.mem_range.1 ht
  exact ⟨by show i < _; omega, by show t < _; omega⟩
/-- What is known ahead of a call, u pages used. -/
def PgAt (w : World) (d j p u c : Nat) (W : World) : Prop := ∃ F S m n J M, Law w d F S W ∧ Sure S ∧ S.cs.length = 10 ∧ JH w W d F j m n J ∧ J.is S.losses 0 p u 3 M ∧ n ≤ c
theorem PgAt.below {w : World} {d j p u c : Nat} {W W' : World} (h : PgAt w d j p u c W) (b : Below W.heap.size W W') : PgAt w d j p u c W' := by
  obtain ⟨F, S, m, n, J, M, h1, h2, h3, h4, h5, h6⟩ := h
  exact ⟨F, S, m, n, J, M, h1.below b, h2, h3, h4.below b, h5, h6⟩
set_option maxRecDepth 8000 in
set_option maxHeartbeats 4000000 in
theorem walk (a0 : Int) (a1 : Option Addr) (len1 cap1 : Nat) (z1 : List Int) (w : World) (hw0 : (Lit.int .i64 a0).wf = true) (hw1 : IntsAt w a1 len1 z1) :
    Calls Try.prog 8 #[.int .i64 a0, .slice a1 len1 cap1] w fun e w' => e = .returned (.bool true) ∧ Below w.heap.size w w' := by
  have ca := hide' (awake_any w)
  have q0 := wfi64 hw0
  by_cases hbad : a0 < 1 ∨ 10 < a0 ∨ 20 < len1
  · have HB := hide' hbad
    clear hw0 hw1 hbad
    by_cases e1 : a0 < 1
    · clear HB
      go_enter Try.func8, Try.ntmps8
      go_wp2_with fail
      refine ca.out.mono ?_
      rintro r w1 ⟨rfl, h1⟩
      have B1 := hide' h1
      clear h1 ca
      go_wp2
      go_ret
      exact ⟨rfl, B1.out⟩
    by_cases e2 : 10 < a0
    · clear HB
      go_enter Try.func8, Try.ntmps8
      go_wp2_with fail
      refine ca.out.mono ?_
      rintro r w1 ⟨rfl, h1⟩
      have B1 := hide' h1
      clear h1 ca
      go_wp2
      go_ret
      exact ⟨rfl, B1.out⟩
    have e3 : ((20 : Int) < (len1 : Int)) = True := eq_true (by have := HB.out; omega)
    clear HB
    go_enter Try.func8, Try.ntmps8
    go_wp2_with fail
    refine ca.out.mono ?_
    rintro r w1 ⟨rfl, h1⟩
    have B1 := hide' h1
    clear h1 ca
    go_wp2
    go_ret
    exact ⟨rfl, B1.out⟩
  obtain ⟨p, hp⟩ : ∃ p : Nat, a0 = (p : Int) := ⟨a0.toNat, by omega⟩
  subst hp
  have p1 : 1 ≤ p := by omega
  have p2 : p ≤ 10 := by omega
  have e1 : ¬ (p : Int) < 1 := by omega
  have e2 : ¬ (10 : Int) < (p : Int) := by omega
  have e3 : ((20 : Int) < (len1 : Int)) = False := eq_false (by omega)
  have hlen : len1 ≤ 20 := by omega
  have HW := hide' hw1
  obtain ⟨i0, hi0, hz0, hz1, hz2⟩ := info48'
  have HI := hide' hi0
  have Z0 := hide' hz0
  have Z1 := hide' hz1
  have Z2 := hide' hz2
  clear hw0 hw1 hbad q0 hi0 hz0 hz1 hz2
  go_enter Try.func8, Try.ntmps8
  go_wp2_with fail
  refine ca.out.mono ?_
  rintro r w1 ⟨rfl, h1⟩
  have B1 := hide' h1
  clear h1 ca
  have cN := hide' (new_law B1.out 10 (by omega) (by omega))
  go_wp2_with fail
  refine cN.out.mono ?_
  rintro e w2 ⟨d, F2, rfl, hl2, _⟩
  have L2 := hide' hl2
  clear hl2 cN B1 e1 e2 e3
  have hsc : scanP 3 ((Dv.fresh 10).pgs 0 p) = [] := by
    rw [pgs_pl, fresh_pl, List.drop_zero, List.take_replicate]
    exact scan_blank 3 _
  have cO := hide' (open_is L2.out (Sure.fresh 10) 0 p 3 p1 (by show 0 + p ≤ 10; omega) (by decide) [] hsc)
  clear hsc
  go_wp2_with fail
  refine cO.out.mono ?_
  rintro e w3 ⟨j, m, n, S3, J3, rfl, hl3, hlk, hj3, hi3, hn, _, _, _⟩
  have T3 : Hid (PgAt w d j p 0 230 w3) := by
    rw [← hlk.losses] at hi3
    exact ⟨F2, S3, m, n, J3, _, hl3, (Sure.fresh 10).like hlk, by rw [hlk.cs]; rfl, hj3, hi3, by omega⟩
  clear hl3 hlk hj3 hi3 hn cO L2
  go_wp2_with fail
  go_loopg [9, 10] len1 (fun kx s9 s10 wr => ∃ i u : Nat, s9 = .int .i64 ((p - u : Nat) : Int) ∧ s10 = .int .i64 i ∧ i ≤ len1 ∧ len1 - i ≤ kx ∧ u ≤ p ∧ Hid (PgAt w d j p u (230 + 23 * i) wr))
  case atStart => exact ⟨0, 0, rfl, rfl, Nat.zero_le _, by omega, Nat.zero_le _, T3.out⟩
  case round =>
    obtain ⟨i, u, rfl, rfl, hin, hg, hup, I⟩ := hrel
    by_cases hlt : i < len1
    · have hlt2 : (i : Int) < (len1 : Int) := by omega
      obtain ⟨z, hz⟩ : ∃ z, z1[i]? = some z := ⟨_, List.getElem?_eq_getElem (by rw [← HW.out.len]; exact hlt)⟩
      obtain ⟨b, o, ha, hb, hc⟩ := HW.out.cell i z hz
      subst ha
      obtain ⟨nn, hnn, hmod⟩ := small_of z
      have hc' : wr.cell? ⟨b, o + i, none⟩ = some (.int .i64 z) := by
        obtain ⟨F, S, m, n, J, M, h1, _⟩ := I.out
        exact (World.cell?_of_block (h1.bel.block b hb)).trans hc
      have hwi : IntKind.u64.wrap (i : Int) = (i : Int) := by rw [IntKind.wrap_u64]; omega
      clear hz hc hb
      obtain ⟨wO, rfl⟩ : ∃ wO, wO = wr := ⟨_, rfl⟩
      go_wp2_with fail
      go_loopg [12, 13] nn (fun kx s12 s13 wk => ∃ k : Nat, ∃ a c, s12 = .slice a k c ∧ s13 = .int .i64 k ∧ k ≤ nn ∧ nn - k ≤ kx ∧ Hid (wk.ownsRow wO.heap.size 48 2 (.slice a k c) k (mkCells (xsK i k)) ∧ Below wO.heap.size wO wk))
      case atStart => exact ⟨0, none, 0, rfl, rfl, Nat.zero_le _, by omega, World.ownsRow_nil _ _ _ _, Below.refl _ _⟩
      case round =>
        obtain ⟨k, a, c, rfl, rfl, hkn, hgk, K⟩ := hrel
        by_cases hlk : k < nn
        · have hlk2 : (k : Int) < (nn : Int) := by omega
          have hwk : IntKind.u64.wrap (k : Int) = (k : Int) := by rw [IntKind.wrap_u64]; omega
          go_wp2_with (at_builtin; refine wpList_append_own _ rfl _ _ 31 rfl wO.heap.size 48 i0 (.agg #[.int .u64 0, .int .u64 0]) 2 16 Try.underlying31 HI.out Z0.out Z1.out Z2.out rfl (by decide) _ _ _ rfl (K.out.1.alloc _) ⟨wr.heap.size, 0, none⟩ 1 1 [.int .u64 (i : Int), .int .u64 (k : Int)] rfl rfl ?c1 ?c2 ?c3 ?c4 ?c5 ?_)
          case c1 =>
            intro j' u' hj'
            rw [Addr.add_lit, Nat.zero_add]
            exact (Blk.new wr [.int .u64 (i : Int), .int .u64 (k : Int)] 48).cell hj'
          case c2 => intro u' hu'; simp at hu'; rcases hu' with rfl | rfl <;> rfl
          case c3 => unfold maxLen; omega
          case c4 => omega
          case c5 => have := K.out.2.size; simp; omega
          intro v' w5 hown' hgrow _
          obtain ⟨g2, cp2, rfl⟩ : ∃ g2 cp2, v' = .slice (some ⟨g2, 0, none⟩) (k + 1) cp2 := by
            rcases hown'.2 with ⟨_, h0⟩ | ⟨g2, cp2, _, hv, _⟩
            · omega
            · exact ⟨g2, cp2, hv⟩
          rw [mkCells_snoc (xsK i k) (i, k), ← xsK_succ] at hown'
          have B5 := hide' ((K.out.2.alloc K.out.2.size (.cells #[.int .u64 (i : Int), .int .u64 (k : Int)] 48)).grown hgrow (by have := K.out.2.size; simp; omega) (fun q hq => (K.out.1.lt q hq).1))
          have O5 := hide' hown'
          clear hown' hgrow K
          go_wp2
          go_roundg (nn - (k + 1))
          case measure => omega
          case rel => exact ⟨k + 1, _, _, rfl, by go_num, by omega, by omega, O5.out, B5.out⟩
        · obtain rfl : k = nn := by omega
          have hlk2 : ¬ (k : Int) < (k : Int) := by omega
          have T5 := hide' (I.out.below K.out.2)
          have R5 := hide' K.out.1
          obtain ⟨F, S, m, n, J, M, t1, t2, t3, t4, t5, t6⟩ := I.out
          have hMk : Hid (MkIn wr j m F a k (xsK i k)) := MkIn.of_row K.out.1 (xsK_fits i k (by omega) (by omega)) (fun x hx => t1.dev.lt x hx) t4.jr.blk.lt t4.jr.mlt
          have U1 := hide' (t1.below K.out.2)
          have U4 := hide' (t4.below K.out.2)
          have U2 := hide' t2
          have U3 := hide' t3
          have U5 := hide' t5
          have U6 := hide' t6
          clear t1 t2 t3 t4 t5 t6 I K hc' hmod
          by_cases hk0 : k = 0
          · subst hk0
            have cA := hide' (add_none j a c wr)
            have cR := hide' (room_is U4.out U5.out hup (by omega))
            go_wp2_with fail
            refine cA.out.mono ?_
            rintro e w6 ⟨rfl, h6⟩
            obtain rfl : wr = w6 := h6.symm
            clear h6 cA
            go_wp2_with fail
            refine cR.out.mono ?_
            rintro e w7 ⟨rfl, b7⟩
            have T7 : Hid (PgAt w d j p u (230 + 23 * (i + 1)) w7) := ⟨F, S, m, n, J, M, U1.out.below b7, U2.out, U3.out, U4.out.below b7, U5.out, by have := U6.out; omega⟩
            clear b7 cR
            go_wp2
            go_roundg (len1 - (i + 1))
            case measure => omega
            case rel => exact ⟨i + 1, u, rfl, by go_num, by omega, by omega, hup, T7.out⟩
          · have hk1 : 1 ≤ k := by omega
            have hk2 : ((0 : Int) < (k : Int)) = True := eq_true (by omega)
            have hk3 : (0 < k) = True := eq_true (by omega)
            by_cases hu : u < p
            · have cA := hide' (add_is U1.out U2.out U4.out U5.out hu (by rw [U3.out]; omega) (by decide) c hMk.out hk1 (by omega) (by have := U6.out; omega))
              have hl1 : ((0 : Int) < ((p - u : Nat) : Int)) = True := eq_true (by omega)
              have hl2 : (0 < p - u) = True := eq_true (by omega)
              have hl3 : ((p - u : Nat) : Int) - 1 = ((p - (u + 1) : Nat) : Int) := by omega
              have hl4 : wrap64 ((p - (u + 1) : Nat) : Int) = ((p - (u + 1) : Nat) : Int) := by unfold wrap64; omega
              go_wp2_with fail
              refine cA.out.mono ?_
              rintro e w6 ⟨rfl, F6, n6, S6, J6, g1, g2, g3, g4, g5, _, _⟩
              have hlen6 : S6.cs.length = 10 := by rw [← pl_length, g2.pl, List.length_set, pl_length]; exact U3.out
              have hi6 : J6.is S6.losses 0 p (u + 1) 3 (kM M (xsK i k)) := by rw [g2.losses]; exact g4
              have cR := hide' (room_is g3 hi6 (by omega) (by omega))
              have V1 := hide' g1
              have V2 := hide' g2.sure
              have V3 := hide' g3
              have V4 := hide' hi6
              have V5 := hide' g5
              have V6 := hide' hlen6
              clear g1 g2 g3 g4 g5 hi6 hlen6 cA
              generalize hq1 : p - u = q1 at hl1 hl2 hl3 ⊢
              generalize hq2 : p - (u + 1) = q2 at hl3 hl4 cR
              have Q1 := hide' hq1
              have Q2 := hide' hq2
              clear hq1 hq2
              go_wp2_with fail
              refine cR.out.mono ?_
              rintro e w7 ⟨rfl, b7⟩
              have T7 : Hid (PgAt w d j p (u + 1) (230 + 23 * (i + 1)) w7) := ⟨F6, S6, m, n6, J6, _, V1.out.below b7, V2.out, V6.out, V3.out.below b7, V4.out, by have := U6.out; have := V5.out; omega⟩
              clear b7 cR
              go_wp2
              go_roundg (len1 - (i + 1))
              case measure => omega
              case rel => exact ⟨i + 1, u + 1, by rw [Q2.out], by go_num, by omega, by omega, by omega, T7.out⟩
            · obtain rfl : u = p := by omega
              have cA := hide' (full_is U1.out U4.out U5.out (by rw [U3.out]; omega) a k c hk1 (by omega))
              have hz : u - u = 0 := by omega
              rw [hz]
              go_wp2_with fail
              refine cA.out.mono ?_
              rintro e w6 ⟨rfl, F6, n6, g1, g3, g5, _, _⟩
              have cR := hide' (room_is g3 U5.out (by omega) (by omega))
              rw [hz] at cR
              have V1 := hide' g1
              have V3 := hide' g3
              have V5 := hide' g5
              clear g1 g3 g5 cA
              go_wp2_with fail
              refine cR.out.mono ?_
              rintro e w7 ⟨rfl, b7⟩
              have T7 : Hid (PgAt w d j u u (230 + 23 * (i + 1)) w7) := ⟨F6, S, m, n6, J, M, V1.out.below b7, U2.out, U3.out, V3.out.below b7, U5.out, by have := U6.out; have := V5.out; omega⟩
              clear b7 cR
              go_wp2
              go_roundg (len1 - (i + 1))
              case measure => omega
              case rel => exact ⟨i + 1, u, by rw [hz]; rfl, by go_num, by omega, by omega, by omega, T7.out⟩
    · obtain rfl : i = len1 := by omega
      have hlt2 : ¬ (i : Int) < (i : Int) := by omega
      go_wp2
      go_ret
      obtain ⟨F, S, m, n, J, M, t1, _⟩ := I.out
      exact ⟨rfl, t1.bel⟩
end Go.Proofs.Ytghdkicijdfpcaa.tombPages
