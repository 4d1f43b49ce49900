/-
  ParseEdge holds for every input.
-/
import Derived.WalkKit
import Derived.Below
import Derived.Test.YtmfjaehajdephabEd2
namespace Go.Proofs.Ytmfjaehajdephab.parseEdge
open Go.RowKit Go.Deep Go.Shelf
set_option linter.unusedVariables false
set_option linter.unusedSimpArgs false

set_option maxRecDepth 8000 in
set_option maxHeartbeats 40000000 in
theorem walk (a0 : Int) (a1 : Bool) (w : World) (hw0 : (Lit.int .i64 a0).wf = true) (hw1 : True) :
    Calls Try.prog 5 #[.int .i64 a0, .bool a1] w fun e w' => e = .returned (.bool true) ∧ Below w.heap.size w w' := by
  have B := Below.refl w.heap.size w
  by_cases hn1 : a0 < 2000
  · go_enter Try.func5, Try.ntmps5
    go_wp2_with fail
    refine (awake_any w).mono ?_
    rintro e W0 ⟨rfl, BX⟩
    go_wp2
    go_ret
    exact ⟨rfl, BX⟩
  by_cases hn2 : 2100 < a0
  · go_enter Try.func5, Try.ntmps5
    go_wp2_with fail
    refine (awake_any w).mono ?_
    rintro e W0 ⟨rfl, BX⟩
    go_wp2
    go_ret
    exact ⟨rfl, BX⟩
  obtain ⟨n, rfl⟩ : ∃ n : Nat, a0 = (n : Int) := ⟨a0.toNat, by omega⟩
  have hm1 : 2000 ≤ n := by omega
  have hm2 : n ≤ 2100 := by omega
  obtain ⟨h, hh⟩ : ∃ h, h = w.heap.size := ⟨_, rfl⟩
  rw [← hh] at B ⊢
  clear hw0 hw1
  have hmk := fun W => mk_bytes W n (by omega)
  have HH := hide hh
  clear hh
  go_enter Try.func5, Try.ntmps5
  go_wp2_with fail
  refine (awake_any w).mono ?_
  rintro e W0 ⟨rfl, BX⟩
  rw [← HH.out] at BX
  replace B := B.trans BX
  have S : h ≤ W0.heap.size := by have := B.size; have := HH.out; omega
  clear BX
  go_wp2_with fail
  obtain ⟨g, hg⟩ : ∃ g, g = W0.heap.size := ⟨_, rfl⟩
  have K0 : Blk (W0.alloc (.cells (bC (List.replicate n 0)).toArray 5)) g (bC (List.replicate n 0)) 5 := by rw [hg]; exact Blk.new _ _ _
  have B1 : Below h w (W0.alloc (.cells (bC (List.replicate n 0)).toArray 5)) := B.alloc S _
  have S1 : h ≤ (W0.alloc (.cells (bC (List.replicate n 0)).toArray 5)).heap.size := by rw [nblk_alloc]; omega
  have Hg : Hid (h ≤ g) := by rw [hg]; exact S
  rw [← hg]
  clear hg S B
  generalize W0.alloc (.cells (bC (List.replicate n 0)).toArray 5) = W1 at *
  go_loopw [6] (fun i wr => ∃ k : Nat, i = .int .i64 (k : Int) ∧ k ≤ n ∧ Blk wr g (bC (List.replicate k 120 ++ List.replicate (n - k) 0)) 5 ∧ Below h w wr ∧ h ≤ wr.heap.size) (fun i _ => n - vi i)
  case atStart => exact ⟨0, rfl, by omega, by simpa using K0, B1, S1⟩
  case round =>
    clear K0 B1 S1
    obtain ⟨k, rfl, hk, K, B, S⟩ := hrel
    by_cases hlt : k < n
    · have c0 := K.cell (i := k) (v := .int .u8 0) (by unfold bC; rw [List.getElem?_map, List.getElem?_append_right (by simp), List.getElem?_replicate]; simp; omega)
      have f0 := K.frozen k
      have HK := hide K
      clear K
      go_wp2
      go_roundw
      case rel =>
        refine ⟨k + 1, by go_num, by omega, ?_, B.trans (((Keep.refl [g] _).setCell (.inl (by simp)) _).below (fun x hx => by simp only [List.mem_singleton] at hx; subst hx; exact Hg.out) S), by rw [nblk_setCell]; exact S⟩
        have := HK.out.set k (.int .u8 120)
        rw [set_xs n k hlt] at this
        exact this
      case measure => simp [vi]; omega
    · have e : n = k := by omega
      subst e
      rw [Nat.sub_self, List.replicate_zero, List.append_nil] at K
      have HK := hide K
      clear K
      cases a1 with
      | false =>
        have hBS : BS wr (some ⟨g, 0, none⟩) n n (edgeB n false) := by
          have := (own_bs (blk_own HK.out g (Nat.le_refl _) n (by simp) (by omega))).1
          simpa [edgeB] using this
        have HB : Hid (BS wr (some ⟨g, 0, none⟩) n n (edgeB n false)) := hBS
        clear hBS
        go_wp2_with fail
        refine (new_l h wr S).mono ?_
        rintro e W2 ⟨rfl, P, BX⟩
        have HB2 := hide (HB.out.later BX)
        replace B := B.trans (BX.mono S)
        replace S : h ≤ W2.heap.size := Nat.le_trans S BX.size
        clear BX HB
        obtain ⟨p, hp⟩ : ∃ p, p = wr.heap.size := ⟨_, rfl⟩
        rw [← hp] at P ⊢
        clear hp
        go_wp2_with fail
        refine (feed_l h W2 p _ _ 0 P S ⟨g, 0, none⟩ n n (edgeB n false) HB2.out (by omega)).mono ?_
        rintro e W3 ⟨v3, rfl, M⟩
        replace B := P.below B S M.keep
        replace S : h ≤ W3.heap.size := Nat.le_trans S M.keep.size
        replace P : PL h W3 p v3 ⟨edgeB n false, false, none⟩ (0 + n) := M.pl
        clear M HB2
        by_cases h20 : 2048 < n
        · go_wp2_with fail
          have Q : Calls Try.prog 10 #[.pointer (some ⟨p, 0, none⟩)] W3 (NxL h W3 p v3 (badC longT) true ⟨[], true, none⟩ (0 + n)) := by
            have Q := next_l h W3 p v3 _ (0 + n) P S (by omega)
            rw [edge_long n false h20] at Q
            exact Q
          refine Q.mono ?_
          clear Q
          rintro e W4 ⟨a4, n4, q4, v4, rfl, R4, M⟩
          replace B := P.below B S M.keep
          replace S : h ≤ W4.heap.size := Nat.le_trans S M.keep.size
          clear M P
          obtain rfl : n4 = 0 := R4.at_.len
          simp only []
          iterate 13 go_step
          refine box_step (badC longT) a4 0 q4 rfl _ _ rfl rfl rfl ?_
          intro Y4 X4 BX
          replace B := B.trans (BX.mono S)
          replace S : h ≤ Y4.heap.size := Nat.le_trans S BX.size
          clear BX R4
          obtain ⟨g0, g1, g2, g3, g4, g5, g6, g7, g8, g9, g10, g11⟩ := CmAt.of X4
          go_wp2_with fail
          refine (is_any Y4 ⟨#[67, 76, 73, 69, 78, 84, 95, 69, 82, 82, 79, 82, 32, 108, 105, 110, 101, 32, 116, 111, 111, 32, 108, 111, 110, 103]⟩ a4 q4).mono ?_
          rintro e Z ⟨rfl, BX⟩
          clear g0 g1 g2 g3 g4 g5 g6 g7 g8 g9 g10 g11 X4
          replace B := B.trans (BX.mono S)
          clear BX S
          go_wp2
          go_ret
          exact ⟨rfl, B⟩
        · go_wp2_with fail
          have Q : Calls Try.prog 10 #[.pointer (some ⟨p, 0, none⟩)] W3 (NxL h W3 p v3 cmZ false ⟨edgeB n false, false, none⟩ (0 + n)) := by
            have Q := next_l h W3 p v3 _ (0 + n) P S (by omega)
            rw [edge_wait n false (by omega) (by omega)] at Q
            exact Q
          refine Q.mono ?_
          clear Q
          rintro e W4 ⟨a4, n4, q4, v4, rfl, R4, M⟩
          replace B := P.below B S M.keep
          replace S : h ≤ W4.heap.size := Nat.le_trans S M.keep.size
          replace P := M.pl
          clear M R4
          simp only []
          iterate 13 go_step
          refine box_step cmZ a4 n4 q4 rfl _ _ rfl rfl rfl ?_
          intro Y4 X4 BX
          replace P := P.later BX
          replace B := B.trans (BX.mono S)
          replace S : h ≤ Y4.heap.size := Nat.le_trans S BX.size
          clear BX X4
          go_wp2_with fail
          have BL := (Below.refl _ _).alloc (Nat.le_refl Y4.heap.size) (.cells (bC [10]).toArray 5)
          refine (feed_l h _ p v4 _ (0 + n) (P.later BL) (by rw [nblk_alloc]; omega) ⟨Y4.heap.size, 0, none⟩ 1 1 [10] (bs_lit Y4 [10] _ (0, 0) (by kernel_rfl) 1 rfl) (by omega)).mono ?_
          rintro e W5 ⟨v5, rfl, M⟩
          replace B := (P.later BL).below (B.trans (BL.mono S)) (by rw [nblk_alloc]; omega) M.keep
          replace S : h ≤ W5.heap.size := Nat.le_trans S (Nat.le_trans (by rw [nblk_alloc]; omega) M.keep.size)
          replace P : PL h W5 p v5 ⟨edgeB n false ++ [10], false, none⟩ (0 + n + 1) := M.pl
          clear M BL
          go_wp2_with fail
          have Q : Calls Try.prog 10 #[.pointer (some ⟨p, 0, none⟩)] W5 (NxL h W5 p v5 errC true ⟨[], false, none⟩ (0 + n + 1)) := by
            have Q := next_l h W5 p v5 _ (0 + n + 1) P S (by omega)
            rw [edge_line n false (by omega) (by omega)] at Q
            exact Q
          refine Q.mono ?_
          clear Q
          rintro e W6 ⟨a6, n6, q6, v6, rfl, R6, M⟩
          replace B := P.below B S M.keep
          replace S : h ≤ W6.heap.size := Nat.le_trans S M.keep.size
          replace P := M.pl
          clear M
          obtain rfl : n6 = 0 := R6.at_.len
          simp only []
          iterate 13 go_step
          refine box_step errC a6 0 q6 rfl _ _ rfl rfl rfl ?_
          intro Y6 X6 BX
          replace P := P.later BX
          replace B := B.trans (BX.mono S)
          replace S : h ≤ Y6.heap.size := Nat.le_trans S BX.size
          clear BX R6
          obtain ⟨g0, g1, g2, g3, g4, g5, g6, g7, g8, g9, g10, g11⟩ := CmAt.of X6
          go_wp2_with fail
          refine (is_any Y6 ⟨#[69, 82, 82, 79, 82]⟩ a6 q6).mono ?_
          rintro e Z ⟨rfl, BX⟩
          clear g0 g1 g2 g3 g4 g5 g6 g7 g8 g9 g10 g11 X6
          replace P := P.later BX
          replace B := B.trans (BX.mono S)
          clear BX S
          go_wp2_with fail
          refine (waits_any Z p v6 _ _ P.at_ (by omega)).mono ?_
          rintro e Z2 ⟨rfl, m, rfl⟩
          have B2 : Below h w (Z.drewN m) := B.trans (below_drewN _ _ _)
          clear B P
          go_wp2
          go_ret
          exact ⟨rfl, B2⟩
      | true =>
        obtain ⟨a', c', w2, hr, hBS, BX⟩ := app_byte wr g (List.replicate n 120) HK.out h Hg.out n (by simp) (by omega) 13 S #[.int .u8 13] (by kernel_rfl)
        have HR := hide hr
        clear hr
        repeat ((fail_if_success (refine Lib.wp_append_run _ _ _ _ _ rfl _ _ rfl rfl _ _ HR.out ?_)); go_step)
        refine Lib.wp_append_run _ _ _ _ _ rfl _ _ rfl rfl _ _ HR.out ?_
        clear HR
        go_wp2_with fail
        have hBS : BS w2 (some a') (n + 1) c' (edgeB n true) := hBS
        replace B := B.trans BX
        replace S : h ≤ w2.heap.size := Nat.le_trans S BX.size
        clear BX
        have HB : Hid (BS w2 (some a') (n + 1) c' (edgeB n true)) := hBS
        clear hBS
        refine (new_l h w2 S).mono ?_
        rintro e W2 ⟨rfl, P, BX⟩
        have HB2 := hide (HB.out.later BX)
        replace B := B.trans (BX.mono S)
        replace S : h ≤ W2.heap.size := Nat.le_trans S BX.size
        clear BX HB
        obtain ⟨p, hp⟩ : ∃ p, p = w2.heap.size := ⟨_, rfl⟩
        rw [← hp] at P ⊢
        clear hp
        go_wp2_with fail
        refine (feed_l h W2 p _ _ 0 P S a' (n + 1) c' (edgeB n true) HB2.out (by omega)).mono ?_
        rintro e W3 ⟨v3, rfl, M⟩
        replace B := P.below B S M.keep
        replace S : h ≤ W3.heap.size := Nat.le_trans S M.keep.size
        replace P : PL h W3 p v3 ⟨edgeB n true, false, none⟩ (0 + (n + 1)) := M.pl
        clear M HB2
        by_cases h20 : 2048 < n
        · go_wp2_with fail
          have Q : Calls Try.prog 10 #[.pointer (some ⟨p, 0, none⟩)] W3 (NxL h W3 p v3 (badC longT) true ⟨[], true, none⟩ (0 + (n + 1))) := by
            have Q := next_l h W3 p v3 _ (0 + (n + 1)) P S (by omega)
            rw [edge_long n true h20] at Q
            exact Q
          refine Q.mono ?_
          clear Q
          rintro e W4 ⟨a4, n4, q4, v4, rfl, R4, M⟩
          replace B := P.below B S M.keep
          replace S : h ≤ W4.heap.size := Nat.le_trans S M.keep.size
          clear M P
          obtain rfl : n4 = 0 := R4.at_.len
          simp only []
          iterate 13 go_step
          refine box_step (badC longT) a4 0 q4 rfl _ _ rfl rfl rfl ?_
          intro Y4 X4 BX
          replace B := B.trans (BX.mono S)
          replace S : h ≤ Y4.heap.size := Nat.le_trans S BX.size
          clear BX R4
          obtain ⟨g0, g1, g2, g3, g4, g5, g6, g7, g8, g9, g10, g11⟩ := CmAt.of X4
          go_wp2_with fail
          refine (is_any Y4 ⟨#[67, 76, 73, 69, 78, 84, 95, 69, 82, 82, 79, 82, 32, 108, 105, 110, 101, 32, 116, 111, 111, 32, 108, 111, 110, 103]⟩ a4 q4).mono ?_
          rintro e Z ⟨rfl, BX⟩
          clear g0 g1 g2 g3 g4 g5 g6 g7 g8 g9 g10 g11 X4
          replace B := B.trans (BX.mono S)
          clear BX S
          go_wp2
          go_ret
          exact ⟨rfl, B⟩
        · go_wp2_with fail
          have Q : Calls Try.prog 10 #[.pointer (some ⟨p, 0, none⟩)] W3 (NxL h W3 p v3 cmZ false ⟨edgeB n true, false, none⟩ (0 + (n + 1))) := by
            have Q := next_l h W3 p v3 _ (0 + (n + 1)) P S (by omega)
            rw [edge_wait n true (by omega) (by omega)] at Q
            exact Q
          refine Q.mono ?_
          clear Q
          rintro e W4 ⟨a4, n4, q4, v4, rfl, R4, M⟩
          replace B := P.below B S M.keep
          replace S : h ≤ W4.heap.size := Nat.le_trans S M.keep.size
          replace P := M.pl
          clear M R4
          simp only []
          iterate 13 go_step
          refine box_step cmZ a4 n4 q4 rfl _ _ rfl rfl rfl ?_
          intro Y4 X4 BX
          replace P := P.later BX
          replace B := B.trans (BX.mono S)
          replace S : h ≤ Y4.heap.size := Nat.le_trans S BX.size
          clear BX X4
          go_wp2_with fail
          have BL := (Below.refl _ _).alloc (Nat.le_refl Y4.heap.size) (.cells (bC [10]).toArray 5)
          refine (feed_l h _ p v4 _ (0 + (n + 1)) (P.later BL) (by rw [nblk_alloc]; omega) ⟨Y4.heap.size, 0, none⟩ 1 1 [10] (bs_lit Y4 [10] _ (0, 0) (by kernel_rfl) 1 rfl) (by omega)).mono ?_
          rintro e W5 ⟨v5, rfl, M⟩
          replace B := (P.later BL).below (B.trans (BL.mono S)) (by rw [nblk_alloc]; omega) M.keep
          replace S : h ≤ W5.heap.size := Nat.le_trans S (Nat.le_trans (by rw [nblk_alloc]; omega) M.keep.size)
          replace P : PL h W5 p v5 ⟨edgeB n true ++ [10], false, none⟩ (0 + (n + 1) + 1) := M.pl
          clear M BL
          go_wp2_with fail
          have Q : Calls Try.prog 10 #[.pointer (some ⟨p, 0, none⟩)] W5 (NxL h W5 p v5 errC true ⟨[], false, none⟩ (0 + (n + 1) + 1)) := by
            have Q := next_l h W5 p v5 _ (0 + (n + 1) + 1) P S (by omega)
            rw [edge_line n true (by omega) (by omega)] at Q
            exact Q
          refine Q.mono ?_
          clear Q
          rintro e W6 ⟨a6, n6, q6, v6, rfl, R6, M⟩
          replace B := P.below B S M.keep
          replace S : h ≤ W6.heap.size := Nat.le_trans S M.keep.size
          replace P := M.pl
          clear M
          obtain rfl : n6 = 0 := R6.at_.len
          simp only []
          iterate 13 go_step
          refine box_step errC a6 0 q6 rfl _ _ rfl rfl rfl ?_
          intro Y6 X6 BX
          replace P := P.later BX
          replace B := B.trans (BX.mono S)
          replace S : h ≤ Y6.heap.size := Nat.le_trans S BX.size
          clear BX R6
          obtain ⟨g0, g1, g2, g3, g4, g5, g6, g7, g8, g9, g10, g11⟩ := CmAt.of X6
          go_wp2_with fail
          refine (is_any Y6 ⟨#[69, 82, 82, 79, 82]⟩ a6 q6).mono ?_
          rintro e Z ⟨rfl, BX⟩
          clear g0 g1 g2 g3 g4 g5 g6 g7 g8 g9 g10 g11 X6
          replace P := P.later BX
          replace B := B.trans (BX.mono S)
          clear BX S
          go_wp2_with fail
          refine (waits_any Z p v6 _ _ P.at_ (by omega)).mono ?_
          rintro e Z2 ⟨rfl, m, rfl⟩
          have B2 : Below h w (Z.drewN m) := B.trans (below_drewN _ _ _)
          clear B P
          go_wp2
          go_ret
          exact ⟨rfl, B2⟩
end Go.Proofs.Ytmfjaehajdephab.parseEdge
