/- 'awake' answers true and turns nothing that was there. -/
import Derived.Test.YteeanaoglcpaaaaDoorLaw
set_option linter.unusedVariables false
set_option linter.unusedSimpArgs false
set_option maxRecDepth 8000
namespace Go.Proofs.YteeanaoglcpaaaaDoor
open Go.RowKit Go.Deep Go.Shelf Math

theorem take_at {w0 W : World} {f s : Nat} {l : List Pg} (h : Sl w0 f s l W) (cl : Nat) (hcl : cl < 6) {k : Nat} {e' : Int} {l' : List Pg} (h1 : tkC cl l = k) (h2 : tkE cl l = e') (h3 : tkL cl l = l') :
    Calls Tryd.prog 11 #[.pointer (some ⟨f, 0, none⟩), .int .i64 (cl : Int)] W fun e W' => e = .returned (.tuple #[.int .i64 (k : Int), .int .i64 e']) ∧ Sl w0 f s l' W' ∧ Keep [s] W W' := by
  subst h1 h2 h3
  exact take_l h cl hcl
set_option maxHeartbeats 4000000 in
theorem awake_any (w : World) (hT : Tab w) : Calls Tryd.prog 9 #[] w fun e w' => e = .returned (.bool true) ∧ Below w.heap.size w w' := by
  have cN := hide (new_l (Below.refl w.heap.size w) hT 1 (by omega) (by omega))
  clear hT
  go_enter Tryd.func9, Tryd.ntmps9
  go_wp2_with fail
  refine cN.out.mono ?_
  rintro e w1 ⟨f, s, rfl, h1, _, _, _⟩
  have c1 : Hid (Calls Tryd.prog 11 #[.pointer (some ⟨f, 0, none⟩), .int .i64 5] w1 fun e W' => e = .returned (.tuple #[.int .i64 0, .int .i64 0]) ∧ Sl w f s [⟨5, 1⟩] W') := by
    refine (take_at h1 5 (by omega) (k := 0) (e' := 0) (l' := [⟨5, 1⟩]) rfl rfl rfl).mono ?_
    rintro e W ⟨rfl, h, _⟩
    exact ⟨rfl, h⟩
  clear cN h1
  go_wp2_with fail
  refine c1.out.mono ?_
  rintro e w2 ⟨rfl, h2⟩
  have c2 : Hid (Calls Tryd.prog 11 #[.pointer (some ⟨f, 0, none⟩), .int .i64 5] w2 fun e W' => e = .returned (.tuple #[.int .i64 1, .int .i64 0]) ∧ Sl w f s [⟨5, 3⟩] W') := by
    refine (take_at h2 5 (by omega) (k := 1) (e' := 0) (l' := [⟨5, 3⟩]) rfl rfl rfl).mono ?_
    rintro e W ⟨rfl, h, _⟩
    exact ⟨rfl, h⟩
  clear c1 h2
  go_wp2_with fail
  refine c2.out.mono ?_
  rintro e w3 ⟨rfl, h3⟩
  have c3 : Hid (Calls Tryd.prog 11 #[.pointer (some ⟨f, 0, none⟩), .int .i64 0] w3 fun e W' => e = .returned (.tuple #[.int .i64 0, .int .i64 7]) ∧ Sl w f s [⟨5, 3⟩] W') := by
    refine (take_at h3 0 (by omega) (k := 0) (e' := 7) (l' := [⟨5, 3⟩]) rfl rfl rfl).mono ?_
    rintro e W ⟨rfl, h, _⟩
    exact ⟨rfl, h⟩
  clear c2 h3
  go_wp2_with fail
  refine c3.out.mono ?_
  rintro e w4 ⟨rfl, h4⟩
  have c4 : Hid (Calls Tryd.prog 21 #[.pointer (some ⟨f, 0, none⟩), .int .i64 5] w4 fun e W' => e = .returned (.int .i64 2) ∧ Sl w f s [⟨5, 3⟩] W') := by
    refine (used_l h4 5).mono ?_
    rintro e W ⟨rfl, h, _⟩
    exact ⟨rfl, h⟩
  clear c3 h4
  go_wp2_with fail
  refine c4.out.mono ?_
  rintro e w5 ⟨rfl, h5⟩
  have c5 : Hid (Calls Tryd.prog 15 #[.pointer (some ⟨f, 0, none⟩), .int .i64 1] w5 fun e W' => e = .returned (.int .i64 5) ∧ Sl w f s [⟨5, 3⟩] W') := by
    refine (of_l h5 1 (by omega)).mono ?_
    rintro e W ⟨rfl, h, _⟩
    exact ⟨rfl, h⟩
  clear c4 h5
  go_wp2_with fail
  refine c5.out.mono ?_
  rintro e w6 ⟨rfl, h6⟩
  have c6 : Hid (Calls Tryd.prog 12 #[.pointer (some ⟨f, 0, none⟩), .int .i64 0] w6 fun e W' => e = .returned (.int .i64 0) ∧ Sl w f s [⟨5, 2⟩] W') := by
    refine (free_l h6 0 (by omega)).mono ?_
    rintro e W ⟨rfl, h, _⟩
    exact ⟨rfl, h⟩
  clear c5 h6
  go_wp2_with fail
  refine c6.out.mono ?_
  rintro e w7 ⟨rfl, h7⟩
  have c7 : Hid (Calls Tryd.prog 12 #[.pointer (some ⟨f, 0, none⟩), .int .i64 1] w7 fun e W' => e = .returned (.int .i64 0) ∧ Sl w f s [⟨5, 0⟩] W') := by
    refine (free_l h7 1 (by omega)).mono ?_
    rintro e W ⟨rfl, h, _⟩
    exact ⟨rfl, h⟩
  clear c6 h7
  go_wp2_with fail
  refine c7.out.mono ?_
  rintro e w8 ⟨rfl, h8⟩
  have c8 : Hid (Calls Tryd.prog 11 #[.pointer (some ⟨f, 0, none⟩), .int .i64 0] w8 fun e W' => e = .returned (.tuple #[.int .i64 0, .int .i64 0]) ∧ Sl w f s [⟨0, 1⟩] W') := by
    refine (take_at h8 0 (by omega) (k := 0) (e' := 0) (l' := [⟨0, 1⟩]) rfl rfl rfl).mono ?_
    rintro e W ⟨rfl, h, _⟩
    exact ⟨rfl, h⟩
  clear c7 h8
  go_wp2_with fail
  refine c8.out.mono ?_
  rintro e w9 ⟨rfl, h9⟩
  have c9 : Hid (Calls Tryd.prog 13 #[.int .i64 65] w9 fun e W' => e = .returned (.int .i64 1) ∧ W' = w9) := class_any 65 w9
  have cA : Hid (Calls Tryd.prog 14 #[.int .i64 1] w9 fun e W' => e = .returned (.int .i64 128) ∧ W' = w9) := chunk_ok 1 (by omega) w9
  have cB : Hid (Calls Tryd.prog 22 #[.pointer (some ⟨f, 0, none⟩), .int .i64 0] w9 fun e W' => e = .returned (.int .i64 1) ∧ Sl w f s [⟨0, 1⟩] W') := by
    refine (pages_l h9 0 (by omega)).mono ?_
    rintro e W ⟨rfl, h, _⟩
    exact ⟨rfl, h⟩
  clear c8 h9
  go_wp2_with fail
  refine c9.out.mono ?_
  rintro e wx ⟨rfl, hx⟩
  obtain rfl : w9 = wx := hx.symm
  clear hx c9
  go_wp2_with fail
  refine cA.out.mono ?_
  rintro e wx ⟨rfl, hx⟩
  obtain rfl : w9 = wx := hx.symm
  clear hx cA
  go_wp2_with fail
  refine cB.out.mono ?_
  rintro e wa ⟨rfl, ha⟩
  have cC : Hid (Calls Tryd.prog 16 #[.pointer (some ⟨f, 0, none⟩)] wa fun e W' => e = .returned (.int .i64 0) ∧ Sl w f s [⟨0, 1⟩] W') := by
    refine (left_l ha).mono ?_
    rintro e W ⟨rfl, h, _⟩
    exact ⟨rfl, h⟩
  clear cB ha
  go_wp2_with fail
  refine cC.out.mono ?_
  rintro e wb ⟨rfl, hb⟩
  have B := hide hb.bel
  clear cC hb
  go_wp2
  go_ret
  exact ⟨rfl, B.out⟩
end Go.Proofs.YteeanaoglcpaaaaDoor
