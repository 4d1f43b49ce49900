/- 'awake' answers true and turns nothing that was there. -/
import Derived.Test.YtkjfildnemgbiaaLaw
import Derived.Test.YtkjfildnemgbiaaMa2
set_option linter.unusedVariables false
set_option linter.unusedSimpArgs false
set_option maxRecDepth 8000
namespace Go.Proofs.Ytkjfildnemgbiaa
open Go.RowKit Go.Deep Go.Shelf Math Tab Go.Sort

theorem sortK_perm {l m : List (List UInt8)} (h : l.Perm m) : sortK l = sortK m := Go.mergeSort_of_perm h
theorem sortK_sorted {l : List (List UInt8)} (h : l.Pairwise (fun a b => leB a b = true)) : sortK l = l := List.mergeSort_of_pairwise h
def tA : Tb := (Tb.mk0 1).setT hsh [97] 1
def tB : Tb := tA.setT hsh [98] 2
def tC : Tb := tB.setT hsh [99] 3
def tD : Tb := tC.delT hsh [97]
def tE : Tb := tD.delT hsh [97]
theorem g0 : Tab.Good hsh (Tb.mk0 1) := Good.mk0 1 (by decide) (by decide)
theorem gA : Tab.Good hsh tA := g0.setT _ _
theorem gB : Tab.Good hsh tB := gA.setT _ _
theorem gC : Tab.Good hsh tC := gB.setT _ _
theorem gD : Tab.Good hsh tD := gC.delT _
theorem gE : Tab.Good hsh tE := gD.delT _
theorem nA : (Tb.mk0 1).isNew hsh [97] = true := by rw [g0.isNew_iff, mk0_all]; rfl
theorem fA (k : List UInt8) : fnd k tA.all = if k = [97] then some 1 else none := by
  unfold tA; rw [g0.fnd_setT, mk0_all]; rfl
theorem nB : tA.isNew hsh [98] = true := by rw [gA.isNew_iff, fA]; rfl
theorem fB (k : List UInt8) : fnd k tB.all = if k = [98] then some 2 else if k = [97] then some 1 else none := by
  unfold tB; rw [gA.fnd_setT, fA]
theorem nC : tB.isNew hsh [99] = true := by rw [gB.isNew_iff, fB]; rfl
theorem fC (k : List UInt8) : fnd k tC.all = if k = [99] then some 3 else if k = [98] then some 2 else if k = [97] then some 1 else none := by
  unfold tC; rw [gB.fnd_setT, fB]
theorem lA : tA.all.length = 1 := by unfold tA; rw [g0.len_setT, nA, mk0_all]; rfl
theorem lB : tB.all.length = 2 := by unfold tB; rw [gA.len_setT, nB, lA]; rfl
theorem lC : tC.all.length = 3 := by unfold tC; rw [gB.len_setT, nC, lB]; rfl
theorem sA : tA.nw.length = 1 ∧ tA.od.length = 0 := by
  rcases g0.shape [97] 1 with ⟨h, _⟩ | ⟨_, h1, h2⟩
  · have : (Tb.setT hsh (Tb.mk0 1) [97] 1).all.length = 1 := lA
    rw [this, nA] at h
    simp [grows, Tb.mk0] at h
  · exact ⟨h1, h2⟩
theorem sB : tB.nw.length = 2 ∧ tB.od.length = 1 := by
  rcases gA.shape [98] 2 with ⟨h, h1, h2⟩ | ⟨h, h1, h2⟩
  · rw [sA.1] at h1 h2; exact ⟨h1, h2⟩
  · have : (Tb.setT hsh tA [98] 2).all.length = 2 := lB
    rw [this, nB] at h
    simp [grows, sA] at h
theorem sC : tC.nw.length = 2 ∧ tC.od.length = 0 := by
  rcases gB.shape [99] 3 with ⟨h, h1, h2⟩ | ⟨h, h1, h2⟩
  · have : (Tb.setT hsh tB [99] 3).all.length = 3 := lC
    rw [this, nC] at h
    simp [grows, sB] at h
  · rw [sB.1] at h1; rw [sB.2] at h2; exact ⟨h1, h2⟩
theorem sD : tD.nw.length = 2 ∧ tD.od.length = 0 := by
  have := delT_len (t := tC) (H := hsh) [97]
  rw [sC.1, sC.2] at this
  exact this
theorem sE : tE.nw.length = 2 ∧ tE.od.length = 0 := by
  have := delT_len (t := tD) (H := hsh) [97]
  rw [sD.1, sD.2] at this
  exact this
theorem fD (k : List UInt8) : fnd k tD.all = if k = [97] then none else fnd k tC.all := by unfold tD; exact gC.fnd_delT _ _
theorem lD : tD.all.length = 2 := by
  have := gC.len_delT [97]
  rw [fC, lC] at this
  have e : (Tb.delT hsh tC [97]) = tD := rfl
  rw [e] at this
  simpa using this
theorem lE : tE.all.length = 2 := by
  have := gD.len_delT [97]
  rw [fD, lD] at this
  have e : (Tb.delT hsh tD [97]) = tE := rfl
  rw [e] at this
  simpa using this
theorem pC : tC.all.Perm [([99], 3), ([98], 2), ([97], 1)] := by
  have h1 := g0.all_setT [97] 1
  have h2 := gA.all_setT [98] 2
  have h3 := gB.all_setT [99] 3
  rw [nA, mk0_all] at h1
  rw [nB] at h2
  rw [nC] at h3
  simp only [if_true] at h1 h2 h3
  exact h3.trans ((h2.trans (h1.cons _)).cons _)
theorem pE : tE.all.Perm [([99], 3), ([98], 2)] := by
  have h1 := gC.all_delT [97]
  have h2 := gD.all_delT [97]
  have h3 : tD.all.Perm (outV [97] [([99], 3), ([98], 2), ([97], 1)]) := h1.trans (pC.filter _)
  exact h2.trans (h3.filter _)
theorem kE : sortK (keysOf tE.all) = [[98], [99]] := by
  have h1 : (keysOf tE.all).Perm [[98], [99]] := (keysOf_perm pE).trans (List.Perm.swap ..)
  rw [sortK_perm h1]
  exact sortK_sorted (by simp [leB]; decide)
theorem two_chains (t : Tb) (h1 : t.nw.length = 2) (h2 : t.od.length = 0) : (chK t 0).length + (chK t 1).length = t.all.length := by
  obtain ⟨nw, od⟩ := t
  have e2 : od = [] := List.eq_nil_of_length_eq_zero h2
  subst e2
  match nw, h1 with
  | [a, b], _ => simp [chK, Tb.all, keysOf]
set_option maxHeartbeats 4000000 in
theorem awake_any (w : World) : Calls Try.prog 9 #[] w fun e w' => e = .returned (.bool true) ∧ Below w.heap.size w w' := by
  have cN : Hid (Calls Try.prog 10 #[.int .i64 1] w fun e W' => ∃ f, e = .returned (.tuple #[.pointer (some ⟨f, 0, none⟩), .int .i64 0]) ∧ TL w f (Tb.mk0 1) W') := new_l (Below.refl w.heap.size w) 1 rfl
  go_enter Try.func9, Try.ntmps9
  go_wp2_with fail
  refine cN.out.mono ?_
  rintro e w1 ⟨f, rfl, h1⟩
  have c1 : Hid (Calls Try.prog 15 #[.pointer (some ⟨f, 0, none⟩), .string ⟨#[97]⟩, .int .i64 1] w1 fun e W' => e = .returned (.bool true) ∧ TL w f tA W') := by
    have := set_l h1 [97] (by decide) 1 (by rw [mk0_all]; simp)
    rw [nA] at this
    exact this
  clear cN h1
  go_wp2_with fail
  refine c1.out.mono ?_
  rintro e w2 ⟨rfl, h2⟩
  have c2 : Hid (Calls Try.prog 15 #[.pointer (some ⟨f, 0, none⟩), .string ⟨#[98]⟩, .int .i64 2] w2 fun e W' => e = .returned (.bool true) ∧ TL w f tB W') := by
    have := set_l h2 [98] (by decide) 2 (by rw [lA]; omega)
    rw [nB] at this
    exact this
  clear c1 h2
  go_wp2_with fail
  refine c2.out.mono ?_
  rintro e w3 ⟨rfl, h3⟩
  have c3 : Hid (Calls Try.prog 21 #[.pointer (some ⟨f, 0, none⟩)] w3 fun e W' => e = .returned (.int .i64 2) ∧ W' = w3) := by
    have := buckets_l h3
    rw [sB.1] at this
    exact this
  have c4 : Hid (Calls Try.prog 22 #[.pointer (some ⟨f, 0, none⟩)] w3 fun e W' => e = .returned (.int .i64 1) ∧ W' = w3) := by
    have := left_l h3
    rw [sB.2] at this
    exact this
  have c5 : Hid (Calls Try.prog 15 #[.pointer (some ⟨f, 0, none⟩), .string ⟨#[99]⟩, .int .i64 3] w3 fun e W' => e = .returned (.bool true) ∧ TL w f tC W') := by
    have := set_l h3 [99] (by decide) 3 (by rw [lB]; omega)
    rw [nC] at this
    exact this
  clear c2 h3
  go_wp2_with fail
  refine c3.out.mono ?_
  rintro e wx ⟨rfl, hx⟩
  obtain rfl : w3 = wx := hx.symm
  clear hx c3
  go_wp2_with fail
  refine c4.out.mono ?_
  rintro e wx ⟨rfl, hx⟩
  obtain rfl : w3 = wx := hx.symm
  clear hx c4
  go_wp2_with fail
  refine c5.out.mono ?_
  rintro e w4 ⟨rfl, h4⟩
  have c6 : Hid (Calls Try.prog 22 #[.pointer (some ⟨f, 0, none⟩)] w4 fun e W' => e = .returned (.int .i64 0) ∧ W' = w4) := by
    have := left_l h4
    rw [sC.2] at this
    exact this
  have c7 : Hid (Calls Try.prog 11 #[.pointer (some ⟨f, 0, none⟩), .string ⟨#[98]⟩] w4 fun e W' => e = .returned (.tuple #[.int .i64 2, .bool true]) ∧ TL w f tC W') := by
    have := get_l h4 [98] (by decide)
    rw [fC] at this
    exact this
  clear c5 h4
  go_wp2_with fail
  refine c6.out.mono ?_
  rintro e wx ⟨rfl, hx⟩
  obtain rfl : w4 = wx := hx.symm
  clear hx c6
  go_wp2_with fail
  refine c7.out.mono ?_
  rintro e w5 ⟨rfl, h5⟩
  have c8 : Hid (Calls Try.prog 17 #[.pointer (some ⟨f, 0, none⟩), .string ⟨#[97]⟩] w5 fun e W' => e = .returned (.bool true) ∧ TL w f tD W') := by
    have := delete_l h5 [97] (by decide) (by rw [lC]; omega)
    rw [fC] at this
    exact this
  clear c7 h5
  go_wp2_with fail
  refine c8.out.mono ?_
  rintro e w6 ⟨rfl, h6⟩
  have c9 : Hid (Calls Try.prog 17 #[.pointer (some ⟨f, 0, none⟩), .string ⟨#[97]⟩] w6 fun e W' => e = .returned (.bool false) ∧ TL w f tE W') := by
    have := delete_l h6 [97] (by decide) (by rw [lD]; omega)
    rw [fD] at this
    exact this
  clear c8 h6
  go_wp2_with fail
  refine c9.out.mono ?_
  rintro e w7 ⟨rfl, h7⟩
  have cA : Hid (Calls Try.prog 20 #[.pointer (some ⟨f, 0, none⟩)] w7 fun e W' => e = .returned (.int .i64 2) ∧ W' = w7) := by
    have := len_l h7
    rw [lE] at this
    exact this
  have cB : Hid (Calls Try.prog 13 #[.pointer (some ⟨f, 0, none⟩)] w7 fun e W' => ∃ g cap, e = .returned (.slice (some ⟨g, 0, none⟩) 2 cap) ∧ SR w7.heap.size (.slice (some ⟨g, 0, none⟩) 2 cap) [[98], [99]] W' ∧ TL w f tE W') := by
    have := keys_l h7 (by rw [lE]; omega)
    rw [lE, kE] at this
    exact this
  clear c9 h7
  go_wp2_with fail
  refine cA.out.mono ?_
  rintro e wx ⟨rfl, hx⟩
  obtain rfl : w7 = wx := hx.symm
  clear hx cA
  go_wp2_with fail
  refine cB.out.mono ?_
  rintro e w8 ⟨g, cap, rfl, hS, h8⟩
  have B8 := (Below.refl w8.heap.size w8).alloc (Nat.le_refl _) (.cells #[.string ⟨#[98]⟩, .string ⟨#[99]⟩] 9)
  have h9 := h8.on B8
  have hb := Blk.new w8 [.string ⟨#[98]⟩, .string ⟨#[99]⟩] 9
  have hrd : RdA (w8.alloc (.cells #[.string ⟨#[98]⟩, .string ⟨#[99]⟩] 9)) (some ⟨w8.heap.size, 0, none⟩) [[98], [99]] := fun i x hx => by
    match i, hx with
    | 0, hx => simp at hx; subst hx; exact ⟨_, _, rfl, hb.cell (i := 0) rfl⟩
    | 1, hx => simp at hx; subst hx; exact ⟨_, _, rfl, hb.cell (i := 1) rfl⟩
  have cC : Hid (Calls Try.prog 24 #[.slice (some ⟨g, 0, none⟩) 2 cap, .slice (some ⟨w8.heap.size, 0, none⟩) 2 2] (w8.alloc (.cells #[.string ⟨#[98]⟩, .string ⟨#[99]⟩] 9)) fun e W' => e = .returned (.bool true) ∧ TL w f tE W') := by
    refine (texts_any (some ⟨g, 0, none⟩) (some ⟨w8.heap.size, 0, none⟩) cap 2 [[98], [99]] [[98], [99]] _ (hS.below B8).rd hrd (by decide)).mono ?_
    rintro e W' ⟨rfl, q, rfl⟩
    exact ⟨rfl, h9.drewN q⟩
  clear cB hS h8 B8 h9 hb hrd
  go_wp2_with fail
  refine cC.out.mono ?_
  rintro e w9 ⟨rfl, h9⟩
  have hsum := two_chains tE sE.1 sE.2
  rw [lE] at hsum
  have cD := hide (chain_l h9 0 (by rw [lE]; omega))
  have h2s : ((chK tE 0).length : Int) + ((chK tE 1).length : Int) = 2 := by omega
  have HC1 : Hid (∀ W, TL w f tE W → Calls Try.prog 12 #[.pointer (some ⟨f, 0, none⟩), .int .i64 1] W fun e W' => ∃ va vc, e = .returned (.slice va (chK tE 1).length vc) ∧ TL w f tE W') := fun W hW => by
    refine (chain_l hW 1 (by rw [lE]; omega)).mono ?_
    rintro e W' ⟨va, vc, rfl, _, h⟩
    exact ⟨va, vc, rfl, h⟩
  have n0 : (chK tE 0).length ≤ 2 := by omega
  have n1 : (chK tE 1).length ≤ 2 := by omega
  clear cC h9 hsum
  generalize chK tE 0 = k0 at *
  generalize (chK tE 1).length = m1 at *
  go_wp2_with fail
  refine cD.out.mono ?_
  rintro e wa ⟨va, vc, rfl, _, ha⟩
  have cE := hide (HC1.out wa ha)
  clear cD ha HC1
  generalize k0.length = m0 at *
  go_wp2_with fail
  refine cE.out.mono ?_
  rintro e wb ⟨va1, vc1, rfl, hb⟩
  have B := hide hb.bel
  clear cE hb
  go_wp2
  go_ret
  exact ⟨rfl, B.out⟩
end Go.Proofs.Ytkjfildnemgbiaa
