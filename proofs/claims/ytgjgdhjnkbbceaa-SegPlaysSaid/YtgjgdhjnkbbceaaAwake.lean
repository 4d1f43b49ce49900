/- 'awake' answers true and turns nothing that was there. -/
import Derived.Test.YtgjgdhjnkbbceaaLaw
set_option linter.unusedVariables false
set_option linter.unusedSimpArgs false
set_option maxRecDepth 8000
namespace Go.Proofs.Ytgjgdhjnkbbceaa
open Go.RowKit Go.Deep Sgm

theorem a1 : addS 1 St0 = ⟨[(1, false)], [], []⟩ := by rfl
theorem a2 : addS 2 ⟨[(1, false)], [], []⟩ = ⟨[(2, false)], [], [(1, false)]⟩ := by rfl
theorem a3 : addS 3 ⟨[(2, false)], [], [(1, false)]⟩ = ⟨[(3, false)], [], [(2, false), (1, false)]⟩ := by rfl
theorem a4 : tchS 1 ⟨[(3, false)], [], [(2, false), (1, false)]⟩ = ⟨[(3, false)], [], [(2, false), (1, true)]⟩ := by rfl
theorem a5 : eviS ⟨[(3, false)], [], [(2, false), (1, true)]⟩ = ⟨[(3, false)], [(1, false)], []⟩ := by rfl
theorem a5e : evi ⟨[(3, false)], [], [(2, false), (1, true)]⟩ = some 2 := by rfl
theorem a6 : rmvS 1 ⟨[(3, false)], [(1, false)], []⟩ = ⟨[(3, false)], [], []⟩ := by rfl
theorem a7 : rmvS 1 ⟨[(3, false)], [], []⟩ = ⟨[(3, false)], [], []⟩ := by rfl
/-- A row held against a written one. -/
theorem ints_lit {B : Nat} {W : World} {a : Option Addr} {c : Nat} {xs : List Int} (g : GR intK B (.slice a xs.length c) xs W) (hn : xs.length ≤ 100000) (ys : List Int) :
    Calls Try.prog 21 #[.slice a xs.length c, .slice (some ⟨W.heap.size, 0, none⟩) ys.length ys.length] (W.alloc (.cells (ys.map fun y => Value.int .i64 y).toArray 3)) fun e W' => e = .returned (.bool (decide (xs = ys))) ∧ Below W.heap.size W W' := by
  have b := (Below.refl W.heap.size W).alloc (Nat.le_refl _) (.cells (ys.map fun y => Value.int .i64 y).toArray 3)
  have hb := Blk.new W (ys.map fun y => Value.int .i64 y) 3
  refine (ints_any a (some ⟨W.heap.size, 0, none⟩) c ys.length xs ys _ (g.below b).rd (fun i x hx => ⟨_, _, rfl, ?_⟩) (by omega)).mono ?_
  · rw [Nat.zero_add]
    exact hb.cell (by rw [List.getElem?_map, hx]; rfl)
  · rintro e W' ⟨rfl, q, rfl⟩
    exact ⟨rfl, below_drewN b q⟩
theorem i64_small {i : Int} (h : -1000000 ≤ i ∧ i ≤ 1000000) : I64 i := by unfold I64; omega
set_option maxHeartbeats 4000000 in
theorem awake_any (w : World) : Calls Try.prog 9 #[] w fun e w' => e = .returned (.bool true) ∧ Below w.heap.size w w' := by
  have cN := hide (new_l (Below.refl w.heap.size w))
  go_enter Try.func9, Try.ntmps9
  go_wp2_with fail
  refine cN.out.mono ?_
  rintro e w1 ⟨f, rfl, h1, _⟩
  have c1 := hide (add_l h1 (i := 1) (i64_small (by decide)) (by decide))
  rw [a1, show (!St0.has 1) = true from rfl] at c1
  clear cN h1
  go_wp2_with fail
  refine c1.out.mono ?_
  rintro e w2 ⟨rfl, h2, _⟩
  have c2 := hide (add_l h2 (i := 2) (i64_small (by decide)) (by decide))
  rw [a2, show (!St.has ⟨[(1, false)], [], []⟩ 2) = true from rfl] at c2
  clear c1 h2
  go_wp2_with fail
  refine c2.out.mono ?_
  rintro e w3 ⟨rfl, h3, _⟩
  have c3 := hide (add_l h3 (i := 3) (i64_small (by decide)) (by decide))
  rw [a3, show (!St.has ⟨[(2, false)], [], [(1, false)]⟩ 3) = true from rfl] at c3
  clear c2 h3
  go_wp2_with fail
  refine c3.out.mono ?_
  rintro e w4 ⟨rfl, h4, _⟩
  have c4 := hide (lists_l h4 (by decide))
  simp only [rwV, List.length_cons, List.length_nil] at c4
  obtain ⟨S, hS⟩ : ∃ S, S = w4.heap.size := ⟨_, rfl⟩
  rw [← hS] at c4
  obtain ⟨S1, hS1⟩ : ∃ S1, S1 = S + 1 + (0 + 1) := ⟨_, rfl⟩
  obtain ⟨S2, hS2⟩ : ∃ S2, S2 = S1 + 1 + 0 := ⟨_, rfl⟩
  rw [← hS1, ← hS2] at c4
  have HS := hide hS
  have HS1 := hide hS1
  have HS2 := hide hS2
  clear c3 h4 hS hS1 hS2
  go_wp2_with fail
  refine c4.out.mono ?_
  rintro e w5 ⟨rfl, P5, h5⟩
  have R0 : Hid (GR intK S (.slice (some ⟨S, 0, none⟩) 1 1) [3] w5) := by have := P5.r0; rw [← HS.out] at this; exact this
  have R2 : Hid (GR intK S (.slice (some ⟨S2, 0, none⟩) 2 2) [2, 1] w5) := by
    have := P5.r2
    rw [← HS.out] at this
    rw [HS2.out, HS1.out]
    exact this
  have c5 := hide (touch_l h5 (i := 1) (i64_small (by decide)))
  rw [a4, show St.has ⟨[(3, false)], [], [(2, false), (1, false)]⟩ 1 = true from rfl] at c5
  clear c4 P5 h5 HS HS1 HS2
  go_wp2_with fail
  refine c5.out.mono ?_
  rintro e w6 ⟨rfl, h6, o6⟩
  have R0' := hide (R0.out.off o6 (by decide) (by decide))
  have R2' := hide (R2.out.off o6 (by decide) (by decide))
  have c6 := hide (evict_l h6 (by decide))
  rw [a5, a5e] at c6
  simp only [Option.getD_some, Option.isSome_some] at c6
  clear c5 h6 o6 R0 R2
  go_wp2_with fail
  refine c6.out.mono ?_
  rintro e w7 ⟨rfl, h7, o7⟩
  have R0 := hide (R0'.out.off o7 (by decide) (by decide))
  have R2 := hide (R2'.out.off o7 (by decide) (by decide))
  have c7 := hide (lists_l h7 (by decide))
  simp only [rwV, List.length_cons, List.length_nil] at c7
  obtain ⟨T, hT⟩ : ∃ T, T = w7.heap.size := ⟨_, rfl⟩
  rw [← hT] at c7
  obtain ⟨T1, hT1⟩ : ∃ T1, T1 = T + 1 + (0 + 1) := ⟨_, rfl⟩
  obtain ⟨T2, hT2⟩ : ∃ T2, T2 = T1 + 1 + (0 + 1) := ⟨_, rfl⟩
  rw [← hT1, ← hT2] at c7
  have HT := hide hT
  have HT1 := hide hT1
  clear c6 h7 o7 R0' R2' hT hT1 hT2
  go_wp2_with fail
  refine c7.out.mono ?_
  rintro e w8 ⟨rfl, P8, h8⟩
  have R0' := R0.out.below P8.bel
  have R2' := hide (R2.out.below P8.bel)
  have R1 : Hid (GR intK T (.slice (some ⟨T1, 0, none⟩) 1 1) [1] w8) := by
    have := P8.r1
    rw [← HT.out] at this
    rw [HT1.out]
    exact this
  have c8 : Hid (Calls Try.prog 21 #[.slice (some ⟨S, 0, none⟩) 1 1, .slice (some ⟨w8.heap.size, 0, none⟩) 1 1] (w8.alloc (.cells #[.int .i64 3] 3)) fun e W' => e = .returned (.bool true) ∧ Below w8.heap.size w8 W') := ints_lit (xs := [3]) R0' (by decide) [3]
  have H8 := hide h8
  clear c7 P8 h8 R0 R2 R0' HT HT1
  go_wp2_with fail
  refine c8.out.mono ?_
  rintro e w9 ⟨rfl, b9⟩
  have R2 := R2'.out.below b9
  have R1' := hide (R1.out.below b9)
  have H9 := hide (H8.out.on b9)
  have c9 : Hid (Calls Try.prog 21 #[.slice (some ⟨S2, 0, none⟩) 2 2, .slice (some ⟨w9.heap.size, 0, none⟩) 2 2] (w9.alloc (.cells #[.int .i64 2, .int .i64 1] 3)) fun e W' => e = .returned (.bool true) ∧ Below w9.heap.size w9 W') := ints_lit (xs := [2, 1]) R2 (by decide) [2, 1]
  clear c8 b9 H8 R2' R1 R2
  go_wp2_with fail
  refine c9.out.mono ?_
  rintro e wa ⟨rfl, ba⟩
  have R1 := R1'.out.below ba
  have Ha := hide (H9.out.on ba)
  have ca : Hid (Calls Try.prog 21 #[.slice (some ⟨T1, 0, none⟩) 1 1, .slice (some ⟨wa.heap.size, 0, none⟩) 1 1] (wa.alloc (.cells #[.int .i64 1] 3)) fun e W' => e = .returned (.bool true) ∧ Below wa.heap.size wa W') := ints_lit (xs := [1]) R1 (by decide) [1]
  clear c9 ba H9 R1' R1
  go_wp2_with fail
  refine ca.out.mono ?_
  rintro e wb ⟨rfl, bb⟩
  have hb := Ha.out.on bb
  have cb : Hid (Calls Try.prog 14 #[.pointer (some ⟨f, 0, none⟩)] wb fun e W' => e = .returned (.int .i64 2) ∧ W' = wb) := len_l hb
  have cc := hide (remove_l hb (i := 1) (i64_small (by decide)) (by decide))
  rw [a6, show St.has ⟨[(3, false)], [(1, false)], []⟩ 1 = true from rfl] at cc
  clear ca bb Ha hb
  go_wp2_with fail
  refine cb.out.mono ?_
  rintro e wx ⟨rfl, hx⟩
  obtain rfl : wb = wx := hx.symm
  clear hx cb
  go_wp2_with fail
  refine cc.out.mono ?_
  rintro e wc ⟨rfl, hc, _⟩
  have cd := hide (remove_l hc (i := 1) (i64_small (by decide)) (by decide))
  rw [a7, show St.has ⟨[(3, false)], [], []⟩ 1 = false from rfl] at cd
  clear cc hc
  go_wp2_with fail
  refine cd.out.mono ?_
  rintro e wd ⟨rfl, hd, _⟩
  have HB := hide hd.bel
  clear cd hd
  go_wp2
  go_ret
  exact ⟨rfl, HB.out⟩
end Go.Proofs.Ytgjgdhjnkbbceaa
