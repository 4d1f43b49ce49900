/-
  A journal whose device was started anew is done: it adds no more, and what it added stays: proof of the law 'TombDone'. No conditions.
-/
import Derived.WalkKit
import Derived.Below
import Derived.Test.YtghdkicijdfpcabCut6
namespace Go.Proofs.Ytghdkicijdfpcab.tombDone
open Go.RowKit Go.Deep Math
set_option linter.unusedVariables false
set_option linter.unusedSimpArgs false

theorem settle_same : ∀ (A : List Cl) (ps : List UInt8), (∀ c ∈ A, c.last = none) → settle A ps = A := by
  intro A ps h
  have := settle_clean A [] ps h
  rw [List.append_nil] at this
  rw [this]
  show A ++ [] = A
  simp
theorem boxes_below (w : World) (x y : Obj) (wb : World) (h : wb = (w.alloc x).alloc y) : Below w.heap.size w wb := by
  subst h
  exact ((Below.refl _ w).alloc (Nat.le_refl _) _).alloc (by show w.heap.size ≤ (w.heap.push x).size; rw [Array.size_push]; omega) _
theorem boxes_at (w : World) (k0 v0 k1 v1 : Nat) (wb : World) (h : wb = (w.alloc (Obj.cells #[Value.int IntKind.u64 (k0 : Int), Value.int IntKind.u64 (v0 : Int)] 40)).alloc (Obj.cells #[Value.int IntKind.u64 (k1 : Int), Value.int IntKind.u64 (v1 : Int)] 40)) :
    ∀ W, Below wb.heap.size wb W → (W.cell? ⟨w.heap.size, 0, none⟩ = some (.int .u64 (k0 : Int)) ∧ W.cell? ⟨w.heap.size, 1, none⟩ = some (.int .u64 (v0 : Int))) ∧ (W.cell? ⟨w.heap.size + 1, 0, none⟩ = some (.int .u64 (k1 : Int)) ∧ W.cell? ⟨w.heap.size + 1, 1, none⟩ = some (.int .u64 (v1 : Int))) := by
  intro W hW
  have eh : wb.heap = (w.heap.push (Obj.cells #[Value.int IntKind.u64 (k0 : Int), Value.int IntKind.u64 (v0 : Int)] 40)).push (Obj.cells #[Value.int IntKind.u64 (k1 : Int), Value.int IntKind.u64 (v1 : Int)] 40) := by rw [h]; rfl
  have s0 : wb.heap.size = w.heap.size + 2 := by rw [eh]; simp
  have e0 : W.heap[w.heap.size]? = some (Obj.cells #[Value.int IntKind.u64 (k0 : Int), Value.int IntKind.u64 (v0 : Int)] 40) := by
    rw [hW.block w.heap.size (by omega), eh]; simp [Array.getElem?_push]
  have e1 : W.heap[w.heap.size + 1]? = some (Obj.cells #[Value.int IntKind.u64 (k1 : Int), Value.int IntKind.u64 (v1 : Int)] 40) := by
    rw [hW.block (w.heap.size + 1) (by omega), h]
    have := World.alloc_heap_new (w.alloc (Obj.cells #[Value.int IntKind.u64 (k0 : Int), Value.int IntKind.u64 (v0 : Int)] 40)) (Obj.cells #[Value.int IntKind.u64 (k1 : Int), Value.int IntKind.u64 (v1 : Int)] 40)
    rwa [World.size_alloc] at this
  refine ⟨⟨?_, ?_⟩, ?_, ?_⟩ <;> simp [World.cell?, e0, e1]
set_option maxRecDepth 8000 in
set_option maxHeartbeats 4000000 in
theorem walk (z0 : Mk) (z1 : Mk) (w : World) (hw0 : Mk.fits z0) (hw1 : Mk.fits z1) :
    Calls Try.prog 4 #[.agg #[.int .u64 (z0.1 : Int), .int .u64 (z0.2 : Int)], .agg #[.int .u64 (z1.1 : Int), .int .u64 (z1.2 : Int)]] w fun e w' => e = .returned (.bool true) ∧ Below w.heap.size w w' := by
  obtain ⟨k0, v0⟩ := z0
  obtain ⟨k1, v1⟩ := z1
  have HF0 := hide' hw0
  have HF1 := hide' hw1
  clear hw0 hw1
  go_enter Try.func4, Try.ntmps4
  go_wp2_with fail
  obtain ⟨wb, hwb⟩ : ∃ wb, wb = (w.alloc (Obj.cells #[Value.int IntKind.u64 (k0 : Int), Value.int IntKind.u64 (v0 : Int)] 40)).alloc (Obj.cells #[Value.int IntKind.u64 (k1 : Int), Value.int IntKind.u64 (v1 : Int)] 40) := ⟨_, rfl⟩
  rw [← hwb]
  have B0 := hide' (boxes_below w _ _ wb hwb)
  have X := hide' (boxes_at w k0 v0 k1 v1 wb hwb)
  clear hwb
  refine (awake_any wb).mono ?_
  rintro r w1 ⟨rfl, h1⟩
  have B1 := hide' h1
  clear h1
  have cN := hide' (new_law B1.out 5 (by omega) (by omega))
  go_wp2_with fail
  refine cN.out.mono ?_
  rintro e w2 ⟨d, F2, rfl, hl2, _⟩
  have L2 := hide' hl2
  clear hl2 cN
  have hsc : scanP 5 ((Dv.fresh 5).pgs 1 4) = [] := by rw [pgs_pl, fresh_pl]; exact scan_none _ _ rfl
  have cO := hide' (open_is L2.out (Sure.fresh 5) 1 4 5 (by omega) (by show 5 ≤ 5; omega) (by decide) [] hsc)
  clear hsc
  go_wp2_with fail
  refine cO.out.mono ?_
  rintro e w3 ⟨j, m, n, S3, J3, rfl, hl3, hlk, hj3, hi3, hn, _, _, _⟩
  have hi3' := hi3
  rw [← hlk.losses] at hi3'
  have hlen : S3.cs.length = 5 := by rw [hlk.cs]; rfl
  have LA := hide' (hl3.alloc (.cells #[.int .u64 (k0 : Int), .int .u64 (v0 : Int)] 40))
  have JA := hide' (hj3.below ((Below.refl _ w3).alloc (Nat.le_refl _) (.cells #[.int .u64 (k0 : Int), .int .u64 (v0 : Int)] 40)))
  have cA := hide' (add_is LA.out ((Sure.fresh 5).like hlk) JA.out hi3' (by show 0 < 4; omega) (by rw [hlen]; omega) (by decide) 1 (MkIn.built hl3 hj3 k0 v0 HF0.out.1 HF0.out.2) (by omega) (by omega) (by omega))
  have P3 : Hid (S3.pl = List.replicate 5 Pg.blank) := by show _ = _; rw [like_pl hlk, fresh_pl]
  have Z3 : Hid (S3.losses = 0) := by show _ = _; rw [hlk.losses]; rfl
  have hn3 : n ≤ 92 := by omega
  obtain ⟨⟨x0, x1⟩, _⟩ := X.out w3 hl3.bel
  clear hl3 hlk hj3 hi3 hn cO L2 hi3' hlen LA JA
  go_wp2_with fail
  refine cA.out.mono ?_
  rintro e w4 ⟨rfl, F4, n4, S4, J4, y1, y2, y3, y4, y5, _, _⟩
  have hcs : S4.on.cs = S4.cs := settle_same _ _ y2.clean
  have SU4 : Hid (Sure S4.on) := ⟨rfl, rfl⟩
  have P4 : Hid (S4.on.pl = (List.replicate 5 Pg.blank).set 1 (.whole (pgOf 5 [(k0, v0)]))) := by
    show _ = _
    have e : S4.on.pl = S4.pl := by unfold Dv.pl; rw [hcs]
    rw [e, y2.pl, P3.out]
    rfl
  have N4 : Hid (S4.on.cs.length = 5) := by show _ = _; rw [← pl_length, P4.out]; simp
  have Z4 : Hid (S4.on.losses = 1) := by
    show wrap64 (S4.losses + 1) = 1
    rw [y2.losses, Z3.out]; exact wrap1
  have HI4 := hide' y4
  rw [Z3.out] at HI4
  have cOn := hide' (on_law y1)
  have J4h := hide' y3
  have hn4 : n4 ≤ 93 := by omega
  clear x0 x1 y1 y2 y3 y4 y5 hcs cA P3 Z3 hn3
  go_wp2_with fail
  refine cOn.out.mono ?_
  rintro e w5 ⟨rfl, F5, hl5, m5⟩
  have hj5 : JH wb w5 d F5 j m n4 J4 := J4h.out.move m5.keep J4h.out.nj J4h.out.nm m5.foot
  have LB := hide' (hl5.alloc (.cells #[.int .u64 (k1 : Int), .int .u64 (v1 : Int)] 40))
  have JB := hide' (hj5.below ((Below.refl _ w5).alloc (Nat.le_refl _) (.cells #[.int .u64 (k1 : Int), .int .u64 (v1 : Int)] 40)))
  have cB := hide' (add_idle LB.out JB.out (add_done j d m n4 F5 J4 S4.on (some ⟨w5.heap.size, 0, none⟩) 1 1 (by omega) (by omega) (by rw [Z4.out, HI4.out.losses]; decide) _ (JB.out.jd LB.out)))
  obtain ⟨_, x0, x1⟩ := X.out w5 hl5.bel
  clear hl5 m5 hj5 cOn J4h LB JB
  go_wp2_with fail
  refine cB.out.mono ?_
  rintro e w6 ⟨rfl, F6, n6, l6, j6, nn6, _, _⟩
  have hsc : scanP 5 (S4.on.pgs 1 4) = [[(k0, v0)]] := by
    rw [pgs_pl, P4.out]
    show scanP 5 (Pg.whole (pgOf 5 [(k0, v0)]) :: List.replicate 3 Pg.blank) = _
    have := scan_append (g := 5) [Pg.whole (pgOf 5 [(k0, v0)])] (List.replicate 3 Pg.blank) [[(k0, v0)]] (by
      simp only [List.map_cons, List.map_nil]
      rw [tk_page 5 [(k0, v0)] (by decide) (by simp) (fun x hx => by simp at hx; subst hx; exact HF0.out)])
    rw [List.singleton_append, scan_blank] at this
    exact this
  have cO := hide' (open_is l6 SU4.out 1 4 5 (by omega) (by rw [N4.out]; omega) (by decide) _ hsc)
  have J6h := hide' j6
  have hn6 : n6 ≤ 93 := by omega
  clear x0 x1 l6 j6 nn6 hsc cB
  go_wp2_with fail
  refine cO.out.mono ?_
  rintro e w7 ⟨ko, mo, no, S7, J7, rfl, hl7, _, hk7, hi7, hno, _, _, kp7⟩
  have L7 := hide' hl7
  have K7 := hide' hk7
  have HK7 := hide' hi7
  have J7h := hide' (J6h.out.move kp7 J6h.out.nj J6h.out.nm (fun x hx => .inl hx))
  have hno7 : no ≤ 92 := by omega
  obtain ⟨⟨x0, x1⟩, _⟩ := X.out w7 hl7.bel
  clear hl7 hk7 hi7 hno kp7 cO J6h
  have hgo : J4.gone k0 v0 = true := gone_mem (xs := [(k0, v0)]) (by exact HI4.out) (x := (k0, v0)) (by simp)
  have cG := hide' (gone_l J7h.out k0 v0 HF0.out.1)
  rw [hgo] at cG
  go_wp2_with fail
  refine cG.out.mono ?_
  rintro e w8 ⟨rfl, h8⟩
  obtain rfl : w7 = w8 := h8.symm
  clear h8 cG hgo
  have cR := hide' (room_is K7.out HK7.out (by simp) (by omega))
  go_wp2_with fail
  refine cR.out.mono ?_
  rintro e w8 ⟨rfl, b8⟩
  have L8 := hide' (L7.out.below b8)
  have K8 := hide' (K7.out.below b8)
  clear b8 cR L7 K7 J7h
  have cM := hide' (marks_one (k := k0) K8.out (by omega) (fun y hy => by rw [HK7.out.M] at hy; simp [kM] at hy; exact hy))
  go_wp2_with fail
  refine cM.out.mono ?_
  rintro e w9 ⟨g, cap, ys, rfl, ht, _, _, b9⟩
  have ey : ys = [(k0, v0)] := told_one ht (fun y => by rw [HK7.out.M]; show kM _ [(k0, v0)] y = _; rw [kM_one])
  subst ey
  have B9 := hide' (L8.out.below b9).bel
  clear ht b9 cM
  have cE := hide' (add_none j none 0 w9)
  go_wp2_with fail
  refine cE.out.mono ?_
  rintro e w10 ⟨rfl, h10⟩
  obtain rfl : w9 = w10 := h10.symm
  clear h10 cE
  go_wp2
  go_ret
  exact ⟨rfl, B0.out.trans (B9.out.mono B0.out.size)⟩
end Go.Proofs.Ytghdkicijdfpcab.tombDone
