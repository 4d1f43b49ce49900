/-
  The greatest version counts; Marks rise by key: proof of the law 'TombMost'. No conditions.
-/
import Derived.WalkKit
import Derived.Below
import Derived.Test.YtghdkicijdfpcaaCut6
import Derived.Test.YtghdkicijdfpcaaSortN
namespace Go.Proofs.Ytghdkicijdfpcaa.tombMost
open Go.RowKit Go.Deep Math
set_option linter.unusedVariables false
set_option linter.unusedSimpArgs false

theorem kM_dom : ∀ (xs : List Mk) (M : Nat → Option Nat) (k : Nat), (kM M xs k).isSome = true → k ∈ xs.map Prod.fst ∨ (M k).isSome = true
  | [], M, k, h => .inr h
  | x :: r, M, k, h => by
    have h' : (kM (fun z => if z = x.1 then some (max ((M x.1).getD 0) x.2) else M z) r k).isSome = true := h
    rcases kM_dom r _ k h' with h1 | h1
    · exact .inl (by simp only [List.map_cons, List.mem_cons]; exact .inr h1)
    · by_cases e : k = x.1
      · exact .inl (by simp [e])
      · simp only [if_neg e] at h1
        exact .inr h1
theorem keys_len {M : Nat → Option Nat} {D : DataW Unit} (hM : MapIs D M) {xs : List Mk} (hx : M = kM (fun _ => none) xs) : ∀ ss : List Nat, ss.Nodup → (∀ x, x ∈ ss ↔ Maps.has D (u64L x) = true) → ss.length ≤ xs.length := by
  intro ss hnd hmem
  have hk : ∀ x ∈ ss, x ∈ xs.map Prod.fst := fun x hxs => by
    have h2 := (hmem x).1 hxs
    obtain ⟨L, hL1, hL2, hL3⟩ := hM.list
    rw [hL1, Maps.has_eq, List.any_eq_true] at h2
    obtain ⟨p, hp, hs⟩ := h2
    obtain ⟨y, hy, rfl⟩ := List.mem_map.1 hp
    have hs' : (u64L y.1).sameKey (u64L x) = true := hs
    rw [same_u64] at hs'
    have e : y.1 = x := by simpa using hs'
    have h3 := (hL3 y).1 hy
    rw [e, hx] at h3
    rcases kM_dom xs (fun _ => none) x (by rw [h3]; rfl) with h4 | h4
    · exact h4
    · simp at h4
  have := nodup_len ss (xs.map Prod.fst) hnd hk
  simpa using this
theorem marks_all {w0 W : World} {d : Nat} {F : List Nat} {j m n : Nat} {J : Jr} (hj : JH w0 W d F j m n J) (hn : n ≤ 1000000) {xs : List Mk} (hx : J.M = kM (fun _ => none) xs) (hl : xs.length < 32) :
    Calls Try.prog 14 #[.pointer (some ⟨j, 0, none⟩)] W (MarksPost J.M W) :=
  marks_by j d m n J hn W hj.jr (fun D0 W' Bm hM hB hc hown => sorted_by 32 (by omega) cal32 Bm m n D0 hn (fun ss h1 h2 => Nat.lt_of_le_of_lt (keys_len hM hx ss h1 h2) hl) W' hB hc hown)
theorem box_below (w : World) (x : Obj) (wb : World) (h : wb = w.alloc x) : Below w.heap.size w wb := by
  subst h
  exact (Below.refl _ w).alloc (Nat.le_refl _) _
theorem box_at (w : World) (k0 v0 : Nat) (wb : World) (h : wb = w.alloc (Obj.cells #[Value.int IntKind.u64 (k0 : Int), Value.int IntKind.u64 (v0 : Int)] 48)) :
    ∀ W, Below wb.heap.size wb W → W.cell? ⟨w.heap.size, 0, none⟩ = some (.int .u64 (k0 : Int)) ∧ W.cell? ⟨w.heap.size, 1, none⟩ = some (.int .u64 (v0 : Int)) := by
  intro W hW
  have s0 : wb.heap.size = w.heap.size + 1 := by rw [h]; simp
  have e0 : W.heap[w.heap.size]? = some (Obj.cells #[Value.int IntKind.u64 (k0 : Int), Value.int IntKind.u64 (v0 : Int)] 48) := by
    rw [hW.block w.heap.size (by omega), h]; exact World.alloc_heap_new _ _
  refine ⟨?_, ?_⟩ <;> simp [World.cell?, e0]
/-- What is known of the journal: its marks. -/
def MsAt (w : World) (d j : Nat) (xs : List Mk) (u c : Nat) (W : World) : Prop := ∃ F S m n J, Law w d F S W ∧ Sure S ∧ S.cs.length = 4 ∧ JH w W d F j m n J ∧ J.is S.losses 0 4 u 1 (kM (fun _ => none) xs) ∧ n ≤ c
theorem MsAt.below {w W W' : World} {d j u c : Nat} {xs : List Mk} (h : MsAt w d j xs u c W) (b : Below W.heap.size W W') : MsAt w d j xs u c W' := by
  obtain ⟨F, S, m, n, J, h1, h2, h3, h4, h5, h6⟩ := h
  exact ⟨F, S, m, n, J, h1.below b, h2, h3, h4.below b, h5, h6⟩
theorem MsAt.bel {w W : World} {d j u c : Nat} {xs : List Mk} (h : MsAt w d j xs u c W) : Below w.heap.size w W := by
  obtain ⟨F, S, m, n, J, h1, _⟩ := h
  exact h1.bel
theorem MsAt.same {w W W' : World} {d j u c : Nat} {xs : List Mk} (h : MsAt w d j xs u c W) (e : W'.heap = W.heap) (eo : W'.os = W.os) (et : W'.tape = W.tape) (ep : W'.output = W.output) : MsAt w d j xs u c W' :=
  h.below ⟨eo, et, ep, by rw [e]; exact Nat.le_refl _, fun k hk => by rw [e]⟩
theorem ms_gone {w W : World} {d j u c : Nat} {xs : List Mk} (h : MsAt w d j xs u c W) (x : Mk) (hx : x ∈ xs) (v : Nat) (hv : v ≤ x.2) (hk : x.1 < 18446744073709551616) : Calls Try.prog 22 #[.pointer (some ⟨j, 0, none⟩), .int .u64 (x.1 : Int), .int .u64 (v : Int)] W fun e W' => e = .returned (.bool true) ∧ W' = W := by
  obtain ⟨F, S, m, n, J, h1, h2, h3, h4, h5, h6⟩ := h
  have := gone_l h4 x.1 v hk
  obtain ⟨y, hy, hle⟩ := kM_mem xs (fun _ => none) x hx
  have hg : J.gone x.1 v = true := by
    rw [h5.gone, hy]
    simp; omega
  rw [hg] at this
  exact this
theorem ms_add {w W : World} {d j u c : Nat} {xs : List Mk} (h : MsAt w d j xs u c W) (hu : u < 4) (hc : c < 900000) {a : Option Addr} {len : Nat} (cap : Nat) {ys : List Mk} (hmk : ∀ F S m n J, Law w d F S W → JH w W d F j m n J → MkIn W j m F a len ys) (h1 : 1 ≤ len) (h23 : len ≤ 23) :
    Calls Try.prog 12 #[.pointer (some ⟨j, 0, none⟩), .slice a len cap] W fun e W' => e = .returned (.int .i64 0) ∧ MsAt w d j (xs ++ ys) (u + 1) (c + 23) W' := by
  obtain ⟨F, S, m, n, J, g1, g2, g3, g4, g5, g6⟩ := h
  refine (add_is g1 g2 g4 g5 hu (by rw [g3]; omega) (by decide) cap (hmk F S m n J g1 g4) h1 h23 (by omega)).mono ?_
  rintro e W' ⟨rfl, F', n', S', J', b1, b2, b3, b4, b5, _, _⟩
  rw [← b2.losses, ← kM_append] at b4
  refine ⟨rfl, F', S', m, n', J', b1, b2.sure, ?_, b3, b4, by omega⟩
  rw [← pl_length, b2.pl, List.length_set, pl_length, g3]
theorem told_len {xs ys : List Mk} {M : Nat → Option Nat} (hM : M = kM (fun _ => none) xs) (h : Told M ys) : ys.length ≤ xs.length := by
  have h1 : (ys.map Prod.fst).Nodup := h.rise.imp (fun hlt => Nat.ne_of_lt hlt)
  have h2 := nodup_len (ys.map Prod.fst) (xs.map Prod.fst) h1 (fun k hk => by
    obtain ⟨y, hy, rfl⟩ := List.mem_map.1 hk
    have := (h.mem y).1 hy
    rw [hM] at this
    rcases kM_dom xs (fun _ => none) y.1 (by rw [this]; rfl) with h3 | h3
    · exact h3
    · simp at h3)
  simpa using h2
theorem told_rise {M : Nat → Option Nat} {ys : List Mk} (h : Told M ys) (t : Nat) {x y : Mk} (hx : ys[t]? = some x) (hy : ys[t + 1]? = some y) : x.1 < y.1 := by
  have h1 := h.rise
  rw [List.pairwise_iff_getElem] at h1
  obtain ⟨hx1, hx2⟩ := List.getElem?_eq_some_iff.1 hx
  obtain ⟨hy1, hy2⟩ := List.getElem?_eq_some_iff.1 hy
  have := h1 t (t + 1) (by simpa using hx1) (by simpa using hy1) (by omega)
  simp only [List.getElem_map, hx2, hy2] at this
  exact this
set_option maxRecDepth 8000 in
set_option maxHeartbeats 4000000 in
theorem walk (a0 : Option Addr) (len0 cap0 : Nat) (z0 : List Mk) (z1 : Mk) (a2 : Int) (w : World) (hw0 : MksAt w a0 len0 z0) (hw1 : Mk.fits z1) (hw2 : (Lit.int .u64 a2).wf = true) :
    Calls Try.prog 7 #[.slice a0 len0 cap0, .agg #[.int .u64 (z1.1 : Int), .int .u64 (z1.2 : Int)], .int .u64 a2] w fun e w' => e = .returned (.bool true) ∧ Below w.heap.size w w' := by
  obtain ⟨k1, v1⟩ := z1
  have HF1 := hide' hw1
  obtain ⟨q2, q2'⟩ := wfu64 hw2
  obtain ⟨ls, hls⟩ : ∃ g : Nat, a2 = (g : Int) := ⟨a2.toNat, by omega⟩
  subst hls
  have HW := hide' hw0
  clear hw0 hw1 hw2 q2 q2'
  by_cases e1 : 22 < len0
  · have e1' : ((22 : Int) < (len0 : Int)) = True := eq_true (by omega)
    clear e1 HW
    go_enter Try.func7, Try.ntmps7
    go_wp2_with fail
    obtain ⟨wb, hwb⟩ : ∃ wb, wb = w.alloc (Obj.cells #[Value.int IntKind.u64 (k1 : Int), Value.int IntKind.u64 (v1 : Int)] 48) := ⟨_, rfl⟩
    rw [← hwb]
    have B0 := hide' (box_below w _ wb hwb)
    clear hwb
    refine (awake_any wb).mono ?_
    rintro r w1 ⟨rfl, h1⟩
    have B1 := hide' h1
    clear h1
    go_wp2
    go_ret
    exact ⟨rfl, B0.out.trans (B1.out.mono B0.out.size)⟩
  have e1' : ((22 : Int) < (len0 : Int)) = False := eq_false (by omega)
  have HL := hide' (Nat.le_of_not_lt e1)
  clear e1
  go_enter Try.func7, Try.ntmps7
  go_wp2_with fail
  obtain ⟨wb, hwb⟩ : ∃ wb, wb = w.alloc (Obj.cells #[Value.int IntKind.u64 (k1 : Int), Value.int IntKind.u64 (v1 : Int)] 48) := ⟨_, rfl⟩
  rw [← hwb]
  have B0 := hide' (box_below w _ wb hwb)
  have X := hide' (box_at w k1 v1 wb hwb)
  have HWB := hide' (HW.out.below B0.out)
  clear hwb
  refine (awake_any wb).mono ?_
  rintro r w1 ⟨rfl, h1⟩
  have B1 := hide' h1
  clear h1
  have cN := hide' (new_law B1.out 4 (by omega) (by omega))
  go_wp2_with fail
  refine cN.out.mono ?_
  rintro e w2 ⟨d, F2, rfl, hl2, _⟩
  have L2 := hide' hl2
  clear hl2 cN e1'
  have hsc : scanP 1 ((Dv.fresh 4).pgs 0 4) = [] := by rw [pgs_pl, fresh_pl]; exact scan_none _ _ rfl
  have cO := hide' (open_is L2.out (Sure.fresh 4) 0 4 1 (by omega) (by show 4 ≤ 4; omega) (by decide) [] hsc)
  clear hsc
  go_wp2_with fail
  refine cO.out.mono ?_
  rintro e w3 ⟨j, m, n, S3, J3, rfl, hl3, hlk, hj3, hi3, hn, _, _, _⟩
  have T3 : MsAt wb d j [] 0 92 w3 := ⟨F2, S3, m, n, J3, hl3, (Sure.fresh 4).like hlk, by rw [hlk.cs]; rfl, hj3, by rw [hlk.losses]; exact hi3, by omega⟩
  have cA : Hid (Calls Try.prog 12 #[.pointer (some ⟨j, 0, none⟩), .slice a0 len0 cap0] w3 fun e W' => e = .returned (.int .i64 0) ∧ ∃ u, u ≤ 1 ∧ MsAt wb d j z0 u 115 W') := by
    by_cases h0 : len0 = 0
    · subst h0
      refine (add_none j a0 cap0 w3).mono ?_
      rintro e W' ⟨rfl, rfl⟩
      have hz : z0 = [] := List.eq_nil_of_length_eq_zero HW.out.len.symm
      obtain ⟨F, S, m, n, J, h1, h2, h3, h4, h5, h6⟩ := T3
      exact ⟨rfl, 0, by omega, F, S, m, n, J, h1, h2, h3, h4, by rw [hz]; exact h5, by omega⟩
    · refine (ms_add T3 (by omega) (by omega) cap0 (ys := z0) (fun F S m n J g1 g2 => ⟨HWB.out.below g1.bel, fun b o e => by
        obtain ⟨x, hx⟩ : ∃ x, z0[0]? = some x := ⟨_, List.getElem?_eq_getElem (by rw [← HW.out.len]; omega)⟩
        obtain ⟨b', o', e', hb', _⟩ := HWB.out.cell 0 x hx
        rw [e] at e'
        cases e'
        exact ⟨fun hf => by have := g1.low b hf; omega, by have := g2.lj; omega, by have := g2.lm; omega⟩⟩) (by omega) (by have := HL.out; omega)).mono ?_
      rintro e W' ⟨rfl, h⟩
      exact ⟨rfl, 1, by omega, h⟩
  clear hl3 hlk hj3 hi3 hn cO L2 T3
  go_wp2_with fail
  refine cA.out.mono ?_
  rintro e w4 ⟨rfl, u, hu, t4⟩
  have T4 := hide' t4
  clear t4 cA
  obtain ⟨x0, x1⟩ := X.out w4 T4.out.bel
  have T4a := hide' (T4.out.below ((Below.refl _ w4).alloc (Nat.le_refl _) (.cells #[.int .u64 (k1 : Int), .int .u64 (v1 : Int)] 48)))
  have cB : Hid (Calls Try.prog 12 #[.pointer (some ⟨j, 0, none⟩), .slice (some ⟨w4.heap.size, 0, none⟩) 1 1] (w4.alloc (.cells #[.int .u64 (k1 : Int), .int .u64 (v1 : Int)] 48)) fun e W' => e = .returned (.int .i64 0) ∧ MsAt wb d j (z0 ++ [(k1, v1)]) (u + 1) 138 W') := by
    obtain ⟨F, S, m, n, J, h1, h2, h3, h4, h5, h6⟩ := T4.out
    have hb := MkIn.built h1 h4 k1 v1 HF1.out.1 HF1.out.2
    have g1 := h1.alloc (.cells #[.int .u64 (k1 : Int), .int .u64 (v1 : Int)] 48)
    have g4 := h4.below ((Below.refl _ w4).alloc (Nat.le_refl _) (.cells #[.int .u64 (k1 : Int), .int .u64 (v1 : Int)] 48))
    refine (add_is g1 h2 g4 h5 (by omega) (by rw [h3]; omega) (by decide) 1 hb (by omega) (by omega) (by omega)).mono ?_
    rintro e W' ⟨rfl, F', n', S', J', b1, b2, b3, b4, b5, _, _⟩
    rw [← b2.losses, ← kM_append] at b4
    refine ⟨rfl, F', S', m, n', J', b1, b2.sure, ?_, b3, b4, by omega⟩
    rw [← pl_length, b2.pl, List.length_set, pl_length, h3]
  clear T4a T4
  go_wp2_with fail
  refine cB.out.mono ?_
  rintro e w5 ⟨rfl, t5⟩
  have T5 := hide' t5
  clear t5 cB x0 x1
  obtain ⟨x0, x1⟩ := X.out w5 T5.out.bel
  have HKF : Hid (k1 < 18446744073709551616) := HF1.out.1
  have cG1 := hide' (ms_gone T5.out (k1, v1) (by simp) v1 (Nat.le_refl _) HKF.out)
  have Y : Hid (∀ W : World, MsAt wb d j (z0 ++ [(k1, v1)]) (u + 1) 138 W → ∀ (t : Nat) (x : Mk), z0[t]? = some x → Calls Try.prog 22 #[.pointer (some ⟨j, 0, none⟩), .int .u64 (x.1 : Int), .int .u64 (x.2 : Int)] W fun e W' => e = .returned (.bool true) ∧ W' = W) := fun W hW t x hx => ms_gone hW x (List.mem_append.2 (.inl (List.mem_of_getElem? hx))) x.2 (Nat.le_refl _) (HW.out.fits x (List.mem_of_getElem? hx)).1
  have hT5 : ∃ W6, W6 = w5 := ⟨_, rfl⟩
  clear hT5
  go_wp2_with fail
  refine cG1.out.mono ?_
  rintro e w6 ⟨rfl, h6⟩
  obtain rfl : w5 = w6 := h6.symm
  clear h6 cG1
  by_cases hle : ls ≤ v1
  · have hle' : ((ls : Int) ≤ (v1 : Int)) = True := eq_true (by omega)
    have cG2 := hide' (ms_gone T5.out (k1, v1) (by simp) ls hle HKF.out)
    clear hle
    go_wp2_with fail
    refine cG2.out.mono ?_
    rintro e w6 ⟨rfl, h6⟩
    obtain rfl : w5 = w6 := h6.symm
    clear h6 cG2 hle' x0 x1
    go_wp2_with fail
    go_loopg [11] len0 (fun kx s11 wr => ∃ t : Nat, s11 = .int .i64 t ∧ t ≤ len0 ∧ len0 - t ≤ kx ∧ Hid (MsAt wb d j (z0 ++ [(k1, v1)]) (u + 1) 138 wr))
    case atStart => exact ⟨0, rfl, Nat.zero_le _, by omega, T5.out⟩
    case round =>
      obtain ⟨t, rfl, htl, hgt, K⟩ := hrel
      have hl22 : len0 ≤ 22 := HL.out
      by_cases hlt : t < len0
      · have hlt3 : (t : Int) < (len0 : Int) := by omega
        obtain ⟨x, hx⟩ : ∃ x, z0[t]? = some x := ⟨_, List.getElem?_eq_getElem (by rw [← HW.out.len]; exact hlt)⟩
        obtain ⟨b', o', e', hb', hc'⟩ := HWB.out.cell t x hx
        have hc2 := hc'.below K.out.bel hb'
        have cG : Hid (∀ W : World, W.heap = wr.heap → W.os = wr.os → W.tape = wr.tape → W.output = wr.output → Calls Try.prog 22 #[.pointer (some ⟨j, 0, none⟩), .int .u64 (x.1 : Int), .int .u64 (x.2 : Int)] W fun e W' => e = .returned (.bool true) ∧ W' = W) := fun W a b c d' => Y.out W (K.out.same a b c d') t x hx
        obtain ⟨kx, vx⟩ := x
        have y0 := hc2.c0
        have y1 := hc2.c1
        simp only at y0 y1 cG
        subst e'
        clear hx hb' hc' hc2
        go_wp2_with fail
        go_quiet (first | (go_at_call 22; refine Calls.quiet_of_same (cG.out _ ?_ ?_ ?_ ?_) <;> rfl))
        go_wp2
        go_roundg (len0 - (t + 1))
        case measure => omega
        case rel => exact ⟨t + 1, by go_num, by omega, by omega, K.out.same rfl rfl rfl rfl⟩
      · obtain rfl : t = len0 := by omega
        have hlt3 : ¬ (t : Int) < (t : Int) := by omega
        obtain ⟨F, S, m, n, J, h1, h2, h3, h4, h5, h6⟩ := K.out
        have cM := hide' (marks_all h4 (by omega) h5.M (by have := HW.out.len; simp; omega))
        have HJM := hide' h5.M
        have B6 := hide' h1.bel
        clear h1 h2 h3 h4 h5 h6 K
        go_wp2_with fail
        refine cM.out.mono ?_
        rintro e w7 ⟨g, cap, ys, rfl, ht, hys, _, b7⟩
        have B7 := hide' (B6.out.trans (b7.mono B6.out.size))
        have YS := hide' hys
        have HT := hide' ht
        clear ht hys b7 cM B6
        obtain ⟨ny, hny⟩ : ∃ ny, ny = ys.length := ⟨_, rfl⟩
        have HNY := hide' hny
        rw [← hny]
        clear hny
        have hny2 : ny ≤ 23 := by
          have h1 := told_len HJM.out HT.out
          have h2 := HW.out.len
          rw [List.length_append, List.length_singleton] at h1
          have h3 := HNY.out
          omega
        go_wp2_with fail
        go_loopg [13] ny (fun kx s13 wr => ∃ i : Nat, s13 = .int .i64 i ∧ 1 ≤ i ∧ (i ≤ ny ∨ i = 1) ∧ ny - i ≤ kx ∧ Hid (MksAt wr (some ⟨g, 0, none⟩) ny ys ∧ Below wb.heap.size wb wr))
        case atStart => exact ⟨1, rfl, Nat.le_refl _, .inr rfl, by omega, by rw [HNY.out]; exact YS.out, B7.out⟩
        case round =>
          obtain ⟨i, rfl, hi1, hi2, hgi, K⟩ := hrel
          by_cases hli : i < ny
          · have hli3 : (i : Int) < (ny : Int) := by omega
            obtain ⟨p, hp⟩ : ∃ p, i = p + 1 := ⟨i - 1, by omega⟩
            obtain ⟨y, hy⟩ : ∃ y, ys[i]? = some y := ⟨_, List.getElem?_eq_getElem (by have := HNY.out; omega)⟩
            obtain ⟨x, hx⟩ : ∃ x, ys[p]? = some x := ⟨_, List.getElem?_eq_getElem (by have := HNY.out; omega)⟩
            have hr := told_rise HT.out p hx (by rw [← hp]; exact hy)
            obtain ⟨b1, o1, e1, _, hc1⟩ := K.out.1.cell i y hy
            cases e1
            obtain ⟨b2, o2, e2, _, hc2⟩ := K.out.1.cell p x hx
            cases e2
            have y0 := hc1.c0
            have y1 := hc2.c0
            obtain ⟨ky, vy⟩ := y
            obtain ⟨kx, vx⟩ := x
            simp only [Nat.zero_add] at y0 y1 hr
            have hr' : ((ky : Int) ≤ (kx : Int)) = False := eq_false (by omega)
            have hsub : (i : Int) - 1 = (p : Int) := by omega
            have hp3 : (p : Int) < (ny : Int) := by omega
            have HP := hide' hp
            clear hx hy hc1 hc2 hr hp
            go_wp2_with fail
            go_quiet (fail)
            go_wp2
            go_roundg (ny - (i + 1))
            case measure => omega
            case rel => exact ⟨i + 1, by go_num, by omega, by omega, by omega, K.out.1.below ⟨rfl, rfl, rfl, Nat.le_refl _, fun _ _ => rfl⟩, ⟨K.out.2.os, K.out.2.tape, K.out.2.output, K.out.2.size, K.out.2.block⟩⟩
          · have hli3 : ¬ (i : Int) < (ny : Int) := by omega
            go_wp2
            go_ret
            exact ⟨rfl, B0.out.trans (K.out.2.mono B0.out.size)⟩
  · have hle' : ((ls : Int) ≤ (v1 : Int)) = False := eq_false (by omega)
    clear hle
    go_wp2_with fail
    clear hle' x0 x1
    go_loopg [11] len0 (fun kx s11 wr => ∃ t : Nat, s11 = .int .i64 t ∧ t ≤ len0 ∧ len0 - t ≤ kx ∧ Hid (MsAt wb d j (z0 ++ [(k1, v1)]) (u + 1) 138 wr))
    case atStart => exact ⟨0, rfl, Nat.zero_le _, by omega, T5.out⟩
    case round =>
      obtain ⟨t, rfl, htl, hgt, K⟩ := hrel
      have hl22 : len0 ≤ 22 := HL.out
      by_cases hlt : t < len0
      · have hlt3 : (t : Int) < (len0 : Int) := by omega
        obtain ⟨x, hx⟩ : ∃ x, z0[t]? = some x := ⟨_, List.getElem?_eq_getElem (by rw [← HW.out.len]; exact hlt)⟩
        obtain ⟨b', o', e', hb', hc'⟩ := HWB.out.cell t x hx
        have hc2 := hc'.below K.out.bel hb'
        have cG : Hid (∀ W : World, W.heap = wr.heap → W.os = wr.os → W.tape = wr.tape → W.output = wr.output → Calls Try.prog 22 #[.pointer (some ⟨j, 0, none⟩), .int .u64 (x.1 : Int), .int .u64 (x.2 : Int)] W fun e W' => e = .returned (.bool true) ∧ W' = W) := fun W a b c d' => Y.out W (K.out.same a b c d') t x hx
        obtain ⟨kx, vx⟩ := x
        have y0 := hc2.c0
        have y1 := hc2.c1
        simp only at y0 y1 cG
        subst e'
        clear hx hb' hc' hc2
        go_wp2_with fail
        go_quiet (first | (go_at_call 22; refine Calls.quiet_of_same (cG.out _ ?_ ?_ ?_ ?_) <;> rfl))
        go_wp2
        go_roundg (len0 - (t + 1))
        case measure => omega
        case rel => exact ⟨t + 1, by go_num, by omega, by omega, K.out.same rfl rfl rfl rfl⟩
      · obtain rfl : t = len0 := by omega
        have hlt3 : ¬ (t : Int) < (t : Int) := by omega
        obtain ⟨F, S, m, n, J, h1, h2, h3, h4, h5, h6⟩ := K.out
        have cM := hide' (marks_all h4 (by omega) h5.M (by have := HW.out.len; simp; omega))
        have HJM := hide' h5.M
        have B6 := hide' h1.bel
        clear h1 h2 h3 h4 h5 h6 K
        go_wp2_with fail
        refine cM.out.mono ?_
        rintro e w7 ⟨g, cap, ys, rfl, ht, hys, _, b7⟩
        have B7 := hide' (B6.out.trans (b7.mono B6.out.size))
        have YS := hide' hys
        have HT := hide' ht
        clear ht hys b7 cM B6
        obtain ⟨ny, hny⟩ : ∃ ny, ny = ys.length := ⟨_, rfl⟩
        have HNY := hide' hny
        rw [← hny]
        clear hny
        have hny2 : ny ≤ 23 := by
          have h1 := told_len HJM.out HT.out
          have h2 := HW.out.len
          rw [List.length_append, List.length_singleton] at h1
          have h3 := HNY.out
          omega
        go_wp2_with fail
        go_loopg [13] ny (fun kx s13 wr => ∃ i : Nat, s13 = .int .i64 i ∧ 1 ≤ i ∧ (i ≤ ny ∨ i = 1) ∧ ny - i ≤ kx ∧ Hid (MksAt wr (some ⟨g, 0, none⟩) ny ys ∧ Below wb.heap.size wb wr))
        case atStart => exact ⟨1, rfl, Nat.le_refl _, .inr rfl, by omega, by rw [HNY.out]; exact YS.out, B7.out⟩
        case round =>
          obtain ⟨i, rfl, hi1, hi2, hgi, K⟩ := hrel
          by_cases hli : i < ny
          · have hli3 : (i : Int) < (ny : Int) := by omega
            obtain ⟨p, hp⟩ : ∃ p, i = p + 1 := ⟨i - 1, by omega⟩
            obtain ⟨y, hy⟩ : ∃ y, ys[i]? = some y := ⟨_, List.getElem?_eq_getElem (by have := HNY.out; omega)⟩
            obtain ⟨x, hx⟩ : ∃ x, ys[p]? = some x := ⟨_, List.getElem?_eq_getElem (by have := HNY.out; omega)⟩
            have hr := told_rise HT.out p hx (by rw [← hp]; exact hy)
            obtain ⟨b1, o1, e1, _, hc1⟩ := K.out.1.cell i y hy
            cases e1
            obtain ⟨b2, o2, e2, _, hc2⟩ := K.out.1.cell p x hx
            cases e2
            have y0 := hc1.c0
            have y1 := hc2.c0
            obtain ⟨ky, vy⟩ := y
            obtain ⟨kx, vx⟩ := x
            simp only [Nat.zero_add] at y0 y1 hr
            have hr' : ((ky : Int) ≤ (kx : Int)) = False := eq_false (by omega)
            have hsub : (i : Int) - 1 = (p : Int) := by omega
            have hp3 : (p : Int) < (ny : Int) := by omega
            have HP := hide' hp
            clear hx hy hc1 hc2 hr hp
            go_wp2_with fail
            go_quiet (fail)
            go_wp2
            go_roundg (ny - (i + 1))
            case measure => omega
            case rel => exact ⟨i + 1, by go_num, by omega, by omega, by omega, K.out.1.below ⟨rfl, rfl, rfl, Nat.le_refl _, fun _ _ => rfl⟩, ⟨K.out.2.os, K.out.2.tape, K.out.2.output, K.out.2.size, K.out.2.block⟩⟩
          · have hli3 : ¬ (i : Int) < (ny : Int) := by omega
            go_wp2
            go_ret
            exact ⟨rfl, B0.out.trans (K.out.2.mono B0.out.size)⟩
end Go.Proofs.Ytghdkicijdfpcaa.tombMost
