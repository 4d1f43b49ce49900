/- The document's own slab in memory: Class of a chunk, Free, Class of a size. -/
import Derived.Test.YteeanaoglcpaaaaDoorRf1
set_option linter.unusedVariables false
set_option linter.unusedSimpArgs false
set_option maxRecDepth 8000
namespace Go.Proofs.YteeanaoglcpaaaaDoor
open Go.RowKit Go.Deep Go.Shelf Math

set_option maxHeartbeats 2000000 in
theorem classR_out (B r a b ca cb : Nat) (l : List Rp) (k : Int) (w : World) (h : RfIn w B r a b ca cb l) (hk8 : -9223372036854775808 ≤ k) (hk9 : k ≤ 9223372036854775807) (hk : k < 0 ∨ (64 * l.length : Nat) ≤ k) :
    Calls Tryd.prog 28 #[.pointer (some ⟨r, 0, none⟩), .int .i64 k] w fun e w' => e = .returned (.int .i64 (-1)) ∧ w' = w := by
  have k0 := h.c0
  have k1 := h.c1
  obtain ⟨n, hn⟩ : ∃ n, n = l.length := ⟨_, rfl⟩
  rw [← hn] at k0 k1 hk
  by_cases h0 : k < 0
  · clear hk h hn
    go_enter Tryd.func28, Tryd.ntmps28
    go_wp2
    go_ret
    exact ⟨rfl, rfl⟩
  · have h1 : 0 ≤ k := by omega
    have h2 : (n : Int) ≤ k / 64 := by omega
    clear hk h h0 hn
    go_enter Tryd.func28, Tryd.ntmps28
    go_wp2
    go_ret
    exact ⟨rfl, rfl⟩
set_option maxHeartbeats 2000000 in
theorem classR_in (B r a b ca cb : Nat) (l : List Rp) (k : Int) (i j : Nat) (x : Rp) (w : World) (h : RfIn w B r a b ca cb l) (h0 : 0 ≤ k) (hk9 : k ≤ 9223372036854775807) (hq : k / 64 = (i : Int)) (hr : k % 64 = (j : Int)) (hx : l[i]? = some x) :
    Calls Tryd.prog 28 #[.pointer (some ⟨r, 0, none⟩), .int .i64 k] w fun e w' => e = .returned (.int .i64 (if x.p.t.testBit j then x.p.c else -1)) ∧ w' = w := by
  have k0 := h.c0
  have k1 := h.c1
  have k2 := h.tkc hx
  have k3 := h.ofc hx
  have hil : i < l.length := (List.getElem?_eq_some_iff.1 hx).1
  have hok := h.ok' hx
  have hcb := h.hcb
  have hca := h.hca
  obtain ⟨n, hn⟩ : ∃ n, n = l.length := ⟨_, rfl⟩
  rw [← hn] at k0 k1 hil hcb hca
  have hil2 : (i : Int) < (n : Int) := by omega
  have hil3 : ¬ (n : Int) ≤ (i : Int) := by omega
  have hj : j < 64 := by omega
  by_cases hc : x.p.c = -1
  · have ht : x.p.t = 0 := by
      rcases hok with ⟨_, h2⟩ | ⟨c, _, h2, _⟩
      · exact h2
      · omega
    rw [ht, if_neg (by simp)]
    unfold rpV at k2
    rw [if_pos hc] at k2
    rw [hc] at k3
    have hj0 : (0 : Int) ≤ (j : Int) := by omega
    clear hc ht hok h hx hn
    go_enter Tryd.func28, Tryd.ntmps28
    go_wp2
    go_ret
    exact ⟨rfl, rfl⟩
  · obtain ⟨c, _, _, _, ht⟩ := Rp.cls hok hc
    have hb := (h.bit x (List.mem_of_getElem? hx) hc).1
    unfold rpV at k2
    rw [if_neg hc] at k2
    have hM6 : x.m ≤ 64 := many_le _
    by_cases hjM : j < x.m
    · have k4 := hb.cell (blV_get hjM)
      obtain ⟨M, hM⟩ : ∃ M, M = x.m := ⟨_, rfl⟩
      rw [← hM] at k2 hjM hM6
      obtain ⟨⟨pc, t⟩, g⟩ := x
      simp only at *
      have hj2 : (j : Int) < (M : Int) := by omega
      have hj3 : ¬ (M : Int) ≤ (j : Int) := by omega
      cases hbt : t.testBit j with
      | true =>
        rw [hbt] at k4
        rw [if_pos rfl]
        clear hc hok h hx hn ht hb hM hbt
        go_enter Tryd.func28, Tryd.ntmps28
        go_wp2
        go_ret
        exact ⟨rfl, rfl⟩
      | false =>
        rw [hbt] at k4
        rw [if_neg (by simp)]
        clear hc hok h hx hn ht hb hM hbt
        go_enter Tryd.func28, Tryd.ntmps28
        go_wp2
        go_ret
        exact ⟨rfl, rfl⟩
    · have hbt : x.p.t.testBit j = false := by
        cases hq : x.p.t.testBit j with
        | false => rfl
        | true => exact absurd (bit_lt ht hq) hjM
      rw [hbt, if_neg (by simp)]
      obtain ⟨M, hM⟩ : ∃ M, M = x.m := ⟨_, rfl⟩
      rw [← hM] at k2 hjM hM6
      have hj3 : (M : Int) ≤ (j : Int) := by omega
      obtain ⟨⟨pc, t⟩, g⟩ := x
      simp only at *
      clear hc hok h hx hn ht hb hM hbt
      go_enter Tryd.func28, Tryd.ntmps28
      go_wp2
      go_ret
      exact ⟨rfl, rfl⟩
theorem classR (B r a b ca cb : Nat) (l : List Rp) (k : Int) (w : World) (h : RfIn w B r a b ca cb l) (hk8 : -9223372036854775808 ≤ k) (hk9 : k ≤ 9223372036854775807) :
    Calls Tryd.prog 28 #[.pointer (some ⟨r, 0, none⟩), .int .i64 k] w fun e w' => e = .returned (.int .i64 (ofI (pgs l) k)) ∧ w' = w := by
  unfold ofI takI
  by_cases h0 : 0 ≤ k
  · obtain ⟨hq, hr⟩ := split64 k h0
    rw [decide_eq_true h0, Bool.true_and]
    by_cases hl : k.toNat / 64 < l.length
    · have hp := List.getElem?_eq_getElem hl
      obtain ⟨b1, b2, b3⟩ := bitAt_some (n := k.toNat) (pgs_get hp)
      rw [b1, b2]
      exact classR_in B r a b ca cb l k _ _ _ w h h0 hk9 hq hr hp
    · have hn : bitAt (pgs l) k.toNat = false := by unfold bitAt; rw [List.getElem?_eq_none (by rw [pgs_len]; omega)]
      rw [hn]
      exact classR_out B r a b ca cb l k w h hk8 hk9 (.inr (by omega))
  · rw [decide_eq_false h0, Bool.false_and]
    exact classR_out B r a b ca cb l k w h hk8 hk9 (.inl (by omega))
/-- A chunk that is taken lies on a page with its block of bits. -/
theorem taken_at {w : World} {B r a b ca cb : Nat} {l : List Rp} (h : RfIn w B r a b ca cb l) {k : Int} (hk : takI (pgs l) k = true) : ∃ (i j : Nat) (x : Rp), 0 ≤ k ∧ k / 64 = (i : Int) ∧ k % 64 = (j : Int) ∧ i = k.toNat / 64 ∧ j = k.toNat % 64 ∧ l[i]? = some x ∧ x.p.t.testBit j = true ∧ x.p.c ≠ -1 ∧ j < x.m ∧ 0 ≤ x.p.c := by
  obtain ⟨n, rfl, hb⟩ := takI_pos hk
  cases hp : l[n / 64]? with
  | none =>
    unfold bitAt at hb
    rw [List.getElem?_eq_none (by rw [pgs_len]; exact List.getElem?_eq_none_iff.1 hp)] at hb
    cases hb
  | some x =>
    rw [(bitAt_some (pgs_get hp)).1] at hb
    have hok := h.ok' hp
    have hc : x.p.c ≠ -1 := fun e => by
      rcases hok with ⟨_, h2⟩ | ⟨c, _, h2, _⟩
      · rw [h2] at hb; simp at hb
      · omega
    obtain ⟨c, _, hcc, _, ht⟩ := Rp.cls hok hc
    refine ⟨n / 64, n % 64, x, by omega, by omega, by omega, by simp, by simp, hp, hb, hc, bit_lt ht hb, by omega⟩
theorem blV_set {x : Rp} {j : Nat} (hb : x.p.t.testBit j = true) : (blV x).set j (.bool false) = blV ⟨⟨x.p.c, x.p.t - 2 ^ j⟩, x.g⟩ := by
  apply List.ext_getElem?
  intro i
  by_cases hi : i < x.m
  · rw [blV_get (x := ⟨⟨x.p.c, x.p.t - 2 ^ j⟩, x.g⟩) hi]
    show _ = some (Value.bool ((x.p.t - 2 ^ j).testBit i))
    rw [testBit_sub hb]
    by_cases hij : j = i
    · subst hij
      rw [List.getElem?_set_self (by rw [blV_len]; exact hi)]
      simp
    · rw [List.getElem?_set_ne hij, blV_get hi]
      simp [hij]
  · rw [List.getElem?_eq_none (by rw [List.length_set, blV_len]; omega), List.getElem?_eq_none (by rw [blV_len]; exact Nat.le_of_not_lt hi)]
theorem blV_up {x : Rp} {j : Nat} (hb : x.p.t.testBit j = false) : (blV x).set j (.bool true) = blV ⟨⟨x.p.c, x.p.t + 2 ^ j⟩, x.g⟩ := by
  apply List.ext_getElem?
  intro i
  by_cases hi : i < x.m
  · rw [blV_get (x := ⟨⟨x.p.c, x.p.t + 2 ^ j⟩, x.g⟩) hi]
    show _ = some (Value.bool ((x.p.t + 2 ^ j).testBit i))
    rw [testBit_add hb]
    by_cases hij : j = i
    · subst hij
      rw [List.getElem?_set_self (by rw [blV_len]; exact hi)]
      simp
    · rw [List.getElem?_set_ne hij, blV_get hi]
      simp [hij]
  · rw [List.getElem?_eq_none (by rw [List.length_set, blV_len]; omega), List.getElem?_eq_none (by rw [blV_len]; exact Nat.le_of_not_lt hi)]
/-- One bit of a page is turned; the page stays with its class. -/
theorem RfIn.turn {w : World} {B r a b ca cb : Nat} {l : List Rp} (h : RfIn w B r a b ca cb l) {i j : Nat} {x : Rp} (hx : l[i]? = some x) (hc : x.p.c ≠ -1) (v : Bool) (t : Nat) (hL : (blV x).set j (.bool v) = blV ⟨⟨x.p.c, t⟩, x.g⟩) (hok : Pg.Ok ⟨x.p.c, t⟩) :
    RfIn (w.setCell ⟨x.g, j, none⟩ (.bool v)) B r a b ca cb (l.set i ⟨⟨x.p.c, t⟩, x.g⟩) := by
  have hil := (List.getElem?_eq_some_iff.1 hx).1
  have hbx := h.bit x (List.mem_of_getElem? hx) hc
  obtain ⟨pa, qa⟩ := h.of
  obtain ⟨pb, qb⟩ := h.tk
  have eo : ofL (l.set i ⟨⟨x.p.c, t⟩, x.g⟩) = ofL l := by
    unfold ofL
    rw [List.map_set]
    apply List.ext_getElem?
    intro q
    by_cases hq : i = q
    · subst hq; rw [List.getElem?_set_self (by simpa using hil)]; simp [hx]
    · rw [List.getElem?_set_ne hq]
  have et : tkV (l.set i ⟨⟨x.p.c, t⟩, x.g⟩) = tkV l := by
    unfold tkV
    rw [List.map_set]
    apply List.ext_getElem?
    intro q
    by_cases hq : i = q
    · subst hq; rw [List.getElem?_set_self (by simpa using hil)]; simp [hx]; rfl
    · rw [List.getElem?_set_ne hq]
  refine ⟨?_, ⟨pa, ?_⟩, ⟨pb, ?_⟩, ?_, ?_, ?_, by rw [List.length_set]; exact h.hca, by rw [List.length_set]; exact h.hcb, by rw [List.length_set]; exact h.n1, by rw [List.length_set]; exact h.n9, h.lr, h.la, h.lb⟩
  · rw [List.length_set]
    exact h.box.other (a := ⟨x.g, j, none⟩) (h.box.ty_ne (q := x.g) hbx.1 (by decide)) _
  · rw [eo]
    exact qa.other (a := ⟨x.g, j, none⟩) (qa.ty_ne (q := x.g) hbx.1 (by decide)) _
  · rw [et]
    exact qb.other (a := ⟨x.g, j, none⟩) (qb.ty_ne (q := x.g) hbx.1 (by decide)) _
  · intro y hy hyc
    obtain ⟨q, hq⟩ := List.getElem?_of_mem hy
    by_cases hqi : i = q
    · subst hqi
      rw [List.getElem?_set_self hil] at hq
      obtain rfl : _ = y := Option.some.inj hq
      exact ⟨by rw [← hL]; exact hbx.1.set j (.bool v), hbx.2⟩
    · rw [List.getElem?_set_ne hqi] at hq
      have hby := h.bit y (List.mem_of_getElem? hq) hyc
      exact ⟨hby.1.other (a := ⟨x.g, j, none⟩) (h.nd q i y x hq hx hyc hc (fun e => hqi e.symm)) _, hby.2⟩
  · intro q q' y y' hy hy' hyc hyc' hne
    have e : ∀ (q : Nat) (y : Rp), (l.set i ⟨⟨x.p.c, t⟩, x.g⟩)[q]? = some y → ∃ z, l[q]? = some z ∧ z.g = y.g ∧ z.p.c = y.p.c := fun q y hy => by
      by_cases hqi : i = q
      · subst hqi
        rw [List.getElem?_set_self hil] at hy
        obtain rfl : _ = y := Option.some.inj hy
        exact ⟨x, hx, rfl, rfl⟩
      · rw [List.getElem?_set_ne hqi] at hy
        exact ⟨y, hy, rfl, rfl⟩
    obtain ⟨z, hz, g1, c1⟩ := e q y hy
    obtain ⟨z', hz', g2, c2⟩ := e q' y' hy'
    rw [← g1, ← g2]
    exact h.nd q q' z z' hz hz' (by rw [c1]; exact hyc) (by rw [c2]; exact hyc') hne
  · rw [pgs_set]
    exact h.ok.set hok
set_option maxHeartbeats 2000000 in
theorem freeR_no (B r a b ca cb : Nat) (l : List Rp) (k : Int) (w : World) (h : RfIn w B r a b ca cb l) (hk8 : -9223372036854775808 ≤ k) (hk9 : k ≤ 9223372036854775807) (hk : takI (pgs l) k = false) :
    Calls Tryd.prog 19 #[.pointer (some ⟨r, 0, none⟩), .int .i64 k] w fun e w' => e = .returned (.bool false) ∧ w' = w := by
  have cc := hide (classR B r a b ca cb l k w h hk8 hk9)
  unfold ofI at cc
  rw [hk] at cc
  clear h hk
  go_enter Tryd.func19, Tryd.ntmps19
  go_wp2_with fail
  refine cc.out.mono ?_
  rintro e w2 ⟨rfl, h2⟩
  obtain rfl : w = w2 := h2.symm
  clear h2 cc
  go_wp2
  go_ret
  exact ⟨rfl, rfl⟩
set_option maxHeartbeats 2000000 in
theorem freeR_yes (B r a b ca cb : Nat) (l : List Rp) (k : Int) (w : World) (h : RfIn w B r a b ca cb l) (hk8 : -9223372036854775808 ≤ k) (hk9 : k ≤ 9223372036854775807) (hk : takI (pgs l) k = true) :
    Calls Tryd.prog 19 #[.pointer (some ⟨r, 0, none⟩), .int .i64 k] w fun e w' => e = .returned (.bool true) ∧ ∃ l' g, RfIn w' B r a b ca cb l' ∧ pgs l' = clr (pgs l) k.toNat ∧ Keep [g] w w' ∧ B ≤ g ∧ (∃ L, Blk w g L 4) := by
  have cc := hide (classR B r a b ca cb l k w h hk8 hk9)
  unfold ofI at cc
  rw [hk] at cc
  obtain ⟨i, j, x, h0, hq, hr, hi, hj, hx, hb, hc, hjm, hc0⟩ := taken_at h hk
  have e1 : clsAt (pgs l) k.toNat = x.p.c := by rw [(bitAt_some (n := k.toNat) (p := x.p) (by rw [← hi]; exact pgs_get hx)).2.1]
  have e2 : clr (pgs l) k.toNat = (pgs l).set i ⟨x.p.c, x.p.t - 2 ^ j⟩ := by rw [(bitAt_some (n := k.toNat) (p := x.p) (by rw [← hi]; exact pgs_get hx)).2.2, ← hi, ← hj]
  have hbx := h.bit x (List.mem_of_getElem? hx) hc
  have FIN : Hid (RfIn (w.setCell ⟨x.g, j, none⟩ (.bool false)) B r a b ca cb (l.set i ⟨⟨x.p.c, x.p.t - 2 ^ j⟩, x.g⟩) ∧ pgs (l.set i ⟨⟨x.p.c, x.p.t - 2 ^ j⟩, x.g⟩) = clr (pgs l) k.toNat ∧ Keep [x.g] w (w.setCell ⟨x.g, j, none⟩ (.bool false)) ∧ B ≤ x.g ∧ ∃ L, Blk w x.g L 4) :=
    ⟨h.turn hx hc false _ (blV_set hb) ((h.ok' hx).less _ (Nat.sub_le _ _)), by rw [pgs_set, e2], (Keep.refl _ _).setCell (p := ⟨x.g, j, none⟩) (.inl (by simp)) _, hbx.2, _, hbx.1⟩
  simp only [if_true] at cc
  rw [e1] at cc
  have k1 := h.c1
  have k2 := h.tkc hx
  unfold rpV at k2
  rw [if_neg hc] at k2
  have k3 := hbx.1.cell (blV_get hjm)
  have k4 := hbx.1.frozen j
  have hil : i < l.length := (List.getElem?_eq_some_iff.1 hx).1
  have hcb := h.hcb
  obtain ⟨n, hn⟩ : ∃ n, n = l.length := ⟨_, rfl⟩
  rw [← hn] at k1 hil hcb
  have hil2 : (i : Int) < (n : Int) := by omega
  obtain ⟨M, hM⟩ : ∃ M, M = x.m := ⟨_, rfl⟩
  rw [← hM] at k2 hjm
  have hj2 : (j : Int) < (M : Int) := by omega
  have hcn : ¬ x.p.c < 0 := by omega
  have hM6 : M ≤ 64 := by rw [hM]; exact many_le _
  generalize x.p.t.testBit j = bv at *
  generalize x.p.c = pc at *
  generalize x.g = g at *
  clear h hk hx hb hbx e1 e2 hn hM hi hj hc hc0
  go_enter Tryd.func19, Tryd.ntmps19
  go_wp2_with fail
  refine cc.out.mono ?_
  rintro e w2 ⟨rfl, h2⟩
  obtain rfl : w = w2 := h2.symm
  clear h2 cc
  go_wp2
  go_ret
  exact ⟨rfl, _, g, FIN.out⟩
set_option maxHeartbeats 1000000 in
theorem refClass_any (z : Int) (w : World) : Calls Tryd.prog 23 #[.int .i64 z] w fun e w' => e = .returned (.int .i64 (cls z)) ∧ w' = w := by
  go_enter Tryd.func23, Tryd.ntmps23
  go_wp2
  go_loop [3] (fun s3 => ∃ i : Nat, s3 = .int .i64 i ∧ i ≤ 6 ∧ Hid (∀ j, j < i → 0 ≤ z → ((64 * 2 ^ j : Nat) : Int) < z)) (fun s3 => 6 - (intOf s3).toNat)
  case atStart => exact ⟨0, rfl, by omega, fun j hj => absurd hj (by omega)⟩
  case round =>
    obtain ⟨i, rfl, hi, I⟩ := hrel
    by_cases hlt : i < 6
    · have hlt2 : (i : Int) < 6 := by omega
      by_cases h0 : 0 ≤ z
      · rcases (show i = 0 ∨ i = 1 ∨ i = 2 ∨ i = 3 ∨ i = 4 ∨ i = 5 by omega) with rfl | rfl | rfl | rfl | rfl | rfl
        · by_cases hle : z ≤ 64
          · go_wp2
            go_ret
            exact ⟨ret_int (cls_at z 0 (by omega) h0 (fun j hj => I.out j hj h0) (by simpa using hle)).symm, rfl⟩
          · go_wp2
            go_round
            case rel =>
              refine ⟨0 + 1, by go_num, by omega, fun j hj hz => ?_⟩
              rcases Nat.lt_or_ge j 0 with h1 | h1
              · exact I.out j h1 hz
              · obtain rfl : j = 0 := by omega
                simp; omega
            case measure => simp [intOf]
        · by_cases hle : z ≤ 128
          · go_wp2
            go_ret
            exact ⟨ret_int (cls_at z 1 (by omega) h0 (fun j hj => I.out j hj h0) (by simpa using hle)).symm, rfl⟩
          · go_wp2
            go_round
            case rel =>
              refine ⟨1 + 1, by go_num, by omega, fun j hj hz => ?_⟩
              rcases Nat.lt_or_ge j 1 with h1 | h1
              · exact I.out j h1 hz
              · obtain rfl : j = 1 := by omega
                simp; omega
            case measure => simp [intOf]
        · by_cases hle : z ≤ 256
          · go_wp2
            go_ret
            exact ⟨ret_int (cls_at z 2 (by omega) h0 (fun j hj => I.out j hj h0) (by simpa using hle)).symm, rfl⟩
          · go_wp2
            go_round
            case rel =>
              refine ⟨2 + 1, by go_num, by omega, fun j hj hz => ?_⟩
              rcases Nat.lt_or_ge j 2 with h1 | h1
              · exact I.out j h1 hz
              · obtain rfl : j = 2 := by omega
                simp; omega
            case measure => simp [intOf]
        · by_cases hle : z ≤ 512
          · go_wp2
            go_ret
            exact ⟨ret_int (cls_at z 3 (by omega) h0 (fun j hj => I.out j hj h0) (by simpa using hle)).symm, rfl⟩
          · go_wp2
            go_round
            case rel =>
              refine ⟨3 + 1, by go_num, by omega, fun j hj hz => ?_⟩
              rcases Nat.lt_or_ge j 3 with h1 | h1
              · exact I.out j h1 hz
              · obtain rfl : j = 3 := by omega
                simp; omega
            case measure => simp [intOf]
        · by_cases hle : z ≤ 1024
          · go_wp2
            go_ret
            exact ⟨ret_int (cls_at z 4 (by omega) h0 (fun j hj => I.out j hj h0) (by simpa using hle)).symm, rfl⟩
          · go_wp2
            go_round
            case rel =>
              refine ⟨4 + 1, by go_num, by omega, fun j hj hz => ?_⟩
              rcases Nat.lt_or_ge j 4 with h1 | h1
              · exact I.out j h1 hz
              · obtain rfl : j = 4 := by omega
                simp; omega
            case measure => simp [intOf]
        · by_cases hle : z ≤ 2048
          · go_wp2
            go_ret
            exact ⟨ret_int (cls_at z 5 (by omega) h0 (fun j hj => I.out j hj h0) (by simpa using hle)).symm, rfl⟩
          · go_wp2
            go_round
            case rel =>
              refine ⟨5 + 1, by go_num, by omega, fun j hj hz => ?_⟩
              rcases Nat.lt_or_ge j 5 with h1 | h1
              · exact I.out j h1 hz
              · obtain rfl : j = 5 := by omega
                simp; omega
            case measure => simp [intOf]
      · go_wp2
        go_round
        case rel => exact ⟨i + 1, by go_num, by omega, fun j hj hz => absurd hz h0⟩
        case measure => simp [intOf]; omega
    · obtain rfl : i = 6 := by omega
      go_wp2
      go_ret
      refine ⟨ret_int ?_, rfl⟩
      by_cases h0 : 0 ≤ z
      · exact (cls_big z h0 (fun j hj => I.out j hj h0)).symm
      · exact (cls_neg z (by omega)).symm
end Go.Proofs.YteeanaoglcpaaaaDoor
