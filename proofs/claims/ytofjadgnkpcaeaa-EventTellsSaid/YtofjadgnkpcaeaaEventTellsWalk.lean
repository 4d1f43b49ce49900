/-
  EventTells holds for every input.
-/
import Derived.WalkKit
import Derived.Below
import Derived.Test.YtofjadgnkpcaeaaSame
import Derived.Test.YtofjadgnkpcaeaaCmd
import Derived.Test.YtofjadgnkpcaeaaCmO
import Derived.Deep.RegionHeld3
namespace Go.Proofs.Ytofjadgnkpcaeaa.eventTells
open Go.RowKit Go.Deep Go.Shelf
set_option linter.unusedVariables false
set_option linter.unusedSimpArgs false

set_option maxRecDepth 8000 in
set_option maxHeartbeats 40000000 in
theorem walk (z0 : Cm) (a0 : Option Addr) (len0 cap0 : Nat) (w : World) (hw0 : StrsAt w a0 len0 z0.keys ∧ len0 ≤ cap0 ∧ z0.verb.size ≤ 140737488351232 ∧ z0.data.size ≤ 140737488351232) :
    Calls Try.prog 4 #[cmV z0 (.slice a0 len0 cap0)] w fun e w' => e = .returned (.bool true) ∧ Below w.heap.size w w' := by
  obtain ⟨hS, hlc, hvb0, hvd0⟩ := hw0
  have hvb := hide hvb0
  have hvd := hide hvd0
  have K0 := (Below.refl w.heap.size w).alloc (Nat.le_refl _) (.cells #[.string z0.what, .string z0.verb, .slice a0 len0 cap0, .string z0.data, .int .u32 z0.fl, .int .i64 z0.ex, .int .u64 z0.cs, .int .u64 z0.y, .bool z0.wc, .bool z0.wt, .bool z0.dn, .bool z0.q] 31)
  have X0 := hide (Bx.new w #[.string z0.what, .string z0.verb, .slice a0 len0 cap0, .string z0.data, .int .u32 z0.fl, .int .i64 z0.ex, .int .u64 z0.cs, .int .u64 z0.y, .bool z0.wc, .bool z0.wt, .bool z0.dn, .bool z0.q] 31)
  have HS := hide hS
  have S0 := hide (hS.later K0)
  have B0 := hide K0
  clear K0 hS hvb0 hvd0
  go_enter Try.func4, Try.ntmps4
  go_wp2_with fail
  refine (awake_any _).mono ?_
  rintro e w1 ⟨rfl, hj⟩
  have X1 := hide (X0.out.later hj)
  have S1 := hide (S0.out.later hj)
  have BB := hide (B0.out.trans (hj.mono B0.out.size))
  clear hj X0 S0 B0
  have q0 := X1.out.cell 0 _ rfl
  have q2 := X1.out.cell 2 _ rfl
  by_cases c1 : 100 < len0
  · go_wp2
    go_ret
    exact ⟨rfl, BB.out⟩
  have hn' : len0 ≤ 1000 := by omega
  have c1' : ¬ ((100 : Int) < (len0 : Int)) := by omega
  clear c1
  cases g0 : z0.what.toList == [103, 101, 116] with
  | true =>
    have S := S1
    clear S1
    have q0 := X1.out.cell 0 _ rfl
    have q1 := X1.out.cell 1 _ rfl
    have q2 := X1.out.cell 2 _ rfl
    have q3 := X1.out.cell 3 _ rfl
    have q4 := X1.out.cell 4 _ rfl
    have q5 := X1.out.cell 5 _ rfl
    have q6 := X1.out.cell 6 _ rfl
    have q7 := X1.out.cell 7 _ rfl
    have q8 := X1.out.cell 8 _ rfl
    have q9 := X1.out.cell 9 _ rfl
    have q10 := X1.out.cell 10 _ rfl
    have q11 := X1.out.cell 11 _ rfl
    have cB := hide (back_any _ a0 len0 cap0 z0 S.out hn')
    have hN := back_name_eq z0
    have hG := back_good_eq z0
    have hQ := back_quiet_eq z0
    have hK := back_keys_eq z0
    have hv2 := back_sizes z0 hvb.out hvd.out
    clear S
    go_wp2_with fail
    refine cB.out.mono ?_
    generalize backC z0 = x at *
    rintro e w2 ⟨ax, nx, cx, rfl, h2, hnx, b2⟩
    clear cB X1 q0 q1 q2 q3 q4 q5 q6 q7 q8 q9 q10 q11
    have B2 := BB.out.trans (b2.mono BB.out.size)
    clear b2 BB
    have X3 := Bx.new w2 #[.string x.what, .string x.verb, .slice ax nx cx, .string x.data, .int .u32 x.fl, .int .i64 x.ex, .int .u64 x.cs, .int .u64 x.y, .bool x.wc, .bool x.wt, .bool x.dn, .bool x.q] 28
    have k3 := (Below.refl w2.heap.size w2).alloc (Nat.le_refl _) (.cells #[.string x.what, .string x.verb, .slice ax nx cx, .string x.data, .int .u32 x.fl, .int .i64 x.ex, .int .u64 x.cs, .int .u64 x.y, .bool x.wc, .bool x.wt, .bool x.dn, .bool x.q] 28)
    have S3 := h2.later k3
    have B3 := B2.trans (k3.mono B2.size)
    clear h2 k3 B2
    have cC := hide (cmd_any _ ax nx cx x S3 hnx)
    replace hN := hide hN
    replace hG := hide hG
    replace hQ := hide hQ
    replace hK := hide hK
    replace hv2 := hide hv2
    go_wp2_with fail
    refine cC.out.mono ?_
    generalize w2.alloc (.cells #[.string x.what, .string x.verb, .slice ax nx cx, .string x.data, .int .u32 x.fl, .int .i64 x.ex, .int .u64 x.cs, .int .u64 x.y, .bool x.wc, .bool x.wt, .bool x.dn, .bool x.q] 28) = w3 at *
    generalize w2.heap.size = m3 at *
    rintro e w4 ⟨ay, cy, rfl, h4, b4⟩
    clear cC
    have Y4 := Bx.new w4 #[.string x.what, .string x.verb, .slice ay nx cy, .string x.data, .int .u32 x.fl, .int .i64 x.ex, .int .u64 x.cs, .int .u64 x.y, .bool x.wc, .bool x.wt, .bool x.dn, .bool x.q] 31
    have k4 := (Below.refl w4.heap.size w4).alloc (Nat.le_refl _) (.cells #[.string x.what, .string x.verb, .slice ay nx cy, .string x.data, .int .u32 x.fl, .int .i64 x.ex, .int .u64 x.cs, .int .u64 x.y, .bool x.wc, .bool x.wt, .bool x.dn, .bool x.q] 31)
    have X4 := hide ((X3.later b4).later k4)
    have SX := hide ((S3.later b4).later k4)
    have SY := hide (h4.later k4)
    have BB := hide ((B3.trans (b4.mono B3.size)).trans (k4.mono (B3.trans (b4.mono B3.size)).size))
    replace Y4 := hide Y4
    clear X3 S3 B3 b4 k4 h4
    go_wp2_with fail
    generalize w4.alloc (.cells #[.string x.what, .string x.verb, .slice ay nx cy, .string x.data, .int .u32 x.fl, .int .i64 x.ex, .int .u64 x.cs, .int .u64 x.y, .bool x.wc, .bool x.wt, .bool x.dn, .bool x.q] 31) = w5 at *
    generalize w4.heap.size = m4 at *
    have X : Hid (Bx w5.drew m3 #[.string x.what, .string x.verb, .slice ax nx cx, .string x.data, .int .u32 x.fl, .int .i64 x.ex, .int .u64 x.cs, .int .u64 x.y, .bool x.wc, .bool x.wt, .bool x.dn, .bool x.q] 28) := X4
    have Y : Hid (Bx w5.drew m4 #[.string x.what, .string x.verb, .slice ay nx cy, .string x.data, .int .u32 x.fl, .int .i64 x.ex, .int .u64 x.cs, .int .u64 x.y, .bool x.wc, .bool x.wt, .bool x.dn, .bool x.q] 31) := Y4
    replace SX : Hid (StrsAt w5.drew ax nx x.keys) := SX.out.later (Below.refl _ _).drew
    replace SY : Hid (StrsAt w5.drew ay nx x.keys) := SY.out.later (Below.refl _ _).drew
    replace BB := hide BB.out.drew
    clear X4 Y4
    go_region_held3 (fun W => W.cell? ⟨m3, 0, none⟩ = some (.string x.what) ∧ W.cell? ⟨m3, 1, none⟩ = some (.string x.verb) ∧ W.cell? ⟨m3, 2, none⟩ = some (.slice ax nx cx) ∧ W.cell? ⟨m3, 3, none⟩ = some (.string x.data) ∧ W.cell? ⟨m3, 4, none⟩ = some (.int .u32 x.fl) ∧ W.cell? ⟨m3, 5, none⟩ = some (.int .i64 x.ex) ∧ W.cell? ⟨m3, 6, none⟩ = some (.int .u64 x.cs) ∧ W.cell? ⟨m3, 7, none⟩ = some (.int .u64 x.y) ∧ W.cell? ⟨m3, 8, none⟩ = some (.bool x.wc) ∧ W.cell? ⟨m3, 9, none⟩ = some (.bool x.wt) ∧ W.cell? ⟨m3, 10, none⟩ = some (.bool x.dn) ∧ W.cell? ⟨m3, 11, none⟩ = some (.bool x.q) ∧ W.cell? ⟨m4, 0, none⟩ = some (.string x.what) ∧ W.cell? ⟨m4, 1, none⟩ = some (.string x.verb) ∧ W.cell? ⟨m4, 2, none⟩ = some (.slice ay nx cy) ∧ W.cell? ⟨m4, 3, none⟩ = some (.string x.data) ∧ W.cell? ⟨m4, 4, none⟩ = some (.int .u32 x.fl) ∧ W.cell? ⟨m4, 5, none⟩ = some (.int .i64 x.ex) ∧ W.cell? ⟨m4, 6, none⟩ = some (.int .u64 x.cs) ∧ W.cell? ⟨m4, 7, none⟩ = some (.int .u64 x.y) ∧ W.cell? ⟨m4, 8, none⟩ = some (.bool x.wc) ∧ W.cell? ⟨m4, 9, none⟩ = some (.bool x.wt) ∧ W.cell? ⟨m4, 10, none⟩ = some (.bool x.dn) ∧ W.cell? ⟨m4, 11, none⟩ = some (.bool x.q))
      (first | exact lim2 X.out Y.out | go_keep)
      (first
        | (go_at_call 10; refine (good_any _ ax nx cx x SX.out hnx hv2.out.2).mono ?_; rintro e wj ⟨rfl, hj⟩; replace X := hide (X.out.later hj); replace Y := hide (Y.out.later hj); replace SX := hide (SX.out.later hj); replace SY := hide (SY.out.later hj); replace BB := hide (BB.out.trans (hj.mono BB.out.size)); clear hj)
        | (go_at_call 15; refine (rgood_any _ ay nx cy x SY.out hnx hv2.out.2).mono ?_; rw [← hG.out]; rintro e wj ⟨rfl, hj⟩; replace X := hide (X.out.later hj); replace Y := hide (Y.out.later hj); replace SX := hide (SX.out.later hj); replace SY := hide (SY.out.later hj); replace BB := hide (BB.out.trans (hj.mono BB.out.size)); clear hj)
        | (go_at_call 12; refine (quiet_any _ ax nx cx x SX.out hnx).mono ?_; rw [hQ.out]; rintro e wj ⟨rfl, hj⟩; replace X := hide (X.out.later hj); replace Y := hide (Y.out.later hj); replace SX := hide (SX.out.later hj); replace SY := hide (SY.out.later hj); replace BB := hide (BB.out.trans (hj.mono BB.out.size)); clear hj)
        | (go_at_call 9; refine (name_any _ ax nx cx x SX.out hnx hv2.out.1).mono ?_; rintro e wj ⟨rfl, hj⟩; replace X := hide (X.out.later hj); replace Y := hide (Y.out.later hj); replace SX := hide (SX.out.later hj); replace SY := hide (SY.out.later hj); replace BB := hide (BB.out.trans (hj.mono BB.out.size)); clear hj)
        | (go_at_call 16; refine (rname_any _ ay nx cy x SY.out hnx).mono ?_; rw [← hN.out]; rintro e wj ⟨rfl, hj⟩; replace X := hide (X.out.later hj); replace Y := hide (Y.out.later hj); replace SX := hide (SX.out.later hj); replace SY := hide (SY.out.later hj); replace BB := hide (BB.out.trans (hj.mono BB.out.size)); clear hj))

    all_goals (
      have SXl := hide SX.out.len
      have ck := keys_is x x.keys hK.out ax nx cx _ SX.out hnx
      rw [← SXl.out] at ck
      have cK := hide ck
      have hfx := hide SX.out.fits
      have x0 := X.out.cell 0 _ rfl
      have x1 := X.out.cell 1 _ rfl
      have x2 := X.out.cell 2 _ rfl
      have x3 := X.out.cell 3 _ rfl
      have x4 := X.out.cell 4 _ rfl
      have x5 := X.out.cell 5 _ rfl
      have x6 := X.out.cell 6 _ rfl
      have x7 := X.out.cell 7 _ rfl
      have x8 := X.out.cell 8 _ rfl
      have x9 := X.out.cell 9 _ rfl
      have x10 := X.out.cell 10 _ rfl
      have x11 := X.out.cell 11 _ rfl
      clear ck SX
      go_wp2_with fail
      refine cK.out.mono ?_
      rintro e w6 ⟨ak, ck', rfl, ho, hj⟩
      have KS := own_strs ho hfx.out
      have Y6 := hide (Y.out.later hj)
      have S6 := hide (SY.out.later hj)
      have B6 := hide (BB.out.trans (hj.mono BB.out.size))
      have y2 := Y6.out.cell 2 _ rfl
      clear cK ho hj X Y SY BB x0 x1 x2 x3 x4 x5 x6 x7 x8 x9 x10 x11
      have KS := hide KS
      go_wp2
      go_loopw [6] (fun i wr => ∃ k : Nat, i = .int .i64 k ∧ k ≤ nx ∧ Below w6.heap.size w6 wr) (fun i _ => nx - vi i)
      case atStart => exact ⟨0, rfl, by omega, Below.refl _ _⟩
      case round =>
        obtain ⟨k, rfl, hk, hb⟩ := hrel
        have yk := (Y6.out.later hb).cell 2 _ rfl
        by_cases hlt : k < nx
        · obtain ⟨b, o, u, rfl, hu, _, _, hc⟩ := (KS.out.later hb).key k hlt
          obtain ⟨b', o', rfl, _, hc'⟩ := (S6.out.later hb).cell k u hu
          clear hu y2
          go_wp2
          go_region_held3 (fun W => W.cell? ⟨m4, 2, none⟩ = some (.slice (some ⟨b', o', none⟩) nx cy) ∧ W.cell? ⟨b, o + k, none⟩ = some (.string u) ∧ W.cell? ⟨b', o' + k, none⟩ = some (.string u))
            (go_keep)
            (fail)
          all_goals go_wp2
          all_goals go_roundw
          case rel => exact ⟨k + 1, by go_num, by omega, hb.drew⟩
          case measure => simp [vi]; omega
        · have e : nx = k := by omega
          subst e
          go_wp2
          go_ret
          exact ⟨rfl, B6.out.trans (hb.mono B6.out.size)⟩)

  | false =>
    by_cases c2 : 1 < len0
    · have c2' : (1 : Int) < (len0 : Int) := by omega
      have c3' : (1 : Int) ≤ (cap0 : Int) := by omega
      obtain ⟨b, o, u, rfl, _⟩ := HS.out.key 0 (by omega)
      have hp : StrsAt w (some ⟨b, o, none⟩) 1 (z0.keys.take 1) := ⟨by rw [List.length_take, ← HS.out.len]; omega, fun x hx => HS.out.fits x (List.mem_of_mem_take hx), fun i x hx => by
        rw [List.getElem?_take] at hx
        split at hx
        · exact HS.out.cell i x hx
        · cases hx⟩
      have fz := X1.out.frozen 2
      have bb := BB.out
      have BB2 : Hid (Below w.heap.size w (w1.setCell ⟨w.heap.size, 2, none⟩ (.slice (some ⟨b, o, none⟩) 1 cap0))) := Below.setCell bb (Nat.le_refl _) _
      have X2 : Hid (Bx (w1.setCell ⟨w.heap.size, 2, none⟩ (.slice (some ⟨b, o, none⟩) 1 cap0)) w.heap.size #[.string z0.what, .string z0.verb, .slice (some ⟨b, o, none⟩) 1 cap0, .string z0.data, .int .u32 z0.fl, .int .i64 z0.ex, .int .u64 z0.cs, .int .u64 z0.y, .bool z0.wc, .bool z0.wt, .bool z0.dn, .bool z0.q] 31) := X1.out.store 2 _
      have S := hide (hp.later BB2.out)
      clear BB S1 hp bb
      have X1 := X2
      clear X2
      have BB := BB2
      clear BB2
      replace hn' : 1 ≤ 1000 := by omega
      have q0 := X1.out.cell 0 _ rfl
      have q1 := X1.out.cell 1 _ rfl
      have q2 := X1.out.cell 2 _ rfl
      have q3 := X1.out.cell 3 _ rfl
      have q4 := X1.out.cell 4 _ rfl
      have q5 := X1.out.cell 5 _ rfl
      have q6 := X1.out.cell 6 _ rfl
      have q7 := X1.out.cell 7 _ rfl
      have q8 := X1.out.cell 8 _ rfl
      have q9 := X1.out.cell 9 _ rfl
      have q10 := X1.out.cell 10 _ rfl
      have q11 := X1.out.cell 11 _ rfl
      have cB := hide (back_any _ (some ⟨b, o, none⟩) 1 cap0 ⟨z0.what, z0.verb, z0.keys.take 1, z0.data, z0.fl, z0.ex, z0.cs, z0.y, z0.wc, z0.wt, z0.dn, z0.q⟩ S.out hn')
      have hN := back_name_eq ⟨z0.what, z0.verb, z0.keys.take 1, z0.data, z0.fl, z0.ex, z0.cs, z0.y, z0.wc, z0.wt, z0.dn, z0.q⟩
      have hG := back_good_eq ⟨z0.what, z0.verb, z0.keys.take 1, z0.data, z0.fl, z0.ex, z0.cs, z0.y, z0.wc, z0.wt, z0.dn, z0.q⟩
      have hQ := back_quiet_eq ⟨z0.what, z0.verb, z0.keys.take 1, z0.data, z0.fl, z0.ex, z0.cs, z0.y, z0.wc, z0.wt, z0.dn, z0.q⟩
      have hK := back_keys_eq ⟨z0.what, z0.verb, z0.keys.take 1, z0.data, z0.fl, z0.ex, z0.cs, z0.y, z0.wc, z0.wt, z0.dn, z0.q⟩
      have hv2 := back_sizes ⟨z0.what, z0.verb, z0.keys.take 1, z0.data, z0.fl, z0.ex, z0.cs, z0.y, z0.wc, z0.wt, z0.dn, z0.q⟩ hvb.out hvd.out
      clear S
      go_wp2_with fail
      refine cB.out.mono ?_
      generalize backC ⟨z0.what, z0.verb, z0.keys.take 1, z0.data, z0.fl, z0.ex, z0.cs, z0.y, z0.wc, z0.wt, z0.dn, z0.q⟩ = x at *
      rintro e w2 ⟨ax, nx, cx, rfl, h2, hnx, b2⟩
      clear cB X1 q0 q1 q2 q3 q4 q5 q6 q7 q8 q9 q10 q11
      have B2 := BB.out.trans (b2.mono BB.out.size)
      clear b2 BB
      have X3 := Bx.new w2 #[.string x.what, .string x.verb, .slice ax nx cx, .string x.data, .int .u32 x.fl, .int .i64 x.ex, .int .u64 x.cs, .int .u64 x.y, .bool x.wc, .bool x.wt, .bool x.dn, .bool x.q] 28
      have k3 := (Below.refl w2.heap.size w2).alloc (Nat.le_refl _) (.cells #[.string x.what, .string x.verb, .slice ax nx cx, .string x.data, .int .u32 x.fl, .int .i64 x.ex, .int .u64 x.cs, .int .u64 x.y, .bool x.wc, .bool x.wt, .bool x.dn, .bool x.q] 28)
      have S3 := h2.later k3
      have B3 := B2.trans (k3.mono B2.size)
      clear h2 k3 B2
      have cC := hide (cmd_any _ ax nx cx x S3 hnx)
      replace hN := hide hN
      replace hG := hide hG
      replace hQ := hide hQ
      replace hK := hide hK
      replace hv2 := hide hv2
      go_wp2_with fail
      refine cC.out.mono ?_
      generalize w2.alloc (.cells #[.string x.what, .string x.verb, .slice ax nx cx, .string x.data, .int .u32 x.fl, .int .i64 x.ex, .int .u64 x.cs, .int .u64 x.y, .bool x.wc, .bool x.wt, .bool x.dn, .bool x.q] 28) = w3 at *
      generalize w2.heap.size = m3 at *
      rintro e w4 ⟨ay, cy, rfl, h4, b4⟩
      clear cC
      have Y4 := Bx.new w4 #[.string x.what, .string x.verb, .slice ay nx cy, .string x.data, .int .u32 x.fl, .int .i64 x.ex, .int .u64 x.cs, .int .u64 x.y, .bool x.wc, .bool x.wt, .bool x.dn, .bool x.q] 31
      have k4 := (Below.refl w4.heap.size w4).alloc (Nat.le_refl _) (.cells #[.string x.what, .string x.verb, .slice ay nx cy, .string x.data, .int .u32 x.fl, .int .i64 x.ex, .int .u64 x.cs, .int .u64 x.y, .bool x.wc, .bool x.wt, .bool x.dn, .bool x.q] 31)
      have X4 := hide ((X3.later b4).later k4)
      have SX := hide ((S3.later b4).later k4)
      have SY := hide (h4.later k4)
      have BB := hide ((B3.trans (b4.mono B3.size)).trans (k4.mono (B3.trans (b4.mono B3.size)).size))
      replace Y4 := hide Y4
      clear X3 S3 B3 b4 k4 h4
      go_wp2_with fail
      generalize w4.alloc (.cells #[.string x.what, .string x.verb, .slice ay nx cy, .string x.data, .int .u32 x.fl, .int .i64 x.ex, .int .u64 x.cs, .int .u64 x.y, .bool x.wc, .bool x.wt, .bool x.dn, .bool x.q] 31) = w5 at *
      generalize w4.heap.size = m4 at *
      have X : Hid (Bx w5.drew m3 #[.string x.what, .string x.verb, .slice ax nx cx, .string x.data, .int .u32 x.fl, .int .i64 x.ex, .int .u64 x.cs, .int .u64 x.y, .bool x.wc, .bool x.wt, .bool x.dn, .bool x.q] 28) := X4
      have Y : Hid (Bx w5.drew m4 #[.string x.what, .string x.verb, .slice ay nx cy, .string x.data, .int .u32 x.fl, .int .i64 x.ex, .int .u64 x.cs, .int .u64 x.y, .bool x.wc, .bool x.wt, .bool x.dn, .bool x.q] 31) := Y4
      replace SX : Hid (StrsAt w5.drew ax nx x.keys) := SX.out.later (Below.refl _ _).drew
      replace SY : Hid (StrsAt w5.drew ay nx x.keys) := SY.out.later (Below.refl _ _).drew
      replace BB := hide BB.out.drew
      clear X4 Y4
      go_region_held3 (fun W => W.cell? ⟨m3, 0, none⟩ = some (.string x.what) ∧ W.cell? ⟨m3, 1, none⟩ = some (.string x.verb) ∧ W.cell? ⟨m3, 2, none⟩ = some (.slice ax nx cx) ∧ W.cell? ⟨m3, 3, none⟩ = some (.string x.data) ∧ W.cell? ⟨m3, 4, none⟩ = some (.int .u32 x.fl) ∧ W.cell? ⟨m3, 5, none⟩ = some (.int .i64 x.ex) ∧ W.cell? ⟨m3, 6, none⟩ = some (.int .u64 x.cs) ∧ W.cell? ⟨m3, 7, none⟩ = some (.int .u64 x.y) ∧ W.cell? ⟨m3, 8, none⟩ = some (.bool x.wc) ∧ W.cell? ⟨m3, 9, none⟩ = some (.bool x.wt) ∧ W.cell? ⟨m3, 10, none⟩ = some (.bool x.dn) ∧ W.cell? ⟨m3, 11, none⟩ = some (.bool x.q) ∧ W.cell? ⟨m4, 0, none⟩ = some (.string x.what) ∧ W.cell? ⟨m4, 1, none⟩ = some (.string x.verb) ∧ W.cell? ⟨m4, 2, none⟩ = some (.slice ay nx cy) ∧ W.cell? ⟨m4, 3, none⟩ = some (.string x.data) ∧ W.cell? ⟨m4, 4, none⟩ = some (.int .u32 x.fl) ∧ W.cell? ⟨m4, 5, none⟩ = some (.int .i64 x.ex) ∧ W.cell? ⟨m4, 6, none⟩ = some (.int .u64 x.cs) ∧ W.cell? ⟨m4, 7, none⟩ = some (.int .u64 x.y) ∧ W.cell? ⟨m4, 8, none⟩ = some (.bool x.wc) ∧ W.cell? ⟨m4, 9, none⟩ = some (.bool x.wt) ∧ W.cell? ⟨m4, 10, none⟩ = some (.bool x.dn) ∧ W.cell? ⟨m4, 11, none⟩ = some (.bool x.q))
        (first | exact lim2 X.out Y.out | go_keep)
        (first
          | (go_at_call 10; refine (good_any _ ax nx cx x SX.out hnx hv2.out.2).mono ?_; rintro e wj ⟨rfl, hj⟩; replace X := hide (X.out.later hj); replace Y := hide (Y.out.later hj); replace SX := hide (SX.out.later hj); replace SY := hide (SY.out.later hj); replace BB := hide (BB.out.trans (hj.mono BB.out.size)); clear hj)
          | (go_at_call 15; refine (rgood_any _ ay nx cy x SY.out hnx hv2.out.2).mono ?_; rw [← hG.out]; rintro e wj ⟨rfl, hj⟩; replace X := hide (X.out.later hj); replace Y := hide (Y.out.later hj); replace SX := hide (SX.out.later hj); replace SY := hide (SY.out.later hj); replace BB := hide (BB.out.trans (hj.mono BB.out.size)); clear hj)
          | (go_at_call 12; refine (quiet_any _ ax nx cx x SX.out hnx).mono ?_; rw [hQ.out]; rintro e wj ⟨rfl, hj⟩; replace X := hide (X.out.later hj); replace Y := hide (Y.out.later hj); replace SX := hide (SX.out.later hj); replace SY := hide (SY.out.later hj); replace BB := hide (BB.out.trans (hj.mono BB.out.size)); clear hj)
          | (go_at_call 9; refine (name_any _ ax nx cx x SX.out hnx hv2.out.1).mono ?_; rintro e wj ⟨rfl, hj⟩; replace X := hide (X.out.later hj); replace Y := hide (Y.out.later hj); replace SX := hide (SX.out.later hj); replace SY := hide (SY.out.later hj); replace BB := hide (BB.out.trans (hj.mono BB.out.size)); clear hj)
          | (go_at_call 16; refine (rname_any _ ay nx cy x SY.out hnx).mono ?_; rw [← hN.out]; rintro e wj ⟨rfl, hj⟩; replace X := hide (X.out.later hj); replace Y := hide (Y.out.later hj); replace SX := hide (SX.out.later hj); replace SY := hide (SY.out.later hj); replace BB := hide (BB.out.trans (hj.mono BB.out.size)); clear hj))

      all_goals (
        have SXl := hide SX.out.len
        have ck := keys_is x x.keys hK.out ax nx cx _ SX.out hnx
        rw [← SXl.out] at ck
        have cK := hide ck
        have hfx := hide SX.out.fits
        have x0 := X.out.cell 0 _ rfl
        have x1 := X.out.cell 1 _ rfl
        have x2 := X.out.cell 2 _ rfl
        have x3 := X.out.cell 3 _ rfl
        have x4 := X.out.cell 4 _ rfl
        have x5 := X.out.cell 5 _ rfl
        have x6 := X.out.cell 6 _ rfl
        have x7 := X.out.cell 7 _ rfl
        have x8 := X.out.cell 8 _ rfl
        have x9 := X.out.cell 9 _ rfl
        have x10 := X.out.cell 10 _ rfl
        have x11 := X.out.cell 11 _ rfl
        clear ck SX
        go_wp2_with fail
        refine cK.out.mono ?_
        rintro e w6 ⟨ak, ck', rfl, ho, hj⟩
        have KS := own_strs ho hfx.out
        have Y6 := hide (Y.out.later hj)
        have S6 := hide (SY.out.later hj)
        have B6 := hide (BB.out.trans (hj.mono BB.out.size))
        have y2 := Y6.out.cell 2 _ rfl
        clear cK ho hj X Y SY BB x0 x1 x2 x3 x4 x5 x6 x7 x8 x9 x10 x11
        have KS := hide KS
        go_wp2
        go_loopw [6] (fun i wr => ∃ k : Nat, i = .int .i64 k ∧ k ≤ nx ∧ Below w6.heap.size w6 wr) (fun i _ => nx - vi i)
        case atStart => exact ⟨0, rfl, by omega, Below.refl _ _⟩
        case round =>
          obtain ⟨k, rfl, hk, hb⟩ := hrel
          have yk := (Y6.out.later hb).cell 2 _ rfl
          by_cases hlt : k < nx
          · obtain ⟨b, o, u, rfl, hu, _, _, hc⟩ := (KS.out.later hb).key k hlt
            obtain ⟨b', o', rfl, _, hc'⟩ := (S6.out.later hb).cell k u hu
            clear hu y2
            go_wp2
            go_region_held3 (fun W => W.cell? ⟨m4, 2, none⟩ = some (.slice (some ⟨b', o', none⟩) nx cy) ∧ W.cell? ⟨b, o + k, none⟩ = some (.string u) ∧ W.cell? ⟨b', o' + k, none⟩ = some (.string u))
              (go_keep)
              (fail)
            all_goals go_wp2
            all_goals go_roundw
            case rel => exact ⟨k + 1, by go_num, by omega, hb.drew⟩
            case measure => simp [vi]; omega
          · have e : nx = k := by omega
            subst e
            go_wp2
            go_ret
            exact ⟨rfl, B6.out.trans (hb.mono B6.out.size)⟩)

    · have c2' : ¬ (1 : Int) < (len0 : Int) := by omega
      have S := S1
      clear S1
      have q0 := X1.out.cell 0 _ rfl
      have q1 := X1.out.cell 1 _ rfl
      have q2 := X1.out.cell 2 _ rfl
      have q3 := X1.out.cell 3 _ rfl
      have q4 := X1.out.cell 4 _ rfl
      have q5 := X1.out.cell 5 _ rfl
      have q6 := X1.out.cell 6 _ rfl
      have q7 := X1.out.cell 7 _ rfl
      have q8 := X1.out.cell 8 _ rfl
      have q9 := X1.out.cell 9 _ rfl
      have q10 := X1.out.cell 10 _ rfl
      have q11 := X1.out.cell 11 _ rfl
      have cB := hide (back_any _ a0 len0 cap0 z0 S.out hn')
      have hN := back_name_eq z0
      have hG := back_good_eq z0
      have hQ := back_quiet_eq z0
      have hK := back_keys_eq z0
      have hv2 := back_sizes z0 hvb.out hvd.out
      clear S
      go_wp2_with fail
      refine cB.out.mono ?_
      generalize backC z0 = x at *
      rintro e w2 ⟨ax, nx, cx, rfl, h2, hnx, b2⟩
      clear cB X1 q0 q1 q2 q3 q4 q5 q6 q7 q8 q9 q10 q11
      have B2 := BB.out.trans (b2.mono BB.out.size)
      clear b2 BB
      have X3 := Bx.new w2 #[.string x.what, .string x.verb, .slice ax nx cx, .string x.data, .int .u32 x.fl, .int .i64 x.ex, .int .u64 x.cs, .int .u64 x.y, .bool x.wc, .bool x.wt, .bool x.dn, .bool x.q] 28
      have k3 := (Below.refl w2.heap.size w2).alloc (Nat.le_refl _) (.cells #[.string x.what, .string x.verb, .slice ax nx cx, .string x.data, .int .u32 x.fl, .int .i64 x.ex, .int .u64 x.cs, .int .u64 x.y, .bool x.wc, .bool x.wt, .bool x.dn, .bool x.q] 28)
      have S3 := h2.later k3
      have B3 := B2.trans (k3.mono B2.size)
      clear h2 k3 B2
      have cC := hide (cmd_any _ ax nx cx x S3 hnx)
      replace hN := hide hN
      replace hG := hide hG
      replace hQ := hide hQ
      replace hK := hide hK
      replace hv2 := hide hv2
      go_wp2_with fail
      refine cC.out.mono ?_
      generalize w2.alloc (.cells #[.string x.what, .string x.verb, .slice ax nx cx, .string x.data, .int .u32 x.fl, .int .i64 x.ex, .int .u64 x.cs, .int .u64 x.y, .bool x.wc, .bool x.wt, .bool x.dn, .bool x.q] 28) = w3 at *
      generalize w2.heap.size = m3 at *
      rintro e w4 ⟨ay, cy, rfl, h4, b4⟩
      clear cC
      have Y4 := Bx.new w4 #[.string x.what, .string x.verb, .slice ay nx cy, .string x.data, .int .u32 x.fl, .int .i64 x.ex, .int .u64 x.cs, .int .u64 x.y, .bool x.wc, .bool x.wt, .bool x.dn, .bool x.q] 31
      have k4 := (Below.refl w4.heap.size w4).alloc (Nat.le_refl _) (.cells #[.string x.what, .string x.verb, .slice ay nx cy, .string x.data, .int .u32 x.fl, .int .i64 x.ex, .int .u64 x.cs, .int .u64 x.y, .bool x.wc, .bool x.wt, .bool x.dn, .bool x.q] 31)
      have X4 := hide ((X3.later b4).later k4)
      have SX := hide ((S3.later b4).later k4)
      have SY := hide (h4.later k4)
      have BB := hide ((B3.trans (b4.mono B3.size)).trans (k4.mono (B3.trans (b4.mono B3.size)).size))
      replace Y4 := hide Y4
      clear X3 S3 B3 b4 k4 h4
      go_wp2_with fail
      generalize w4.alloc (.cells #[.string x.what, .string x.verb, .slice ay nx cy, .string x.data, .int .u32 x.fl, .int .i64 x.ex, .int .u64 x.cs, .int .u64 x.y, .bool x.wc, .bool x.wt, .bool x.dn, .bool x.q] 31) = w5 at *
      generalize w4.heap.size = m4 at *
      have X : Hid (Bx w5.drew m3 #[.string x.what, .string x.verb, .slice ax nx cx, .string x.data, .int .u32 x.fl, .int .i64 x.ex, .int .u64 x.cs, .int .u64 x.y, .bool x.wc, .bool x.wt, .bool x.dn, .bool x.q] 28) := X4
      have Y : Hid (Bx w5.drew m4 #[.string x.what, .string x.verb, .slice ay nx cy, .string x.data, .int .u32 x.fl, .int .i64 x.ex, .int .u64 x.cs, .int .u64 x.y, .bool x.wc, .bool x.wt, .bool x.dn, .bool x.q] 31) := Y4
      replace SX : Hid (StrsAt w5.drew ax nx x.keys) := SX.out.later (Below.refl _ _).drew
      replace SY : Hid (StrsAt w5.drew ay nx x.keys) := SY.out.later (Below.refl _ _).drew
      replace BB := hide BB.out.drew
      clear X4 Y4
      go_region_held3 (fun W => W.cell? ⟨m3, 0, none⟩ = some (.string x.what) ∧ W.cell? ⟨m3, 1, none⟩ = some (.string x.verb) ∧ W.cell? ⟨m3, 2, none⟩ = some (.slice ax nx cx) ∧ W.cell? ⟨m3, 3, none⟩ = some (.string x.data) ∧ W.cell? ⟨m3, 4, none⟩ = some (.int .u32 x.fl) ∧ W.cell? ⟨m3, 5, none⟩ = some (.int .i64 x.ex) ∧ W.cell? ⟨m3, 6, none⟩ = some (.int .u64 x.cs) ∧ W.cell? ⟨m3, 7, none⟩ = some (.int .u64 x.y) ∧ W.cell? ⟨m3, 8, none⟩ = some (.bool x.wc) ∧ W.cell? ⟨m3, 9, none⟩ = some (.bool x.wt) ∧ W.cell? ⟨m3, 10, none⟩ = some (.bool x.dn) ∧ W.cell? ⟨m3, 11, none⟩ = some (.bool x.q) ∧ W.cell? ⟨m4, 0, none⟩ = some (.string x.what) ∧ W.cell? ⟨m4, 1, none⟩ = some (.string x.verb) ∧ W.cell? ⟨m4, 2, none⟩ = some (.slice ay nx cy) ∧ W.cell? ⟨m4, 3, none⟩ = some (.string x.data) ∧ W.cell? ⟨m4, 4, none⟩ = some (.int .u32 x.fl) ∧ W.cell? ⟨m4, 5, none⟩ = some (.int .i64 x.ex) ∧ W.cell? ⟨m4, 6, none⟩ = some (.int .u64 x.cs) ∧ W.cell? ⟨m4, 7, none⟩ = some (.int .u64 x.y) ∧ W.cell? ⟨m4, 8, none⟩ = some (.bool x.wc) ∧ W.cell? ⟨m4, 9, none⟩ = some (.bool x.wt) ∧ W.cell? ⟨m4, 10, none⟩ = some (.bool x.dn) ∧ W.cell? ⟨m4, 11, none⟩ = some (.bool x.q))
        (first | exact lim2 X.out Y.out | go_keep)
        (first
          | (go_at_call 10; refine (good_any _ ax nx cx x SX.out hnx hv2.out.2).mono ?_; rintro e wj ⟨rfl, hj⟩; replace X := hide (X.out.later hj); replace Y := hide (Y.out.later hj); replace SX := hide (SX.out.later hj); replace SY := hide (SY.out.later hj); replace BB := hide (BB.out.trans (hj.mono BB.out.size)); clear hj)
          | (go_at_call 15; refine (rgood_any _ ay nx cy x SY.out hnx hv2.out.2).mono ?_; rw [← hG.out]; rintro e wj ⟨rfl, hj⟩; replace X := hide (X.out.later hj); replace Y := hide (Y.out.later hj); replace SX := hide (SX.out.later hj); replace SY := hide (SY.out.later hj); replace BB := hide (BB.out.trans (hj.mono BB.out.size)); clear hj)
          | (go_at_call 12; refine (quiet_any _ ax nx cx x SX.out hnx).mono ?_; rw [hQ.out]; rintro e wj ⟨rfl, hj⟩; replace X := hide (X.out.later hj); replace Y := hide (Y.out.later hj); replace SX := hide (SX.out.later hj); replace SY := hide (SY.out.later hj); replace BB := hide (BB.out.trans (hj.mono BB.out.size)); clear hj)
          | (go_at_call 9; refine (name_any _ ax nx cx x SX.out hnx hv2.out.1).mono ?_; rintro e wj ⟨rfl, hj⟩; replace X := hide (X.out.later hj); replace Y := hide (Y.out.later hj); replace SX := hide (SX.out.later hj); replace SY := hide (SY.out.later hj); replace BB := hide (BB.out.trans (hj.mono BB.out.size)); clear hj)
          | (go_at_call 16; refine (rname_any _ ay nx cy x SY.out hnx).mono ?_; rw [← hN.out]; rintro e wj ⟨rfl, hj⟩; replace X := hide (X.out.later hj); replace Y := hide (Y.out.later hj); replace SX := hide (SX.out.later hj); replace SY := hide (SY.out.later hj); replace BB := hide (BB.out.trans (hj.mono BB.out.size)); clear hj))

      all_goals (
        have SXl := hide SX.out.len
        have ck := keys_is x x.keys hK.out ax nx cx _ SX.out hnx
        rw [← SXl.out] at ck
        have cK := hide ck
        have hfx := hide SX.out.fits
        have x0 := X.out.cell 0 _ rfl
        have x1 := X.out.cell 1 _ rfl
        have x2 := X.out.cell 2 _ rfl
        have x3 := X.out.cell 3 _ rfl
        have x4 := X.out.cell 4 _ rfl
        have x5 := X.out.cell 5 _ rfl
        have x6 := X.out.cell 6 _ rfl
        have x7 := X.out.cell 7 _ rfl
        have x8 := X.out.cell 8 _ rfl
        have x9 := X.out.cell 9 _ rfl
        have x10 := X.out.cell 10 _ rfl
        have x11 := X.out.cell 11 _ rfl
        clear ck SX
        go_wp2_with fail
        refine cK.out.mono ?_
        rintro e w6 ⟨ak, ck', rfl, ho, hj⟩
        have KS := own_strs ho hfx.out
        have Y6 := hide (Y.out.later hj)
        have S6 := hide (SY.out.later hj)
        have B6 := hide (BB.out.trans (hj.mono BB.out.size))
        have y2 := Y6.out.cell 2 _ rfl
        clear cK ho hj X Y SY BB x0 x1 x2 x3 x4 x5 x6 x7 x8 x9 x10 x11
        have KS := hide KS
        go_wp2
        go_loopw [6] (fun i wr => ∃ k : Nat, i = .int .i64 k ∧ k ≤ nx ∧ Below w6.heap.size w6 wr) (fun i _ => nx - vi i)
        case atStart => exact ⟨0, rfl, by omega, Below.refl _ _⟩
        case round =>
          obtain ⟨k, rfl, hk, hb⟩ := hrel
          have yk := (Y6.out.later hb).cell 2 _ rfl
          by_cases hlt : k < nx
          · obtain ⟨b, o, u, rfl, hu, _, _, hc⟩ := (KS.out.later hb).key k hlt
            obtain ⟨b', o', rfl, _, hc'⟩ := (S6.out.later hb).cell k u hu
            clear hu y2
            go_wp2
            go_region_held3 (fun W => W.cell? ⟨m4, 2, none⟩ = some (.slice (some ⟨b', o', none⟩) nx cy) ∧ W.cell? ⟨b, o + k, none⟩ = some (.string u) ∧ W.cell? ⟨b', o' + k, none⟩ = some (.string u))
              (go_keep)
              (fail)
            all_goals go_wp2
            all_goals go_roundw
            case rel => exact ⟨k + 1, by go_num, by omega, hb.drew⟩
            case measure => simp [vi]; omega
          · have e : nx = k := by omega
            subst e
            go_wp2
            go_ret
            exact ⟨rfl, B6.out.trans (hb.mono B6.out.size)⟩)
end Go.Proofs.Ytofjadgnkpcaeaa.eventTells
