/- Texts joined. -/
import Derived.Test.YtmfjaehajdephabJI
import Derived.Lib.SlBytesConst
/-
  Next of a parser: data is waited for.
-/
namespace Go.Proofs.Ytmfjaehajdephab
open Go.Shelf Go.RowKit Go.Deep
set_option linter.unusedVariables false
set_option linter.unusedSimpArgs false
set_option maxRecDepth 1000000

set_option maxHeartbeats 1000000 in
theorem next_held (w : World) (p : Nat) (v : Value) (beg0 seen0 : Nat) (c : Cm) (a0 : Option Addr) (n0 c0 : Nat) (left0 gone0 : Nat) (F0 : List UInt8) (N : Nat) (h : PM w p v beg0 seen0 false c (.slice a0 n0 c0) left0 gone0 F0 N) (hrow0 : RowT w a0 n0 c.keys) (hw : (c.what.toList == []) = false)
    (r2 : Cm) (ok2 : Bool) (P3 : World → Value → Prop) (hA3 : Abides p P3)
    (hdt : ∀ W, (∃ beg, PM W p v beg seen0 false c (.slice a0 n0 c0) left0 gone0 F0 N) → RowT W a0 n0 c.keys → Calls Try.prog 23 #[.pointer (some ⟨p, 0, none⟩)] W (NxQ W p v r2 ok2 P3)) :
    Calls Try.prog 10 #[.pointer (some ⟨p, 0, none⟩)] w (NxQ w p v r2 ok2 P3) := by
  have B0 := (Below.refl w.heap.size w).alloc (Nat.le_refl _) (cmO cmZ (.slice none 0 0))
  have HQ0 := hide (QAt.later h B0)
  have HTV := hide (heap_alloc_new w (cmO cmZ (.slice none 0 0)))
  have HP := hide h.blk.lt
  have HMV : Hid (PMv w p v v (w.alloc (cmO cmZ (.slice none 0 0)))) := PMv.of_below B0
  have HDT := hide (hdt _ ⟨beg0, HQ0.out⟩ (hrow0.later B0))
  have HA3 := hide hA3
  have c3 : (w.alloc (.cells #[.string ⟨#[]⟩, .string ⟨#[]⟩, .slice none 0 0, .string ⟨#[]⟩, .int .u32 0, .int .i64 0, .int .u64 0, .int .u64 0, .bool false, .bool false, .bool false, .bool false] 33)).cell? ⟨p, 3, none⟩ = some (.bool false) := QAt.cellR HQ0.out 1 rfl
  have c4 : (w.alloc (.cells #[.string ⟨#[]⟩, .string ⟨#[]⟩, .slice none 0 0, .string ⟨#[]⟩, .int .u32 0, .int .i64 0, .int .u64 0, .int .u64 0, .bool false, .bool false, .bool false, .bool false] 33)).cell? ⟨p, 4, none⟩ = some (.string c.what) := QAt.cellR HQ0.out 2 rfl
  clear h hrow0 B0 hdt hA3 HQ0
  go_enter Try.func10, Try.ntmps10
  go_wp2_with fail
  refine Calls.mono HDT.out ?_
  rintro e w5 ⟨a5, n5, c5, v5, rfl, hrow5, H5, m5⟩
  have HM5 := hide (HMV.out.trans m5)
  have HT5 : w5.heap[w.heap.size]? = some (cmO cmZ (.slice none 0 0)) := (m5.1.block _ (lt_of_at _ ⟨_, HTV.out⟩) (by have := HP.out; simp; omega)).trans HTV.out
  have HTh := there_cmz HT5
  have HP5 := hide H5
  have HR5 := hide hrow5
  clear H5 m5 hrow5 HMV HTV
  simp only []
  repeat (fail_if_success (refine store_stepA (r := r2) (a := a5) (n := n5) (c := c5) rfl _ _ rfl w.heap.size rfl rfl HTh ?_)); go_step
  refine store_stepA (r := r2) (a := a5) (n := n5) (c := c5) rfl _ _ rfl w.heap.size rfl rfl HTh ?_
  have hkc := keep_cm w5 w.heap.size r2 (.slice a5 n5 c5)
  have hp0 := HP.out
  have PX := HA3.out.far _ _ _ _ _ _ HP5.out HT5 (by omega) hkc
  have NX := heap_cm HT5 r2 (.slice a5 n5 c5)
  have RX := keep_row HR5.out HT5 r2 (.slice a5 n5 c5)
  have MX : PMv w p v v5 (w5.setCells w.heap.size 0 (cmL r2 (.slice a5 n5 c5))) := ⟨HM5.out.1.trans hkc (fun x hx => .inr (by simp only [List.mem_singleton] at hx; omega)), HM5.out.2⟩
  clear HTh HT5 HP5 HR5 HM5 hkc
  generalize w5.setCells w.heap.size 0 (cmL r2 (.slice a5 n5 c5)) = X5 at *
  have HPX5 := hide PX
  have HNX5 := hide NX
  have HRX5 := hide RX
  have HMX5 := hide MX
  clear PX NX RX MX
  go_wp2
  exact ret_cm2 rfl w.heap.size r2 (.slice a5 n5 c5) rfl HNX5.out rfl ⟨a5, n5, c5, v5, rfl, HRX5.out, HPX5.out, HMX5.out⟩
end Go.Proofs.Ytmfjaehajdephab

/-
  Next of a parser: a line with data.
-/
namespace Go.Proofs.Ytmfjaehajdephab
open Go.Shelf Go.RowKit Go.Deep
set_option linter.unusedVariables false
set_option linter.unusedSimpArgs false
set_option maxRecDepth 1000000

set_option maxHeartbeats 1000000 in
theorem next_data0 (w : World) (p : Nat) (v : Value) (beg0 seen0 : Nat) (c : Cm) (a0 : Option Addr) (n0 c0 : Nat) (left0 gone0 : Nat) (F0 F2 : List UInt8) (N : Nat) (h : PM w p v beg0 seen0 false c (.slice a0 n0 c0) left0 gone0 F0 N) (hw : (c.what.toList == []) = true)
    (P1 : World → Value → Prop) (hps : ∀ W, (∃ beg, PM W p v beg seen0 false c (.slice a0 n0 c0) left0 gone0 F0 N) → P1 W v) (r : Cm) (k : Int) (ok : Bool) (P2 : World → Value → Prop) (hA2 : Abides p P2) (hw1 : ∀ W v, P1 W v → W.cell? ⟨p, 4, none⟩ = some (.string c.what) ∧ W.cell? ⟨p, 3, none⟩ = W.cell? ⟨p, 3, none⟩) (hA1 : Abides p P1)
    (hln : ∀ W v, P1 W v → Calls Try.prog 22 #[.pointer (some ⟨p, 0, none⟩)] W (LnR W p v r k ok P2)) (hP2 : P2 = (fun w v => ∃ beg, PM w p v beg 0 false c (.slice a0 n0 c0) left0 gone0 F2 N)) (hok : ok = true) (mm : Nat) (hk : k = (mm : Int)) (r2 : Cm) (ok2 : Bool) (P3 : World → Value → Prop) (hA3 : Abides p P3)
    (hdt : ∀ W v a n cc, (∃ beg, PM W p v beg 0 false r (.slice a n cc) mm gone0 F2 N) → RowT W a n r.keys → Calls Try.prog 23 #[.pointer (some ⟨p, 0, none⟩)] W (NxQ W p v r2 ok2 P3)) :
    Calls Try.prog 10 #[.pointer (some ⟨p, 0, none⟩)] w (NxQ w p v r2 ok2 P3) := by
  have B0 := (Below.refl w.heap.size w).alloc (Nat.le_refl _) (cmO cmZ (.slice none 0 0))
  have HQ0 := hide (QAt.later h B0)
  have HT0 := hide (heap_alloc_new w (cmO cmZ (.slice none 0 0)))
  have HP := hide h.blk.lt
  have HV0 : Hid (PMv w p v v (w.alloc (cmO cmZ (.slice none 0 0)))) := PMv.of_below B0
  have HLN := hide hln
  have HA2 := hide hA2
  have HA1 := hide hA1
  have HW1 := hide hw1
  have HPS := hide hps
  have HP2 := hide hP2
  have HDT := hide hdt
  have HA3 := hide hA3
  subst hok
  subst hk
  clear hps hP2 hdt hA3
  have c3 : (w.alloc (.cells #[.string ⟨#[]⟩, .string ⟨#[]⟩, .slice none 0 0, .string ⟨#[]⟩, .int .u32 0, .int .i64 0, .int .u64 0, .int .u64 0, .bool false, .bool false, .bool false, .bool false] 33)).cell? ⟨p, 3, none⟩ = some (.bool false) := QAt.cellR HQ0.out 1 rfl
  clear h B0 hln hA2 hA1 hw1
  go_enter Try.func10, Try.ntmps10
  have HH1 : Hid (P1 (w.alloc (cmO cmZ (.slice none 0 0))) v) := HPS.out _ ⟨beg0, HQ0.out⟩
  have c4 : (w.alloc (.cells #[.string ⟨#[]⟩, .string ⟨#[]⟩, .slice none 0 0, .string ⟨#[]⟩, .int .u32 0, .int .i64 0, .int .u64 0, .int .u64 0, .bool false, .bool false, .bool false, .bool false] 33)).cell? ⟨p, 4, none⟩ = some (.string c.what) := (HW1.out _ v HH1.out).1
  have HM1 := HV0
  have HT1 := HT0
  clear HQ0 HT0 HV0
  go_wp2_with fail
  refine Calls.mono (HLN.out _ v HH1.out) ?_
  rintro e w2 ⟨a1, n1, c1, v2, rfl, hrow, H2, m2⟩
  have HM2 := hide (HM1.out.trans m2)
  have HT2 : Hid (w2.heap[w.heap.size]? = some (cmO cmZ (.slice none 0 0))) := (m2.1.block _ (lt_of_at _ ⟨_, HT1.out⟩) (by have := HP.out; simp; omega)).trans HT1.out
  have hkA : Below w2.heap.size w2 (w2.alloc (.cells #[.string ⟨#[]⟩, .string ⟨#[]⟩, .slice none 0 0, .string ⟨#[]⟩, .int .u32 0, .int .i64 0, .int .u64 0, .int .u64 0, .bool false, .bool false, .bool false, .bool false] 33)) := (Below.refl _ _).alloc (Nat.le_refl _) _
  have HP3 := HA2.out.below _ _ _ H2 hkA
  have HR3 := hrow.later hkA
  have HN3 : (w2.alloc (.cells #[.string ⟨#[]⟩, .string ⟨#[]⟩, .slice none 0 0, .string ⟨#[]⟩, .int .u32 0, .int .i64 0, .int .u64 0, .int .u64 0, .bool false, .bool false, .bool false, .bool false] 33)).heap[w2.heap.size]? = some (cmO cmZ (.slice none 0 0)) := heap_alloc_new _ _
  have HT3 := (hkA.block _ (lt_of_at _ ⟨_, HT2.out⟩)).trans HT2.out
  have HM3 := HM2.out.trans (PMv.of_below (p := p) (v := v2) hkA)
  have HL2 : Hid (w.heap.size < w2.heap.size) := lt_of_at _ ⟨_, HT2.out⟩
  have hp2 : p < w2.heap.size := HA2.out.lt _ _ H2
  have HTh := there_cmz HN3
  clear H2 m2 hrow hkA HM1 HT1 c4 HH1
  simp only []
  repeat (fail_if_success (refine store_stepA (r := r) (a := a1) (n := n1) (c := c1) rfl _ _ rfl w2.heap.size rfl rfl HTh ?_)); go_step
  refine store_stepA (r := r) (a := a1) (n := n1) (c := c1) rfl _ _ rfl w2.heap.size rfl rfl HTh ?_
  have hkc := keep_cm (w2.alloc (.cells #[.string ⟨#[]⟩, .string ⟨#[]⟩, .slice none 0 0, .string ⟨#[]⟩, .int .u32 0, .int .i64 0, .int .u64 0, .int .u64 0, .bool false, .bool false, .bool false, .bool false] 33)) w2.heap.size r (.slice a1 n1 c1)
  have PX := HA2.out.far _ _ _ _ _ _ HP3 HN3 (by omega) hkc
  have TX := (hkc.block _ (lt_of_at _ ⟨_, HT3⟩) (by have := HL2.out; simp; omega)).trans HT3
  have NX := heap_cm HN3 r (.slice a1 n1 c1)
  have RX := keep_row HR3 HN3 r (.slice a1 n1 c1)
  have MX : PMv w p v v2 ((w2.alloc (.cells #[.string ⟨#[]⟩, .string ⟨#[]⟩, .slice none 0 0, .string ⟨#[]⟩, .int .u32 0, .int .i64 0, .int .u64 0, .int .u64 0, .bool false, .bool false, .bool false, .bool false] 33)).setCells w2.heap.size 0 (cmL r (.slice a1 n1 c1))) := ⟨HM3.1.trans hkc (fun x hx => .inr (by simp only [List.mem_singleton] at hx; have := HL2.out; omega)), HM3.2⟩
  have hpt : p ≠ w.heap.size := by have := HP.out; omega
  have h4t : w2.heap.size ≠ w.heap.size := by have := HL2.out; omega
  have h4p : w2.heap.size ≠ p := by omega
  clear HTh HP3 HR3 HN3 HT3 HM3 HM2 HT2 hkc
  generalize (w2.alloc (.cells #[.string ⟨#[]⟩, .string ⟨#[]⟩, .slice none 0 0, .string ⟨#[]⟩, .int .u32 0, .int .i64 0, .int .u64 0, .int .u64 0, .bool false, .bool false, .bool false, .bool false] 33)).setCells w2.heap.size 0 (cmL r (.slice a1 n1 c1)) = X at *
  have HPX := hide PX
  have HTX := hide TX
  have HNX := hide NX
  have HRX := hide RX
  have HMX := hide MX
  obtain ⟨t4, ht4⟩ : ∃ t4, t4 = w2.heap.size := ⟨_, rfl⟩
  rw [← ht4] at HNX h4t h4p ⊢
  have HL4 : Hid (w.heap.size < t4) := by rw [ht4]; exact HL2.out
  clear PX TX NX RX MX ht4 hp2 HL2
  obtain ⟨p0, p1, p2, p3, p4, p5, p6, p7, p8, p9, p10, p11⟩ := CmAt.of HNX.out
  have hx := HPX.out
  rw [HP2.out] at hx
  obtain ⟨beg2, QX⟩ := hx
  have HQX : Hid (QAt X p v2 beg2 (pR 0 false c (.slice a0 n0 c0) left0 gone0) 51 F2 N) := QX
  have HTh : X.there p 4 12 := there_held QX
  have hmn : ((mm : Int) == -1) = false := by rw [beq_eq_false_iff_ne]; omega
  clear QX HPX HLN HA2 HP2
  go_step
  repeat (fail_if_success (refine store_stepP r a1 n1 c1 rfl _ _ rfl p rfl rfl HTh ?_)); first | go_step | (fail_if_success (apply wp_ret)); go_simp
  refine store_stepP r a1 n1 c1 rfl _ _ rfl p rfl rfl HTh ?_
  have QY := HQX.out.setCm r (.slice a1 n1 c1)
  have KY : Keep [p] X (X.setCells p 4 (cmL r (.slice a1 n1 c1))) := (Keep.refl _ _).setCells (.inl (by simp)) _ _
  have TY := (KY.block _ (lt_of_at _ ⟨_, HTX.out⟩) (by simp; omega)).trans HTX.out
  have RY := HRX.out.keepF (F := [p]) (fun x hx hxp => by
    obtain ⟨cs, fz, hc⟩ := HRX.out.kind x hx
    simp only [List.mem_singleton] at hxp
    rw [hxp, HQX.out.blk] at hc
    simp at hc) KY
  have MY : PMv w p v v2 (X.setCells p 4 (cmL r (.slice a1 n1 c1))) := ⟨HMX.out.1.trans KY (fun x hx => .inl hx), HMX.out.2⟩
  clear HTh HQX HTX HRX HMX KY HNX p0 p1 p2 p3 p4 p5 p6 p7 p8 p9 p10 p11
  generalize X.setCells p 4 (cmL r (.slice a1 n1 c1)) = Y at *
  have z16 : Y.cell? ⟨p, 16, none⟩ = some (.int .i64 (left0 : Int)) := QY.cellR 14 rfl
  have y16 : Y.frozen? ⟨p, 16, none⟩ = false := QY.blk.frozen 16
  have QZ : PM (Y.setCell ⟨p, 16, none⟩ (.int .i64 (mm : Int))) p v2 beg2 0 false r (.slice a1 n1 c1) mm gone0 F2 N := QY.setR 14 (.int .i64 (mm : Int))
  have KZ : Keep [p] Y (Y.setCell ⟨p, 16, none⟩ (.int .i64 (mm : Int))) := (Keep.refl _ _).setCell (.inl (by simp)) _
  have HTV : Hid ((Y.setCell ⟨p, 16, none⟩ (.int .i64 (mm : Int))).heap[w.heap.size]? = some (cmO cmZ (.slice none 0 0))) := (KZ.block _ (lt_of_at _ ⟨_, TY⟩) (by simp; omega)).trans TY
  have RZ := RY.keepF (F := [p]) (fun x hx hxp => by
    obtain ⟨cs, fz, hc⟩ := RY.kind x hx
    simp only [List.mem_singleton] at hxp
    rw [hxp, QY.blk] at hc
    simp at hc) KZ
  have HMV : Hid (PMv w p v v2 (Y.setCell ⟨p, 16, none⟩ (.int .i64 (mm : Int)))) := ⟨MY.1.trans KZ (fun x hx => .inl hx), MY.2⟩
  have HDZ := hide (HDT.out _ v2 a1 n1 c1 ⟨beg2, QZ⟩ RZ)
  clear QY TY RY MY QZ KZ RZ HDT
  go_wp2_with fail
  refine Calls.mono HDZ.out ?_
  rintro e w5 ⟨a5, n5, c5, v5, rfl, hrow5, H5, m5⟩
  have HM5 := hide (HMV.out.trans m5)
  have HT5 : w5.heap[w.heap.size]? = some (cmO cmZ (.slice none 0 0)) := (m5.1.block _ (lt_of_at _ ⟨_, HTV.out⟩) (by have := HP.out; simp; omega)).trans HTV.out
  have HTh := there_cmz HT5
  have HP5 := hide H5
  have HR5 := hide hrow5
  clear H5 m5 hrow5 HMV HTV
  simp only []
  repeat (fail_if_success (refine store_stepA (r := r2) (a := a5) (n := n5) (c := c5) rfl _ _ rfl w.heap.size rfl rfl HTh ?_)); go_step
  refine store_stepA (r := r2) (a := a5) (n := n5) (c := c5) rfl _ _ rfl w.heap.size rfl rfl HTh ?_
  have hkc := keep_cm w5 w.heap.size r2 (.slice a5 n5 c5)
  have hp0 := HP.out
  have PX := HA3.out.far _ _ _ _ _ _ HP5.out HT5 (by omega) hkc
  have NX := heap_cm HT5 r2 (.slice a5 n5 c5)
  have RX := keep_row HR5.out HT5 r2 (.slice a5 n5 c5)
  have MX : PMv w p v v5 (w5.setCells w.heap.size 0 (cmL r2 (.slice a5 n5 c5))) := ⟨HM5.out.1.trans hkc (fun x hx => .inr (by simp only [List.mem_singleton] at hx; omega)), HM5.out.2⟩
  clear HTh HT5 HP5 HR5 HM5 hkc
  generalize w5.setCells w.heap.size 0 (cmL r2 (.slice a5 n5 c5)) = X5 at *
  have HPX5 := hide PX
  have HNX5 := hide NX
  have HRX5 := hide RX
  have HMX5 := hide MX
  clear PX NX RX MX
  go_wp2
  exact ret_cm2 rfl w.heap.size r2 (.slice a5 n5 c5) rfl HNX5.out rfl ⟨a5, n5, c5, v5, rfl, HRX5.out, HPX5.out, HMX5.out⟩
set_option maxHeartbeats 1000000 in
theorem next_data1 (w : World) (p : Nat) (v : Value) (beg0 seen0 : Nat) (c : Cm) (a0 : Option Addr) (n0 c0 : Nat) (left0 gone0 : Nat) (F0 F2 : List UInt8) (N : Nat) (h : PM w p v beg0 seen0 true c (.slice a0 n0 c0) left0 gone0 F0 N) (hw : (c.what.toList == []) = true)
    (P1 : World → Value → Prop) (hps : ∀ W v, (∃ beg, PM W p v beg seen0 true c (.slice a0 n0 c0) left0 gone0 F0 N) → Calls Try.prog 21 #[.pointer (some ⟨p, 0, none⟩)] W fun e w' => e = .returned (.tuple #[]) ∧ ∃ v', P1 w' v' ∧ PMv W p v v' w') (r : Cm) (k : Int) (ok : Bool) (P2 : World → Value → Prop) (hA2 : Abides p P2) (hw1 : ∀ W v, P1 W v → W.cell? ⟨p, 4, none⟩ = some (.string c.what) ∧ W.cell? ⟨p, 3, none⟩ = W.cell? ⟨p, 3, none⟩) (hA1 : Abides p P1)
    (hln : ∀ W v, P1 W v → Calls Try.prog 22 #[.pointer (some ⟨p, 0, none⟩)] W (LnR W p v r k ok P2)) (hP2 : P2 = (fun w v => ∃ beg, PM w p v beg 0 false c (.slice a0 n0 c0) left0 gone0 F2 N)) (hok : ok = true) (mm : Nat) (hk : k = (mm : Int)) (r2 : Cm) (ok2 : Bool) (P3 : World → Value → Prop) (hA3 : Abides p P3)
    (hdt : ∀ W v a n cc, (∃ beg, PM W p v beg 0 false r (.slice a n cc) mm gone0 F2 N) → RowT W a n r.keys → Calls Try.prog 23 #[.pointer (some ⟨p, 0, none⟩)] W (NxQ W p v r2 ok2 P3)) :
    Calls Try.prog 10 #[.pointer (some ⟨p, 0, none⟩)] w (NxQ w p v r2 ok2 P3) := by
  have B0 := (Below.refl w.heap.size w).alloc (Nat.le_refl _) (cmO cmZ (.slice none 0 0))
  have HQ0 := hide (QAt.later h B0)
  have HT0 := hide (heap_alloc_new w (cmO cmZ (.slice none 0 0)))
  have HP := hide h.blk.lt
  have HV0 : Hid (PMv w p v v (w.alloc (cmO cmZ (.slice none 0 0)))) := PMv.of_below B0
  have HLN := hide hln
  have HA2 := hide hA2
  have HA1 := hide hA1
  have HW1 := hide hw1
  have HPS := hide hps
  have HP2 := hide hP2
  have HDT := hide hdt
  have HA3 := hide hA3
  subst hok
  subst hk
  clear hps hP2 hdt hA3
  have c3 : (w.alloc (.cells #[.string ⟨#[]⟩, .string ⟨#[]⟩, .slice none 0 0, .string ⟨#[]⟩, .int .u32 0, .int .i64 0, .int .u64 0, .int .u64 0, .bool false, .bool false, .bool false, .bool false] 33)).cell? ⟨p, 3, none⟩ = some (.bool true) := QAt.cellR HQ0.out 1 rfl
  clear h B0 hln hA2 hA1 hw1
  go_enter Try.func10, Try.ntmps10
  go_wp2_with fail
  refine Calls.mono (HPS.out _ v ⟨beg0, HQ0.out⟩) ?_
  rintro e w1 ⟨rfl, v1, H1, m1⟩
  have HM1 := hide (HV0.out.trans m1)
  have HT1 : Hid (w1.heap[w.heap.size]? = some (cmO cmZ (.slice none 0 0))) := (m1.1.block _ (lt_of_at _ ⟨_, HT0.out⟩) (by have := HP.out; simp; omega)).trans HT0.out
  have c4 := (HW1.out w1 v1 H1).1
  have HH1 := hide H1
  clear H1 m1 c3 HQ0 HT0 HV0
  go_wp2_with fail
  refine Calls.mono (HLN.out _ v1 HH1.out) ?_
  rintro e w2 ⟨a1, n1, c1, v2, rfl, hrow, H2, m2⟩
  have HM2 := hide (HM1.out.trans m2)
  have HT2 : Hid (w2.heap[w.heap.size]? = some (cmO cmZ (.slice none 0 0))) := (m2.1.block _ (lt_of_at _ ⟨_, HT1.out⟩) (by have := HP.out; simp; omega)).trans HT1.out
  have hkA : Below w2.heap.size w2 (w2.alloc (.cells #[.string ⟨#[]⟩, .string ⟨#[]⟩, .slice none 0 0, .string ⟨#[]⟩, .int .u32 0, .int .i64 0, .int .u64 0, .int .u64 0, .bool false, .bool false, .bool false, .bool false] 33)) := (Below.refl _ _).alloc (Nat.le_refl _) _
  have HP3 := HA2.out.below _ _ _ H2 hkA
  have HR3 := hrow.later hkA
  have HN3 : (w2.alloc (.cells #[.string ⟨#[]⟩, .string ⟨#[]⟩, .slice none 0 0, .string ⟨#[]⟩, .int .u32 0, .int .i64 0, .int .u64 0, .int .u64 0, .bool false, .bool false, .bool false, .bool false] 33)).heap[w2.heap.size]? = some (cmO cmZ (.slice none 0 0)) := heap_alloc_new _ _
  have HT3 := (hkA.block _ (lt_of_at _ ⟨_, HT2.out⟩)).trans HT2.out
  have HM3 := HM2.out.trans (PMv.of_below (p := p) (v := v2) hkA)
  have HL2 : Hid (w.heap.size < w2.heap.size) := lt_of_at _ ⟨_, HT2.out⟩
  have hp2 : p < w2.heap.size := HA2.out.lt _ _ H2
  have HTh := there_cmz HN3
  clear H2 m2 hrow hkA HM1 HT1 c4 HH1
  simp only []
  repeat (fail_if_success (refine store_stepA (r := r) (a := a1) (n := n1) (c := c1) rfl _ _ rfl w2.heap.size rfl rfl HTh ?_)); go_step
  refine store_stepA (r := r) (a := a1) (n := n1) (c := c1) rfl _ _ rfl w2.heap.size rfl rfl HTh ?_
  have hkc := keep_cm (w2.alloc (.cells #[.string ⟨#[]⟩, .string ⟨#[]⟩, .slice none 0 0, .string ⟨#[]⟩, .int .u32 0, .int .i64 0, .int .u64 0, .int .u64 0, .bool false, .bool false, .bool false, .bool false] 33)) w2.heap.size r (.slice a1 n1 c1)
  have PX := HA2.out.far _ _ _ _ _ _ HP3 HN3 (by omega) hkc
  have TX := (hkc.block _ (lt_of_at _ ⟨_, HT3⟩) (by have := HL2.out; simp; omega)).trans HT3
  have NX := heap_cm HN3 r (.slice a1 n1 c1)
  have RX := keep_row HR3 HN3 r (.slice a1 n1 c1)
  have MX : PMv w p v v2 ((w2.alloc (.cells #[.string ⟨#[]⟩, .string ⟨#[]⟩, .slice none 0 0, .string ⟨#[]⟩, .int .u32 0, .int .i64 0, .int .u64 0, .int .u64 0, .bool false, .bool false, .bool false, .bool false] 33)).setCells w2.heap.size 0 (cmL r (.slice a1 n1 c1))) := ⟨HM3.1.trans hkc (fun x hx => .inr (by simp only [List.mem_singleton] at hx; have := HL2.out; omega)), HM3.2⟩
  have hpt : p ≠ w.heap.size := by have := HP.out; omega
  have h4t : w2.heap.size ≠ w.heap.size := by have := HL2.out; omega
  have h4p : w2.heap.size ≠ p := by omega
  clear HTh HP3 HR3 HN3 HT3 HM3 HM2 HT2 hkc
  generalize (w2.alloc (.cells #[.string ⟨#[]⟩, .string ⟨#[]⟩, .slice none 0 0, .string ⟨#[]⟩, .int .u32 0, .int .i64 0, .int .u64 0, .int .u64 0, .bool false, .bool false, .bool false, .bool false] 33)).setCells w2.heap.size 0 (cmL r (.slice a1 n1 c1)) = X at *
  have HPX := hide PX
  have HTX := hide TX
  have HNX := hide NX
  have HRX := hide RX
  have HMX := hide MX
  obtain ⟨t4, ht4⟩ : ∃ t4, t4 = w2.heap.size := ⟨_, rfl⟩
  rw [← ht4] at HNX h4t h4p ⊢
  have HL4 : Hid (w.heap.size < t4) := by rw [ht4]; exact HL2.out
  clear PX TX NX RX MX ht4 hp2 HL2
  obtain ⟨p0, p1, p2, p3, p4, p5, p6, p7, p8, p9, p10, p11⟩ := CmAt.of HNX.out
  have hx := HPX.out
  rw [HP2.out] at hx
  obtain ⟨beg2, QX⟩ := hx
  have HQX : Hid (QAt X p v2 beg2 (pR 0 false c (.slice a0 n0 c0) left0 gone0) 51 F2 N) := QX
  have HTh : X.there p 4 12 := there_held QX
  have hmn : ((mm : Int) == -1) = false := by rw [beq_eq_false_iff_ne]; omega
  clear QX HPX HLN HA2 HP2
  go_step
  repeat (fail_if_success (refine store_stepP r a1 n1 c1 rfl _ _ rfl p rfl rfl HTh ?_)); first | go_step | (fail_if_success (apply wp_ret)); go_simp
  refine store_stepP r a1 n1 c1 rfl _ _ rfl p rfl rfl HTh ?_
  have QY := HQX.out.setCm r (.slice a1 n1 c1)
  have KY : Keep [p] X (X.setCells p 4 (cmL r (.slice a1 n1 c1))) := (Keep.refl _ _).setCells (.inl (by simp)) _ _
  have TY := (KY.block _ (lt_of_at _ ⟨_, HTX.out⟩) (by simp; omega)).trans HTX.out
  have RY := HRX.out.keepF (F := [p]) (fun x hx hxp => by
    obtain ⟨cs, fz, hc⟩ := HRX.out.kind x hx
    simp only [List.mem_singleton] at hxp
    rw [hxp, HQX.out.blk] at hc
    simp at hc) KY
  have MY : PMv w p v v2 (X.setCells p 4 (cmL r (.slice a1 n1 c1))) := ⟨HMX.out.1.trans KY (fun x hx => .inl hx), HMX.out.2⟩
  clear HTh HQX HTX HRX HMX KY HNX p0 p1 p2 p3 p4 p5 p6 p7 p8 p9 p10 p11
  generalize X.setCells p 4 (cmL r (.slice a1 n1 c1)) = Y at *
  have z16 : Y.cell? ⟨p, 16, none⟩ = some (.int .i64 (left0 : Int)) := QY.cellR 14 rfl
  have y16 : Y.frozen? ⟨p, 16, none⟩ = false := QY.blk.frozen 16
  have QZ : PM (Y.setCell ⟨p, 16, none⟩ (.int .i64 (mm : Int))) p v2 beg2 0 false r (.slice a1 n1 c1) mm gone0 F2 N := QY.setR 14 (.int .i64 (mm : Int))
  have KZ : Keep [p] Y (Y.setCell ⟨p, 16, none⟩ (.int .i64 (mm : Int))) := (Keep.refl _ _).setCell (.inl (by simp)) _
  have HTV : Hid ((Y.setCell ⟨p, 16, none⟩ (.int .i64 (mm : Int))).heap[w.heap.size]? = some (cmO cmZ (.slice none 0 0))) := (KZ.block _ (lt_of_at _ ⟨_, TY⟩) (by simp; omega)).trans TY
  have RZ := RY.keepF (F := [p]) (fun x hx hxp => by
    obtain ⟨cs, fz, hc⟩ := RY.kind x hx
    simp only [List.mem_singleton] at hxp
    rw [hxp, QY.blk] at hc
    simp at hc) KZ
  have HMV : Hid (PMv w p v v2 (Y.setCell ⟨p, 16, none⟩ (.int .i64 (mm : Int)))) := ⟨MY.1.trans KZ (fun x hx => .inl hx), MY.2⟩
  have HDZ := hide (HDT.out _ v2 a1 n1 c1 ⟨beg2, QZ⟩ RZ)
  clear QY TY RY MY QZ KZ RZ HDT
  go_wp2_with fail
  refine Calls.mono HDZ.out ?_
  rintro e w5 ⟨a5, n5, c5, v5, rfl, hrow5, H5, m5⟩
  have HM5 := hide (HMV.out.trans m5)
  have HT5 : w5.heap[w.heap.size]? = some (cmO cmZ (.slice none 0 0)) := (m5.1.block _ (lt_of_at _ ⟨_, HTV.out⟩) (by have := HP.out; simp; omega)).trans HTV.out
  have HTh := there_cmz HT5
  have HP5 := hide H5
  have HR5 := hide hrow5
  clear H5 m5 hrow5 HMV HTV
  simp only []
  repeat (fail_if_success (refine store_stepA (r := r2) (a := a5) (n := n5) (c := c5) rfl _ _ rfl w.heap.size rfl rfl HTh ?_)); go_step
  refine store_stepA (r := r2) (a := a5) (n := n5) (c := c5) rfl _ _ rfl w.heap.size rfl rfl HTh ?_
  have hkc := keep_cm w5 w.heap.size r2 (.slice a5 n5 c5)
  have hp0 := HP.out
  have PX := HA3.out.far _ _ _ _ _ _ HP5.out HT5 (by omega) hkc
  have NX := heap_cm HT5 r2 (.slice a5 n5 c5)
  have RX := keep_row HR5.out HT5 r2 (.slice a5 n5 c5)
  have MX : PMv w p v v5 (w5.setCells w.heap.size 0 (cmL r2 (.slice a5 n5 c5))) := ⟨HM5.out.1.trans hkc (fun x hx => .inr (by simp only [List.mem_singleton] at hx; omega)), HM5.out.2⟩
  clear HTh HT5 HP5 HR5 HM5 hkc
  generalize w5.setCells w.heap.size 0 (cmL r2 (.slice a5 n5 c5)) = X5 at *
  have HPX5 := hide PX
  have HNX5 := hide NX
  have HRX5 := hide RX
  have HMX5 := hide MX
  clear PX NX RX MX
  go_wp2
  exact ret_cm2 rfl w.heap.size r2 (.slice a5 n5 c5) rfl HNX5.out rfl ⟨a5, n5, c5, v5, rfl, HRX5.out, HPX5.out, HMX5.out⟩
end Go.Proofs.Ytmfjaehajdephab
