/- The document's own Seg: Add, Evict. -/
import Derived.Test.YtgjgdhjnkbbceaaRf3
set_option linter.unusedVariables false
set_option linter.unusedSimpArgs false
set_option maxRecDepth 8000
namespace Go.Proofs.Ytgjgdhjnkbbceaa
open Go.RowKit Go.Deep Sgm Go.Shelf
theorem enter32 (args : Array Value) (w : World) : (callFunc 32 args).run Try.prog w = .ok (.enter 32 args) w := enters_of Try.func32 (by kernel_rfl) rfl args w
theorem run_pred (n m : Nat) (h : n = m + 1) (h9 : n ≤ 1000000) (X : World) : (binOp .sub 3 (.int .i64 (n : Int)) (.int .i64 1)).run Try.prog X = .ok (.int .i64 (m : Int)) X := by
  have e : IntKind.i64.wrap ((n : Int) - 1) = (m : Int) := by rw [IntKind.wrap_i64]; omega
  simp [go_sem, e]
theorem run_headN (g n cap k : Nat) (hk : k ≤ cap) (X : World) : (Instr.sliceAt 31 (.slice (some ⟨g, 0, none⟩) n cap) none (some (.int .i64 (k : Int))) none).run Try.prog X = .ok (.slice (some ⟨g, 0, none⟩) k cap) X := by
  simp [go_sem]
  intro h
  omega
/-- What stands while head is called, and behind the store of what came. -/
def DrC (W0 : World) (D : Value → World → Prop) (g b : Nat) (s : Nat) (u : Value) (W : World) : Prop := if s = 0 then W = W0 else if s = 1 then D u W else ∃ W1, D u W1 ∧ W = W1.setCell ⟨g, b, none⟩ u
theorem DrC.one {W0 W : World} {D : Value → World → Prop} {g b : Nat} {u : Value} (h : DrC W0 D g b 1 u W) : D u W := h
theorem DrC.two {W0 W : World} {D : Value → World → Prop} {g b : Nat} {u : Value} (h : DrC W0 D g b 2 u W) : ∃ W1, D u W1 ∧ W = W1.setCell ⟨g, b, none⟩ u := h
theorem DrC.mk2 {W0 W : World} {D : Value → World → Prop} {g b : Nat} {u : Value} (h : D u W) : DrC W0 D g b 2 u (W.setCell ⟨g, b, none⟩ u) := ⟨W, h, rfl⟩
def HdD (B : Nat) (E : World) (xs : List Nd) (u : Value) (W : World) : Prop := ∃ va vc, u = .slice va xs.length vc ∧ GR nodK B (.slice va xs.length vc) xs W ∧ Below E.heap.size E W ∧ ∀ q ∈ ownB (.slice va xs.length vc), E.heap.size ≤ q
/-- What stands while the document's rows are turned. -/
structure RSk (B r : Nat) (w : World) (s0 : St) (R : Nat → List Nd) (V : Nat → Value) (W : World) : Prop where
  rf : RfIn B W r V R
  off : OffR B w W
  perm : (ids (rs R).all).Perm (ids s0.all)
  szB : B ≤ W.heap.size
section
variable {B : Nat} {w w' W : World} {r k j n : Nat} {V : Nat → Value} {R : Nat → List Nd} {i : Int} {v : Value} {xs : List Nd} {s0 : St}
theorem RSk.len (h : RSk B r w s0 R V W) : (rs R).all.length = s0.all.length := ids_len h.perm
theorem rrow_le (hk : k < 3) : (R k).length ≤ (rs R).all.length := by
  match k, hk with
  | 0, _ => simp [rs, St.all]
  | 1, _ => simp [rs, St.all]; omega
  | 2, _ => simp [rs, St.all]; omega
theorem rs_row (hk : k < 3) : (rs R).row k = R k := by
  match k, hk with
  | 0, _ => rfl
  | 1, _ => rfl
  | 2, _ => rfl
theorem rs_stp {k' : Nat} {A : List Nd} {x : Nd} (hk : k < 3) (hs : R k = A ++ [x]) (hk' : (k = 2 ∧ k' = 1) ∨ (k < 2 ∧ k' = if x.2 then 1 else 2)) : rs (upV (upV R k A) k' ((x.1, false) :: upV R k A k')) = stp k (rs R) := by
  match k, hk with
  | 0, _ =>
    have e : rs R = ⟨A ++ [x], R 1, R 2⟩ := by simp [rs, hs]
    have hk2 := (hk'.resolve_left (fun q => by simp at q)).2
    rw [e, stp_h, hk2]
    cases hx : x.2 <;> simp [rs, upV, hx]
  | 1, _ =>
    have e : rs R = ⟨R 0, A ++ [x], R 2⟩ := by simp [rs, hs]
    have hk2 := (hk'.resolve_left (fun q => by simp at q)).2
    rw [e, stp_w, hk2]
    cases hx : x.2 <;> simp [rs, upV, hx]
  | 2, _ =>
    have e : rs R = ⟨R 0, R 1, A ++ [x]⟩ := by simp [rs, hs]
    have hk2 := (hk'.resolve_right (fun q => by simp at q)).2
    rw [e, stp_c, hk2]
    simp [rs, upV]
theorem rs_stp_len {k' : Nat} {A : List Nd} {x : Nd} (hk : k < 3) (hk' : k' < 3) (hs : R k = A ++ [x]) : (upV R k A k').length ≤ (rs R).all.length := by
  by_cases h : k' = k
  · subst h
    rw [upV_same]
    have := rrow_le (R := R) hk
    rw [hs] at this
    simp at this
    omega
  · rw [upV_other _ _ h]
    exact rrow_le hk'

/-! ### Add -/
def AdP (B r : Nat) (s : St) (i : Int) (w : World) (e : Ending) (w' : World) : Prop := e = .returned (.bool (!s.has i)) ∧ RfZ B r (addS i s) w' ∧ OffR B w w'
set_option maxHeartbeats 16000000 in
theorem radd_any (hB : B ≤ w.heap.size) (h : RfIn B w r V R) (nd : (rs R).Nd) (i : Int) (hn : (rs R).all.length < 100000) : Calls Try.prog 16 #[.pointer (some ⟨r, 0, none⟩), .int .i64 i] w (AdP B r (rs R) i w) := by
  have cH := hide (rhas_any h i (fun k hk => Nat.le_trans (rrow_le hk) (by omega)))
  cases hh : (rs R).has i with
  | true =>
    rw [hh] at cH
    have HE : Hid (∀ W, Below w.heap.size w W → AdP B r (rs R) i w (.returned (.bool false)) W) := fun W bW => ⟨by rw [hh]; rfl, ⟨Nat.le_trans hB bW.size, V, R, h.below bW, by rw [add_same hh]⟩, OffR.of_below bW hB⟩
    clear h hh hB hn nd
    go_enter Try.func16, Try.ntmps16
    go_wp2_with fail
    refine cH.out.mono ?_
    rintro e W ⟨rfl, bW⟩
    have HF := hide (HE.out W bW)
    clear cH HE bW
    go_wp2
    go_ret
    exact HF.out
  | false =>
    rw [hh] at cH
    obtain ⟨s0, hs0⟩ : ∃ s0 : St, s0 = ⟨(i, false) :: R 0, R 1, R 2⟩ := ⟨_, rfl⟩
    have hl0 : s0.all.length = (rs R).all.length + 1 := by rw [hs0]; simp [rs, St.all]
    have HL9 : Hid (s0.all.length ≤ 100000) := (by omega : s0.all.length ≤ 100000)
    obtain ⟨n0, hn0⟩ : ∃ n0, n0 = s0.all.length := ⟨_, rfl⟩
    have HT : Hid (addS i (rs R) = snk 1 (2 * n0 / 5) (snk 0 ((n0 + 4) / 5) s0)) := by
      show addS i (rs R) = _
      unfold addS
      rw [hh, hn0, hl0, hs0]
      rfl
    obtain ⟨q1, hq1⟩ : ∃ q1, q1 = (n0 + 4) / 5 := ⟨_, rfl⟩
    obtain ⟨q2, hq2⟩ : ∃ q2, q2 = 2 * n0 / 5 := ⟨_, rfl⟩
    rw [← hq1, ← hq2] at HT
    have d1 : ((n0 : Int) + 4) / 5 = (q1 : Int) := by omega
    have d2 : 2 * (n0 : Int) / 5 = (q2 : Int) := by omega
    have n9 : n0 ≤ 100000 := by omega
    have q19 : q1 ≤ 100000 := by omega
    have q29 : q2 ≤ 100000 := by omega
    -- head is called on hot
    have C1 : Hid (∀ W, Below w.heap.size w W → ∃ pa pc, W.cell? ⟨r, 0, none⟩ = some (.slice pa (R 0).length pc) ∧ Calls Try.prog 32 #[.slice pa (R 0).length pc, .int .i64 i] W fun e w2 => ∃ va vc, e = .returned (.slice va ((R 0).length + 1) vc) ∧ w2.cell? ⟨r, 0, none⟩ = some (.slice pa (R 0).length pc) ∧ w2.frozen? ⟨r, 0, none⟩ = false ∧ RSk B r w s0 (upV R 0 ((i, false) :: R 0)) (upV V 0 (.slice va ((R 0).length + 1) vc)) (w2.setCell ⟨r, 0, none⟩ (.slice va ((R 0).length + 1) vc))) := fun W bW => by
      have rW := h.below bW
      have gW := rW.row 0 (by decide)
      obtain ⟨pa, pc, hpv⟩ := gW.slice
      have c0 := rW.cell (k := 0) (by decide)
      rw [hpv] at c0
      rw [hpv] at gW
      refine ⟨pa, pc, c0, (rhead_any (Nat.le_trans hB bW.size) gW i (Nat.le_trans (rrow_le (R := R) (k := 0) (by decide)) (by omega))).mono ?_⟩
      rintro e w2 ⟨va, vc, rfl, g1, g2, g3⟩
      rw [List.length_cons] at g1 g3
      refine ⟨va, vc, rfl, (g2.cell (p := ⟨r, 0, none⟩) rW.own.lt).trans c0, (rW.below g2).own.frozen 0, rW.turn (k := 0) (by decide) (Keep.of_below g2) g1 (fun q hq => .inr (g3 q hq)), ?_, ?_, ?_⟩
      · refine (OffR.of_below bW hB).trans (rW.offR (Nat.le_trans hB bW.size) ?_)
        exact (Keep.of_below g2).setCell (p := ⟨r, 0, none⟩) (.inl (mem_fR.2 (.inl rfl))) _
      · rw [hs0]; simp [rs, upV]
      · rw [nblk_setCell]; exact Nat.le_trans hB (Nat.le_trans bW.size g2.size)
    have e0 : Hid (rs (upV R 0 ((i, false) :: R 0)) = s0) := by show rs _ = s0; rw [hs0]; simp [rs, upV]
    have Hn0 := hide hn0
    have Hhh := hide hh
    clear h hh hB hn nd hs0 hl0 hn0 hq1 hq2
    go_enter Try.func16, Try.ntmps16
    go_wp2_with fail
    refine cH.out.mono ?_
    rintro e W1 ⟨rfl, b1⟩
    obtain ⟨pa, pc, k0, c1'⟩ := C1.out W1 b1
    have c1 := hide c1'
    clear c1'
    obtain ⟨p0, hp0⟩ : ∃ p0, p0 = (R 0).length := ⟨_, rfl⟩
    rw [← hp0] at k0 c1
    have Hp0 := hide hp0
    clear cH C1 b1 hp0
    go_wp2_with fail
    refine c1.out.mono ?_
    rintro e W2 ⟨va, vc, rfl, k1, k3, S2'⟩
    have S2 := hide S2'
    clear S2'
    have c2 : Hid (Calls Try.prog 23 #[.pointer (some ⟨r, 0, none⟩)] (W2.setCell ⟨r, 0, none⟩ (.slice va (p0 + 1) vc)) fun e w' => e = .returned (.int .i64 (n0 : Int)) ∧ ∃ q, w' = (W2.setCell ⟨r, 0, none⟩ (.slice va (p0 + 1) vc)).drewN q) := by
      have := rlen_any S2.out.rf (by rw [S2.out.len]; exact HL9.out)
      rw [S2.out.len, ← Hn0.out] at this
      exact this
    clear c1 k0
    obtain ⟨V2, hV2⟩ : ∃ V2, V2 = upV V 0 (.slice va (p0 + 1) vc) := ⟨_, rfl⟩
    obtain ⟨R2, hR2⟩ : ∃ R2, R2 = upV R 0 ((i, false) :: R 0) := ⟨_, rfl⟩
    rw [← hV2, ← hR2] at S2
    rw [← hR2] at e0
    clear hV2 hR2
    go_wp2_with fail
    refine c2.out.mono ?_
    rintro e W3 ⟨rfl, qd, hq⟩
    have S3 : Hid (RSk B r w s0 R2 V2 W3) := by
      have b3 : Below (W2.setCell ⟨r, 0, none⟩ (.slice va (p0 + 1) vc)).heap.size (W2.setCell ⟨r, 0, none⟩ (.slice va (p0 + 1) vc)) W3 := by rw [hq]; exact ⟨rfl, rfl, rfl, Nat.le_refl _, fun _ _ => rfl⟩
      exact ⟨S2.out.rf.below b3, S2.out.off.trans (OffR.of_below b3 S2.out.szB), S2.out.perm, Nat.le_trans S2.out.szB b3.size⟩
    clear c2 hq S2 k1 k3
    go_wp2
    go_loopg [6] (mu ((rs R2).row 0)) (fun kx s6 wr => ∃ (V1 : Nat → Value) (R1 : Nat → List Nd), Hid (RSk B r w s0 R1 V1 wr ∧ snk 0 q1 (rs R1) = snk 0 q1 s0 ∧ mu ((rs R1).row 0) ≤ kx))
    case atStart => exact ⟨V2, R2, S3.out, by rw [e0.out], Nat.le_refl _⟩
    case round =>
      obtain ⟨V1, R1, I⟩ := hrel
      obtain ⟨va1, vc1, hv1⟩ := (I.out.1.rf.row 0 (by decide)).slice
      have kc := I.out.1.rf.cell (k := 0) (by decide)
      rw [hv1] at kc
      by_cases hgt : q1 < (R1 0).length
      · have hgt2 : (q1 : Int) < ((R1 0).length : Int) := by omega
        have hpos : 0 < (R1 0).length := by omega
        have HGT : Hid (q1 < ((rs R1).row 0).length) := hgt
        clear hv1 hgt
        obtain ⟨nn, hnn⟩ : ∃ nn, nn = (R1 0).length := ⟨_, rfl⟩
        rw [← hnn] at kc hgt2
        have hnn9 : nn ≤ 100000 := by rw [hnn]; exact Nat.le_trans (rrow_le (by decide)) (by rw [I.out.1.len]; exact HL9.out)
        clear hnn
        go_wp2
        clear kc hgt2 hnn9
        obtain ⟨A0, x, hs⟩ : ∃ (A0 : List Nd) (x : Nd), R1 0 = A0 ++ [x] := snoc_of hpos
        have hG := I.out.1.rf.row 0 (by decide)
        obtain ⟨g, c, hv⟩ := hG.form hpos
        have k2 := I.out.1.rf.cell (k := 0) (by decide)
        have HV := hide hv
        rw [hv] at k2 hG
        obtain ⟨m, hm⟩ : ∃ m, m = A0.length := ⟨_, rfl⟩
        obtain ⟨n, hn⟩ : ∃ n, n = (R1 0).length := ⟨_, rfl⟩
        have hnm : n = m + 1 := by rw [hn, hs, hm]; simp
        have gx : (R1 0)[m]? = some x := by rw [hs, hm]; simp
        rw [← hn] at k2 hG HV
        obtain ⟨x0, x1⟩ := hG.at0 gx
        have hnc : n ≤ c := by
          obtain ⟨_, c', hv', _, _, hle⟩ := hG.cell gx (r := 0) (u := .int .i64 x.1) rfl
          simp only [Value.slice.injEq] at hv'
          rw [hv'.2.2]; omega
        have hn9 : n ≤ 100000 := by rw [hn]; exact Nat.le_trans (rrow_le (by decide)) (by rw [I.out.1.len]; exact HL9.out)
        have HS := hide hs
        have HM := hide hm
        have HNM := hide hnm
        have HG := hide hG
        have HSU : Hid (∀ X, (binOp .sub 3 (.int .i64 (n : Int)) (.int .i64 1)).run Try.prog X = .ok (.int .i64 (m : Int)) X) := run_pred n m hnm (by omega)
        have HSL : Hid (∀ X, (Instr.sliceAt 31 (.slice (some ⟨g, 0, none⟩) n c) none (some (.int .i64 (m : Int))) none).run Try.prog X = .ok (.slice (some ⟨g, 0, none⟩) m c) X) := run_headN g n c m (by omega)
        have HBN : Hid (m < n) := (by omega : m < n)
        obtain ⟨xi, hxi⟩ : ∃ xi, xi = x.1 := ⟨_, rfl⟩
        obtain ⟨xu, hxu⟩ : ∃ xu, xu = x.2 := ⟨_, rfl⟩
        rw [← hxi] at x0
        rw [← hxu] at x1
        have HXI := hide hxi
        have HXU := hide hxu
        obtain ⟨A, hA⟩ : ∃ A, A = wr.drew := ⟨_, rfl⟩
        obtain ⟨N, hN⟩ : ∃ N, N = A.heap.size := ⟨_, rfl⟩
        have hNw : N = wr.heap.size := by rw [hN, hA]; rfl
        obtain ⟨A2, hA2⟩ : ∃ A2, A2 = (((A.alloc (.cells #[.int .i64 0, .bool false] 59)).setCell ⟨N, 0, none⟩ (.int .i64 xi)).setCell ⟨N, 1, none⟩ (.bool xu)) := ⟨_, rfl⟩
        have bA : Below wr.heap.size wr A := by rw [hA]; exact ⟨rfl, rfl, rfl, Nat.le_refl _, fun _ _ => rfl⟩
        have bA1 : Below wr.heap.size wr (A.alloc (.cells #[.int .i64 0, .bool false] 59)) := bA.alloc (by rw [hA]; exact Nat.le_refl _) _
        have nb : Blk (A.alloc (.cells #[.int .i64 0, .bool false] 59)) N [.int .i64 0, .bool false] 59 := by rw [hN]; exact Blk.new A _ 59
        have nb2 : Blk A2 N [.int .i64 xi, .bool xu] 59 := by rw [hA2]; exact (nb.set 0 _).set 1 _
        have bA2 : Below wr.heap.size wr A2 := by rw [hA2]; exact (bA1.setCell (p := ⟨N, 0, none⟩) (by show wr.heap.size ≤ N; omega) _).setCell (p := ⟨N, 1, none⟩) (by show wr.heap.size ≤ N; omega) _
        have rlt := I.out.1.rf.own.lt
        have glt : g < wr.heap.size := (hG.lt g (by simp [ownB, Value.ownBlock])).2
        have HF : Hid (∀ s W, s ≤ 1 → CC4 A (A.alloc (.cells #[.int .i64 0, .bool false] 59)) A2 A2 s W → W.cell? ⟨r, 0, none⟩ = some (.slice (some ⟨g, 0, none⟩) n c) ∧ W.cell? ⟨g, m * 2, none⟩ = some (.int .i64 xi) ∧ W.cell? ⟨g, m * 2 + 1, none⟩ = some (.bool xu)) := fun s W hs hc => by
          have key : ∀ Z, Below wr.heap.size wr Z → Z.cell? ⟨r, 0, none⟩ = some (.slice (some ⟨g, 0, none⟩) n c) ∧ Z.cell? ⟨g, m * 2, none⟩ = some (.int .i64 xi) ∧ Z.cell? ⟨g, m * 2 + 1, none⟩ = some (.bool xu) := fun Z hZ => ⟨(hZ.cell (p := ⟨r, 0, none⟩) rlt).trans k2, (hZ.cell (p := ⟨g, m * 2, none⟩) glt).trans x0, (hZ.cell (p := ⟨g, m * 2 + 1, none⟩) glt).trans x1⟩
          match s, hs, hc with
          | 0, _, hc => have hc : W = A := hc; subst hc; exact key _ bA
          | 1, _, hc => have hc : W = _ := hc; subst hc; exact key _ bA1
        have HW0 : Hid (Wr (A.alloc (.cells #[.int .i64 0, .bool false] 59)) ⟨N, 0, none⟩ ∧ Wr (A.alloc (.cells #[.int .i64 0, .bool false] 59)) ⟨N, 1, none⟩) := ⟨⟨⟨_, nb.cell (i := 0) rfl⟩, nb.frozen 0⟩, ⟨⟨_, nb.cell (i := 1) rfl⟩, nb.frozen 1⟩⟩
        have HA : Hid (CC4 A (A.alloc (.cells #[.int .i64 0, .bool false] 59)) A2 A2 0 { wr with drawn := wr.drawn + 1 }) := hA.symm
        have HNN := hide hN
        have HA2 := hide hA2
        -- behind it: the row one shorter
        obtain ⟨D, hD⟩ : ∃ D, D = A2.drew := ⟨_, rfl⟩
        obtain ⟨D1, hD1⟩ : ∃ D1, D1 = D.setCell ⟨r, 0, none⟩ (.slice (some ⟨g, 0, none⟩) m c) := ⟨_, rfl⟩
        have bD : Below wr.heap.size wr D := by rw [hD]; exact bA2.trans ⟨rfl, rfl, rfl, Nat.le_refl _, fun _ _ => rfl⟩
        have rD := I.out.1.rf.below bD
        have r2 : RfIn B D1 r (upV V1 0 (.slice (some ⟨g, 0, none⟩) m c)) (upV R1 0 A0) := by
          rw [hD1]
          have gD := rD.row 0 (by decide)
          rw [HV.out] at gD
          refine rD.turn (by decide) (Keep.refl _ D) (by
            have := GR.cut (n := m) (by rw [← hn]; exact gD) (by omega)
            rw [show (R1 0).take m = A0 by rw [hs, hm]; simp] at this
            exact this) (fun q hq => .inl (by rw [HV.out]; simpa [ownB, Value.ownBlock] using hq))
        have nb3 : Blk D1 N [.int .i64 xi, .bool xu] 59 := by
          rw [hD1]
          exact (nb2.same (by rw [hD]; rfl)).other (a := ⟨r, 0, none⟩) (fun e => by have e : N = r := e; omega) _
        have o1 : OffR B w D1 := by
          refine I.out.1.off.trans ((OffR.of_below bD I.out.1.szB).trans (rD.offR (Nat.le_trans I.out.1.szB bD.size) ?_))
          rw [hD1]
          exact (Keep.refl _ D).setCell (p := ⟨r, 0, none⟩) (.inl (mem_fR.2 (.inl rfl))) _
        have szD : B ≤ D1.heap.size := by rw [hD1, nblk_setCell]; exact Nat.le_trans I.out.1.szB bD.size
        have HG2 : Hid (∀ s W, s ≤ 0 → CC4 D D1 D1 D1 s W → W.cell? ⟨r, 0, none⟩ = some (.slice (some ⟨g, 0, none⟩) n c)) := fun s W hs hc => by
          obtain rfl : s = 0 := by omega
          have hc : W = D := hc
          subst hc
          exact (bD.cell (p := ⟨r, 0, none⟩) rlt).trans k2
        have HW1 : Hid (Wr D ⟨r, 0, none⟩) := ⟨⟨_, (bD.cell (p := ⟨r, 0, none⟩) rlt).trans k2⟩, rD.own.frozen 0⟩
        have HD : Hid (CC4 D D1 D1 D1 0 { A2 with drawn := A2.drawn + 1 }) := hD.symm
        have HD1 := hide hD1
        have HR2 := hide r2
        have HNB := hide nb3
        have HO1 := hide o1
        have HSZ := hide szD
        clear hv hG gx hnc hs hm hn hnm hA hN hNw hA2 bA bA1 nb nb2 bA2 rlt glt hD hD1 bD rD r2 nb3 o1 szD hxi hxu k2 x0 x1
        refine wp_region_chain (by kernel_rfl) (by kernel_rfl) (fun jx => ([.pointer (some ⟨r, 0, none⟩), .pointer (some ⟨r, 0, none⟩), .pointer (some ⟨r, 0, none⟩), .slice (some ⟨g, 0, none⟩) n c, .pointer (some ⟨r, 0, none⟩), .pointer (some ⟨r, 0, none⟩), .pointer (some ⟨r, 0, none⟩), .slice (some ⟨g, 0, none⟩) n c, .int .i64 (n : Int), .int .i64 (m : Int), .pointer (some ⟨g, m * 2, none⟩), .agg #[.int .i64 xi, .bool xu], .pointer (some ⟨N, 0, none⟩), undef] : List Value).getD jx undef) [12, 13] (by kernel_rfl) (CC4 A (A.alloc (.cells #[.int .i64 0, .bool false] 59)) A2 A2) (HA.out) ?_ ?_
        · intro jx ox hi sx w' ev hlm hks hc hin hout hcst hfn
          have hltx : jx < 14 := by
            have := (Array.getElem?_eq_some_iff.1 hi).1
            simpa using this
          match jx, hltx with
          | 0, _ =>
            simp only [List.getElem?_toArray, List.getElem?_cons_zero, List.getElem?_cons_succ, Option.some.injEq] at hi
            subst hi
            have e0 : ev (.tmp 0) = .pointer (some ⟨r, 0, none⟩) := hout 0 (by kernel_rfl) (show (0 : Nat) < 136 by decide)
            rw [if_neg (by decide)]
            refine .inl ⟨w', ?_, hc⟩
            show _ = Result.ok (Next.value (.pointer (some ⟨r, 0, none⟩))) w'
            simp [execOp, e0, hcst, go_sem]
          | 1, _ =>
            simp only [List.getElem?_toArray, List.getElem?_cons_zero, List.getElem?_cons_succ, Option.some.injEq] at hi
            subst hi
            have e0 : ev (.tmp 31) = .pointer (some ⟨r, 0, none⟩) := hin 31 0 ⟨0, .data⟩ (by kernel_rfl) (by simp) rfl rfl (show (31 : Nat) < 136 by decide)
            rw [if_neg (by decide)]
            refine .inl ⟨w', ?_, hc⟩
            show _ = Result.ok (Next.value (.pointer (some ⟨r, 0, none⟩))) w'
            simp [execOp, e0, hcst, go_sem]
          | 2, _ =>
            simp only [List.getElem?_toArray, List.getElem?_cons_zero, List.getElem?_cons_succ, Option.some.injEq] at hi
            subst hi
            have e0 : ev (.tmp 32) = .pointer (some ⟨r, 0, none⟩) := hin 32 1 ⟨1, .data⟩ (by kernel_rfl) (by simp) rfl rfl (show (32 : Nat) < 136 by decide)
            rw [if_neg (by decide)]
            refine .inl ⟨w', ?_, hc⟩
            show _ = Result.ok (Next.value (.pointer (some ⟨r, 0, none⟩))) w'
            simp [execOp, e0, hcst, go_sem]
          | 3, _ =>
            simp only [List.getElem?_toArray, List.getElem?_cons_zero, List.getElem?_cons_succ, Option.some.injEq] at hi
            subst hi
            have e0 : ev (.tmp 33) = .pointer (some ⟨r, 0, none⟩) := hin 33 2 ⟨2, .data⟩ (by kernel_rfl) (by simp) rfl rfl (show (33 : Nat) < 136 by decide)
            rw [if_neg (by decide)]
            have hl2 : sx ≤ 1 := Nat.le_trans hlm (Nat.le_of_eq (by kernel_rfl))
            refine .inl ⟨w', ?_, hc⟩
            show _ = Result.ok (Next.value (.slice (some ⟨g, 0, none⟩) n c)) w'
            have q1 := (HF.out sx w' (Nat.le_trans hl2 (by decide)) hc).1
            simp [execOp, e0, hcst, go_sem, q1]
          | 4, _ =>
            simp only [List.getElem?_toArray, List.getElem?_cons_zero, List.getElem?_cons_succ, Option.some.injEq] at hi
            subst hi
            have e0 : ev (.tmp 0) = .pointer (some ⟨r, 0, none⟩) := hout 0 (by kernel_rfl) (show (0 : Nat) < 136 by decide)
            rw [if_neg (by decide)]
            refine .inl ⟨w', ?_, hc⟩
            show _ = Result.ok (Next.value (.pointer (some ⟨r, 0, none⟩))) w'
            simp [execOp, e0, hcst, go_sem]
          | 5, _ =>
            simp only [List.getElem?_toArray, List.getElem?_cons_zero, List.getElem?_cons_succ, Option.some.injEq] at hi
            subst hi
            have e0 : ev (.tmp 35) = .pointer (some ⟨r, 0, none⟩) := hin 35 4 ⟨4, .data⟩ (by kernel_rfl) (by simp) rfl rfl (show (35 : Nat) < 136 by decide)
            rw [if_neg (by decide)]
            refine .inl ⟨w', ?_, hc⟩
            show _ = Result.ok (Next.value (.pointer (some ⟨r, 0, none⟩))) w'
            simp [execOp, e0, hcst, go_sem]
          | 6, _ =>
            simp only [List.getElem?_toArray, List.getElem?_cons_zero, List.getElem?_cons_succ, Option.some.injEq] at hi
            subst hi
            have e0 : ev (.tmp 36) = .pointer (some ⟨r, 0, none⟩) := hin 36 5 ⟨5, .data⟩ (by kernel_rfl) (by simp) rfl rfl (show (36 : Nat) < 136 by decide)
            rw [if_neg (by decide)]
            refine .inl ⟨w', ?_, hc⟩
            show _ = Result.ok (Next.value (.pointer (some ⟨r, 0, none⟩))) w'
            simp [execOp, e0, hcst, go_sem]
          | 7, _ =>
            simp only [List.getElem?_toArray, List.getElem?_cons_zero, List.getElem?_cons_succ, Option.some.injEq] at hi
            subst hi
            have e0 : ev (.tmp 37) = .pointer (some ⟨r, 0, none⟩) := hin 37 6 ⟨6, .data⟩ (by kernel_rfl) (by simp) rfl rfl (show (37 : Nat) < 136 by decide)
            rw [if_neg (by decide)]
            have hl2 : sx ≤ 1 := Nat.le_trans hlm (Nat.le_of_eq (by kernel_rfl))
            refine .inl ⟨w', ?_, hc⟩
            show _ = Result.ok (Next.value (.slice (some ⟨g, 0, none⟩) n c)) w'
            have q1 := (HF.out sx w' (Nat.le_trans hl2 (by decide)) hc).1
            simp [execOp, e0, hcst, go_sem, q1]
          | 8, _ =>
            simp only [List.getElem?_toArray, List.getElem?_cons_zero, List.getElem?_cons_succ, Option.some.injEq] at hi
            subst hi
            have e0 : ev (.tmp 38) = .slice (some ⟨g, 0, none⟩) n c := hin 38 7 ⟨7, .data⟩ (by kernel_rfl) (by simp) rfl rfl (show (38 : Nat) < 136 by decide)
            rw [if_neg (by decide)]
            refine .inl ⟨w', ?_, hc⟩
            show _ = Result.ok (Next.value (.int .i64 (n : Int))) w'
            simp [execOp, e0, hcst, resolve, invoke, builtin, Builtin.len_, Result.andThen, go_sem]
          | 9, _ =>
            simp only [List.getElem?_toArray, List.getElem?_cons_zero, List.getElem?_cons_succ, Option.some.injEq] at hi
            subst hi
            have e0 : ev (.tmp 39) = .int .i64 (n : Int) := hin 39 8 ⟨8, .data⟩ (by kernel_rfl) (by simp) rfl rfl (show (39 : Nat) < 136 by decide)
            rw [if_neg (by decide)]
            refine .inl ⟨w', ?_, hc⟩
            show _ = Result.ok (Next.value (.int .i64 (m : Int))) w'
            have q := HSU.out w'
            simp [execOp, e0, hcst, eqGuard, q, Result.andThen, pure, Sem.run]
          | 10, _ =>
            simp only [List.getElem?_toArray, List.getElem?_cons_zero, List.getElem?_cons_succ, Option.some.injEq] at hi
            subst hi
            have e0 : ev (.tmp 34) = .slice (some ⟨g, 0, none⟩) n c := hin 34 3 ⟨3, .data⟩ (by kernel_rfl) (by simp) rfl rfl (show (34 : Nat) < 136 by decide)
            have e1 : ev (.tmp 40) = .int .i64 (m : Int) := hin 40 9 ⟨9, .data⟩ (by kernel_rfl) (by simp) rfl rfl (show (40 : Nat) < 136 by decide)
            rw [if_neg (by decide)]
            refine .inl ⟨w', ?_, hc⟩
            show _ = Result.ok (Next.value (.pointer (some ⟨g, m * 2, none⟩))) w'
            have q := HBN.out
            simp [execOp, e0, e1, hcst, go_sem, q]
          | 11, _ =>
            simp only [List.getElem?_toArray, List.getElem?_cons_zero, List.getElem?_cons_succ, Option.some.injEq] at hi
            subst hi
            have e0 : ev (.tmp 41) = .pointer (some ⟨g, m * 2, none⟩) := hin 41 10 ⟨10, .data⟩ (by kernel_rfl) (by simp) rfl rfl (show (41 : Nat) < 136 by decide)
            rw [if_neg (by decide)]
            have hl2 : sx ≤ 1 := Nat.le_trans hlm (Nat.le_of_eq (by kernel_rfl))
            refine .inl ⟨w', ?_, hc⟩
            show _ = Result.ok (Next.value (.agg #[.int .i64 xi, .bool xu])) w'
            have q1 := (HF.out sx w' (Nat.le_trans hl2 (by decide)) hc).2.1
            have q2 := (HF.out sx w' (Nat.le_trans hl2 (by decide)) hc).2.2
            simp [execOp, e0, hcst, go_sem, q1, q2]
          | 12, _ =>
            simp only [List.getElem?_toArray, List.getElem?_cons_zero, List.getElem?_cons_succ, Option.some.injEq] at hi
            subst hi
            rw [if_pos (by decide)]
            have hsx : sx = 0 := hks 0 rfl
            subst hsx
            have hw : w' = A := hc
            subst hw
            have q := HNN.out
            refine .inl ⟨_, ?_, rfl⟩
            simp [execOp, go_sem, q]
          | 13, _ =>
            simp only [List.getElem?_toArray, List.getElem?_cons_zero, List.getElem?_cons_succ, Option.some.injEq] at hi
            subst hi
            have e0 : ev (.tmp 6) = .pointer (some ⟨N, 0, none⟩) := hin 6 12 ⟨12, .data⟩ (by kernel_rfl) (by simp) rfl rfl (show (6 : Nat) < 136 by decide)
            have e1 : ev (.tmp 42) = .agg #[.int .i64 xi, .bool xu] := hin 42 11 ⟨11, .data⟩ (by kernel_rfl) (by simp) rfl rfl (show (42 : Nat) < 136 by decide)
            rw [if_pos (by decide)]
            have hsx : sx = 1 := hks 1 rfl
            subst hsx
            have hw : w' = (A.alloc (.cells #[.int .i64 0, .bool false] 59)) := hc
            subst hw
            refine .inr (.inl ⟨rfl, A2, ?_, rfl⟩)
            have q3 := HA2.out
            rw [q3]
            obtain ⟨⟨v0, q1⟩, q2⟩ := HW0.out.1
            obtain ⟨⟨v1, q4⟩, q5⟩ := HW0.out.2
            simp [execOp, e0, e1, hcst, go_sem, q1, q2, q4, q5, Result.andThen]
        · intro w9 hc
          simp only [lexF, Act.put, List.setIfInBounds_toArray, List.set_cons_succ, List.set_cons_zero, List.getD_cons_succ, List.getD_cons_zero]
          have hw : w9 = A2 := hc
          subst hw
          clear HF HW0 HA HNN HA2 hc HBN
          go_wp2
          refine wp_region_chain (by kernel_rfl) (by kernel_rfl) (fun jx => ([.pointer (some ⟨r, 0, none⟩), .pointer (some ⟨r, 0, none⟩), .pointer (some ⟨r, 0, none⟩), .pointer (some ⟨r, 0, none⟩), .slice (some ⟨g, 0, none⟩) n c, .pointer (some ⟨r, 0, none⟩), .pointer (some ⟨r, 0, none⟩), .pointer (some ⟨r, 0, none⟩), .slice (some ⟨g, 0, none⟩) n c, .int .i64 (n : Int), .int .i64 (m : Int), .slice (some ⟨g, 0, none⟩) m c, .pointer (some ⟨r, 0, none⟩), .pointer (some ⟨r, 0, none⟩), undef] : List Value).getD jx undef) [14] (by kernel_rfl) (CC4 D D1 D1 D1) (HD.out) ?_ ?_
          · intro jx ox hi sx w' ev hlm hks hc hin hout hcst hfn
            have hltx : jx < 15 := by
              have := (Array.getElem?_eq_some_iff.1 hi).1
              simpa using this
            match jx, hltx with
            | 0, _ =>
              simp only [List.getElem?_toArray, List.getElem?_cons_zero, List.getElem?_cons_succ, Option.some.injEq] at hi
              subst hi
              have e0 : ev (.tmp 0) = .pointer (some ⟨r, 0, none⟩) := hout 0 (by kernel_rfl) (show (0 : Nat) < 136 by decide)
              rw [if_neg (by decide)]
              refine .inl ⟨w', ?_, hc⟩
              show _ = Result.ok (Next.value (.pointer (some ⟨r, 0, none⟩))) w'
              simp [execOp, e0, hcst, go_sem]
            | 1, _ =>
              simp only [List.getElem?_toArray, List.getElem?_cons_zero, List.getElem?_cons_succ, Option.some.injEq] at hi
              subst hi
              have e0 : ev (.tmp 0) = .pointer (some ⟨r, 0, none⟩) := hout 0 (by kernel_rfl) (show (0 : Nat) < 136 by decide)
              rw [if_neg (by decide)]
              refine .inl ⟨w', ?_, hc⟩
              show _ = Result.ok (Next.value (.pointer (some ⟨r, 0, none⟩))) w'
              simp [execOp, e0, hcst, go_sem]
            | 2, _ =>
              simp only [List.getElem?_toArray, List.getElem?_cons_zero, List.getElem?_cons_succ, Option.some.injEq] at hi
              subst hi
              have e0 : ev (.tmp 44) = .pointer (some ⟨r, 0, none⟩) := hin 44 1 ⟨1, .data⟩ (by kernel_rfl) (by simp) rfl rfl (show (44 : Nat) < 136 by decide)
              rw [if_neg (by decide)]
              refine .inl ⟨w', ?_, hc⟩
              show _ = Result.ok (Next.value (.pointer (some ⟨r, 0, none⟩))) w'
              simp [execOp, e0, hcst, go_sem]
            | 3, _ =>
              simp only [List.getElem?_toArray, List.getElem?_cons_zero, List.getElem?_cons_succ, Option.some.injEq] at hi
              subst hi
              have e0 : ev (.tmp 45) = .pointer (some ⟨r, 0, none⟩) := hin 45 2 ⟨2, .data⟩ (by kernel_rfl) (by simp) rfl rfl (show (45 : Nat) < 136 by decide)
              rw [if_neg (by decide)]
              refine .inl ⟨w', ?_, hc⟩
              show _ = Result.ok (Next.value (.pointer (some ⟨r, 0, none⟩))) w'
              simp [execOp, e0, hcst, go_sem]
            | 4, _ =>
              simp only [List.getElem?_toArray, List.getElem?_cons_zero, List.getElem?_cons_succ, Option.some.injEq] at hi
              subst hi
              have e0 : ev (.tmp 46) = .pointer (some ⟨r, 0, none⟩) := hin 46 3 ⟨3, .data⟩ (by kernel_rfl) (by simp) rfl rfl (show (46 : Nat) < 136 by decide)
              rw [if_neg (by decide)]
              have hl2 : sx ≤ 0 := Nat.le_trans hlm (Nat.le_of_eq (by kernel_rfl))
              refine .inl ⟨w', ?_, hc⟩
              show _ = Result.ok (Next.value (.slice (some ⟨g, 0, none⟩) n c)) w'
              have q1 := (HG2.out sx w' (Nat.le_trans hl2 (by decide)) hc)
              simp [execOp, e0, hcst, go_sem, q1]
            | 5, _ =>
              simp only [List.getElem?_toArray, List.getElem?_cons_zero, List.getElem?_cons_succ, Option.some.injEq] at hi
              subst hi
              have e0 : ev (.tmp 0) = .pointer (some ⟨r, 0, none⟩) := hout 0 (by kernel_rfl) (show (0 : Nat) < 136 by decide)
              rw [if_neg (by decide)]
              refine .inl ⟨w', ?_, hc⟩
              show _ = Result.ok (Next.value (.pointer (some ⟨r, 0, none⟩))) w'
              simp [execOp, e0, hcst, go_sem]
            | 6, _ =>
              simp only [List.getElem?_toArray, List.getElem?_cons_zero, List.getElem?_cons_succ, Option.some.injEq] at hi
              subst hi
              have e0 : ev (.tmp 48) = .pointer (some ⟨r, 0, none⟩) := hin 48 5 ⟨5, .data⟩ (by kernel_rfl) (by simp) rfl rfl (show (48 : Nat) < 136 by decide)
              rw [if_neg (by decide)]
              refine .inl ⟨w', ?_, hc⟩
              show _ = Result.ok (Next.value (.pointer (some ⟨r, 0, none⟩))) w'
              simp [execOp, e0, hcst, go_sem]
            | 7, _ =>
              simp only [List.getElem?_toArray, List.getElem?_cons_zero, List.getElem?_cons_succ, Option.some.injEq] at hi
              subst hi
              have e0 : ev (.tmp 49) = .pointer (some ⟨r, 0, none⟩) := hin 49 6 ⟨6, .data⟩ (by kernel_rfl) (by simp) rfl rfl (show (49 : Nat) < 136 by decide)
              rw [if_neg (by decide)]
              refine .inl ⟨w', ?_, hc⟩
              show _ = Result.ok (Next.value (.pointer (some ⟨r, 0, none⟩))) w'
              simp [execOp, e0, hcst, go_sem]
            | 8, _ =>
              simp only [List.getElem?_toArray, List.getElem?_cons_zero, List.getElem?_cons_succ, Option.some.injEq] at hi
              subst hi
              have e0 : ev (.tmp 50) = .pointer (some ⟨r, 0, none⟩) := hin 50 7 ⟨7, .data⟩ (by kernel_rfl) (by simp) rfl rfl (show (50 : Nat) < 136 by decide)
              rw [if_neg (by decide)]
              have hl2 : sx ≤ 0 := Nat.le_trans hlm (Nat.le_of_eq (by kernel_rfl))
              refine .inl ⟨w', ?_, hc⟩
              show _ = Result.ok (Next.value (.slice (some ⟨g, 0, none⟩) n c)) w'
              have q1 := (HG2.out sx w' (Nat.le_trans hl2 (by decide)) hc)
              simp [execOp, e0, hcst, go_sem, q1]
            | 9, _ =>
              simp only [List.getElem?_toArray, List.getElem?_cons_zero, List.getElem?_cons_succ, Option.some.injEq] at hi
              subst hi
              have e0 : ev (.tmp 51) = .slice (some ⟨g, 0, none⟩) n c := hin 51 8 ⟨8, .data⟩ (by kernel_rfl) (by simp) rfl rfl (show (51 : Nat) < 136 by decide)
              rw [if_neg (by decide)]
              refine .inl ⟨w', ?_, hc⟩
              show _ = Result.ok (Next.value (.int .i64 (n : Int))) w'
              simp [execOp, e0, hcst, resolve, invoke, builtin, Builtin.len_, Result.andThen, go_sem]
            | 10, _ =>
              simp only [List.getElem?_toArray, List.getElem?_cons_zero, List.getElem?_cons_succ, Option.some.injEq] at hi
              subst hi
              have e0 : ev (.tmp 52) = .int .i64 (n : Int) := hin 52 9 ⟨9, .data⟩ (by kernel_rfl) (by simp) rfl rfl (show (52 : Nat) < 136 by decide)
              rw [if_neg (by decide)]
              refine .inl ⟨w', ?_, hc⟩
              show _ = Result.ok (Next.value (.int .i64 (m : Int))) w'
              have q := HSU.out w'
              simp [execOp, e0, hcst, eqGuard, q, Result.andThen, pure, Sem.run]
            | 11, _ =>
              simp only [List.getElem?_toArray, List.getElem?_cons_zero, List.getElem?_cons_succ, Option.some.injEq] at hi
              subst hi
              have e0 : ev (.tmp 47) = .slice (some ⟨g, 0, none⟩) n c := hin 47 4 ⟨4, .data⟩ (by kernel_rfl) (by simp) rfl rfl (show (47 : Nat) < 136 by decide)
              have e1 : ev (.tmp 53) = .int .i64 (m : Int) := hin 53 10 ⟨10, .data⟩ (by kernel_rfl) (by simp) rfl rfl (show (53 : Nat) < 136 by decide)
              rw [if_neg (by decide)]
              refine .inl ⟨w', ?_, hc⟩
              show _ = Result.ok (Next.value (.slice (some ⟨g, 0, none⟩) m c)) w'
              have q := HSL.out w'
              simp [execOp, e0, e1, hcst, q, Result.andThen]
            | 12, _ =>
              simp only [List.getElem?_toArray, List.getElem?_cons_zero, List.getElem?_cons_succ, Option.some.injEq] at hi
              subst hi
              have e0 : ev (.tmp 43) = .pointer (some ⟨r, 0, none⟩) := hin 43 0 ⟨0, .data⟩ (by kernel_rfl) (by simp) rfl rfl (show (43 : Nat) < 136 by decide)
              rw [if_neg (by decide)]
              refine .inl ⟨w', ?_, hc⟩
              show _ = Result.ok (Next.value (.pointer (some ⟨r, 0, none⟩))) w'
              simp [execOp, e0, hcst, go_sem]
            | 13, _ =>
              simp only [List.getElem?_toArray, List.getElem?_cons_zero, List.getElem?_cons_succ, Option.some.injEq] at hi
              subst hi
              have e0 : ev (.tmp 55) = .pointer (some ⟨r, 0, none⟩) := hin 55 12 ⟨12, .data⟩ (by kernel_rfl) (by simp) rfl rfl (show (55 : Nat) < 136 by decide)
              rw [if_neg (by decide)]
              refine .inl ⟨w', ?_, hc⟩
              show _ = Result.ok (Next.value (.pointer (some ⟨r, 0, none⟩))) w'
              simp [execOp, e0, hcst, go_sem]
            | 14, _ =>
              simp only [List.getElem?_toArray, List.getElem?_cons_zero, List.getElem?_cons_succ, Option.some.injEq] at hi
              subst hi
              have e0 : ev (.tmp 56) = .pointer (some ⟨r, 0, none⟩) := hin 56 13 ⟨13, .data⟩ (by kernel_rfl) (by simp) rfl rfl (show (56 : Nat) < 136 by decide)
              have e1 : ev (.tmp 54) = .slice (some ⟨g, 0, none⟩) m c := hin 54 11 ⟨11, .data⟩ (by kernel_rfl) (by simp) rfl rfl (show (54 : Nat) < 136 by decide)
              rw [if_pos (by decide)]
              have hsx : sx = 0 := hks 0 rfl
              subst hsx
              have hw : w' = D := hc
              subst hw
              refine .inr (.inl ⟨rfl, D1, ?_, rfl⟩)
              have q3 := HD1.out
              rw [q3]
              obtain ⟨⟨v0, q1⟩, q2⟩ := HW1.out
              simp [execOp, e0, e1, hcst, go_sem, q1, q2, Result.andThen]
          · intro w9 hc
            simp only [lexF, Act.put, List.setIfInBounds_toArray, List.set_cons_succ, List.set_cons_zero, List.getD_cons_succ, List.getD_cons_zero]
            have hw : w9 = D1 := hc
            subst hw
            clear HG2 HW1 HD HD1 hc HSU HSL
            have b1 := HNB.out.cell (i := 1) rfl
            cases hu : xu with
            | true =>
              rw [hu] at b1 HXU
              go_wp2
              clear b1
              have hP := HR2.out.row 1 (by decide)
              obtain ⟨pa, pc, hpv⟩ := hP.slice
              have p2 := HR2.out.cell (k := 1) (by decide)
              obtain ⟨V2, hV2⟩ : ∃ V2, V2 = upV V1 0 (.slice (some ⟨g, 0, none⟩) m c) := ⟨_, rfl⟩
              obtain ⟨R2, hR2⟩ : ∃ R2, R2 = upV R1 0 A0 := ⟨_, rfl⟩
              rw [← hV2] at HR2 hpv p2 hP
              rw [← hR2] at HR2 hpv hP
              have hV3 := HR2.out
              obtain ⟨pn, hpn⟩ : ∃ pn, pn = (R2 1).length := ⟨_, rfl⟩
              rw [← hpn] at hpv
              rw [hpv] at p2
              obtain ⟨E, hE⟩ : ∃ E, E = w9.drew := ⟨_, rfl⟩
              have bE : Below w9.heap.size w9 E := by rw [hE]; exact ⟨rfl, rfl, rfl, Nat.le_refl _, fun _ _ => rfl⟩
              have hEs : E.heap.size = w9.heap.size := by rw [hE]; rfl
              obtain ⟨ys, hys⟩ : ∃ ys : List Nd, ys = (xi, false) :: R2 1 := ⟨_, rfl⟩
              have rE := hV3.below bE
              have hl2 : (R2 1).length ≤ 100000 := by
                have h1 := rs_stp_len (R := R1) (k := 0) (k' := 1) (by decide) (by decide) HS.out
                have h2 := I.out.1.len
                have h3 := HL9.out
                rw [hR2]
                omega
              have CP : Hid (∀ W, DrC E (HdD B E ys) r 1 0 undef W → Calls Try.prog 32 #[.slice pa pn pc, .int .i64 xi] W fun e w2 => ∃ v, e = .returned v ∧ DrC E (HdD B E ys) r 1 1 v w2) := fun W hW => by
                have hW : W = E := hW
                subst hW
                have gE := rE.row 1 (by decide)
                rw [hpv] at gE
                refine (rhead_any (by rw [hEs]; exact HSZ.out) gE xi hl2).mono ?_
                rintro e w2 ⟨va, vc, rfl, g1, g2, g3⟩
                rw [← hys] at g1 g3 ⊢
                exact ⟨_, rfl, va, vc, rfl, g1, g2, g3⟩
              have HF3 : Hid (∀ s u W, s ≤ 1 → DrC E (HdD B E ys) r 1 s u W → W.cell? ⟨r, 1, none⟩ = some (.slice pa pn pc) ∧ W.cell? ⟨N, 0, none⟩ = some (.int .i64 xi) ∧ W.frozen? ⟨r, 1, none⟩ = false) := fun s u W hs hc => by
                have key : ∀ Z, Below w9.heap.size w9 Z → Z.cell? ⟨r, 1, none⟩ = some (.slice pa pn pc) ∧ Z.cell? ⟨N, 0, none⟩ = some (.int .i64 xi) ∧ Z.frozen? ⟨r, 1, none⟩ = false := fun Z hZ => ⟨(hZ.cell (p := ⟨r, 1, none⟩) hV3.own.lt).trans p2, (hZ.cell (p := ⟨N, 0, none⟩) HNB.out.lt).trans (HNB.out.cell (i := 0) rfl), (hV3.below hZ).own.frozen 1⟩
                match s, hs, hc with
                | 0, _, hc => have hc : W = E := hc; subst hc; exact key _ bE
                | 1, _, hc =>
                  obtain ⟨_, _, _, _, h4, _⟩ := DrC.one hc
                  exact key _ (bE.trans (by rw [← hEs]; exact h4))
              have HE3 : Hid (DrC E (HdD B E ys) r 1 0 undef { w9 with drawn := w9.drawn + 1 }) := hE.symm
              have HEND : Hid (∀ u W, DrC E (HdD B E ys) r 1 2 u W → ∃ V3 R3, RSk B r w s0 R3 V3 W ∧ rs R3 = stp 0 (rs R1)) := fun u W hc => by
                obtain ⟨W1, ⟨va, vc, rfl, g1, g2, g3⟩, rfl⟩ := DrC.two hc
                have t3 := rE.turn (k := 1) (by decide) (Keep.of_below g2) g1 (fun q hq => .inr (g3 q hq))
                have e1 : rs (upV R2 1 ys) = stp 0 (rs R1) := by
                  rw [hys, hR2, HXI.out]
                  exact rs_stp (by decide) HS.out (.inr ⟨by decide, by rw [← HXU.out]; rfl⟩)
                refine ⟨_, _, ⟨t3, ?_, ?_, ?_⟩, e1⟩
                · refine HO1.out.trans ((OffR.of_below bE HSZ.out).trans (rE.offR (by rw [hEs]; exact HSZ.out) ?_))
                  exact (Keep.of_below g2).setCell (p := ⟨r, 1, none⟩) (.inl (mem_fR.2 (.inl rfl))) _
                · rw [e1]
                  exact (stp_perm (by decide) (rs R1)).trans I.out.1.perm
                · rw [nblk_setCell]
                  exact Nat.le_trans (by rw [hEs]; exact HSZ.out) g2.size
              clear hP hpv p2 hV2 hV3 hpn hE bE hEs rE hl2 HNB HR2 HO1 HSZ
              refine wp_region_cx (by kernel_rfl) (by kernel_rfl) (fun u jx => ([.pointer (some ⟨r, 0, none⟩), .pointer (some ⟨r, 0, none⟩), .pointer (some ⟨r, 0, none⟩), .pointer (some ⟨r, 1, none⟩), .slice pa pn pc, .pointer (some ⟨N, 0, none⟩), .int .i64 xi, u, .pointer (some ⟨r, 0, none⟩), .pointer (some ⟨r, 1, none⟩), undef] : List Value).getD jx undef) 7 [7, 10] [10] (by kernel_rfl) (by kernel_rfl) rfl (fun _ => rfl) (fun v v' jx h1 h2 => by match jx with | 0 => rfl | 1 => rfl | 2 => rfl | 3 => rfl | 4 => rfl | 5 => rfl | 6 => rfl | 7 => exact absurd rfl h2 | 8 => rfl | 9 => rfl | 10 => exact absurd (by decide) h1 | _ + 11 => rfl) (DrC E (HdD B E ys) r 1) (HE3.out) ?_ ?_
              · intro jx ox hi sx u w' ev hlm hks hdp hc hin hout hcst hfn
                have hltx : jx < 11 := by
                  have := (Array.getElem?_eq_some_iff.1 hi).1
                  simpa using this
                match jx, hltx with
                | 0, _ =>
                  simp only [List.getElem?_toArray, List.getElem?_cons_zero, List.getElem?_cons_succ, Option.some.injEq] at hi
                  subst hi
                  have e0 : ev (.tmp 0) = .pointer (some ⟨r, 0, none⟩) := hout 0 (by kernel_rfl) (show (0 : Nat) < 136 by decide)
                  refine .inl ⟨.pointer (some ⟨r, 0, none⟩), w', ?_, by show ite _ _ _; rw [if_neg (by decide), if_neg (by decide)]; exact ⟨rfl, hc⟩⟩
                  simp [execOp, e0, hcst, go_sem]
                | 1, _ =>
                  simp only [List.getElem?_toArray, List.getElem?_cons_zero, List.getElem?_cons_succ, Option.some.injEq] at hi
                  subst hi
                  have e0 : ev (.tmp 0) = .pointer (some ⟨r, 0, none⟩) := hout 0 (by kernel_rfl) (show (0 : Nat) < 136 by decide)
                  refine .inl ⟨.pointer (some ⟨r, 0, none⟩), w', ?_, by show ite _ _ _; rw [if_neg (by decide), if_neg (by decide)]; exact ⟨rfl, hc⟩⟩
                  simp [execOp, e0, hcst, go_sem]
                | 2, _ =>
                  simp only [List.getElem?_toArray, List.getElem?_cons_zero, List.getElem?_cons_succ, Option.some.injEq] at hi
                  subst hi
                  have e0 : ev (.tmp 60) = .pointer (some ⟨r, 0, none⟩) := hin 60 1 ⟨1, .data⟩ (by kernel_rfl) (by simp) rfl rfl (show (60 : Nat) < 136 by decide)
                  refine .inl ⟨.pointer (some ⟨r, 0, none⟩), w', ?_, by show ite _ _ _; rw [if_neg (by decide), if_neg (by decide)]; exact ⟨rfl, hc⟩⟩
                  simp [execOp, e0, hcst, go_sem]
                | 3, _ =>
                  simp only [List.getElem?_toArray, List.getElem?_cons_zero, List.getElem?_cons_succ, Option.some.injEq] at hi
                  subst hi
                  have e0 : ev (.tmp 61) = .pointer (some ⟨r, 0, none⟩) := hin 61 2 ⟨2, .data⟩ (by kernel_rfl) (by simp) rfl rfl (show (61 : Nat) < 136 by decide)
                  refine .inl ⟨.pointer (some ⟨r, 1, none⟩), w', ?_, by show ite _ _ _; rw [if_neg (by decide), if_neg (by decide)]; exact ⟨rfl, hc⟩⟩
                  simp [execOp, e0, hcst, go_sem]
                | 4, _ =>
                  simp only [List.getElem?_toArray, List.getElem?_cons_zero, List.getElem?_cons_succ, Option.some.injEq] at hi
                  subst hi
                  have e0 : ev (.tmp 62) = .pointer (some ⟨r, 1, none⟩) := hin 62 3 ⟨3, .data⟩ (by kernel_rfl) (by simp) rfl rfl (show (62 : Nat) < 136 by decide)
                  refine .inl ⟨.slice pa pn pc, w', ?_, by show ite _ _ _; rw [if_neg (by decide), if_neg (by decide)]; exact ⟨rfl, hc⟩⟩
                  have hl2 : sx ≤ 0 := Nat.le_trans hlm (Nat.le_of_eq (by kernel_rfl))
                  have q := (HF3.out sx u w' (by omega) hc).1
                  simp [execOp, e0, hcst, go_sem, q]
                | 5, _ =>
                  simp only [List.getElem?_toArray, List.getElem?_cons_zero, List.getElem?_cons_succ, Option.some.injEq] at hi
                  subst hi
                  have e0 : ev (.tmp 6) = .pointer (some ⟨N, 0, none⟩) := hout 6 (by kernel_rfl) (show (6 : Nat) < 136 by decide)
                  refine .inl ⟨.pointer (some ⟨N, 0, none⟩), w', ?_, by show ite _ _ _; rw [if_neg (by decide), if_neg (by decide)]; exact ⟨rfl, hc⟩⟩
                  simp [execOp, e0, hcst, go_sem]
                | 6, _ =>
                  simp only [List.getElem?_toArray, List.getElem?_cons_zero, List.getElem?_cons_succ, Option.some.injEq] at hi
                  subst hi
                  have e0 : ev (.tmp 64) = .pointer (some ⟨N, 0, none⟩) := hin 64 5 ⟨5, .data⟩ (by kernel_rfl) (by simp) rfl rfl (show (64 : Nat) < 136 by decide)
                  refine .inl ⟨.int .i64 xi, w', ?_, by show ite _ _ _; rw [if_neg (by decide), if_neg (by decide)]; exact ⟨rfl, hc⟩⟩
                  have hl2 : sx ≤ 0 := Nat.le_trans hlm (Nat.le_of_eq (by kernel_rfl))
                  have q := (HF3.out sx u w' (by omega) hc).2.1
                  simp [execOp, e0, hcst, go_sem, q]
                | 7, _ =>
                  simp only [List.getElem?_toArray, List.getElem?_cons_zero, List.getElem?_cons_succ, Option.some.injEq] at hi
                  subst hi
                  have e0 : ev (.tmp 63) = .slice pa pn pc := hin 63 4 ⟨4, .data⟩ (by kernel_rfl) (by simp) rfl rfl (show (63 : Nat) < 136 by decide)
                  have e1 : ev (.tmp 65) = .int .i64 xi := hin 65 6 ⟨6, .data⟩ (by kernel_rfl) (by simp) rfl rfl (show (65 : Nat) < 136 by decide)
                  have hsx : sx = 0 := hks 0 rfl
                  subst hsx
                  refine .inr (.inr ⟨32, #[.slice pa pn pc, .int .i64 xi], ?_, ?_⟩)
                  · have ef := hfn 32
                    simp [execOp, resolve, invoke, ef, hcst, e0, e1, Result.andThen]
                    exact enter32 _ _
                  · refine Calls.mono (P := Try.prog) (R := fun e w2 => ∃ v, e = .returned v ∧ (DrC E (HdD B E ys) r 1) 1 v w2) ?_ ?_
                    · exact CP.out w' hc
                    · rintro e w2 ⟨v, rfl, hv⟩
                      exact ⟨v, rfl, by first | exact hv | (rw [if_pos rfl]; exact hv) | (show ite _ _ _; rw [if_pos rfl]; exact hv)⟩
                | 8, _ =>
                  simp only [List.getElem?_toArray, List.getElem?_cons_zero, List.getElem?_cons_succ, Option.some.injEq] at hi
                  subst hi
                  have e0 : ev (.tmp 59) = .pointer (some ⟨r, 0, none⟩) := hin 59 0 ⟨0, .data⟩ (by kernel_rfl) (by simp) rfl rfl (show (59 : Nat) < 136 by decide)
                  refine .inl ⟨.pointer (some ⟨r, 0, none⟩), w', ?_, by show ite _ _ _; rw [if_neg (by decide), if_neg (by decide)]; exact ⟨rfl, hc⟩⟩
                  simp [execOp, e0, hcst, go_sem]
                | 9, _ =>
                  simp only [List.getElem?_toArray, List.getElem?_cons_zero, List.getElem?_cons_succ, Option.some.injEq] at hi
                  subst hi
                  have e0 : ev (.tmp 67) = .pointer (some ⟨r, 0, none⟩) := hin 67 8 ⟨8, .data⟩ (by kernel_rfl) (by simp) rfl rfl (show (67 : Nat) < 136 by decide)
                  refine .inl ⟨.pointer (some ⟨r, 1, none⟩), w', ?_, by show ite _ _ _; rw [if_neg (by decide), if_neg (by decide)]; exact ⟨rfl, hc⟩⟩
                  simp [execOp, e0, hcst, go_sem]
                | 10, _ =>
                  simp only [List.getElem?_toArray, List.getElem?_cons_zero, List.getElem?_cons_succ, Option.some.injEq] at hi
                  subst hi
                  have e0 : ev (.tmp 68) = .pointer (some ⟨r, 1, none⟩) := hin 68 9 ⟨9, .data⟩ (by kernel_rfl) (by simp) rfl rfl (show (68 : Nat) < 136 by decide)
                  have e1 : ev (.tmp 66) = u := hin 66 7 ⟨7, .data⟩ (by kernel_rfl) (by simp) rfl rfl (show (66 : Nat) < 136 by decide)
                  have hd : 0 < sx := hdp (by decide)
                  have hsx : sx = 1 := hks 1 rfl
                  subst hsx
                  have hq := HF3.out 1 u w' (by omega) hc
                  have hD := DrC.one hc
                  obtain ⟨ya, yc, rfl, hD2⟩ := hD
                  refine .inr (.inl ⟨w'.setCell ⟨r, 1, none⟩ (.slice ya ys.length yc), ?_, by show ite _ _ _; rw [if_neg (by decide), if_pos (by decide)]; exact ⟨rfl, DrC.mk2 hc⟩⟩)
                  have q1 := hq.1
                  have q2 := hq.2.2
                  simp [execOp, e0, e1, hcst, go_sem, q1, q2, Result.andThen]
              · intro u w9 hc
                simp only [lexF, Act.put, List.setIfInBounds_toArray, List.set_cons_succ, List.set_cons_zero, List.getD_cons_succ, List.getD_cons_zero]
                obtain ⟨V3, R3, T1, T2⟩ := HEND.out u w9 hc
                have N : Hid ((RSk B r w s0 R3 V3 w9 ∧ snk 0 q1 (rs R3) = snk 0 q1 s0) ∧ mu ((rs R3).row 0) + 1 ≤ mu ((rs R1).row 0)) := by
                  refine ⟨⟨T1, ?_⟩, ?_⟩
                  · rw [T2, ← snk_step (by decide) HGT.out]; exact I.out.2.1
                  · rw [T2]; exact mu_stp (by decide) (by have := HGT.out; omega)
                clear hc HEND CP HF3 HE3 T1 T2
                go_wp2
                go_roundg (mu ((rs R3).row 0))
                case measure => have := N.out.2; have := I.out.2.2; omega
                case rel => exact ⟨V3, R3, N.out.1.1, N.out.1.2, Nat.le_refl _⟩
            | false =>
              rw [hu] at b1 HXU
              go_wp2
              clear b1
              have hP := HR2.out.row 2 (by decide)
              obtain ⟨pa, pc, hpv⟩ := hP.slice
              have p2 := HR2.out.cell (k := 2) (by decide)
              obtain ⟨V2, hV2⟩ : ∃ V2, V2 = upV V1 0 (.slice (some ⟨g, 0, none⟩) m c) := ⟨_, rfl⟩
              obtain ⟨R2, hR2⟩ : ∃ R2, R2 = upV R1 0 A0 := ⟨_, rfl⟩
              rw [← hV2] at HR2 hpv p2 hP
              rw [← hR2] at HR2 hpv hP
              have hV3 := HR2.out
              obtain ⟨pn, hpn⟩ : ∃ pn, pn = (R2 2).length := ⟨_, rfl⟩
              rw [← hpn] at hpv
              rw [hpv] at p2
              obtain ⟨E, hE⟩ : ∃ E, E = w9.drew := ⟨_, rfl⟩
              have bE : Below w9.heap.size w9 E := by rw [hE]; exact ⟨rfl, rfl, rfl, Nat.le_refl _, fun _ _ => rfl⟩
              have hEs : E.heap.size = w9.heap.size := by rw [hE]; rfl
              obtain ⟨ys, hys⟩ : ∃ ys : List Nd, ys = (xi, false) :: R2 2 := ⟨_, rfl⟩
              have rE := hV3.below bE
              have hl2 : (R2 2).length ≤ 100000 := by
                have h1 := rs_stp_len (R := R1) (k := 0) (k' := 2) (by decide) (by decide) HS.out
                have h2 := I.out.1.len
                have h3 := HL9.out
                rw [hR2]
                omega
              have CP : Hid (∀ W, DrC E (HdD B E ys) r 2 0 undef W → Calls Try.prog 32 #[.slice pa pn pc, .int .i64 xi] W fun e w2 => ∃ v, e = .returned v ∧ DrC E (HdD B E ys) r 2 1 v w2) := fun W hW => by
                have hW : W = E := hW
                subst hW
                have gE := rE.row 2 (by decide)
                rw [hpv] at gE
                refine (rhead_any (by rw [hEs]; exact HSZ.out) gE xi hl2).mono ?_
                rintro e w2 ⟨va, vc, rfl, g1, g2, g3⟩
                rw [← hys] at g1 g3 ⊢
                exact ⟨_, rfl, va, vc, rfl, g1, g2, g3⟩
              have HF3 : Hid (∀ s u W, s ≤ 1 → DrC E (HdD B E ys) r 2 s u W → W.cell? ⟨r, 2, none⟩ = some (.slice pa pn pc) ∧ W.cell? ⟨N, 0, none⟩ = some (.int .i64 xi) ∧ W.frozen? ⟨r, 2, none⟩ = false) := fun s u W hs hc => by
                have key : ∀ Z, Below w9.heap.size w9 Z → Z.cell? ⟨r, 2, none⟩ = some (.slice pa pn pc) ∧ Z.cell? ⟨N, 0, none⟩ = some (.int .i64 xi) ∧ Z.frozen? ⟨r, 2, none⟩ = false := fun Z hZ => ⟨(hZ.cell (p := ⟨r, 2, none⟩) hV3.own.lt).trans p2, (hZ.cell (p := ⟨N, 0, none⟩) HNB.out.lt).trans (HNB.out.cell (i := 0) rfl), (hV3.below hZ).own.frozen 2⟩
                match s, hs, hc with
                | 0, _, hc => have hc : W = E := hc; subst hc; exact key _ bE
                | 1, _, hc =>
                  obtain ⟨_, _, _, _, h4, _⟩ := DrC.one hc
                  exact key _ (bE.trans (by rw [← hEs]; exact h4))
              have HE3 : Hid (DrC E (HdD B E ys) r 2 0 undef { w9 with drawn := w9.drawn + 1 }) := hE.symm
              have HEND : Hid (∀ u W, DrC E (HdD B E ys) r 2 2 u W → ∃ V3 R3, RSk B r w s0 R3 V3 W ∧ rs R3 = stp 0 (rs R1)) := fun u W hc => by
                obtain ⟨W1, ⟨va, vc, rfl, g1, g2, g3⟩, rfl⟩ := DrC.two hc
                have t3 := rE.turn (k := 2) (by decide) (Keep.of_below g2) g1 (fun q hq => .inr (g3 q hq))
                have e1 : rs (upV R2 2 ys) = stp 0 (rs R1) := by
                  rw [hys, hR2, HXI.out]
                  exact rs_stp (by decide) HS.out (.inr ⟨by decide, by rw [← HXU.out]; rfl⟩)
                refine ⟨_, _, ⟨t3, ?_, ?_, ?_⟩, e1⟩
                · refine HO1.out.trans ((OffR.of_below bE HSZ.out).trans (rE.offR (by rw [hEs]; exact HSZ.out) ?_))
                  exact (Keep.of_below g2).setCell (p := ⟨r, 2, none⟩) (.inl (mem_fR.2 (.inl rfl))) _
                · rw [e1]
                  exact (stp_perm (by decide) (rs R1)).trans I.out.1.perm
                · rw [nblk_setCell]
                  exact Nat.le_trans (by rw [hEs]; exact HSZ.out) g2.size
              clear hP hpv p2 hV2 hV3 hpn hE bE hEs rE hl2 HNB HR2 HO1 HSZ
              refine wp_region_cx (by kernel_rfl) (by kernel_rfl) (fun u jx => ([.pointer (some ⟨r, 0, none⟩), .pointer (some ⟨r, 0, none⟩), .pointer (some ⟨r, 0, none⟩), .pointer (some ⟨r, 2, none⟩), .slice pa pn pc, .pointer (some ⟨N, 0, none⟩), .int .i64 xi, u, .pointer (some ⟨r, 0, none⟩), .pointer (some ⟨r, 2, none⟩), undef] : List Value).getD jx undef) 7 [7, 10] [10] (by kernel_rfl) (by kernel_rfl) rfl (fun _ => rfl) (fun v v' jx h1 h2 => by match jx with | 0 => rfl | 1 => rfl | 2 => rfl | 3 => rfl | 4 => rfl | 5 => rfl | 6 => rfl | 7 => exact absurd rfl h2 | 8 => rfl | 9 => rfl | 10 => exact absurd (by decide) h1 | _ + 11 => rfl) (DrC E (HdD B E ys) r 2) (HE3.out) ?_ ?_
              · intro jx ox hi sx u w' ev hlm hks hdp hc hin hout hcst hfn
                have hltx : jx < 11 := by
                  have := (Array.getElem?_eq_some_iff.1 hi).1
                  simpa using this
                match jx, hltx with
                | 0, _ =>
                  simp only [List.getElem?_toArray, List.getElem?_cons_zero, List.getElem?_cons_succ, Option.some.injEq] at hi
                  subst hi
                  have e0 : ev (.tmp 0) = .pointer (some ⟨r, 0, none⟩) := hout 0 (by kernel_rfl) (show (0 : Nat) < 136 by decide)
                  refine .inl ⟨.pointer (some ⟨r, 0, none⟩), w', ?_, by show ite _ _ _; rw [if_neg (by decide), if_neg (by decide)]; exact ⟨rfl, hc⟩⟩
                  simp [execOp, e0, hcst, go_sem]
                | 1, _ =>
                  simp only [List.getElem?_toArray, List.getElem?_cons_zero, List.getElem?_cons_succ, Option.some.injEq] at hi
                  subst hi
                  have e0 : ev (.tmp 0) = .pointer (some ⟨r, 0, none⟩) := hout 0 (by kernel_rfl) (show (0 : Nat) < 136 by decide)
                  refine .inl ⟨.pointer (some ⟨r, 0, none⟩), w', ?_, by show ite _ _ _; rw [if_neg (by decide), if_neg (by decide)]; exact ⟨rfl, hc⟩⟩
                  simp [execOp, e0, hcst, go_sem]
                | 2, _ =>
                  simp only [List.getElem?_toArray, List.getElem?_cons_zero, List.getElem?_cons_succ, Option.some.injEq] at hi
                  subst hi
                  have e0 : ev (.tmp 70) = .pointer (some ⟨r, 0, none⟩) := hin 70 1 ⟨1, .data⟩ (by kernel_rfl) (by simp) rfl rfl (show (70 : Nat) < 136 by decide)
                  refine .inl ⟨.pointer (some ⟨r, 0, none⟩), w', ?_, by show ite _ _ _; rw [if_neg (by decide), if_neg (by decide)]; exact ⟨rfl, hc⟩⟩
                  simp [execOp, e0, hcst, go_sem]
                | 3, _ =>
                  simp only [List.getElem?_toArray, List.getElem?_cons_zero, List.getElem?_cons_succ, Option.some.injEq] at hi
                  subst hi
                  have e0 : ev (.tmp 71) = .pointer (some ⟨r, 0, none⟩) := hin 71 2 ⟨2, .data⟩ (by kernel_rfl) (by simp) rfl rfl (show (71 : Nat) < 136 by decide)
                  refine .inl ⟨.pointer (some ⟨r, 2, none⟩), w', ?_, by show ite _ _ _; rw [if_neg (by decide), if_neg (by decide)]; exact ⟨rfl, hc⟩⟩
                  simp [execOp, e0, hcst, go_sem]
                | 4, _ =>
                  simp only [List.getElem?_toArray, List.getElem?_cons_zero, List.getElem?_cons_succ, Option.some.injEq] at hi
                  subst hi
                  have e0 : ev (.tmp 72) = .pointer (some ⟨r, 2, none⟩) := hin 72 3 ⟨3, .data⟩ (by kernel_rfl) (by simp) rfl rfl (show (72 : Nat) < 136 by decide)
                  refine .inl ⟨.slice pa pn pc, w', ?_, by show ite _ _ _; rw [if_neg (by decide), if_neg (by decide)]; exact ⟨rfl, hc⟩⟩
                  have hl2 : sx ≤ 0 := Nat.le_trans hlm (Nat.le_of_eq (by kernel_rfl))
                  have q := (HF3.out sx u w' (by omega) hc).1
                  simp [execOp, e0, hcst, go_sem, q]
                | 5, _ =>
                  simp only [List.getElem?_toArray, List.getElem?_cons_zero, List.getElem?_cons_succ, Option.some.injEq] at hi
                  subst hi
                  have e0 : ev (.tmp 6) = .pointer (some ⟨N, 0, none⟩) := hout 6 (by kernel_rfl) (show (6 : Nat) < 136 by decide)
                  refine .inl ⟨.pointer (some ⟨N, 0, none⟩), w', ?_, by show ite _ _ _; rw [if_neg (by decide), if_neg (by decide)]; exact ⟨rfl, hc⟩⟩
                  simp [execOp, e0, hcst, go_sem]
                | 6, _ =>
                  simp only [List.getElem?_toArray, List.getElem?_cons_zero, List.getElem?_cons_succ, Option.some.injEq] at hi
                  subst hi
                  have e0 : ev (.tmp 74) = .pointer (some ⟨N, 0, none⟩) := hin 74 5 ⟨5, .data⟩ (by kernel_rfl) (by simp) rfl rfl (show (74 : Nat) < 136 by decide)
                  refine .inl ⟨.int .i64 xi, w', ?_, by show ite _ _ _; rw [if_neg (by decide), if_neg (by decide)]; exact ⟨rfl, hc⟩⟩
                  have hl2 : sx ≤ 0 := Nat.le_trans hlm (Nat.le_of_eq (by kernel_rfl))
                  have q := (HF3.out sx u w' (by omega) hc).2.1
                  simp [execOp, e0, hcst, go_sem, q]
                | 7, _ =>
                  simp only [List.getElem?_toArray, List.getElem?_cons_zero, List.getElem?_cons_succ, Option.some.injEq] at hi
                  subst hi
                  have e0 : ev (.tmp 73) = .slice pa pn pc := hin 73 4 ⟨4, .data⟩ (by kernel_rfl) (by simp) rfl rfl (show (73 : Nat) < 136 by decide)
                  have e1 : ev (.tmp 75) = .int .i64 xi := hin 75 6 ⟨6, .data⟩ (by kernel_rfl) (by simp) rfl rfl (show (75 : Nat) < 136 by decide)
                  have hsx : sx = 0 := hks 0 rfl
                  subst hsx
                  refine .inr (.inr ⟨32, #[.slice pa pn pc, .int .i64 xi], ?_, ?_⟩)
                  · have ef := hfn 32
                    simp [execOp, resolve, invoke, ef, hcst, e0, e1, Result.andThen]
                    exact enter32 _ _
                  · refine Calls.mono (P := Try.prog) (R := fun e w2 => ∃ v, e = .returned v ∧ (DrC E (HdD B E ys) r 2) 1 v w2) ?_ ?_
                    · exact CP.out w' hc
                    · rintro e w2 ⟨v, rfl, hv⟩
                      exact ⟨v, rfl, by first | exact hv | (rw [if_pos rfl]; exact hv) | (show ite _ _ _; rw [if_pos rfl]; exact hv)⟩
                | 8, _ =>
                  simp only [List.getElem?_toArray, List.getElem?_cons_zero, List.getElem?_cons_succ, Option.some.injEq] at hi
                  subst hi
                  have e0 : ev (.tmp 69) = .pointer (some ⟨r, 0, none⟩) := hin 69 0 ⟨0, .data⟩ (by kernel_rfl) (by simp) rfl rfl (show (69 : Nat) < 136 by decide)
                  refine .inl ⟨.pointer (some ⟨r, 0, none⟩), w', ?_, by show ite _ _ _; rw [if_neg (by decide), if_neg (by decide)]; exact ⟨rfl, hc⟩⟩
                  simp [execOp, e0, hcst, go_sem]
                | 9, _ =>
                  simp only [List.getElem?_toArray, List.getElem?_cons_zero, List.getElem?_cons_succ, Option.some.injEq] at hi
                  subst hi
                  have e0 : ev (.tmp 77) = .pointer (some ⟨r, 0, none⟩) := hin 77 8 ⟨8, .data⟩ (by kernel_rfl) (by simp) rfl rfl (show (77 : Nat) < 136 by decide)
                  refine .inl ⟨.pointer (some ⟨r, 2, none⟩), w', ?_, by show ite _ _ _; rw [if_neg (by decide), if_neg (by decide)]; exact ⟨rfl, hc⟩⟩
                  simp [execOp, e0, hcst, go_sem]
                | 10, _ =>
                  simp only [List.getElem?_toArray, List.getElem?_cons_zero, List.getElem?_cons_succ, Option.some.injEq] at hi
                  subst hi
                  have e0 : ev (.tmp 78) = .pointer (some ⟨r, 2, none⟩) := hin 78 9 ⟨9, .data⟩ (by kernel_rfl) (by simp) rfl rfl (show (78 : Nat) < 136 by decide)
                  have e1 : ev (.tmp 76) = u := hin 76 7 ⟨7, .data⟩ (by kernel_rfl) (by simp) rfl rfl (show (76 : Nat) < 136 by decide)
                  have hd : 0 < sx := hdp (by decide)
                  have hsx : sx = 1 := hks 1 rfl
                  subst hsx
                  have hq := HF3.out 1 u w' (by omega) hc
                  have hD := DrC.one hc
                  obtain ⟨ya, yc, rfl, hD2⟩ := hD
                  refine .inr (.inl ⟨w'.setCell ⟨r, 2, none⟩ (.slice ya ys.length yc), ?_, by show ite _ _ _; rw [if_neg (by decide), if_pos (by decide)]; exact ⟨rfl, DrC.mk2 hc⟩⟩)
                  have q1 := hq.1
                  have q2 := hq.2.2
                  simp [execOp, e0, e1, hcst, go_sem, q1, q2, Result.andThen]
              · intro u w9 hc
                simp only [lexF, Act.put, List.setIfInBounds_toArray, List.set_cons_succ, List.set_cons_zero, List.getD_cons_succ, List.getD_cons_zero]
                obtain ⟨V3, R3, T1, T2⟩ := HEND.out u w9 hc
                have N : Hid ((RSk B r w s0 R3 V3 w9 ∧ snk 0 q1 (rs R3) = snk 0 q1 s0) ∧ mu ((rs R3).row 0) + 1 ≤ mu ((rs R1).row 0)) := by
                  refine ⟨⟨T1, ?_⟩, ?_⟩
                  · rw [T2, ← snk_step (by decide) HGT.out]; exact I.out.2.1
                  · rw [T2]; exact mu_stp (by decide) (by have := HGT.out; omega)
                clear hc HEND CP HF3 HE3 T1 T2
                go_wp2
                go_roundg (mu ((rs R3).row 0))
                case measure => have := N.out.2; have := I.out.2.2; omega
                case rel => exact ⟨V3, R3, N.out.1.1, N.out.1.2, Nat.le_refl _⟩
      · have hgt2 : ¬ (q1 : Int) < ((R1 0).length : Int) := by omega
        have hle : (R1 0).length ≤ 100000 := Nat.le_trans (rrow_le (by decide)) (by rw [I.out.1.len]; exact HL9.out)
        have S4 : Hid (RSk B r w s0 R1 V1 wr ∧ rs R1 = snk 0 q1 s0) := ⟨I.out.1, by rw [← I.out.2.1, snk_stop (by rw [rs_row (by decide)]; exact hgt)]⟩
        clear hgt I hv1
        generalize (R1 0).length = nn at *
        obtain ⟨wo, hwo⟩ : ∃ wo, wo = wr := ⟨_, rfl⟩
        subst hwo
        go_wp2
        clear kc hgt2 hle S3
        obtain ⟨Ra, hRa⟩ : ∃ Ra, Ra = R1 := ⟨_, rfl⟩
        obtain ⟨Va, hVa⟩ : ∃ Va, Va = V1 := ⟨_, rfl⟩
        rw [← hRa, ← hVa] at S4
        clear hRa hVa
        go_loopg [7] (mu ((rs Ra).row 1)) (fun kx s7 wr => ∃ (V1 : Nat → Value) (R1 : Nat → List Nd), Hid (RSk B r w s0 R1 V1 wr ∧ snk 1 q2 (rs R1) = snk 1 q2 (snk 0 q1 s0) ∧ mu ((rs R1).row 1) ≤ kx))
        case atStart => exact ⟨Va, Ra, S4.out.1, by rw [S4.out.2], Nat.le_refl _⟩
        case round =>
          clear S4
          obtain ⟨V1, R1, I⟩ := hrel
          obtain ⟨va1, vc1, hv1⟩ := (I.out.1.rf.row 1 (by decide)).slice
          have kc := I.out.1.rf.cell (k := 1) (by decide)
          rw [hv1] at kc
          by_cases hgt : q2 < (R1 1).length
          · have hgt2 : (q2 : Int) < ((R1 1).length : Int) := by omega
            have hpos : 0 < (R1 1).length := by omega
            have HGT : Hid (q2 < ((rs R1).row 1).length) := hgt
            clear hv1 hgt
            obtain ⟨nn, hnn⟩ : ∃ nn, nn = (R1 1).length := ⟨_, rfl⟩
            rw [← hnn] at kc hgt2
            have hnn9 : nn ≤ 100000 := by rw [hnn]; exact Nat.le_trans (rrow_le (by decide)) (by rw [I.out.1.len]; exact HL9.out)
            clear hnn
            go_wp2
            clear kc hgt2 hnn9
            obtain ⟨A0, x, hs⟩ : ∃ (A0 : List Nd) (x : Nd), R1 1 = A0 ++ [x] := snoc_of hpos
            have hG := I.out.1.rf.row 1 (by decide)
            obtain ⟨g, c, hv⟩ := hG.form hpos
            have k2 := I.out.1.rf.cell (k := 1) (by decide)
            have HV := hide hv
            rw [hv] at k2 hG
            obtain ⟨m, hm⟩ : ∃ m, m = A0.length := ⟨_, rfl⟩
            obtain ⟨n, hn⟩ : ∃ n, n = (R1 1).length := ⟨_, rfl⟩
            have hnm : n = m + 1 := by rw [hn, hs, hm]; simp
            have gx : (R1 1)[m]? = some x := by rw [hs, hm]; simp
            rw [← hn] at k2 hG HV
            obtain ⟨x0, x1⟩ := hG.at0 gx
            have hnc : n ≤ c := by
              obtain ⟨_, c', hv', _, _, hle⟩ := hG.cell gx (r := 0) (u := .int .i64 x.1) rfl
              simp only [Value.slice.injEq] at hv'
              rw [hv'.2.2]; omega
            have hn9 : n ≤ 100000 := by rw [hn]; exact Nat.le_trans (rrow_le (by decide)) (by rw [I.out.1.len]; exact HL9.out)
            have HS := hide hs
            have HM := hide hm
            have HNM := hide hnm
            have HG := hide hG
            have HSU : Hid (∀ X, (binOp .sub 3 (.int .i64 (n : Int)) (.int .i64 1)).run Try.prog X = .ok (.int .i64 (m : Int)) X) := run_pred n m hnm (by omega)
            have HSL : Hid (∀ X, (Instr.sliceAt 31 (.slice (some ⟨g, 0, none⟩) n c) none (some (.int .i64 (m : Int))) none).run Try.prog X = .ok (.slice (some ⟨g, 0, none⟩) m c) X) := run_headN g n c m (by omega)
            have HBN : Hid (m < n) := (by omega : m < n)
            obtain ⟨xi, hxi⟩ : ∃ xi, xi = x.1 := ⟨_, rfl⟩
            obtain ⟨xu, hxu⟩ : ∃ xu, xu = x.2 := ⟨_, rfl⟩
            rw [← hxi] at x0
            rw [← hxu] at x1
            have HXI := hide hxi
            have HXU := hide hxu
            obtain ⟨A, hA⟩ : ∃ A, A = wr.drew := ⟨_, rfl⟩
            obtain ⟨N, hN⟩ : ∃ N, N = A.heap.size := ⟨_, rfl⟩
            have hNw : N = wr.heap.size := by rw [hN, hA]; rfl
            obtain ⟨A2, hA2⟩ : ∃ A2, A2 = (((A.alloc (.cells #[.int .i64 0, .bool false] 59)).setCell ⟨N, 0, none⟩ (.int .i64 xi)).setCell ⟨N, 1, none⟩ (.bool xu)) := ⟨_, rfl⟩
            have bA : Below wr.heap.size wr A := by rw [hA]; exact ⟨rfl, rfl, rfl, Nat.le_refl _, fun _ _ => rfl⟩
            have bA1 : Below wr.heap.size wr (A.alloc (.cells #[.int .i64 0, .bool false] 59)) := bA.alloc (by rw [hA]; exact Nat.le_refl _) _
            have nb : Blk (A.alloc (.cells #[.int .i64 0, .bool false] 59)) N [.int .i64 0, .bool false] 59 := by rw [hN]; exact Blk.new A _ 59
            have nb2 : Blk A2 N [.int .i64 xi, .bool xu] 59 := by rw [hA2]; exact (nb.set 0 _).set 1 _
            have bA2 : Below wr.heap.size wr A2 := by rw [hA2]; exact (bA1.setCell (p := ⟨N, 0, none⟩) (by show wr.heap.size ≤ N; omega) _).setCell (p := ⟨N, 1, none⟩) (by show wr.heap.size ≤ N; omega) _
            have rlt := I.out.1.rf.own.lt
            have glt : g < wr.heap.size := (hG.lt g (by simp [ownB, Value.ownBlock])).2
            have HF : Hid (∀ s W, s ≤ 1 → CC4 A (A.alloc (.cells #[.int .i64 0, .bool false] 59)) A2 A2 s W → W.cell? ⟨r, 1, none⟩ = some (.slice (some ⟨g, 0, none⟩) n c) ∧ W.cell? ⟨g, m * 2, none⟩ = some (.int .i64 xi) ∧ W.cell? ⟨g, m * 2 + 1, none⟩ = some (.bool xu)) := fun s W hs hc => by
              have key : ∀ Z, Below wr.heap.size wr Z → Z.cell? ⟨r, 1, none⟩ = some (.slice (some ⟨g, 0, none⟩) n c) ∧ Z.cell? ⟨g, m * 2, none⟩ = some (.int .i64 xi) ∧ Z.cell? ⟨g, m * 2 + 1, none⟩ = some (.bool xu) := fun Z hZ => ⟨(hZ.cell (p := ⟨r, 1, none⟩) rlt).trans k2, (hZ.cell (p := ⟨g, m * 2, none⟩) glt).trans x0, (hZ.cell (p := ⟨g, m * 2 + 1, none⟩) glt).trans x1⟩
              match s, hs, hc with
              | 0, _, hc => have hc : W = A := hc; subst hc; exact key _ bA
              | 1, _, hc => have hc : W = _ := hc; subst hc; exact key _ bA1
            have HW0 : Hid (Wr (A.alloc (.cells #[.int .i64 0, .bool false] 59)) ⟨N, 0, none⟩ ∧ Wr (A.alloc (.cells #[.int .i64 0, .bool false] 59)) ⟨N, 1, none⟩) := ⟨⟨⟨_, nb.cell (i := 0) rfl⟩, nb.frozen 0⟩, ⟨⟨_, nb.cell (i := 1) rfl⟩, nb.frozen 1⟩⟩
            have HA : Hid (CC4 A (A.alloc (.cells #[.int .i64 0, .bool false] 59)) A2 A2 0 { wr with drawn := wr.drawn + 1 }) := hA.symm
            have HNN := hide hN
            have HA2 := hide hA2
            -- behind it: the row one shorter
            obtain ⟨D, hD⟩ : ∃ D, D = A2.drew := ⟨_, rfl⟩
            obtain ⟨D1, hD1⟩ : ∃ D1, D1 = D.setCell ⟨r, 1, none⟩ (.slice (some ⟨g, 0, none⟩) m c) := ⟨_, rfl⟩
            have bD : Below wr.heap.size wr D := by rw [hD]; exact bA2.trans ⟨rfl, rfl, rfl, Nat.le_refl _, fun _ _ => rfl⟩
            have rD := I.out.1.rf.below bD
            have r2 : RfIn B D1 r (upV V1 1 (.slice (some ⟨g, 0, none⟩) m c)) (upV R1 1 A0) := by
              rw [hD1]
              have gD := rD.row 1 (by decide)
              rw [HV.out] at gD
              refine rD.turn (by decide) (Keep.refl _ D) (by
                have := GR.cut (n := m) (by rw [← hn]; exact gD) (by omega)
                rw [show (R1 1).take m = A0 by rw [hs, hm]; simp] at this
                exact this) (fun q hq => .inl (by rw [HV.out]; simpa [ownB, Value.ownBlock] using hq))
            have nb3 : Blk D1 N [.int .i64 xi, .bool xu] 59 := by
              rw [hD1]
              exact (nb2.same (by rw [hD]; rfl)).other (a := ⟨r, 1, none⟩) (fun e => by have e : N = r := e; omega) _
            have o1 : OffR B w D1 := by
              refine I.out.1.off.trans ((OffR.of_below bD I.out.1.szB).trans (rD.offR (Nat.le_trans I.out.1.szB bD.size) ?_))
              rw [hD1]
              exact (Keep.refl _ D).setCell (p := ⟨r, 1, none⟩) (.inl (mem_fR.2 (.inl rfl))) _
            have szD : B ≤ D1.heap.size := by rw [hD1, nblk_setCell]; exact Nat.le_trans I.out.1.szB bD.size
            have HG2 : Hid (∀ s W, s ≤ 0 → CC4 D D1 D1 D1 s W → W.cell? ⟨r, 1, none⟩ = some (.slice (some ⟨g, 0, none⟩) n c)) := fun s W hs hc => by
              obtain rfl : s = 0 := by omega
              have hc : W = D := hc
              subst hc
              exact (bD.cell (p := ⟨r, 1, none⟩) rlt).trans k2
            have HW1 : Hid (Wr D ⟨r, 1, none⟩) := ⟨⟨_, (bD.cell (p := ⟨r, 1, none⟩) rlt).trans k2⟩, rD.own.frozen 1⟩
            have HD : Hid (CC4 D D1 D1 D1 0 { A2 with drawn := A2.drawn + 1 }) := hD.symm
            have HD1 := hide hD1
            have HR2 := hide r2
            have HNB := hide nb3
            have HO1 := hide o1
            have HSZ := hide szD
            clear hv hG gx hnc hs hm hn hnm hA hN hNw hA2 bA bA1 nb nb2 bA2 rlt glt hD hD1 bD rD r2 nb3 o1 szD hxi hxu k2 x0 x1
            refine wp_region_chain (by kernel_rfl) (by kernel_rfl) (fun jx => ([.pointer (some ⟨r, 0, none⟩), .pointer (some ⟨r, 0, none⟩), .pointer (some ⟨r, 1, none⟩), .slice (some ⟨g, 0, none⟩) n c, .pointer (some ⟨r, 0, none⟩), .pointer (some ⟨r, 0, none⟩), .pointer (some ⟨r, 1, none⟩), .slice (some ⟨g, 0, none⟩) n c, .int .i64 (n : Int), .int .i64 (m : Int), .pointer (some ⟨g, m * 2, none⟩), .agg #[.int .i64 xi, .bool xu], .pointer (some ⟨N, 0, none⟩), undef] : List Value).getD jx undef) [12, 13] (by kernel_rfl) (CC4 A (A.alloc (.cells #[.int .i64 0, .bool false] 59)) A2 A2) (HA.out) ?_ ?_
            · intro jx ox hi sx w' ev hlm hks hc hin hout hcst hfn
              have hltx : jx < 14 := by
                have := (Array.getElem?_eq_some_iff.1 hi).1
                simpa using this
              match jx, hltx with
              | 0, _ =>
                simp only [List.getElem?_toArray, List.getElem?_cons_zero, List.getElem?_cons_succ, Option.some.injEq] at hi
                subst hi
                have e0 : ev (.tmp 0) = .pointer (some ⟨r, 0, none⟩) := hout 0 (by kernel_rfl) (show (0 : Nat) < 136 by decide)
                rw [if_neg (by decide)]
                refine .inl ⟨w', ?_, hc⟩
                show _ = Result.ok (Next.value (.pointer (some ⟨r, 0, none⟩))) w'
                simp [execOp, e0, hcst, go_sem]
              | 1, _ =>
                simp only [List.getElem?_toArray, List.getElem?_cons_zero, List.getElem?_cons_succ, Option.some.injEq] at hi
                subst hi
                have e0 : ev (.tmp 88) = .pointer (some ⟨r, 0, none⟩) := hin 88 0 ⟨0, .data⟩ (by kernel_rfl) (by simp) rfl rfl (show (88 : Nat) < 136 by decide)
                rw [if_neg (by decide)]
                refine .inl ⟨w', ?_, hc⟩
                show _ = Result.ok (Next.value (.pointer (some ⟨r, 0, none⟩))) w'
                simp [execOp, e0, hcst, go_sem]
              | 2, _ =>
                simp only [List.getElem?_toArray, List.getElem?_cons_zero, List.getElem?_cons_succ, Option.some.injEq] at hi
                subst hi
                have e0 : ev (.tmp 89) = .pointer (some ⟨r, 0, none⟩) := hin 89 1 ⟨1, .data⟩ (by kernel_rfl) (by simp) rfl rfl (show (89 : Nat) < 136 by decide)
                rw [if_neg (by decide)]
                refine .inl ⟨w', ?_, hc⟩
                show _ = Result.ok (Next.value (.pointer (some ⟨r, 1, none⟩))) w'
                simp [execOp, e0, hcst, go_sem]
              | 3, _ =>
                simp only [List.getElem?_toArray, List.getElem?_cons_zero, List.getElem?_cons_succ, Option.some.injEq] at hi
                subst hi
                have e0 : ev (.tmp 90) = .pointer (some ⟨r, 1, none⟩) := hin 90 2 ⟨2, .data⟩ (by kernel_rfl) (by simp) rfl rfl (show (90 : Nat) < 136 by decide)
                rw [if_neg (by decide)]
                have hl2 : sx ≤ 1 := Nat.le_trans hlm (Nat.le_of_eq (by kernel_rfl))
                refine .inl ⟨w', ?_, hc⟩
                show _ = Result.ok (Next.value (.slice (some ⟨g, 0, none⟩) n c)) w'
                have q1 := (HF.out sx w' (Nat.le_trans hl2 (by decide)) hc).1
                simp [execOp, e0, hcst, go_sem, q1]
              | 4, _ =>
                simp only [List.getElem?_toArray, List.getElem?_cons_zero, List.getElem?_cons_succ, Option.some.injEq] at hi
                subst hi
                have e0 : ev (.tmp 0) = .pointer (some ⟨r, 0, none⟩) := hout 0 (by kernel_rfl) (show (0 : Nat) < 136 by decide)
                rw [if_neg (by decide)]
                refine .inl ⟨w', ?_, hc⟩
                show _ = Result.ok (Next.value (.pointer (some ⟨r, 0, none⟩))) w'
                simp [execOp, e0, hcst, go_sem]
              | 5, _ =>
                simp only [List.getElem?_toArray, List.getElem?_cons_zero, List.getElem?_cons_succ, Option.some.injEq] at hi
                subst hi
                have e0 : ev (.tmp 92) = .pointer (some ⟨r, 0, none⟩) := hin 92 4 ⟨4, .data⟩ (by kernel_rfl) (by simp) rfl rfl (show (92 : Nat) < 136 by decide)
                rw [if_neg (by decide)]
                refine .inl ⟨w', ?_, hc⟩
                show _ = Result.ok (Next.value (.pointer (some ⟨r, 0, none⟩))) w'
                simp [execOp, e0, hcst, go_sem]
              | 6, _ =>
                simp only [List.getElem?_toArray, List.getElem?_cons_zero, List.getElem?_cons_succ, Option.some.injEq] at hi
                subst hi
                have e0 : ev (.tmp 93) = .pointer (some ⟨r, 0, none⟩) := hin 93 5 ⟨5, .data⟩ (by kernel_rfl) (by simp) rfl rfl (show (93 : Nat) < 136 by decide)
                rw [if_neg (by decide)]
                refine .inl ⟨w', ?_, hc⟩
                show _ = Result.ok (Next.value (.pointer (some ⟨r, 1, none⟩))) w'
                simp [execOp, e0, hcst, go_sem]
              | 7, _ =>
                simp only [List.getElem?_toArray, List.getElem?_cons_zero, List.getElem?_cons_succ, Option.some.injEq] at hi
                subst hi
                have e0 : ev (.tmp 94) = .pointer (some ⟨r, 1, none⟩) := hin 94 6 ⟨6, .data⟩ (by kernel_rfl) (by simp) rfl rfl (show (94 : Nat) < 136 by decide)
                rw [if_neg (by decide)]
                have hl2 : sx ≤ 1 := Nat.le_trans hlm (Nat.le_of_eq (by kernel_rfl))
                refine .inl ⟨w', ?_, hc⟩
                show _ = Result.ok (Next.value (.slice (some ⟨g, 0, none⟩) n c)) w'
                have q1 := (HF.out sx w' (Nat.le_trans hl2 (by decide)) hc).1
                simp [execOp, e0, hcst, go_sem, q1]
              | 8, _ =>
                simp only [List.getElem?_toArray, List.getElem?_cons_zero, List.getElem?_cons_succ, Option.some.injEq] at hi
                subst hi
                have e0 : ev (.tmp 95) = .slice (some ⟨g, 0, none⟩) n c := hin 95 7 ⟨7, .data⟩ (by kernel_rfl) (by simp) rfl rfl (show (95 : Nat) < 136 by decide)
                rw [if_neg (by decide)]
                refine .inl ⟨w', ?_, hc⟩
                show _ = Result.ok (Next.value (.int .i64 (n : Int))) w'
                simp [execOp, e0, hcst, resolve, invoke, builtin, Builtin.len_, Result.andThen, go_sem]
              | 9, _ =>
                simp only [List.getElem?_toArray, List.getElem?_cons_zero, List.getElem?_cons_succ, Option.some.injEq] at hi
                subst hi
                have e0 : ev (.tmp 96) = .int .i64 (n : Int) := hin 96 8 ⟨8, .data⟩ (by kernel_rfl) (by simp) rfl rfl (show (96 : Nat) < 136 by decide)
                rw [if_neg (by decide)]
                refine .inl ⟨w', ?_, hc⟩
                show _ = Result.ok (Next.value (.int .i64 (m : Int))) w'
                have q := HSU.out w'
                simp [execOp, e0, hcst, eqGuard, q, Result.andThen, pure, Sem.run]
              | 10, _ =>
                simp only [List.getElem?_toArray, List.getElem?_cons_zero, List.getElem?_cons_succ, Option.some.injEq] at hi
                subst hi
                have e0 : ev (.tmp 91) = .slice (some ⟨g, 0, none⟩) n c := hin 91 3 ⟨3, .data⟩ (by kernel_rfl) (by simp) rfl rfl (show (91 : Nat) < 136 by decide)
                have e1 : ev (.tmp 97) = .int .i64 (m : Int) := hin 97 9 ⟨9, .data⟩ (by kernel_rfl) (by simp) rfl rfl (show (97 : Nat) < 136 by decide)
                rw [if_neg (by decide)]
                refine .inl ⟨w', ?_, hc⟩
                show _ = Result.ok (Next.value (.pointer (some ⟨g, m * 2, none⟩))) w'
                have q := HBN.out
                simp [execOp, e0, e1, hcst, go_sem, q]
              | 11, _ =>
                simp only [List.getElem?_toArray, List.getElem?_cons_zero, List.getElem?_cons_succ, Option.some.injEq] at hi
                subst hi
                have e0 : ev (.tmp 98) = .pointer (some ⟨g, m * 2, none⟩) := hin 98 10 ⟨10, .data⟩ (by kernel_rfl) (by simp) rfl rfl (show (98 : Nat) < 136 by decide)
                rw [if_neg (by decide)]
                have hl2 : sx ≤ 1 := Nat.le_trans hlm (Nat.le_of_eq (by kernel_rfl))
                refine .inl ⟨w', ?_, hc⟩
                show _ = Result.ok (Next.value (.agg #[.int .i64 xi, .bool xu])) w'
                have q1 := (HF.out sx w' (Nat.le_trans hl2 (by decide)) hc).2.1
                have q2 := (HF.out sx w' (Nat.le_trans hl2 (by decide)) hc).2.2
                simp [execOp, e0, hcst, go_sem, q1, q2]
              | 12, _ =>
                simp only [List.getElem?_toArray, List.getElem?_cons_zero, List.getElem?_cons_succ, Option.some.injEq] at hi
                subst hi
                rw [if_pos (by decide)]
                have hsx : sx = 0 := hks 0 rfl
                subst hsx
                have hw : w' = A := hc
                subst hw
                have q := HNN.out
                refine .inl ⟨_, ?_, rfl⟩
                simp [execOp, go_sem, q]
              | 13, _ =>
                simp only [List.getElem?_toArray, List.getElem?_cons_zero, List.getElem?_cons_succ, Option.some.injEq] at hi
                subst hi
                have e0 : ev (.tmp 7) = .pointer (some ⟨N, 0, none⟩) := hin 7 12 ⟨12, .data⟩ (by kernel_rfl) (by simp) rfl rfl (show (7 : Nat) < 136 by decide)
                have e1 : ev (.tmp 99) = .agg #[.int .i64 xi, .bool xu] := hin 99 11 ⟨11, .data⟩ (by kernel_rfl) (by simp) rfl rfl (show (99 : Nat) < 136 by decide)
                rw [if_pos (by decide)]
                have hsx : sx = 1 := hks 1 rfl
                subst hsx
                have hw : w' = (A.alloc (.cells #[.int .i64 0, .bool false] 59)) := hc
                subst hw
                refine .inr (.inl ⟨rfl, A2, ?_, rfl⟩)
                have q3 := HA2.out
                rw [q3]
                obtain ⟨⟨v0, q1⟩, q2⟩ := HW0.out.1
                obtain ⟨⟨v1, q4⟩, q5⟩ := HW0.out.2
                simp [execOp, e0, e1, hcst, go_sem, q1, q2, q4, q5, Result.andThen]
            · intro w9 hc
              simp only [lexF, Act.put, List.setIfInBounds_toArray, List.set_cons_succ, List.set_cons_zero, List.getD_cons_succ, List.getD_cons_zero]
              have hw : w9 = A2 := hc
              subst hw
              clear HF HW0 HA HNN HA2 hc HBN
              go_wp2
              refine wp_region_chain (by kernel_rfl) (by kernel_rfl) (fun jx => ([.pointer (some ⟨r, 0, none⟩), .pointer (some ⟨r, 0, none⟩), .pointer (some ⟨r, 0, none⟩), .pointer (some ⟨r, 1, none⟩), .slice (some ⟨g, 0, none⟩) n c, .pointer (some ⟨r, 0, none⟩), .pointer (some ⟨r, 0, none⟩), .pointer (some ⟨r, 1, none⟩), .slice (some ⟨g, 0, none⟩) n c, .int .i64 (n : Int), .int .i64 (m : Int), .slice (some ⟨g, 0, none⟩) m c, .pointer (some ⟨r, 0, none⟩), .pointer (some ⟨r, 1, none⟩), undef] : List Value).getD jx undef) [14] (by kernel_rfl) (CC4 D D1 D1 D1) (HD.out) ?_ ?_
              · intro jx ox hi sx w' ev hlm hks hc hin hout hcst hfn
                have hltx : jx < 15 := by
                  have := (Array.getElem?_eq_some_iff.1 hi).1
                  simpa using this
                match jx, hltx with
                | 0, _ =>
                  simp only [List.getElem?_toArray, List.getElem?_cons_zero, List.getElem?_cons_succ, Option.some.injEq] at hi
                  subst hi
                  have e0 : ev (.tmp 0) = .pointer (some ⟨r, 0, none⟩) := hout 0 (by kernel_rfl) (show (0 : Nat) < 136 by decide)
                  rw [if_neg (by decide)]
                  refine .inl ⟨w', ?_, hc⟩
                  show _ = Result.ok (Next.value (.pointer (some ⟨r, 0, none⟩))) w'
                  simp [execOp, e0, hcst, go_sem]
                | 1, _ =>
                  simp only [List.getElem?_toArray, List.getElem?_cons_zero, List.getElem?_cons_succ, Option.some.injEq] at hi
                  subst hi
                  have e0 : ev (.tmp 0) = .pointer (some ⟨r, 0, none⟩) := hout 0 (by kernel_rfl) (show (0 : Nat) < 136 by decide)
                  rw [if_neg (by decide)]
                  refine .inl ⟨w', ?_, hc⟩
                  show _ = Result.ok (Next.value (.pointer (some ⟨r, 0, none⟩))) w'
                  simp [execOp, e0, hcst, go_sem]
                | 2, _ =>
                  simp only [List.getElem?_toArray, List.getElem?_cons_zero, List.getElem?_cons_succ, Option.some.injEq] at hi
                  subst hi
                  have e0 : ev (.tmp 101) = .pointer (some ⟨r, 0, none⟩) := hin 101 1 ⟨1, .data⟩ (by kernel_rfl) (by simp) rfl rfl (show (101 : Nat) < 136 by decide)
                  rw [if_neg (by decide)]
                  refine .inl ⟨w', ?_, hc⟩
                  show _ = Result.ok (Next.value (.pointer (some ⟨r, 0, none⟩))) w'
                  simp [execOp, e0, hcst, go_sem]
                | 3, _ =>
                  simp only [List.getElem?_toArray, List.getElem?_cons_zero, List.getElem?_cons_succ, Option.some.injEq] at hi
                  subst hi
                  have e0 : ev (.tmp 102) = .pointer (some ⟨r, 0, none⟩) := hin 102 2 ⟨2, .data⟩ (by kernel_rfl) (by simp) rfl rfl (show (102 : Nat) < 136 by decide)
                  rw [if_neg (by decide)]
                  refine .inl ⟨w', ?_, hc⟩
                  show _ = Result.ok (Next.value (.pointer (some ⟨r, 1, none⟩))) w'
                  simp [execOp, e0, hcst, go_sem]
                | 4, _ =>
                  simp only [List.getElem?_toArray, List.getElem?_cons_zero, List.getElem?_cons_succ, Option.some.injEq] at hi
                  subst hi
                  have e0 : ev (.tmp 103) = .pointer (some ⟨r, 1, none⟩) := hin 103 3 ⟨3, .data⟩ (by kernel_rfl) (by simp) rfl rfl (show (103 : Nat) < 136 by decide)
                  rw [if_neg (by decide)]
                  have hl2 : sx ≤ 0 := Nat.le_trans hlm (Nat.le_of_eq (by kernel_rfl))
                  refine .inl ⟨w', ?_, hc⟩
                  show _ = Result.ok (Next.value (.slice (some ⟨g, 0, none⟩) n c)) w'
                  have q1 := (HG2.out sx w' (Nat.le_trans hl2 (by decide)) hc)
                  simp [execOp, e0, hcst, go_sem, q1]
                | 5, _ =>
                  simp only [List.getElem?_toArray, List.getElem?_cons_zero, List.getElem?_cons_succ, Option.some.injEq] at hi
                  subst hi
                  have e0 : ev (.tmp 0) = .pointer (some ⟨r, 0, none⟩) := hout 0 (by kernel_rfl) (show (0 : Nat) < 136 by decide)
                  rw [if_neg (by decide)]
                  refine .inl ⟨w', ?_, hc⟩
                  show _ = Result.ok (Next.value (.pointer (some ⟨r, 0, none⟩))) w'
                  simp [execOp, e0, hcst, go_sem]
                | 6, _ =>
                  simp only [List.getElem?_toArray, List.getElem?_cons_zero, List.getElem?_cons_succ, Option.some.injEq] at hi
                  subst hi
                  have e0 : ev (.tmp 105) = .pointer (some ⟨r, 0, none⟩) := hin 105 5 ⟨5, .data⟩ (by kernel_rfl) (by simp) rfl rfl (show (105 : Nat) < 136 by decide)
                  rw [if_neg (by decide)]
                  refine .inl ⟨w', ?_, hc⟩
                  show _ = Result.ok (Next.value (.pointer (some ⟨r, 0, none⟩))) w'
                  simp [execOp, e0, hcst, go_sem]
                | 7, _ =>
                  simp only [List.getElem?_toArray, List.getElem?_cons_zero, List.getElem?_cons_succ, Option.some.injEq] at hi
                  subst hi
                  have e0 : ev (.tmp 106) = .pointer (some ⟨r, 0, none⟩) := hin 106 6 ⟨6, .data⟩ (by kernel_rfl) (by simp) rfl rfl (show (106 : Nat) < 136 by decide)
                  rw [if_neg (by decide)]
                  refine .inl ⟨w', ?_, hc⟩
                  show _ = Result.ok (Next.value (.pointer (some ⟨r, 1, none⟩))) w'
                  simp [execOp, e0, hcst, go_sem]
                | 8, _ =>
                  simp only [List.getElem?_toArray, List.getElem?_cons_zero, List.getElem?_cons_succ, Option.some.injEq] at hi
                  subst hi
                  have e0 : ev (.tmp 107) = .pointer (some ⟨r, 1, none⟩) := hin 107 7 ⟨7, .data⟩ (by kernel_rfl) (by simp) rfl rfl (show (107 : Nat) < 136 by decide)
                  rw [if_neg (by decide)]
                  have hl2 : sx ≤ 0 := Nat.le_trans hlm (Nat.le_of_eq (by kernel_rfl))
                  refine .inl ⟨w', ?_, hc⟩
                  show _ = Result.ok (Next.value (.slice (some ⟨g, 0, none⟩) n c)) w'
                  have q1 := (HG2.out sx w' (Nat.le_trans hl2 (by decide)) hc)
                  simp [execOp, e0, hcst, go_sem, q1]
                | 9, _ =>
                  simp only [List.getElem?_toArray, List.getElem?_cons_zero, List.getElem?_cons_succ, Option.some.injEq] at hi
                  subst hi
                  have e0 : ev (.tmp 108) = .slice (some ⟨g, 0, none⟩) n c := hin 108 8 ⟨8, .data⟩ (by kernel_rfl) (by simp) rfl rfl (show (108 : Nat) < 136 by decide)
                  rw [if_neg (by decide)]
                  refine .inl ⟨w', ?_, hc⟩
                  show _ = Result.ok (Next.value (.int .i64 (n : Int))) w'
                  simp [execOp, e0, hcst, resolve, invoke, builtin, Builtin.len_, Result.andThen, go_sem]
                | 10, _ =>
                  simp only [List.getElem?_toArray, List.getElem?_cons_zero, List.getElem?_cons_succ, Option.some.injEq] at hi
                  subst hi
                  have e0 : ev (.tmp 109) = .int .i64 (n : Int) := hin 109 9 ⟨9, .data⟩ (by kernel_rfl) (by simp) rfl rfl (show (109 : Nat) < 136 by decide)
                  rw [if_neg (by decide)]
                  refine .inl ⟨w', ?_, hc⟩
                  show _ = Result.ok (Next.value (.int .i64 (m : Int))) w'
                  have q := HSU.out w'
                  simp [execOp, e0, hcst, eqGuard, q, Result.andThen, pure, Sem.run]
                | 11, _ =>
                  simp only [List.getElem?_toArray, List.getElem?_cons_zero, List.getElem?_cons_succ, Option.some.injEq] at hi
                  subst hi
                  have e0 : ev (.tmp 104) = .slice (some ⟨g, 0, none⟩) n c := hin 104 4 ⟨4, .data⟩ (by kernel_rfl) (by simp) rfl rfl (show (104 : Nat) < 136 by decide)
                  have e1 : ev (.tmp 110) = .int .i64 (m : Int) := hin 110 10 ⟨10, .data⟩ (by kernel_rfl) (by simp) rfl rfl (show (110 : Nat) < 136 by decide)
                  rw [if_neg (by decide)]
                  refine .inl ⟨w', ?_, hc⟩
                  show _ = Result.ok (Next.value (.slice (some ⟨g, 0, none⟩) m c)) w'
                  have q := HSL.out w'
                  simp [execOp, e0, e1, hcst, q, Result.andThen]
                | 12, _ =>
                  simp only [List.getElem?_toArray, List.getElem?_cons_zero, List.getElem?_cons_succ, Option.some.injEq] at hi
                  subst hi
                  have e0 : ev (.tmp 100) = .pointer (some ⟨r, 0, none⟩) := hin 100 0 ⟨0, .data⟩ (by kernel_rfl) (by simp) rfl rfl (show (100 : Nat) < 136 by decide)
                  rw [if_neg (by decide)]
                  refine .inl ⟨w', ?_, hc⟩
                  show _ = Result.ok (Next.value (.pointer (some ⟨r, 0, none⟩))) w'
                  simp [execOp, e0, hcst, go_sem]
                | 13, _ =>
                  simp only [List.getElem?_toArray, List.getElem?_cons_zero, List.getElem?_cons_succ, Option.some.injEq] at hi
                  subst hi
                  have e0 : ev (.tmp 112) = .pointer (some ⟨r, 0, none⟩) := hin 112 12 ⟨12, .data⟩ (by kernel_rfl) (by simp) rfl rfl (show (112 : Nat) < 136 by decide)
                  rw [if_neg (by decide)]
                  refine .inl ⟨w', ?_, hc⟩
                  show _ = Result.ok (Next.value (.pointer (some ⟨r, 1, none⟩))) w'
                  simp [execOp, e0, hcst, go_sem]
                | 14, _ =>
                  simp only [List.getElem?_toArray, List.getElem?_cons_zero, List.getElem?_cons_succ, Option.some.injEq] at hi
                  subst hi
                  have e0 : ev (.tmp 113) = .pointer (some ⟨r, 1, none⟩) := hin 113 13 ⟨13, .data⟩ (by kernel_rfl) (by simp) rfl rfl (show (113 : Nat) < 136 by decide)
                  have e1 : ev (.tmp 111) = .slice (some ⟨g, 0, none⟩) m c := hin 111 11 ⟨11, .data⟩ (by kernel_rfl) (by simp) rfl rfl (show (111 : Nat) < 136 by decide)
                  rw [if_pos (by decide)]
                  have hsx : sx = 0 := hks 0 rfl
                  subst hsx
                  have hw : w' = D := hc
                  subst hw
                  refine .inr (.inl ⟨rfl, D1, ?_, rfl⟩)
                  have q3 := HD1.out
                  rw [q3]
                  obtain ⟨⟨v0, q1⟩, q2⟩ := HW1.out
                  simp [execOp, e0, e1, hcst, go_sem, q1, q2, Result.andThen]
              · intro w9 hc
                simp only [lexF, Act.put, List.setIfInBounds_toArray, List.set_cons_succ, List.set_cons_zero, List.getD_cons_succ, List.getD_cons_zero]
                have hw : w9 = D1 := hc
                subst hw
                clear HG2 HW1 HD HD1 hc HSU HSL
                have b1 := HNB.out.cell (i := 1) rfl
                cases hu : xu with
                | true =>
                  rw [hu] at b1 HXU
                  go_wp2
                  clear b1
                  have hP := HR2.out.row 1 (by decide)
                  obtain ⟨pa, pc, hpv⟩ := hP.slice
                  have p2 := HR2.out.cell (k := 1) (by decide)
                  obtain ⟨V2, hV2⟩ : ∃ V2, V2 = upV V1 1 (.slice (some ⟨g, 0, none⟩) m c) := ⟨_, rfl⟩
                  obtain ⟨R2, hR2⟩ : ∃ R2, R2 = upV R1 1 A0 := ⟨_, rfl⟩
                  rw [← hV2] at HR2 hpv p2 hP
                  rw [← hR2] at HR2 hpv hP
                  have hV3 := HR2.out
                  obtain ⟨pn, hpn⟩ : ∃ pn, pn = (R2 1).length := ⟨_, rfl⟩
                  rw [← hpn] at hpv
                  rw [hpv] at p2
                  obtain ⟨E, hE⟩ : ∃ E, E = w9.drew := ⟨_, rfl⟩
                  have bE : Below w9.heap.size w9 E := by rw [hE]; exact ⟨rfl, rfl, rfl, Nat.le_refl _, fun _ _ => rfl⟩
                  have hEs : E.heap.size = w9.heap.size := by rw [hE]; rfl
                  obtain ⟨ys, hys⟩ : ∃ ys : List Nd, ys = (xi, false) :: R2 1 := ⟨_, rfl⟩
                  have rE := hV3.below bE
                  have hl2 : (R2 1).length ≤ 100000 := by
                    have h1 := rs_stp_len (R := R1) (k := 1) (k' := 1) (by decide) (by decide) HS.out
                    have h2 := I.out.1.len
                    have h3 := HL9.out
                    rw [hR2]
                    omega
                  have CP : Hid (∀ W, DrC E (HdD B E ys) r 1 0 undef W → Calls Try.prog 32 #[.slice pa pn pc, .int .i64 xi] W fun e w2 => ∃ v, e = .returned v ∧ DrC E (HdD B E ys) r 1 1 v w2) := fun W hW => by
                    have hW : W = E := hW
                    subst hW
                    have gE := rE.row 1 (by decide)
                    rw [hpv] at gE
                    refine (rhead_any (by rw [hEs]; exact HSZ.out) gE xi hl2).mono ?_
                    rintro e w2 ⟨va, vc, rfl, g1, g2, g3⟩
                    rw [← hys] at g1 g3 ⊢
                    exact ⟨_, rfl, va, vc, rfl, g1, g2, g3⟩
                  have HF3 : Hid (∀ s u W, s ≤ 1 → DrC E (HdD B E ys) r 1 s u W → W.cell? ⟨r, 1, none⟩ = some (.slice pa pn pc) ∧ W.cell? ⟨N, 0, none⟩ = some (.int .i64 xi) ∧ W.frozen? ⟨r, 1, none⟩ = false) := fun s u W hs hc => by
                    have key : ∀ Z, Below w9.heap.size w9 Z → Z.cell? ⟨r, 1, none⟩ = some (.slice pa pn pc) ∧ Z.cell? ⟨N, 0, none⟩ = some (.int .i64 xi) ∧ Z.frozen? ⟨r, 1, none⟩ = false := fun Z hZ => ⟨(hZ.cell (p := ⟨r, 1, none⟩) hV3.own.lt).trans p2, (hZ.cell (p := ⟨N, 0, none⟩) HNB.out.lt).trans (HNB.out.cell (i := 0) rfl), (hV3.below hZ).own.frozen 1⟩
                    match s, hs, hc with
                    | 0, _, hc => have hc : W = E := hc; subst hc; exact key _ bE
                    | 1, _, hc =>
                      obtain ⟨_, _, _, _, h4, _⟩ := DrC.one hc
                      exact key _ (bE.trans (by rw [← hEs]; exact h4))
                  have HE3 : Hid (DrC E (HdD B E ys) r 1 0 undef { w9 with drawn := w9.drawn + 1 }) := hE.symm
                  have HEND : Hid (∀ u W, DrC E (HdD B E ys) r 1 2 u W → ∃ V3 R3, RSk B r w s0 R3 V3 W ∧ rs R3 = stp 1 (rs R1)) := fun u W hc => by
                    obtain ⟨W1, ⟨va, vc, rfl, g1, g2, g3⟩, rfl⟩ := DrC.two hc
                    have t3 := rE.turn (k := 1) (by decide) (Keep.of_below g2) g1 (fun q hq => .inr (g3 q hq))
                    have e1 : rs (upV R2 1 ys) = stp 1 (rs R1) := by
                      rw [hys, hR2, HXI.out]
                      exact rs_stp (by decide) HS.out (.inr ⟨by decide, by rw [← HXU.out]; rfl⟩)
                    refine ⟨_, _, ⟨t3, ?_, ?_, ?_⟩, e1⟩
                    · refine HO1.out.trans ((OffR.of_below bE HSZ.out).trans (rE.offR (by rw [hEs]; exact HSZ.out) ?_))
                      exact (Keep.of_below g2).setCell (p := ⟨r, 1, none⟩) (.inl (mem_fR.2 (.inl rfl))) _
                    · rw [e1]
                      exact (stp_perm (by decide) (rs R1)).trans I.out.1.perm
                    · rw [nblk_setCell]
                      exact Nat.le_trans (by rw [hEs]; exact HSZ.out) g2.size
                  clear hP hpv p2 hV2 hV3 hpn hE bE hEs rE hl2 HNB HR2 HO1 HSZ
                  refine wp_region_cx (by kernel_rfl) (by kernel_rfl) (fun u jx => ([.pointer (some ⟨r, 0, none⟩), .pointer (some ⟨r, 0, none⟩), .pointer (some ⟨r, 0, none⟩), .pointer (some ⟨r, 1, none⟩), .slice pa pn pc, .pointer (some ⟨N, 0, none⟩), .int .i64 xi, u, .pointer (some ⟨r, 0, none⟩), .pointer (some ⟨r, 1, none⟩), undef] : List Value).getD jx undef) 7 [7, 10] [10] (by kernel_rfl) (by kernel_rfl) rfl (fun _ => rfl) (fun v v' jx h1 h2 => by match jx with | 0 => rfl | 1 => rfl | 2 => rfl | 3 => rfl | 4 => rfl | 5 => rfl | 6 => rfl | 7 => exact absurd rfl h2 | 8 => rfl | 9 => rfl | 10 => exact absurd (by decide) h1 | _ + 11 => rfl) (DrC E (HdD B E ys) r 1) (HE3.out) ?_ ?_
                  · intro jx ox hi sx u w' ev hlm hks hdp hc hin hout hcst hfn
                    have hltx : jx < 11 := by
                      have := (Array.getElem?_eq_some_iff.1 hi).1
                      simpa using this
                    match jx, hltx with
                    | 0, _ =>
                      simp only [List.getElem?_toArray, List.getElem?_cons_zero, List.getElem?_cons_succ, Option.some.injEq] at hi
                      subst hi
                      have e0 : ev (.tmp 0) = .pointer (some ⟨r, 0, none⟩) := hout 0 (by kernel_rfl) (show (0 : Nat) < 136 by decide)
                      refine .inl ⟨.pointer (some ⟨r, 0, none⟩), w', ?_, by show ite _ _ _; rw [if_neg (by decide), if_neg (by decide)]; exact ⟨rfl, hc⟩⟩
                      simp [execOp, e0, hcst, go_sem]
                    | 1, _ =>
                      simp only [List.getElem?_toArray, List.getElem?_cons_zero, List.getElem?_cons_succ, Option.some.injEq] at hi
                      subst hi
                      have e0 : ev (.tmp 0) = .pointer (some ⟨r, 0, none⟩) := hout 0 (by kernel_rfl) (show (0 : Nat) < 136 by decide)
                      refine .inl ⟨.pointer (some ⟨r, 0, none⟩), w', ?_, by show ite _ _ _; rw [if_neg (by decide), if_neg (by decide)]; exact ⟨rfl, hc⟩⟩
                      simp [execOp, e0, hcst, go_sem]
                    | 2, _ =>
                      simp only [List.getElem?_toArray, List.getElem?_cons_zero, List.getElem?_cons_succ, Option.some.injEq] at hi
                      subst hi
                      have e0 : ev (.tmp 117) = .pointer (some ⟨r, 0, none⟩) := hin 117 1 ⟨1, .data⟩ (by kernel_rfl) (by simp) rfl rfl (show (117 : Nat) < 136 by decide)
                      refine .inl ⟨.pointer (some ⟨r, 0, none⟩), w', ?_, by show ite _ _ _; rw [if_neg (by decide), if_neg (by decide)]; exact ⟨rfl, hc⟩⟩
                      simp [execOp, e0, hcst, go_sem]
                    | 3, _ =>
                      simp only [List.getElem?_toArray, List.getElem?_cons_zero, List.getElem?_cons_succ, Option.some.injEq] at hi
                      subst hi
                      have e0 : ev (.tmp 118) = .pointer (some ⟨r, 0, none⟩) := hin 118 2 ⟨2, .data⟩ (by kernel_rfl) (by simp) rfl rfl (show (118 : Nat) < 136 by decide)
                      refine .inl ⟨.pointer (some ⟨r, 1, none⟩), w', ?_, by show ite _ _ _; rw [if_neg (by decide), if_neg (by decide)]; exact ⟨rfl, hc⟩⟩
                      simp [execOp, e0, hcst, go_sem]
                    | 4, _ =>
                      simp only [List.getElem?_toArray, List.getElem?_cons_zero, List.getElem?_cons_succ, Option.some.injEq] at hi
                      subst hi
                      have e0 : ev (.tmp 119) = .pointer (some ⟨r, 1, none⟩) := hin 119 3 ⟨3, .data⟩ (by kernel_rfl) (by simp) rfl rfl (show (119 : Nat) < 136 by decide)
                      refine .inl ⟨.slice pa pn pc, w', ?_, by show ite _ _ _; rw [if_neg (by decide), if_neg (by decide)]; exact ⟨rfl, hc⟩⟩
                      have hl2 : sx ≤ 0 := Nat.le_trans hlm (Nat.le_of_eq (by kernel_rfl))
                      have q := (HF3.out sx u w' (by omega) hc).1
                      simp [execOp, e0, hcst, go_sem, q]
                    | 5, _ =>
                      simp only [List.getElem?_toArray, List.getElem?_cons_zero, List.getElem?_cons_succ, Option.some.injEq] at hi
                      subst hi
                      have e0 : ev (.tmp 7) = .pointer (some ⟨N, 0, none⟩) := hout 7 (by kernel_rfl) (show (7 : Nat) < 136 by decide)
                      refine .inl ⟨.pointer (some ⟨N, 0, none⟩), w', ?_, by show ite _ _ _; rw [if_neg (by decide), if_neg (by decide)]; exact ⟨rfl, hc⟩⟩
                      simp [execOp, e0, hcst, go_sem]
                    | 6, _ =>
                      simp only [List.getElem?_toArray, List.getElem?_cons_zero, List.getElem?_cons_succ, Option.some.injEq] at hi
                      subst hi
                      have e0 : ev (.tmp 121) = .pointer (some ⟨N, 0, none⟩) := hin 121 5 ⟨5, .data⟩ (by kernel_rfl) (by simp) rfl rfl (show (121 : Nat) < 136 by decide)
                      refine .inl ⟨.int .i64 xi, w', ?_, by show ite _ _ _; rw [if_neg (by decide), if_neg (by decide)]; exact ⟨rfl, hc⟩⟩
                      have hl2 : sx ≤ 0 := Nat.le_trans hlm (Nat.le_of_eq (by kernel_rfl))
                      have q := (HF3.out sx u w' (by omega) hc).2.1
                      simp [execOp, e0, hcst, go_sem, q]
                    | 7, _ =>
                      simp only [List.getElem?_toArray, List.getElem?_cons_zero, List.getElem?_cons_succ, Option.some.injEq] at hi
                      subst hi
                      have e0 : ev (.tmp 120) = .slice pa pn pc := hin 120 4 ⟨4, .data⟩ (by kernel_rfl) (by simp) rfl rfl (show (120 : Nat) < 136 by decide)
                      have e1 : ev (.tmp 122) = .int .i64 xi := hin 122 6 ⟨6, .data⟩ (by kernel_rfl) (by simp) rfl rfl (show (122 : Nat) < 136 by decide)
                      have hsx : sx = 0 := hks 0 rfl
                      subst hsx
                      refine .inr (.inr ⟨32, #[.slice pa pn pc, .int .i64 xi], ?_, ?_⟩)
                      · have ef := hfn 32
                        simp [execOp, resolve, invoke, ef, hcst, e0, e1, Result.andThen]
                        exact enter32 _ _
                      · refine Calls.mono (P := Try.prog) (R := fun e w2 => ∃ v, e = .returned v ∧ (DrC E (HdD B E ys) r 1) 1 v w2) ?_ ?_
                        · exact CP.out w' hc
                        · rintro e w2 ⟨v, rfl, hv⟩
                          exact ⟨v, rfl, by first | exact hv | (rw [if_pos rfl]; exact hv) | (show ite _ _ _; rw [if_pos rfl]; exact hv)⟩
                    | 8, _ =>
                      simp only [List.getElem?_toArray, List.getElem?_cons_zero, List.getElem?_cons_succ, Option.some.injEq] at hi
                      subst hi
                      have e0 : ev (.tmp 116) = .pointer (some ⟨r, 0, none⟩) := hin 116 0 ⟨0, .data⟩ (by kernel_rfl) (by simp) rfl rfl (show (116 : Nat) < 136 by decide)
                      refine .inl ⟨.pointer (some ⟨r, 0, none⟩), w', ?_, by show ite _ _ _; rw [if_neg (by decide), if_neg (by decide)]; exact ⟨rfl, hc⟩⟩
                      simp [execOp, e0, hcst, go_sem]
                    | 9, _ =>
                      simp only [List.getElem?_toArray, List.getElem?_cons_zero, List.getElem?_cons_succ, Option.some.injEq] at hi
                      subst hi
                      have e0 : ev (.tmp 124) = .pointer (some ⟨r, 0, none⟩) := hin 124 8 ⟨8, .data⟩ (by kernel_rfl) (by simp) rfl rfl (show (124 : Nat) < 136 by decide)
                      refine .inl ⟨.pointer (some ⟨r, 1, none⟩), w', ?_, by show ite _ _ _; rw [if_neg (by decide), if_neg (by decide)]; exact ⟨rfl, hc⟩⟩
                      simp [execOp, e0, hcst, go_sem]
                    | 10, _ =>
                      simp only [List.getElem?_toArray, List.getElem?_cons_zero, List.getElem?_cons_succ, Option.some.injEq] at hi
                      subst hi
                      have e0 : ev (.tmp 125) = .pointer (some ⟨r, 1, none⟩) := hin 125 9 ⟨9, .data⟩ (by kernel_rfl) (by simp) rfl rfl (show (125 : Nat) < 136 by decide)
                      have e1 : ev (.tmp 123) = u := hin 123 7 ⟨7, .data⟩ (by kernel_rfl) (by simp) rfl rfl (show (123 : Nat) < 136 by decide)
                      have hd : 0 < sx := hdp (by decide)
                      have hsx : sx = 1 := hks 1 rfl
                      subst hsx
                      have hq := HF3.out 1 u w' (by omega) hc
                      have hD := DrC.one hc
                      obtain ⟨ya, yc, rfl, hD2⟩ := hD
                      refine .inr (.inl ⟨w'.setCell ⟨r, 1, none⟩ (.slice ya ys.length yc), ?_, by show ite _ _ _; rw [if_neg (by decide), if_pos (by decide)]; exact ⟨rfl, DrC.mk2 hc⟩⟩)
                      have q1 := hq.1
                      have q2 := hq.2.2
                      simp [execOp, e0, e1, hcst, go_sem, q1, q2, Result.andThen]
                  · intro u w9 hc
                    simp only [lexF, Act.put, List.setIfInBounds_toArray, List.set_cons_succ, List.set_cons_zero, List.getD_cons_succ, List.getD_cons_zero]
                    obtain ⟨V3, R3, T1, T2⟩ := HEND.out u w9 hc
                    have N : Hid ((RSk B r w s0 R3 V3 w9 ∧ snk 1 q2 (rs R3) = snk 1 q2 (snk 0 q1 s0)) ∧ mu ((rs R3).row 1) + 1 ≤ mu ((rs R1).row 1)) := by
                      refine ⟨⟨T1, ?_⟩, ?_⟩
                      · rw [T2, ← snk_step (by decide) HGT.out]; exact I.out.2.1
                      · rw [T2]; exact mu_stp (by decide) (by have := HGT.out; omega)
                    clear hc HEND CP HF3 HE3 T1 T2
                    go_wp2
                    go_roundg (mu ((rs R3).row 1))
                    case measure => have := N.out.2; have := I.out.2.2; omega
                    case rel => exact ⟨V3, R3, N.out.1.1, N.out.1.2, Nat.le_refl _⟩
                | false =>
                  rw [hu] at b1 HXU
                  go_wp2
                  clear b1
                  have hP := HR2.out.row 2 (by decide)
                  obtain ⟨pa, pc, hpv⟩ := hP.slice
                  have p2 := HR2.out.cell (k := 2) (by decide)
                  obtain ⟨V2, hV2⟩ : ∃ V2, V2 = upV V1 1 (.slice (some ⟨g, 0, none⟩) m c) := ⟨_, rfl⟩
                  obtain ⟨R2, hR2⟩ : ∃ R2, R2 = upV R1 1 A0 := ⟨_, rfl⟩
                  rw [← hV2] at HR2 hpv p2 hP
                  rw [← hR2] at HR2 hpv hP
                  have hV3 := HR2.out
                  obtain ⟨pn, hpn⟩ : ∃ pn, pn = (R2 2).length := ⟨_, rfl⟩
                  rw [← hpn] at hpv
                  rw [hpv] at p2
                  obtain ⟨E, hE⟩ : ∃ E, E = w9.drew := ⟨_, rfl⟩
                  have bE : Below w9.heap.size w9 E := by rw [hE]; exact ⟨rfl, rfl, rfl, Nat.le_refl _, fun _ _ => rfl⟩
                  have hEs : E.heap.size = w9.heap.size := by rw [hE]; rfl
                  obtain ⟨ys, hys⟩ : ∃ ys : List Nd, ys = (xi, false) :: R2 2 := ⟨_, rfl⟩
                  have rE := hV3.below bE
                  have hl2 : (R2 2).length ≤ 100000 := by
                    have h1 := rs_stp_len (R := R1) (k := 1) (k' := 2) (by decide) (by decide) HS.out
                    have h2 := I.out.1.len
                    have h3 := HL9.out
                    rw [hR2]
                    omega
                  have CP : Hid (∀ W, DrC E (HdD B E ys) r 2 0 undef W → Calls Try.prog 32 #[.slice pa pn pc, .int .i64 xi] W fun e w2 => ∃ v, e = .returned v ∧ DrC E (HdD B E ys) r 2 1 v w2) := fun W hW => by
                    have hW : W = E := hW
                    subst hW
                    have gE := rE.row 2 (by decide)
                    rw [hpv] at gE
                    refine (rhead_any (by rw [hEs]; exact HSZ.out) gE xi hl2).mono ?_
                    rintro e w2 ⟨va, vc, rfl, g1, g2, g3⟩
                    rw [← hys] at g1 g3 ⊢
                    exact ⟨_, rfl, va, vc, rfl, g1, g2, g3⟩
                  have HF3 : Hid (∀ s u W, s ≤ 1 → DrC E (HdD B E ys) r 2 s u W → W.cell? ⟨r, 2, none⟩ = some (.slice pa pn pc) ∧ W.cell? ⟨N, 0, none⟩ = some (.int .i64 xi) ∧ W.frozen? ⟨r, 2, none⟩ = false) := fun s u W hs hc => by
                    have key : ∀ Z, Below w9.heap.size w9 Z → Z.cell? ⟨r, 2, none⟩ = some (.slice pa pn pc) ∧ Z.cell? ⟨N, 0, none⟩ = some (.int .i64 xi) ∧ Z.frozen? ⟨r, 2, none⟩ = false := fun Z hZ => ⟨(hZ.cell (p := ⟨r, 2, none⟩) hV3.own.lt).trans p2, (hZ.cell (p := ⟨N, 0, none⟩) HNB.out.lt).trans (HNB.out.cell (i := 0) rfl), (hV3.below hZ).own.frozen 2⟩
                    match s, hs, hc with
                    | 0, _, hc => have hc : W = E := hc; subst hc; exact key _ bE
                    | 1, _, hc =>
                      obtain ⟨_, _, _, _, h4, _⟩ := DrC.one hc
                      exact key _ (bE.trans (by rw [← hEs]; exact h4))
                  have HE3 : Hid (DrC E (HdD B E ys) r 2 0 undef { w9 with drawn := w9.drawn + 1 }) := hE.symm
                  have HEND : Hid (∀ u W, DrC E (HdD B E ys) r 2 2 u W → ∃ V3 R3, RSk B r w s0 R3 V3 W ∧ rs R3 = stp 1 (rs R1)) := fun u W hc => by
                    obtain ⟨W1, ⟨va, vc, rfl, g1, g2, g3⟩, rfl⟩ := DrC.two hc
                    have t3 := rE.turn (k := 2) (by decide) (Keep.of_below g2) g1 (fun q hq => .inr (g3 q hq))
                    have e1 : rs (upV R2 2 ys) = stp 1 (rs R1) := by
                      rw [hys, hR2, HXI.out]
                      exact rs_stp (by decide) HS.out (.inr ⟨by decide, by rw [← HXU.out]; rfl⟩)
                    refine ⟨_, _, ⟨t3, ?_, ?_, ?_⟩, e1⟩
                    · refine HO1.out.trans ((OffR.of_below bE HSZ.out).trans (rE.offR (by rw [hEs]; exact HSZ.out) ?_))
                      exact (Keep.of_below g2).setCell (p := ⟨r, 2, none⟩) (.inl (mem_fR.2 (.inl rfl))) _
                    · rw [e1]
                      exact (stp_perm (by decide) (rs R1)).trans I.out.1.perm
                    · rw [nblk_setCell]
                      exact Nat.le_trans (by rw [hEs]; exact HSZ.out) g2.size
                  clear hP hpv p2 hV2 hV3 hpn hE bE hEs rE hl2 HNB HR2 HO1 HSZ
                  refine wp_region_cx (by kernel_rfl) (by kernel_rfl) (fun u jx => ([.pointer (some ⟨r, 0, none⟩), .pointer (some ⟨r, 0, none⟩), .pointer (some ⟨r, 0, none⟩), .pointer (some ⟨r, 2, none⟩), .slice pa pn pc, .pointer (some ⟨N, 0, none⟩), .int .i64 xi, u, .pointer (some ⟨r, 0, none⟩), .pointer (some ⟨r, 2, none⟩), undef] : List Value).getD jx undef) 7 [7, 10] [10] (by kernel_rfl) (by kernel_rfl) rfl (fun _ => rfl) (fun v v' jx h1 h2 => by match jx with | 0 => rfl | 1 => rfl | 2 => rfl | 3 => rfl | 4 => rfl | 5 => rfl | 6 => rfl | 7 => exact absurd rfl h2 | 8 => rfl | 9 => rfl | 10 => exact absurd (by decide) h1 | _ + 11 => rfl) (DrC E (HdD B E ys) r 2) (HE3.out) ?_ ?_
                  · intro jx ox hi sx u w' ev hlm hks hdp hc hin hout hcst hfn
                    have hltx : jx < 11 := by
                      have := (Array.getElem?_eq_some_iff.1 hi).1
                      simpa using this
                    match jx, hltx with
                    | 0, _ =>
                      simp only [List.getElem?_toArray, List.getElem?_cons_zero, List.getElem?_cons_succ, Option.some.injEq] at hi
                      subst hi
                      have e0 : ev (.tmp 0) = .pointer (some ⟨r, 0, none⟩) := hout 0 (by kernel_rfl) (show (0 : Nat) < 136 by decide)
                      refine .inl ⟨.pointer (some ⟨r, 0, none⟩), w', ?_, by show ite _ _ _; rw [if_neg (by decide), if_neg (by decide)]; exact ⟨rfl, hc⟩⟩
                      simp [execOp, e0, hcst, go_sem]
                    | 1, _ =>
                      simp only [List.getElem?_toArray, List.getElem?_cons_zero, List.getElem?_cons_succ, Option.some.injEq] at hi
                      subst hi
                      have e0 : ev (.tmp 0) = .pointer (some ⟨r, 0, none⟩) := hout 0 (by kernel_rfl) (show (0 : Nat) < 136 by decide)
                      refine .inl ⟨.pointer (some ⟨r, 0, none⟩), w', ?_, by show ite _ _ _; rw [if_neg (by decide), if_neg (by decide)]; exact ⟨rfl, hc⟩⟩
                      simp [execOp, e0, hcst, go_sem]
                    | 2, _ =>
                      simp only [List.getElem?_toArray, List.getElem?_cons_zero, List.getElem?_cons_succ, Option.some.injEq] at hi
                      subst hi
                      have e0 : ev (.tmp 127) = .pointer (some ⟨r, 0, none⟩) := hin 127 1 ⟨1, .data⟩ (by kernel_rfl) (by simp) rfl rfl (show (127 : Nat) < 136 by decide)
                      refine .inl ⟨.pointer (some ⟨r, 0, none⟩), w', ?_, by show ite _ _ _; rw [if_neg (by decide), if_neg (by decide)]; exact ⟨rfl, hc⟩⟩
                      simp [execOp, e0, hcst, go_sem]
                    | 3, _ =>
                      simp only [List.getElem?_toArray, List.getElem?_cons_zero, List.getElem?_cons_succ, Option.some.injEq] at hi
                      subst hi
                      have e0 : ev (.tmp 128) = .pointer (some ⟨r, 0, none⟩) := hin 128 2 ⟨2, .data⟩ (by kernel_rfl) (by simp) rfl rfl (show (128 : Nat) < 136 by decide)
                      refine .inl ⟨.pointer (some ⟨r, 2, none⟩), w', ?_, by show ite _ _ _; rw [if_neg (by decide), if_neg (by decide)]; exact ⟨rfl, hc⟩⟩
                      simp [execOp, e0, hcst, go_sem]
                    | 4, _ =>
                      simp only [List.getElem?_toArray, List.getElem?_cons_zero, List.getElem?_cons_succ, Option.some.injEq] at hi
                      subst hi
                      have e0 : ev (.tmp 129) = .pointer (some ⟨r, 2, none⟩) := hin 129 3 ⟨3, .data⟩ (by kernel_rfl) (by simp) rfl rfl (show (129 : Nat) < 136 by decide)
                      refine .inl ⟨.slice pa pn pc, w', ?_, by show ite _ _ _; rw [if_neg (by decide), if_neg (by decide)]; exact ⟨rfl, hc⟩⟩
                      have hl2 : sx ≤ 0 := Nat.le_trans hlm (Nat.le_of_eq (by kernel_rfl))
                      have q := (HF3.out sx u w' (by omega) hc).1
                      simp [execOp, e0, hcst, go_sem, q]
                    | 5, _ =>
                      simp only [List.getElem?_toArray, List.getElem?_cons_zero, List.getElem?_cons_succ, Option.some.injEq] at hi
                      subst hi
                      have e0 : ev (.tmp 7) = .pointer (some ⟨N, 0, none⟩) := hout 7 (by kernel_rfl) (show (7 : Nat) < 136 by decide)
                      refine .inl ⟨.pointer (some ⟨N, 0, none⟩), w', ?_, by show ite _ _ _; rw [if_neg (by decide), if_neg (by decide)]; exact ⟨rfl, hc⟩⟩
                      simp [execOp, e0, hcst, go_sem]
                    | 6, _ =>
                      simp only [List.getElem?_toArray, List.getElem?_cons_zero, List.getElem?_cons_succ, Option.some.injEq] at hi
                      subst hi
                      have e0 : ev (.tmp 131) = .pointer (some ⟨N, 0, none⟩) := hin 131 5 ⟨5, .data⟩ (by kernel_rfl) (by simp) rfl rfl (show (131 : Nat) < 136 by decide)
                      refine .inl ⟨.int .i64 xi, w', ?_, by show ite _ _ _; rw [if_neg (by decide), if_neg (by decide)]; exact ⟨rfl, hc⟩⟩
                      have hl2 : sx ≤ 0 := Nat.le_trans hlm (Nat.le_of_eq (by kernel_rfl))
                      have q := (HF3.out sx u w' (by omega) hc).2.1
                      simp [execOp, e0, hcst, go_sem, q]
                    | 7, _ =>
                      simp only [List.getElem?_toArray, List.getElem?_cons_zero, List.getElem?_cons_succ, Option.some.injEq] at hi
                      subst hi
                      have e0 : ev (.tmp 130) = .slice pa pn pc := hin 130 4 ⟨4, .data⟩ (by kernel_rfl) (by simp) rfl rfl (show (130 : Nat) < 136 by decide)
                      have e1 : ev (.tmp 132) = .int .i64 xi := hin 132 6 ⟨6, .data⟩ (by kernel_rfl) (by simp) rfl rfl (show (132 : Nat) < 136 by decide)
                      have hsx : sx = 0 := hks 0 rfl
                      subst hsx
                      refine .inr (.inr ⟨32, #[.slice pa pn pc, .int .i64 xi], ?_, ?_⟩)
                      · have ef := hfn 32
                        simp [execOp, resolve, invoke, ef, hcst, e0, e1, Result.andThen]
                        exact enter32 _ _
                      · refine Calls.mono (P := Try.prog) (R := fun e w2 => ∃ v, e = .returned v ∧ (DrC E (HdD B E ys) r 2) 1 v w2) ?_ ?_
                        · exact CP.out w' hc
                        · rintro e w2 ⟨v, rfl, hv⟩
                          exact ⟨v, rfl, by first | exact hv | (rw [if_pos rfl]; exact hv) | (show ite _ _ _; rw [if_pos rfl]; exact hv)⟩
                    | 8, _ =>
                      simp only [List.getElem?_toArray, List.getElem?_cons_zero, List.getElem?_cons_succ, Option.some.injEq] at hi
                      subst hi
                      have e0 : ev (.tmp 126) = .pointer (some ⟨r, 0, none⟩) := hin 126 0 ⟨0, .data⟩ (by kernel_rfl) (by simp) rfl rfl (show (126 : Nat) < 136 by decide)
                      refine .inl ⟨.pointer (some ⟨r, 0, none⟩), w', ?_, by show ite _ _ _; rw [if_neg (by decide), if_neg (by decide)]; exact ⟨rfl, hc⟩⟩
                      simp [execOp, e0, hcst, go_sem]
                    | 9, _ =>
                      simp only [List.getElem?_toArray, List.getElem?_cons_zero, List.getElem?_cons_succ, Option.some.injEq] at hi
                      subst hi
                      have e0 : ev (.tmp 134) = .pointer (some ⟨r, 0, none⟩) := hin 134 8 ⟨8, .data⟩ (by kernel_rfl) (by simp) rfl rfl (show (134 : Nat) < 136 by decide)
                      refine .inl ⟨.pointer (some ⟨r, 2, none⟩), w', ?_, by show ite _ _ _; rw [if_neg (by decide), if_neg (by decide)]; exact ⟨rfl, hc⟩⟩
                      simp [execOp, e0, hcst, go_sem]
                    | 10, _ =>
                      simp only [List.getElem?_toArray, List.getElem?_cons_zero, List.getElem?_cons_succ, Option.some.injEq] at hi
                      subst hi
                      have e0 : ev (.tmp 135) = .pointer (some ⟨r, 2, none⟩) := hin 135 9 ⟨9, .data⟩ (by kernel_rfl) (by simp) rfl rfl (show (135 : Nat) < 136 by decide)
                      have e1 : ev (.tmp 133) = u := hin 133 7 ⟨7, .data⟩ (by kernel_rfl) (by simp) rfl rfl (show (133 : Nat) < 136 by decide)
                      have hd : 0 < sx := hdp (by decide)
                      have hsx : sx = 1 := hks 1 rfl
                      subst hsx
                      have hq := HF3.out 1 u w' (by omega) hc
                      have hD := DrC.one hc
                      obtain ⟨ya, yc, rfl, hD2⟩ := hD
                      refine .inr (.inl ⟨w'.setCell ⟨r, 2, none⟩ (.slice ya ys.length yc), ?_, by show ite _ _ _; rw [if_neg (by decide), if_pos (by decide)]; exact ⟨rfl, DrC.mk2 hc⟩⟩)
                      have q1 := hq.1
                      have q2 := hq.2.2
                      simp [execOp, e0, e1, hcst, go_sem, q1, q2, Result.andThen]
                  · intro u w9 hc
                    simp only [lexF, Act.put, List.setIfInBounds_toArray, List.set_cons_succ, List.set_cons_zero, List.getD_cons_succ, List.getD_cons_zero]
                    obtain ⟨V3, R3, T1, T2⟩ := HEND.out u w9 hc
                    have N : Hid ((RSk B r w s0 R3 V3 w9 ∧ snk 1 q2 (rs R3) = snk 1 q2 (snk 0 q1 s0)) ∧ mu ((rs R3).row 1) + 1 ≤ mu ((rs R1).row 1)) := by
                      refine ⟨⟨T1, ?_⟩, ?_⟩
                      · rw [T2, ← snk_step (by decide) HGT.out]; exact I.out.2.1
                      · rw [T2]; exact mu_stp (by decide) (by have := HGT.out; omega)
                    clear hc HEND CP HF3 HE3 T1 T2
                    go_wp2
                    go_roundg (mu ((rs R3).row 1))
                    case measure => have := N.out.2; have := I.out.2.2; omega
                    case rel => exact ⟨V3, R3, N.out.1.1, N.out.1.2, Nat.le_refl _⟩
          · have hgt2 : ¬ (q2 : Int) < ((R1 1).length : Int) := by omega
            have hle : (R1 1).length ≤ 100000 := Nat.le_trans (rrow_le (by decide)) (by rw [I.out.1.len]; exact HL9.out)
            have HE : Hid (AdP B r (rs R) i w (.returned (.bool true)) wr) := ⟨by rw [Hhh.out]; rfl, ⟨I.out.1.szB, V1, R1, I.out.1.rf, by rw [HT.out, ← I.out.2.1, snk_stop (by rw [rs_row (by decide)]; exact hgt)]⟩, I.out.1.off⟩
            clear hgt I hv1
            generalize (R1 1).length = nn at *
            go_wp2
            go_ret
            exact HE.out
end
end Go.Proofs.Ytgjgdhjnkbbceaa
