/- The document's own Seg: Evict. -/
import Derived.Test.YtgjgdhjnkbbceaaRf4
set_option linter.unusedVariables false
set_option linter.unusedSimpArgs false
set_option maxRecDepth 8000
namespace Go.Proofs.Ytgjgdhjnkbbceaa
open Go.RowKit Go.Deep Sgm Go.Shelf
section
variable {B : Nat} {w w' W : World} {r k j n : Nat} {V : Nat → Value} {R : Nat → List Nd} {i : Int} {v : Value} {xs : List Nd}
def EvR (B r : Nat) (s : St) (w : World) (a : Int) (b : Bool) (w' : World) : Prop := (a = (evi s).getD 0 ∧ b = (evi s).isSome) ∧ RfZ B r (eviS s) w' ∧ OffR B w w'
theorem rnxt_at {A : List Nd} {x : Nd} (hk : k < 3) (hs : R k = A ++ [x]) (he : ∀ j, k < j → j < 3 → R j = []) : nxtG (rs R) = some x.1 := by
  unfold nxtG rs
  match k, hk with
  | 0, _ => rw [hs, he 1 (by decide) (by decide), he 2 (by decide) (by decide)]; simp
  | 1, _ => rw [hs, he 2 (by decide) (by decide)]; simp
  | 2, _ => rw [hs]; simp
theorem rnxt_no (he : ∀ j, j < 3 → R j = []) : nxtG (rs R) = none := by
  unfold nxtG rs
  rw [he 0 (by decide), he 1 (by decide), he 2 (by decide)]
  rfl
theorem outI_no {l : List Nd} (h : i ∉ ids l) : outI i l = l := out_same (fun x hx e => h (by rw [← e]; exact List.mem_map.2 ⟨x, hx, rfl⟩))
theorem rs_cut {A : List Nd} {x : Nd} (nd : (rs R).Nd) (hk : k < 3) (hs : R k = A ++ [x]) : rs (upV R k A) = rmvS x.1 (rs R) := by
  have e : ∀ j, j < 3 → upV R k A j = outI x.1 (R j) := fun j hj => by
    by_cases hjk : j = k
    · subst hjk
      rw [upV_same, hs, outI_snoc, if_pos rfl]
      have := rs_nd nd hj
      rw [hs, ids, List.map_append, List.nodup_append] at this
      exact (outI_no (fun hm => this.2.2 _ hm _ (by simp) rfl)).symm
    · rw [upV_other _ _ hjk]
      exact (outI_no (rs_ap nd hk hj (fun e => hjk e.symm) (by rw [hs]; simp [ids]))).symm
  exact rs_eq (e 0 (by decide)) (e 1 (by decide)) (e 2 (by decide))
def ev3r (r : Nat) : List Value := [.pointer (some ⟨r, 2, none⟩), .pointer (some ⟨r, 1, none⟩), .pointer (some ⟨r, 0, none⟩)]
def evO (r : Nat) : Obj := .cells #[.pointer (some ⟨r, 2, none⟩), .pointer (some ⟨r, 1, none⟩), .pointer (some ⟨r, 0, none⟩)] 62
set_option maxHeartbeats 16000000 in
theorem revict_any (hB : B ≤ w.heap.size) (h : RfIn B w r V R) (nd : (rs R).Nd) (hn : (rs R).all.length ≤ 100000) : Calls Try.prog 19 #[.pointer (some ⟨r, 0, none⟩)] w fun e w' => e = .returned (.tuple #[.int .i64 ((evi (rs R)).getD 0), .bool (evi (rs R)).isSome]) ∧ RfZ B r (eviS (rs R)) w' ∧ OffR B w w' := by
  obtain ⟨s0, hs0⟩ : ∃ s0, s0 = rs R := ⟨_, rfl⟩
  rw [← hs0] at nd hn ⊢
  have HL9 : Hid (s0.all.length ≤ 100000) := hn
  have ND := hide nd
  have S0 : Hid (RSk B r w s0 R V w ∧ rs R = s0) := ⟨⟨h, OffR.of_below (Below.refl _ w) hB, by rw [hs0], hB⟩, hs0.symm⟩
  clear h nd hn hB hs0
  go_enter Try.func19, Try.ntmps19
  go_wp2
  go_loopg [4] (R 2).length (fun kx s4 wr => ∃ (V1 : Nat → Value) (R1 : Nat → List Nd), Hid (RSk B r w s0 R1 V1 wr ∧ spr (rs R1) = spr s0 ∧ (R1 2).length ≤ kx))
  case atStart => exact ⟨V, R, S0.out.1, by rw [S0.out.2], Nat.le_refl _⟩
  case round =>
    clear S0
    obtain ⟨V1, R1, I⟩ := hrel
    have nd1 : (rs R1).Nd := by unfold St.Nd; rw [I.out.1.perm.nodup_iff]; exact ND.out
    have HN1 := hide nd1
    clear nd1
    rcases List.eq_nil_or_concat (R1 2) with hnil | ⟨A9, x9, hs9⟩
    · have hu : lastU (rs R1).c = false := by show lastU (R1 2) = false; rw [hnil]; rfl
      have HS : Hid (RSk B r w s0 R1 V1 wr ∧ rs R1 = spr s0) := ⟨I.out.1, by rw [← I.out.2.1, spr_stop hu]⟩
      have kc := I.out.1.rf.cell (k := 2) (by decide)
      obtain ⟨va1, vc1, hv1⟩ := (I.out.1.rf.row 2 (by decide)).slice
      rw [hv1, hnil] at kc
      simp only [List.length_nil] at kc
      clear hu hnil hv1 I
      go_wp2
      go_quiet (fail)
      clear kc
      obtain ⟨wq, hwq⟩ : ∃ wq, wq = wr.drewN nq := ⟨_, rfl⟩
      have bq : Below wr.heap.size wr wq := by rw [hwq]; exact ⟨rfl, rfl, rfl, Nat.le_refl _, fun _ _ => rfl⟩
      rw [← hwq]
      have HS2 : Hid (RSk B r w s0 R1 V1 wq ∧ rs R1 = spr s0) := ⟨⟨HS.out.1.rf.below bq, HS.out.1.off.trans (OffR.of_below bq HS.out.1.szB), HS.out.1.perm, Nat.le_trans HS.out.1.szB bq.size⟩, HS.out.2⟩
      clear hwq bq HS
      go_wp2
      obtain ⟨A, hA⟩ : ∃ A, A = wq.drew := ⟨_, rfl⟩
      obtain ⟨M, hM⟩ : ∃ M, M = A.heap.size := ⟨_, rfl⟩
      have bA : Below wq.heap.size wq (A.alloc (evO r)) := by rw [hA]; exact (show Below wq.heap.size wq wq.drew from ⟨rfl, rfl, rfl, Nat.le_refl _, fun _ _ => rfl⟩).alloc (Nat.le_refl _) _
      have HR : Hid (Blk (A.alloc (evO r)) M (ev3r r) 62) := by rw [hM]; exact Blk.new A (ev3r r) 62
      have HS3 : Hid (RSk B r w s0 R1 V1 (A.alloc (evO r)) ∧ rs R1 = spr s0) := ⟨⟨HS2.out.1.rf.below bA, HS2.out.1.off.trans (OffR.of_below bA HS2.out.1.szB), HS2.out.1.perm, Nat.le_trans HS2.out.1.szB bA.size⟩, HS2.out.2⟩
      have HA : Hid (CC4 A (A.alloc (evO r)) A A 0 { wq with drawn := wq.drawn + 1 }) := hA.symm
      have HMM := hide hM
      clear hA hM bA HS2
      refine wp_region_chain (by kernel_rfl) (by kernel_rfl) (fun jx => ([.pointer (some ⟨r, 0, none⟩), .pointer (some ⟨r, 0, none⟩), .pointer (some ⟨r, 2, none⟩), .pointer (some ⟨r, 0, none⟩), .pointer (some ⟨r, 0, none⟩), .pointer (some ⟨r, 1, none⟩), .pointer (some ⟨r, 0, none⟩), .pointer (some ⟨r, 0, none⟩), .pointer (some ⟨r, 0, none⟩), .slice (some ⟨M, 0, none⟩) 3 3, .slice (some ⟨M, 0, none⟩) 3 3] : List Value).getD jx undef) [9] (by kernel_rfl) (CC4 A (A.alloc (evO r)) A A) (HA.out) ?_ ?_
      · intro jx ox hi sx w' ev hlm hks hc hin hout hcst hfn
        have hltx : jx < 11 := by
          have := (Array.getElem?_eq_some_iff.1 hi).1
          simpa using this
        match jx, hltx with
        | 0, _ =>
          simp only [List.getElem?_toArray, List.getElem?_cons_zero, List.getElem?_cons_succ, Option.some.injEq] at hi
          subst hi
          have e0 : ev (.tmp 0) = .pointer (some ⟨r, 0, none⟩) := hout 0 (by kernel_rfl) (show (0 : Nat) < 105 by decide)
          rw [if_neg (by decide)]
          refine .inl ⟨w', ?_, hc⟩
          show _ = Result.ok (Next.value (.pointer (some ⟨r, 0, none⟩))) w'
          simp [execOp, e0, hcst, go_sem]
        | 1, _ =>
          simp only [List.getElem?_toArray, List.getElem?_cons_zero, List.getElem?_cons_succ, Option.some.injEq] at hi
          subst hi
          have e0 : ev (.tmp 65) = .pointer (some ⟨r, 0, none⟩) := hin 65 0 ⟨0, .data⟩ (by kernel_rfl) (by simp) rfl rfl (show (65 : Nat) < 105 by decide)
          rw [if_neg (by decide)]
          refine .inl ⟨w', ?_, hc⟩
          show _ = Result.ok (Next.value (.pointer (some ⟨r, 0, none⟩))) w'
          simp [execOp, e0, hcst, go_sem]
        | 2, _ =>
          simp only [List.getElem?_toArray, List.getElem?_cons_zero, List.getElem?_cons_succ, Option.some.injEq] at hi
          subst hi
          have e0 : ev (.tmp 66) = .pointer (some ⟨r, 0, none⟩) := hin 66 1 ⟨1, .data⟩ (by kernel_rfl) (by simp) rfl rfl (show (66 : Nat) < 105 by decide)
          rw [if_neg (by decide)]
          refine .inl ⟨w', ?_, hc⟩
          show _ = Result.ok (Next.value (.pointer (some ⟨r, 2, none⟩))) w'
          simp [execOp, e0, hcst, go_sem]
        | 3, _ =>
          simp only [List.getElem?_toArray, List.getElem?_cons_zero, List.getElem?_cons_succ, Option.some.injEq] at hi
          subst hi
          have e0 : ev (.tmp 0) = .pointer (some ⟨r, 0, none⟩) := hout 0 (by kernel_rfl) (show (0 : Nat) < 105 by decide)
          rw [if_neg (by decide)]
          refine .inl ⟨w', ?_, hc⟩
          show _ = Result.ok (Next.value (.pointer (some ⟨r, 0, none⟩))) w'
          simp [execOp, e0, hcst, go_sem]
        | 4, _ =>
          simp only [List.getElem?_toArray, List.getElem?_cons_zero, List.getElem?_cons_succ, Option.some.injEq] at hi
          subst hi
          have e0 : ev (.tmp 68) = .pointer (some ⟨r, 0, none⟩) := hin 68 3 ⟨3, .data⟩ (by kernel_rfl) (by simp) rfl rfl (show (68 : Nat) < 105 by decide)
          rw [if_neg (by decide)]
          refine .inl ⟨w', ?_, hc⟩
          show _ = Result.ok (Next.value (.pointer (some ⟨r, 0, none⟩))) w'
          simp [execOp, e0, hcst, go_sem]
        | 5, _ =>
          simp only [List.getElem?_toArray, List.getElem?_cons_zero, List.getElem?_cons_succ, Option.some.injEq] at hi
          subst hi
          have e0 : ev (.tmp 69) = .pointer (some ⟨r, 0, none⟩) := hin 69 4 ⟨4, .data⟩ (by kernel_rfl) (by simp) rfl rfl (show (69 : Nat) < 105 by decide)
          rw [if_neg (by decide)]
          refine .inl ⟨w', ?_, hc⟩
          show _ = Result.ok (Next.value (.pointer (some ⟨r, 1, none⟩))) w'
          simp [execOp, e0, hcst, go_sem]
        | 6, _ =>
          simp only [List.getElem?_toArray, List.getElem?_cons_zero, List.getElem?_cons_succ, Option.some.injEq] at hi
          subst hi
          have e0 : ev (.tmp 0) = .pointer (some ⟨r, 0, none⟩) := hout 0 (by kernel_rfl) (show (0 : Nat) < 105 by decide)
          rw [if_neg (by decide)]
          refine .inl ⟨w', ?_, hc⟩
          show _ = Result.ok (Next.value (.pointer (some ⟨r, 0, none⟩))) w'
          simp [execOp, e0, hcst, go_sem]
        | 7, _ =>
          simp only [List.getElem?_toArray, List.getElem?_cons_zero, List.getElem?_cons_succ, Option.some.injEq] at hi
          subst hi
          have e0 : ev (.tmp 71) = .pointer (some ⟨r, 0, none⟩) := hin 71 6 ⟨6, .data⟩ (by kernel_rfl) (by simp) rfl rfl (show (71 : Nat) < 105 by decide)
          rw [if_neg (by decide)]
          refine .inl ⟨w', ?_, hc⟩
          show _ = Result.ok (Next.value (.pointer (some ⟨r, 0, none⟩))) w'
          simp [execOp, e0, hcst, go_sem]
        | 8, _ =>
          simp only [List.getElem?_toArray, List.getElem?_cons_zero, List.getElem?_cons_succ, Option.some.injEq] at hi
          subst hi
          have e0 : ev (.tmp 72) = .pointer (some ⟨r, 0, none⟩) := hin 72 7 ⟨7, .data⟩ (by kernel_rfl) (by simp) rfl rfl (show (72 : Nat) < 105 by decide)
          rw [if_neg (by decide)]
          refine .inl ⟨w', ?_, hc⟩
          show _ = Result.ok (Next.value (.pointer (some ⟨r, 0, none⟩))) w'
          simp [execOp, e0, hcst, go_sem]
        | 9, _ =>
          simp only [List.getElem?_toArray, List.getElem?_cons_zero, List.getElem?_cons_succ, Option.some.injEq] at hi
          subst hi
          have e0 : ev (.tmp 67) = .pointer (some ⟨r, 2, none⟩) := hin 67 2 ⟨2, .data⟩ (by kernel_rfl) (by simp) rfl rfl (show (67 : Nat) < 105 by decide)
          have e1 : ev (.tmp 70) = .pointer (some ⟨r, 1, none⟩) := hin 70 5 ⟨5, .data⟩ (by kernel_rfl) (by simp) rfl rfl (show (70 : Nat) < 105 by decide)
          have e2 : ev (.tmp 73) = .pointer (some ⟨r, 0, none⟩) := hin 73 8 ⟨8, .data⟩ (by kernel_rfl) (by simp) rfl rfl (show (73 : Nat) < 105 by decide)
          rw [if_pos (by decide)]
          have hsx : sx = 0 := hks 0 rfl
          subst hsx
          have hw : w' = A := hc
          subst hw
          have q := HMM.out
          refine .inl ⟨_, ?_, rfl⟩
          simp [execOp, e0, e1, e2, hcst, go_sem, q, Result.andThen, evO]
        | 10, _ =>
          simp only [List.getElem?_toArray, List.getElem?_cons_zero, List.getElem?_cons_succ, Option.some.injEq] at hi
          subst hi
          have e0 : ev (.tmp 74) = .slice (some ⟨M, 0, none⟩) 3 3 := hin 74 9 ⟨9, .data⟩ (by kernel_rfl) (by simp) rfl rfl (show (74 : Nat) < 105 by decide)
          rw [if_neg (by decide)]
          refine .inl ⟨w', ?_, hc⟩
          show _ = Result.ok (Next.value (.slice (some ⟨M, 0, none⟩) 3 3)) w'
          simp [execOp, e0, hcst, go_sem]
      · intro w9 hc
        simp only [lexF, Act.put, List.setIfInBounds_toArray, List.set_cons_succ, List.set_cons_zero, List.getD_cons_succ, List.getD_cons_zero]
        have hw : w9 = A.alloc (evO r) := hc
        subst hw
        obtain ⟨W, hW⟩ : ∃ W, W = A.alloc (evO r) := ⟨_, rfl⟩
        rw [← hW] at HR HS3 ⊢
        clear HA HMM hc hW
        go_wp2
        go_loopg [6, 7] 3 (fun ky s6 s7 wz => ∃ (q : Nat), s6 = .int .i64 (q : Int) ∧ wz = W ∧ Hid (q ≤ 3 ∧ 3 - q ≤ ky ∧ ∀ j, 2 < q + j → j < 3 → R1 j = []))
        case atStart => exact ⟨0, rfl, rfl, by decide, by decide, fun j h1 h2 => by omega⟩
        case round =>
          obtain ⟨q, rfl, rfl, J⟩ := hrel
          by_cases hq : q < 3
          · have hq2 : (q : Int) < 3 := by omega
            obtain ⟨kk, hkk⟩ : ∃ kk, kk = 2 - q := ⟨_, rfl⟩
            have hk3 : kk < 3 := by omega
            have cr : wr.cell? ⟨M, q, none⟩ = some (.pointer (some ⟨r, kk, none⟩)) := HR.out.cell (by
              rw [hkk]
              match q, hq with
              | 0, _ => rfl
              | 1, _ => rfl
              | 2, _ => rfl)
            have k2 := HS3.out.1.rf.cell hk3
            have hG := HS3.out.1.rf.row kk hk3
            rcases List.eq_nil_or_concat (R1 kk) with hnil | ⟨A0, x, hs0⟩
            · obtain ⟨va, vc, hv⟩ := hG.slice
              rw [hv, hnil] at k2
              simp only [List.length_nil] at k2
              have J2 : Hid (∀ j, 2 < q + 1 + j → j < 3 → R1 j = []) := fun j p1 p2 => by
                by_cases e : j = kk
                · rw [e]; exact hnil
                · exact J.out.2.2 j (by omega) p2
              obtain ⟨q1, hq1⟩ : ∃ q1, q1 = q + 1 := ⟨_, rfl⟩
              have e2 : (q : Int) + 1 = (q1 : Int) := by omega
              have Hq := hide hq
              have Hq1 := hide hq1
              rw [← hq1] at J2
              clear hnil hv hG hkk hk3 hq1
              go_wp2
              go_roundg (3 - q1)
              case measure => have := J.out.2.1; have := Hq.out; have := Hq1.out; omega
              case rel => exact ⟨q1, rfl, rfl, by have := Hq.out; have := Hq1.out; omega, Nat.le_refl _, J2.out⟩
            · have hs : R1 kk = A0 ++ [x] := by rw [hs0]; simp
              have hpos : 0 < (R1 kk).length := by rw [hs]; simp
              obtain ⟨g, c, hv⟩ := hG.form hpos
              have HV := hide hv
              rw [hv] at k2 hG
              obtain ⟨m, hm⟩ : ∃ m, m = A0.length := ⟨_, rfl⟩
              obtain ⟨n, hn⟩ : ∃ n, n = (R1 kk).length := ⟨_, rfl⟩
              have hnm : n = m + 1 := by rw [hn, hs, hm]; simp
              have gx : (R1 kk)[m]? = some x := by rw [hs, hm]; simp
              rw [← hn] at k2 hG HV
              obtain ⟨x0, x1⟩ := hG.at0 gx
              have hnc : n ≤ c := by
                obtain ⟨_, c', hv', _, _, hle⟩ := hG.cell gx (r := 0) (u := .int .i64 x.1) rfl
                simp only [Value.slice.injEq] at hv'
                rw [hv'.2.2]; omega
              have hn9 : n ≤ 100000 := by rw [hn]; exact Nat.le_trans (rrow_le hk3) (by rw [HS3.out.1.len]; exact HL9.out)
              have hp2 : (0 : Int) < (n : Int) := by omega
              have e7 : (n : Int) - 1 = (m : Int) := by omega
              have e8 : m < n := by omega
              have HSU : Hid (∀ X, (binOp .sub 3 (.int .i64 (n : Int)) (.int .i64 1)).run Try.prog X = .ok (.int .i64 (m : Int)) X) := run_pred n m hnm (by omega)
              have HSL : Hid (∀ X, (Instr.sliceAt 31 (.slice (some ⟨g, 0, none⟩) n c) none (some (.int .i64 (m : Int))) none).run Try.prog X = .ok (.slice (some ⟨g, 0, none⟩) m c) X) := run_headN g n c m (by omega)
              obtain ⟨xi, hxi⟩ : ∃ xi, xi = x.1 := ⟨_, rfl⟩
              rw [← hxi] at x0
              have rlt := HS3.out.1.rf.own.lt
              have glt : g < wr.heap.size := (hG.lt g (by simp [ownB, Value.ownBlock])).2
              obtain ⟨D, hD⟩ : ∃ D, D = wr.drew := ⟨_, rfl⟩
              obtain ⟨D1, hD1⟩ : ∃ D1, D1 = D.setCell ⟨r, kk, none⟩ (.slice (some ⟨g, 0, none⟩) m c) := ⟨_, rfl⟩
              have bD : Below wr.heap.size wr D := by rw [hD]; exact ⟨rfl, rfl, rfl, Nat.le_refl _, fun _ _ => rfl⟩
              have rD := HS3.out.1.rf.below bD
              have hkeep : Keep (fR r V1) D D1 := by rw [hD1]; exact (Keep.refl _ D).setCell (p := ⟨r, kk, none⟩) (.inl (mem_fR.2 (.inl rfl))) _
              have r2 : RfIn B D1 r (upV V1 kk (.slice (some ⟨g, 0, none⟩) m c)) (upV R1 kk A0) := by
                rw [hD1]
                have gD := rD.row kk hk3
                rw [HV.out] at gD
                refine rD.turn hk3 (Keep.refl _ D) (by
                  have := GR.cut (n := m) (by rw [← hn]; exact gD) (by omega)
                  rw [show (R1 kk).take m = A0 by rw [hs, hm]; simp] at this
                  exact this) (fun q hq => .inl (by rw [HV.out]; simpa [ownB, Value.ownBlock] using hq))
              have grow : D1.cell? ⟨g, m * 2, none⟩ = some (.int .i64 xi) := by
                have gD := rD.row kk hk3
                rw [HV.out] at gD
                have : D1.heap[g]? = D.heap[g]? := by rw [hD1]; exact blk_setCell_other _ _ _ _ (rD.off hk3 g (by rw [HV.out]; simp [ownB, Value.ownBlock]))
                rw [World.cell?_of_block (a := ⟨g, m * 2, none⟩) this, hxi]
                exact (gD.at0 gx).1
              have HEV : Hid (EvR B r s0 w xi true D1) := by
                have hnx := rnxt_at hk3 hs (fun j p1 p2 => J.out.2.2 j (by omega) p2)
                have hev : evi s0 = some x.1 := by unfold evi; rw [← HS3.out.2]; exact hnx
                refine ⟨⟨by rw [hev, hxi]; rfl, by rw [hev]; rfl⟩, ⟨?_, _, _, r2, ?_⟩, ?_⟩
                · rw [hD1, nblk_setCell]; exact Nat.le_trans HS3.out.1.szB bD.size
                · unfold eviS
                  rw [hev, ← HS3.out.2]
                  exact rs_cut HN1.out hk3 hs
                · exact HS3.out.1.off.trans ((OffR.of_below bD HS3.out.1.szB).trans (rD.offR (Nat.le_trans HS3.out.1.szB bD.size) hkeep))
              have HG5 : Hid (D.cell? ⟨M, q, none⟩ = some (.pointer (some ⟨r, kk, none⟩))) := by rw [hD]; exact cr
              have HW1 : Hid (Wr D ⟨r, kk, none⟩) := ⟨⟨_, (bD.cell (p := ⟨r, kk, none⟩) rlt).trans k2⟩, rD.own.frozen kk⟩
              have HD : Hid (CC4 D D1 D1 D1 0 { wr with drawn := wr.drawn + 1 }) := hD.symm
              have HD1 := hide hD1
              have HQ3 := hide hq
              clear hs hs0 hv hG hm hn hnm gx hnc x1 hxi rlt glt hD hD1 bD rD hkeep r2 hkk hk3 J hpos x0
              go_wp2
              refine wp_region_chain (by kernel_rfl) (by kernel_rfl) (fun jx => ([.slice (some ⟨M, 0, none⟩) 3 3, .int .i64 (q : Int), .pointer (some ⟨M, q, none⟩), .pointer (some ⟨r, kk, none⟩), .slice (some ⟨g, 0, none⟩) n c, .slice (some ⟨g, 0, none⟩) n c, .int .i64 (n : Int), .int .i64 (m : Int), .slice (some ⟨g, 0, none⟩) m c, .pointer (some ⟨r, kk, none⟩), undef] : List Value).getD jx undef) [10] (by kernel_rfl) (CC4 D D1 D1 D1) (HD.out) ?_ ?_
              · intro jx ox hi sx w' ev hlm hks hc hin hout hcst hfn
                have hltx : jx < 11 := by
                  have := (Array.getElem?_eq_some_iff.1 hi).1
                  simpa using this
                match jx, hltx with
                | 0, _ =>
                  simp only [List.getElem?_toArray, List.getElem?_cons_zero, List.getElem?_cons_succ, Option.some.injEq] at hi
                  subst hi
                  have e0 : ev (.tmp 5) = .slice (some ⟨M, 0, none⟩) 3 3 := hout 5 (by kernel_rfl) (show (5 : Nat) < 105 by decide)
                  rw [if_neg (by decide)]
                  refine .inl ⟨w', ?_, hc⟩
                  show _ = Result.ok (Next.value (.slice (some ⟨M, 0, none⟩) 3 3)) w'
                  simp [execOp, e0, hcst, go_sem]
                | 1, _ =>
                  simp only [List.getElem?_toArray, List.getElem?_cons_zero, List.getElem?_cons_succ, Option.some.injEq] at hi
                  subst hi
                  have e0 : ev (.tmp 6) = .int .i64 (q : Int) := hout 6 (by kernel_rfl) (show (6 : Nat) < 105 by decide)
                  rw [if_neg (by decide)]
                  refine .inl ⟨w', ?_, hc⟩
                  show _ = Result.ok (Next.value (.int .i64 (q : Int))) w'
                  simp [execOp, e0, hcst, go_sem]
                | 2, _ =>
                  simp only [List.getElem?_toArray, List.getElem?_cons_zero, List.getElem?_cons_succ, Option.some.injEq] at hi
                  subst hi
                  have e0 : ev (.tmp 88) = .slice (some ⟨M, 0, none⟩) 3 3 := hin 88 0 ⟨0, .data⟩ (by kernel_rfl) (by simp) rfl rfl (show (88 : Nat) < 105 by decide)
                  have e1 : ev (.tmp 89) = .int .i64 (q : Int) := hin 89 1 ⟨1, .data⟩ (by kernel_rfl) (by simp) rfl rfl (show (89 : Nat) < 105 by decide)
                  rw [if_neg (by decide)]
                  refine .inl ⟨w', ?_, hc⟩
                  show _ = Result.ok (Next.value (.pointer (some ⟨M, q, none⟩))) w'
                  have q3 := HQ3.out
                  simp [execOp, e0, e1, hcst, go_sem, q3]
                  intro q4
                  exact absurd q3 (by omega)
                | 3, _ =>
                  simp only [List.getElem?_toArray, List.getElem?_cons_zero, List.getElem?_cons_succ, Option.some.injEq] at hi
                  subst hi
                  have e0 : ev (.tmp 90) = .pointer (some ⟨M, q, none⟩) := hin 90 2 ⟨2, .data⟩ (by kernel_rfl) (by simp) rfl rfl (show (90 : Nat) < 105 by decide)
                  rw [if_neg (by decide)]
                  have hl2 : sx ≤ 0 := Nat.le_trans hlm (Nat.le_of_eq (by kernel_rfl))
                  obtain rfl : sx = 0 := Nat.le_zero.1 hl2
                  have hw : w' = D := hc
                  subst hw
                  refine .inl ⟨_, ?_, hc⟩
                  show _ = Result.ok (Next.value _) _
                  have q1 := HG5.out
                  simp [execOp, e0, hcst, go_sem, q1]
                | 4, _ =>
                  simp only [List.getElem?_toArray, List.getElem?_cons_zero, List.getElem?_cons_succ, Option.some.injEq] at hi
                  subst hi
                  have e0 : ev (.tmp 7) = .slice (some ⟨g, 0, none⟩) n c := hout 7 (by kernel_rfl) (show (7 : Nat) < 105 by decide)
                  rw [if_neg (by decide)]
                  refine .inl ⟨w', ?_, hc⟩
                  show _ = Result.ok (Next.value (.slice (some ⟨g, 0, none⟩) n c)) w'
                  simp [execOp, e0, hcst, go_sem]
                | 5, _ =>
                  simp only [List.getElem?_toArray, List.getElem?_cons_zero, List.getElem?_cons_succ, Option.some.injEq] at hi
                  subst hi
                  have e0 : ev (.tmp 7) = .slice (some ⟨g, 0, none⟩) n c := hout 7 (by kernel_rfl) (show (7 : Nat) < 105 by decide)
                  rw [if_neg (by decide)]
                  refine .inl ⟨w', ?_, hc⟩
                  show _ = Result.ok (Next.value (.slice (some ⟨g, 0, none⟩) n c)) w'
                  simp [execOp, e0, hcst, go_sem]
                | 6, _ =>
                  simp only [List.getElem?_toArray, List.getElem?_cons_zero, List.getElem?_cons_succ, Option.some.injEq] at hi
                  subst hi
                  have e0 : ev (.tmp 93) = .slice (some ⟨g, 0, none⟩) n c := hin 93 5 ⟨5, .data⟩ (by kernel_rfl) (by simp) rfl rfl (show (93 : Nat) < 105 by decide)
                  rw [if_neg (by decide)]
                  refine .inl ⟨w', ?_, hc⟩
                  show _ = Result.ok (Next.value (.int .i64 (n : Int))) w'
                  simp [execOp, e0, hcst, resolve, invoke, builtin, Builtin.len_, Result.andThen, go_sem]
                | 7, _ =>
                  simp only [List.getElem?_toArray, List.getElem?_cons_zero, List.getElem?_cons_succ, Option.some.injEq] at hi
                  subst hi
                  have e0 : ev (.tmp 94) = .int .i64 (n : Int) := hin 94 6 ⟨6, .data⟩ (by kernel_rfl) (by simp) rfl rfl (show (94 : Nat) < 105 by decide)
                  rw [if_neg (by decide)]
                  refine .inl ⟨w', ?_, hc⟩
                  show _ = Result.ok (Next.value (.int .i64 (m : Int))) w'
                  have q := HSU.out w'
                  simp [execOp, e0, hcst, eqGuard, q, Result.andThen, pure, Sem.run]
                | 8, _ =>
                  simp only [List.getElem?_toArray, List.getElem?_cons_zero, List.getElem?_cons_succ, Option.some.injEq] at hi
                  subst hi
                  have e0 : ev (.tmp 92) = .slice (some ⟨g, 0, none⟩) n c := hin 92 4 ⟨4, .data⟩ (by kernel_rfl) (by simp) rfl rfl (show (92 : Nat) < 105 by decide)
                  have e1 : ev (.tmp 95) = .int .i64 (m : Int) := hin 95 7 ⟨7, .data⟩ (by kernel_rfl) (by simp) rfl rfl (show (95 : Nat) < 105 by decide)
                  rw [if_neg (by decide)]
                  refine .inl ⟨w', ?_, hc⟩
                  show _ = Result.ok (Next.value (.slice (some ⟨g, 0, none⟩) m c)) w'
                  have q := HSL.out w'
                  simp [execOp, e0, e1, hcst, q, Result.andThen]
                | 9, _ =>
                  simp only [List.getElem?_toArray, List.getElem?_cons_zero, List.getElem?_cons_succ, Option.some.injEq] at hi
                  subst hi
                  have e0 : ev (.tmp 91) = .pointer (some ⟨r, kk, none⟩) := hin 91 3 ⟨3, .data⟩ (by kernel_rfl) (by simp) rfl rfl (show (91 : Nat) < 105 by decide)
                  rw [if_neg (by decide)]
                  refine .inl ⟨w', ?_, hc⟩
                  show _ = Result.ok (Next.value (.pointer (some ⟨r, kk, none⟩))) w'
                  simp [execOp, e0, hcst, go_sem]
                | 10, _ =>
                  simp only [List.getElem?_toArray, List.getElem?_cons_zero, List.getElem?_cons_succ, Option.some.injEq] at hi
                  subst hi
                  have e0 : ev (.tmp 97) = .pointer (some ⟨r, kk, none⟩) := hin 97 9 ⟨9, .data⟩ (by kernel_rfl) (by simp) rfl rfl (show (97 : Nat) < 105 by decide)
                  have e1 : ev (.tmp 96) = .slice (some ⟨g, 0, none⟩) m c := hin 96 8 ⟨8, .data⟩ (by kernel_rfl) (by simp) rfl rfl (show (96 : Nat) < 105 by decide)
                  rw [if_pos (by decide)]
                  have hsx : sx = 0 := hks 0 rfl
                  subst hsx
                  have hw : w' = D := hc
                  subst hw
                  refine .inr (.inl ⟨rfl, D1, ?_, rfl⟩)
                  have q3 := HD1.out
                  rw [q3]
                  obtain ⟨⟨v0, q1⟩, q2⟩ := HW1.out
                  simp [execOp, e0, e1, hcst, go_sem, q1, q2, Result.andThen]
              · intro w8 hc
                simp only [lexF, Act.put, List.setIfInBounds_toArray, List.set_cons_succ, List.set_cons_zero, List.getD_cons_succ, List.getD_cons_zero]
                have hw : w8 = D1 := hc
                subst hw
                clear HSU HSL HG5 HW1 HD HD1 HQ3 hc
                go_wp2
                go_ret2
                exact ⟨ret_two HEV.out.1.1 HEV.out.1.2, HEV.out.2⟩
          · have hq3 : q = 3 := by have := J.out.1; omega
            subst hq3
            have HEV : Hid (EvR B r s0 w 0 false wr) := by
              have hev : evi s0 = none := by unfold evi; rw [← HS3.out.2]; exact rnxt_no (fun j hj => J.out.2.2 j (by omega) hj)
              refine ⟨⟨by rw [hev]; rfl, by rw [hev]; rfl⟩, ⟨HS3.out.1.szB, V1, R1, HS3.out.1.rf, ?_⟩, HS3.out.1.off⟩
              unfold eviS
              rw [hev, HS3.out.2]
            clear hq J
            go_wp2
            go_ret2
            exact ⟨ret_two HEV.out.1.1 HEV.out.1.2, HEV.out.2⟩
    · have hs : R1 2 = A9 ++ [x9] := by rw [hs9]; simp
      have hlu : lastU (rs R1).c = x9.2 := by
        show lastU (R1 2) = _
        rw [hs, lastU_snoc]
      have hpos : 0 < (R1 2).length := by rw [hs]; simp
      have hG9 := I.out.1.rf.row 2 (by decide)
      obtain ⟨g9, c9, hv9⟩ := hG9.form hpos
      have kc := I.out.1.rf.cell (k := 2) (by decide)
      rw [hv9] at kc hG9
      obtain ⟨m9, hm9⟩ : ∃ m9, m9 = A9.length := ⟨_, rfl⟩
      have gx9 : (R1 2)[m9]? = some x9 := by rw [hs, hm9]; simp
      have y1 := (hG9.at0 gx9).2
      obtain ⟨n9, hn9⟩ : ∃ n9, n9 = (R1 2).length := ⟨_, rfl⟩
      have hnm9 : n9 = m9 + 1 := by rw [hn9, hs, hm9]; simp
      rw [← hn9] at kc
      have hp8 : 0 < n9 := by omega
      have hp9 : decide (0 < n9) = true := decide_eq_true hp8
      have hle9 : n9 ≤ 100000 := by rw [hn9]; exact Nat.le_trans (rrow_le (by decide)) (by rw [I.out.1.len]; exact HL9.out)
      have ew : IntKind.i64.wrap ((n9 : Int) - 1) = (m9 : Int) := by rw [IntKind.wrap_i64]; omega
      have ew2 : (n9 : Int) - 1 = (m9 : Int) := by omega
      have hlt9 : (m9 : Int) < (n9 : Int) := by omega
      have hlt8 : m9 < n9 := by omega
      cases hu : x9.2 with
      | true =>
        rw [hu] at y1 hlu
        have HLU := hide hlu
        have Hhs := hide hs
        clear hs hs9 hu hlu hG9 hv9 hm9 gx9 hn9 hnm9
        go_wp2
        go_quiet (fail)
        clear kc y1 ew ew2 hlt9 hlt8 hp9 hp8 hle9
        obtain ⟨wq, hwq⟩ : ∃ wq, wq = wr.drewN nq := ⟨_, rfl⟩
        have bq : Below wr.heap.size wr wq := by rw [hwq]; exact ⟨rfl, rfl, rfl, Nat.le_refl _, fun _ _ => rfl⟩
        rw [← hwq]
        have I2 : Hid (RSk B r w s0 R1 V1 wq ∧ spr (rs R1) = spr s0) := ⟨⟨I.out.1.rf.below bq, I.out.1.off.trans (OffR.of_below bq I.out.1.szB), I.out.1.perm, Nat.le_trans I.out.1.szB bq.size⟩, I.out.2.1⟩
        have HKX : Hid ((R1 2).length ≤ _) := I.out.2.2
        clear hwq bq I
        have I := I2
        clear I2
        obtain ⟨wr, hwr⟩ : ∃ wr, wr = wq := ⟨_, rfl⟩
        rw [← hwr] at I ⊢
        clear hwr
        go_wp2
        obtain ⟨A0, x, hs⟩ : ∃ (A0 : List Nd) (x : Nd), R1 2 = A0 ++ [x] := snoc_of hpos
        have hG := I.out.1.rf.row 2 (by decide)
        obtain ⟨g, c, hv⟩ := hG.form hpos
        have k2 := I.out.1.rf.cell (k := 2) (by decide)
        have HV := hide hv
        rw [hv] at k2 hG
        obtain ⟨m, hm⟩ : ∃ m, m = A0.length := ⟨_, rfl⟩
        obtain ⟨n, hn⟩ : ∃ n, n = (R1 2).length := ⟨_, rfl⟩
        have hnm : n = m + 1 := by rw [hn, hs, hm]; simp
        have gx : (R1 2)[m]? = some x := by rw [hs, hm]; simp
        rw [← hn] at k2 hG HV
        obtain ⟨x0, x1⟩ := hG.at0 gx
        have hnc : n ≤ c := by
          obtain ⟨_, c', hv', _, _, hle⟩ := hG.cell gx (r := 0) (u := .int .i64 x.1) rfl
          simp only [Value.slice.injEq] at hv'
          rw [hv'.2.2]; omega
        have hn9 : n ≤ 100000 := by rw [hn]; exact Nat.le_trans (rrow_le (by decide)) (by rw [I.out.1.len]; exact HL9.out)
        have HS := hide hs
        have HM := hide hm
        have HNM := hide hnm
        have HG := hide hG
        have HSU : Hid (∀ X, (binOp .sub 3 (.int .i64 (n : Int)) (.int .i64 1)).run Try.prog X = .ok (.int .i64 (m : Int)) X) := run_pred n m hnm (by omega)
        have HSL : Hid (∀ X, (Instr.sliceAt 31 (.slice (some ⟨g, 0, none⟩) n c) none (some (.int .i64 (m : Int))) none).run Try.prog X = .ok (.slice (some ⟨g, 0, none⟩) m c) X) := run_headN g n c m (by omega)
        have HBN : Hid (m < n) := (by omega : m < n)
        obtain ⟨xi, hxi⟩ : ∃ xi, xi = x.1 := ⟨_, rfl⟩
        obtain ⟨xu, hxu⟩ : ∃ xu, xu = x.2 := ⟨_, rfl⟩
        rw [← hxi] at x0
        rw [← hxu] at x1
        have HXI := hide hxi
        have HXU := hide hxu
        obtain ⟨A, hA⟩ : ∃ A, A = wr.drew := ⟨_, rfl⟩
        obtain ⟨N, hN⟩ : ∃ N, N = A.heap.size := ⟨_, rfl⟩
        have hNw : N = wr.heap.size := by rw [hN, hA]; rfl
        obtain ⟨A2, hA2⟩ : ∃ A2, A2 = (((A.alloc (.cells #[.int .i64 0, .bool false] 59)).setCell ⟨N, 0, none⟩ (.int .i64 xi)).setCell ⟨N, 1, none⟩ (.bool xu)) := ⟨_, rfl⟩
        have bA : Below wr.heap.size wr A := by rw [hA]; exact ⟨rfl, rfl, rfl, Nat.le_refl _, fun _ _ => rfl⟩
        have bA1 : Below wr.heap.size wr (A.alloc (.cells #[.int .i64 0, .bool false] 59)) := bA.alloc (by rw [hA]; exact Nat.le_refl _) _
        have nb : Blk (A.alloc (.cells #[.int .i64 0, .bool false] 59)) N [.int .i64 0, .bool false] 59 := by rw [hN]; exact Blk.new A _ 59
        have nb2 : Blk A2 N [.int .i64 xi, .bool xu] 59 := by rw [hA2]; exact (nb.set 0 _).set 1 _
        have bA2 : Below wr.heap.size wr A2 := by rw [hA2]; exact (bA1.setCell (p := ⟨N, 0, none⟩) (by show wr.heap.size ≤ N; omega) _).setCell (p := ⟨N, 1, none⟩) (by show wr.heap.size ≤ N; omega) _
        have rlt := I.out.1.rf.own.lt
        have glt : g < wr.heap.size := (hG.lt g (by simp [ownB, Value.ownBlock])).2
        have HF : Hid (∀ s W, s ≤ 1 → CC4 A (A.alloc (.cells #[.int .i64 0, .bool false] 59)) A2 A2 s W → W.cell? ⟨r, 2, none⟩ = some (.slice (some ⟨g, 0, none⟩) n c) ∧ W.cell? ⟨g, m * 2, none⟩ = some (.int .i64 xi) ∧ W.cell? ⟨g, m * 2 + 1, none⟩ = some (.bool xu)) := fun s W hs hc => by
          have key : ∀ Z, Below wr.heap.size wr Z → Z.cell? ⟨r, 2, none⟩ = some (.slice (some ⟨g, 0, none⟩) n c) ∧ Z.cell? ⟨g, m * 2, none⟩ = some (.int .i64 xi) ∧ Z.cell? ⟨g, m * 2 + 1, none⟩ = some (.bool xu) := fun Z hZ => ⟨(hZ.cell (p := ⟨r, 2, none⟩) rlt).trans k2, (hZ.cell (p := ⟨g, m * 2, none⟩) glt).trans x0, (hZ.cell (p := ⟨g, m * 2 + 1, none⟩) glt).trans x1⟩
          match s, hs, hc with
          | 0, _, hc => have hc : W = A := hc; subst hc; exact key _ bA
          | 1, _, hc => have hc : W = _ := hc; subst hc; exact key _ bA1
        have HW0 : Hid (Wr (A.alloc (.cells #[.int .i64 0, .bool false] 59)) ⟨N, 0, none⟩ ∧ Wr (A.alloc (.cells #[.int .i64 0, .bool false] 59)) ⟨N, 1, none⟩) := ⟨⟨⟨_, nb.cell (i := 0) rfl⟩, nb.frozen 0⟩, ⟨⟨_, nb.cell (i := 1) rfl⟩, nb.frozen 1⟩⟩
        have HA : Hid (CC4 A (A.alloc (.cells #[.int .i64 0, .bool false] 59)) A2 A2 0 { wr with drawn := wr.drawn + 1 }) := hA.symm
        have HNN := hide hN
        have HA2 := hide hA2
        -- behind it: the row one shorter
        obtain ⟨D, hD⟩ : ∃ D, D = A2.drew := ⟨_, rfl⟩
        obtain ⟨D1, hD1⟩ : ∃ D1, D1 = D.setCell ⟨r, 2, none⟩ (.slice (some ⟨g, 0, none⟩) m c) := ⟨_, rfl⟩
        have bD : Below wr.heap.size wr D := by rw [hD]; exact bA2.trans ⟨rfl, rfl, rfl, Nat.le_refl _, fun _ _ => rfl⟩
        have rD := I.out.1.rf.below bD
        have r2 : RfIn B D1 r (upV V1 2 (.slice (some ⟨g, 0, none⟩) m c)) (upV R1 2 A0) := by
          rw [hD1]
          have gD := rD.row 2 (by decide)
          rw [HV.out] at gD
          refine rD.turn (by decide) (Keep.refl _ D) (by
            have := GR.cut (n := m) (by rw [← hn]; exact gD) (by omega)
            rw [show (R1 2).take m = A0 by rw [hs, hm]; simp] at this
            exact this) (fun q hq => .inl (by rw [HV.out]; simpa [ownB, Value.ownBlock] using hq))
        have nb3 : Blk D1 N [.int .i64 xi, .bool xu] 59 := by
          rw [hD1]
          exact (nb2.same (by rw [hD]; rfl)).other (a := ⟨r, 2, none⟩) (fun e => by have e : N = r := e; omega) _
        have o1 : OffR B w D1 := by
          refine I.out.1.off.trans ((OffR.of_below bD I.out.1.szB).trans (rD.offR (Nat.le_trans I.out.1.szB bD.size) ?_))
          rw [hD1]
          exact (Keep.refl _ D).setCell (p := ⟨r, 2, none⟩) (.inl (mem_fR.2 (.inl rfl))) _
        have szD : B ≤ D1.heap.size := by rw [hD1, nblk_setCell]; exact Nat.le_trans I.out.1.szB bD.size
        have HG2 : Hid (∀ s W, s ≤ 0 → CC4 D D1 D1 D1 s W → W.cell? ⟨r, 2, none⟩ = some (.slice (some ⟨g, 0, none⟩) n c)) := fun s W hs hc => by
          obtain rfl : s = 0 := by omega
          have hc : W = D := hc
          subst hc
          exact (bD.cell (p := ⟨r, 2, none⟩) rlt).trans k2
        have HW1 : Hid (Wr D ⟨r, 2, none⟩) := ⟨⟨_, (bD.cell (p := ⟨r, 2, none⟩) rlt).trans k2⟩, rD.own.frozen 2⟩
        have HD : Hid (CC4 D D1 D1 D1 0 { A2 with drawn := A2.drawn + 1 }) := hD.symm
        have HD1 := hide hD1
        have HR2 := hide r2
        have HNB := hide nb3
        have HO1 := hide o1
        have HSZ := hide szD
        clear hv hG gx hnc hs hm hn hnm hA hN hNw hA2 bA bA1 nb nb2 bA2 rlt glt hD hD1 bD rD r2 nb3 o1 szD hxi hxu k2 x0 x1
        refine wp_region_chain (by kernel_rfl) (by kernel_rfl) (fun jx => ([.pointer (some ⟨r, 0, none⟩), .pointer (some ⟨r, 0, none⟩), .pointer (some ⟨r, 2, none⟩), .slice (some ⟨g, 0, none⟩) n c, .pointer (some ⟨r, 0, none⟩), .pointer (some ⟨r, 0, none⟩), .pointer (some ⟨r, 2, none⟩), .slice (some ⟨g, 0, none⟩) n c, .int .i64 (n : Int), .int .i64 (m : Int), .pointer (some ⟨g, m * 2, none⟩), .agg #[.int .i64 xi, .bool xu], .pointer (some ⟨N, 0, none⟩), undef] : List Value).getD jx undef) [12, 13] (by kernel_rfl) (CC4 A (A.alloc (.cells #[.int .i64 0, .bool false] 59)) A2 A2) (HA.out) ?_ ?_
        · intro jx ox hi sx w' ev hlm hks hc hin hout hcst hfn
          have hltx : jx < 14 := by
            have := (Array.getElem?_eq_some_iff.1 hi).1
            simpa using this
          match jx, hltx with
          | 0, _ =>
            simp only [List.getElem?_toArray, List.getElem?_cons_zero, List.getElem?_cons_succ, Option.some.injEq] at hi
            subst hi
            have e0 : ev (.tmp 0) = .pointer (some ⟨r, 0, none⟩) := hout 0 (by kernel_rfl) (show (0 : Nat) < 105 by decide)
            rw [if_neg (by decide)]
            refine .inl ⟨w', ?_, hc⟩
            show _ = Result.ok (Next.value (.pointer (some ⟨r, 0, none⟩))) w'
            simp [execOp, e0, hcst, go_sem]
          | 1, _ =>
            simp only [List.getElem?_toArray, List.getElem?_cons_zero, List.getElem?_cons_succ, Option.some.injEq] at hi
            subst hi
            have e0 : ev (.tmp 29) = .pointer (some ⟨r, 0, none⟩) := hin 29 0 ⟨0, .data⟩ (by kernel_rfl) (by simp) rfl rfl (show (29 : Nat) < 105 by decide)
            rw [if_neg (by decide)]
            refine .inl ⟨w', ?_, hc⟩
            show _ = Result.ok (Next.value (.pointer (some ⟨r, 0, none⟩))) w'
            simp [execOp, e0, hcst, go_sem]
          | 2, _ =>
            simp only [List.getElem?_toArray, List.getElem?_cons_zero, List.getElem?_cons_succ, Option.some.injEq] at hi
            subst hi
            have e0 : ev (.tmp 30) = .pointer (some ⟨r, 0, none⟩) := hin 30 1 ⟨1, .data⟩ (by kernel_rfl) (by simp) rfl rfl (show (30 : Nat) < 105 by decide)
            rw [if_neg (by decide)]
            refine .inl ⟨w', ?_, hc⟩
            show _ = Result.ok (Next.value (.pointer (some ⟨r, 2, none⟩))) w'
            simp [execOp, e0, hcst, go_sem]
          | 3, _ =>
            simp only [List.getElem?_toArray, List.getElem?_cons_zero, List.getElem?_cons_succ, Option.some.injEq] at hi
            subst hi
            have e0 : ev (.tmp 31) = .pointer (some ⟨r, 2, none⟩) := hin 31 2 ⟨2, .data⟩ (by kernel_rfl) (by simp) rfl rfl (show (31 : Nat) < 105 by decide)
            rw [if_neg (by decide)]
            have hl2 : sx ≤ 1 := Nat.le_trans hlm (Nat.le_of_eq (by kernel_rfl))
            refine .inl ⟨w', ?_, hc⟩
            show _ = Result.ok (Next.value (.slice (some ⟨g, 0, none⟩) n c)) w'
            have q1 := (HF.out sx w' (Nat.le_trans hl2 (by decide)) hc).1
            simp [execOp, e0, hcst, go_sem, q1]
          | 4, _ =>
            simp only [List.getElem?_toArray, List.getElem?_cons_zero, List.getElem?_cons_succ, Option.some.injEq] at hi
            subst hi
            have e0 : ev (.tmp 0) = .pointer (some ⟨r, 0, none⟩) := hout 0 (by kernel_rfl) (show (0 : Nat) < 105 by decide)
            rw [if_neg (by decide)]
            refine .inl ⟨w', ?_, hc⟩
            show _ = Result.ok (Next.value (.pointer (some ⟨r, 0, none⟩))) w'
            simp [execOp, e0, hcst, go_sem]
          | 5, _ =>
            simp only [List.getElem?_toArray, List.getElem?_cons_zero, List.getElem?_cons_succ, Option.some.injEq] at hi
            subst hi
            have e0 : ev (.tmp 33) = .pointer (some ⟨r, 0, none⟩) := hin 33 4 ⟨4, .data⟩ (by kernel_rfl) (by simp) rfl rfl (show (33 : Nat) < 105 by decide)
            rw [if_neg (by decide)]
            refine .inl ⟨w', ?_, hc⟩
            show _ = Result.ok (Next.value (.pointer (some ⟨r, 0, none⟩))) w'
            simp [execOp, e0, hcst, go_sem]
          | 6, _ =>
            simp only [List.getElem?_toArray, List.getElem?_cons_zero, List.getElem?_cons_succ, Option.some.injEq] at hi
            subst hi
            have e0 : ev (.tmp 34) = .pointer (some ⟨r, 0, none⟩) := hin 34 5 ⟨5, .data⟩ (by kernel_rfl) (by simp) rfl rfl (show (34 : Nat) < 105 by decide)
            rw [if_neg (by decide)]
            refine .inl ⟨w', ?_, hc⟩
            show _ = Result.ok (Next.value (.pointer (some ⟨r, 2, none⟩))) w'
            simp [execOp, e0, hcst, go_sem]
          | 7, _ =>
            simp only [List.getElem?_toArray, List.getElem?_cons_zero, List.getElem?_cons_succ, Option.some.injEq] at hi
            subst hi
            have e0 : ev (.tmp 35) = .pointer (some ⟨r, 2, none⟩) := hin 35 6 ⟨6, .data⟩ (by kernel_rfl) (by simp) rfl rfl (show (35 : Nat) < 105 by decide)
            rw [if_neg (by decide)]
            have hl2 : sx ≤ 1 := Nat.le_trans hlm (Nat.le_of_eq (by kernel_rfl))
            refine .inl ⟨w', ?_, hc⟩
            show _ = Result.ok (Next.value (.slice (some ⟨g, 0, none⟩) n c)) w'
            have q1 := (HF.out sx w' (Nat.le_trans hl2 (by decide)) hc).1
            simp [execOp, e0, hcst, go_sem, q1]
          | 8, _ =>
            simp only [List.getElem?_toArray, List.getElem?_cons_zero, List.getElem?_cons_succ, Option.some.injEq] at hi
            subst hi
            have e0 : ev (.tmp 36) = .slice (some ⟨g, 0, none⟩) n c := hin 36 7 ⟨7, .data⟩ (by kernel_rfl) (by simp) rfl rfl (show (36 : Nat) < 105 by decide)
            rw [if_neg (by decide)]
            refine .inl ⟨w', ?_, hc⟩
            show _ = Result.ok (Next.value (.int .i64 (n : Int))) w'
            simp [execOp, e0, hcst, resolve, invoke, builtin, Builtin.len_, Result.andThen, go_sem]
          | 9, _ =>
            simp only [List.getElem?_toArray, List.getElem?_cons_zero, List.getElem?_cons_succ, Option.some.injEq] at hi
            subst hi
            have e0 : ev (.tmp 37) = .int .i64 (n : Int) := hin 37 8 ⟨8, .data⟩ (by kernel_rfl) (by simp) rfl rfl (show (37 : Nat) < 105 by decide)
            rw [if_neg (by decide)]
            refine .inl ⟨w', ?_, hc⟩
            show _ = Result.ok (Next.value (.int .i64 (m : Int))) w'
            have q := HSU.out w'
            simp [execOp, e0, hcst, eqGuard, q, Result.andThen, pure, Sem.run]
          | 10, _ =>
            simp only [List.getElem?_toArray, List.getElem?_cons_zero, List.getElem?_cons_succ, Option.some.injEq] at hi
            subst hi
            have e0 : ev (.tmp 32) = .slice (some ⟨g, 0, none⟩) n c := hin 32 3 ⟨3, .data⟩ (by kernel_rfl) (by simp) rfl rfl (show (32 : Nat) < 105 by decide)
            have e1 : ev (.tmp 38) = .int .i64 (m : Int) := hin 38 9 ⟨9, .data⟩ (by kernel_rfl) (by simp) rfl rfl (show (38 : Nat) < 105 by decide)
            rw [if_neg (by decide)]
            refine .inl ⟨w', ?_, hc⟩
            show _ = Result.ok (Next.value (.pointer (some ⟨g, m * 2, none⟩))) w'
            have q := HBN.out
            simp [execOp, e0, e1, hcst, go_sem, q]
          | 11, _ =>
            simp only [List.getElem?_toArray, List.getElem?_cons_zero, List.getElem?_cons_succ, Option.some.injEq] at hi
            subst hi
            have e0 : ev (.tmp 39) = .pointer (some ⟨g, m * 2, none⟩) := hin 39 10 ⟨10, .data⟩ (by kernel_rfl) (by simp) rfl rfl (show (39 : Nat) < 105 by decide)
            rw [if_neg (by decide)]
            have hl2 : sx ≤ 1 := Nat.le_trans hlm (Nat.le_of_eq (by kernel_rfl))
            refine .inl ⟨w', ?_, hc⟩
            show _ = Result.ok (Next.value (.agg #[.int .i64 xi, .bool xu])) w'
            have q1 := (HF.out sx w' (Nat.le_trans hl2 (by decide)) hc).2.1
            have q2 := (HF.out sx w' (Nat.le_trans hl2 (by decide)) hc).2.2
            simp [execOp, e0, hcst, go_sem, q1, q2]
          | 12, _ =>
            simp only [List.getElem?_toArray, List.getElem?_cons_zero, List.getElem?_cons_succ, Option.some.injEq] at hi
            subst hi
            rw [if_pos (by decide)]
            have hsx : sx = 0 := hks 0 rfl
            subst hsx
            have hw : w' = A := hc
            subst hw
            have q := HNN.out
            refine .inl ⟨_, ?_, rfl⟩
            simp [execOp, go_sem, q]
          | 13, _ =>
            simp only [List.getElem?_toArray, List.getElem?_cons_zero, List.getElem?_cons_succ, Option.some.injEq] at hi
            subst hi
            have e0 : ev (.tmp 4) = .pointer (some ⟨N, 0, none⟩) := hin 4 12 ⟨12, .data⟩ (by kernel_rfl) (by simp) rfl rfl (show (4 : Nat) < 105 by decide)
            have e1 : ev (.tmp 40) = .agg #[.int .i64 xi, .bool xu] := hin 40 11 ⟨11, .data⟩ (by kernel_rfl) (by simp) rfl rfl (show (40 : Nat) < 105 by decide)
            rw [if_pos (by decide)]
            have hsx : sx = 1 := hks 1 rfl
            subst hsx
            have hw : w' = (A.alloc (.cells #[.int .i64 0, .bool false] 59)) := hc
            subst hw
            refine .inr (.inl ⟨rfl, A2, ?_, rfl⟩)
            have q3 := HA2.out
            rw [q3]
            obtain ⟨⟨v0, q1⟩, q2⟩ := HW0.out.1
            obtain ⟨⟨v1, q4⟩, q5⟩ := HW0.out.2
            simp [execOp, e0, e1, hcst, go_sem, q1, q2, q4, q5, Result.andThen]
        · intro w9 hc
          simp only [lexF, Act.put, List.setIfInBounds_toArray, List.set_cons_succ, List.set_cons_zero, List.getD_cons_succ, List.getD_cons_zero]
          have hw : w9 = A2 := hc
          subst hw
          clear HF HW0 HA HNN HA2 hc HBN
          go_wp2
          refine wp_region_chain (by kernel_rfl) (by kernel_rfl) (fun jx => ([.pointer (some ⟨r, 0, none⟩), .pointer (some ⟨r, 0, none⟩), .pointer (some ⟨r, 0, none⟩), .pointer (some ⟨r, 2, none⟩), .slice (some ⟨g, 0, none⟩) n c, .pointer (some ⟨r, 0, none⟩), .pointer (some ⟨r, 0, none⟩), .pointer (some ⟨r, 2, none⟩), .slice (some ⟨g, 0, none⟩) n c, .int .i64 (n : Int), .int .i64 (m : Int), .slice (some ⟨g, 0, none⟩) m c, .pointer (some ⟨r, 0, none⟩), .pointer (some ⟨r, 2, none⟩), undef] : List Value).getD jx undef) [14] (by kernel_rfl) (CC4 D D1 D1 D1) (HD.out) ?_ ?_
          · intro jx ox hi sx w' ev hlm hks hc hin hout hcst hfn
            have hltx : jx < 15 := by
              have := (Array.getElem?_eq_some_iff.1 hi).1
              simpa using this
            match jx, hltx with
            | 0, _ =>
              simp only [List.getElem?_toArray, List.getElem?_cons_zero, List.getElem?_cons_succ, Option.some.injEq] at hi
              subst hi
              have e0 : ev (.tmp 0) = .pointer (some ⟨r, 0, none⟩) := hout 0 (by kernel_rfl) (show (0 : Nat) < 105 by decide)
              rw [if_neg (by decide)]
              refine .inl ⟨w', ?_, hc⟩
              show _ = Result.ok (Next.value (.pointer (some ⟨r, 0, none⟩))) w'
              simp [execOp, e0, hcst, go_sem]
            | 1, _ =>
              simp only [List.getElem?_toArray, List.getElem?_cons_zero, List.getElem?_cons_succ, Option.some.injEq] at hi
              subst hi
              have e0 : ev (.tmp 0) = .pointer (some ⟨r, 0, none⟩) := hout 0 (by kernel_rfl) (show (0 : Nat) < 105 by decide)
              rw [if_neg (by decide)]
              refine .inl ⟨w', ?_, hc⟩
              show _ = Result.ok (Next.value (.pointer (some ⟨r, 0, none⟩))) w'
              simp [execOp, e0, hcst, go_sem]
            | 2, _ =>
              simp only [List.getElem?_toArray, List.getElem?_cons_zero, List.getElem?_cons_succ, Option.some.injEq] at hi
              subst hi
              have e0 : ev (.tmp 42) = .pointer (some ⟨r, 0, none⟩) := hin 42 1 ⟨1, .data⟩ (by kernel_rfl) (by simp) rfl rfl (show (42 : Nat) < 105 by decide)
              rw [if_neg (by decide)]
              refine .inl ⟨w', ?_, hc⟩
              show _ = Result.ok (Next.value (.pointer (some ⟨r, 0, none⟩))) w'
              simp [execOp, e0, hcst, go_sem]
            | 3, _ =>
              simp only [List.getElem?_toArray, List.getElem?_cons_zero, List.getElem?_cons_succ, Option.some.injEq] at hi
              subst hi
              have e0 : ev (.tmp 43) = .pointer (some ⟨r, 0, none⟩) := hin 43 2 ⟨2, .data⟩ (by kernel_rfl) (by simp) rfl rfl (show (43 : Nat) < 105 by decide)
              rw [if_neg (by decide)]
              refine .inl ⟨w', ?_, hc⟩
              show _ = Result.ok (Next.value (.pointer (some ⟨r, 2, none⟩))) w'
              simp [execOp, e0, hcst, go_sem]
            | 4, _ =>
              simp only [List.getElem?_toArray, List.getElem?_cons_zero, List.getElem?_cons_succ, Option.some.injEq] at hi
              subst hi
              have e0 : ev (.tmp 44) = .pointer (some ⟨r, 2, none⟩) := hin 44 3 ⟨3, .data⟩ (by kernel_rfl) (by simp) rfl rfl (show (44 : Nat) < 105 by decide)
              rw [if_neg (by decide)]
              have hl2 : sx ≤ 0 := Nat.le_trans hlm (Nat.le_of_eq (by kernel_rfl))
              refine .inl ⟨w', ?_, hc⟩
              show _ = Result.ok (Next.value (.slice (some ⟨g, 0, none⟩) n c)) w'
              have q1 := (HG2.out sx w' (Nat.le_trans hl2 (by decide)) hc)
              simp [execOp, e0, hcst, go_sem, q1]
            | 5, _ =>
              simp only [List.getElem?_toArray, List.getElem?_cons_zero, List.getElem?_cons_succ, Option.some.injEq] at hi
              subst hi
              have e0 : ev (.tmp 0) = .pointer (some ⟨r, 0, none⟩) := hout 0 (by kernel_rfl) (show (0 : Nat) < 105 by decide)
              rw [if_neg (by decide)]
              refine .inl ⟨w', ?_, hc⟩
              show _ = Result.ok (Next.value (.pointer (some ⟨r, 0, none⟩))) w'
              simp [execOp, e0, hcst, go_sem]
            | 6, _ =>
              simp only [List.getElem?_toArray, List.getElem?_cons_zero, List.getElem?_cons_succ, Option.some.injEq] at hi
              subst hi
              have e0 : ev (.tmp 46) = .pointer (some ⟨r, 0, none⟩) := hin 46 5 ⟨5, .data⟩ (by kernel_rfl) (by simp) rfl rfl (show (46 : Nat) < 105 by decide)
              rw [if_neg (by decide)]
              refine .inl ⟨w', ?_, hc⟩
              show _ = Result.ok (Next.value (.pointer (some ⟨r, 0, none⟩))) w'
              simp [execOp, e0, hcst, go_sem]
            | 7, _ =>
              simp only [List.getElem?_toArray, List.getElem?_cons_zero, List.getElem?_cons_succ, Option.some.injEq] at hi
              subst hi
              have e0 : ev (.tmp 47) = .pointer (some ⟨r, 0, none⟩) := hin 47 6 ⟨6, .data⟩ (by kernel_rfl) (by simp) rfl rfl (show (47 : Nat) < 105 by decide)
              rw [if_neg (by decide)]
              refine .inl ⟨w', ?_, hc⟩
              show _ = Result.ok (Next.value (.pointer (some ⟨r, 2, none⟩))) w'
              simp [execOp, e0, hcst, go_sem]
            | 8, _ =>
              simp only [List.getElem?_toArray, List.getElem?_cons_zero, List.getElem?_cons_succ, Option.some.injEq] at hi
              subst hi
              have e0 : ev (.tmp 48) = .pointer (some ⟨r, 2, none⟩) := hin 48 7 ⟨7, .data⟩ (by kernel_rfl) (by simp) rfl rfl (show (48 : Nat) < 105 by decide)
              rw [if_neg (by decide)]
              have hl2 : sx ≤ 0 := Nat.le_trans hlm (Nat.le_of_eq (by kernel_rfl))
              refine .inl ⟨w', ?_, hc⟩
              show _ = Result.ok (Next.value (.slice (some ⟨g, 0, none⟩) n c)) w'
              have q1 := (HG2.out sx w' (Nat.le_trans hl2 (by decide)) hc)
              simp [execOp, e0, hcst, go_sem, q1]
            | 9, _ =>
              simp only [List.getElem?_toArray, List.getElem?_cons_zero, List.getElem?_cons_succ, Option.some.injEq] at hi
              subst hi
              have e0 : ev (.tmp 49) = .slice (some ⟨g, 0, none⟩) n c := hin 49 8 ⟨8, .data⟩ (by kernel_rfl) (by simp) rfl rfl (show (49 : Nat) < 105 by decide)
              rw [if_neg (by decide)]
              refine .inl ⟨w', ?_, hc⟩
              show _ = Result.ok (Next.value (.int .i64 (n : Int))) w'
              simp [execOp, e0, hcst, resolve, invoke, builtin, Builtin.len_, Result.andThen, go_sem]
            | 10, _ =>
              simp only [List.getElem?_toArray, List.getElem?_cons_zero, List.getElem?_cons_succ, Option.some.injEq] at hi
              subst hi
              have e0 : ev (.tmp 50) = .int .i64 (n : Int) := hin 50 9 ⟨9, .data⟩ (by kernel_rfl) (by simp) rfl rfl (show (50 : Nat) < 105 by decide)
              rw [if_neg (by decide)]
              refine .inl ⟨w', ?_, hc⟩
              show _ = Result.ok (Next.value (.int .i64 (m : Int))) w'
              have q := HSU.out w'
              simp [execOp, e0, hcst, eqGuard, q, Result.andThen, pure, Sem.run]
            | 11, _ =>
              simp only [List.getElem?_toArray, List.getElem?_cons_zero, List.getElem?_cons_succ, Option.some.injEq] at hi
              subst hi
              have e0 : ev (.tmp 45) = .slice (some ⟨g, 0, none⟩) n c := hin 45 4 ⟨4, .data⟩ (by kernel_rfl) (by simp) rfl rfl (show (45 : Nat) < 105 by decide)
              have e1 : ev (.tmp 51) = .int .i64 (m : Int) := hin 51 10 ⟨10, .data⟩ (by kernel_rfl) (by simp) rfl rfl (show (51 : Nat) < 105 by decide)
              rw [if_neg (by decide)]
              refine .inl ⟨w', ?_, hc⟩
              show _ = Result.ok (Next.value (.slice (some ⟨g, 0, none⟩) m c)) w'
              have q := HSL.out w'
              simp [execOp, e0, e1, hcst, q, Result.andThen]
            | 12, _ =>
              simp only [List.getElem?_toArray, List.getElem?_cons_zero, List.getElem?_cons_succ, Option.some.injEq] at hi
              subst hi
              have e0 : ev (.tmp 41) = .pointer (some ⟨r, 0, none⟩) := hin 41 0 ⟨0, .data⟩ (by kernel_rfl) (by simp) rfl rfl (show (41 : Nat) < 105 by decide)
              rw [if_neg (by decide)]
              refine .inl ⟨w', ?_, hc⟩
              show _ = Result.ok (Next.value (.pointer (some ⟨r, 0, none⟩))) w'
              simp [execOp, e0, hcst, go_sem]
            | 13, _ =>
              simp only [List.getElem?_toArray, List.getElem?_cons_zero, List.getElem?_cons_succ, Option.some.injEq] at hi
              subst hi
              have e0 : ev (.tmp 53) = .pointer (some ⟨r, 0, none⟩) := hin 53 12 ⟨12, .data⟩ (by kernel_rfl) (by simp) rfl rfl (show (53 : Nat) < 105 by decide)
              rw [if_neg (by decide)]
              refine .inl ⟨w', ?_, hc⟩
              show _ = Result.ok (Next.value (.pointer (some ⟨r, 2, none⟩))) w'
              simp [execOp, e0, hcst, go_sem]
            | 14, _ =>
              simp only [List.getElem?_toArray, List.getElem?_cons_zero, List.getElem?_cons_succ, Option.some.injEq] at hi
              subst hi
              have e0 : ev (.tmp 54) = .pointer (some ⟨r, 2, none⟩) := hin 54 13 ⟨13, .data⟩ (by kernel_rfl) (by simp) rfl rfl (show (54 : Nat) < 105 by decide)
              have e1 : ev (.tmp 52) = .slice (some ⟨g, 0, none⟩) m c := hin 52 11 ⟨11, .data⟩ (by kernel_rfl) (by simp) rfl rfl (show (52 : Nat) < 105 by decide)
              rw [if_pos (by decide)]
              have hsx : sx = 0 := hks 0 rfl
              subst hsx
              have hw : w' = D := hc
              subst hw
              refine .inr (.inl ⟨rfl, D1, ?_, rfl⟩)
              have q3 := HD1.out
              rw [q3]
              obtain ⟨⟨v0, q1⟩, q2⟩ := HW1.out
              simp [execOp, e0, e1, hcst, go_sem, q1, q2, Result.andThen]
          · intro w9 hc
            simp only [lexF, Act.put, List.setIfInBounds_toArray, List.set_cons_succ, List.set_cons_zero, List.getD_cons_succ, List.getD_cons_zero]
            have hw : w9 = D1 := hc
            subst hw
            clear HG2 HW1 HD HD1 hc HSU HSL
            go_wp2
            have hP := HR2.out.row 1 (by decide)
            obtain ⟨pa, pc, hpv⟩ := hP.slice
            have p2 := HR2.out.cell (k := 1) (by decide)
            obtain ⟨V2, hV2⟩ : ∃ V2, V2 = upV V1 2 (.slice (some ⟨g, 0, none⟩) m c) := ⟨_, rfl⟩
            obtain ⟨R2, hR2⟩ : ∃ R2, R2 = upV R1 2 A0 := ⟨_, rfl⟩
            rw [← hV2] at HR2 hpv p2 hP
            rw [← hR2] at HR2 hpv hP
            have hV3 := HR2.out
            obtain ⟨pn, hpn⟩ : ∃ pn, pn = (R2 1).length := ⟨_, rfl⟩
            rw [← hpn] at hpv
            rw [hpv] at p2
            obtain ⟨E, hE⟩ : ∃ E, E = w9.drew := ⟨_, rfl⟩
            have bE : Below w9.heap.size w9 E := by rw [hE]; exact ⟨rfl, rfl, rfl, Nat.le_refl _, fun _ _ => rfl⟩
            have hEs : E.heap.size = w9.heap.size := by rw [hE]; rfl
            obtain ⟨ys, hys⟩ : ∃ ys : List Nd, ys = (xi, false) :: R2 1 := ⟨_, rfl⟩
            have rE := hV3.below bE
            have hl2 : (R2 1).length ≤ 100000 := by
              have h1 := rs_stp_len (R := R1) (k := 2) (k' := 1) (by decide) (by decide) HS.out
              have h2 := I.out.1.len
              have h3 := HL9.out
              rw [hR2]
              omega
            have CP : Hid (∀ W, DrC E (HdD B E ys) r 1 0 undef W → Calls Try.prog 32 #[.slice pa pn pc, .int .i64 xi] W fun e w2 => ∃ v, e = .returned v ∧ DrC E (HdD B E ys) r 1 1 v w2) := fun W hW => by
              have hW : W = E := hW
              subst hW
              have gE := rE.row 1 (by decide)
              rw [hpv] at gE
              refine (rhead_any (by rw [hEs]; exact HSZ.out) gE xi hl2).mono ?_
              rintro e w2 ⟨va, vc, rfl, g1, g2, g3⟩
              rw [← hys] at g1 g3 ⊢
              exact ⟨_, rfl, va, vc, rfl, g1, g2, g3⟩
            have HF3 : Hid (∀ s u W, s ≤ 1 → DrC E (HdD B E ys) r 1 s u W → W.cell? ⟨r, 1, none⟩ = some (.slice pa pn pc) ∧ W.cell? ⟨N, 0, none⟩ = some (.int .i64 xi) ∧ W.frozen? ⟨r, 1, none⟩ = false) := fun s u W hs hc => by
              have key : ∀ Z, Below w9.heap.size w9 Z → Z.cell? ⟨r, 1, none⟩ = some (.slice pa pn pc) ∧ Z.cell? ⟨N, 0, none⟩ = some (.int .i64 xi) ∧ Z.frozen? ⟨r, 1, none⟩ = false := fun Z hZ => ⟨(hZ.cell (p := ⟨r, 1, none⟩) hV3.own.lt).trans p2, (hZ.cell (p := ⟨N, 0, none⟩) HNB.out.lt).trans (HNB.out.cell (i := 0) rfl), (hV3.below hZ).own.frozen 1⟩
              match s, hs, hc with
              | 0, _, hc => have hc : W = E := hc; subst hc; exact key _ bE
              | 1, _, hc =>
                obtain ⟨_, _, _, _, h4, _⟩ := DrC.one hc
                exact key _ (bE.trans (by rw [← hEs]; exact h4))
            have HE3 : Hid (DrC E (HdD B E ys) r 1 0 undef { w9 with drawn := w9.drawn + 1 }) := hE.symm
            have HEND : Hid (∀ u W, DrC E (HdD B E ys) r 1 2 u W → ∃ V3 R3, RSk B r w s0 R3 V3 W ∧ rs R3 = stp 2 (rs R1)) := fun u W hc => by
              obtain ⟨W1, ⟨va, vc, rfl, g1, g2, g3⟩, rfl⟩ := DrC.two hc
              have t3 := rE.turn (k := 1) (by decide) (Keep.of_below g2) g1 (fun q hq => .inr (g3 q hq))
              have e1 : rs (upV R2 1 ys) = stp 2 (rs R1) := by
                rw [hys, hR2, HXI.out]
                exact rs_stp (by decide) HS.out (.inl ⟨rfl, rfl⟩)
              refine ⟨_, _, ⟨t3, ?_, ?_, ?_⟩, e1⟩
              · refine HO1.out.trans ((OffR.of_below bE HSZ.out).trans (rE.offR (by rw [hEs]; exact HSZ.out) ?_))
                exact (Keep.of_below g2).setCell (p := ⟨r, 1, none⟩) (.inl (mem_fR.2 (.inl rfl))) _
              · rw [e1]
                exact (stp_perm (by decide) (rs R1)).trans I.out.1.perm
              · rw [nblk_setCell]
                exact Nat.le_trans (by rw [hEs]; exact HSZ.out) g2.size
            clear hP hpv p2 hV2 hV3 hpn hE bE hEs rE hl2 HNB HR2 HO1 HSZ
            refine wp_region_cx (by kernel_rfl) (by kernel_rfl) (fun u jx => ([.pointer (some ⟨r, 0, none⟩), .pointer (some ⟨r, 0, none⟩), .pointer (some ⟨r, 0, none⟩), .pointer (some ⟨r, 1, none⟩), .slice pa pn pc, .pointer (some ⟨N, 0, none⟩), .int .i64 xi, u, .pointer (some ⟨r, 0, none⟩), .pointer (some ⟨r, 1, none⟩), undef] : List Value).getD jx undef) 7 [7, 10] [10] (by kernel_rfl) (by kernel_rfl) rfl (fun _ => rfl) (fun v v' jx h1 h2 => by match jx with | 0 => rfl | 1 => rfl | 2 => rfl | 3 => rfl | 4 => rfl | 5 => rfl | 6 => rfl | 7 => exact absurd rfl h2 | 8 => rfl | 9 => rfl | 10 => exact absurd (by decide) h1 | _ + 11 => rfl) (DrC E (HdD B E ys) r 1) (HE3.out) ?_ ?_
            · intro jx ox hi sx u w' ev hlm hks hdp hc hin hout hcst hfn
              have hltx : jx < 11 := by
                have := (Array.getElem?_eq_some_iff.1 hi).1
                simpa using this
              match jx, hltx with
              | 0, _ =>
                simp only [List.getElem?_toArray, List.getElem?_cons_zero, List.getElem?_cons_succ, Option.some.injEq] at hi
                subst hi
                have e0 : ev (.tmp 0) = .pointer (some ⟨r, 0, none⟩) := hout 0 (by kernel_rfl) (show (0 : Nat) < 105 by decide)
                refine .inl ⟨.pointer (some ⟨r, 0, none⟩), w', ?_, by show ite _ _ _; rw [if_neg (by decide), if_neg (by decide)]; exact ⟨rfl, hc⟩⟩
                simp [execOp, e0, hcst, go_sem]
              | 1, _ =>
                simp only [List.getElem?_toArray, List.getElem?_cons_zero, List.getElem?_cons_succ, Option.some.injEq] at hi
                subst hi
                have e0 : ev (.tmp 0) = .pointer (some ⟨r, 0, none⟩) := hout 0 (by kernel_rfl) (show (0 : Nat) < 105 by decide)
                refine .inl ⟨.pointer (some ⟨r, 0, none⟩), w', ?_, by show ite _ _ _; rw [if_neg (by decide), if_neg (by decide)]; exact ⟨rfl, hc⟩⟩
                simp [execOp, e0, hcst, go_sem]
              | 2, _ =>
                simp only [List.getElem?_toArray, List.getElem?_cons_zero, List.getElem?_cons_succ, Option.some.injEq] at hi
                subst hi
                have e0 : ev (.tmp 56) = .pointer (some ⟨r, 0, none⟩) := hin 56 1 ⟨1, .data⟩ (by kernel_rfl) (by simp) rfl rfl (show (56 : Nat) < 105 by decide)
                refine .inl ⟨.pointer (some ⟨r, 0, none⟩), w', ?_, by show ite _ _ _; rw [if_neg (by decide), if_neg (by decide)]; exact ⟨rfl, hc⟩⟩
                simp [execOp, e0, hcst, go_sem]
              | 3, _ =>
                simp only [List.getElem?_toArray, List.getElem?_cons_zero, List.getElem?_cons_succ, Option.some.injEq] at hi
                subst hi
                have e0 : ev (.tmp 57) = .pointer (some ⟨r, 0, none⟩) := hin 57 2 ⟨2, .data⟩ (by kernel_rfl) (by simp) rfl rfl (show (57 : Nat) < 105 by decide)
                refine .inl ⟨.pointer (some ⟨r, 1, none⟩), w', ?_, by show ite _ _ _; rw [if_neg (by decide), if_neg (by decide)]; exact ⟨rfl, hc⟩⟩
                simp [execOp, e0, hcst, go_sem]
              | 4, _ =>
                simp only [List.getElem?_toArray, List.getElem?_cons_zero, List.getElem?_cons_succ, Option.some.injEq] at hi
                subst hi
                have e0 : ev (.tmp 58) = .pointer (some ⟨r, 1, none⟩) := hin 58 3 ⟨3, .data⟩ (by kernel_rfl) (by simp) rfl rfl (show (58 : Nat) < 105 by decide)
                refine .inl ⟨.slice pa pn pc, w', ?_, by show ite _ _ _; rw [if_neg (by decide), if_neg (by decide)]; exact ⟨rfl, hc⟩⟩
                have hl2 : sx ≤ 0 := Nat.le_trans hlm (Nat.le_of_eq (by kernel_rfl))
                have q := (HF3.out sx u w' (by omega) hc).1
                simp [execOp, e0, hcst, go_sem, q]
              | 5, _ =>
                simp only [List.getElem?_toArray, List.getElem?_cons_zero, List.getElem?_cons_succ, Option.some.injEq] at hi
                subst hi
                have e0 : ev (.tmp 4) = .pointer (some ⟨N, 0, none⟩) := hout 4 (by kernel_rfl) (show (4 : Nat) < 105 by decide)
                refine .inl ⟨.pointer (some ⟨N, 0, none⟩), w', ?_, by show ite _ _ _; rw [if_neg (by decide), if_neg (by decide)]; exact ⟨rfl, hc⟩⟩
                simp [execOp, e0, hcst, go_sem]
              | 6, _ =>
                simp only [List.getElem?_toArray, List.getElem?_cons_zero, List.getElem?_cons_succ, Option.some.injEq] at hi
                subst hi
                have e0 : ev (.tmp 60) = .pointer (some ⟨N, 0, none⟩) := hin 60 5 ⟨5, .data⟩ (by kernel_rfl) (by simp) rfl rfl (show (60 : Nat) < 105 by decide)
                refine .inl ⟨.int .i64 xi, w', ?_, by show ite _ _ _; rw [if_neg (by decide), if_neg (by decide)]; exact ⟨rfl, hc⟩⟩
                have hl2 : sx ≤ 0 := Nat.le_trans hlm (Nat.le_of_eq (by kernel_rfl))
                have q := (HF3.out sx u w' (by omega) hc).2.1
                simp [execOp, e0, hcst, go_sem, q]
              | 7, _ =>
                simp only [List.getElem?_toArray, List.getElem?_cons_zero, List.getElem?_cons_succ, Option.some.injEq] at hi
                subst hi
                have e0 : ev (.tmp 59) = .slice pa pn pc := hin 59 4 ⟨4, .data⟩ (by kernel_rfl) (by simp) rfl rfl (show (59 : Nat) < 105 by decide)
                have e1 : ev (.tmp 61) = .int .i64 xi := hin 61 6 ⟨6, .data⟩ (by kernel_rfl) (by simp) rfl rfl (show (61 : Nat) < 105 by decide)
                have hsx : sx = 0 := hks 0 rfl
                subst hsx
                refine .inr (.inr ⟨32, #[.slice pa pn pc, .int .i64 xi], ?_, ?_⟩)
                · have ef := hfn 32
                  simp [execOp, resolve, invoke, ef, hcst, e0, e1, Result.andThen]
                  exact enter32 _ _
                · refine Calls.mono (P := Try.prog) (R := fun e w2 => ∃ v, e = .returned v ∧ (DrC E (HdD B E ys) r 1) 1 v w2) ?_ ?_
                  · exact CP.out w' hc
                  · rintro e w2 ⟨v, rfl, hv⟩
                    exact ⟨v, rfl, by first | exact hv | (rw [if_pos rfl]; exact hv) | (show ite _ _ _; rw [if_pos rfl]; exact hv)⟩
              | 8, _ =>
                simp only [List.getElem?_toArray, List.getElem?_cons_zero, List.getElem?_cons_succ, Option.some.injEq] at hi
                subst hi
                have e0 : ev (.tmp 55) = .pointer (some ⟨r, 0, none⟩) := hin 55 0 ⟨0, .data⟩ (by kernel_rfl) (by simp) rfl rfl (show (55 : Nat) < 105 by decide)
                refine .inl ⟨.pointer (some ⟨r, 0, none⟩), w', ?_, by show ite _ _ _; rw [if_neg (by decide), if_neg (by decide)]; exact ⟨rfl, hc⟩⟩
                simp [execOp, e0, hcst, go_sem]
              | 9, _ =>
                simp only [List.getElem?_toArray, List.getElem?_cons_zero, List.getElem?_cons_succ, Option.some.injEq] at hi
                subst hi
                have e0 : ev (.tmp 63) = .pointer (some ⟨r, 0, none⟩) := hin 63 8 ⟨8, .data⟩ (by kernel_rfl) (by simp) rfl rfl (show (63 : Nat) < 105 by decide)
                refine .inl ⟨.pointer (some ⟨r, 1, none⟩), w', ?_, by show ite _ _ _; rw [if_neg (by decide), if_neg (by decide)]; exact ⟨rfl, hc⟩⟩
                simp [execOp, e0, hcst, go_sem]
              | 10, _ =>
                simp only [List.getElem?_toArray, List.getElem?_cons_zero, List.getElem?_cons_succ, Option.some.injEq] at hi
                subst hi
                have e0 : ev (.tmp 64) = .pointer (some ⟨r, 1, none⟩) := hin 64 9 ⟨9, .data⟩ (by kernel_rfl) (by simp) rfl rfl (show (64 : Nat) < 105 by decide)
                have e1 : ev (.tmp 62) = u := hin 62 7 ⟨7, .data⟩ (by kernel_rfl) (by simp) rfl rfl (show (62 : Nat) < 105 by decide)
                have hd : 0 < sx := hdp (by decide)
                have hsx : sx = 1 := hks 1 rfl
                subst hsx
                have hq := HF3.out 1 u w' (by omega) hc
                have hD := DrC.one hc
                obtain ⟨ya, yc, rfl, hD2⟩ := hD
                refine .inr (.inl ⟨w'.setCell ⟨r, 1, none⟩ (.slice ya ys.length yc), ?_, by show ite _ _ _; rw [if_neg (by decide), if_pos (by decide)]; exact ⟨rfl, DrC.mk2 hc⟩⟩)
                have q1 := hq.1
                have q2 := hq.2.2
                simp [execOp, e0, e1, hcst, go_sem, q1, q2, Result.andThen]
            · intro u w9 hc
              simp only [lexF, Act.put, List.setIfInBounds_toArray, List.set_cons_succ, List.set_cons_zero, List.getD_cons_succ, List.getD_cons_zero]
              obtain ⟨V3, R3, T1, T2⟩ := HEND.out u w9 hc
              have N : Hid ((RSk B r w s0 R3 V3 w9 ∧ spr (rs R3) = spr s0) ∧ (R3 2).length + 1 ≤ (R1 2).length) := by
                refine ⟨⟨T1, ?_⟩, ?_⟩
                · rw [T2, ← spr_step HLU.out]; exact I.out.2
                · have := stp2_len HLU.out
                  rw [← T2] at this
                  exact Nat.le_of_eq this
              clear hc HEND CP HF3 HE3 T1 T2
              go_wp2
              go_roundg (R3 2).length
              case measure => have := N.out.2; have := HKX.out; omega
              case rel => exact ⟨V3, R3, N.out.1.1, N.out.1.2, Nat.le_refl _⟩
      | false =>
        rw [hu] at y1 hlu
        have HS : Hid (RSk B r w s0 R1 V1 wr ∧ rs R1 = spr s0) := ⟨I.out.1, by rw [← I.out.2.1, spr_stop hlu]⟩
        clear hs hs9 hu hlu hG9 hv9 hm9 gx9 hn9 hnm9 I hpos
        go_wp2
        go_quiet (fail)
        clear kc y1 ew ew2 hlt9 hlt8 hp9 hp8 hle9
        obtain ⟨wq, hwq⟩ : ∃ wq, wq = wr.drewN nq := ⟨_, rfl⟩
        have bq : Below wr.heap.size wr wq := by rw [hwq]; exact ⟨rfl, rfl, rfl, Nat.le_refl _, fun _ _ => rfl⟩
        rw [← hwq]
        have HS2 : Hid (RSk B r w s0 R1 V1 wq ∧ rs R1 = spr s0) := ⟨⟨HS.out.1.rf.below bq, HS.out.1.off.trans (OffR.of_below bq HS.out.1.szB), HS.out.1.perm, Nat.le_trans HS.out.1.szB bq.size⟩, HS.out.2⟩
        clear hwq bq HS
        go_wp2
        obtain ⟨A, hA⟩ : ∃ A, A = wq.drew := ⟨_, rfl⟩
        obtain ⟨M, hM⟩ : ∃ M, M = A.heap.size := ⟨_, rfl⟩
        have bA : Below wq.heap.size wq (A.alloc (evO r)) := by rw [hA]; exact (show Below wq.heap.size wq wq.drew from ⟨rfl, rfl, rfl, Nat.le_refl _, fun _ _ => rfl⟩).alloc (Nat.le_refl _) _
        have HR : Hid (Blk (A.alloc (evO r)) M (ev3r r) 62) := by rw [hM]; exact Blk.new A (ev3r r) 62
        have HS3 : Hid (RSk B r w s0 R1 V1 (A.alloc (evO r)) ∧ rs R1 = spr s0) := ⟨⟨HS2.out.1.rf.below bA, HS2.out.1.off.trans (OffR.of_below bA HS2.out.1.szB), HS2.out.1.perm, Nat.le_trans HS2.out.1.szB bA.size⟩, HS2.out.2⟩
        have HA : Hid (CC4 A (A.alloc (evO r)) A A 0 { wq with drawn := wq.drawn + 1 }) := hA.symm
        have HMM := hide hM
        clear hA hM bA HS2
        refine wp_region_chain (by kernel_rfl) (by kernel_rfl) (fun jx => ([.pointer (some ⟨r, 0, none⟩), .pointer (some ⟨r, 0, none⟩), .pointer (some ⟨r, 2, none⟩), .pointer (some ⟨r, 0, none⟩), .pointer (some ⟨r, 0, none⟩), .pointer (some ⟨r, 1, none⟩), .pointer (some ⟨r, 0, none⟩), .pointer (some ⟨r, 0, none⟩), .pointer (some ⟨r, 0, none⟩), .slice (some ⟨M, 0, none⟩) 3 3, .slice (some ⟨M, 0, none⟩) 3 3] : List Value).getD jx undef) [9] (by kernel_rfl) (CC4 A (A.alloc (evO r)) A A) (HA.out) ?_ ?_
        · intro jx ox hi sx w' ev hlm hks hc hin hout hcst hfn
          have hltx : jx < 11 := by
            have := (Array.getElem?_eq_some_iff.1 hi).1
            simpa using this
          match jx, hltx with
          | 0, _ =>
            simp only [List.getElem?_toArray, List.getElem?_cons_zero, List.getElem?_cons_succ, Option.some.injEq] at hi
            subst hi
            have e0 : ev (.tmp 0) = .pointer (some ⟨r, 0, none⟩) := hout 0 (by kernel_rfl) (show (0 : Nat) < 105 by decide)
            rw [if_neg (by decide)]
            refine .inl ⟨w', ?_, hc⟩
            show _ = Result.ok (Next.value (.pointer (some ⟨r, 0, none⟩))) w'
            simp [execOp, e0, hcst, go_sem]
          | 1, _ =>
            simp only [List.getElem?_toArray, List.getElem?_cons_zero, List.getElem?_cons_succ, Option.some.injEq] at hi
            subst hi
            have e0 : ev (.tmp 65) = .pointer (some ⟨r, 0, none⟩) := hin 65 0 ⟨0, .data⟩ (by kernel_rfl) (by simp) rfl rfl (show (65 : Nat) < 105 by decide)
            rw [if_neg (by decide)]
            refine .inl ⟨w', ?_, hc⟩
            show _ = Result.ok (Next.value (.pointer (some ⟨r, 0, none⟩))) w'
            simp [execOp, e0, hcst, go_sem]
          | 2, _ =>
            simp only [List.getElem?_toArray, List.getElem?_cons_zero, List.getElem?_cons_succ, Option.some.injEq] at hi
            subst hi
            have e0 : ev (.tmp 66) = .pointer (some ⟨r, 0, none⟩) := hin 66 1 ⟨1, .data⟩ (by kernel_rfl) (by simp) rfl rfl (show (66 : Nat) < 105 by decide)
            rw [if_neg (by decide)]
            refine .inl ⟨w', ?_, hc⟩
            show _ = Result.ok (Next.value (.pointer (some ⟨r, 2, none⟩))) w'
            simp [execOp, e0, hcst, go_sem]
          | 3, _ =>
            simp only [List.getElem?_toArray, List.getElem?_cons_zero, List.getElem?_cons_succ, Option.some.injEq] at hi
            subst hi
            have e0 : ev (.tmp 0) = .pointer (some ⟨r, 0, none⟩) := hout 0 (by kernel_rfl) (show (0 : Nat) < 105 by decide)
            rw [if_neg (by decide)]
            refine .inl ⟨w', ?_, hc⟩
            show _ = Result.ok (Next.value (.pointer (some ⟨r, 0, none⟩))) w'
            simp [execOp, e0, hcst, go_sem]
          | 4, _ =>
            simp only [List.getElem?_toArray, List.getElem?_cons_zero, List.getElem?_cons_succ, Option.some.injEq] at hi
            subst hi
            have e0 : ev (.tmp 68) = .pointer (some ⟨r, 0, none⟩) := hin 68 3 ⟨3, .data⟩ (by kernel_rfl) (by simp) rfl rfl (show (68 : Nat) < 105 by decide)
            rw [if_neg (by decide)]
            refine .inl ⟨w', ?_, hc⟩
            show _ = Result.ok (Next.value (.pointer (some ⟨r, 0, none⟩))) w'
            simp [execOp, e0, hcst, go_sem]
          | 5, _ =>
            simp only [List.getElem?_toArray, List.getElem?_cons_zero, List.getElem?_cons_succ, Option.some.injEq] at hi
            subst hi
            have e0 : ev (.tmp 69) = .pointer (some ⟨r, 0, none⟩) := hin 69 4 ⟨4, .data⟩ (by kernel_rfl) (by simp) rfl rfl (show (69 : Nat) < 105 by decide)
            rw [if_neg (by decide)]
            refine .inl ⟨w', ?_, hc⟩
            show _ = Result.ok (Next.value (.pointer (some ⟨r, 1, none⟩))) w'
            simp [execOp, e0, hcst, go_sem]
          | 6, _ =>
            simp only [List.getElem?_toArray, List.getElem?_cons_zero, List.getElem?_cons_succ, Option.some.injEq] at hi
            subst hi
            have e0 : ev (.tmp 0) = .pointer (some ⟨r, 0, none⟩) := hout 0 (by kernel_rfl) (show (0 : Nat) < 105 by decide)
            rw [if_neg (by decide)]
            refine .inl ⟨w', ?_, hc⟩
            show _ = Result.ok (Next.value (.pointer (some ⟨r, 0, none⟩))) w'
            simp [execOp, e0, hcst, go_sem]
          | 7, _ =>
            simp only [List.getElem?_toArray, List.getElem?_cons_zero, List.getElem?_cons_succ, Option.some.injEq] at hi
            subst hi
            have e0 : ev (.tmp 71) = .pointer (some ⟨r, 0, none⟩) := hin 71 6 ⟨6, .data⟩ (by kernel_rfl) (by simp) rfl rfl (show (71 : Nat) < 105 by decide)
            rw [if_neg (by decide)]
            refine .inl ⟨w', ?_, hc⟩
            show _ = Result.ok (Next.value (.pointer (some ⟨r, 0, none⟩))) w'
            simp [execOp, e0, hcst, go_sem]
          | 8, _ =>
            simp only [List.getElem?_toArray, List.getElem?_cons_zero, List.getElem?_cons_succ, Option.some.injEq] at hi
            subst hi
            have e0 : ev (.tmp 72) = .pointer (some ⟨r, 0, none⟩) := hin 72 7 ⟨7, .data⟩ (by kernel_rfl) (by simp) rfl rfl (show (72 : Nat) < 105 by decide)
            rw [if_neg (by decide)]
            refine .inl ⟨w', ?_, hc⟩
            show _ = Result.ok (Next.value (.pointer (some ⟨r, 0, none⟩))) w'
            simp [execOp, e0, hcst, go_sem]
          | 9, _ =>
            simp only [List.getElem?_toArray, List.getElem?_cons_zero, List.getElem?_cons_succ, Option.some.injEq] at hi
            subst hi
            have e0 : ev (.tmp 67) = .pointer (some ⟨r, 2, none⟩) := hin 67 2 ⟨2, .data⟩ (by kernel_rfl) (by simp) rfl rfl (show (67 : Nat) < 105 by decide)
            have e1 : ev (.tmp 70) = .pointer (some ⟨r, 1, none⟩) := hin 70 5 ⟨5, .data⟩ (by kernel_rfl) (by simp) rfl rfl (show (70 : Nat) < 105 by decide)
            have e2 : ev (.tmp 73) = .pointer (some ⟨r, 0, none⟩) := hin 73 8 ⟨8, .data⟩ (by kernel_rfl) (by simp) rfl rfl (show (73 : Nat) < 105 by decide)
            rw [if_pos (by decide)]
            have hsx : sx = 0 := hks 0 rfl
            subst hsx
            have hw : w' = A := hc
            subst hw
            have q := HMM.out
            refine .inl ⟨_, ?_, rfl⟩
            simp [execOp, e0, e1, e2, hcst, go_sem, q, Result.andThen, evO]
          | 10, _ =>
            simp only [List.getElem?_toArray, List.getElem?_cons_zero, List.getElem?_cons_succ, Option.some.injEq] at hi
            subst hi
            have e0 : ev (.tmp 74) = .slice (some ⟨M, 0, none⟩) 3 3 := hin 74 9 ⟨9, .data⟩ (by kernel_rfl) (by simp) rfl rfl (show (74 : Nat) < 105 by decide)
            rw [if_neg (by decide)]
            refine .inl ⟨w', ?_, hc⟩
            show _ = Result.ok (Next.value (.slice (some ⟨M, 0, none⟩) 3 3)) w'
            simp [execOp, e0, hcst, go_sem]
        · intro w9 hc
          simp only [lexF, Act.put, List.setIfInBounds_toArray, List.set_cons_succ, List.set_cons_zero, List.getD_cons_succ, List.getD_cons_zero]
          have hw : w9 = A.alloc (evO r) := hc
          subst hw
          obtain ⟨W, hW⟩ : ∃ W, W = A.alloc (evO r) := ⟨_, rfl⟩
          rw [← hW] at HR HS3 ⊢
          clear HA HMM hc hW
          go_wp2
          go_loopg [6, 7] 3 (fun ky s6 s7 wz => ∃ (q : Nat), s6 = .int .i64 (q : Int) ∧ wz = W ∧ Hid (q ≤ 3 ∧ 3 - q ≤ ky ∧ ∀ j, 2 < q + j → j < 3 → R1 j = []))
          case atStart => exact ⟨0, rfl, rfl, by decide, by decide, fun j h1 h2 => by omega⟩
          case round =>
            obtain ⟨q, rfl, rfl, J⟩ := hrel
            by_cases hq : q < 3
            · have hq2 : (q : Int) < 3 := by omega
              obtain ⟨kk, hkk⟩ : ∃ kk, kk = 2 - q := ⟨_, rfl⟩
              have hk3 : kk < 3 := by omega
              have cr : wr.cell? ⟨M, q, none⟩ = some (.pointer (some ⟨r, kk, none⟩)) := HR.out.cell (by
                rw [hkk]
                match q, hq with
                | 0, _ => rfl
                | 1, _ => rfl
                | 2, _ => rfl)
              have k2 := HS3.out.1.rf.cell hk3
              have hG := HS3.out.1.rf.row kk hk3
              rcases List.eq_nil_or_concat (R1 kk) with hnil | ⟨A0, x, hs0⟩
              · obtain ⟨va, vc, hv⟩ := hG.slice
                rw [hv, hnil] at k2
                simp only [List.length_nil] at k2
                have J2 : Hid (∀ j, 2 < q + 1 + j → j < 3 → R1 j = []) := fun j p1 p2 => by
                  by_cases e : j = kk
                  · rw [e]; exact hnil
                  · exact J.out.2.2 j (by omega) p2
                obtain ⟨q1, hq1⟩ : ∃ q1, q1 = q + 1 := ⟨_, rfl⟩
                have e2 : (q : Int) + 1 = (q1 : Int) := by omega
                have Hq := hide hq
                have Hq1 := hide hq1
                rw [← hq1] at J2
                clear hnil hv hG hkk hk3 hq1
                go_wp2
                go_roundg (3 - q1)
                case measure => have := J.out.2.1; have := Hq.out; have := Hq1.out; omega
                case rel => exact ⟨q1, rfl, rfl, by have := Hq.out; have := Hq1.out; omega, Nat.le_refl _, J2.out⟩
              · have hs : R1 kk = A0 ++ [x] := by rw [hs0]; simp
                have hpos : 0 < (R1 kk).length := by rw [hs]; simp
                obtain ⟨g, c, hv⟩ := hG.form hpos
                have HV := hide hv
                rw [hv] at k2 hG
                obtain ⟨m, hm⟩ : ∃ m, m = A0.length := ⟨_, rfl⟩
                obtain ⟨n, hn⟩ : ∃ n, n = (R1 kk).length := ⟨_, rfl⟩
                have hnm : n = m + 1 := by rw [hn, hs, hm]; simp
                have gx : (R1 kk)[m]? = some x := by rw [hs, hm]; simp
                rw [← hn] at k2 hG HV
                obtain ⟨x0, x1⟩ := hG.at0 gx
                have hnc : n ≤ c := by
                  obtain ⟨_, c', hv', _, _, hle⟩ := hG.cell gx (r := 0) (u := .int .i64 x.1) rfl
                  simp only [Value.slice.injEq] at hv'
                  rw [hv'.2.2]; omega
                have hn9 : n ≤ 100000 := by rw [hn]; exact Nat.le_trans (rrow_le hk3) (by rw [HS3.out.1.len]; exact HL9.out)
                have hp2 : (0 : Int) < (n : Int) := by omega
                have e7 : (n : Int) - 1 = (m : Int) := by omega
                have e8 : m < n := by omega
                have HSU : Hid (∀ X, (binOp .sub 3 (.int .i64 (n : Int)) (.int .i64 1)).run Try.prog X = .ok (.int .i64 (m : Int)) X) := run_pred n m hnm (by omega)
                have HSL : Hid (∀ X, (Instr.sliceAt 31 (.slice (some ⟨g, 0, none⟩) n c) none (some (.int .i64 (m : Int))) none).run Try.prog X = .ok (.slice (some ⟨g, 0, none⟩) m c) X) := run_headN g n c m (by omega)
                obtain ⟨xi, hxi⟩ : ∃ xi, xi = x.1 := ⟨_, rfl⟩
                rw [← hxi] at x0
                have rlt := HS3.out.1.rf.own.lt
                have glt : g < wr.heap.size := (hG.lt g (by simp [ownB, Value.ownBlock])).2
                obtain ⟨D, hD⟩ : ∃ D, D = wr.drew := ⟨_, rfl⟩
                obtain ⟨D1, hD1⟩ : ∃ D1, D1 = D.setCell ⟨r, kk, none⟩ (.slice (some ⟨g, 0, none⟩) m c) := ⟨_, rfl⟩
                have bD : Below wr.heap.size wr D := by rw [hD]; exact ⟨rfl, rfl, rfl, Nat.le_refl _, fun _ _ => rfl⟩
                have rD := HS3.out.1.rf.below bD
                have hkeep : Keep (fR r V1) D D1 := by rw [hD1]; exact (Keep.refl _ D).setCell (p := ⟨r, kk, none⟩) (.inl (mem_fR.2 (.inl rfl))) _
                have r2 : RfIn B D1 r (upV V1 kk (.slice (some ⟨g, 0, none⟩) m c)) (upV R1 kk A0) := by
                  rw [hD1]
                  have gD := rD.row kk hk3
                  rw [HV.out] at gD
                  refine rD.turn hk3 (Keep.refl _ D) (by
                    have := GR.cut (n := m) (by rw [← hn]; exact gD) (by omega)
                    rw [show (R1 kk).take m = A0 by rw [hs, hm]; simp] at this
                    exact this) (fun q hq => .inl (by rw [HV.out]; simpa [ownB, Value.ownBlock] using hq))
                have grow : D1.cell? ⟨g, m * 2, none⟩ = some (.int .i64 xi) := by
                  have gD := rD.row kk hk3
                  rw [HV.out] at gD
                  have : D1.heap[g]? = D.heap[g]? := by rw [hD1]; exact blk_setCell_other _ _ _ _ (rD.off hk3 g (by rw [HV.out]; simp [ownB, Value.ownBlock]))
                  rw [World.cell?_of_block (a := ⟨g, m * 2, none⟩) this, hxi]
                  exact (gD.at0 gx).1
                have HEV : Hid (EvR B r s0 w xi true D1) := by
                  have hnx := rnxt_at hk3 hs (fun j p1 p2 => J.out.2.2 j (by omega) p2)
                  have hev : evi s0 = some x.1 := by unfold evi; rw [← HS3.out.2]; exact hnx
                  refine ⟨⟨by rw [hev, hxi]; rfl, by rw [hev]; rfl⟩, ⟨?_, _, _, r2, ?_⟩, ?_⟩
                  · rw [hD1, nblk_setCell]; exact Nat.le_trans HS3.out.1.szB bD.size
                  · unfold eviS
                    rw [hev, ← HS3.out.2]
                    exact rs_cut HN1.out hk3 hs
                  · exact HS3.out.1.off.trans ((OffR.of_below bD HS3.out.1.szB).trans (rD.offR (Nat.le_trans HS3.out.1.szB bD.size) hkeep))
                have HG5 : Hid (D.cell? ⟨M, q, none⟩ = some (.pointer (some ⟨r, kk, none⟩))) := by rw [hD]; exact cr
                have HW1 : Hid (Wr D ⟨r, kk, none⟩) := ⟨⟨_, (bD.cell (p := ⟨r, kk, none⟩) rlt).trans k2⟩, rD.own.frozen kk⟩
                have HD : Hid (CC4 D D1 D1 D1 0 { wr with drawn := wr.drawn + 1 }) := hD.symm
                have HD1 := hide hD1
                have HQ3 := hide hq
                clear hs hs0 hv hG hm hn hnm gx hnc x1 hxi rlt glt hD hD1 bD rD hkeep r2 hkk hk3 J hpos x0
                go_wp2
                refine wp_region_chain (by kernel_rfl) (by kernel_rfl) (fun jx => ([.slice (some ⟨M, 0, none⟩) 3 3, .int .i64 (q : Int), .pointer (some ⟨M, q, none⟩), .pointer (some ⟨r, kk, none⟩), .slice (some ⟨g, 0, none⟩) n c, .slice (some ⟨g, 0, none⟩) n c, .int .i64 (n : Int), .int .i64 (m : Int), .slice (some ⟨g, 0, none⟩) m c, .pointer (some ⟨r, kk, none⟩), undef] : List Value).getD jx undef) [10] (by kernel_rfl) (CC4 D D1 D1 D1) (HD.out) ?_ ?_
                · intro jx ox hi sx w' ev hlm hks hc hin hout hcst hfn
                  have hltx : jx < 11 := by
                    have := (Array.getElem?_eq_some_iff.1 hi).1
                    simpa using this
                  match jx, hltx with
                  | 0, _ =>
                    simp only [List.getElem?_toArray, List.getElem?_cons_zero, List.getElem?_cons_succ, Option.some.injEq] at hi
                    subst hi
                    have e0 : ev (.tmp 5) = .slice (some ⟨M, 0, none⟩) 3 3 := hout 5 (by kernel_rfl) (show (5 : Nat) < 105 by decide)
                    rw [if_neg (by decide)]
                    refine .inl ⟨w', ?_, hc⟩
                    show _ = Result.ok (Next.value (.slice (some ⟨M, 0, none⟩) 3 3)) w'
                    simp [execOp, e0, hcst, go_sem]
                  | 1, _ =>
                    simp only [List.getElem?_toArray, List.getElem?_cons_zero, List.getElem?_cons_succ, Option.some.injEq] at hi
                    subst hi
                    have e0 : ev (.tmp 6) = .int .i64 (q : Int) := hout 6 (by kernel_rfl) (show (6 : Nat) < 105 by decide)
                    rw [if_neg (by decide)]
                    refine .inl ⟨w', ?_, hc⟩
                    show _ = Result.ok (Next.value (.int .i64 (q : Int))) w'
                    simp [execOp, e0, hcst, go_sem]
                  | 2, _ =>
                    simp only [List.getElem?_toArray, List.getElem?_cons_zero, List.getElem?_cons_succ, Option.some.injEq] at hi
                    subst hi
                    have e0 : ev (.tmp 88) = .slice (some ⟨M, 0, none⟩) 3 3 := hin 88 0 ⟨0, .data⟩ (by kernel_rfl) (by simp) rfl rfl (show (88 : Nat) < 105 by decide)
                    have e1 : ev (.tmp 89) = .int .i64 (q : Int) := hin 89 1 ⟨1, .data⟩ (by kernel_rfl) (by simp) rfl rfl (show (89 : Nat) < 105 by decide)
                    rw [if_neg (by decide)]
                    refine .inl ⟨w', ?_, hc⟩
                    show _ = Result.ok (Next.value (.pointer (some ⟨M, q, none⟩))) w'
                    have q3 := HQ3.out
                    simp [execOp, e0, e1, hcst, go_sem, q3]
                    intro q4
                    exact absurd q3 (by omega)
                  | 3, _ =>
                    simp only [List.getElem?_toArray, List.getElem?_cons_zero, List.getElem?_cons_succ, Option.some.injEq] at hi
                    subst hi
                    have e0 : ev (.tmp 90) = .pointer (some ⟨M, q, none⟩) := hin 90 2 ⟨2, .data⟩ (by kernel_rfl) (by simp) rfl rfl (show (90 : Nat) < 105 by decide)
                    rw [if_neg (by decide)]
                    have hl2 : sx ≤ 0 := Nat.le_trans hlm (Nat.le_of_eq (by kernel_rfl))
                    obtain rfl : sx = 0 := Nat.le_zero.1 hl2
                    have hw : w' = D := hc
                    subst hw
                    refine .inl ⟨_, ?_, hc⟩
                    show _ = Result.ok (Next.value _) _
                    have q1 := HG5.out
                    simp [execOp, e0, hcst, go_sem, q1]
                  | 4, _ =>
                    simp only [List.getElem?_toArray, List.getElem?_cons_zero, List.getElem?_cons_succ, Option.some.injEq] at hi
                    subst hi
                    have e0 : ev (.tmp 7) = .slice (some ⟨g, 0, none⟩) n c := hout 7 (by kernel_rfl) (show (7 : Nat) < 105 by decide)
                    rw [if_neg (by decide)]
                    refine .inl ⟨w', ?_, hc⟩
                    show _ = Result.ok (Next.value (.slice (some ⟨g, 0, none⟩) n c)) w'
                    simp [execOp, e0, hcst, go_sem]
                  | 5, _ =>
                    simp only [List.getElem?_toArray, List.getElem?_cons_zero, List.getElem?_cons_succ, Option.some.injEq] at hi
                    subst hi
                    have e0 : ev (.tmp 7) = .slice (some ⟨g, 0, none⟩) n c := hout 7 (by kernel_rfl) (show (7 : Nat) < 105 by decide)
                    rw [if_neg (by decide)]
                    refine .inl ⟨w', ?_, hc⟩
                    show _ = Result.ok (Next.value (.slice (some ⟨g, 0, none⟩) n c)) w'
                    simp [execOp, e0, hcst, go_sem]
                  | 6, _ =>
                    simp only [List.getElem?_toArray, List.getElem?_cons_zero, List.getElem?_cons_succ, Option.some.injEq] at hi
                    subst hi
                    have e0 : ev (.tmp 93) = .slice (some ⟨g, 0, none⟩) n c := hin 93 5 ⟨5, .data⟩ (by kernel_rfl) (by simp) rfl rfl (show (93 : Nat) < 105 by decide)
                    rw [if_neg (by decide)]
                    refine .inl ⟨w', ?_, hc⟩
                    show _ = Result.ok (Next.value (.int .i64 (n : Int))) w'
                    simp [execOp, e0, hcst, resolve, invoke, builtin, Builtin.len_, Result.andThen, go_sem]
                  | 7, _ =>
                    simp only [List.getElem?_toArray, List.getElem?_cons_zero, List.getElem?_cons_succ, Option.some.injEq] at hi
                    subst hi
                    have e0 : ev (.tmp 94) = .int .i64 (n : Int) := hin 94 6 ⟨6, .data⟩ (by kernel_rfl) (by simp) rfl rfl (show (94 : Nat) < 105 by decide)
                    rw [if_neg (by decide)]
                    refine .inl ⟨w', ?_, hc⟩
                    show _ = Result.ok (Next.value (.int .i64 (m : Int))) w'
                    have q := HSU.out w'
                    simp [execOp, e0, hcst, eqGuard, q, Result.andThen, pure, Sem.run]
                  | 8, _ =>
                    simp only [List.getElem?_toArray, List.getElem?_cons_zero, List.getElem?_cons_succ, Option.some.injEq] at hi
                    subst hi
                    have e0 : ev (.tmp 92) = .slice (some ⟨g, 0, none⟩) n c := hin 92 4 ⟨4, .data⟩ (by kernel_rfl) (by simp) rfl rfl (show (92 : Nat) < 105 by decide)
                    have e1 : ev (.tmp 95) = .int .i64 (m : Int) := hin 95 7 ⟨7, .data⟩ (by kernel_rfl) (by simp) rfl rfl (show (95 : Nat) < 105 by decide)
                    rw [if_neg (by decide)]
                    refine .inl ⟨w', ?_, hc⟩
                    show _ = Result.ok (Next.value (.slice (some ⟨g, 0, none⟩) m c)) w'
                    have q := HSL.out w'
                    simp [execOp, e0, e1, hcst, q, Result.andThen]
                  | 9, _ =>
                    simp only [List.getElem?_toArray, List.getElem?_cons_zero, List.getElem?_cons_succ, Option.some.injEq] at hi
                    subst hi
                    have e0 : ev (.tmp 91) = .pointer (some ⟨r, kk, none⟩) := hin 91 3 ⟨3, .data⟩ (by kernel_rfl) (by simp) rfl rfl (show (91 : Nat) < 105 by decide)
                    rw [if_neg (by decide)]
                    refine .inl ⟨w', ?_, hc⟩
                    show _ = Result.ok (Next.value (.pointer (some ⟨r, kk, none⟩))) w'
                    simp [execOp, e0, hcst, go_sem]
                  | 10, _ =>
                    simp only [List.getElem?_toArray, List.getElem?_cons_zero, List.getElem?_cons_succ, Option.some.injEq] at hi
                    subst hi
                    have e0 : ev (.tmp 97) = .pointer (some ⟨r, kk, none⟩) := hin 97 9 ⟨9, .data⟩ (by kernel_rfl) (by simp) rfl rfl (show (97 : Nat) < 105 by decide)
                    have e1 : ev (.tmp 96) = .slice (some ⟨g, 0, none⟩) m c := hin 96 8 ⟨8, .data⟩ (by kernel_rfl) (by simp) rfl rfl (show (96 : Nat) < 105 by decide)
                    rw [if_pos (by decide)]
                    have hsx : sx = 0 := hks 0 rfl
                    subst hsx
                    have hw : w' = D := hc
                    subst hw
                    refine .inr (.inl ⟨rfl, D1, ?_, rfl⟩)
                    have q3 := HD1.out
                    rw [q3]
                    obtain ⟨⟨v0, q1⟩, q2⟩ := HW1.out
                    simp [execOp, e0, e1, hcst, go_sem, q1, q2, Result.andThen]
                · intro w8 hc
                  simp only [lexF, Act.put, List.setIfInBounds_toArray, List.set_cons_succ, List.set_cons_zero, List.getD_cons_succ, List.getD_cons_zero]
                  have hw : w8 = D1 := hc
                  subst hw
                  clear HSU HSL HG5 HW1 HD HD1 HQ3 hc
                  go_wp2
                  go_ret2
                  exact ⟨ret_two HEV.out.1.1 HEV.out.1.2, HEV.out.2⟩
            · have hq3 : q = 3 := by have := J.out.1; omega
              subst hq3
              have HEV : Hid (EvR B r s0 w 0 false wr) := by
                have hev : evi s0 = none := by unfold evi; rw [← HS3.out.2]; exact rnxt_no (fun j hj => J.out.2.2 j (by omega) hj)
                refine ⟨⟨by rw [hev]; rfl, by rw [hev]; rfl⟩, ⟨HS3.out.1.szB, V1, R1, HS3.out.1.rf, ?_⟩, HS3.out.1.off⟩
                unfold eviS
                rw [hev, HS3.out.2]
              clear hq J
              go_wp2
              go_ret2
              exact ⟨ret_two HEV.out.1.1 HEV.out.1.2, HEV.out.2⟩
end
end Go.Proofs.Ytgjgdhjnkbbceaa
