/- The document's own Seg: Remove. -/
import Derived.Test.YtgjgdhjnkbbceaaRf2
set_option linter.unusedVariables false
set_option linter.unusedSimpArgs false
set_option maxRecDepth 8000
namespace Go.Proofs.Ytgjgdhjnkbbceaa
open Go.RowKit Go.Deep Sgm
section
variable {B : Nat} {w w' W : World} {r k j n : Nat} {V : Nat → Value} {R : Nat → List Nd} {i : Int} {v : Value} {xs : List Nd}
theorem outI_snoc (i : Int) (l : List Nd) (x : Nd) : outI i (l ++ [x]) = if x.1 = i then outI i l else outI i l ++ [x] := by
  unfold outI
  by_cases h : x.1 = i <;> simp [List.filter_append, h]
/-- The first k rows are without the number. -/
def remR (i : Int) (k : Nat) (R : Nat → List Nd) : Nat → List Nd := fun j => if j < k then outI i (R j) else R j
theorem remR_step (i : Int) (k : Nat) (R : Nat → List Nd) : upV (remR i k R) k (outI i (R k)) = remR i (k + 1) R := by
  funext j
  unfold upV remR
  by_cases h : j = k
  · subst h; simp
  · by_cases h2 : j < k
    · simp [h, h2, Nat.lt_succ_of_lt h2]
    · have : ¬ j < k + 1 := by omega
      simp [h, h2, this]
theorem rs_rem : rs (remR i 3 R) = rmvS i (rs R) := by simp [rs, remR, rmvS]
def RmP (B r : Nat) (s : St) (i : Int) (w : World) (e : Ending) (w' : World) : Prop := e = .returned (.bool (s.has i)) ∧ RfZ B r (rmvS i s) w' ∧ OffR B w w'
set_option maxHeartbeats 4000000 in
theorem rremove_any (hB : B ≤ w.heap.size) (h : RfIn B w r V R) (i : Int) (hn : ∀ k, k < 3 → (R k).length ≤ 100000) : Calls Try.prog 18 #[.pointer (some ⟨r, 0, none⟩), .int .i64 i] w (RmP B r (rs R) i w) := by
  have cH := hide (rhas_any h i hn)
  cases hh : (rs R).has i with
  | false =>
    rw [hh] at cH
    have HE : Hid (∀ W, Below w.heap.size w W → RmP B r (rs R) i w (.returned (.bool false)) W) := fun W bW => ⟨by rw [hh], ⟨Nat.le_trans hB bW.size, V, R, h.below bW, by rw [rmv_same hh]⟩, OffR.of_below bW hB⟩
    clear h hh hB hn
    go_enter Try.func18, Try.ntmps18
    go_wp2_with fail
    refine cH.out.mono ?_
    rintro e W ⟨rfl, bW⟩
    have HF := hide (HE.out W bW)
    clear cH HE bW
    go_wp2
    go_ret
    exact HF.out
  | true =>
    rw [hh] at cH
    have HH := hide h
    have HN := hide hn
    have HBB := hide hB
    have Hhh := hide hh
    clear h hh hB hn
    go_enter Try.func18, Try.ntmps18
    go_wp2_with fail
    refine cH.out.mono ?_
    rintro e W1 ⟨rfl, b1⟩
    have cA := hide (rall_any W1 r)
    have b2 := al_below W1 r
    have HB : Hid (Below w.heap.size w (W1.drew.alloc (alO r))) := b1.trans (b2.mono b1.size)
    have HA : Hid (Blk (W1.drew.alloc (alO r)) W1.heap.size (al3 r) 62) := Blk.new W1.drew (al3 r) 62
    obtain ⟨N, hN⟩ : ∃ N, N = W1.heap.size := ⟨_, rfl⟩
    have HNw : Hid (w.heap.size ≤ N) := by rw [hN]; exact b1.size
    rw [← hN] at cA HA
    obtain ⟨W, hW⟩ : ∃ W, W = W1.drew.alloc (alO r) := ⟨_, rfl⟩
    rw [← hW] at cA HA HB
    clear hN hW b1 b2 cH
    go_wp2_with fail
    refine cA.out.mono ?_
    rintro e wx ⟨rfl, hx⟩
    obtain rfl : W = wx := hx.symm
    clear hx cA
    go_wp2
    go_loopg [6, 7, 8, 9] 3 (fun kx s6 s7 s8 s9 wr => ∃ (k : Nat) (V1 : Nat → Value), s6 = .int .i64 (k : Int) ∧ Hid (k ≤ 3 ∧ 3 - k ≤ kx ∧ RfIn B wr r V1 (remR i k R) ∧ Blk wr N (al3 r) 62 ∧ OffR B w wr ∧ w.heap.size ≤ wr.heap.size))
    case atStart =>
      refine ⟨0, V, rfl, by decide, by decide, ?_, HA.out, OffR.of_below HB.out HBB.out, HB.out.size⟩
      have : remR i 0 R = R := by funext j; simp [remR]
      rw [this]
      exact HH.out.below HB.out
    case round =>
      obtain ⟨k, V1, rfl, I⟩ := hrel
      by_cases hk : k < 3
      · have hk2 : (k : Int) < 3 := by omega
        have k1 : wr.cell? ⟨N, k, none⟩ = some (.pointer (some ⟨r, k, none⟩)) := I.out.2.2.2.1.cell (by
          match k, hk with
          | 0, _ => rfl
          | 1, _ => rfl
          | 2, _ => rfl)
        have k2 := I.out.2.2.1.cell hk
        have hG := I.out.2.2.1.row k hk
        have eR : remR i k R k = R k := by simp [remR]
        rw [eR] at hG
        have hn9 := HN.out k hk
        obtain ⟨va, vc, hv⟩ := hG.slice
        have HV := hide hv
        rw [hv] at k2 hG
        have HG := hide hG
        obtain ⟨n, hn⟩ : ∃ n, n = (R k).length := ⟨_, rfl⟩
        rw [← hn] at k2 HG hn9 HV
        have Hn := hide hn
        obtain ⟨k3, hk3⟩ : ∃ k3, k3 = k + 1 := ⟨_, rfl⟩
        have e3 : (k : Int) + 1 = (k3 : Int) := by omega
        have Hk3 := hide hk3
        have Hk := hide hk
        clear hv hG hn hk3 eR
        obtain ⟨wo, hwo⟩ : ∃ wo, wo = wr := ⟨_, rfl⟩
        subst hwo
        go_wp2
        go_loopg [7, 9] n (fun ky s7 s9 wr => ∃ (p : Nat) (xa : Option Addr) (m xc : Nat), s9 = .int .i64 (p : Int) ∧ s7 = .slice xa m xc ∧ Hid (p ≤ n ∧ n - p ≤ ky ∧ m = (outI i ((R k).take p)).length ∧ GR nodK wo.heap.size (.slice xa m xc) (outI i ((R k).take p)) wr ∧ Below wo.heap.size wo wr))
        case atStart => exact ⟨0, none, 0, 0, rfl, rfl, Nat.zero_le _, Nat.le_refl _, by simp [outI], by simpa [outI] using GR.nil nodK _ _, Below.refl _ _⟩
        case round =>
          obtain ⟨p, xa, m, xc, rfl, rfl, J⟩ := hrel
          by_cases hp : p < n
          · have hp2 : (p : Int) < (n : Int) := by omega
            have gx := List.getElem?_eq_getElem (l := R k) (i := p) (by rw [← Hn.out]; exact hp)
            obtain ⟨x, hx⟩ : ∃ x, x = (R k)[p]'(by rw [← Hn.out]; exact hp) := ⟨_, rfl⟩
            rw [← hx] at gx
            have hG := HG.out.below J.out.2.2.2.2
            obtain ⟨g, c, hv⟩ := hG.form (by have := Hn.out; omega)
            simp only [Value.slice.injEq] at hv
            obtain ⟨rfl, -, rfl⟩ := hv
            obtain ⟨x0, x1⟩ := hG.at0 gx
            have htk : (R k).take (p + 1) = (R k).take p ++ [x] := by
              rw [List.take_succ_eq_append_getElem (by rw [← Hn.out]; exact hp), ← hx]
            obtain ⟨p1, hp1⟩ : ∃ p1, p1 = p + 1 := ⟨_, rfl⟩
            have e1 : (p : Int) + 1 = (p1 : Int) := by omega
            have Hp1 := hide hp1
            have Hp := hide hp
            by_cases hxi : x.1 = i
            · have HS : Hid (p1 ≤ n ∧ n - p1 ≤ n - p1 ∧ m = (outI i ((R k).take p1)).length ∧ GR nodK wo.heap.size (.slice xa m xc) (outI i ((R k).take p1)) wr ∧ Below wo.heap.size wo wr) := by
                rw [hp1, htk, outI_snoc, if_pos hxi]
                exact ⟨by omega, Nat.le_refl _, J.out.2.2.1, J.out.2.2.2.1, J.out.2.2.2.2⟩
              rw [hxi] at x0
              have HL := hide J.out.2.1
              clear gx hx hG htk hp1 hxi J x1
              go_wp2
              go_roundg (n - p1)
              case measure => have := HL.out; have := Hp1.out; have := Hp.out; omega
              case rel => exact ⟨p1, xa, m, xc, rfl, rfl, HS.out⟩
            · have hb : (x.1 != i) = true := by simpa using hxi
              have he : (x.1 == i) = false := by simpa using hxi
              have hm : m = (outI i ((R k).take p)).length := J.out.2.2.1
              have hm9 : m ≤ 100000 := by
                rw [hm]
                refine Nat.le_trans (List.length_filter_le _ _) ?_
                rw [List.length_take]; omega
              obtain ⟨xa2, xc2, W2, hrun, hS, hK, hO⟩ := snoc_g J.out.2.2.2.1 J.out.2.2.2.2.size x (by rw [← hm]; omega)
              rw [← hm] at hrun hS hO
              have hB2 : Below wo.heap.size wo W2 := J.out.2.2.2.2.trans (hK.below (fun q hq => (J.out.2.2.2.1.lt q hq).1) J.out.2.2.2.2.size)
              have HS : Hid (p1 ≤ n ∧ n - p1 ≤ n - p1 ∧ m + 1 = (outI i ((R k).take p1)).length ∧ GR nodK wo.heap.size (.slice xa2 (m + 1) xc2) (outI i ((R k).take p1)) W2 ∧ Below wo.heap.size wo W2) := by
                rw [hp1, htk, outI_snoc, if_neg hxi]
                exact ⟨by omega, Nat.le_refl _, by rw [hm]; simp, hS, hB2⟩
              have HR : Hid (∀ ty, (Builtin.append_ #[31, 31] ty #[.slice xa m xc, .slice (some ⟨wr.heap.size, 0, none⟩) 1 1]).run Try.prog (wr.alloc (.cells #[.int .i64 x.1, .bool x.2] 59)) = .ok (.slice xa2 (m + 1) xc2) W2) := hrun
              have HL := hide J.out.2.1
              clear gx hx hG htk hp1 J hm hm9 hrun hS hK hO hB2 hxi
              generalize x.1 = xv at *
              generalize x.2 = xu at *
              go_wp2_with (at_builtin; refine Lib.wpList_append_run _ rfl _ _ _ _ rfl _ _ rfl rfl _ _ (HR.out _) ?_)
              go_roundg (n - p1)
              case measure => have := HL.out; have := Hp1.out; have := Hp.out; omega
              case rel => exact ⟨p1, xa2, m + 1, xc2, rfl, rfl, HS.out⟩
          · have hp2 : ¬ (p : Int) < (n : Int) := by omega
            have bW := J.out.2.2.2.2
            have eT : (R k).take p = R k := List.take_of_length_le (by have := Hn.out; omega)
            have gM := J.out.2.2.2.1
            rw [eT] at gM
            have hI := I.out.2.2.1
            have tR := hI.turn hk (W := wr) (v := .slice xa m xc) (xs := outI i (R k)) (Keep.of_below bW) (gM.base (Nat.le_trans HBB.out I.out.2.2.2.2.2)) (fun q hq => .inr (gM.lt q hq).1)
            rw [remR_step, ← Hk3.out] at tR
            have k1' : wr.cell? ⟨N, k, none⟩ = some (.pointer (some ⟨r, k, none⟩)) := (bW.cell (p := ⟨N, k, none⟩) I.out.2.2.2.1.lt).trans k1
            have hIw := hI.below bW
            have k4 := hIw.cell hk
            have k5 := hIw.own.frozen k
            have HS : Hid (RfIn B (wr.setCell ⟨r, k, none⟩ (.slice xa m xc)) r (upV V1 k (.slice xa m xc)) (remR i k3 R) ∧ Blk (wr.setCell ⟨r, k, none⟩ (.slice xa m xc)) N (al3 r) 62 ∧ OffR B w (wr.setCell ⟨r, k, none⟩ (.slice xa m xc)) ∧ w.heap.size ≤ (wr.setCell ⟨r, k, none⟩ (.slice xa m xc)).heap.size) := by
              have nr : N ≠ r := fun e => by
                have h1 := I.out.2.2.2.1
                have h2 := hI.own
                unfold Blk at h1 h2
                rw [e, h2] at h1
                simp at h1
              refine ⟨tR, (I.out.2.2.2.1.same (bW.block N I.out.2.2.2.1.lt)).other (a := ⟨r, k, none⟩) nr _, ?_, ?_⟩
              · refine I.out.2.2.2.2.1.trans (hI.offR (Nat.le_trans HBB.out I.out.2.2.2.2.2) ?_)
                exact (Keep.of_below (F := fR r V1) bW).setCell (p := ⟨r, k, none⟩) (.inl (mem_fR.2 (.inl rfl))) _
              · rw [nblk_setCell]
                exact Nat.le_trans I.out.2.2.2.2.2 bW.size
            rw [show (⟨r, k, none⟩ : Addr) = ⟨r, k, none⟩ from rfl] at k4
            obtain ⟨ov, hov⟩ : ∃ ov, ov = V1 k := ⟨_, rfl⟩
            rw [← hov] at k4
            clear hp J bW eT gM hI tR hIw hov k1
            go_wp2
            go_roundg (3 - k3)
            case measure => have := I.out.2.1; have := Hk3.out; have := Hk.out; omega
            case rel => exact ⟨k3, _, rfl, by have := Hk3.out; have := Hk.out; omega, Nat.le_refl _, HS.out⟩
      · have hk3 : k = 3 := by have := I.out.1; omega
        subst hk3
        have HE : Hid (RmP B r (rs R) i w (.returned (.bool true)) wr) := ⟨by rw [Hhh.out], ⟨Nat.le_trans HBB.out I.out.2.2.2.2.2, V1, _, I.out.2.2.1, rs_rem⟩, I.out.2.2.2.2.1⟩
        clear hk I
        go_wp2
        go_ret
        exact HE.out
end
end Go.Proofs.Ytgjgdhjnkbbceaa
