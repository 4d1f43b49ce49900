/- Items. -/
import Derived.Test.YtdkiegkgnimapabDoorDc7
import Derived.Test.YtdkiegkgnimapabDoorCc
set_option linter.unusedVariables false
set_option linter.unusedSimpArgs false
set_option maxRecDepth 8000
namespace Go.Proofs.YtdkiegkgnimapabDoor
open Go.RowKit Go.Deep Drm Go.Shelf
open Sgg (I64 SM rwV LsP)
open Sgm (ids addS tchS rmvS evi eviS)

def tellO (d : Dm) (i : Int) : Ou := (lok i d.it).getD zOu
/-- What the first classes tell. -/
def itemsTo (d : Dm) : Nat → List Ou
  | 0 => []
  | k + 1 => itemsTo d k ++ (ids (d.sg k).all).map (tellO d)
theorem itemsTo_len {d : Dm} (h : ∀ k, k < 6 → (d.sg k).all.length ≤ 65536) : ∀ k, k ≤ 6 → (itemsTo d k).length ≤ 65536 * k
  | 0, _ => by simp [itemsTo]
  | k + 1, hk => by
    have := itemsTo_len h k (by omega)
    have := h k (by omega)
    simp only [itemsTo, List.length_append, List.length_map, ids]
    omega
def ItP (w0 : World) (c : Nat) (d : Dm) (W : World) (e : Ending) (W' : World) : Prop := ∃ va vc, e = .returned (.slice va (itemsTo d 6).length vc) ∧ GR ouK W.heap.size (.slice va (itemsTo d 6).length vc) (itemsTo d 6) W' ∧ DL w0 c d W' ∧ Below W.heap.size W W'
section
variable {w0 W W' : World} {c : Nat} {d : Dm}
theorem ret_sl3 {a : Option Addr} {n n' q : Nat} (h : n = n') : Ending.returned (.slice a n q) = .returned (.slice a n' q) := by rw [h]
set_option maxHeartbeats 8000000 in
theorem items_d (h : DL w0 c d W) : Calls Tryd.prog 10 #[.pointer (some ⟨c, 0, none⟩)] W (ItP w0 c d W) := by
  obtain ⟨a, m, t1, t2⟩ := h.ml
  have hI := h.iv
  have HSG : Hid (∀ k, k < 6 → (d.sg k).all.length ≤ 65536) := fun k hk => h.sgl hk
  have HTL := hide (itemsTo_len HSG.out)
  have cL := hide (len_d h)
  obtain ⟨W0, hmk, g0, b0, z0⟩ := make_g ouK (B := W.heap.size) (W := W) (Nat.le_refl _) d.it.length (by have := h.few; omega)
  have hmk2 : (Instr.makeSlice 27 (.int .i64 0) (.int .i64 (d.it.length : Int))).run Tryd.prog W = .ok (.slice (some ⟨W.heap.size, 0, none⟩) 0 d.it.length) W0 := hmk
  have HG0 := hide (And.intro g0 b0)
  have HM := hide m
  have HH := hide h
  have HIV := hide hI
  generalize d.it.length = N at cL hmk2 HG0
  have c2 := (m.on b0).c2
  clear h m t1 t2 hI hmk g0 b0 z0
  go_enter Tryd.func10, Tryd.ntmps10
  go_wp2_with fail
  refine cL.out.mono ?_
  rintro e wx ⟨rfl, hx⟩
  obtain rfl : W = wx := hx.symm
  clear hx cL
  go_wp2
  obtain ⟨C0, hC0⟩ : ∃ C0, C0 = (some ⟨W.heap.size, 0, none⟩ : Option Addr) := ⟨_, rfl⟩
  go_loopg [3, 19] 6 (fun kx s3 s19 wr => ∃ (r : Nat) (va : Option Addr) (n vc : Nat), s19 = .int .i64 (r : Int) ∧ s3 = .slice va n vc ∧ Hid (r ≤ 6 ∧ 6 - r ≤ kx ∧ n = (itemsTo d r).length ∧ GR ouK W.heap.size (.slice va n vc) (itemsTo d r) wr ∧ Below W.heap.size W wr))
  case atStart => exact ⟨0, _, 0, N, rfl, rfl, by decide, by decide, rfl, HG0.out.1, HG0.out.2⟩
  case round =>
    obtain ⟨r, va, n, vc, rfl, rfl, I⟩ := hrel
    obtain ⟨i1, i2, i3, i4, i5⟩ := I.out
    by_cases hlt : r < 6
    · have hlt2 : (r : Int) < 6 := by omega
      have m1 := HM.out.on i5
      have rr := m1.r hlt
      have hsl := HSG.out r hlt
      have cS := hide (Sgg.lists_m (m1.mx.sgs r hlt) (by omega))
      obtain ⟨S, hS⟩ : ∃ S, S = d.sg r := ⟨_, rfl⟩
      rw [← hS] at cS hsl
      unfold rwV at cS
      obtain ⟨z0, hz0⟩ : ∃ z, z = wr.heap.size := ⟨_, rfl⟩
      obtain ⟨z1, hz1⟩ : ∃ z, z = wr.heap.size + 1 + S.h.length := ⟨_, rfl⟩
      obtain ⟨z2, hz2⟩ : ∃ z, z = wr.heap.size + 1 + S.h.length + 1 + S.w.length := ⟨_, rfl⟩
      rw [← hz2, ← hz1, ← hz0] at cS
      have hlens : S.h.length ≤ 65536 ∧ S.w.length ≤ 65536 ∧ S.c.length ≤ 65536 := by
        simp only [Sgm.St.all, List.length_append] at hsl
        omega
      have HZ := hide (And.intro hz0 (And.intro hz1 hz2))
      have HSE := hide hS
      have HLS := hide hlens
      have HI5 := hide i5
      have HI := hide (And.intro i2 (And.intro i3 i4))
      have HRL := hide hlt
      clear i1 i2 i3 i4 i5 I m1 hlt hsl hS hz0 hz1 hz2 hlens HG0 hmk2
      go_wp2_with fail
      refine cS.out.mono ?_
      rintro e W1 ⟨rfl, P1⟩
      obtain ⟨h0, h1, h2⟩ := HZ.out
      obtain ⟨X, hX⟩ : ∃ X, X = W1.alloc (.cells #[.slice (some ⟨z0, 0, none⟩) S.h.length S.h.length, .slice (some ⟨z1, 0, none⟩) S.w.length S.w.length, .slice (some ⟨z2, 0, none⟩) S.c.length S.c.length] 71) := ⟨_, rfl⟩
      have bX : Below W1.heap.size W1 X := by rw [hX]; exact (Below.refl _ W1).alloc (Nat.le_refl _) _
      have hTri : Tri wr.heap.size X W1.heap.size (fun k => match k with | 0 => .slice (some ⟨z0, 0, none⟩) S.h.length S.h.length | 1 => .slice (some ⟨z1, 0, none⟩) S.w.length S.w.length | _ => .slice (some ⟨z2, 0, none⟩) S.c.length S.c.length) (fun k => match k with | 0 => ids S.h | 1 => ids S.w | _ => ids S.c) := by
        refine ⟨?_, fun k hk => ?_, fun k hk => ?_⟩
        · rw [hX]
          exact Blk.new W1 _ 71
        · match k, hk with
          | 0, _ => have := P1.r0.below bX; rw [← h0] at this; rw [← h0]; exact this
          | 1, _ => have := P1.r1.below bX; rw [← h1] at this; exact this
          | 2, _ => have := P1.r2.below bX; rw [← h2] at this; exact this
        · have := HLS.out
          match k, hk with
          | 0, _ => simp only [ids, List.length_map]; omega
          | 1, _ => simp only [ids, List.length_map]; omega
          | 2, _ => simp only [ids, List.length_map]; omega
      have cC := hide (concat_any hTri)
      have hcat : catI (fun k => match k with | 0 => ids S.h | 1 => ids S.w | _ => ids S.c) 3 = ids S.all := by simp [catI, ids, Sgm.St.all]
      rw [hcat] at cC
      have bW1 : Below W.heap.size W X := HI5.out.trans ((P1.bel.trans (bX.mono P1.bel.size)).mono HI5.out.size)
      have HBX := hide bW1
      have HGX : Hid (GR ouK W.heap.size (.slice va n vc) (itemsTo d r) X) := (HI.out.2.2.below P1.bel).below bX
      have HW1 := hide P1.bel.size
      rw [hX] at cC
      have HX := hide hX
      clear P1 h0 h1 h2 hX bX hTri hcat bW1 cS
      go_wp2_with fail
      refine cC.out.mono ?_
      rintro e X1 ⟨ua, uc, rfl, gi, bi⟩
      rw [← HX.out] at gi bi
      obtain ⟨xs, hxs⟩ : ∃ xs, xs = ids S.all := ⟨_, rfl⟩
      rw [← hxs] at gi ⊢
      have hxl : xs.length ≤ 65536 := by
        have h9 := HSG.out r HRL.out
        rw [hxs, HSE.out]
        simp only [ids, List.length_map]
        exact h9
      have HXE : Hid (xs = ids (d.sg r).all) := by rw [hxs, HSE.out]; rfl
      have HXI : Hid (∀ i ∈ xs, I64 i) := fun i hi => HIV.out.i64 ((HIV.out.seg r HRL.out i).1 (by rw [HXE.out] at hi; exact hi)).1
      obtain ⟨q, hq⟩ : ∃ q, q = xs.length := ⟨_, rfl⟩
      rw [← hq] at gi hxl ⊢
      have HQ := hide hq
      have HQL := hide hxl
      have hq9 : (q : Int) ≤ 65536 := by omega
      have HGI := hide gi
      have HBI := hide (HBX.out.trans (bi.mono HBX.out.size))
      have HGX1 := hide (HGX.out.below bi)
      have HBB := hide (Nat.le_trans HBX.out.size bi.size)
      have HXX := hide HBX.out.size
      obtain ⟨wo, hwo⟩ : ∃ wo, wo = wr := ⟨_, rfl⟩
      subst hwo
      clear cC gi bi hxs hq hxl rr
      go_wp2
      go_loopg [3, 35] q (fun kx s3 s35 wr => ∃ (j : Nat) (va : Option Addr) (n vc : Nat), s35 = .int .i64 (j : Int) ∧ s3 = .slice va n vc ∧ Hid (j ≤ q ∧ q - j ≤ kx ∧ n = (itemsTo d r).length + j ∧ GR ouK W.heap.size (.slice va n vc) (itemsTo d r ++ (xs.take j).map (tellO d)) wr ∧ Below W.heap.size W wr ∧ GR intK X.heap.size (.slice ua q uc) xs wr))
      case atStart => exact ⟨0, va, n, vc, rfl, rfl, Nat.zero_le _, Nat.le_refl _, by rw [HI.out.2.1]; rfl, by simpa using HGX1.out, HBI.out, HGI.out⟩
      case round =>
        obtain ⟨j, ya, ny, yc, rfl, rfl, J⟩ := hrel
        obtain ⟨j1, j2, j3, j4, j5, j6⟩ := J.out
        by_cases hjl : j < q
        · have hjl2 : (j : Int) < (q : Int) := by omega
          have hx := List.getElem?_eq_getElem (l := xs) (i := j) (by rw [← HQ.out]; exact hjl)
          obtain ⟨x, hxe⟩ : ∃ x, x = xs[j]'(by rw [← HQ.out]; exact hjl) := ⟨_, rfl⟩
          rw [← hxe] at hx
          obtain ⟨gg, cc, hv, hcell, -⟩ := j6.cell (r := 0) hx rfl
          simp only [Value.slice.injEq] at hv
          obtain ⟨rfl, -, rfl⟩ := hv
          have hcell2 : wr.cell? ⟨gg, j, none⟩ = some (.int .i64 x) := by
            have h9 : j * intK.sz + 0 = j := by show j * 1 + 0 = j; omega
            rw [h9] at hcell
            exact hcell
          have m2 := HM.out.on j5
          have c3 := m2.c3
          have hlk := m2.mx.mp.look (HXI.out x (List.mem_of_getElem? hx))
          obtain ⟨va2, vc2, W2, hrun, hS, hK, hO⟩ := snoc_g j4 j5.size (tellO d x) (by
            have h9 := HTL.out r (by have := HRL.out; omega)
            have h8 := HRL.out
            have h7 := HQL.out
            simp only [List.length_append, List.length_map, List.length_take]
            omega)
          have hl9 : (itemsTo d r ++ (xs.take j).map (tellO d)).length = ny := by
            rw [j3]
            simp only [List.length_append, List.length_map, List.length_take]
            have := HQ.out
            omega
          rw [hl9] at hrun hS hO
          have htk : (xs.take (j + 1)).map (tellO d) = (xs.take j).map (tellO d) ++ [tellO d x] := by
            rw [List.take_succ_eq_append_getElem (by rw [← HQ.out]; exact hjl), ← hxe]
            simp
          have HS : Hid (j + 1 ≤ q ∧ q - (j + 1) ≤ q - (j + 1) ∧ ny + 1 = (itemsTo d r).length + (j + 1) ∧ GR ouK W.heap.size (.slice va2 (ny + 1) vc2) (itemsTo d r ++ (xs.take (j + 1)).map (tellO d)) W2 ∧ Below W.heap.size W W2 ∧ GR intK X.heap.size (.slice (some ⟨gg, 0, none⟩) q uc) xs W2) := by
            refine ⟨by omega, Nat.le_refl _, by omega, by rw [htk, ← List.append_assoc]; exact hS, j5.trans (hK.below (fun y hy => (j4.lt y hy).1) j5.size), j6.sameB (fun y hy => hK.block y (j6.lt y hy).2 (fun hm => ?_))⟩
            obtain ⟨c1, e1⟩ := j6.ty y hy
            obtain ⟨c2, e2⟩ := j4.ty y hm
            rw [e1] at e2
            simp [intK, ouK] at e2
          have HR : Hid (∀ ty, (Builtin.append_ #[27, 27] ty #[.slice ya ny yc, .slice (some ⟨wr.heap.size, 0, none⟩) 1 1]).run Tryd.prog (wr.alloc (.cells #[.string (Tbl.txt (tellO d x).x.k), .string (Tbl.txt (tellO d x).x.v), .int .u32 (tellO d x).x.fl, .int .i64 (tellO d x).x.ex, .int .u64 (tellO d x).x.ve, .bool (tellO d x).c] 40)) = .ok (.slice va2 (ny + 1) vc2) W2) := hrun
          have hlk2 : (Instr.lookup 53 (.map (some a.m)) (.int .i64 x) false).run Tryd.prog wr = .ok (.agg #[.string (Tbl.txt (tellO d x).x.k), .string (Tbl.txt (tellO d x).x.v), .int .u32 (tellO d x).x.fl, .int .i64 (tellO d x).x.ex, .int .u64 (tellO d x).x.ve, .bool (tellO d x).c]) wr := hlk
          generalize Tbl.txt (tellO d x).x.k = tk at *
          generalize Tbl.txt (tellO d x).x.v = tv at *
          have HJ2 := hide j2
          have HJL := hide hjl
          clear hjl hx hxe hcell m2 hlk hrun hS hK hO hl9 htk j1 j2 j3 j4 j5 j6 J HGX1 HGI HBI
          go_wp2_with (at_builtin; refine Lib.wpList_append_run _ rfl _ _ _ _ rfl _ _ rfl rfl _ _ (HR.out _) ?_)
          go_roundg (q - (j + 1))
          case measure => have := HJ2.out; have := HJL.out; omega
          case rel => exact ⟨j + 1, va2, ny + 1, vc2, rfl, rfl, HS.out⟩
        · have hjl2 : ¬ (j : Int) < (q : Int) := by omega
          have HS : Hid (r + 1 ≤ 6 ∧ 6 - (r + 1) ≤ 6 - (r + 1) ∧ ny = (itemsTo d (r + 1)).length ∧ GR ouK W.heap.size (.slice ya ny yc) (itemsTo d (r + 1)) wr ∧ Below W.heap.size W wr) := by
            have e1 : xs.take j = xs := List.take_of_length_le (by have := HQ.out; omega)
            rw [e1, HXE.out] at j4
            refine ⟨by have := HRL.out; omega, Nat.le_refl _, GR.len' (α := Ou) j4, j4, j5⟩
          have HI2 := hide HI.out.1
          clear hjl j1 j2 j3 j4 j5 j6 J HGX1 HGI HBI
          go_wp2
          go_roundg (6 - (r + 1))
          case measure => have := HI2.out; have := HRL.out; omega
          case rel => exact ⟨r + 1, ya, ny, yc, rfl, rfl, HS.out⟩
    · obtain rfl : r = 6 := by omega
      have HE : Hid (ItP w0 c d W (.returned (.slice va n vc)) wr) := by
        subst i3
        exact ⟨va, vc, rfl, i4, HH.out.on i5, i5⟩
      clear i1 i2 i3 i4 i5 I HG0 hlt
      go_wp2
      go_ret
      exact HE.out
end
end Go.Proofs.YtdkiegkgnimapabDoor
