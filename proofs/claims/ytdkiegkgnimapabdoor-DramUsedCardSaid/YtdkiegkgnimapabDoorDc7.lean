/- Put. -/
import Derived.Test.YtdkiegkgnimapabDoorDc6
set_option linter.unusedVariables false
set_option linter.unusedSimpArgs false
set_option maxRecDepth 8000
namespace Go.Proofs.YtdkiegkgnimapabDoor
open Go.RowKit Go.Deep Drm Go.Shelf
open Sgg (I64 SM)
open Sgm (ids addS tchS rmvS evi eviS)
open Slb (Pg SlIn tkC tkE tkL frE frL ofI takI)
open Tbl (TM txt hsh)
open Tab (Tb fnd)
theorem enter28 (args : Array Value) (w : World) : (callFunc 23 args).run Tryd.prog w = .ok (.enter 23 args) w := enters_of Tryd.func23 (by kernel_rfl) rfl args w
theorem enter29 (args : Array Value) (w : World) : (callFunc 24 args).run Tryd.prog w = .ok (.enter 24 args) w := enters_of Tryd.func24 (by kernel_rfl) rfl args w
/-- The class of an item. -/
def kls (x : It) : Nat := (Slb.cls ((32 + x.k.length + x.v.length : Nat) : Int)).toNat
theorem cls_small (n : Nat) (h : n ≤ 2048) : ∃ k : Nat, k < 6 ∧ Slb.cls (n : Int) = (k : Int) := by
  by_cases h0 : n ≤ 64
  · exact ⟨0, by decide, Slb.cls_at n 0 (by decide) (by omega) (fun j hj => by omega) (by simp; omega)⟩
  by_cases h1 : n ≤ 128
  · exact ⟨1, by decide, Slb.cls_at n 1 (by decide) (by omega) (fun j hj => by have : j = 0 := by omega
                                                                               subst this; simp; omega) (by simp; omega)⟩
  by_cases h2 : n ≤ 256
  · exact ⟨2, by decide, Slb.cls_at n 2 (by decide) (by omega) (fun j hj => by rcases (show j = 0 ∨ j = 1 by omega) with rfl | rfl <;> (simp; omega)) (by simp; omega)⟩
  by_cases h3 : n ≤ 512
  · exact ⟨3, by decide, Slb.cls_at n 3 (by decide) (by omega) (fun j hj => by rcases (show j = 0 ∨ j = 1 ∨ j = 2 by omega) with rfl | rfl | rfl <;> (simp; omega)) (by simp; omega)⟩
  by_cases h4 : n ≤ 1024
  · exact ⟨4, by decide, Slb.cls_at n 4 (by decide) (by omega) (fun j hj => by rcases (show j = 0 ∨ j = 1 ∨ j = 2 ∨ j = 3 by omega) with rfl | rfl | rfl | rfl <;> (simp; omega)) (by simp; omega)⟩
  exact ⟨5, by decide, Slb.cls_at n 5 (by decide) (by omega) (fun j hj => by rcases (show j = 0 ∨ j = 1 ∨ j = 2 ∨ j = 3 ∨ j = 4 by omega) with rfl | rfl | rfl | rfl | rfl <;> (simp; omega)) (by simp; omega)⟩
theorem kls_ok {x : It} (h : x.ok) : kls x < 6 ∧ Slb.cls ((32 + x.k.length + x.v.length : Nat) : Int) = (kls x : Int) := by
  obtain ⟨k, h6, hk⟩ := cls_small (32 + x.k.length + x.v.length) (by have := h.2.1; have := h.2.2.1; omega)
  unfold kls
  rw [hk]
  exact ⟨by omega, by omega⟩
theorem mayBe_ok {x : It} (h : x.ok) : mayBe x.k.length x.v.length x.ve.toNat = true := by
  obtain ⟨h1, h2, h3, _, _, h6, _⟩ := h
  unfold mayBe
  simp [h1, h2, h3]
  omega
theorem txt_sz (l : List UInt8) : (txt l).size = l.length := by unfold Tbl.txt; simp [ByteArray.size]
section
variable {w0 W W' : World} {c : Nat} {d : Dm} {i : Int}
/-- One that is not good is refused. -/
theorem put_bad (h : DL w0 c d W) (kb vb : ByteArray) (f e : Int) (v : Nat) (b : Bool) (hb : mayBe kb.size vb.size v = false) : Calls Tryd.prog 6 #[.pointer (some ⟨c, 0, none⟩), iV kb vb f e v, .bool b] W fun r W' => r = .returned (.tuple #[.slice none 0 0, .int .i64 1]) ∧ DL w0 c d W' ∧ OffD W W' := by
  have cG : Hid (∀ w, Calls Tryd.prog 19 #[iV kb vb f e v] w fun r w' => r = .returned (.bool false) ∧ Below w.heap.size w w') := fun w => by
    have := good_any kb vb f e v w
    rw [hb] at this
    exact this
  have HH := hide h
  unfold iV at cG ⊢
  clear h hb
  go_enter Tryd.func6, Tryd.ntmps6
  go_wp2_with fail
  refine (cG.out _).mono ?_
  rintro e1 W1 ⟨rfl, b1⟩
  have b2 : Below W.heap.size W W1 := ((Below.refl _ W).alloc (Nat.le_refl _) _).trans (b1.mono (by simp))
  have HE := hide (And.intro (HH.out.on b2) (OffD.below b2))
  clear b1 b2 cG
  go_wp2
  exact bodyPost_ret (v := .tuple #[.slice none 0 0, .int .i64 1]) (by simp [results, Tryd.results6, go_sem]) rfl ⟨rfl, HE.out⟩
/-- A cache into which one has come: what is in memory says so. -/
theorem DL.add {a : Ad} {cl : Nat} {o : Ou} (hI : Iv d) (hcl : cl < 6) (he : tkE cl d.pg = 0) (hk : o.x.k ∉ kys d.it) (hok : o.x.ok) (hg : Tab.Good hsh a.tb) (t1 : ∀ k, fnd k a.tb.all = kfd k d.it) (t2 : a.tb.all.length = d.it.length) {b : Ad} (hb : b.tb = a.tb.setT hsh o.x.k (tkC cl d.pg : Int))
    (m : ML w0 c b (tkL cl d.pg) (updS d.sg cl (addS (tkC cl d.pg : Int) (d.sg cl))) (d.it.length + 1) (updO (fun i => lok i d.it) (tkC cl d.pg : Int) (some o)) W') : DL w0 c (addD cl o d) W' := by
  have hf := (hI.fresh hcl he).1
  have e3 : updO (fun i => lok i d.it) (tkC cl d.pg : Int) (some o) = fun j => lok j (d.it ++ [((tkC cl d.pg : Int), o)]) := by
    funext j
    rw [lok_snoc hf]
    unfold updO
    split <;> rfl
  rw [e3, show d.it.length + 1 = (d.it ++ [((tkC cl d.pg : Int), o)]).length by simp] at m
  refine ⟨⟨b, m, fun key => ?_, ?_⟩, hI.add hcl he hk hok⟩
  · show fnd key b.tb.all = kfd key (d.it ++ [((tkC cl d.pg : Int), o)])
    rw [hb, hg.fnd_setT, kfd_snoc hk, t1]
  · show b.tb.all.length = (d.it ++ [((tkC cl d.pg : Int), o)]).length
    rw [hb, hg.len_setT, hg.isNew_iff, t1, kfd_none.2 hk]
    simp [t2]
theorem GR.len' {α : Type} {K : Kd α} {B n vc : Nat} {va : Option Addr} {xs : List α} (h : GR K B (.slice va n vc) xs W) : n = xs.length := by
  obtain ⟨a, q, e⟩ := h.slice
  simp only [Value.slice.injEq] at e
  exact e.2.1
def PutQ (w0 : World) (c : Nat) (o : Ou) (d : Dm) (W : World) (e : Ending) (W' : World) : Prop := ∃ va n vc, e = .returned (.tuple #[.slice va n vc, .int .i64 0]) ∧ n = (putG (kls o.x) o d).length ∧ DL w0 c (putD (kls o.x) o d) W' ∧ GR ouK W.heap.size (.slice va n vc) (putG (kls o.x) o d) W' ∧ OffD W W'
/-- The worlds of Put's map region. -/
def CY (P Q : World → Prop) (n : Nat) (W : World) : Prop := match n with
  | 0 => P W
  | 1 => P W
  | _ => Q W
def MapQ (A : World) (m n : Nat) (M : Int → Option Ou) (W : World) : Prop := ∃ X, Below A.heap.size A X ∧ MapO W m n M ∧ Keep [m] X W
theorem CY.le {P Q : World → Prop} {s : Nat} {W : World} (h : CY P Q s W) (hs : s ≤ 1) : P W := by
  match s, hs with
  | 0, _ => exact h
  | 1, _ => exact h
def SetQ (w0 : World) (c : Nat) (a : Ad) (key : List UInt8) (v : Int) (pg : List Pg) (sg : Nat → Sgm.St) (n : Nat) (M : Int → Option Ou) (W W' : World) : Prop := ∃ F', ML w0 c (a.tab (a.tb.setT hsh key v) F') pg sg n M W' ∧ OffD W W'
set_option maxHeartbeats 8000000 in
theorem put_ok (h : DL w0 c d W) (o : Ou) (ho : o.x.ok) : Calls Tryd.prog 6 #[.pointer (some ⟨c, 0, none⟩), itV o.x, .bool o.c] W (PutQ w0 c o d W) := by
  obtain ⟨hcl, hcz⟩ := kls_ok ho
  obtain ⟨cl, hclE⟩ : ∃ cl, cl = kls o.x := ⟨_, rfl⟩
  have hmb := mayBe_ok ho
  have hkl : o.x.k.length ≤ 250 := ho.2.1
  have hvl : o.x.v.length ≤ 1024 := ho.2.2.1
  have hve : ((o.x.ve.toNat : Nat) : Int) = o.x.ve := by have := ho.2.2.2.2.2; omega
  obtain ⟨kb, hkb⟩ : ∃ kb, kb = txt o.x.k := ⟨_, rfl⟩
  obtain ⟨vb, hvb⟩ : ∃ vb, vb = txt o.x.v := ⟨_, rfl⟩
  have hks : kb.size = o.x.k.length := by rw [hkb]; exact txt_sz _
  have hvs : vb.size = o.x.v.length := by rw [hvb]; exact txt_sz _
  have cG : Hid (∀ w, Calls Tryd.prog 19 #[.agg #[.string kb, .string vb, .int .u32 o.x.fl, .int .i64 o.x.ex, .int .u64 o.x.ve]] w fun r w' => r = .returned (.bool true) ∧ Below w.heap.size w w') := fun w => by
    have := good_any kb vb o.x.fl o.x.ex o.x.ve.toNat w
    rw [hks, hvs, hmb, hve] at this
    exact this
  have cZ : Hid (∀ w, Calls Tryd.prog 21 #[.agg #[.string kb, .string vb, .int .u32 o.x.fl, .int .i64 o.x.ex, .int .u64 o.x.ve]] w fun r w' => r = .returned (.int .i64 ((32 + kb.size + vb.size : Nat) : Int)) ∧ Below w.heap.size w w') := fun w => size_any kb vb o.x.fl o.x.ex o.x.ve (by omega) (by omega) w
  have cC : Hid (∀ w, Calls Tryd.prog 20 #[.int .i64 ((32 + kb.size + vb.size : Nat) : Int)] w fun r w' => r = .returned (.int .i64 (cl : Int)) ∧ w' = w) := fun w => by
    have := Slb.class_any ((32 + kb.size + vb.size : Nat) : Int) w
    rw [hks, hvs, hcz, ← hclE] at this
    rw [hks, hvs]
    exact this
  have cO : Hid (∀ w, Calls Tryd.prog 23 #[.agg #[.string kb, .string vb, .int .u32 o.x.fl, .int .i64 o.x.ex, .int .u64 o.x.ve]] w fun r w' => r = .returned (.agg #[.string kb, .string vb, .int .u32 o.x.fl, .int .i64 o.x.ex, .int .u64 o.x.ve]) ∧ Below w.heap.size w w') := fun w => owned_any kb vb o.x.fl o.x.ex o.x.ve (by omega) (by omega) w
  generalize ((32 + kb.size + vb.size : Nat) : Int) = sz at cZ cC
  obtain ⟨W0, hW0⟩ : ∃ W0, W0 = W.alloc (.cells #[.string kb, .string vb, .int .u32 o.x.fl, .int .i64 o.x.ex, .int .u64 o.x.ve] 33) := ⟨_, rfl⟩
  obtain ⟨B, hB⟩ : ∃ B, B = W.heap.size := ⟨_, rfl⟩
  have b0 : Below W.heap.size W W0 := by rw [hW0]; exact (Below.refl _ W).alloc (Nat.le_refl _) _
  have k0 : Blk W0 B (L5 kb vb o.x.fl o.x.ex o.x.ve) 33 := by rw [hW0, hB]; exact Blk.new W _ 33
  have HLB : Hid (w0.heap.size ≤ B ∧ W.heap.size ≤ B) := by rw [hB]; exact ⟨h.bel.size, Nat.le_refl _⟩
  have HH := hide (h.on b0)
  have HO := hide (OffD.below b0)
  have HK := hide k0
  have HB := hide hB
  have HW0 := hide hW0
  have HKB := hide hkb
  have HVB := hide hvb
  have HV0 := hide h.iv
  have HOK := hide ho
  have HCE := hide hclE
  have HCL : Hid (cl < 6) := by show cl < 6; rw [hclE]; exact hcl
  have HSZ : Hid (o.x.k.length ≤ 281474976710656) := by show _ ≤ _; omega
  have hc6 : (cl : Int) < 6 := by have := HCL.out; omega
  unfold itV
  rw [← hkb, ← hvb]
  clear h hcl hcz hclE hmb hkl hvl hve hkb hvb hks hvs b0 k0 hB hW0 ho
  go_enter Tryd.func6, Tryd.ntmps6
  go_wp2_with fail
  refine (cG.out _).mono ?_
  rintro e1 W1 ⟨rfl, b1⟩
  rw [← HW0.out] at b1
  rw [← HB.out]
  have H1 := hide (HH.out.on b1)
  have O1 := hide (HO.out.trans (OffD.below b1))
  have K1 := hide (HK.out.same (b1.block _ HK.out.lt))
  have cD := hide (delete_d H1.out HSZ.out)
  rw [← HKB.out] at cD
  have x0 := (cells5 K1.out).1
  clear cG b1 HH HO HK HW0
  go_wp2_with fail
  refine cD.out.mono ?_
  rintro e2 W2 ⟨rfl, d2, o2⟩
  have HD2 := hide d2
  have O2 := hide (O1.out.trans o2)
  have K2 := hide (K1.out.offD o2 rfl)
  clear cD d2 o2 H1 O1 K1 x0
  obtain ⟨x0, x1, x2, x3, x4, -⟩ := cells5 K2.out
  go_wp2_with fail
  refine (cZ.out _).mono ?_
  rintro e3 W3 ⟨rfl, b3⟩
  have HD3 := hide (HD2.out.on b3)
  have O3 := hide (O2.out.trans (OffD.below b3))
  have K3 := hide (K2.out.same (b3.block _ K2.out.lt))
  clear x0 x1 x2 x3 x4 b3 cZ HD2 O2 K2
  go_wp2_with fail
  refine (cC.out _).mono ?_
  rintro e4 wx ⟨rfl, hx⟩
  obtain rfl : W3 = wx := hx.symm
  clear hx cC
  have cR := hide (room_d HD3.out HCL.out)
  have HV := hide HD3.out.iv
  go_wp2_with fail
  refine cR.out.mono ?_
  rintro e5 W4 ⟨va, n, vc, rfl, ⟨a, m4, t1, t2⟩, g4, o4⟩
  have O4 := hide (O3.out.trans o4)
  have K4 := hide (K3.out.offD o4 rfl)
  have HG4 := hide (g4.base O3.out.1)
  obtain ⟨r1, r2, r3, r4⟩ := room_iv HCL.out _ _ (Nat.le_refl _) HV.out
  have hdel := HD3.out
  have HT := hide (And.intro t1 t2)
  have HR := hide (And.intro r1 r2)
  have HNK : Hid (o.x.k ∉ kys (room cl (delD o.x.k d)).1.it) := fun hm => (HV0.out.del o.x.k).2.1 ((r4.map _).subset hm)
  have HGD : Hid (Tab.Good hsh a.tb) := m4.mx.tm.good
  have hfr := r1.fresh HCL.out r2
  have hlen : (room cl (delD o.x.k d)).1.it.length ≤ 65536 := Nat.le_trans r4.length_le HD3.out.few
  have hsl : ((room cl (delD o.x.k d)).1.sg cl).all.length < 100000 := by
    have h3 : (ids ((room cl (delD o.x.k d)).1.sg cl).all).length ≤ (nums (room cl (delD o.x.k d)).1.it).length := nd_len (r1.snd cl HCL.out) (fun i hi => ((r1.seg cl HCL.out i).1 hi).1)
    simp only [ids, nums, List.length_map] at h3
    omega
  have HPQ : Hid (putG cl o d = (room cl (delD o.x.k d)).2 ∧ putD cl o d = addD cl o (room cl (delD o.x.k d)).1) := ⟨rfl, rfl⟩
  generalize (room cl (delD o.x.k d)).2 = gn at *
  obtain ⟨R, hR⟩ : ∃ R, R = (room cl (delD o.x.k d)).1 := ⟨_, rfl⟩
  simp only [← hR] at *
  have HRE := hide hR
  clear hR
  obtain ⟨tc, htc⟩ : ∃ tc, tc = tkC cl R.pg := ⟨_, rfl⟩
  rw [← htc] at hfr ⊢
  have h64 : I64 (tc : Int) := by unfold Sgg.I64; have := hfr.2.2; omega
  have HTC := hide htc
  have HFR := hide hfr
  have H64 := hide h64
  have HLN := hide hlen
  have HSL := hide hsl
  obtain ⟨A, hA⟩ : ∃ A, A = { W4 with drawn := W4.drawn + 1 } := ⟨_, rfl⟩
  have mA : ML w0 c a (tkL cl R.pg) R.sg R.it.length (fun i => lok i R.it) A := by rw [hA]; exact m4.drewN 1
  have kA : Blk A B (L5 kb vb o.x.fl o.x.ex o.x.ve) 33 := by rw [hA]; exact K4.out
  have HP3 : Hid (∀ w', Below A.heap.size A w' → w'.cell? ⟨c, 3, none⟩ = some (.map (some a.m))) := fun w' b => (mA.on b).c3
  have HPB : Hid (∀ w', Below A.heap.size A w' → Blk w' B (L5 kb vb o.x.fl o.x.ex o.x.ve) 33) := fun w' b => kA.same (b.block _ kA.lt)
  have HST : Hid (∀ w', Below A.heap.size A w' → ∃ X, (Instr.mapUpdate 53 (.map (some a.m)) (.int .i64 (tc : Int)) (ouV o)).run Tryd.prog w' = .ok () X ∧ MapQ A a.m (R.it.length + 1) (updO (fun i => lok i R.it) (tc : Int) (some o)) X) := fun w' b => by
    obtain ⟨X, hrun, hm, k, _⟩ := (mA.on b).mx.mp.store H64.out (lok_none.2 HFR.out.1) (by have := HLN.out; omega) o
    exact ⟨X, hrun, w', b, hm, k⟩
  unfold ouV at HST
  rw [← HKB.out, ← HVB.out] at HST
  have HCO : Hid (∀ w', Below A.heap.size A w' → Calls Tryd.prog 23 #[.agg #[.string kb, .string vb, .int .u32 o.x.fl, .int .i64 o.x.ex, .int .u64 o.x.ve]] w' fun r w2 => r = .returned (.agg #[.string kb, .string vb, .int .u32 o.x.fl, .int .i64 o.x.ex, .int .u64 o.x.ve]) ∧ Below A.heap.size A w2) := fun w' b => (cO.out w').mono (by
    rintro e w2 ⟨rfl, b2⟩
    exact ⟨rfl, b.trans (b2.mono b.size)⟩)
  have HA : Hid (CY (Below A.heap.size A) (MapQ A a.m (R.it.length + 1) (updO (fun i => lok i R.it) (tc : Int) (some o))) 0 { W4 with drawn := W4.drawn + 1 }) := by
    rw [← hA]
    exact Below.refl _ _
  have HMA := hide mA
  have HOA : Hid (OffD W A) := by rw [hA]; exact O4.out
  have HGA : Hid (GR ouK W.heap.size (.slice va n vc) gn A) := by rw [hA]; exact HG4.out.heap rfl
  have HKA := hide kA
  obtain ⟨tv, htv⟩ : ∃ tv, tv = txt o.x.v := ⟨_, rfl⟩
  clear cR m4 t1 t2 g4 o4 O4 K4 HG4 r1 r2 r3 r4 hdel hfr hlen hsl h64 htc mA kA hA HD3 O3 K3 HV cO htv tv
  obtain ⟨MU, hMU⟩ : ∃ MU, MU = updO (fun i => lok i R.it) (tc : Int) (some o) := ⟨_, rfl⟩
  rw [← hMU] at HST HA
  have HMU := hide hMU
  clear hMU
  go_wp2
  refine wp_region_chain (by kernel_rfl) (by kernel_rfl) (fun jx => ([.pointer (some ⟨c, 0, none⟩), .pointer (some ⟨c, 0, none⟩), .pointer (some ⟨c, 3, none⟩), .map (some a.m), .int .i64 (tc : Int), .agg #[.string kb, .string vb, .int .u32 o.x.fl, .int .i64 o.x.ex, .int .u64 o.x.ve], .agg #[.string kb, .string vb, .int .u32 o.x.fl, .int .i64 o.x.ex, .int .u64 o.x.ve], .bool o.c, .agg #[.string kb, .string vb, .int .u32 o.x.fl, .int .i64 o.x.ex, .int .u64 o.x.ve, .bool o.c], undef] : List Value).getD jx undef) [6, 9] (by kernel_rfl) (CY (Below A.heap.size A) (MapQ A a.m (R.it.length + 1) MU)) (HA.out) ?_ ?_
  · intro jx ox hi sx w' ev hlm hks hc hin hout hcst hfn
    have hltx : jx < 10 := by
      have := (Array.getElem?_eq_some_iff.1 hi).1
      simpa using this
    match jx, hltx with
    | 0, _ =>
      simp only [List.getElem?_toArray, List.getElem?_cons_zero, List.getElem?_cons_succ, Option.some.injEq] at hi
      subst hi
      have e0 : ev (.tmp 0) = .pointer (some ⟨c, 0, none⟩) := hout 0 (by kernel_rfl) (show (0 : Nat) < 54 by decide)
      rw [if_neg (by decide)]
      refine .inl ⟨w', ?_, hc⟩
      show _ = Result.ok (Next.value (.pointer (some ⟨c, 0, none⟩))) w'
      simp [execOp, e0, hcst, go_sem]
    | 1, _ =>
      simp only [List.getElem?_toArray, List.getElem?_cons_zero, List.getElem?_cons_succ, Option.some.injEq] at hi
      subst hi
      have e0 : ev (.tmp 27) = .pointer (some ⟨c, 0, none⟩) := hin 27 0 ⟨0, .data⟩ (by kernel_rfl) (by simp) rfl rfl (show (27 : Nat) < 54 by decide)
      rw [if_neg (by decide)]
      refine .inl ⟨w', ?_, hc⟩
      show _ = Result.ok (Next.value (.pointer (some ⟨c, 0, none⟩))) w'
      simp [execOp, e0, hcst, go_sem]
    | 2, _ =>
      simp only [List.getElem?_toArray, List.getElem?_cons_zero, List.getElem?_cons_succ, Option.some.injEq] at hi
      subst hi
      have e0 : ev (.tmp 28) = .pointer (some ⟨c, 0, none⟩) := hin 28 1 ⟨1, .data⟩ (by kernel_rfl) (by simp) rfl rfl (show (28 : Nat) < 54 by decide)
      rw [if_neg (by decide)]
      refine .inl ⟨w', ?_, hc⟩
      show _ = Result.ok (Next.value (.pointer (some ⟨c, 3, none⟩))) w'
      simp [execOp, e0, hcst, go_sem]
    | 3, _ =>
      simp only [List.getElem?_toArray, List.getElem?_cons_zero, List.getElem?_cons_succ, Option.some.injEq] at hi
      subst hi
      have e0 : ev (.tmp 29) = .pointer (some ⟨c, 3, none⟩) := hin 29 2 ⟨2, .data⟩ (by kernel_rfl) (by simp) rfl rfl (show (29 : Nat) < 54 by decide)
      rw [if_neg (by decide)]
      refine .inl ⟨w', ?_, hc⟩
      show _ = Result.ok (Next.value (.map (some a.m))) w'
      have hl2 : sx ≤ 1 := Nat.le_trans hlm (Nat.le_of_eq (by kernel_rfl))
      have q := HP3.out w' (CY.le hc (by omega))
      simp [execOp, e0, hcst, go_sem, q]
    | 4, _ =>
      simp only [List.getElem?_toArray, List.getElem?_cons_zero, List.getElem?_cons_succ, Option.some.injEq] at hi
      subst hi
      have e0 : ev (.tmp 9) = .int .i64 (tc : Int) := hout 9 (by kernel_rfl) (show (9 : Nat) < 54 by decide)
      rw [if_neg (by decide)]
      refine .inl ⟨w', ?_, hc⟩
      show _ = Result.ok (Next.value (.int .i64 (tc : Int))) w'
      simp [execOp, e0, hcst, go_sem]
    | 5, _ =>
      simp only [List.getElem?_toArray, List.getElem?_cons_zero, List.getElem?_cons_succ, Option.some.injEq] at hi
      subst hi
      have e0 : ev (.tmp 4) = .pointer (some ⟨B, 0, none⟩) := hout 4 (by kernel_rfl) (show (4 : Nat) < 54 by decide)
      rw [if_neg (by decide)]
      refine .inl ⟨w', ?_, hc⟩
      show _ = Result.ok (Next.value (.agg #[.string kb, .string vb, .int .u32 o.x.fl, .int .i64 o.x.ex, .int .u64 o.x.ve])) w'
      have hl2 : sx ≤ 0 := Nat.le_trans hlm (Nat.le_of_eq (by kernel_rfl))
      obtain ⟨p0, p1, p2, p3, p4, -⟩ := cells5 (HPB.out w' (CY.le hc (by omega)))
      simp [execOp, e0, hcst, go_sem, p0, p1, p2, p3, p4]
    | 6, _ =>
      simp only [List.getElem?_toArray, List.getElem?_cons_zero, List.getElem?_cons_succ, Option.some.injEq] at hi
      subst hi
      have e0 : ev (.tmp 32) = .agg #[.string kb, .string vb, .int .u32 o.x.fl, .int .i64 o.x.ex, .int .u64 o.x.ve] := hin 32 5 ⟨5, .data⟩ (by kernel_rfl) (by simp) rfl rfl (show (32 : Nat) < 54 by decide)
      rw [if_pos (by decide)]
      have hsx : sx = 0 := hks 0 rfl
      subst hsx
      refine .inr (.inr ⟨23, #[.agg #[.string kb, .string vb, .int .u32 o.x.fl, .int .i64 o.x.ex, .int .u64 o.x.ve]], ?_, ?_⟩)
      · have ef := hfn 23
        simp [execOp, resolve, invoke, ef, hcst, e0, Result.andThen]
        exact enter28 _ _
      · refine (HCO.out w' hc).mono ?_
        rintro e w9 ⟨rfl, b9⟩
        exact ⟨rfl, b9⟩
    | 7, _ =>
      simp only [List.getElem?_toArray, List.getElem?_cons_zero, List.getElem?_cons_succ, Option.some.injEq] at hi
      subst hi
      have e0 : ev (.tmp 2) = .bool o.c := hout 2 (by kernel_rfl) (show (2 : Nat) < 54 by decide)
      rw [if_neg (by decide)]
      refine .inl ⟨w', ?_, hc⟩
      show _ = Result.ok (Next.value (.bool o.c)) w'
      simp [execOp, e0, hcst, go_sem]
    | 8, _ =>
      simp only [List.getElem?_toArray, List.getElem?_cons_zero, List.getElem?_cons_succ, Option.some.injEq] at hi
      subst hi
      have e0 : ev (.tmp 33) = .agg #[.string kb, .string vb, .int .u32 o.x.fl, .int .i64 o.x.ex, .int .u64 o.x.ve] := hin 33 6 ⟨6, .data⟩ (by kernel_rfl) (by simp) rfl rfl (show (33 : Nat) < 54 by decide)
      have e1 : ev (.tmp 34) = .bool o.c := hin 34 7 ⟨7, .data⟩ (by kernel_rfl) (by simp) rfl rfl (show (34 : Nat) < 54 by decide)
      rw [if_neg (by decide)]
      refine .inl ⟨w', ?_, hc⟩
      show _ = Result.ok (Next.value (.agg #[.string kb, .string vb, .int .u32 o.x.fl, .int .i64 o.x.ex, .int .u64 o.x.ve, .bool o.c])) w'
      simp [execOp, e0, e1, hcst, go_sem]
    | 9, _ =>
      simp only [List.getElem?_toArray, List.getElem?_cons_zero, List.getElem?_cons_succ, Option.some.injEq] at hi
      subst hi
      have e0 : ev (.tmp 30) = .map (some a.m) := hin 30 3 ⟨3, .data⟩ (by kernel_rfl) (by simp) rfl rfl (show (30 : Nat) < 54 by decide)
      have e1 : ev (.tmp 31) = .int .i64 (tc : Int) := hin 31 4 ⟨4, .data⟩ (by kernel_rfl) (by simp) rfl rfl (show (31 : Nat) < 54 by decide)
      have e2 : ev (.tmp 35) = .agg #[.string kb, .string vb, .int .u32 o.x.fl, .int .i64 o.x.ex, .int .u64 o.x.ve, .bool o.c] := hin 35 8 ⟨8, .data⟩ (by kernel_rfl) (by simp) rfl rfl (show (35 : Nat) < 54 by decide)
      rw [if_pos (by decide)]
      have hsx : sx = 1 := hks 1 rfl
      subst hsx
      obtain ⟨X, hrun, hq⟩ := HST.out w' hc
      refine .inr (.inl ⟨rfl, X, ?_, hq⟩)
      simp [execOp, e0, e1, e2, hcst, hrun, Result.andThen]
  · intro w9 hc
    simp only [lexF, Act.put, List.setIfInBounds_toArray, List.set_cons_succ, List.set_cons_zero, List.getD_cons_succ, List.getD_cons_zero]
    obtain ⟨X, bX, hm5, k5⟩ : MapQ A a.m (R.it.length + 1) MU w9 := hc
    obtain ⟨m5, o5⟩ := (HMA.out.on bX).map hm5 k5
    have O5 := hide ((HOA.out.trans (OffD.below bX)).trans o5)
    have K5 := hide ((HKA.out.same (bX.block _ HKA.out.lt)).offD o5 rfl)
    have G5 := hide ((HGA.out.below bX).offD o5 rfl)
    have HM5 := hide m5
    have q1 := hide m5.c1
    have q5 := hide (cells5 K5.out).1
    have m6 : ML w0 c a (tkL cl R.pg) R.sg (R.it.length + 1) MU { w9 with drawn := w9.drawn + 1 } := m5.drewN 1
    have HS : Hid (Calls Tryd.prog 24 #[.pointer (some ⟨a.t, 0, none⟩), .string kb, .int .i64 (tc : Int)] { w9 with drawn := w9.drawn + 1 } fun e W' => e = .returned (.bool (a.tb.isNew hsh o.x.k)) ∧ SetQ w0 c a o.x.k (tc : Int) (tkL cl R.pg) R.sg (R.it.length + 1) MU { w9 with drawn := w9.drawn + 1 } W') := by
      rw [HKB.out]
      exact tset_p m6 HSZ.out _ (by rw [HT.out.2]; have := HLN.out; omega)
    have HA2 : Hid (CX { w9 with drawn := w9.drawn + 1 } (SetQ w0 c a o.x.k (tc : Int) (tkL cl R.pg) R.sg (R.it.length + 1) MU { w9 with drawn := w9.drawn + 1 }) 0 { w9 with drawn := w9.drawn + 1 }) := rfl
    clear m5 o5 m6 hm5 k5 bX HA HMA HOA HGA HKA HCO HST HPB HP3
    go_wp2
    refine wp_region_chain (by kernel_rfl) (by kernel_rfl) (fun jx => ([.pointer (some ⟨c, 0, none⟩), .pointer (some ⟨c, 0, none⟩), .pointer (some ⟨c, 1, none⟩), .pointer (some ⟨a.t, 0, none⟩), .pointer (some ⟨B, 0, none⟩), .string kb, .int .i64 (tc : Int), .bool (a.tb.isNew hsh o.x.k)] : List Value).getD jx undef) [7] (by kernel_rfl) (CX { w9 with drawn := w9.drawn + 1 } (SetQ w0 c a o.x.k (tc : Int) (tkL cl R.pg) R.sg (R.it.length + 1) MU { w9 with drawn := w9.drawn + 1 })) (HA2.out) ?_ ?_
    · intro jx ox hi sx w' ev hlm hks hc hin hout hcst hfn
      have hltx : jx < 8 := by
        have := (Array.getElem?_eq_some_iff.1 hi).1
        simpa using this
      match jx, hltx with
      | 0, _ =>
        simp only [List.getElem?_toArray, List.getElem?_cons_zero, List.getElem?_cons_succ, Option.some.injEq] at hi
        subst hi
        have e0 : ev (.tmp 0) = .pointer (some ⟨c, 0, none⟩) := hout 0 (by kernel_rfl) (show (0 : Nat) < 54 by decide)
        rw [if_neg (by decide)]
        refine .inl ⟨w', ?_, hc⟩
        show _ = Result.ok (Next.value (.pointer (some ⟨c, 0, none⟩))) w'
        simp [execOp, e0, hcst, go_sem]
      | 1, _ =>
        simp only [List.getElem?_toArray, List.getElem?_cons_zero, List.getElem?_cons_succ, Option.some.injEq] at hi
        subst hi
        have e0 : ev (.tmp 36) = .pointer (some ⟨c, 0, none⟩) := hin 36 0 ⟨0, .data⟩ (by kernel_rfl) (by simp) rfl rfl (show (36 : Nat) < 54 by decide)
        rw [if_neg (by decide)]
        refine .inl ⟨w', ?_, hc⟩
        show _ = Result.ok (Next.value (.pointer (some ⟨c, 0, none⟩))) w'
        simp [execOp, e0, hcst, go_sem]
      | 2, _ =>
        simp only [List.getElem?_toArray, List.getElem?_cons_zero, List.getElem?_cons_succ, Option.some.injEq] at hi
        subst hi
        have e0 : ev (.tmp 37) = .pointer (some ⟨c, 0, none⟩) := hin 37 1 ⟨1, .data⟩ (by kernel_rfl) (by simp) rfl rfl (show (37 : Nat) < 54 by decide)
        rw [if_neg (by decide)]
        refine .inl ⟨w', ?_, hc⟩
        show _ = Result.ok (Next.value (.pointer (some ⟨c, 1, none⟩))) w'
        simp [execOp, e0, hcst, go_sem]
      | 3, _ =>
        simp only [List.getElem?_toArray, List.getElem?_cons_zero, List.getElem?_cons_succ, Option.some.injEq] at hi
        subst hi
        have e0 : ev (.tmp 38) = .pointer (some ⟨c, 1, none⟩) := hin 38 2 ⟨2, .data⟩ (by kernel_rfl) (by simp) rfl rfl (show (38 : Nat) < 54 by decide)
        rw [if_neg (by decide)]
        refine .inl ⟨w', ?_, hc⟩
        show _ = Result.ok (Next.value (.pointer (some ⟨a.t, 0, none⟩))) w'
        have hl2 : sx ≤ 0 := Nat.le_trans hlm (Nat.le_of_eq (by kernel_rfl))
        obtain rfl : sx = 0 := by omega
        have hw : w' = { w9 with drawn := w9.drawn + 1 } := hc
        have q := q1.out
        subst hw
        simp [execOp, e0, hcst, go_sem, q]
      | 4, _ =>
        simp only [List.getElem?_toArray, List.getElem?_cons_zero, List.getElem?_cons_succ, Option.some.injEq] at hi
        subst hi
        have e0 : ev (.tmp 4) = .pointer (some ⟨B, 0, none⟩) := hout 4 (by kernel_rfl) (show (4 : Nat) < 54 by decide)
        rw [if_neg (by decide)]
        refine .inl ⟨w', ?_, hc⟩
        show _ = Result.ok (Next.value (.pointer (some ⟨B, 0, none⟩))) w'
        simp [execOp, e0, hcst, go_sem]
      | 5, _ =>
        simp only [List.getElem?_toArray, List.getElem?_cons_zero, List.getElem?_cons_succ, Option.some.injEq] at hi
        subst hi
        have e0 : ev (.tmp 40) = .pointer (some ⟨B, 0, none⟩) := hin 40 4 ⟨4, .data⟩ (by kernel_rfl) (by simp) rfl rfl (show (40 : Nat) < 54 by decide)
        rw [if_neg (by decide)]
        refine .inl ⟨w', ?_, hc⟩
        show _ = Result.ok (Next.value (.string kb)) w'
        have hl2 : sx ≤ 0 := Nat.le_trans hlm (Nat.le_of_eq (by kernel_rfl))
        obtain rfl : sx = 0 := by omega
        have hw : w' = { w9 with drawn := w9.drawn + 1 } := hc
        have q := q5.out
        subst hw
        simp [execOp, e0, hcst, go_sem, q]
      | 6, _ =>
        simp only [List.getElem?_toArray, List.getElem?_cons_zero, List.getElem?_cons_succ, Option.some.injEq] at hi
        subst hi
        have e0 : ev (.tmp 9) = .int .i64 (tc : Int) := hout 9 (by kernel_rfl) (show (9 : Nat) < 54 by decide)
        rw [if_neg (by decide)]
        refine .inl ⟨w', ?_, hc⟩
        show _ = Result.ok (Next.value (.int .i64 (tc : Int))) w'
        simp [execOp, e0, hcst, go_sem]
      | 7, _ =>
        simp only [List.getElem?_toArray, List.getElem?_cons_zero, List.getElem?_cons_succ, Option.some.injEq] at hi
        subst hi
        have e0 : ev (.tmp 39) = .pointer (some ⟨a.t, 0, none⟩) := hin 39 3 ⟨3, .data⟩ (by kernel_rfl) (by simp) rfl rfl (show (39 : Nat) < 54 by decide)
        have e1 : ev (.tmp 41) = .string kb := hin 41 5 ⟨5, .data⟩ (by kernel_rfl) (by simp) rfl rfl (show (41 : Nat) < 54 by decide)
        have e2 : ev (.tmp 42) = .int .i64 (tc : Int) := hin 42 6 ⟨6, .data⟩ (by kernel_rfl) (by simp) rfl rfl (show (42 : Nat) < 54 by decide)
        rw [if_pos (by decide)]
        have hsx : sx = 0 := hks 0 rfl
        subst hsx
        refine .inr (.inr ⟨24, #[.pointer (some ⟨a.t, 0, none⟩), .string kb, .int .i64 (tc : Int)], ?_, ?_⟩)
        · have ef := hfn 24
          simp [execOp, resolve, invoke, ef, hcst, e0, e1, e2, Result.andThen]
          exact enter29 _ _
        · have hw : w' = { w9 with drawn := w9.drawn + 1 } := hc
          subst hw
          refine HS.out.mono ?_
          rintro e w10 ⟨rfl, b9⟩
          exact ⟨rfl, b9⟩
    · intro w10 hc
      simp only [lexF, Act.put, List.setIfInBounds_toArray, List.set_cons_succ, List.set_cons_zero, List.getD_cons_succ, List.getD_cons_zero]
      obtain ⟨F', m7, o7⟩ : SetQ w0 c a o.x.k (tc : Int) (tkL cl R.pg) R.sg (R.it.length + 1) MU { w9 with drawn := w9.drawn + 1 } w10 := hc
      have O7 := hide (O5.out.trans (show OffD w9 w10 from o7))
      have G7 := hide (G5.out.offD (show OffD w9 w10 from o7) rfl)
      have c2 := m7.c2
      have rc := m7.r HCL.out
      have cA := hide (sadd_p HCL.out m7 H64.out HSL.out)
      have HAD : Hid (∀ F2 W8, ML w0 c ((a.tab (a.tb.setT hsh o.x.k (tc : Int)) F').seg cl F2) (tkL cl R.pg) (updS R.sg cl (addS (tc : Int) (R.sg cl))) (R.it.length + 1) MU W8 → DL w0 c (addD cl o R) W8) := fun F2 W8 m8 => by
        rw [HMU.out, HTC.out] at m8
        exact DL.add (a := a) HR.out.1 HCL.out HR.out.2 HNK.out HOK.out HGD.out HT.out.1 HT.out.2 (b := (a.tab (a.tb.setT hsh o.x.k (tkC cl R.pg : Int)) F').seg cl F2) rfl m8
      simp only [Ad.tab] at c2 rc cA
      clear m7 o7 O5 G5 K5 HM5 q1 q5 HS HA2
      go_wp2_with fail
      refine cA.out.mono ?_
      rintro e8 W8 ⟨rfl, F2, m8, o8⟩
      have HE : Hid (PutQ w0 c o d W (.returned (.tuple #[.slice va n vc, .int .i64 0])) W8) := by
        obtain ⟨e1, e2⟩ := HPQ.out
        refine ⟨va, n, vc, rfl, ?_, ?_, ?_, O7.out.trans o8⟩
        · rw [← HCE.out, e1]
          exact (GR.len' G7.out)
        · rw [← HCE.out, e2]
          exact HAD.out F2 W8 m8
        · rw [← HCE.out, e1]
          exact G7.out.offD o8 rfl
      clear cA m8 o8 HAD G7 O7 c2 rc
      go_wp2
      exact bodyPost_ret (v := .tuple #[.slice va n vc, .int .i64 0]) (by simp [results, Tryd.results6, go_sem]) rfl HE.out
end
end Go.Proofs.YtdkiegkgnimapabDoor
