/- 'awake'. -/
import Derived.Test.YtbjkahdlejaheabAw9
set_option linter.unusedVariables false
set_option linter.unusedSimpArgs false
set_option maxRecDepth 8000
namespace Go.Proofs.Ytbjkahdlejaheab
open Go.RowKit Go.Deep Math
theorem enter22 (args : Array Value) (w : World) : (callFunc 21 args).run Try.prog w = .ok (.enter 21 args) w := enters_of Try.func21 (by kernel_rfl) rfl args w
theorem enter24 (args : Array Value) (w : World) : (callFunc 24 args).run Try.prog w = .ok (.enter 24 args) w := enters_of Try.func24 (by kernel_rfl) rfl args w
/-- A variable of the law's: an item in a box, apart from a device and a log's map. -/
theorem box_dev {W W' : World} {X d : Nat} {F : List Nat} {S : Dv} {L : List Value} (h : Blk W X L 36) (hd : DvAt W d F S) (k : Keep F W W') : Blk W' X L 36 := h.same (k.block X h.lt (fun hf => by
  obtain ⟨c, e, h1, h2⟩ := hd.kinds X hf
  exact ty_ne h h1 (by rcases h2 with rfl | rfl | rfl <;> decide) rfl))
theorem on_calm {S : Dv} (h : ∀ c ∈ S.cs, c.last = none) : S.on.cs = S.cs ∧ Calm S.on := ⟨by show settle S.cs [] = _; exact settle_still _ _ h, rfl, rfl⟩
theorem region_one (x : It) (hf : x.fits) (hg : x.good = true) : cnts (put4 (Dv.fresh 8).cs 4 1 x.enc) 0 2 = [(1, 1, [x])] ∧ numTo (put4 (Dv.fresh 8).cs 4 1 x.enc) 0 2 = 1 := by
  have gs := good_sizes hg
  have hl : x.enc.length ≤ 1472 := by rw [x.enc_length]; unfold It.size; omega
  have h0 : forms (put4 (Dv.fresh 8).cs 4 1 x.enc) 0 4 = [] := forms_none 4 (fun j hj => by rw [fm_out (.inl (by omega))]; exact fresh_fm 8 _)
  have hx : lst x.enc = some [x] := by
    have := lst_one [x] (fun y hy => by simp at hy; rw [hy]; exact ⟨hf, hg⟩)
    simpa [encs] using this
  have h1 := cnt_written (cs := put4 (Dv.fresh 8).cs 4 1 x.enc) (base := 4) (n := 1) (by decide) (by decide) hl hx (fun k hk => ⟨none, put4_in _ _ _ _ (by decide) k hk⟩)
  refine ⟨?_, ?_⟩
  · show (([] ++ _) ++ _ : List _) = _
    rw [show cnt (put4 (Dv.fresh 8).cs 4 1 x.enc) (0 + 4 * 0) = none from cnt_none h0, show cnt (put4 (Dv.fresh 8).cs 4 1 x.enc) (0 + 4 * 1) = some (1, [x]) from h1.1]
    rfl
  · show maxNum (maxNum 0 (forms _ 0 4)) (forms _ 4 4) = 1
    rw [h0, h1.2]
    rfl
set_option maxHeartbeats 8000000 in
theorem awake_any (w : World) : Calls Try.prog 7 #[] w fun e w' => e = .returned (.bool true) ∧ Below w.heap.size w w' := by
  have cN := hide (new_law (Below.refl w.heap.size w) 8 (by omega) (by omega))
  go_enter Try.func7, Try.ntmps7
  go_wp2_with fail
  refine cN.out.mono ?_
  rintro e w1 ⟨d, F1, rfl, L1, _⟩
  have hc0 := fresh_cnts 8 0 2
  have cO := hide (open_log sort_one L1.dev rfl 0 2 (by omega) (by omega) (by decide) (by rw [hc0.1]; exact Nat.zero_le _))
  have HL1 := hide L1
  have HC0 := hide hc0
  clear cN L1 hc0
  go_wp2_with fail
  refine cO.out.mono ?_
  rintro e w2 ⟨l, m, v5, T0, S2, rfl, hLg, hS2, hD2, hK2, hlow, hnew, hnod, t1, t2, t3, t4, t5, t6, t7, rs, t8, t9⟩
  have hrs : rs = [] := by
    rw [HC0.out.1] at t8
    exact List.map_eq_nil_iff.1 t8
  have hregs : T0.regs = [] := by rw [t9, hrs]; rfl
  have hnum : T0.num = 0 := by rw [t4, HC0.out.2]
  have hall : T0.all = [] := by unfold Lg.all; rw [hregs, t5]; rfl
  have hcap : T0.cap = 0 := by rw [t6, hall]; rfl
  have hsz1 := HL1.out.bel.size
  have G2 : LG w w2 d F1 S2 l m v5 (.slice none 0 0) (.slice none 0 0) T0 := ⟨hLg, hD2, HL1.out.bel.trans (hK2.below HL1.out.low hsz1), HL1.out.low, fun q hq => Nat.le_trans hsz1 (hlow q hq)⟩
  have hcs2 : S2.cs = (Dv.fresh 8).cs := hS2.cs
  have hcalm2 : Calm S2 := ⟨hS2.armed, hS2.off⟩
  have hlos2 : S2.losses = T0.losses := by rw [t1, hS2.losses]
  have cI1 := hide (it_any ⟨#[97]⟩ 1 w2)
  have HG2 := hide G2
  have ok1 := it9_ok [97] 1 (by decide) (by decide) (by omega) (by omega)
  have ok2 := it9_ok [97] 2 (by decide) (by decide) (by omega) (by omega)
  have HT := hide (And.intro hregs (And.intro hnum (And.intro hcap (And.intro t5 (And.intro t2 (And.intro t3 (And.intro hcs2 (And.intro hcalm2 hlos2))))))))
  have OK1 := hide ok1
  have OK2 := hide ok2
  clear cO hLg hS2 hD2 hK2 hlow hnew hnod t1 t2 t3 t4 t5 t6 t7 t8 t9 hrs hregs hnum hall hcap hsz1 G2 hcs2 hcalm2 hlos2 ok1 ok2 HL1 HC0
  go_wp2_with fail
  refine cI1.out.mono ?_
  rintro e w3 ⟨rfl, b3⟩
  have G3 := HG2.out.below b3
  obtain ⟨r1, r2, r3, r4, r5, r6, r7, r8, r9⟩ := HT.out
  have hcont0 : T0.cont = [] := by unfold Lg.cont; rw [r4]; rfl
  have cP := hide (put_room G3.lg (it9 [97] 1) OK1.out.1 OK1.out.2 (by rw [hcont0]; decide) (by omega) (by rw [r4]; decide))
  have HG3 := hide G3
  have HC0 := hide hcont0
  clear cI1 b3 G3 HG2 r1 r2 r3 r4 r5 r6 r7 r8 r9 hcont0
  go_wp2_with fail
  refine cP.out.mono ?_
  rintro e w4 ⟨rfl, v6, v7, hL4, hK4, h64, h74⟩
  have G4 := HG3.out.put hL4 hK4 h64 h74
  obtain ⟨r1, r2, r3, r4, r5, r6, r7, r8, r9⟩ := HT.out
  obtain ⟨th1, hth1⟩ : ∃ th1 : Th, th1 = ⟨w3.heap.size, 0, it9 [97] 1⟩ := ⟨_, rfl⟩
  rw [← hth1] at G4
  have ho1 : (T0.put th1).opn = [th1] := by show T0.opn ++ [th1] = _; rw [r4]; rfl
  have hc1 : (T0.put th1).cont = (it9 [97] 1).enc := by unfold Lg.cont; rw [ho1, hth1]; simp [encs]
  have hcl1 : (T0.put th1).cont.length = 34 := by rw [hc1, It.enc_length]; rfl
  have hid : idxP 1 (T0.put th1).regs = none := by show idxP 1 T0.regs = none; rw [r1]; rfl
  have cS := hide (seal_log G4.lg G4.dev (by rw [ho1]; simp) r9 (by show T0.num < _; rw [r2]; decide) (by show 1 ≤ T0.regions; rw [r6]; decide) (by show T0.regions ≤ 64; rw [r6]; decide) (by show T0.first ≤ 4096; rw [r5]; decide) (by rw [hcl1]; decide) (by intro h; rw [h] at hcl1; cases hcl1) (by show T0.regs.length ≤ 100; rw [r1]; decide) 1 1 (by show 1 = T0.num + 1; rw [r2]) (by show 1 = 1 % T0.regions; rw [r6])
    (lose_idle G4.lg 1 hid (by show T0.regs.length ≤ 100; rw [r1]; decide)))
  have hbase : (T0.put th1).first + 4 * 1 = 4 := by show T0.first + 4 = 4; rw [r5]
  have hlen8 : S2.cs.length = 8 := by rw [r7]; decide
  have hwr := wr_calm r8 4 1 (by omega) (T0.put th1).cont
  have hlost : (T0.put th1).lost 1 = [] := by unfold Lg.lost; rw [hid]
  have hlose : (T0.put th1).lose 1 = T0.put th1 := by unfold Lg.lose; rw [hid]
  have HG4 := hide G4
  have HTH1 := hide hth1
  have HX := hide (And.intro hbase (And.intro hlen8 (And.intro hwr (And.intro hlost (And.intro hlose (And.intro ho1 hc1))))))
  clear cP hL4 hK4 h64 h74 G4 r1 r2 r3 r4 r5 r6 r7 r8 r9 hth1 ho1 hc1 hcl1 hid hbase hlen8 hwr hlost hlose HG3
  go_wp2_with fail
  refine cS.out.mono ?_
  rintro e w5 ⟨va1, vn1, vc1, v55, F5, hvn1, hrow1, hD5, hK5, hF5, h55, rfl, hend⟩
  obtain ⟨x1, x2, x3, x4, x5, x6, x7⟩ := HX.out
  rw [x1] at hD5 hend ⊢
  rw [x3.1] at hend ⊢
  rcases hend with ⟨h0, _⟩ | ⟨_, hL5⟩
  · exact absurd rfl h0
  have G5 := HG4.out.seal hL5 hD5 hK5 hF5 h55 (fun q hq => by simp [own, Value.ownBlock] at hq) (fun q hq => by simp [own, Value.ownBlock] at hq)
  rw [x5] at G5
  rw [x4] at hvn1
  obtain ⟨S5, hS5⟩ : ∃ S5, S5 = (wrR 4 1 4 S2 (T0.put th1).cont).2 := ⟨_, rfl⟩
  rw [← hS5] at G5 x3
  obtain ⟨T5, hT5⟩ : ∃ T5, T5 = (T0.put th1).sealed v6 1 1 := ⟨_, rfl⟩
  rw [← hT5] at G5
  have ho5 : T5.opn = [] := by rw [hT5]; rfl
  have hc5 : T5.cont = [] := by unfold Lg.cont; rw [ho5]; rfl
  have hcap5 : T5.cap = 1 := by rw [hT5]; show T0.cap + 1 = 1; rw [HT.out.2.2.1]
  have hvn1' : vn1 = 0 := hvn1
  subst hvn1'
  have cI2 := hide (it_any ⟨#[97]⟩ 2 w5)
  have HG5 := hide G5
  have H5 := hide (And.intro x3 (And.intro ho5 (And.intro hc5 hcap5)))
  clear cS hrow1 hD5 hK5 hF5 h55 hL5 x1 x2 x3 x4 x5 x6 x7 G5 hS5 hT5 ho5 hc5 hcap5 hvn1
  go_wp2_with fail
  refine cI2.out.mono ?_
  rintro e w6 ⟨rfl, b6⟩
  have G6 := HG5.out.below b6
  have cP2 := hide (put_room G6.lg (it9 [97] 2) OK2.out.1 OK2.out.2 (by rw [H5.out.2.2.1]; decide) (by rw [H5.out.2.2.2]; decide) (by rw [H5.out.2.1]; decide))
  have HG6 := hide G6
  clear cI2 b6 G6 HG5
  go_wp2_with fail
  refine cP2.out.mono ?_
  rintro e w7 ⟨rfl, v67, v77, hL7, hK7, h67, h77⟩
  have G7 := HG6.out.put hL7 hK7 h67 h77
  obtain ⟨th2, hth2⟩ : ∃ th2 : Th, th2 = ⟨w6.heap.size, 0, it9 [97] 2⟩ := ⟨_, rfl⟩
  rw [← hth2] at G7
  have hth2m : th2 ∈ (T5.put th2).all := List.mem_append.2 (.inr (by show th2 ∈ T5.opn ++ [th2]; simp))
  have hhas2 : (T5.put th2).has [97] = some th2.pos := by show updK T5.has th2.it.key (some th2.pos) [97] = _; rw [hth2]; exact updK_same _ _ _
  have cG := hide (get_some G7.lg [97] (by decide) th2 (G7.lg.ths th2 hth2m) hhas2)
  have ev2 : th2.it.val = .agg #[.string ⟨#[97]⟩, .string ⟨#[118]⟩, .int .u32 0, .int .i64 0, .int .u64 2] := by rw [hth2]; rfl
  rw [ev2] at cG
  have HG7 := hide G7
  have HH2 := hide hhas2
  clear cP2 hL7 hK7 h67 h77 G7 hth2m hhas2 ev2 HG6 hth2
  go_wp2_with fail
  refine cG.out.mono ?_
  rintro e w8 ⟨rfl, b8⟩
  have G8 := HG7.out.below b8
  have G8a := G8.below ((Below.refl _ _).alloc (Nat.le_refl _) (.cells #[.string ⟨#[97]⟩, .string ⟨#[118]⟩, .int .u32 0, .int .i64 0, .int .u64 2] 36))
  have bx1 := Blk.new w8 [.string ⟨#[97]⟩, .string ⟨#[118]⟩, .int .u32 0, .int .i64 0, .int .u64 2] 36
  have cOn := hide (on_at d F5 S5 _ G8a.dev)
  have HG8 := hide G8a
  have BX1 : Hid (Blk (w8.alloc (.cells #[.string ⟨#[97]⟩, .string ⟨#[118]⟩, .int .u32 0, .int .i64 0, .int .u64 2] 36)) w8.heap.size [.string ⟨#[97]⟩, .string ⟨#[118]⟩, .int .u32 0, .int .i64 0, .int .u64 2] 36) := bx1
  clear cG b8 G8 G8a bx1 HG7
  go_wp2_with fail
  refine cOn.out.mono ?_
  rintro e w9 ⟨rfl, F9, hD9, hM9⟩
  have G9 := HG8.out.devTurn hD9 hM9
  have bx9 := box_dev BX1.out HG8.out.dev hM9.keep
  have hs5 := H5.out.1
  have hcs5 : S5.cs = put4 (Dv.fresh 8).cs 4 1 (it9 [97] 1).enc := by rw [hs5.2.1, HT.out.2.2.2.2.2.2.1, HX.out.2.2.2.2.2.2]
  have hon := on_calm (S := S5) (by rw [hcs5]; exact put4_last _ _ _ _)
  have hcs9 : S5.on.cs = put4 (Dv.fresh 8).cs 4 1 (it9 [97] 1).enc := by rw [hon.1, hcs5]
  have hreg := region_one (it9 [97] 1) OK1.out.1 OK1.out.2
  have hlen9 : (0 : Nat) + 4 * 2 ≤ S5.on.cs.length := by rw [hcs9, put4_length]; decide
  have cO2 := hide (open_log sort_one hD9 hon.2.off 0 2 (by omega) (by omega) hlen9 (by rw [hcs9, hreg.1]; decide))
  have HG9 := hide G9
  have BX9 := hide bx9
  have H9 := hide (And.intro hcs9 hreg)
  clear cOn hD9 hM9 G9 bx9 hs5 hcs5 hon hcs9 hreg hlen9 HG8 BX1
  go_wp2_with fail
  refine cO2.out.mono ?_
  rintro e wa ⟨lh, mh, v5h, Th, Sh, rfl, hLh, hSh, hDh, hKh, hlowh, hnewh, hnodh, u1, u2, u3, u4, u5, u6, u7, rsh, u8, u9⟩
  rw [H9.out.1, H9.out.2.1] at u8
  rw [H9.out.1, H9.out.2.2] at u4
  obtain ⟨th, e1, e2, e3, e4⟩ := opened_one u8 u9 u5 u7
  have hLg : LgIn wa l d m v55 v67 v77 (T5.put th2) := HG9.out.lg.dev HG9.out.dev hKh
  have bxa := box_dev BX9.out HG9.out.dev hKh
  have hbela : Below w.heap.size w wa := HG9.out.bel.trans (hKh.below HG9.out.lowF HG9.out.bel.size)
  have hthm : ThAt wa th := hLh.ths th (by rw [e1]; simp)
  have hhas : Th.has [97] = some th.pos := by rw [e3]; exact updK_same _ _ _
  have cG2 := hide (get_some hLh [97] (by decide) th hthm hhas)
  have ev1 : th.it.val = .agg #[.string ⟨#[97]⟩, .string ⟨#[118]⟩, .int .u32 0, .int .i64 0, .int .u64 1] := by rw [e2]; rfl
  rw [ev1] at cG2
  have hlowm : w9.heap.size ≤ mh := hlowh mh (by simp [lfoot])
  have hgm : mh ∉ lblocks l m v55 v67 v77 (T5.put th2) := fun hq => by have := HG9.out.lg.lt mh hq; omega
  have HLh := hide hLh
  have HLg := hide hLg
  have HBa := hide bxa
  have HBEL := hide hbela
  have HE4 := hide e4
  have HU4 := hide u4
  have HGM := hide hgm
  have hx9 : w8.heap.size < w9.heap.size := BX9.out.lt
  have HXM : Hid (w8.heap.size ≠ mh) := by show _ ≠ _; omega
  have hwm : w.heap.size ≤ mh := by have := HG9.out.bel.size; omega
  have HWM := hide hwm
  have hall1 : Th.all.length = 1 := by rw [e1]; rfl
  have hrg1 : Th.regs.length ≤ 100 := by rw [u9]; have := congrArg List.length u8; simp at this; rw [(isort_perm rsh).length_eq]; omega
  have HA1 := hide (And.intro hall1 hrg1)
  clear cO2 hLh hSh hDh hKh hlowh hnewh hnodh u1 u2 u3 u4 u5 u6 u7 u8 u9 e1 e2 e3 e4 hLg bxa hbela hthm hhas ev1 hlowm hgm hx9 hwm hall1 hrg1 HG9 BX9 H9
  go_wp2_with fail
  refine cG2.out.mono ?_
  rintro e wb ⟨rfl, bb⟩
  obtain ⟨wc, hwc⟩ : ∃ wc, wc = wb.alloc (.cells #[.string ⟨#[97]⟩, .string ⟨#[118]⟩, .int .u32 0, .int .i64 0, .int .u64 1] 36) := ⟨_, rfl⟩
  have bc : Below wa.heap.size wa wc := by rw [hwc]; exact bb.trans (((Below.refl wb.heap.size wb).alloc (Nat.le_refl _) _).mono bb.size)
  have hLhc := HLh.out.below bc
  have hLgc := HLg.out.below bc
  have bx1c : Blk wc w8.heap.size _ 36 := HBa.out.same (bc.block _ HBa.out.lt)
  have bx2c : Blk wc wb.heap.size [.string ⟨#[97]⟩, .string ⟨#[118]⟩, .int .u32 0, .int .i64 0, .int .u64 1] 36 := by rw [hwc]; exact Blk.new wb _ 36
  have hbelc := HBEL.out.trans (bc.mono HBEL.out.size)
  have cNu := hide (number_log hLhc)
  rw [HU4.out] at cNu
  have cIt := hide (items_log hLhc (by rw [HA1.out.1]; decide) HA1.out.2)
  rw [HE4.out] at cIt
  have hmb : mh ≠ wb.heap.size := by have h1 := HLh.out.map.lt; have h2 := bb.size; omega
  have C1 := hide (And.intro hLhc (And.intro hLgc (And.intro bx1c (And.intro bx2c (And.intro hbelc hmb)))))
  rw [hwc] at cNu cIt
  have HWC := hide hwc
  clear cG2 bb bc hLhc hLgc bx1c bx2c hbelc hmb hwc HLh HLg HBa HBEL
  go_wp2_with fail
  refine cNu.out.mono ?_
  rintro e wd ⟨rfl, hd⟩
  obtain rfl := hd
  clear cNu
  go_wp2_with fail
  refine cIt.out.mono ?_
  rintro e we ⟨va, vn, vc, rfl, hvn, hrowe, be⟩
  have hvn1 : vn = 1 := hvn
  subst hvn1
  rw [← HWC.out] at be
  have hLhe := C1.out.1.below be
  have hLge := C1.out.2.1.below be
  have cDr := hide (drop_log hLhe [97] (by decide))
  have hb1e : Blk we w8.heap.size [.string ⟨#[97]⟩, .string ⟨#[118]⟩, .int .u32 0, .int .i64 0, .int .u64 2] 36 := C1.out.2.2.1.same (be.block _ C1.out.2.2.1.lt)
  have hb2e : Blk we wb.heap.size [.string ⟨#[97]⟩, .string ⟨#[118]⟩, .int .u32 0, .int .i64 0, .int .u64 1] 36 := C1.out.2.2.2.1.same (be.block _ C1.out.2.2.2.1.lt)
  have hbele := C1.out.2.2.2.2.1.trans (be.mono C1.out.2.2.2.2.1.size)
  have E1 := hide (And.intro hLge (And.intro hb1e (And.intro hb2e hbele)))
  have HMB := hide C1.out.2.2.2.2.2
  clear cIt hvn hrowe be hLhe hLge hb1e hb2e hbele C1
  go_wp2_with fail
  refine cDr.out.mono ?_
  rintro e wf ⟨rfl, hLhf, kf⟩
  have hLgf : LgIn wf l d m v55 v67 v77 (T5.put th2) := E1.out.1.same (fun q hq => kf.block q (E1.out.1.lt q hq) (by
    simp only [List.mem_singleton]
    rintro rfl
    exact HGM.out hq))
  have hb1f : Blk wf w8.heap.size [.string ⟨#[97]⟩, .string ⟨#[118]⟩, .int .u32 0, .int .i64 0, .int .u64 2] 36 := E1.out.2.1.same (kf.block _ E1.out.2.1.lt (by simp only [List.mem_singleton]; exact HXM.out))
  have hb2f : Blk wf wb.heap.size [.string ⟨#[97]⟩, .string ⟨#[118]⟩, .int .u32 0, .int .i64 0, .int .u64 1] 36 := E1.out.2.2.1.same (kf.block _ E1.out.2.2.1.lt (by simp only [List.mem_singleton]; exact Ne.symm HMB.out))
  have hbelf : Below w.heap.size w wf := E1.out.2.2.2.trans (kf.below (fun q hq => by simp only [List.mem_singleton] at hq; subst hq; exact HWM.out) E1.out.2.2.2.size)
  obtain ⟨CX, hCX⟩ : ∃ CX : World → Prop, CX = fun w' => Below wf.heap.size wf w' := ⟨_, rfl⟩
  have DRX : Hid (CX { wf with drawn := wf.drawn + 1 }) := by show CX _; rw [hCX]; exact (Below.refl _ _).drew
  have cB : Hid (∀ w' w2, CX w' → Below w'.heap.size w' w2 → CX w2) := fun w' w2 h1 h2 => by rw [hCX] at h1 ⊢; exact h1.trans (h2.mono h1.size)
  have cX : Hid (∀ w', CX w' → ((w'.cell? ⟨w8.heap.size, 0, none⟩ = some (.string ⟨#[97]⟩) ∧ w'.cell? ⟨w8.heap.size, 1, none⟩ = some (.string ⟨#[118]⟩) ∧ w'.cell? ⟨w8.heap.size, 2, none⟩ = some (.int .u32 0) ∧ w'.cell? ⟨w8.heap.size, 3, none⟩ = some (.int .i64 0) ∧ w'.cell? ⟨w8.heap.size, 4, none⟩ = some (.int .u64 2)) ∧ (w'.cell? ⟨wb.heap.size, 0, none⟩ = some (.string ⟨#[97]⟩) ∧ w'.cell? ⟨wb.heap.size, 1, none⟩ = some (.string ⟨#[118]⟩) ∧ w'.cell? ⟨wb.heap.size, 2, none⟩ = some (.int .u32 0) ∧ w'.cell? ⟨wb.heap.size, 3, none⟩ = some (.int .i64 0) ∧ w'.cell? ⟨wb.heap.size, 4, none⟩ = some (.int .u64 1)) ∧ True)) := fun w' h1 => by
    rw [hCX] at h1
    have q1 := hb1f.same (h1.block _ hb1f.lt)
    have q2 := hb2f.same (h1.block _ hb2f.lt)
    exact ⟨⟨q1.cell (i := 0) rfl, q1.cell (i := 1) rfl, q1.cell (i := 2) rfl, q1.cell (i := 3) rfl, q1.cell (i := 4) rfl⟩, ⟨q2.cell (i := 0) rfl, q2.cell (i := 1) rfl, q2.cell (i := 2) rfl, q2.cell (i := 3) rfl, q2.cell (i := 4) rfl⟩, trivial⟩
  have cMh : Hid (∀ w', CX w' → Calls Try.prog 24 #[.pointer (some ⟨lh, 0, none⟩), .string ⟨#[97]⟩] w' fun e w2 => e = .returned (.bool false) ∧ w2 = w') := fun w' h1 => by
    rw [hCX] at h1
    have := may_log (hLhf.below h1) [97] (by decide)
    rw [show ((Th.drop [97]).has [97]).isSome = false by show (updK Th.has [97] none [97]).isSome = false; rw [updK_same]; rfl] at this
    exact this
  have cMg : Hid (∀ w', CX w' → Calls Try.prog 24 #[.pointer (some ⟨l, 0, none⟩), .string ⟨#[97]⟩] w' fun e w2 => e = .returned (.bool true) ∧ w2 = w') := fun w' h1 => by
    rw [hCX] at h1
    have := may_log (hLgf.below h1) [97] (by decide)
    rw [HH2.out] at this
    exact this
  have HE : Hid (∀ w', CX w' → Below w.heap.size w w') := fun w' h1 => by rw [hCX] at h1; exact hbelf.trans (h1.mono hbelf.size)
  clear hCX hLhf kf hLgf hb1f hb2f hbelf cDr E1
  go_wp2_with fail
  refine wp_region_guard (by kernel_rfl) (by kernel_rfl) (fun jx => ([.int .i64 0, .bool true, .bool true, .int .i64 0, .bool true, .bool true, .bool true, .int .i64 0, .bool true, .bool true, .bool true, .int .i64 0, .bool true, .bool true, .bool true, .agg #[.string ⟨#[97]⟩, .string ⟨#[118]⟩, .int .u32 0, .int .i64 0, .int .u64 2], .agg #[.string ⟨#[97]⟩, .string ⟨#[118]⟩, .int .u32 0, .int .i64 0, .int .u64 2], .bool true, .bool true, .bool true, .int .i64 0, .bool true, .bool true, .bool true, .agg #[.string ⟨#[97]⟩, .string ⟨#[118]⟩, .int .u32 0, .int .i64 0, .int .u64 1], .agg #[.string ⟨#[97]⟩, .string ⟨#[118]⟩, .int .u32 0, .int .i64 0, .int .u64 1], .bool true, .bool true, .bool true, .int .u64 1, .bool true, .bool true, .bool true, .slice va 1 vc, .int .i64 1, .bool true, .bool true, .bool true, .pointer (some ⟨lh, 0, none⟩), .bool false, .bool true, .bool true, .bool true, .pointer (some ⟨l, 0, none⟩), .bool true, .bool true, .bool true] : List Value).getD jx undef) (CX) (size_of (n := 126) (by kernel_rfl) rfl) (DRX.out) ?_ ?_
  · intro jx ox hi w' ev hc hin hout hcst hfn
    have hltx : jx < 47 := by
      have := (Array.getElem?_eq_some_iff.1 hi).1
      simpa using this
    match jx, hltx with
    | 0, _ =>
      simp only [List.getElem?_toArray, List.getElem?_cons_zero, List.getElem?_cons_succ, Option.some.injEq] at hi
      subst hi
      rw [if_pos (by first | rfl | simp [wantV])]
      have e0 : ev (.tmp 6) = .int .i64 0 := hout 6 (by kernel_rfl) (show (6 : Nat) < 126 by decide)
      refine .inl ⟨w', ?_, hc⟩
      show _ = Result.ok (Next.value (.int .i64 0)) w'
      simp [execOp, e0, hcst, go_sem]
    | 1, _ =>
      simp only [List.getElem?_toArray, List.getElem?_cons_zero, List.getElem?_cons_succ, Option.some.injEq] at hi
      subst hi
      rw [if_pos (by first | rfl | simp [wantV])]
      have e0 : ev (.tmp 80) = .int .i64 0 := hin 80 0 ⟨0, .data⟩ (by kernel_rfl) (by simp) rfl rfl (show (80 : Nat) < 126 by decide)
      refine .inl ⟨w', ?_, hc⟩
      show _ = Result.ok (Next.value (.bool true)) w'
      simp [execOp, e0, hcst, go_sem]
    | 2, _ =>
      simp only [List.getElem?_toArray, List.getElem?_cons_zero, List.getElem?_cons_succ, Option.some.injEq] at hi
      subst hi
      rw [if_pos (by first | rfl | simp [wantV])]
      have e0 : ev (.tmp 81) = .bool true := hin 81 1 ⟨1, .data⟩ (by kernel_rfl) (by simp) rfl rfl (show (81 : Nat) < 126 by decide)
      refine .inl ⟨w', ?_, hc⟩
      show _ = Result.ok (Next.value (.bool true)) w'
      simp [execOp, e0, hcst, go_sem]
    | 3, _ =>
      simp only [List.getElem?_toArray, List.getElem?_cons_zero, List.getElem?_cons_succ, Option.some.injEq] at hi
      subst hi
      rw [if_pos (by first | rfl | simp [wantV])]
      have e0 : ev (.tmp 8) = .int .i64 0 := hout 8 (by kernel_rfl) (show (8 : Nat) < 126 by decide)
      refine .inl ⟨w', ?_, hc⟩
      show _ = Result.ok (Next.value (.int .i64 0)) w'
      simp [execOp, e0, hcst, go_sem]
    | 4, _ =>
      simp only [List.getElem?_toArray, List.getElem?_cons_zero, List.getElem?_cons_succ, Option.some.injEq] at hi
      subst hi
      rw [if_pos (by first | rfl | simp [wantV])]
      have e0 : ev (.tmp 83) = .int .i64 0 := hin 83 3 ⟨3, .data⟩ (by kernel_rfl) (by simp) rfl rfl (show (83 : Nat) < 126 by decide)
      refine .inl ⟨w', ?_, hc⟩
      show _ = Result.ok (Next.value (.bool true)) w'
      simp [execOp, e0, hcst, go_sem]
    | 5, _ =>
      simp only [List.getElem?_toArray, List.getElem?_cons_zero, List.getElem?_cons_succ, Option.some.injEq] at hi
      subst hi
      rw [if_pos (by first | rfl | simp [wantV])]
      have e0 : ev (.tmp 82) = .bool true := hin 82 2 ⟨2, .data⟩ (by kernel_rfl) (by simp) rfl rfl (show (82 : Nat) < 126 by decide)
      have e1 : ev (.tmp 84) = .bool true := hin 84 4 ⟨4, .data⟩ (by kernel_rfl) (by simp) rfl rfl (show (84 : Nat) < 126 by decide)
      refine .inl ⟨w', ?_, hc⟩
      show _ = Result.ok (Next.value (.bool true)) w'
      simp [execOp, e0, e1, hcst, go_sem]
    | 6, _ =>
      simp only [List.getElem?_toArray, List.getElem?_cons_zero, List.getElem?_cons_succ, Option.some.injEq] at hi
      subst hi
      rw [if_pos (by first | rfl | simp [wantV])]
      have e0 : ev (.tmp 85) = .bool true := hin 85 5 ⟨5, .data⟩ (by kernel_rfl) (by simp) rfl rfl (show (85 : Nat) < 126 by decide)
      refine .inl ⟨w', ?_, hc⟩
      show _ = Result.ok (Next.value (.bool true)) w'
      simp [execOp, e0, hcst, go_sem]
    | 7, _ =>
      simp only [List.getElem?_toArray, List.getElem?_cons_zero, List.getElem?_cons_succ, Option.some.injEq] at hi
      subst hi
      rw [if_pos (by first | rfl | simp [wantV])]
      have e0 : ev (.tmp 10) = .int .i64 0 := hout 10 (by kernel_rfl) (show (10 : Nat) < 126 by decide)
      refine .inl ⟨w', ?_, hc⟩
      show _ = Result.ok (Next.value (.int .i64 0)) w'
      simp [execOp, e0, hcst, go_sem]
    | 8, _ =>
      simp only [List.getElem?_toArray, List.getElem?_cons_zero, List.getElem?_cons_succ, Option.some.injEq] at hi
      subst hi
      rw [if_pos (by first | rfl | simp [wantV])]
      have e0 : ev (.tmp 87) = .int .i64 0 := hin 87 7 ⟨7, .data⟩ (by kernel_rfl) (by simp) rfl rfl (show (87 : Nat) < 126 by decide)
      refine .inl ⟨w', ?_, hc⟩
      show _ = Result.ok (Next.value (.bool true)) w'
      simp [execOp, e0, hcst, go_sem]
    | 9, _ =>
      simp only [List.getElem?_toArray, List.getElem?_cons_zero, List.getElem?_cons_succ, Option.some.injEq] at hi
      subst hi
      rw [if_pos (by first | rfl | simp [wantV])]
      have e0 : ev (.tmp 86) = .bool true := hin 86 6 ⟨6, .data⟩ (by kernel_rfl) (by simp) rfl rfl (show (86 : Nat) < 126 by decide)
      have e1 : ev (.tmp 88) = .bool true := hin 88 8 ⟨8, .data⟩ (by kernel_rfl) (by simp) rfl rfl (show (88 : Nat) < 126 by decide)
      refine .inl ⟨w', ?_, hc⟩
      show _ = Result.ok (Next.value (.bool true)) w'
      simp [execOp, e0, e1, hcst, go_sem]
    | 10, _ =>
      simp only [List.getElem?_toArray, List.getElem?_cons_zero, List.getElem?_cons_succ, Option.some.injEq] at hi
      subst hi
      rw [if_pos (by first | rfl | simp [wantV])]
      have e0 : ev (.tmp 89) = .bool true := hin 89 9 ⟨9, .data⟩ (by kernel_rfl) (by simp) rfl rfl (show (89 : Nat) < 126 by decide)
      refine .inl ⟨w', ?_, hc⟩
      show _ = Result.ok (Next.value (.bool true)) w'
      simp [execOp, e0, hcst, go_sem]
    | 11, _ =>
      simp only [List.getElem?_toArray, List.getElem?_cons_zero, List.getElem?_cons_succ, Option.some.injEq] at hi
      subst hi
      rw [if_pos (by first | rfl | simp [wantV])]
      have e0 : ev (.tmp 12) = .int .i64 0 := hout 12 (by kernel_rfl) (show (12 : Nat) < 126 by decide)
      refine .inl ⟨w', ?_, hc⟩
      show _ = Result.ok (Next.value (.int .i64 0)) w'
      simp [execOp, e0, hcst, go_sem]
    | 12, _ =>
      simp only [List.getElem?_toArray, List.getElem?_cons_zero, List.getElem?_cons_succ, Option.some.injEq] at hi
      subst hi
      rw [if_pos (by first | rfl | simp [wantV])]
      have e0 : ev (.tmp 91) = .int .i64 0 := hin 91 11 ⟨11, .data⟩ (by kernel_rfl) (by simp) rfl rfl (show (91 : Nat) < 126 by decide)
      refine .inl ⟨w', ?_, hc⟩
      show _ = Result.ok (Next.value (.bool true)) w'
      simp [execOp, e0, hcst, go_sem]
    | 13, _ =>
      simp only [List.getElem?_toArray, List.getElem?_cons_zero, List.getElem?_cons_succ, Option.some.injEq] at hi
      subst hi
      rw [if_pos (by first | rfl | simp [wantV])]
      have e0 : ev (.tmp 90) = .bool true := hin 90 10 ⟨10, .data⟩ (by kernel_rfl) (by simp) rfl rfl (show (90 : Nat) < 126 by decide)
      have e1 : ev (.tmp 92) = .bool true := hin 92 12 ⟨12, .data⟩ (by kernel_rfl) (by simp) rfl rfl (show (92 : Nat) < 126 by decide)
      refine .inl ⟨w', ?_, hc⟩
      show _ = Result.ok (Next.value (.bool true)) w'
      simp [execOp, e0, e1, hcst, go_sem]
    | 14, _ =>
      simp only [List.getElem?_toArray, List.getElem?_cons_zero, List.getElem?_cons_succ, Option.some.injEq] at hi
      subst hi
      rw [if_pos (by first | rfl | simp [wantV])]
      have e0 : ev (.tmp 93) = .bool true := hin 93 13 ⟨13, .data⟩ (by kernel_rfl) (by simp) rfl rfl (show (93 : Nat) < 126 by decide)
      refine .inl ⟨w', ?_, hc⟩
      show _ = Result.ok (Next.value (.bool true)) w'
      simp [execOp, e0, hcst, go_sem]
    | 15, _ =>
      simp only [List.getElem?_toArray, List.getElem?_cons_zero, List.getElem?_cons_succ, Option.some.injEq] at hi
      subst hi
      rw [if_pos (by first | rfl | simp [wantV])]
      have e0 : ev (.tmp 11) = .pointer (some ⟨w8.heap.size, 0, none⟩) := hout 11 (by kernel_rfl) (show (11 : Nat) < 126 by decide)
      refine .inl ⟨w', ?_, hc⟩
      show _ = Result.ok (Next.value (.agg #[.string ⟨#[97]⟩, .string ⟨#[118]⟩, .int .u32 0, .int .i64 0, .int .u64 2])) w'
      obtain ⟨q0, q1, q2, q3, q4⟩ := (cX.out w' hc).1
      simp [execOp, e0, q0, q1, q2, q3, q4, hcst, go_sem]
    | 16, _ =>
      simp only [List.getElem?_toArray, List.getElem?_cons_zero, List.getElem?_cons_succ, Option.some.injEq] at hi
      subst hi
      rw [if_pos (by first | rfl | simp [wantV])]
      refine .inr (.inr ⟨21, #[.string ⟨#[97]⟩, .int .u64 2], ?_, ?_⟩)
      · have ef := hfn 21
        simp [execOp, resolve, invoke, ef, hcst, Result.andThen]
        exact enter22 _ _
      · refine (it_any ⟨#[97]⟩ 2 w').mono ?_
        rintro e w2 ⟨rfl, b2⟩
        exact ⟨rfl, cB.out w' w2 hc b2⟩
    | 17, _ =>
      simp only [List.getElem?_toArray, List.getElem?_cons_zero, List.getElem?_cons_succ, Option.some.injEq] at hi
      subst hi
      rw [if_pos (by first | rfl | simp [wantV])]
      have e0 : ev (.tmp 95) = .agg #[.string ⟨#[97]⟩, .string ⟨#[118]⟩, .int .u32 0, .int .i64 0, .int .u64 2] := hin 95 15 ⟨15, .data⟩ (by kernel_rfl) (by simp) rfl rfl (show (95 : Nat) < 126 by decide)
      have e1 : ev (.tmp 96) = .agg #[.string ⟨#[97]⟩, .string ⟨#[118]⟩, .int .u32 0, .int .i64 0, .int .u64 2] := hin 96 16 ⟨16, .data⟩ (by kernel_rfl) (by simp) rfl rfl (show (96 : Nat) < 126 by decide)
      refine .inl ⟨w', ?_, hc⟩
      show _ = Result.ok (Next.value (.bool true)) w'
      have q := run_eql_items (it9 [97] 2) (it9 [97] 2) w'
      rw [itEq_self] at q
      have q' : (binOp .eql 36 (.agg #[.string ⟨#[97]⟩, .string ⟨#[118]⟩, .int .u32 0, .int .i64 0, .int .u64 2]) (.agg #[.string ⟨#[97]⟩, .string ⟨#[118]⟩, .int .u32 0, .int .i64 0, .int .u64 2])).run Try.prog w' = .ok (.bool true) w' := q
      simp [execOp, e0, e1, hcst, q', Result.andThen, go_sem]
    | 18, _ =>
      simp only [List.getElem?_toArray, List.getElem?_cons_zero, List.getElem?_cons_succ, Option.some.injEq] at hi
      subst hi
      rw [if_pos (by first | rfl | simp [wantV])]
      have e0 : ev (.tmp 94) = .bool true := hin 94 14 ⟨14, .data⟩ (by kernel_rfl) (by simp) rfl rfl (show (94 : Nat) < 126 by decide)
      have e1 : ev (.tmp 97) = .bool true := hin 97 17 ⟨17, .data⟩ (by kernel_rfl) (by simp) rfl rfl (show (97 : Nat) < 126 by decide)
      refine .inl ⟨w', ?_, hc⟩
      show _ = Result.ok (Next.value (.bool true)) w'
      simp [execOp, e0, e1, hcst, go_sem]
    | 19, _ =>
      simp only [List.getElem?_toArray, List.getElem?_cons_zero, List.getElem?_cons_succ, Option.some.injEq] at hi
      subst hi
      rw [if_pos (by first | rfl | simp [wantV])]
      have e0 : ev (.tmp 98) = .bool true := hin 98 18 ⟨18, .data⟩ (by kernel_rfl) (by simp) rfl rfl (show (98 : Nat) < 126 by decide)
      refine .inl ⟨w', ?_, hc⟩
      show _ = Result.ok (Next.value (.bool true)) w'
      simp [execOp, e0, hcst, go_sem]
    | 20, _ =>
      simp only [List.getElem?_toArray, List.getElem?_cons_zero, List.getElem?_cons_succ, Option.some.injEq] at hi
      subst hi
      rw [if_pos (by first | rfl | simp [wantV])]
      have e0 : ev (.tmp 16) = .int .i64 0 := hout 16 (by kernel_rfl) (show (16 : Nat) < 126 by decide)
      refine .inl ⟨w', ?_, hc⟩
      show _ = Result.ok (Next.value (.int .i64 0)) w'
      simp [execOp, e0, hcst, go_sem]
    | 21, _ =>
      simp only [List.getElem?_toArray, List.getElem?_cons_zero, List.getElem?_cons_succ, Option.some.injEq] at hi
      subst hi
      rw [if_pos (by first | rfl | simp [wantV])]
      have e0 : ev (.tmp 100) = .int .i64 0 := hin 100 20 ⟨20, .data⟩ (by kernel_rfl) (by simp) rfl rfl (show (100 : Nat) < 126 by decide)
      refine .inl ⟨w', ?_, hc⟩
      show _ = Result.ok (Next.value (.bool true)) w'
      simp [execOp, e0, hcst, go_sem]
    | 22, _ =>
      simp only [List.getElem?_toArray, List.getElem?_cons_zero, List.getElem?_cons_succ, Option.some.injEq] at hi
      subst hi
      rw [if_pos (by first | rfl | simp [wantV])]
      have e0 : ev (.tmp 99) = .bool true := hin 99 19 ⟨19, .data⟩ (by kernel_rfl) (by simp) rfl rfl (show (99 : Nat) < 126 by decide)
      have e1 : ev (.tmp 101) = .bool true := hin 101 21 ⟨21, .data⟩ (by kernel_rfl) (by simp) rfl rfl (show (101 : Nat) < 126 by decide)
      refine .inl ⟨w', ?_, hc⟩
      show _ = Result.ok (Next.value (.bool true)) w'
      simp [execOp, e0, e1, hcst, go_sem]
    | 23, _ =>
      simp only [List.getElem?_toArray, List.getElem?_cons_zero, List.getElem?_cons_succ, Option.some.injEq] at hi
      subst hi
      rw [if_pos (by first | rfl | simp [wantV])]
      have e0 : ev (.tmp 102) = .bool true := hin 102 22 ⟨22, .data⟩ (by kernel_rfl) (by simp) rfl rfl (show (102 : Nat) < 126 by decide)
      refine .inl ⟨w', ?_, hc⟩
      show _ = Result.ok (Next.value (.bool true)) w'
      simp [execOp, e0, hcst, go_sem]
    | 24, _ =>
      simp only [List.getElem?_toArray, List.getElem?_cons_zero, List.getElem?_cons_succ, Option.some.injEq] at hi
      subst hi
      rw [if_pos (by first | rfl | simp [wantV])]
      have e0 : ev (.tmp 15) = .pointer (some ⟨wb.heap.size, 0, none⟩) := hout 15 (by kernel_rfl) (show (15 : Nat) < 126 by decide)
      refine .inl ⟨w', ?_, hc⟩
      show _ = Result.ok (Next.value (.agg #[.string ⟨#[97]⟩, .string ⟨#[118]⟩, .int .u32 0, .int .i64 0, .int .u64 1])) w'
      obtain ⟨q0, q1, q2, q3, q4⟩ := (cX.out w' hc).2.1
      simp [execOp, e0, q0, q1, q2, q3, q4, hcst, go_sem]
    | 25, _ =>
      simp only [List.getElem?_toArray, List.getElem?_cons_zero, List.getElem?_cons_succ, Option.some.injEq] at hi
      subst hi
      rw [if_pos (by first | rfl | simp [wantV])]
      refine .inr (.inr ⟨21, #[.string ⟨#[97]⟩, .int .u64 1], ?_, ?_⟩)
      · have ef := hfn 21
        simp [execOp, resolve, invoke, ef, hcst, Result.andThen]
        exact enter22 _ _
      · refine (it_any ⟨#[97]⟩ 1 w').mono ?_
        rintro e w2 ⟨rfl, b2⟩
        exact ⟨rfl, cB.out w' w2 hc b2⟩
    | 26, _ =>
      simp only [List.getElem?_toArray, List.getElem?_cons_zero, List.getElem?_cons_succ, Option.some.injEq] at hi
      subst hi
      rw [if_pos (by first | rfl | simp [wantV])]
      have e0 : ev (.tmp 104) = .agg #[.string ⟨#[97]⟩, .string ⟨#[118]⟩, .int .u32 0, .int .i64 0, .int .u64 1] := hin 104 24 ⟨24, .data⟩ (by kernel_rfl) (by simp) rfl rfl (show (104 : Nat) < 126 by decide)
      have e1 : ev (.tmp 105) = .agg #[.string ⟨#[97]⟩, .string ⟨#[118]⟩, .int .u32 0, .int .i64 0, .int .u64 1] := hin 105 25 ⟨25, .data⟩ (by kernel_rfl) (by simp) rfl rfl (show (105 : Nat) < 126 by decide)
      refine .inl ⟨w', ?_, hc⟩
      show _ = Result.ok (Next.value (.bool true)) w'
      have q := run_eql_items (it9 [97] 1) (it9 [97] 1) w'
      rw [itEq_self] at q
      have q' : (binOp .eql 36 (.agg #[.string ⟨#[97]⟩, .string ⟨#[118]⟩, .int .u32 0, .int .i64 0, .int .u64 1]) (.agg #[.string ⟨#[97]⟩, .string ⟨#[118]⟩, .int .u32 0, .int .i64 0, .int .u64 1])).run Try.prog w' = .ok (.bool true) w' := q
      simp [execOp, e0, e1, hcst, q', Result.andThen, go_sem]
    | 27, _ =>
      simp only [List.getElem?_toArray, List.getElem?_cons_zero, List.getElem?_cons_succ, Option.some.injEq] at hi
      subst hi
      rw [if_pos (by first | rfl | simp [wantV])]
      have e0 : ev (.tmp 103) = .bool true := hin 103 23 ⟨23, .data⟩ (by kernel_rfl) (by simp) rfl rfl (show (103 : Nat) < 126 by decide)
      have e1 : ev (.tmp 106) = .bool true := hin 106 26 ⟨26, .data⟩ (by kernel_rfl) (by simp) rfl rfl (show (106 : Nat) < 126 by decide)
      refine .inl ⟨w', ?_, hc⟩
      show _ = Result.ok (Next.value (.bool true)) w'
      simp [execOp, e0, e1, hcst, go_sem]
    | 28, _ =>
      simp only [List.getElem?_toArray, List.getElem?_cons_zero, List.getElem?_cons_succ, Option.some.injEq] at hi
      subst hi
      rw [if_pos (by first | rfl | simp [wantV])]
      have e0 : ev (.tmp 107) = .bool true := hin 107 27 ⟨27, .data⟩ (by kernel_rfl) (by simp) rfl rfl (show (107 : Nat) < 126 by decide)
      refine .inl ⟨w', ?_, hc⟩
      show _ = Result.ok (Next.value (.bool true)) w'
      simp [execOp, e0, hcst, go_sem]
    | 29, _ =>
      simp only [List.getElem?_toArray, List.getElem?_cons_zero, List.getElem?_cons_succ, Option.some.injEq] at hi
      subst hi
      rw [if_pos (by first | rfl | simp [wantV])]
      have e0 : ev (.tmp 17) = .int .u64 1 := hout 17 (by kernel_rfl) (show (17 : Nat) < 126 by decide)
      refine .inl ⟨w', ?_, hc⟩
      show _ = Result.ok (Next.value (.int .u64 1)) w'
      simp [execOp, e0, hcst, go_sem]
    | 30, _ =>
      simp only [List.getElem?_toArray, List.getElem?_cons_zero, List.getElem?_cons_succ, Option.some.injEq] at hi
      subst hi
      rw [if_pos (by first | rfl | simp [wantV])]
      have e0 : ev (.tmp 109) = .int .u64 1 := hin 109 29 ⟨29, .data⟩ (by kernel_rfl) (by simp) rfl rfl (show (109 : Nat) < 126 by decide)
      refine .inl ⟨w', ?_, hc⟩
      show _ = Result.ok (Next.value (.bool true)) w'
      simp [execOp, e0, hcst, go_sem]
    | 31, _ =>
      simp only [List.getElem?_toArray, List.getElem?_cons_zero, List.getElem?_cons_succ, Option.some.injEq] at hi
      subst hi
      rw [if_pos (by first | rfl | simp [wantV])]
      have e0 : ev (.tmp 108) = .bool true := hin 108 28 ⟨28, .data⟩ (by kernel_rfl) (by simp) rfl rfl (show (108 : Nat) < 126 by decide)
      have e1 : ev (.tmp 110) = .bool true := hin 110 30 ⟨30, .data⟩ (by kernel_rfl) (by simp) rfl rfl (show (110 : Nat) < 126 by decide)
      refine .inl ⟨w', ?_, hc⟩
      show _ = Result.ok (Next.value (.bool true)) w'
      simp [execOp, e0, e1, hcst, go_sem]
    | 32, _ =>
      simp only [List.getElem?_toArray, List.getElem?_cons_zero, List.getElem?_cons_succ, Option.some.injEq] at hi
      subst hi
      rw [if_pos (by first | rfl | simp [wantV])]
      have e0 : ev (.tmp 111) = .bool true := hin 111 31 ⟨31, .data⟩ (by kernel_rfl) (by simp) rfl rfl (show (111 : Nat) < 126 by decide)
      refine .inl ⟨w', ?_, hc⟩
      show _ = Result.ok (Next.value (.bool true)) w'
      simp [execOp, e0, hcst, go_sem]
    | 33, _ =>
      simp only [List.getElem?_toArray, List.getElem?_cons_zero, List.getElem?_cons_succ, Option.some.injEq] at hi
      subst hi
      rw [if_pos (by first | rfl | simp [wantV])]
      have e0 : ev (.tmp 18) = .slice va 1 vc := hout 18 (by kernel_rfl) (show (18 : Nat) < 126 by decide)
      refine .inl ⟨w', ?_, hc⟩
      show _ = Result.ok (Next.value (.slice va 1 vc)) w'
      simp [execOp, e0, hcst, go_sem]
    | 34, _ =>
      simp only [List.getElem?_toArray, List.getElem?_cons_zero, List.getElem?_cons_succ, Option.some.injEq] at hi
      subst hi
      rw [if_pos (by first | rfl | simp [wantV])]
      have e0 : ev (.tmp 113) = .slice va 1 vc := hin 113 33 ⟨33, .data⟩ (by kernel_rfl) (by simp) rfl rfl (show (113 : Nat) < 126 by decide)
      refine .inl ⟨w', ?_, hc⟩
      show _ = Result.ok (Next.value (.int .i64 1)) w'
      simp [execOp, e0, hcst, go_sem]
    | 35, _ =>
      simp only [List.getElem?_toArray, List.getElem?_cons_zero, List.getElem?_cons_succ, Option.some.injEq] at hi
      subst hi
      rw [if_pos (by first | rfl | simp [wantV])]
      have e0 : ev (.tmp 114) = .int .i64 1 := hin 114 34 ⟨34, .data⟩ (by kernel_rfl) (by simp) rfl rfl (show (114 : Nat) < 126 by decide)
      refine .inl ⟨w', ?_, hc⟩
      show _ = Result.ok (Next.value (.bool true)) w'
      simp [execOp, e0, hcst, go_sem]
    | 36, _ =>
      simp only [List.getElem?_toArray, List.getElem?_cons_zero, List.getElem?_cons_succ, Option.some.injEq] at hi
      subst hi
      rw [if_pos (by first | rfl | simp [wantV])]
      have e0 : ev (.tmp 112) = .bool true := hin 112 32 ⟨32, .data⟩ (by kernel_rfl) (by simp) rfl rfl (show (112 : Nat) < 126 by decide)
      have e1 : ev (.tmp 115) = .bool true := hin 115 35 ⟨35, .data⟩ (by kernel_rfl) (by simp) rfl rfl (show (115 : Nat) < 126 by decide)
      refine .inl ⟨w', ?_, hc⟩
      show _ = Result.ok (Next.value (.bool true)) w'
      simp [execOp, e0, e1, hcst, go_sem]
    | 37, _ =>
      simp only [List.getElem?_toArray, List.getElem?_cons_zero, List.getElem?_cons_succ, Option.some.injEq] at hi
      subst hi
      rw [if_pos (by first | rfl | simp [wantV])]
      have e0 : ev (.tmp 116) = .bool true := hin 116 36 ⟨36, .data⟩ (by kernel_rfl) (by simp) rfl rfl (show (116 : Nat) < 126 by decide)
      refine .inl ⟨w', ?_, hc⟩
      show _ = Result.ok (Next.value (.bool true)) w'
      simp [execOp, e0, hcst, go_sem]
    | 38, _ =>
      simp only [List.getElem?_toArray, List.getElem?_cons_zero, List.getElem?_cons_succ, Option.some.injEq] at hi
      subst hi
      rw [if_pos (by first | rfl | simp [wantV])]
      have e0 : ev (.tmp 13) = .pointer (some ⟨lh, 0, none⟩) := hout 13 (by kernel_rfl) (show (13 : Nat) < 126 by decide)
      refine .inl ⟨w', ?_, hc⟩
      show _ = Result.ok (Next.value (.pointer (some ⟨lh, 0, none⟩))) w'
      simp [execOp, e0, hcst, go_sem]
    | 39, _ =>
      simp only [List.getElem?_toArray, List.getElem?_cons_zero, List.getElem?_cons_succ, Option.some.injEq] at hi
      subst hi
      rw [if_pos (by first | rfl | simp [wantV])]
      have e0 : ev (.tmp 118) = .pointer (some ⟨lh, 0, none⟩) := hin 118 38 ⟨38, .data⟩ (by kernel_rfl) (by simp) rfl rfl (show (118 : Nat) < 126 by decide)
      refine .inr (.inr ⟨24, #[.pointer (some ⟨lh, 0, none⟩), .string ⟨#[97]⟩], ?_, ?_⟩)
      · have ef := hfn 24
        simp [execOp, resolve, invoke, ef, hcst, e0, Result.andThen]
        exact enter24 _ _
      · refine (cMh.out w' hc).mono ?_
        rintro e w2 ⟨rfl, h2⟩
        rw [h2]
        exact ⟨rfl, hc⟩
    | 40, _ =>
      simp only [List.getElem?_toArray, List.getElem?_cons_zero, List.getElem?_cons_succ, Option.some.injEq] at hi
      subst hi
      rw [if_pos (by first | rfl | simp [wantV])]
      have e0 : ev (.tmp 119) = .bool false := hin 119 39 ⟨39, .data⟩ (by kernel_rfl) (by simp) rfl rfl (show (119 : Nat) < 126 by decide)
      refine .inl ⟨w', ?_, hc⟩
      show _ = Result.ok (Next.value (.bool true)) w'
      simp [execOp, e0, hcst, go_sem]
    | 41, _ =>
      simp only [List.getElem?_toArray, List.getElem?_cons_zero, List.getElem?_cons_succ, Option.some.injEq] at hi
      subst hi
      rw [if_pos (by first | rfl | simp [wantV])]
      have e0 : ev (.tmp 117) = .bool true := hin 117 37 ⟨37, .data⟩ (by kernel_rfl) (by simp) rfl rfl (show (117 : Nat) < 126 by decide)
      have e1 : ev (.tmp 120) = .bool true := hin 120 40 ⟨40, .data⟩ (by kernel_rfl) (by simp) rfl rfl (show (120 : Nat) < 126 by decide)
      refine .inl ⟨w', ?_, hc⟩
      show _ = Result.ok (Next.value (.bool true)) w'
      simp [execOp, e0, e1, hcst, go_sem]
    | 42, _ =>
      simp only [List.getElem?_toArray, List.getElem?_cons_zero, List.getElem?_cons_succ, Option.some.injEq] at hi
      subst hi
      rw [if_pos (by first | rfl | simp [wantV])]
      have e0 : ev (.tmp 121) = .bool true := hin 121 41 ⟨41, .data⟩ (by kernel_rfl) (by simp) rfl rfl (show (121 : Nat) < 126 by decide)
      refine .inl ⟨w', ?_, hc⟩
      show _ = Result.ok (Next.value (.bool true)) w'
      simp [execOp, e0, hcst, go_sem]
    | 43, _ =>
      simp only [List.getElem?_toArray, List.getElem?_cons_zero, List.getElem?_cons_succ, Option.some.injEq] at hi
      subst hi
      rw [if_pos (by first | rfl | simp [wantV])]
      have e0 : ev (.tmp 3) = .pointer (some ⟨l, 0, none⟩) := hout 3 (by kernel_rfl) (show (3 : Nat) < 126 by decide)
      refine .inl ⟨w', ?_, hc⟩
      show _ = Result.ok (Next.value (.pointer (some ⟨l, 0, none⟩))) w'
      simp [execOp, e0, hcst, go_sem]
    | 44, _ =>
      simp only [List.getElem?_toArray, List.getElem?_cons_zero, List.getElem?_cons_succ, Option.some.injEq] at hi
      subst hi
      rw [if_pos (by first | rfl | simp [wantV])]
      have e0 : ev (.tmp 123) = .pointer (some ⟨l, 0, none⟩) := hin 123 43 ⟨43, .data⟩ (by kernel_rfl) (by simp) rfl rfl (show (123 : Nat) < 126 by decide)
      refine .inr (.inr ⟨24, #[.pointer (some ⟨l, 0, none⟩), .string ⟨#[97]⟩], ?_, ?_⟩)
      · have ef := hfn 24
        simp [execOp, resolve, invoke, ef, hcst, e0, Result.andThen]
        exact enter24 _ _
      · refine (cMg.out w' hc).mono ?_
        rintro e w2 ⟨rfl, h2⟩
        rw [h2]
        exact ⟨rfl, hc⟩
    | 45, _ =>
      simp only [List.getElem?_toArray, List.getElem?_cons_zero, List.getElem?_cons_succ, Option.some.injEq] at hi
      subst hi
      rw [if_pos (by first | rfl | simp [wantV])]
      have e0 : ev (.tmp 122) = .bool true := hin 122 42 ⟨42, .data⟩ (by kernel_rfl) (by simp) rfl rfl (show (122 : Nat) < 126 by decide)
      have e1 : ev (.tmp 124) = .bool true := hin 124 44 ⟨44, .data⟩ (by kernel_rfl) (by simp) rfl rfl (show (124 : Nat) < 126 by decide)
      refine .inl ⟨w', ?_, hc⟩
      show _ = Result.ok (Next.value (.bool true)) w'
      simp [execOp, e0, e1, hcst, go_sem]
    | 46, _ =>
      simp only [List.getElem?_toArray, List.getElem?_cons_zero, List.getElem?_cons_succ, Option.some.injEq] at hi
      subst hi
      rw [if_pos (by first | rfl | simp [wantV])]
      have e0 : ev (.tmp 125) = .bool true := hin 125 45 ⟨45, .data⟩ (by kernel_rfl) (by simp) rfl rfl (show (125 : Nat) < 126 by decide)
      refine .inl ⟨w', ?_, hc⟩
      show _ = Result.ok (Next.value (.bool true)) w'
      simp [execOp, e0, hcst, go_sem]
  · intro w7 hc
    simp only [lexF, Act.put, List.setIfInBounds_toArray, List.set_cons_succ, List.set_cons_zero, List.getD_cons_succ, List.getD_cons_zero]
    have HEE := hide (HE.out w7 hc)
    clear hc
    go_wp2
    go_ret
    exact ⟨rfl, HEE.out⟩
end Go.Proofs.Ytbjkahdlejaheab
