/-
  Falls
-/
import Derived.WalkKit
import Derived.Below
import Derived.Test.YtbjkahdlejaheaaFa9
import Derived.Test.YtbjkahdlejaheaaRItem
namespace Go.Proofs.Ytbjkahdlejaheaa.regionFalls
open Go.RowKit Go.Deep Math
set_option linter.unusedVariables false
set_option linter.unusedSimpArgs false

set_option maxRecDepth 8000 in
set_option maxHeartbeats 40000000 in
theorem walk (z0 : It) (w : World) (hw0 : z0.fits) :
    Calls Try.prog 7 #[z0.val] w fun e w' => e = .returned (.bool true) ∧ Below w.heap.size w w' := by
  have hval : z0.val = .agg #[.string (txt z0.key), .string (txt z0.value), .int .u32 z0.flags, .int .i64 z0.exp, .int .u64 z0.ver] := rfl
  rw [hval]
  have bA := (Below.refl w.heap.size w).alloc (Nat.le_refl _) (.cells #[.string (txt z0.key), .string (txt z0.value), .int .u32 z0.flags, .int .i64 z0.exp, .int .u64 z0.ver] 36)
  have bx := Blk.new w [.string (txt z0.key), .string (txt z0.value), .int .u32 z0.flags, .int .i64 z0.exp, .int .u64 z0.ver] 36
  have ca := hide (awake_any (w.alloc (.cells #[.string (txt z0.key), .string (txt z0.value), .int .u32 z0.flags, .int .i64 z0.exp, .int .u64 z0.ver] 36)))
  obtain ⟨A, hA⟩ : ∃ A, A = w.alloc (.cells #[.string (txt z0.key), .string (txt z0.value), .int .u32 z0.flags, .int .i64 z0.exp, .int .u64 z0.ver] 36) := ⟨_, rfl⟩
  have bA' : Below w.heap.size w A := by rw [hA]; exact bA
  have bx' : Blk A w.heap.size [.string (txt z0.key), .string (txt z0.value), .int .u32 z0.flags, .int .i64 z0.exp, .int .u64 z0.ver] 36 := by rw [hA]; exact bx
  have BA := hide bA'
  have BX : Hid (∀ W, Below A.heap.size A W → Blk W w.heap.size [.string (txt z0.key), .string (txt z0.value), .int .u32 z0.flags, .int .i64 z0.exp, .int .u64 z0.ver] 36) := fun W b => bx'.same (b.block _ bx'.lt)
  have FIN : Hid (∀ W, Below A.heap.size A W → Below w.heap.size w W) := fun W b => bA'.trans (b.mono bA'.size)
  have HF := hide hw0
  have HA := hide hA
  clear bA bx hw0 bA' bx' hval
  go_enter Try.func7, Try.ntmps7
  go_wp2_with fail
  refine ca.out.mono ?_
  rintro r w1 ⟨rfl, h1⟩
  rw [← HA.out] at h1
  have B1 := hide h1
  clear h1 ca hA
  have cN := hide (new_law B1.out 8 (by omega) (by omega))
  go_wp2_with fail
  refine cN.out.mono ?_
  rintro e w2 ⟨d, F2, rfl, hl2, _⟩
  have cO := hide (open_new hl2 0 2 (by omega) (by omega) (by omega))
  clear hl2 cN
  go_wp2_with fail
  refine cO.out.mono ?_
  rintro e w4 ⟨l, m, v5, T, S, rfl, G4, hN, _⟩
  have bx4 := BX.out w4 G4.bel
  have k0 := bx4.cell (i := 0) rfl
  have k1 := bx4.cell (i := 1) rfl
  have k2 := bx4.cell (i := 2) rfl
  have k3 := bx4.cell (i := 3) rfl
  have k4 := bx4.cell (i := 4) rfl
  have HG4 := hide G4
  have HN := hide hN
  clear cO bx4 G4 hN
  cases hg : z0.good with
  | false =>
    have hgm := hg
    rw [z0.good_mayBe] at hgm
    have cB := hide (put_bad (w := w4) (l := l) (txt z0.key) (txt z0.value) z0.flags z0.exp z0.ver hgm)
    unfold itV at cB
    clear hg hgm
    generalize txt z0.key = kb at *
    generalize txt z0.value = vb at *
    go_wp2_with fail
    refine cB.out.mono ?_
    rintro e w5 ⟨rfl, b5⟩
    have BE := hide (FIN.out _ (HG4.out.below b5).bel)
    clear b5 cB
    go_wp2
    go_ret
    exact ⟨rfl, BE.out⟩
  | true =>
    have gs := good_sizes hg
    have hsz : z0.size = 32 + z0.key.length + z0.value.length := rfl
    have hc0 : T.cont = [] := by unfold Lg.cont; rw [HN.out.opn]; rfl
    have cP := hide (put_room HG4.out.lg z0 HF.out hg (by rw [hc0]; simp; omega) (by rw [HN.out.cap]; decide) (by rw [HN.out.opn]; decide))
    have HGD := hide hg
    have HGS := hide gs
    rw [show z0.val = .agg #[.string (txt z0.key), .string (txt z0.value), .int .u32 z0.flags, .int .i64 z0.exp, .int .u64 z0.ver] from rfl] at cP
    clear hg hc0 gs hsz
    go_wp2_with fail
    refine cP.out.mono ?_
    rintro e w5 ⟨rfl, v6, v7, hL5, hK5, h65, h75⟩
    have G5 := HG4.out.put hL5 hK5 h65 h75
    have cS := hide (seal_first G5 HN.out HGD.out)
    clear cP hL5 hK5 h65 h75 G5 k0 k1 k2 k3 k4
    obtain ⟨th, hth⟩ : ∃ th : Th, th = ⟨w4.heap.size, 0, z0⟩ := ⟨_, rfl⟩
    rw [← hth] at cS
    have HTH := hide hth
    clear hth
    go_wp2_with fail
    refine cS.out.mono ?_
    rintro e w6 ⟨va, vc, v56, F6, S6, rfl, G6, hcs6, hcalm6, hlos6⟩
    obtain ⟨T6, hT6⟩ : ∃ T6, T6 = (T.put th).sealed v6 1 1 := ⟨_, rfl⟩
    rw [← hT6] at G6
    have hitm : th.it = z0 := by rw [HTH.out]
    have hall6 : T6.all = [th] := by rw [hT6]; show ((T.regs ++ [_]).flatMap Rg.ths) ++ [] = _; rw [HN.out.regs]; show (T.opn ++ [th]) ++ [] ++ [] = _; rw [HN.out.opn]; rfl
    have hregs6 : T6.regs.length ≤ 100 := by rw [hT6]; show (T.regs ++ [_]).length ≤ 100; rw [HN.out.regs]; simp
    have bx6 := BX.out w6 G6.bel
    have k0 := bx6.cell (i := 0) rfl
    have hkl : z0.key.length ≤ 140737488351232 := by have := HGS.out; omega
    have cD := hide (drop_log G6.lg z0.key hkl)
    have HG6 := hide G6
    have HLF := hide G6.lowF
    have H6 := hide (And.intro hcs6 (And.intro hcalm6 (And.intro hall6 (And.intro hregs6 (And.intro hitm hkl)))))
    clear cS G6 hcs6 hcalm6 hlos6 hT6 hitm hall6 hregs6 bx6 hkl
    go_wp2_with fail
    refine cD.out.mono ?_
    rintro e w7 ⟨rfl, hL7, kp7⟩
    have hm7 : A.heap.size ≤ m := HG6.out.lowL m (by simp [lfoot])
    have hD7 : DvAt w7 d F6 S6 := HG6.out.dev.same (fun q hq => kp7.block q (HG6.out.dev.lt q hq) (fun hm => by
      simp only [List.mem_singleton] at hm
      subst hm
      exact HG6.out.lg.off HG6.out.dev q (by simp [lblocks, lfoot]) hq))
    have hb7 : Below A.heap.size A w7 := HG6.out.bel.trans (kp7.below (fun q hq => by simp only [List.mem_singleton] at hq; subst hq; exact hm7) HG6.out.bel.size)
    have bx7 := BX.out w7 hb7
    have j0 := bx7.cell (i := 0) rfl
    have cG := hide (get_none hL7 z0.key H6.out.2.2.2.2.2 (updK_same _ _ _))
    rw [show It.zero.val = .agg #[.string ⟨#[]⟩, .string ⟨#[]⟩, .int .u32 0, .int .i64 0, .int .u64 0] from rfl] at cG
    have H7 := hide (And.intro hL7 (And.intro hD7 hb7))
    clear cD hL7 kp7 hm7 hD7 hb7 bx7 k0 HG6
    go_wp2_with fail
    refine cG.out.mono ?_
    rintro e w8 ⟨rfl, b8⟩
    have b8a := b8.trans (((Below.refl w8.heap.size w8).alloc (Nat.le_refl _) (.cells #[.string ⟨#[]⟩, .string ⟨#[]⟩, .int .u32 0, .int .i64 0, .int .u64 0] 36)).mono b8.size)
    have hL8 := H7.out.1.below b8a
    have hD8 := H7.out.2.1.below b8a
    have hB8 := H7.out.2.2.trans (b8a.mono H7.out.2.2.size)
    have hreg := region_one th.it (by rw [H6.out.2.2.2.2.1]; exact HF.out) (by rw [H6.out.2.2.2.2.1]; exact HGD.out)
    rw [← H6.out.1] at hreg
    have cO2 := hide (open_log sort_one hD8 H6.out.2.1.off 0 2 (by omega) (by omega) (by rw [H6.out.1, put4_length]; decide) (by rw [hreg.1]; simp))
    have H8 := hide (And.intro hL8 (And.intro hD8 (And.intro hB8 hreg)))
    clear cG b8 b8a hL8 hD8 hB8 hreg H7 j0
    go_wp2_with fail
    refine cO2.out.mono ?_
    rintro e wa ⟨lh, mh, v5h, Th, Sh, rfl, hLh, hSh, hDh, hKh, hlowh, hnewh, hnodh, u1, u2, u3, u4, u5, u6, u7, rsh, u8, u9⟩
    rw [H8.out.2.2.2.1] at u8
    obtain ⟨t9, e1, e2, e3, e4⟩ := opened_one u8 u9 u5 u7
    have hLga := H8.out.1.dev H8.out.2.1 hKh
    have hlowF : ∀ q ∈ F6, A.heap.size ≤ q := HLF.out
    have hBa : Below A.heap.size A wa := H8.out.2.2.1.trans (hKh.below hlowF H8.out.2.2.1.size)
    have bxa := BX.out wa hBa
    have j0 := bxa.cell (i := 0) rfl
    have cG2 := hide (get_some hLh z0.key H6.out.2.2.2.2.2 t9 (hLh.ths t9 (by rw [e1]; simp)) (by rw [e3, H6.out.2.2.2.2.1]; exact updK_same _ _ _))
    rw [e2, H6.out.2.2.2.2.1, show z0.val = .agg #[.string (txt z0.key), .string (txt z0.value), .int .u32 z0.flags, .int .i64 z0.exp, .int .u64 z0.ver] from rfl] at cG2
    have Ha := hide (And.intro hLga hBa)
    clear cO2 hLh hSh hDh hKh hlowh hnewh hnodh u1 u2 u3 u4 u5 u6 u7 u8 u9 e1 e2 e3 e4 hLga hlowF hBa bxa H8
    go_wp2_with fail
    refine cG2.out.mono ?_
    rintro e wb ⟨rfl, bb⟩
    obtain ⟨wc, hwc⟩ : ∃ wc, wc = wb.alloc (.cells #[.string (txt z0.key), .string (txt z0.value), .int .u32 z0.flags, .int .i64 z0.exp, .int .u64 z0.ver] 36) := ⟨_, rfl⟩
    have bc : Below wa.heap.size wa wc := by rw [hwc]; exact bb.trans (((Below.refl wb.heap.size wb).alloc (Nat.le_refl _) _).mono bb.size)
    have hLc := Ha.out.1.below bc
    have hBc := Ha.out.2.trans (bc.mono Ha.out.2.size)
    have bxc := BX.out wc hBc
    have by2 : Blk wc wb.heap.size [.string (txt z0.key), .string (txt z0.value), .int .u32 z0.flags, .int .i64 z0.exp, .int .u64 z0.ver] 36 := by rw [hwc]; exact Blk.new wb _ 36
    have i0 := bxc.cell (i := 0) rfl
    have cM := hide (may_log hLc z0.key H6.out.2.2.2.2.2)
    rw [show ((T6.drop z0.key).has z0.key).isSome = false by show (updK T6.has z0.key none z0.key).isSome = false; rw [updK_same]; rfl] at cM
    have hitems : (T6.drop z0.key).items = [] := by
      unfold Lg.items Lg.hadOf
      rw [show (T6.drop z0.key).all = [th] from H6.out.2.2.1]
      have : (T6.drop z0.key).cur th = false := by
        unfold Lg.cur
        rw [H6.out.2.2.2.2.1, show (T6.drop z0.key).has z0.key = none from updK_same _ _ _]
        rfl
      simp [this]
    have cI := hide (items_log hLc (by rw [show (T6.drop z0.key).all = [th] from H6.out.2.2.1]; simp) H6.out.2.2.2.1)
    rw [hitems] at cI
    rw [hwc] at cM cI i0
    have HWC := hide hwc
    have Hc := hide (And.intro hBc (And.intro bxc by2))
    clear cG2 bb bc hLc hBc bxc by2 hitems hwc j0 Ha
    have heq : ∀ W, (binOp .eql 36 (.agg #[.string (txt z0.key), .string (txt z0.value), .int .u32 z0.flags, .int .i64 z0.exp, .int .u64 z0.ver]) (.agg #[.string (txt z0.key), .string (txt z0.value), .int .u32 z0.flags, .int .i64 z0.exp, .int .u64 z0.ver])).run Try.prog W = .ok (.bool true) W := fun W => by
      have := run_eql_items z0 z0 W
      rw [itEq_self] at this
      exact this
    have HEQ := hide heq
    clear heq
    go_wp2_with fail
    refine cM.out.mono ?_
    rintro e wd ⟨rfl, hd⟩
    obtain rfl := hd
    clear cM
    go_wp2_with fail
    refine cI.out.mono ?_
    rintro e we ⟨xa, xn, xc, rfl, hxn, hrowe, be⟩
    have hxn0 : xn = 0 := hxn
    subst hxn0
    rw [← HWC.out] at be
    have hBe := Hc.out.1.trans (be.mono Hc.out.1.size)
    have bxe := BX.out we hBe
    have bye : Blk we wb.heap.size [.string (txt z0.key), .string (txt z0.value), .int .u32 z0.flags, .int .i64 z0.exp, .int .u64 z0.ver] 36 := Hc.out.2.2.same (be.block _ Hc.out.2.2.lt)
    have a0 := bxe.cell (i := 0) rfl
    have a1 := bxe.cell (i := 1) rfl
    have a2 := bxe.cell (i := 2) rfl
    have a3 := bxe.cell (i := 3) rfl
    have a4 := bxe.cell (i := 4) rfl
    have c0 := bye.cell (i := 0) rfl
    have c1 := bye.cell (i := 1) rfl
    have c2 := bye.cell (i := 2) rfl
    have c3 := bye.cell (i := 3) rfl
    have c4 := bye.cell (i := 4) rfl
    have BE := hide (FIN.out _ hBe)
    have heq := HEQ.out we
    clear cI hxn hrowe be hBe bxe bye Hc i0
    generalize txt z0.key = kb at *
    generalize txt z0.value = vb at *
    go_wp2
    go_ret
    exact ⟨rfl, BE.out⟩
end Go.Proofs.Ytbjkahdlejaheaa.regionFalls
