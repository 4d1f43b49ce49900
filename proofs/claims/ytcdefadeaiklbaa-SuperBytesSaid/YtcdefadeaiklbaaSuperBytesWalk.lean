/-
  Proof of the law 'SuperBytes'.
-/
import Derived.WalkKit
import Derived.Below
import Derived.Test.YtcdefadeaiklbaaRefDec
import Derived.Test.YtcdefadeaiklbaaApp
import Derived.Test.YtcdefadeaiklbaaAny
import Derived.Deep.RegionHeld
namespace Go.Proofs.Ytcdefadeaiklbaa.superBytes
open Go.RowKit Go.Deep
set_option linter.unusedVariables false
set_option linter.unusedSimpArgs false

theorem size_of {ops : Array Oper} {a0 : Act} {n : Nat} (h : ((List.range ops.size).all fun i => match (ops[i]?).bind (·.dst) with | some t => decide (t < n) | none => true) = true) (hn : a0.tmps.size = n) : ∀ (i : Nat) (o : Oper) (t : Nat), ops[i]? = some o → o.dst = some t → t < a0.tmps.size := fun i o t ho hd => by
  have hi : i < ops.size := (Array.getElem?_eq_some_iff.1 ho).1
  have := List.all_eq_true.1 h i (List.mem_range.2 hi)
  rw [ho] at this
  simp only [Option.bind_some, hd, decide_eq_true_eq] at this
  rw [hn]
  exact this
theorem enter16 (args : Array Value) (w : World) : (callFunc 16 args).run Try.prog w = .ok (.enter 16 args) w := by go_simp
theorem neq37 (x : Bk) (W : World) : (binOp .neq 37 (.agg #[.int .u64 x.seq, .int .u64 x.epoch, .int .u64 x.res, .int .u64 x.hor, .int .u64 x.gen, .bool x.clean, .int .i64 x.image]) (.agg #[.int .u64 x.seq, .int .u64 x.epoch, .int .u64 x.res, .int .u64 x.hor, .int .u64 x.gen, .bool x.clean, .int .i64 x.image])).run Try.prog W = .ok (.bool false) W := by
  simp [go_sem]
theorem neq29z (W : World) : (binOp .neq 29 (.agg #[.int .u64 0, .int .u64 0, .int .u64 0, .int .u64 0, .int .u64 0, .bool false, .int .i64 0]) (.agg #[.int .u64 0, .int .u64 0, .int .u64 0, .int .u64 0, .int .u64 0, .bool false, .int .i64 0])).run Try.prog W = .ok (.bool false) W := by
  simp [go_sem]
set_option maxRecDepth 4000 in
set_option maxHeartbeats 4000000 in
theorem walk (z0 : Bk) (a1 : Option Addr) (len1 cap1 : Nat) (z1 : List UInt8) (w : World) (hw0 : z0.fits) (hw1 : BS w a1 len1 cap1 z1 ∧ (a1 = none → z1 = []) ∧ len1 ≤ 140737488351232) :
    Calls Try.prog 4 #[.agg #[.int .u64 z0.seq, .int .u64 z0.epoch, .int .u64 z0.res, .int .u64 z0.hor, .int .u64 z0.gen, .bool z0.clean, .int .i64 z0.image], .slice a1 len1 cap1] w fun e w' => e = .returned (.bool true) ∧ Below w.heap.size w w' := by
  have ca : Hid (∀ W : World, Calls Try.prog 9 #[] W fun e w' => e = .returned (.bool true) ∧ Below W.heap.size W w') := awake_any
  have hn := hw1.1.len
  by_cases hlen : 500 < len1
  · have hlt : ((500 : Int) < (len1 : Int)) = True := eq_true (by omega)
    clear hw0 hw1 hlen hn
    go_enter Try.func4, Try.ntmps4
    go_wp2_with fail
    refine (ca.out _).mono ?_
    rintro r w1 ⟨rfl, h1⟩
    have B1 := hide (((Below.refl w.heap.size w).alloc (Nat.le_refl _) (.cells #[.int .u64 z0.seq, .int .u64 z0.epoch, .int .u64 z0.res, .int .u64 z0.hor, .int .u64 z0.gen, .bool z0.clean, .int .i64 z0.image] 29)).trans (h1.mono (by rw [nblk_alloc]; omega)))
    clear h1 ca
    go_wp2
    go_ret
    exact ⟨rfl, B1.out⟩
  have hlt : ((500 : Int) < (len1 : Int)) = False := eq_false (by omega)
  have HW0 := hide hw0
  have HW1 := hide hw1
  have HN := hide hn
  have HL := hide hlen
  have cE := hide (encode_any z0 hw0)
  have cR := hide (refEncode_any z0 hw0)
  have cO := hide (own_any z0)
  clear hw0 hw1 hlen hn
  go_enter Try.func4, Try.ntmps4
  go_wp2_with fail
  refine (ca.out _).mono ?_
  rintro r w1 ⟨rfl, h1⟩
  have B1 := hide (((Below.refl w.heap.size w).alloc (Nat.le_refl _) (.cells #[.int .u64 z0.seq, .int .u64 z0.epoch, .int .u64 z0.res, .int .u64 z0.hor, .int .u64 z0.gen, .bool z0.clean, .int .i64 z0.image] 29)).trans (h1.mono (by rw [nblk_alloc]; omega)))
  have hx1 : Blk w1 w.heap.size (bkL z0) 29 := (Blk.new w (bkL z0) 29).same (h1.block _ (Blk.new w (bkL z0) 29).lt)
  have X1 := hide hx1
  obtain ⟨x0, x1, x2, x3, x4, x5, x6, _, _, _, _, _, _, _⟩ := cells7 hx1
  have xlt := hx1.lt
  clear h1 ca hx1
  go_wp2_with fail
  refine (cE.out _).mono ?_
  rintro r w2 ⟨gS, rfl, hg2, hbuf, hb2⟩
  have B2 := hide (B1.out.trans (hb2.mono B1.out.size))
  have X2 := hide (X1.out.same (hb2.block _ X1.out.lt))
  have S2 := hide (buf_bs (n := 64) (cap := 64) hbuf (by rw [z0.enc_length]) (Nat.le_refl _))
  clear hg2 hbuf hb2 B1 X1 x0 x1 x2 x3 x4 x5 x6 xlt
  have cS : Hid (∀ W : World, BS W (some ⟨gS, 0, none⟩) 64 64 z0.enc → (convert 34 9 (.slice (some ⟨gS, 0, none⟩) 64 64)).run Try.prog W = .ok (.string (txt z0.enc)) W) := fun W h => str_bs h (fun h => by cases h)
  obtain ⟨St, hSt⟩ : ∃ St : World → Prop, St = fun W => Below w.heap.size w W ∧ Blk W w.heap.size (bkL z0) 29 ∧ BS W (some ⟨gS, 0, none⟩) 64 64 z0.enc := ⟨_, rfl⟩
  have st2 : St w2 := by rw [hSt]; exact ⟨B2.out, X2.out, S2.out⟩
  have stB : Hid (∀ W W', St W → Below W.heap.size W W' → St W') := fun W W' h hb => by
    rw [hSt] at h ⊢
    exact ⟨h.1.trans (hb.mono h.1.size), h.2.1.same (hb.block _ h.2.1.lt), h.2.2.later hb⟩
  have stO : Hid (∀ W, St W → Below w.heap.size w W ∧ Blk W w.heap.size (bkL z0) 29 ∧ BS W (some ⟨gS, 0, none⟩) 64 64 z0.enc) := fun W h => by rw [hSt] at h; exact h
  have ST := hide st2
  clear hSt st2 B2 X2 S2
  generalize hse : txt z0.enc = se at *
  have HSE := hide hse
  clear hse
  have fS : Hid (∀ W, St W → W.cell? ⟨w.heap.size, 0, none⟩ = some (.int .u64 z0.seq) ∧ W.cell? ⟨w.heap.size, 1, none⟩ = some (.int .u64 z0.epoch) ∧ W.cell? ⟨w.heap.size, 2, none⟩ = some (.int .u64 z0.res) ∧ W.cell? ⟨w.heap.size, 3, none⟩ = some (.int .u64 z0.hor) ∧ W.cell? ⟨w.heap.size, 4, none⟩ = some (.int .u64 z0.gen) ∧ W.cell? ⟨w.heap.size, 5, none⟩ = some (.bool z0.clean) ∧ W.cell? ⟨w.heap.size, 6, none⟩ = some (.int .i64 z0.image) ∧ (convert 34 9 (.slice (some ⟨gS, 0, none⟩) 64 64)).run Try.prog W = .ok (.string se) W) := fun W h => by
    obtain ⟨_, hx, hs⟩ := stO.out W h
    obtain ⟨x0, x1, x2, x3, x4, x5, x6, _, _, _, _, _, _, _⟩ := cells7 hx
    exact ⟨x0, x1, x2, x3, x4, x5, x6, cS.out W hs⟩
  go_wp2_with fail
  replace ST := hide (stB.out _ _ ST.out (Below.refl _ _).drew)
  go_region_held (fun W => W.cell? ⟨w.heap.size, 0, none⟩ = some (.int .u64 z0.seq) ∧ W.cell? ⟨w.heap.size, 1, none⟩ = some (.int .u64 z0.epoch) ∧ W.cell? ⟨w.heap.size, 2, none⟩ = some (.int .u64 z0.res) ∧ W.cell? ⟨w.heap.size, 3, none⟩ = some (.int .u64 z0.hor) ∧ W.cell? ⟨w.heap.size, 4, none⟩ = some (.int .u64 z0.gen) ∧ W.cell? ⟨w.heap.size, 5, none⟩ = some (.bool z0.clean) ∧ W.cell? ⟨w.heap.size, 6, none⟩ = some (.int .i64 z0.image) ∧ (convert 34 9 (.slice (some ⟨gS, 0, none⟩) 64 64)).run Try.prog W = .ok (.string se) W)
    (exact fS.out _ ST.out)
    (first
      | (go_at_call 16; refine (cO.out _).mono ?_; rintro r wx ⟨rfl, hx⟩; replace ST := hide (stB.out _ _ ST.out hx); clear hx)
      | (go_at_call 15; refine (cR.out _).mono ?_; rintro r wx ⟨rfl, hx⟩; replace ST := hide (stB.out _ _ ST.out hx); clear hx))
  obtain ⟨hbw, hxw, hsw⟩ := stO.out _ ST.out
  obtain ⟨gA, cA, wA, hrA, hoA, hBA⟩ := append_copy wx a1 len1 cap1 z1 (HW1.out.1.later hbw) HW1.out.2.1 (by have := HL.out; omega)
  obtain ⟨hbA, hcA, _, _⟩ := own_bs hoA
  have HRA := hide hrA
  have STA := hide (stB.out _ _ ST.out hBA)
  have cD := hide (decode_any _ _ _ _ hcA wA hbA)
  have cP : Hid (∀ W : World, St W → (convert 34 9 (.slice a1 len1 cap1)).run Try.prog W = .ok (.string (txt z1)) W) := fun W h => str_bs (HW1.out.1.later (stO.out W h).1) HW1.out.2.1
  have cU := hide (refDecode_any z1 (by have := HL.out; have := HN.out; omega))
  generalize txt z1 = sp at *
  clear hbw hxw hsw hrA hoA hBA hbA hcA ST cO cR
  cases hdd : dec z1 with
  | none =>
    rw [hdd] at cD cU
    have cD2 : Hid (Calls Try.prog 13 #[.slice (some ⟨gA, 0, none⟩) len1 cA] wA fun e w' => e = .returned (.tuple #[.agg #[.int .u64 0, .int .u64 0, .int .u64 0, .int .u64 0, .int .u64 0, .bool false, .int .i64 0], .int .i64 3]) ∧ Below wA.heap.size wA w') := cD.out
    have cU2 : Hid (∀ W : World, Calls Try.prog 17 #[.string sp] W fun e w' => e = .returned (.tuple #[.agg #[.int .u64 0, .int .u64 0, .int .u64 0, .int .u64 0, .int .u64 0, .bool false, .int .i64 0], .bool false]) ∧ Below W.heap.size W w') := cU.out
    clear cD cU hdd
    go_wp2_with (at_builtin; refine Lib.wpList_append_run _ rfl _ _ _ _ rfl _ _ rfl rfl _ _ HRA.out ?_)
    refine cD2.out.mono ?_
    rintro r w5 ⟨rfl, hb⟩
    have ST5 := hide (stB.out _ _ STA.out hb)
    clear hb cD2 STA HRA
    have STa := hide (stB.out _ _ ST5.out ((Below.refl _ _).alloc (Nat.le_refl _) (.cells #[.int .u64 0, .int .u64 0, .int .u64 0, .int .u64 0, .int .u64 0, .bool false, .int .i64 0] 29)))
    have hP := cP.out _ STa.out
    have BX := hide (Blk.new w5 (bkL Bk.zero) 29)
    go_wp2_with fail
    refine (cU2.out _).mono ?_
    rintro r w6 ⟨rfl, hb⟩
    have ST6 := hide (stB.out _ _ STa.out hb)
    have BX6 := hide (BX.out.same (hb.block _ BX.out.lt))
    have BY6 := hide (Blk.new w6 (bkL Bk.zero) 37)
    have BX7 := hide (BX6.out.alloc (.cells #[.int .u64 0, .int .u64 0, .int .u64 0, .int .u64 0, .int .u64 0, .bool false, .int .i64 0] 37))
    have ST7 := hide (stB.out _ _ ST6.out ((Below.refl _ _).alloc (Nat.le_refl _) (.cells #[.int .u64 0, .int .u64 0, .int .u64 0, .int .u64 0, .int .u64 0, .bool false, .int .i64 0] 37)))
    clear hb hP cU2 STa BX ST5
    have xlt := BX6.out.lt
    obtain ⟨p0, p1, p2, p3, p4, p5, p6, _, _, _, _, _, _, _⟩ := cells7z BX6.out
    go_wp2_with fail
    have hq29 : ∀ W : World, (binOp .neq 29 (.agg #[.int .u64 0, .int .u64 0, .int .u64 0, .int .u64 0, .int .u64 0, .bool false, .int .i64 0]) (.agg #[.int .u64 0, .int .u64 0, .int .u64 0, .int .u64 0, .int .u64 0, .bool false, .int .i64 0])).run Try.prog W = .ok (.bool false) W := fun W => neq29z W
    go_quiet (fail)
    have ST8 : Hid (St ((w6.alloc (.cells #[.int .u64 0, .int .u64 0, .int .u64 0, .int .u64 0, .int .u64 0, .bool false, .int .i64 0] 37)).drewN nq)) := stB.out _ _ ST7.out ⟨rfl, rfl, rfl, Nat.le_refl _, fun _ _ => rfl⟩
    generalize ((w6.alloc (.cells #[.int .u64 0, .int .u64 0, .int .u64 0, .int .u64 0, .int .u64 0, .bool false, .int .i64 0] 37)).drewN nq) = w7 at *
    clear hq29 BX6 BX7 BY6 ST6 ST7 xlt p0 p1 p2 p3 p4 p5 p6
    obtain ⟨hb7, hx7, hs7⟩ := stO.out w7 ST8.out
    obtain ⟨gC, cC, wC, hrC, hoC, hBC⟩ := append_copy w7 (some ⟨gS, 0, none⟩) 64 64 z0.enc hs7 (fun h => by cases h) (by omega)
    obtain ⟨gD, cQ, wD, hrD, hoD, hBD⟩ := append_more wC w7.heap.size gC 64 cC z0.enc hoC a1 len1 cap1 z1 ((HW1.out.1.later hb7).later hBC) HW1.out.2.1 (by have := HL.out; omega) hBC.size
    obtain ⟨hbD, hcD, _, _⟩ := own_bs hoD
    have HRC := hide hrC
    have HRD := hide hrD
    have STD := hide (stB.out _ _ ST8.out (hBC.trans hBD))
    have cZ : Hid (Calls Try.prog 13 #[.slice (some ⟨gD, 0, none⟩) (64 + len1) cQ] wD fun e w' => e = .returned (.tuple #[.agg #[.int .u64 z0.seq, .int .u64 z0.epoch, .int .u64 z0.res, .int .u64 z0.hor, .int .u64 z0.gen, .bool z0.clean, .int .i64 (toldN z0.image : Nat)], .int .i64 0]) ∧ Below wD.heap.size wD w') := by
      have h := decode_any _ _ _ _ hcD wD hbD
      rw [dec_enc z0 HW0.out z1] at h
      exact h
    clear hb7 hx7 hs7 hrC hoC hBC hrD hoD hBD hbD hcD ST8
    go_wp2_with (at_builtin; first | (refine Lib.wpList_append_run _ rfl _ _ _ _ rfl _ _ rfl rfl _ _ HRC.out ?_) | (refine Lib.wpList_append_run _ rfl _ _ _ _ rfl _ _ rfl rfl _ _ HRD.out ?_))
    refine cZ.out.mono ?_
    rintro r w8 ⟨rfl, hb⟩
    have ST9 := hide (stB.out _ _ STD.out hb)
    have hx9 := (stO.out w8 ST9.out).2.1
    obtain ⟨x0, x1, x2, x3, x4, x5, x6, _, _, _, _, _, _, _⟩ := cells7 hx9
    have xl := hx9.lt
    clear hb hx9 STD HRC HRD cZ
    by_cases im0 : z0.image < 0
    · have im0' : (z0.image < 0) = True := eq_true im0
      have hT : ((toldN z0.image : Nat) : Int) = 0 := by unfold toldN; rw [if_pos (.inl im0)]; rfl
      clear im0
      go_wp2
      go_ret
      exact ⟨rfl, ((stO.out _ ST9.out).1.alloc (stO.out _ ST9.out).1.size _).alloc (Nat.le_trans (stO.out _ ST9.out).1.size (by rw [nblk_alloc]; omega)) _⟩
    · have im0' : (z0.image < 0) = False := eq_false im0
      by_cases im1 : 2147483647 < z0.image
      · have im1' : (2147483647 < z0.image) = True := eq_true im1
        have hT : ((toldN z0.image : Nat) : Int) = 0 := by unfold toldN; rw [if_pos (.inr im1)]; rfl
        clear im0 im1
        go_wp2
        go_ret
        exact ⟨rfl, ((stO.out _ ST9.out).1.alloc (stO.out _ ST9.out).1.size _).alloc (Nat.le_trans (stO.out _ ST9.out).1.size (by rw [nblk_alloc]; omega)) _⟩
      · have im1' : (2147483647 < z0.image) = False := eq_false im1
        have hT : ((toldN z0.image : Nat) : Int) = z0.image := by unfold toldN; rw [if_neg (by omega)]; omega
        clear im0 im1
        go_wp2
        go_ret
        exact ⟨rfl, ((stO.out _ ST9.out).1.alloc (stO.out _ ST9.out).1.size _).alloc (Nat.le_trans (stO.out _ ST9.out).1.size (by rw [nblk_alloc]; omega)) _⟩
  | some x =>
    rw [hdd] at cD cU
    have cD2 : Hid (Calls Try.prog 13 #[.slice (some ⟨gA, 0, none⟩) len1 cA] wA fun e w' => e = .returned (.tuple #[.agg #[.int .u64 x.seq, .int .u64 x.epoch, .int .u64 x.res, .int .u64 x.hor, .int .u64 x.gen, .bool x.clean, .int .i64 x.image], .int .i64 0]) ∧ Below wA.heap.size wA w') := cD.out
    have cU2 : Hid (∀ W : World, Calls Try.prog 17 #[.string sp] W fun e w' => e = .returned (.tuple #[.agg #[.int .u64 x.seq, .int .u64 x.epoch, .int .u64 x.res, .int .u64 x.hor, .int .u64 x.gen, .bool x.clean, .int .i64 x.image], .bool true]) ∧ Below W.heap.size W w') := cU.out
    clear cD cU hdd
    go_wp2_with (at_builtin; refine Lib.wpList_append_run _ rfl _ _ _ _ rfl _ _ rfl rfl _ _ HRA.out ?_)
    refine cD2.out.mono ?_
    rintro r w5 ⟨rfl, hb⟩
    have ST5 := hide (stB.out _ _ STA.out hb)
    clear hb cD2 STA HRA
    have STa := hide (stB.out _ _ ST5.out ((Below.refl _ _).alloc (Nat.le_refl _) (.cells #[.int .u64 x.seq, .int .u64 x.epoch, .int .u64 x.res, .int .u64 x.hor, .int .u64 x.gen, .bool x.clean, .int .i64 x.image] 29)))
    have hP := cP.out _ STa.out
    have BX := hide (Blk.new w5 (bkL x) 29)
    go_wp2_with fail
    refine (cU2.out _).mono ?_
    rintro r w6 ⟨rfl, hb⟩
    have ST6 := hide (stB.out _ _ STa.out hb)
    have BX6 := hide (BX.out.same (hb.block _ BX.out.lt))
    have BY6 := hide (Blk.new w6 (bkL x) 37)
    have BX7 := hide (BX6.out.alloc (.cells #[.int .u64 x.seq, .int .u64 x.epoch, .int .u64 x.res, .int .u64 x.hor, .int .u64 x.gen, .bool x.clean, .int .i64 x.image] 37))
    have ST7 := hide (stB.out _ _ ST6.out ((Below.refl _ _).alloc (Nat.le_refl _) (.cells #[.int .u64 x.seq, .int .u64 x.epoch, .int .u64 x.res, .int .u64 x.hor, .int .u64 x.gen, .bool x.clean, .int .i64 x.image] 37)))
    clear hb hP cU2 STa BX ST5
    have xlt := BX6.out.lt
    obtain ⟨p0, p1, p2, p3, p4, p5, p6⟩ := cells7_at BX6.out
    have cO2 := hide (own_any x)
    go_wp2_with fail
    replace ST7 := hide (stB.out _ _ ST7.out (Below.refl _ _).drew)
    have hq37 : ∀ W : World, (binOp .neq 37 (.agg #[.int .u64 x.seq, .int .u64 x.epoch, .int .u64 x.res, .int .u64 x.hor, .int .u64 x.gen, .bool x.clean, .int .i64 x.image]) (.agg #[.int .u64 x.seq, .int .u64 x.epoch, .int .u64 x.res, .int .u64 x.hor, .int .u64 x.gen, .bool x.clean, .int .i64 x.image])).run Try.prog W = .ok (.bool false) W := fun W => neq37 x W
    clear p0 p1 p2 p3 p4 p5 p6
    refine wp_region_guard (by kernel_rfl) (by kernel_rfl) (fun i => ([.int .i64 0, .bool true, .bool true, .bool false, .bool false, .bool true, .bool false, .bool false, undef, undef, undef, undef, undef, undef, undef, .bool false, .bool false, .bool false, .bool true, .bool true, .agg #[.int .u64 x.seq, .int .u64 x.epoch, .int .u64 x.res, .int .u64 x.hor, .int .u64 x.gen, .bool x.clean, .int .i64 x.image], .agg #[.int .u64 x.seq, .int .u64 x.epoch, .int .u64 x.res, .int .u64 x.hor, .int .u64 x.gen, .bool x.clean, .int .i64 x.image], .agg #[.int .u64 x.seq, .int .u64 x.epoch, .int .u64 x.res, .int .u64 x.hor, .int .u64 x.gen, .bool x.clean, .int .i64 x.image], .bool false, .bool false, .bool false] : List Value).getD i undef) (fun W => St W ∧ Blk W w5.heap.size (bkL x) 29 ∧ Blk W w6.heap.size (bkL x) 37) (size_of (n := 91) (by kernel_rfl) rfl) ⟨ST7.out, BX7.out, BY6.out⟩ ?_ ?_
    · intro i o hi w' ev hc hin hout hcst hfn
      have hlt : i < 26 := by
        have := (Array.getElem?_eq_some_iff.1 hi).1
        simpa using this
      match i, hlt with
      | 0, _ =>
        simp only [List.getElem?_toArray, List.getElem?_cons_zero, List.getElem?_cons_succ, Option.some.injEq] at hi
        subst hi
        rw [if_pos (by simp [wantV])]
        have e0 : ev (.tmp 7) = .int .i64 0 := hout 7 (by kernel_rfl) (show (7 : Nat) < 91 by decide)
        refine .inl ⟨w', ?_, hc⟩
        show _ = Result.ok (Next.value (.int .i64 0)) w'
        simp [execOp, e0, hcst, go_sem]
      | 1, _ =>
        simp only [List.getElem?_toArray, List.getElem?_cons_zero, List.getElem?_cons_succ, Option.some.injEq] at hi
        subst hi
        rw [if_pos (by simp [wantV])]
        have e0 : ev (.tmp 39) = .int .i64 0 := hin 39 0 ⟨0, .data⟩ (by kernel_rfl) (by simp) rfl rfl (show (39 : Nat) < 91 by decide)
        refine .inl ⟨w', ?_, hc⟩
        show _ = Result.ok (Next.value (.bool true)) w'
        simp [execOp, e0, hcst, go_sem]
      | 2, _ =>
        simp only [List.getElem?_toArray, List.getElem?_cons_zero, List.getElem?_cons_succ, Option.some.injEq] at hi
        subst hi
        rw [if_pos (by simp [wantV])]
        have e0 : ev (.tmp 9) = .bool true := hout 9 (by kernel_rfl) (show (9 : Nat) < 91 by decide)
        refine .inl ⟨w', ?_, hc⟩
        show _ = Result.ok (Next.value (.bool true)) w'
        simp [execOp, e0, hcst, go_sem]
      | 3, _ =>
        simp only [List.getElem?_toArray, List.getElem?_cons_zero, List.getElem?_cons_succ, Option.some.injEq] at hi
        subst hi
        rw [if_pos (by simp [wantV])]
        have e0 : ev (.tmp 40) = .bool true := hin 40 1 ⟨1, .data⟩ (by kernel_rfl) (by simp) rfl rfl (show (40 : Nat) < 91 by decide)
        have e1 : ev (.tmp 41) = .bool true := hin 41 2 ⟨2, .data⟩ (by kernel_rfl) (by simp) rfl rfl (show (41 : Nat) < 91 by decide)
        refine .inl ⟨w', ?_, hc⟩
        show _ = Result.ok (Next.value (.bool false)) w'
        simp [execOp, e0, e1, hcst, go_sem]
      | 4, _ =>
        simp only [List.getElem?_toArray, List.getElem?_cons_zero, List.getElem?_cons_succ, Option.some.injEq] at hi
        subst hi
        rw [if_pos (by simp [wantV])]
        have e0 : ev (.tmp 42) = .bool false := hin 42 3 ⟨3, .data⟩ (by kernel_rfl) (by simp) rfl rfl (show (42 : Nat) < 91 by decide)
        refine .inl ⟨w', ?_, hc⟩
        show _ = Result.ok (Next.value (.bool false)) w'
        simp [execOp, e0, hcst, go_sem]
      | 5, _ =>
        simp only [List.getElem?_toArray, List.getElem?_cons_zero, List.getElem?_cons_succ, Option.some.injEq] at hi
        subst hi
        rw [if_pos (by simp [wantV])]
        have e0 : ev (.tmp 9) = .bool true := hout 9 (by kernel_rfl) (show (9 : Nat) < 91 by decide)
        refine .inl ⟨w', ?_, hc⟩
        show _ = Result.ok (Next.value (.bool true)) w'
        simp [execOp, e0, hcst, go_sem]
      | 6, _ =>
        simp only [List.getElem?_toArray, List.getElem?_cons_zero, List.getElem?_cons_succ, Option.some.injEq] at hi
        subst hi
        rw [if_pos (by simp [wantV])]
        have e0 : ev (.tmp 44) = .bool true := hin 44 5 ⟨5, .data⟩ (by kernel_rfl) (by simp) rfl rfl (show (44 : Nat) < 91 by decide)
        refine .inl ⟨w', ?_, hc⟩
        show _ = Result.ok (Next.value (.bool false)) w'
        simp [execOp, e0, hcst, go_sem]
      | 7, _ =>
        simp only [List.getElem?_toArray, List.getElem?_cons_zero, List.getElem?_cons_succ, Option.some.injEq] at hi
        subst hi
        rw [if_pos (by simp [wantV])]
        have e0 : ev (.tmp 45) = .bool false := hin 45 6 ⟨6, .data⟩ (by kernel_rfl) (by simp) rfl rfl (show (45 : Nat) < 91 by decide)
        refine .inl ⟨w', ?_, hc⟩
        show _ = Result.ok (Next.value (.bool false)) w'
        simp [execOp, e0, hcst, go_sem]
      | 8, _ =>
        simp only [List.getElem?_toArray, List.getElem?_cons_zero, List.getElem?_cons_succ, Option.some.injEq] at hi
        subst hi
        rw [if_neg (by first | (simp [wantV]; done) | (simp [wantV]; rfl))]
        rfl
      | 9, _ =>
        simp only [List.getElem?_toArray, List.getElem?_cons_zero, List.getElem?_cons_succ, Option.some.injEq] at hi
        subst hi
        rw [if_neg (by first | (simp [wantV]; done) | (simp [wantV]; rfl))]
        rfl
      | 10, _ =>
        simp only [List.getElem?_toArray, List.getElem?_cons_zero, List.getElem?_cons_succ, Option.some.injEq] at hi
        subst hi
        rw [if_neg (by first | (simp [wantV]; done) | (simp [wantV]; rfl))]
        rfl
      | 11, _ =>
        simp only [List.getElem?_toArray, List.getElem?_cons_zero, List.getElem?_cons_succ, Option.some.injEq] at hi
        subst hi
        rw [if_neg (by first | (simp [wantV]; done) | (simp [wantV]; rfl))]
        rfl
      | 12, _ =>
        simp only [List.getElem?_toArray, List.getElem?_cons_zero, List.getElem?_cons_succ, Option.some.injEq] at hi
        subst hi
        rw [if_neg (by first | (simp [wantV]; done) | (simp [wantV]; rfl))]
        rfl
      | 13, _ =>
        simp only [List.getElem?_toArray, List.getElem?_cons_zero, List.getElem?_cons_succ, Option.some.injEq] at hi
        subst hi
        rw [if_neg (by first | (simp [wantV]; done) | (simp [wantV]; rfl))]
        rfl
      | 14, _ =>
        simp only [List.getElem?_toArray, List.getElem?_cons_zero, List.getElem?_cons_succ, Option.some.injEq] at hi
        subst hi
        rw [if_neg (by first | (simp [wantV]; done) | (simp [wantV]; rfl))]
        rfl
      | 15, _ =>
        simp only [List.getElem?_toArray, List.getElem?_cons_zero, List.getElem?_cons_succ, Option.some.injEq] at hi
        subst hi
        rw [if_pos (by simp [wantV])]
        have e0 : ev (.tmp 46) = .bool false := hin 46 7 ⟨7, .data⟩ (by kernel_rfl) (by simp) rfl rfl (show (46 : Nat) < 91 by decide)
        have e1 : ev (.tmp 53) = undef := hin 53 14 ⟨14, .data⟩ (by kernel_rfl) (by simp) rfl rfl (show (53 : Nat) < 91 by decide)
        refine .inl ⟨w', ?_, hc⟩
        show _ = Result.ok (Next.value (.bool false)) w'
        simp [execOp, e0, e1, hcst, go_sem]
      | 16, _ =>
        simp only [List.getElem?_toArray, List.getElem?_cons_zero, List.getElem?_cons_succ, Option.some.injEq] at hi
        subst hi
        rw [if_pos (by simp [wantV])]
        have e0 : ev (.tmp 43) = .bool false := hin 43 4 ⟨4, .data⟩ (by kernel_rfl) (by simp) rfl rfl (show (43 : Nat) < 91 by decide)
        have e1 : ev (.tmp 54) = .bool false := hin 54 15 ⟨15, .data⟩ (by kernel_rfl) (by simp) rfl rfl (show (54 : Nat) < 91 by decide)
        refine .inl ⟨w', ?_, hc⟩
        show _ = Result.ok (Next.value (.bool false)) w'
        simp [execOp, e0, e1, hcst, go_sem]
      | 17, _ =>
        simp only [List.getElem?_toArray, List.getElem?_cons_zero, List.getElem?_cons_succ, Option.some.injEq] at hi
        subst hi
        rw [if_pos (by simp [wantV])]
        have e0 : ev (.tmp 55) = .bool false := hin 55 16 ⟨16, .data⟩ (by kernel_rfl) (by simp) rfl rfl (show (55 : Nat) < 91 by decide)
        refine .inl ⟨w', ?_, hc⟩
        show _ = Result.ok (Next.value (.bool false)) w'
        simp [execOp, e0, hcst, go_sem]
      | 18, _ =>
        simp only [List.getElem?_toArray, List.getElem?_cons_zero, List.getElem?_cons_succ, Option.some.injEq] at hi
        subst hi
        rw [if_pos (by simp [wantV])]
        have e0 : ev (.tmp 9) = .bool true := hout 9 (by kernel_rfl) (show (9 : Nat) < 91 by decide)
        refine .inl ⟨w', ?_, hc⟩
        show _ = Result.ok (Next.value (.bool true)) w'
        simp [execOp, e0, hcst, go_sem]
      | 19, _ =>
        simp only [List.getElem?_toArray, List.getElem?_cons_zero, List.getElem?_cons_succ, Option.some.injEq] at hi
        subst hi
        rw [if_pos (by simp [wantV])]
        have e0 : ev (.tmp 57) = .bool true := hin 57 18 ⟨18, .data⟩ (by kernel_rfl) (by simp) rfl rfl (show (57 : Nat) < 91 by decide)
        refine .inl ⟨w', ?_, hc⟩
        show _ = Result.ok (Next.value (.bool true)) w'
        simp [execOp, e0, hcst, go_sem]
      | 20, _ =>
        simp only [List.getElem?_toArray, List.getElem?_cons_zero, List.getElem?_cons_succ, Option.some.injEq] at hi
        subst hi
        rw [if_pos (by simp [wantV])]
        have e0 : ev (.tmp 6) = .pointer (some ⟨w5.heap.size, 0, none⟩) := hout 6 (by kernel_rfl) (show (6 : Nat) < 91 by decide)
        refine .inl ⟨w', ?_, hc⟩
        show _ = Result.ok (Next.value (.agg #[.int .u64 x.seq, .int .u64 x.epoch, .int .u64 x.res, .int .u64 x.hor, .int .u64 x.gen, .bool x.clean, .int .i64 x.image])) w'
        obtain ⟨x0, x1, x2, x3, x4, x5, x6⟩ := cells7_at hc.2.1
        simp only [execOp, e0]
        go_simp
      | 21, _ =>
        simp only [List.getElem?_toArray, List.getElem?_cons_zero, List.getElem?_cons_succ, Option.some.injEq] at hi
        subst hi
        rw [if_pos (by simp [wantV])]
        have e0 : ev (.tmp 59) = .agg #[.int .u64 x.seq, .int .u64 x.epoch, .int .u64 x.res, .int .u64 x.hor, .int .u64 x.gen, .bool x.clean, .int .i64 x.image] := hin 59 20 ⟨20, .data⟩ (by kernel_rfl) (by simp) rfl rfl (show (59 : Nat) < 91 by decide)
        refine .inr (.inr ⟨16, #[.agg #[.int .u64 x.seq, .int .u64 x.epoch, .int .u64 x.res, .int .u64 x.hor, .int .u64 x.gen, .bool x.clean, .int .i64 x.image]], ?_, ?_⟩)
        · have e2 := hfn 16
          simp [execOp, resolve, invoke, e2, e0, Result.andThen]
          exact enter16 _ _
        · refine (own_any x w').mono ?_
          rintro r w2 ⟨rfl, hb⟩
          exact ⟨rfl, stB.out _ _ hc.1 hb, hc.2.1.same (hb.block _ hc.2.1.lt), hc.2.2.same (hb.block _ hc.2.2.lt)⟩
      | 22, _ =>
        simp only [List.getElem?_toArray, List.getElem?_cons_zero, List.getElem?_cons_succ, Option.some.injEq] at hi
        subst hi
        rw [if_pos (by simp [wantV])]
        have e0 : ev (.tmp 8) = .pointer (some ⟨w6.heap.size, 0, none⟩) := hout 8 (by kernel_rfl) (show (8 : Nat) < 91 by decide)
        refine .inl ⟨w', ?_, hc⟩
        show _ = Result.ok (Next.value (.agg #[.int .u64 x.seq, .int .u64 x.epoch, .int .u64 x.res, .int .u64 x.hor, .int .u64 x.gen, .bool x.clean, .int .i64 x.image])) w'
        obtain ⟨x0, x1, x2, x3, x4, x5, x6⟩ := cells7_at hc.2.2
        simp only [execOp, e0]
        go_simp
      | 23, _ =>
        simp only [List.getElem?_toArray, List.getElem?_cons_zero, List.getElem?_cons_succ, Option.some.injEq] at hi
        subst hi
        rw [if_pos (by simp [wantV])]
        have e0 : ev (.tmp 60) = .agg #[.int .u64 x.seq, .int .u64 x.epoch, .int .u64 x.res, .int .u64 x.hor, .int .u64 x.gen, .bool x.clean, .int .i64 x.image] := hin 60 21 ⟨21, .data⟩ (by kernel_rfl) (by simp) rfl rfl (show (60 : Nat) < 91 by decide)
        have e1 : ev (.tmp 61) = .agg #[.int .u64 x.seq, .int .u64 x.epoch, .int .u64 x.res, .int .u64 x.hor, .int .u64 x.gen, .bool x.clean, .int .i64 x.image] := hin 61 22 ⟨22, .data⟩ (by kernel_rfl) (by simp) rfl rfl (show (61 : Nat) < 91 by decide)
        refine .inl ⟨w', ?_, hc⟩
        show _ = Result.ok (Next.value (.bool false)) w'
        simp [execOp, e0, e1, hcst, go_sem]
      | 24, _ =>
        simp only [List.getElem?_toArray, List.getElem?_cons_zero, List.getElem?_cons_succ, Option.some.injEq] at hi
        subst hi
        rw [if_pos (by simp [wantV])]
        have e0 : ev (.tmp 58) = .bool true := hin 58 19 ⟨19, .data⟩ (by kernel_rfl) (by simp) rfl rfl (show (58 : Nat) < 91 by decide)
        have e1 : ev (.tmp 62) = .bool false := hin 62 23 ⟨23, .data⟩ (by kernel_rfl) (by simp) rfl rfl (show (62 : Nat) < 91 by decide)
        refine .inl ⟨w', ?_, hc⟩
        show _ = Result.ok (Next.value (.bool false)) w'
        simp [execOp, e0, e1, hcst, go_sem]
      | 25, _ =>
        simp only [List.getElem?_toArray, List.getElem?_cons_zero, List.getElem?_cons_succ, Option.some.injEq] at hi
        subst hi
        rw [if_pos (by simp [wantV])]
        have e0 : ev (.tmp 56) = .bool false := hin 56 17 ⟨17, .data⟩ (by kernel_rfl) (by simp) rfl rfl (show (56 : Nat) < 91 by decide)
        have e1 : ev (.tmp 63) = .bool false := hin 63 24 ⟨24, .data⟩ (by kernel_rfl) (by simp) rfl rfl (show (63 : Nat) < 91 by decide)
        refine .inl ⟨w', ?_, hc⟩
        show _ = Result.ok (Next.value (.bool false)) w'
        simp [execOp, e0, e1, hcst, go_sem]
    · intro w7 hc
      simp only [lexF, Act.put, List.setIfInBounds_toArray, List.set_cons_succ, List.set_cons_zero, List.getD_cons_succ, List.getD_cons_zero]
      have ST8 := hide hc.1
      clear hc
      clear hq37 BX6 BX7 BY6 ST6 ST7 xlt
      obtain ⟨hb7, hx7, hs7⟩ := stO.out w7 ST8.out
      obtain ⟨gC, cC, wC, hrC, hoC, hBC⟩ := append_copy w7 (some ⟨gS, 0, none⟩) 64 64 z0.enc hs7 (fun h => by cases h) (by omega)
      obtain ⟨gD, cQ, wD, hrD, hoD, hBD⟩ := append_more wC w7.heap.size gC 64 cC z0.enc hoC a1 len1 cap1 z1 ((HW1.out.1.later hb7).later hBC) HW1.out.2.1 (by have := HL.out; omega) hBC.size
      obtain ⟨hbD, hcD, _, _⟩ := own_bs hoD
      have HRC := hide hrC
      have HRD := hide hrD
      have STD := hide (stB.out _ _ ST8.out (hBC.trans hBD))
      have cZ : Hid (Calls Try.prog 13 #[.slice (some ⟨gD, 0, none⟩) (64 + len1) cQ] wD fun e w' => e = .returned (.tuple #[.agg #[.int .u64 z0.seq, .int .u64 z0.epoch, .int .u64 z0.res, .int .u64 z0.hor, .int .u64 z0.gen, .bool z0.clean, .int .i64 (toldN z0.image : Nat)], .int .i64 0]) ∧ Below wD.heap.size wD w') := by
        have h := decode_any _ _ _ _ hcD wD hbD
        rw [dec_enc z0 HW0.out z1] at h
        exact h
      clear hb7 hx7 hs7 hrC hoC hBC hrD hoD hBD hbD hcD ST8
      go_wp2_with (at_builtin; first | (refine Lib.wpList_append_run _ rfl _ _ _ _ rfl _ _ rfl rfl _ _ HRC.out ?_) | (refine Lib.wpList_append_run _ rfl _ _ _ _ rfl _ _ rfl rfl _ _ HRD.out ?_))
      refine cZ.out.mono ?_
      rintro r w8 ⟨rfl, hb⟩
      have ST9 := hide (stB.out _ _ STD.out hb)
      have hx9 := (stO.out w8 ST9.out).2.1
      obtain ⟨x0, x1, x2, x3, x4, x5, x6, _, _, _, _, _, _, _⟩ := cells7 hx9
      have xl := hx9.lt
      clear hb hx9 STD HRC HRD cZ
      by_cases im0 : z0.image < 0
      · have im0' : (z0.image < 0) = True := eq_true im0
        have hT : ((toldN z0.image : Nat) : Int) = 0 := by unfold toldN; rw [if_pos (.inl im0)]; rfl
        clear im0
        go_wp2
        go_ret
        exact ⟨rfl, ((stO.out _ ST9.out).1.alloc (stO.out _ ST9.out).1.size _).alloc (Nat.le_trans (stO.out _ ST9.out).1.size (by rw [nblk_alloc]; omega)) _⟩
      · have im0' : (z0.image < 0) = False := eq_false im0
        by_cases im1 : 2147483647 < z0.image
        · have im1' : (2147483647 < z0.image) = True := eq_true im1
          have hT : ((toldN z0.image : Nat) : Int) = 0 := by unfold toldN; rw [if_pos (.inr im1)]; rfl
          clear im0 im1
          go_wp2
          go_ret
          exact ⟨rfl, ((stO.out _ ST9.out).1.alloc (stO.out _ ST9.out).1.size _).alloc (Nat.le_trans (stO.out _ ST9.out).1.size (by rw [nblk_alloc]; omega)) _⟩
        · have im1' : (2147483647 < z0.image) = False := eq_false im1
          have hT : ((toldN z0.image : Nat) : Int) = z0.image := by unfold toldN; rw [if_neg (by omega)]; omega
          clear im0 im1
          go_wp2
          go_ret
          exact ⟨rfl, ((stO.out _ ST9.out).1.alloc (stO.out _ ST9.out).1.size _).alloc (Nat.le_trans (stO.out _ ST9.out).1.size (by rw [nblk_alloc]; omega)) _⟩
end Go.Proofs.Ytcdefadeaiklbaa.superBytes
