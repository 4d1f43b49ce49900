/- Texts joined: RTakeC. -/
import Derived.Test.YtbccnfbombgdmaaGreatJ07
/- 'Take' of a record. -/
set_option linter.unusedVariables false
set_option linter.unusedSimpArgs false
set_option maxRecDepth 100000
namespace Go.Proofs.YtbccnfbombgdmaaGreat
open Go.RowKit Go.Deep Math

set_option maxHeartbeats 4000000 in
theorem take_good1 (a : Option Addr) (n cap : Nat) (l : List UInt8) (hcap : cap ≤ 9223372036854775807) (w : World) (h : BS w a n cap l) (hE : ended l = false) (hF : form1 l = true) (hF2 : form2 l = true) (hce0 : ¬ cap = 32 + tkKey l) :
    Calls Tryz.prog 82 #[.slice a n cap] w fun e w' => e = .returned (tkV (.ok (tkItem l) (tkLen l))) ∧ Below w.heap.size w w' := by
  have HCE := hide hce0
  clear hce0
  have hnl := h.len
  have hcp := h.cap
  obtain ⟨f1, f2, f3⟩ := form1_of hF
  have ce := hide (fun (W : World) (hW : W.heap = (w.alloc zeroBox).heap) => ended_any a n cap l W ((h.later ((Below.refl _ _).alloc (Nat.le_refl _) _)).heap hW))
  rw [hE] at ce
  obtain ⟨b, off, rfl, hb, hc0⟩ := h.cell 0 (by omega)
  obtain ⟨b', off', ha, _, hc3⟩ := h.cell 3 (by omega)
  simp only [Option.some.injEq, Addr.mk.injEq, and_true] at ha
  obtain ⟨rfl, rfl⟩ := ha
  rw [f2] at hc3
  have hc3' : w.cell? ⟨b, off + 3, none⟩ = some (.int .u8 82) := hc3
  rw [Nat.add_zero] at hc0
  have L : Look w (w.alloc zeroBox) b off n cap l := ⟨h.later ((Below.refl _ _).alloc (Nat.le_refl _) _), by omega⟩
  obtain ⟨UU, hUU⟩ : ∃ UU : Nat → Nat → Nat, UU = fun i m => up (sl l i (i + m)) := ⟨_, rfl⟩
  have cA : Hid (∀ (W : World) (i m c : Nat), W.heap = (w.alloc zeroBox).heap → i + m ≤ n → m ≤ 8 → m ≤ c → Calls Tryz.prog 95 #[.slice (some ⟨b, off + i, none⟩) m c] W fun e w' => e = .returned (.int .u64 (UU i m : Int)) ∧ w' = W) := fun W i m c hW h1 h2 h3 => by
    rw [hUU]
    exact L.number i (i + m) c (by omega) h1 (by omega) (by omega) hW m (off + i) (by omega) rfl
  have u24 : up (sl l 24 28) = UU 24 4 := by rw [hUU]
  have u1 : up (sl l 1 3) = UU 1 2 := by rw [hUU]
  have u16 : up (sl l 16 24) = UU 16 8 := by rw [hUU]
  have u28 : up (sl l 28 32) = UU 28 4 := by rw [hUU]
  have cc := hide (fun (W : World) (hW : W.heap = (w.alloc zeroBox).heap) => L.crc 0 24 cap (by omega) (by omega) (by omega) (by omega) hW 24 off rfl rfl)
  have hcl := crcN_lt (sl l 0 24)
  rw [← f3] at cc hcl
  rw [u24] at cc hcl
  have hcw : IntKind.u64.wrap (UU 24 4 : Int) = (UU 24 4 : Int) := by rw [IntKind.wrap_u64]; omega
  have hx0 := (l.getD 0 0).toNat_lt
  have hv0 : up (sl l 1 3) ≤ 65535 := by have := up_lt (sl l 1 3); rw [sl_length _ _ _ (by omega)] at this; simp at this; omega
  have eF : form2 l = (mayBe (tkKey l) (tkVal l) (tkVer l) && decide (tkLen l ≤ l.length) && decide (up (sl l 28 32) = crcN (sl l 32 (tkLen l)))) := rfl
  have ek : tkKey l = (l.getD 0 0).toNat := rfl
  have ev : tkVal l = up (sl l 1 3) := rfl
  have er : tkVer l = up (sl l 16 24) := rfl
  have el : tkLen l = 32 + tkKey l + tkVal l := rfl
  have cm := hide (mayBe_any (tkKey l) (tkVal l) (tkVer l))
  have cc2 : Hid (∀ (W : World) (m : Nat), W.heap = (w.alloc zeroBox).heap → m = tkKey l + tkVal l → tkLen l ≤ n → Calls Tryz.prog 96 #[.slice (some ⟨b, off + 32, none⟩) m (cap - 32)] W fun e w' => e = .returned (.int .u32 (crcN (sl l 32 (tkLen l)) : Int)) ∧ w' = W) := fun W m hW hm hle =>
    L.crc 32 (tkLen l) (cap - 32) (by omega) hle (by omega) (by omega) hW m (off + 32) (by omega) rfl
  have hi32 : (32 : Int) ≤ (n : Int) := by omega
  have hlt : ((n : Int) < 32) = False := eq_false (by omega)
  have hi3 : (3 : Int) < (n : Int) := by omega
  have hi0 : 0 < n := by omega
  have hc32 : (32 : Int) ≤ (cap : Int) := by omega
  have hc28 : (28 : Int) ≤ (cap : Int) := by omega
  have hc24 : (24 : Int) ≤ (cap : Int) := by omega
  have hcc3 : (3 : Int) ≤ (cap : Int) := by omega
  rw [← ek] at hc0 hx0
  rw [← ev] at hv0
  rw [eF] at hF2
  have HEL := hide el
  have hcl2 := crcN_lt (sl l 32 (tkLen l))
  obtain ⟨n32, hn32⟩ : ∃ x, x = l.length := ⟨_, rfl⟩
  generalize crcN (sl l 32 (tkLen l)) = cq at cc2 hF2 hcl2
  rw [u28] at hF2
  rw [u1] at ev
  rw [u16] at er
  generalize hk : tkKey l = k at *
  rw [ev] at hv0 cm cc2 HEL hF2
  rw [er] at cm hF2
  have HNL := hide hnl
  have HCL := hide hcl
  have HCL2 := hide hcl2
  have HF1 := hide f1
  have LL := hide L
  have F0 : (tkItem l).flags = UU 4 4 := by show up (sl l 4 8) = _; rw [hUU]
  have X0 : (tkItem l).exp = i64 (UU 8 8) := by show i64 (up (sl l 8 16)) = _; rw [hUU]
  have R0 : (tkItem l).ver = UU 16 8 := by show tkVer l = _; rw [er]
  have F1 : UU 4 4 < 4294967296 := by rw [hUU]; have := up_lt (sl l 4 (4 + 4)); rw [sl_length _ _ _ (by omega)] at this; exact this
  have X1 : UU 8 8 < 18446744073709551616 := by rw [hUU]; have := up_lt (sl l 8 (8 + 8)); rw [sl_length _ _ _ (by omega)] at this; exact this
  have KB0 : (tkItem l).key = sl l 32 (32 + k) := by show sl l 32 (32 + tkKey l) = _; rw [hk]
  have VB0 : (tkItem l).value = sl l (32 + k) (32 + k + UU 1 2) := by show sl l (32 + tkKey l) (tkLen l) = _; rw [hk, HEL.out]
  obtain ⟨kb, hkb⟩ : ∃ kb, kb = txt (sl l 32 (32 + k)) := ⟨_, rfl⟩
  obtain ⟨vb, hvb⟩ : ∃ vb, vb = txt (sl l (32 + k) (32 + k + UU 1 2)) := ⟨_, rfl⟩
  have EV : Hid (tkV (.ok (tkItem l) (tkLen l)) = .tuple #[.agg #[.string kb, .string vb, .int .u32 (IntKind.u32.wrap (UU 4 4 : Int)), .int .i64 (IntKind.i64.wrap (UU 8 8 : Int)), .int .u64 (UU 16 8 : Int)], .int .i64 ((32 : Int) + (k : Int) + (UU 1 2 : Int)), .int .i64 0]) := by
    show Value.tuple #[itV (txt (tkItem l).key) (txt (tkItem l).value) ((tkItem l).flags : Int) (tkItem l).exp ((tkItem l).ver : Int), .int .i64 (tkLen l : Int), .int .i64 0] = _
    have e1 : IntKind.u32.wrap (UU 4 4 : Int) = (UU 4 4 : Int) := by rw [IntKind.wrap_u32']; omega
    have e2 : IntKind.i64.wrap (UU 8 8 : Int) = i64 (UU 8 8) := by rw [IntKind.wrap_i64]; unfold i64; split <;> omega
    have e3 : (tkLen l : Int) = (32 : Int) + (k : Int) + (UU 1 2 : Int) := by rw [HEL.out]; omega
    rw [KB0, VB0, F0, X0, R0, e1, e2, e3, ← hkb, ← hvb]
    rfl
  clear F0 X0 R0 F1 X1
  have KB := hide hkb
  have VB := hide hvb
  have KB1 := hide KB0
  have VB1 := hide VB0
  clear hkb hvb KB0 VB0
  clear hk eF ek ev er h hE hF f2 f3 hc3 L u24 u1 u16 u28 hUU hnl hcl hcl2 f1 hn32 n32 el
  have e1 : ¬ cap = 1 := by omega
  have e16 : ¬ cap = 16 := by omega
  have e28 : ¬ cap = 28 := by omega
  have e24 : ¬ cap = 24 := by omega
  have hwk : IntKind.i64.wrap (k : Int) = (k : Int) := by rw [IntKind.wrap_i64]; omega
  have hwv : IntKind.i64.wrap (UU 1 2 : Int) = (UU 1 2 : Int) := by rw [IntKind.wrap_i64]; omega
  have hk255 : k ≤ 255 := by omega
  simp only [Bool.and_eq_true, decide_eq_true_eq] at hF2
  obtain ⟨⟨hmb, hsz0⟩, heq⟩ := hF2
  rw [hmb] at cm
  have hsz : 32 + k + UU 1 2 ≤ n := by rw [← HEL.out, HNL.out]; exact hsz0
  have hk1 : 1 ≤ k := by
    simp only [mayBe, Bool.and_eq_true, decide_eq_true_eq] at hmb
    exact hmb.1.1.1
  have hlt2 : ((n : Int) < 32 + (k : Int) + (UU 1 2 : Int)) = False := eq_false (by omega)
  have hle2 : (32 : Int) + (k : Int) + (UU 1 2 : Int) ≤ (cap : Int) := by omega
  have hcqw : IntKind.u64.wrap (cq : Int) = (cq : Int) := by rw [IntKind.wrap_u64]; have := HCL2.out; omega
  have hlen : Hid (tkLen l ≤ n) := by show _ ≤ _; rw [HEL.out]; exact hsz
  have e32 : ¬ cap = 32 := by omega
  have heqi : (UU 28 4 : Int) = (cq : Int) := by omega
  clear hmb hx0 hsz0 heq
  go_enter Tryz.func82, Tryz.ntmps82
  go_wp2_with (go_at_call 81; refine (ce.out _ ?_).mono ?_; rfl; rintro r w1 ⟨rfl, rfl⟩)
  go_quiet (first
    | (go_at_call 95; refine Calls.quiet_of_same (cA.out _ _ _ _ ?_ ?_ ?_ ?_); rfl; omega; omega; omega)
    | (go_at_call 96; refine Calls.quiet_of_same (cc.out _ ?_); rfl))
  go_wp2
  have A1 := hide (At.new (w := w) (nq := nq))
  generalize (w.alloc (.cells #[.string ⟨#[]⟩, .string ⟨#[]⟩, .int .u32 0, .int .i64 0, .int .u64 0] 39)).drewN nq = W1 at A1 ⊢
  obtain ⟨hb1, hd0⟩ := A1.out.cell hb hc0
  go_quiet (first
    | (go_at_call 95; refine Calls.quiet_of_same (cA.out _ _ _ _ ?_ ?_ ?_ ?_); exact A1.out.heap; omega; omega; omega))
  go_wp2
  have A2 := hide (A1.out.more nq)
  generalize W1.drewN nq = W2 at A2 ⊢
  clear A1 hb1 hd0
  go_quiet (first
    | (go_at_call 62; exact Calls.quiet_of_same (cm.out _))
    | (go_at_call 95; refine Calls.quiet_of_same (cA.out _ _ _ _ ?_ ?_ ?_ ?_); exact A2.out.heap; omega; omega; omega)
    | (go_at_call 96; refine Calls.quiet_of_same (cc2.out _ _ ?_ ?_ ?_); exact A2.out.heap; omega; exact hlen.out))
  go_wp2
  have A3 := hide (A2.out.more nq)
  generalize W2.drewN nq = W3 at A3 ⊢
  clear A2
  obtain ⟨x0, x1, x2, x3, x4⟩ : W3.cell? ⟨w.heap.size, 0, none⟩ = some (.string ⟨#[]⟩) ∧ W3.cell? ⟨w.heap.size, 1, none⟩ = some (.string ⟨#[]⟩) ∧ W3.cell? ⟨w.heap.size, 2, none⟩ = some (.int .u32 0) ∧ W3.cell? ⟨w.heap.size, 3, none⟩ = some (.int .i64 0) ∧ W3.cell? ⟨w.heap.size, 4, none⟩ = some (.int .u64 0) := ⟨A3.out.box.cell rfl, A3.out.box.cell rfl, A3.out.box.cell rfl, A3.out.box.cell rfl, A3.out.box.cell rfl⟩
  have y0 := A3.out.box.frozen 0
  have y1 := A3.out.box.frozen 1
  have y2 := A3.out.box.frozen 2
  have y3 := A3.out.box.frozen 3
  have y4 := A3.out.box.frozen 4
  have bs3 : BS W3.drew (some ⟨b, off, none⟩) n cap l := LL.out.bs.heap A3.out.heap
  have bs30 : BS W3 (some ⟨b, off, none⟩) n cap l := LL.out.bs.heap A3.out.heap
  have bsX := bs_box (w := w) bs30 (show b ≠ w.heap.size by omega)
  clear bs30
  have hq1 : (32 : Int) + (k : Int) ≤ (cap : Int) := by omega
  have hq9 : ((32 : Int) + (k : Int)).toNat = 32 + k := by omega
  have hq10 : ((32 : Int) + (k : Int) + (UU 1 2 : Int)).toNat = 32 + k + UU 1 2 := by omega
  have hw32 : IntKind.i64.wrap ((32 : Int) + (k : Int)) = (32 : Int) + (k : Int) := by rw [IntKind.wrap_i64]; omega
  have hq3 : (32 : Int) + (k : Int) ≤ (32 : Int) + (k : Int) + (UU 1 2 : Int) := by omega
  have e4 : ¬ cap = 4 := by omega
  have e8 : ¬ cap = 8 := by omega
  have hc8 : (8 : Int) ≤ (cap : Int) := by omega
  have hc16 : (16 : Int) ≤ (cap : Int) := by omega
  have cK : ∀ W, BS W (some ⟨b, off, none⟩) n cap l → (convert 40 9 (.slice (some ⟨b, off + 32, none⟩) k (cap - 32))).run Tryz.prog W = .ok (.string kb) W := fun W hW => by
    rw [KB.out]; exact str_bs (hW.sub 32 (32 + k) (off + 32) k (cap - 32) rfl (by omega) (by omega) (by omega) (by omega)) (fun h => by cases h)
  have cK2 : Hid (∀ W, BS W (some ⟨b, off, none⟩) n cap l → (convert 40 9 (.slice (some ⟨b, off + 32, none⟩) k k)).run Tryz.prog W = .ok (.string kb) W) := fun W hW => by
    rw [KB.out]; exact str_bs (hW.sub 32 (32 + k) (off + 32) k k rfl (by omega) (by omega) (by omega) (by omega)) (fun h => by cases h)
  have cE0 : Hid (∀ (W : World), (convert 40 9 (.slice (some ⟨b, off, none⟩) 0 0)).run Tryz.prog W = .ok (.string ⟨#[]⟩) W) := fun W => str_bs (w := W) (a := some ⟨b, off, none⟩) (n := 0) (cap := 0) (l := []) ⟨rfl, Nat.le_refl _, Reads.nil _ _, fun i hi => absurd hi (by omega)⟩ (fun h => by cases h)
  have CK := hide cK
  have BX := hide bsX
  have B3 := hide bs3
  clear cK bsX bs3
  have hce := HCE.out
  have cV : Hid (∀ W, BS W (some ⟨b, off, none⟩) n cap l → (convert 40 9 (.slice (some ⟨b, off + (32 + k), none⟩) (UU 1 2) (cap - (32 + k)))).run Tryz.prog W = .ok (.string vb) W) := fun W hW => by
    rw [VB.out]; exact str_bs (hW.sub (32 + k) (32 + k + UU 1 2) (off + (32 + k)) (UU 1 2) (cap - (32 + k)) rfl (by omega) (by omega) (by omega) (by omega)) (fun h => by cases h)
  have sK3 : (convert 40 9 (.slice (some ⟨b, off + 32, none⟩) k (cap - 32))).run Tryz.prog W3.drew = .ok (.string kb) W3.drew := CK.out _ B3.out
  have sV3 : (convert 40 9 (.slice (some ⟨b, off + (32 + k), none⟩) (UU 1 2) (cap - (32 + k)))).run Tryz.prog W3.drew = .ok (.string vb) W3.drew := cV.out _ B3.out
  have sKX : ∀ p1 p2 p3 p4 p5 : Value, (convert 40 9 (.slice (some ⟨b, off + 32, none⟩) k (cap - 32))).run Tryz.prog (((((W3.setCell ⟨w.heap.size, 0, none⟩ p1).setCell ⟨w.heap.size, 1, none⟩ p2).setCell ⟨w.heap.size, 2, none⟩ p3).setCell ⟨w.heap.size, 3, none⟩ p4).setCell ⟨w.heap.size, 4, none⟩ p5).drew = .ok (.string kb) (((((W3.setCell ⟨w.heap.size, 0, none⟩ p1).setCell ⟨w.heap.size, 1, none⟩ p2).setCell ⟨w.heap.size, 2, none⟩ p3).setCell ⟨w.heap.size, 3, none⟩ p4).setCell ⟨w.heap.size, 4, none⟩ p5).drew := fun p1 p2 p3 p4 p5 => CK.out _ (BX.out p1 p2 p3 p4 p5)
  have sVX : ∀ p1 p2 p3 p4 p5 : Value, (convert 40 9 (.slice (some ⟨b, off + (32 + k), none⟩) (UU 1 2) (cap - (32 + k)))).run Tryz.prog (((((W3.setCell ⟨w.heap.size, 0, none⟩ p1).setCell ⟨w.heap.size, 1, none⟩ p2).setCell ⟨w.heap.size, 2, none⟩ p3).setCell ⟨w.heap.size, 3, none⟩ p4).setCell ⟨w.heap.size, 4, none⟩ p5).drew = .ok (.string vb) (((((W3.setCell ⟨w.heap.size, 0, none⟩ p1).setCell ⟨w.heap.size, 1, none⟩ p2).setCell ⟨w.heap.size, 2, none⟩ p3).setCell ⟨w.heap.size, 3, none⟩ p4).setCell ⟨w.heap.size, 4, none⟩ p5).drew := fun p1 p2 p3 p4 p5 => cV.out _ (BX.out p1 p2 p3 p4 p5)
  go_region_held (fun W => (convert 40 9 (.slice (some ⟨b, off + 32, none⟩) k (cap - 32))).run Tryz.prog W = .ok (.string kb) W ∧ (convert 40 9 (.slice (some ⟨b, off + (32 + k), none⟩) (UU 1 2) (cap - (32 + k)))).run Tryz.prog W = .ok (.string vb) W)
    (simp only [sK3, sV3, sKX, sVX, and_self])
    (first
    | (go_at_call 95; refine (cA.out _ _ _ _ ?_ ?_ ?_ ?_).mono ?_; exact A3.out.heap; omega; omega; omega; rintro r wx ⟨rfl, rfl⟩))
  all_goals go_wp2
  all_goals (
    refine bodyPost_ret (v := tkV (.ok (tkItem l) (tkLen l))) ?_ rfl ⟨rfl, ?_⟩
    · rw [EV.out]
      have ew1 : IntKind.u32.wrap (UU 4 4 : Int) = (UU 4 4 : Int) % 4294967296 := IntKind.wrap_u32' _
      have ew2 : IntKind.i64.wrap (UU 8 8 : Int) = wrap64 (UU 8 8 : Int) := by rw [IntKind.wrap_i64]; unfold wrap64; omega
      simp [results, Tryz.results82, go_sem, x0, x1, x2, x3, x4, ew1, ew2]
    · exact (below_box (w := w) (V := W3) A3.out.below _ _ _ _ _).drew)
end Go.Proofs.YtbccnfbombgdmaaGreat
