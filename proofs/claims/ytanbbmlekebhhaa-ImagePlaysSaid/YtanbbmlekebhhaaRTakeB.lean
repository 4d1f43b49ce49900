/- 'Take', behind the head's own sum. -/
import Derived.Test.YtanbbmlekebhhaaRTake
set_option linter.unusedVariables false
set_option linter.unusedSimpArgs false
namespace Go.Proofs.Ytanbbmlekebhhaa
open Go.RowKit Go.Deep Math

theorem form1_of {l : List UInt8} (h : form1 l = true) : 32 ≤ l.length ∧ l.getD 3 0 = 82 ∧ up (sl l 24 28) = crcN (sl l 0 24) := by
  simp only [form1, Bool.and_eq_true, decide_eq_true_eq] at h
  exact ⟨h.1.1, h.1.2, h.2⟩

/-- On the way through Take: the heap is as at the beginning. -/
structure At (w W : World) : Prop where
  heap : W.heap = (w.alloc zeroBox).heap
  below : Below w.heap.size w W
theorem At.new {w : World} {nq : Nat} : At w ((w.alloc (.cells #[.string ⟨#[]⟩, .string ⟨#[]⟩, .int .u32 0, .int .i64 0, .int .u64 0] 32)).drewN nq) := ⟨rfl, below_q ((Below.refl _ _).alloc (Nat.le_refl _) _) _⟩
theorem At.more {w W : World} (h : At w W) (nq : Nat) : At w (W.drewN nq) := ⟨h.heap, below_q h.below nq⟩
theorem At.box {w W : World} (h : At w W) : Blk W w.heap.size [.string ⟨#[]⟩, .string ⟨#[]⟩, .int .u32 0, .int .i64 0, .int .u64 0] 32 := by
  have b := Blk.new w [.string ⟨#[]⟩, .string ⟨#[]⟩, .int .u32 0, .int .i64 0, .int .u64 0] 32
  exact b.same (by rw [h.heap]; rfl)
theorem At.cell {w W : World} (h : At w W) {b o : Nat} {v : Value} (hb : b < w.heap.size) (hc : w.cell? ⟨b, o, none⟩ = some v) : b < W.heap.size ∧ W.cell? ⟨b, o, none⟩ = some v :=
  ⟨Nat.lt_of_lt_of_le hb h.below.size, (h.below.cell (p := ⟨b, o, none⟩) hb).trans hc⟩

set_option maxHeartbeats 800000 in
theorem take_bad2 (a : Option Addr) (n cap : Nat) (l : List UInt8) (hcap : cap ≤ 9223372036854775807) (w : World) (h : BS w a n cap l) (hE : ended l = false) (hF : form1 l = true) (hF2 : form2 l = false) :
    Calls Try.prog 58 #[.slice a n cap] w fun e w' => e = .returned (tkV .bad) ∧ Below w.heap.size w w' := by
  have hnl := h.len
  have hcp := h.cap
  obtain ⟨f1, f2, f3⟩ := form1_of hF
  have ce := hide (fun (W : World) (hW : W.heap = (w.alloc zeroBox).heap) => ended_any a n cap l W ((h.later ((Below.refl _ _).alloc (Nat.le_refl _) _)).heap hW))
  rw [hE] at ce
  obtain ⟨b, off, rfl, hb, hc0⟩ := h.cell 0 (by omega)
  obtain ⟨b', off', ha, _, hc3⟩ := h.cell 3 (by omega)
  simp only [Option.some.injEq, Addr.mk.injEq, and_true] at ha
  obtain ⟨rfl, rfl⟩ := ha
  rw [f2] at hc3
  have hc3' : w.cell? ⟨b, off + 3, none⟩ = some (.int .u8 82) := hc3
  rw [Nat.add_zero] at hc0
  have L : Look w (w.alloc zeroBox) b off n cap l := ⟨h.later ((Below.refl _ _).alloc (Nat.le_refl _) _), by omega⟩
  obtain ⟨UU, hUU⟩ : ∃ UU : Nat → Nat → Nat, UU = fun i m => up (sl l i (i + m)) := ⟨_, rfl⟩
  have cA : Hid (∀ (W : World) (i m c : Nat), W.heap = (w.alloc zeroBox).heap → i + m ≤ n → m ≤ 8 → m ≤ c → Calls Try.prog 69 #[.slice (some ⟨b, off + i, none⟩) m c] W fun e w' => e = .returned (.int .u64 (UU i m : Int)) ∧ w' = W) := fun W i m c hW h1 h2 h3 => by
    rw [hUU]
    exact L.number i (i + m) c (by omega) h1 (by omega) (by omega) hW m (off + i) (by omega) rfl
  have u24 : up (sl l 24 28) = UU 24 4 := by rw [hUU]
  have u1 : up (sl l 1 3) = UU 1 2 := by rw [hUU]
  have u16 : up (sl l 16 24) = UU 16 8 := by rw [hUU]
  have u28 : up (sl l 28 32) = UU 28 4 := by rw [hUU]
  have cc := hide (fun (W : World) (hW : W.heap = (w.alloc zeroBox).heap) => L.crc 0 24 cap (by omega) (by omega) (by omega) (by omega) hW 24 off rfl rfl)
  have hcl := crcN_lt (sl l 0 24)
  rw [← f3] at cc hcl
  rw [u24] at cc hcl
  have hcw : IntKind.u64.wrap (UU 24 4 : Int) = (UU 24 4 : Int) := by rw [IntKind.wrap_u64]; omega
  have hx0 := (l.getD 0 0).toNat_lt
  have hv0 : up (sl l 1 3) ≤ 65535 := by have := up_lt (sl l 1 3); rw [sl_length _ _ _ (by omega)] at this; simp at this; omega
  have eF : form2 l = (mayBe (tkKey l) (tkVal l) (tkVer l) && decide (tkLen l ≤ l.length) && decide (up (sl l 28 32) = crcN (sl l 32 (tkLen l)))) := rfl
  have ek : tkKey l = (l.getD 0 0).toNat := rfl
  have ev : tkVal l = up (sl l 1 3) := rfl
  have er : tkVer l = up (sl l 16 24) := rfl
  have el : tkLen l = 32 + tkKey l + tkVal l := rfl
  have cm := hide (mayBe_any (tkKey l) (tkVal l) (tkVer l))
  have cc2 : Hid (∀ (W : World) (m : Nat), W.heap = (w.alloc zeroBox).heap → m = tkKey l + tkVal l → tkLen l ≤ n → Calls Try.prog 70 #[.slice (some ⟨b, off + 32, none⟩) m (cap - 32)] W fun e w' => e = .returned (.int .u32 (crcN (sl l 32 (tkLen l)) : Int)) ∧ w' = W) := fun W m hW hm hle =>
    L.crc 32 (tkLen l) (cap - 32) (by omega) hle (by omega) (by omega) hW m (off + 32) (by omega) rfl
  have hi32 : (32 : Int) ≤ (n : Int) := by omega
  have hlt : ((n : Int) < 32) = False := eq_false (by omega)
  have hi3 : (3 : Int) < (n : Int) := by omega
  have hi0 : 0 < n := by omega
  have hc32 : (32 : Int) ≤ (cap : Int) := by omega
  have hc28 : (28 : Int) ≤ (cap : Int) := by omega
  have hc24 : (24 : Int) ≤ (cap : Int) := by omega
  have hcc3 : (3 : Int) ≤ (cap : Int) := by omega
  rw [← ek] at hc0 hx0
  rw [← ev] at hv0
  rw [eF] at hF2
  have HEL := hide el
  have hcl2 := crcN_lt (sl l 32 (tkLen l))
  obtain ⟨n32, hn32⟩ : ∃ x, x = l.length := ⟨_, rfl⟩
  generalize crcN (sl l 32 (tkLen l)) = cq at cc2 hF2 hcl2
  rw [u28] at hF2
  rw [u1] at ev
  rw [u16] at er
  generalize hk : tkKey l = k at *
  rw [ev] at hv0 cm cc2 HEL hF2
  rw [er] at cm hF2
  have HNL := hide hnl
  have HCL := hide hcl
  have HCL2 := hide hcl2
  have HF1 := hide f1
  clear hk eF ek ev er h hE hF f2 f3 hc3 L u24 u1 u16 u28 hUU hnl hcl hcl2 f1 hn32 n32 el
  have e1 : ¬ cap = 1 := by omega
  have e16 : ¬ cap = 16 := by omega
  have e28 : ¬ cap = 28 := by omega
  have e24 : ¬ cap = 24 := by omega
  have hwk : IntKind.i64.wrap (k : Int) = (k : Int) := by rw [IntKind.wrap_i64]; omega
  have hwv : IntKind.i64.wrap (UU 1 2 : Int) = (UU 1 2 : Int) := by rw [IntKind.wrap_i64]; omega
  have hk255 : k ≤ 255 := by omega
  cases hmb : mayBe k (UU 1 2) (UU 16 8) with
  | false =>
    rw [hmb] at cm
    clear hF2 hmb cc2 hx0
    go_enter Try.func58, Try.ntmps58
    go_wp2_with (go_at_call 68; refine (ce.out _ ?_).mono ?_; rfl; rintro r w1 ⟨rfl, rfl⟩)
    go_quiet (first
      | (go_at_call 69; refine Calls.quiet_of_same (cA.out _ _ _ _ ?_ ?_ ?_ ?_); rfl; omega; omega; omega)
      | (go_at_call 70; refine Calls.quiet_of_same (cc.out _ ?_); rfl))
    go_wp2
    have A1 := hide (At.new (w := w) (nq := nq))
    generalize (w.alloc (.cells #[.string ⟨#[]⟩, .string ⟨#[]⟩, .int .u32 0, .int .i64 0, .int .u64 0] 32)).drewN nq = W1 at A1 ⊢
    obtain ⟨hb1, hd0⟩ := A1.out.cell hb hc0
    go_quiet (first
      | (go_at_call 69; refine Calls.quiet_of_same (cA.out _ _ _ _ ?_ ?_ ?_ ?_); exact A1.out.heap; omega; omega; omega))
    go_wp2
    have A2 := hide (A1.out.more nq)
    generalize W1.drewN nq = W2 at A2 ⊢
    obtain ⟨x0, x1, x2, x3, x4⟩ : W2.cell? ⟨w.heap.size, 0, none⟩ = some (.string ⟨#[]⟩) ∧ W2.cell? ⟨w.heap.size, 1, none⟩ = some (.string ⟨#[]⟩) ∧ W2.cell? ⟨w.heap.size, 2, none⟩ = some (.int .u32 0) ∧ W2.cell? ⟨w.heap.size, 3, none⟩ = some (.int .i64 0) ∧ W2.cell? ⟨w.heap.size, 4, none⟩ = some (.int .u64 0) := ⟨A2.out.box.cell rfl, A2.out.box.cell rfl, A2.out.box.cell rfl, A2.out.box.cell rfl, A2.out.box.cell rfl⟩
    have y0 := A2.out.box.frozen 0
    have y1 := A2.out.box.frozen 1
    have y2 := A2.out.box.frozen 2
    have y3 := A2.out.box.frozen 3
    have y4 := A2.out.box.frozen 4
    clear A1 hb1 hd0
    go_quiet (first
      | (go_at_call 65; exact Calls.quiet_of_same (cm.out _))
      | (go_at_call 69; refine Calls.quiet_of_same (cA.out _ _ _ _ ?_ ?_ ?_ ?_); exact A2.out.heap; omega; omega; omega))
    go_wp2
    exact bodyPost_ret (v := tkV .bad) (by simp [results, Try.results58, go_sem, tkV, Tk.item, Tk.len, Tk.err, It.val, It.zero, itV, txt, x0, x1, x2, x3, x4]) rfl ⟨rfl, below_box (below_q A2.out.below _) _ _ _ _ _⟩
  | true =>
    rw [hmb] at cm hF2
    by_cases hsz : 32 + k + UU 1 2 ≤ n
    · have hne : ¬ ((UU 28 4 : Int) = (cq : Int)) := by
        intro he
        have h1 : tkLen l ≤ l.length := by rw [HEL.out, ← HNL.out]; exact hsz
        have h2 : UU 28 4 = cq := by omega
        simp only [decide_eq_true h1, decide_eq_true h2, Bool.and_self] at hF2
        cases hF2
      have hlt2 : ((n : Int) < 32 + (k : Int) + (UU 1 2 : Int)) = False := eq_false (by omega)
      have hle2 : (32 : Int) + (k : Int) + (UU 1 2 : Int) ≤ (cap : Int) := by omega
      have hcqw : IntKind.u64.wrap (cq : Int) = (cq : Int) := by rw [IntKind.wrap_u64]; have := HCL2.out; omega
      have hlen : Hid (tkLen l ≤ n) := by show _ ≤ _; rw [HEL.out]; exact hsz
      have e32 : ¬ cap = 32 := by
        intro h32
        have : 1 ≤ k := by
          simp only [mayBe, Bool.and_eq_true, decide_eq_true_eq] at hmb
          exact hmb.1.1.1
        omega
      clear hF2 hmb hx0
      go_enter Try.func58, Try.ntmps58
      go_wp2_with (go_at_call 68; refine (ce.out _ ?_).mono ?_; rfl; rintro r w1 ⟨rfl, rfl⟩)
      go_quiet (first
        | (go_at_call 69; refine Calls.quiet_of_same (cA.out _ _ _ _ ?_ ?_ ?_ ?_); rfl; omega; omega; omega)
        | (go_at_call 70; refine Calls.quiet_of_same (cc.out _ ?_); rfl))
      go_wp2
      have A1 := hide (At.new (w := w) (nq := nq))
      generalize (w.alloc (.cells #[.string ⟨#[]⟩, .string ⟨#[]⟩, .int .u32 0, .int .i64 0, .int .u64 0] 32)).drewN nq = W1 at A1 ⊢
      obtain ⟨hb1, hd0⟩ := A1.out.cell hb hc0
      go_quiet (first
        | (go_at_call 69; refine Calls.quiet_of_same (cA.out _ _ _ _ ?_ ?_ ?_ ?_); exact A1.out.heap; omega; omega; omega))
      go_wp2
      have A2 := hide (A1.out.more nq)
      generalize W1.drewN nq = W2 at A2 ⊢
      obtain ⟨x0, x1, x2, x3, x4⟩ : W2.cell? ⟨w.heap.size, 0, none⟩ = some (.string ⟨#[]⟩) ∧ W2.cell? ⟨w.heap.size, 1, none⟩ = some (.string ⟨#[]⟩) ∧ W2.cell? ⟨w.heap.size, 2, none⟩ = some (.int .u32 0) ∧ W2.cell? ⟨w.heap.size, 3, none⟩ = some (.int .i64 0) ∧ W2.cell? ⟨w.heap.size, 4, none⟩ = some (.int .u64 0) := ⟨A2.out.box.cell rfl, A2.out.box.cell rfl, A2.out.box.cell rfl, A2.out.box.cell rfl, A2.out.box.cell rfl⟩
      have y0 := A2.out.box.frozen 0
      have y1 := A2.out.box.frozen 1
      have y2 := A2.out.box.frozen 2
      have y3 := A2.out.box.frozen 3
      have y4 := A2.out.box.frozen 4
      clear A1 hb1 hd0
      go_quiet (first
        | (go_at_call 65; exact Calls.quiet_of_same (cm.out _))
        | (go_at_call 69; refine Calls.quiet_of_same (cA.out _ _ _ _ ?_ ?_ ?_ ?_); exact A2.out.heap; omega; omega; omega)
        | (go_at_call 70; refine Calls.quiet_of_same (cc2.out _ _ ?_ ?_ ?_); exact A2.out.heap; omega; exact hlen.out))
      go_wp2
      exact bodyPost_ret (v := tkV .bad) (by simp [results, Try.results58, go_sem, tkV, Tk.item, Tk.len, Tk.err, It.val, It.zero, itV, txt, x0, x1, x2, x3, x4]) rfl ⟨rfl, below_box (below_q A2.out.below _) _ _ _ _ _⟩
    · have hlt2 : ((n : Int) < 32 + (k : Int) + (UU 1 2 : Int)) = True := eq_true (by omega)
      clear hF2 hmb cc2 hx0 hsz
      go_enter Try.func58, Try.ntmps58
      go_wp2_with (go_at_call 68; refine (ce.out _ ?_).mono ?_; rfl; rintro r w1 ⟨rfl, rfl⟩)
      go_quiet (first
        | (go_at_call 69; refine Calls.quiet_of_same (cA.out _ _ _ _ ?_ ?_ ?_ ?_); rfl; omega; omega; omega)
        | (go_at_call 70; refine Calls.quiet_of_same (cc.out _ ?_); rfl))
      go_wp2
      have A1 := hide (At.new (w := w) (nq := nq))
      generalize (w.alloc (.cells #[.string ⟨#[]⟩, .string ⟨#[]⟩, .int .u32 0, .int .i64 0, .int .u64 0] 32)).drewN nq = W1 at A1 ⊢
      obtain ⟨hb1, hd0⟩ := A1.out.cell hb hc0
      go_quiet (first
        | (go_at_call 69; refine Calls.quiet_of_same (cA.out _ _ _ _ ?_ ?_ ?_ ?_); exact A1.out.heap; omega; omega; omega))
      go_wp2
      have A2 := hide (A1.out.more nq)
      generalize W1.drewN nq = W2 at A2 ⊢
      obtain ⟨x0, x1, x2, x3, x4⟩ : W2.cell? ⟨w.heap.size, 0, none⟩ = some (.string ⟨#[]⟩) ∧ W2.cell? ⟨w.heap.size, 1, none⟩ = some (.string ⟨#[]⟩) ∧ W2.cell? ⟨w.heap.size, 2, none⟩ = some (.int .u32 0) ∧ W2.cell? ⟨w.heap.size, 3, none⟩ = some (.int .i64 0) ∧ W2.cell? ⟨w.heap.size, 4, none⟩ = some (.int .u64 0) := ⟨A2.out.box.cell rfl, A2.out.box.cell rfl, A2.out.box.cell rfl, A2.out.box.cell rfl, A2.out.box.cell rfl⟩
      have y0 := A2.out.box.frozen 0
      have y1 := A2.out.box.frozen 1
      have y2 := A2.out.box.frozen 2
      have y3 := A2.out.box.frozen 3
      have y4 := A2.out.box.frozen 4
      clear A1 hb1 hd0
      go_quiet (first
        | (go_at_call 65; exact Calls.quiet_of_same (cm.out _))
        | (go_at_call 69; refine Calls.quiet_of_same (cA.out _ _ _ _ ?_ ?_ ?_ ?_); exact A2.out.heap; omega; omega; omega))
      go_wp2
      exact bodyPost_ret (v := tkV .bad) (by simp [results, Try.results58, go_sem, tkV, Tk.item, Tk.len, Tk.err, It.val, It.zero, itV, txt, x0, x1, x2, x3, x4]) rfl ⟨rfl, below_box (below_q A2.out.below _) _ _ _ _ _⟩
end Go.Proofs.Ytanbbmlekebhhaa
