/- Texts joined: RTake, RTakeB, RLay. -/
import Derived.Test.YtbccnfbombgdmaaGreatJ03
/- 'ended', 'Take'. -/
set_option linter.unusedVariables false
set_option linter.unusedSimpArgs false
namespace Go.Proofs.YtbccnfbombgdmaaGreat
open Go.RowKit Go.Deep Math

/-- A slice of bytes as it lies, with its list. -/
structure BS (w : World) (a : Option Addr) (n cap : Nat) (l : List UInt8) : Prop where
  len : n = l.length
  cap : n ≤ cap
  reads : Reads w a (ints l)
  cell : ∀ i, i < n → ∃ b off, a = some ⟨b, off, none⟩ ∧ b < w.heap.size ∧ w.cell? ⟨b, off + i, none⟩ = some (.int .u8 ((l.getD i 0).toNat : Int))
theorem BS.mk' {w : World} {a : Option Addr} {n cap : Nat} {l : List UInt8} (hn : n = l.length) (hc : n ≤ cap) (hr : Reads w a (ints l)) : BS w a n cap l :=
  ⟨hn, hc, hr, fun i hi => by
    obtain ⟨b, off, ha, hcell⟩ := hr.1 i (by rw [ints_length, ← hn]; exact hi)
    rw [ints_getD] at hcell
    exact ⟨b, off, ha, block_lt_of_cell hcell, hcell⟩⟩
theorem BS.later {w w' : World} {a : Option Addr} {n cap : Nat} {l : List UInt8} (h : BS w a n cap l) (b : Below w.heap.size w w') : BS w' a n cap l := BS.mk' h.len h.cap (h.reads.later b)
theorem BS.heap {w w' : World} {a : Option Addr} {n cap : Nat} {l : List UInt8} (h : BS w a n cap l) (e : w'.heap = w.heap) : BS w' a n cap l :=
  BS.mk' h.len h.cap ⟨fun i hi => by
    obtain ⟨b, off, ha, hc⟩ := h.reads.1 i hi
    exact ⟨b, off, ha, (World.cell?_of_block (a := ⟨b, off + i, none⟩) (show w'.heap[b]? = w.heap[b]? by rw [e])).trans hc⟩, h.reads.2⟩
/-- A part of it. -/
theorem BS.sub {w : World} {b off n cap : Nat} {l : List UInt8} (h : BS w (some ⟨b, off, none⟩) n cap l) (i j o2 m c : Nat) (ho : o2 = off + i) (hij : i ≤ j) (hj : j ≤ n) (hm : m = j - i) (hc : m ≤ c) : BS w (some ⟨b, o2, none⟩) m c (sl l i j) := by
  have hl := h.len
  refine BS.mk' (by rw [sl_length _ _ _ (by omega)]; exact hm) hc ⟨fun k hk => ?_, fun k => ?_⟩
  · rw [ints_length, sl_length _ _ _ (by omega)] at hk
    obtain ⟨b', off', ha, _, hcell⟩ := h.cell (i + k) (by omega)
    simp only [Option.some.injEq, Addr.mk.injEq, and_true] at ha
    obtain ⟨rfl, rfl⟩ := ha
    refine ⟨b, o2, rfl, ?_⟩
    rw [ho, Nat.add_assoc, hcell, ints_getD]
    congr 4
    simp only [List.getD_eq_getElem?_getD, sl, List.getElem?_drop]
    rw [List.getElem?_take_of_lt (by omega)]
  · rw [ints_getD]
    have := ((sl l i j).getD k 0).toNat_lt
    omega

set_option maxHeartbeats 400000 in
theorem ended_any (a : Option Addr) (n cap : Nat) (l : List UInt8) (w : World) (h : BS w a n cap l) :
    Calls Tryz.prog 81 #[.slice a n cap] w fun e w' => e = .returned (.bool (ended l)) ∧ w' = w := by
  by_cases h0 : n = 0
  · have E : Hid (ended l = true) := by
      have : l.length = 0 := by have := h.len; omega
      show ended l = true
      simp only [ended, decide_eq_true this, Bool.true_or]
    subst h0
    clear h
    go_enter Tryz.func81, Tryz.ntmps81
    go_wp2
    go_ret
    exact ⟨by rw [E.out]; rfl, rfl⟩
  · obtain ⟨b, off, rfl, hb, hc⟩ := h.cell 0 (by omega)
    rw [Nat.add_zero] at hc
    have hn0 : ¬ (n : Int) = 0 := by omega
    have hnl : ¬ l.length = 0 := by have := h.len; omega
    have hpos : (0 : Int) < (n : Int) := by omega
    by_cases hz : l.getD 0 0 = 0
    · have E : Hid (ended l = true) := by simp only [Hid, ended, decide_eq_true hz, Bool.or_true]
      rw [hz] at hc
      clear h hz hnl h0
      have hc' : w.cell? ⟨b, off, none⟩ = some (.int .u8 0) := hc
      clear hc
      go_enter Tryz.func81, Tryz.ntmps81
      go_wp2
      go_ret
      exact ⟨by rw [E.out]; rfl, rfl⟩
    · have E : Hid (ended l = false) := by simp only [Hid, ended, decide_eq_false hz, decide_eq_false hnl, Bool.or_self]
      have hz' : ¬ (((l.getD 0 0).toNat : Int) = 0) := fun h => hz (by
        have : (l.getD 0 0).toNat = 0 := by omega
        exact UInt8.toNat_inj.1 this)
      clear h hz hnl h0
      generalize (l.getD 0 0).toNat = x at hc hz'
      have b1 : ((n : Int) == 0) = false := by simpa using hn0
      have b2 : ((x : Int) == 0) = false := by simpa using hz'
      go_enter Tryz.func81, Tryz.ntmps81
      go_wp2
      go_ret
      exact ⟨by rw [E.out]; rfl, rfl⟩

def itOf (x : It) : Value := x.val
/-- What Take answers. -/
def tkV (t : Tk) : Value := .tuple #[t.item.val, .int .i64 (t.len : Int), .int .i64 t.err]

theorem below_q {n : Nat} {a b : World} (h : Below n a b) (q : Nat) : Below n a (b.drewN q) := ⟨h.os, h.tape, h.output, h.size, h.block⟩
theorem below_box {w V : World} (h : Below w.heap.size w V) (a b c d e : Value) : Below w.heap.size w (((((V.setCell ⟨w.heap.size, 0, none⟩ a).setCell ⟨w.heap.size, 1, none⟩ b).setCell ⟨w.heap.size, 2, none⟩ c).setCell ⟨w.heap.size, 3, none⟩ d).setCell ⟨w.heap.size, 4, none⟩ e) :=
  ((((h.setCell (Nat.le_refl _) _).setCell (Nat.le_refl _) _).setCell (Nat.le_refl _) _).setCell (Nat.le_refl _) _).setCell (Nat.le_refl _) _
/-- The result's box, as it begins. -/
def zeroBox : Obj := .cells #[.string ⟨#[]⟩, .string ⟨#[]⟩, .int .u32 0, .int .i64 0, .int .u64 0] 39

set_option maxHeartbeats 1000000 in
theorem take_none (a : Option Addr) (n cap : Nat) (l : List UInt8) (w : World) (h : BS w a n cap l) (hE : ended l = true) :
    Calls Tryz.prog 82 #[.slice a n cap] w fun e w' => e = .returned (tkV .none) ∧ Below w.heap.size w w' := by
  have ce := hide (fun (W : World) (hW : W.heap = (w.alloc zeroBox).heap) => ended_any a n cap l W ((h.later ((Below.refl _ _).alloc (Nat.le_refl _) _)).heap hW))
  rw [hE] at ce
  have y := (Blk.new w [.string ⟨#[]⟩, .string ⟨#[]⟩, .int .u32 0, .int .i64 0, .int .u64 0] 39)
  clear hE h y
  go_enter Tryz.func82, Tryz.ntmps82
  go_wp2_with (go_at_call 81; refine (ce.out _ ?_).mono ?_; rfl; rintro r w1 ⟨rfl, rfl⟩)
  exact bodyPost_ret (v := tkV .none) (by simp [results, Tryz.results82, go_sem, tkV, Tk.item, Tk.len, Tk.err, It.val, It.zero, itV, txt]) rfl ⟨rfl, (Below.refl _ _).alloc (Nat.le_refl _) _⟩

/-- What a look at the bytes needs: the slice is there, with at least 32 bytes. -/
structure Look (w W0 : World) (b off n cap : Nat) (l : List UInt8) : Prop where
  bs : BS W0 (some ⟨b, off, none⟩) n cap l
  n32 : 32 ≤ n
theorem Look.number {w W0 W : World} {b off n cap : Nat} {l : List UInt8} (h : Look w W0 b off n cap l) (i j c : Nat) (hij : i ≤ j) (hj : j ≤ n) (h8 : j - i ≤ 8) (hc : j - i ≤ c) (hW : W.heap = W0.heap) (m o2 : Nat) (hm : m = j - i) (ho : o2 = off + i) :
    Calls Tryz.prog 95 #[.slice (some ⟨b, o2, none⟩) m c] W fun e w' => e = .returned (.int .u64 (up (sl l i j) : Int)) ∧ w' = W := by
  have s := (h.bs.heap hW).sub i j o2 m c ho hij hj hm (by omega)
  exact number_any _ _ _ _ s.len (by omega) W s.reads
theorem Look.crc {w W0 W : World} {b off n cap : Nat} {l : List UInt8} (h : Look w W0 b off n cap l) (i j c : Nat) (hij : i ≤ j) (hj : j ≤ n) (hn : n ≤ 9223372036854775807) (hc : j - i ≤ c) (hW : W.heap = W0.heap) (m o2 : Nat) (hm : m = j - i) (ho : o2 = off + i) :
    Calls Tryz.prog 96 #[.slice (some ⟨b, o2, none⟩) m c] W fun e w' => e = .returned (.int .u32 (crcN (sl l i j) : Int)) ∧ w' = W := by
  have s := (h.bs.heap hW).sub i j o2 m c ho hij hj hm (by omega)
  exact crc_at _ m c (ints (sl l i j)) W (by rw [ints_length, s.len]) (by unfold maxLen; omega) s.reads

set_option maxHeartbeats 1000000 in
theorem take_bad1 (a : Option Addr) (n cap : Nat) (l : List UInt8) (hcap : cap ≤ 9223372036854775807) (w : World) (h : BS w a n cap l) (hE : ended l = false) (hF : form1 l = false) :
    Calls Tryz.prog 82 #[.slice a n cap] w fun e w' => e = .returned (tkV .bad) ∧ Below w.heap.size w w' := by
  have hnl := h.len
  have hcp := h.cap
  have ce := hide (fun (W : World) (hW : W.heap = (w.alloc zeroBox).heap) => ended_any a n cap l W ((h.later ((Below.refl _ _).alloc (Nat.le_refl _) _)).heap hW))
  rw [hE] at ce
  have fin : tkV .bad = .tuple #[.agg #[.string ⟨#[]⟩, .string ⟨#[]⟩, .int .u32 0, .int .i64 0, .int .u64 0], .int .i64 0, .int .i64 3] := rfl
  have h0 : 0 < n := by
    rcases Nat.eq_zero_or_pos n with h0 | h0
    · exfalso
      have : l.length = 0 := by omega
      simp [ended, this] at hE
    · exact h0
  obtain ⟨b, off, rfl, hb, _⟩ := h.cell 0 h0
  by_cases h32 : n < 32
  · have hlt : ((n : Int) < 32) = True := eq_true (by omega)
    clear h hE hF hnl hcp h0 h32
    go_enter Tryz.func82, Tryz.ntmps82
    go_wp2_with (go_at_call 81; refine (ce.out _ ?_).mono ?_; rfl; rintro r w1 ⟨rfl, rfl⟩)
    go_quiet (fail)
    go_wp2
    exact bodyPost_ret (v := tkV .bad) (by simp [results, Tryz.results82, go_sem, tkV, Tk.item, Tk.len, Tk.err, It.val, It.zero, itV, txt]) rfl ⟨rfl, below_box (below_q ((Below.refl _ _).alloc (Nat.le_refl _) _) _) _ _ _ _ _⟩
  · have hlt : ((n : Int) < 32) = False := eq_false (by omega)
    have hi32 : (32 : Int) ≤ (n : Int) := by omega
    have hi3 : (3 : Int) < (n : Int) := by omega
    have hc32 : (32 : Int) ≤ (cap : Int) := by omega
    have hc28 : (28 : Int) ≤ (cap : Int) := by omega
    have hc24 : (24 : Int) ≤ (cap : Int) := by omega
    obtain ⟨b', off', ha, _, hc3⟩ := h.cell 3 (by omega)
    simp only [Option.some.injEq, Addr.mk.injEq, and_true] at ha
    obtain ⟨rfl, rfl⟩ := ha
    by_cases h82 : l.getD 3 0 = 82
    · rw [h82] at hc3
      have hc3' : w.cell? ⟨b, off + 3, none⟩ = some (.int .u8 82) := hc3
      have hne : up (sl l 24 28) ≠ crcN (sl l 0 24) := by
        intro he
        have h1 : 32 ≤ l.length := by omega
        simp only [form1, decide_eq_true h1, decide_eq_true h82, decide_eq_true he, Bool.and_self] at hF
        cases hF
      have L : Look w (w.alloc zeroBox) b off n cap l := ⟨h.later ((Below.refl _ _).alloc (Nat.le_refl _) _), by omega⟩
      have c24 := hide (fun (W : World) (hW : W.heap = (w.alloc zeroBox).heap) => L.number 24 28 (cap - 24) (by omega) (by omega) (by omega) (by omega) hW 4 (off + 24) rfl rfl)
      have cc := hide (fun (W : World) (hW : W.heap = (w.alloc zeroBox).heap) => L.crc 0 24 cap (by omega) (by omega) (by omega) (by omega) hW 24 off rfl rfl)
      have hcl := crcN_lt (sl l 0 24)
      generalize up (sl l 24 28) = u at c24 hne
      generalize crcN (sl l 0 24) = c at cc hne hcl
      have hne' : ¬ ((u : Int) = (c : Int)) := by omega
      have hcw : IntKind.u64.wrap (c : Int) = (c : Int) := by rw [IntKind.wrap_u64]; omega
      have hcl' := hide hcl
      clear h hE hF h82 hc3 hne L h0 h32 hcl hnl
      go_enter Tryz.func82, Tryz.ntmps82
      go_wp2_with (go_at_call 81; refine (ce.out _ ?_).mono ?_; rfl; rintro r w1 ⟨rfl, rfl⟩)
      go_quiet (first
        | (go_at_call 95; refine Calls.quiet_of_same (c24.out _ ?_); rfl)
        | (go_at_call 96; refine Calls.quiet_of_same (cc.out _ ?_); rfl))
      go_wp2
      exact bodyPost_ret (v := tkV .bad) (by simp [results, Tryz.results82, go_sem, tkV, Tk.item, Tk.len, Tk.err, It.val, It.zero, itV, txt]) rfl ⟨rfl, below_box (below_q ((Below.refl _ _).alloc (Nat.le_refl _) _) _) _ _ _ _ _⟩
    · have h82' : ¬ (((l.getD 3 0).toNat : Int) = 82) := fun he => h82 (by
        have : (l.getD 3 0).toNat = (82 : UInt8).toNat := by show _ = 82; omega
        exact UInt8.toNat_inj.1 this)
      generalize (l.getD 3 0).toNat = x3 at hc3 h82'
      clear h hE hF h82 h0 h32 hnl
      go_enter Tryz.func82, Tryz.ntmps82
      go_wp2_with (go_at_call 81; refine (ce.out _ ?_).mono ?_; rfl; rintro r w1 ⟨rfl, rfl⟩)
      go_quiet (fail)
      go_wp2
      exact bodyPost_ret (v := tkV .bad) (by simp [results, Tryz.results82, go_sem, tkV, Tk.item, Tk.len, Tk.err, It.val, It.zero, itV, txt]) rfl ⟨rfl, below_box (below_q ((Below.refl _ _).alloc (Nat.le_refl _) _) _) _ _ _ _ _⟩
end Go.Proofs.YtbccnfbombgdmaaGreat

/- 'Take', behind the head's own sum. -/
set_option linter.unusedVariables false
set_option linter.unusedSimpArgs false
namespace Go.Proofs.YtbccnfbombgdmaaGreat
open Go.RowKit Go.Deep Math

theorem form1_of {l : List UInt8} (h : form1 l = true) : 32 ≤ l.length ∧ l.getD 3 0 = 82 ∧ up (sl l 24 28) = crcN (sl l 0 24) := by
  simp only [form1, Bool.and_eq_true, decide_eq_true_eq] at h
  exact ⟨h.1.1, h.1.2, h.2⟩

/-- On the way through Take: the heap is as at the beginning. -/
structure At (w W : World) : Prop where
  heap : W.heap = (w.alloc zeroBox).heap
  below : Below w.heap.size w W
theorem At.new {w : World} {nq : Nat} : At w ((w.alloc (.cells #[.string ⟨#[]⟩, .string ⟨#[]⟩, .int .u32 0, .int .i64 0, .int .u64 0] 39)).drewN nq) := ⟨rfl, below_q ((Below.refl _ _).alloc (Nat.le_refl _) _) _⟩
theorem At.more {w W : World} (h : At w W) (nq : Nat) : At w (W.drewN nq) := ⟨h.heap, below_q h.below nq⟩
theorem At.box {w W : World} (h : At w W) : Blk W w.heap.size [.string ⟨#[]⟩, .string ⟨#[]⟩, .int .u32 0, .int .i64 0, .int .u64 0] 39 := by
  have b := Blk.new w [.string ⟨#[]⟩, .string ⟨#[]⟩, .int .u32 0, .int .i64 0, .int .u64 0] 39
  exact b.same (by rw [h.heap]; rfl)
theorem At.cell {w W : World} (h : At w W) {b o : Nat} {v : Value} (hb : b < w.heap.size) (hc : w.cell? ⟨b, o, none⟩ = some v) : b < W.heap.size ∧ W.cell? ⟨b, o, none⟩ = some v :=
  ⟨Nat.lt_of_lt_of_le hb h.below.size, (h.below.cell (p := ⟨b, o, none⟩) hb).trans hc⟩

set_option maxHeartbeats 800000 in
theorem take_bad2 (a : Option Addr) (n cap : Nat) (l : List UInt8) (hcap : cap ≤ 9223372036854775807) (w : World) (h : BS w a n cap l) (hE : ended l = false) (hF : form1 l = true) (hF2 : form2 l = false) :
    Calls Tryz.prog 82 #[.slice a n cap] w fun e w' => e = .returned (tkV .bad) ∧ Below w.heap.size w w' := by
  have hnl := h.len
  have hcp := h.cap
  obtain ⟨f1, f2, f3⟩ := form1_of hF
  have ce := hide (fun (W : World) (hW : W.heap = (w.alloc zeroBox).heap) => ended_any a n cap l W ((h.later ((Below.refl _ _).alloc (Nat.le_refl _) _)).heap hW))
  rw [hE] at ce
  obtain ⟨b, off, rfl, hb, hc0⟩ := h.cell 0 (by omega)
  obtain ⟨b', off', ha, _, hc3⟩ := h.cell 3 (by omega)
  simp only [Option.some.injEq, Addr.mk.injEq, and_true] at ha
  obtain ⟨rfl, rfl⟩ := ha
  rw [f2] at hc3
  have hc3' : w.cell? ⟨b, off + 3, none⟩ = some (.int .u8 82) := hc3
  rw [Nat.add_zero] at hc0
  have L : Look w (w.alloc zeroBox) b off n cap l := ⟨h.later ((Below.refl _ _).alloc (Nat.le_refl _) _), by omega⟩
  obtain ⟨UU, hUU⟩ : ∃ UU : Nat → Nat → Nat, UU = fun i m => up (sl l i (i + m)) := ⟨_, rfl⟩
  have cA : Hid (∀ (W : World) (i m c : Nat), W.heap = (w.alloc zeroBox).heap → i + m ≤ n → m ≤ 8 → m ≤ c → Calls Tryz.prog 95 #[.slice (some ⟨b, off + i, none⟩) m c] W fun e w' => e = .returned (.int .u64 (UU i m : Int)) ∧ w' = W) := fun W i m c hW h1 h2 h3 => by
    rw [hUU]
    exact L.number i (i + m) c (by omega) h1 (by omega) (by omega) hW m (off + i) (by omega) rfl
  have u24 : up (sl l 24 28) = UU 24 4 := by rw [hUU]
  have u1 : up (sl l 1 3) = UU 1 2 := by rw [hUU]
  have u16 : up (sl l 16 24) = UU 16 8 := by rw [hUU]
  have u28 : up (sl l 28 32) = UU 28 4 := by rw [hUU]
  have cc := hide (fun (W : World) (hW : W.heap = (w.alloc zeroBox).heap) => L.crc 0 24 cap (by omega) (by omega) (by omega) (by omega) hW 24 off rfl rfl)
  have hcl := crcN_lt (sl l 0 24)
  rw [← f3] at cc hcl
  rw [u24] at cc hcl
  have hcw : IntKind.u64.wrap (UU 24 4 : Int) = (UU 24 4 : Int) := by rw [IntKind.wrap_u64]; omega
  have hx0 := (l.getD 0 0).toNat_lt
  have hv0 : up (sl l 1 3) ≤ 65535 := by have := up_lt (sl l 1 3); rw [sl_length _ _ _ (by omega)] at this; simp at this; omega
  have eF : form2 l = (mayBe (tkKey l) (tkVal l) (tkVer l) && decide (tkLen l ≤ l.length) && decide (up (sl l 28 32) = crcN (sl l 32 (tkLen l)))) := rfl
  have ek : tkKey l = (l.getD 0 0).toNat := rfl
  have ev : tkVal l = up (sl l 1 3) := rfl
  have er : tkVer l = up (sl l 16 24) := rfl
  have el : tkLen l = 32 + tkKey l + tkVal l := rfl
  have cm := hide (mayBe_any (tkKey l) (tkVal l) (tkVer l))
  have cc2 : Hid (∀ (W : World) (m : Nat), W.heap = (w.alloc zeroBox).heap → m = tkKey l + tkVal l → tkLen l ≤ n → Calls Tryz.prog 96 #[.slice (some ⟨b, off + 32, none⟩) m (cap - 32)] W fun e w' => e = .returned (.int .u32 (crcN (sl l 32 (tkLen l)) : Int)) ∧ w' = W) := fun W m hW hm hle =>
    L.crc 32 (tkLen l) (cap - 32) (by omega) hle (by omega) (by omega) hW m (off + 32) (by omega) rfl
  have hi32 : (32 : Int) ≤ (n : Int) := by omega
  have hlt : ((n : Int) < 32) = False := eq_false (by omega)
  have hi3 : (3 : Int) < (n : Int) := by omega
  have hi0 : 0 < n := by omega
  have hc32 : (32 : Int) ≤ (cap : Int) := by omega
  have hc28 : (28 : Int) ≤ (cap : Int) := by omega
  have hc24 : (24 : Int) ≤ (cap : Int) := by omega
  have hcc3 : (3 : Int) ≤ (cap : Int) := by omega
  rw [← ek] at hc0 hx0
  rw [← ev] at hv0
  rw [eF] at hF2
  have HEL := hide el
  have hcl2 := crcN_lt (sl l 32 (tkLen l))
  obtain ⟨n32, hn32⟩ : ∃ x, x = l.length := ⟨_, rfl⟩
  generalize crcN (sl l 32 (tkLen l)) = cq at cc2 hF2 hcl2
  rw [u28] at hF2
  rw [u1] at ev
  rw [u16] at er
  generalize hk : tkKey l = k at *
  rw [ev] at hv0 cm cc2 HEL hF2
  rw [er] at cm hF2
  have HNL := hide hnl
  have HCL := hide hcl
  have HCL2 := hide hcl2
  have HF1 := hide f1
  clear hk eF ek ev er h hE hF f2 f3 hc3 L u24 u1 u16 u28 hUU hnl hcl hcl2 f1 hn32 n32 el
  have e1 : ¬ cap = 1 := by omega
  have e16 : ¬ cap = 16 := by omega
  have e28 : ¬ cap = 28 := by omega
  have e24 : ¬ cap = 24 := by omega
  have hwk : IntKind.i64.wrap (k : Int) = (k : Int) := by rw [IntKind.wrap_i64]; omega
  have hwv : IntKind.i64.wrap (UU 1 2 : Int) = (UU 1 2 : Int) := by rw [IntKind.wrap_i64]; omega
  have hk255 : k ≤ 255 := by omega
  cases hmb : mayBe k (UU 1 2) (UU 16 8) with
  | false =>
    rw [hmb] at cm
    clear hF2 hmb cc2 hx0
    go_enter Tryz.func82, Tryz.ntmps82
    go_wp2_with (go_at_call 81; refine (ce.out _ ?_).mono ?_; rfl; rintro r w1 ⟨rfl, rfl⟩)
    go_quiet (first
      | (go_at_call 95; refine Calls.quiet_of_same (cA.out _ _ _ _ ?_ ?_ ?_ ?_); rfl; omega; omega; omega)
      | (go_at_call 96; refine Calls.quiet_of_same (cc.out _ ?_); rfl))
    go_wp2
    have A1 := hide (At.new (w := w) (nq := nq))
    generalize (w.alloc (.cells #[.string ⟨#[]⟩, .string ⟨#[]⟩, .int .u32 0, .int .i64 0, .int .u64 0] 39)).drewN nq = W1 at A1 ⊢
    obtain ⟨hb1, hd0⟩ := A1.out.cell hb hc0
    go_quiet (first
      | (go_at_call 95; refine Calls.quiet_of_same (cA.out _ _ _ _ ?_ ?_ ?_ ?_); exact A1.out.heap; omega; omega; omega))
    go_wp2
    have A2 := hide (A1.out.more nq)
    generalize W1.drewN nq = W2 at A2 ⊢
    obtain ⟨x0, x1, x2, x3, x4⟩ : W2.cell? ⟨w.heap.size, 0, none⟩ = some (.string ⟨#[]⟩) ∧ W2.cell? ⟨w.heap.size, 1, none⟩ = some (.string ⟨#[]⟩) ∧ W2.cell? ⟨w.heap.size, 2, none⟩ = some (.int .u32 0) ∧ W2.cell? ⟨w.heap.size, 3, none⟩ = some (.int .i64 0) ∧ W2.cell? ⟨w.heap.size, 4, none⟩ = some (.int .u64 0) := ⟨A2.out.box.cell rfl, A2.out.box.cell rfl, A2.out.box.cell rfl, A2.out.box.cell rfl, A2.out.box.cell rfl⟩
    have y0 := A2.out.box.frozen 0
    have y1 := A2.out.box.frozen 1
    have y2 := A2.out.box.frozen 2
    have y3 := A2.out.box.frozen 3
    have y4 := A2.out.box.frozen 4
    clear A1 hb1 hd0
    go_quiet (first
      | (go_at_call 62; exact Calls.quiet_of_same (cm.out _))
      | (go_at_call 95; refine Calls.quiet_of_same (cA.out _ _ _ _ ?_ ?_ ?_ ?_); exact A2.out.heap; omega; omega; omega))
    go_wp2
    exact bodyPost_ret (v := tkV .bad) (by simp [results, Tryz.results82, go_sem, tkV, Tk.item, Tk.len, Tk.err, It.val, It.zero, itV, txt, x0, x1, x2, x3, x4]) rfl ⟨rfl, below_box (below_q A2.out.below _) _ _ _ _ _⟩
  | true =>
    rw [hmb] at cm hF2
    by_cases hsz : 32 + k + UU 1 2 ≤ n
    · have hne : ¬ ((UU 28 4 : Int) = (cq : Int)) := by
        intro he
        have h1 : tkLen l ≤ l.length := by rw [HEL.out, ← HNL.out]; exact hsz
        have h2 : UU 28 4 = cq := by omega
        simp only [decide_eq_true h1, decide_eq_true h2, Bool.and_self] at hF2
        cases hF2
      have hlt2 : ((n : Int) < 32 + (k : Int) + (UU 1 2 : Int)) = False := eq_false (by omega)
      have hle2 : (32 : Int) + (k : Int) + (UU 1 2 : Int) ≤ (cap : Int) := by omega
      have hcqw : IntKind.u64.wrap (cq : Int) = (cq : Int) := by rw [IntKind.wrap_u64]; have := HCL2.out; omega
      have hlen : Hid (tkLen l ≤ n) := by show _ ≤ _; rw [HEL.out]; exact hsz
      have e32 : ¬ cap = 32 := by
        intro h32
        have : 1 ≤ k := by
          simp only [mayBe, Bool.and_eq_true, decide_eq_true_eq] at hmb
          exact hmb.1.1.1
        omega
      clear hF2 hmb hx0
      go_enter Tryz.func82, Tryz.ntmps82
      go_wp2_with (go_at_call 81; refine (ce.out _ ?_).mono ?_; rfl; rintro r w1 ⟨rfl, rfl⟩)
      go_quiet (first
        | (go_at_call 95; refine Calls.quiet_of_same (cA.out _ _ _ _ ?_ ?_ ?_ ?_); rfl; omega; omega; omega)
        | (go_at_call 96; refine Calls.quiet_of_same (cc.out _ ?_); rfl))
      go_wp2
      have A1 := hide (At.new (w := w) (nq := nq))
      generalize (w.alloc (.cells #[.string ⟨#[]⟩, .string ⟨#[]⟩, .int .u32 0, .int .i64 0, .int .u64 0] 39)).drewN nq = W1 at A1 ⊢
      obtain ⟨hb1, hd0⟩ := A1.out.cell hb hc0
      go_quiet (first
        | (go_at_call 95; refine Calls.quiet_of_same (cA.out _ _ _ _ ?_ ?_ ?_ ?_); exact A1.out.heap; omega; omega; omega))
      go_wp2
      have A2 := hide (A1.out.more nq)
      generalize W1.drewN nq = W2 at A2 ⊢
      obtain ⟨x0, x1, x2, x3, x4⟩ : W2.cell? ⟨w.heap.size, 0, none⟩ = some (.string ⟨#[]⟩) ∧ W2.cell? ⟨w.heap.size, 1, none⟩ = some (.string ⟨#[]⟩) ∧ W2.cell? ⟨w.heap.size, 2, none⟩ = some (.int .u32 0) ∧ W2.cell? ⟨w.heap.size, 3, none⟩ = some (.int .i64 0) ∧ W2.cell? ⟨w.heap.size, 4, none⟩ = some (.int .u64 0) := ⟨A2.out.box.cell rfl, A2.out.box.cell rfl, A2.out.box.cell rfl, A2.out.box.cell rfl, A2.out.box.cell rfl⟩
      have y0 := A2.out.box.frozen 0
      have y1 := A2.out.box.frozen 1
      have y2 := A2.out.box.frozen 2
      have y3 := A2.out.box.frozen 3
      have y4 := A2.out.box.frozen 4
      clear A1 hb1 hd0
      go_quiet (first
        | (go_at_call 62; exact Calls.quiet_of_same (cm.out _))
        | (go_at_call 95; refine Calls.quiet_of_same (cA.out _ _ _ _ ?_ ?_ ?_ ?_); exact A2.out.heap; omega; omega; omega)
        | (go_at_call 96; refine Calls.quiet_of_same (cc2.out _ _ ?_ ?_ ?_); exact A2.out.heap; omega; exact hlen.out))
      go_wp2
      exact bodyPost_ret (v := tkV .bad) (by simp [results, Tryz.results82, go_sem, tkV, Tk.item, Tk.len, Tk.err, It.val, It.zero, itV, txt, x0, x1, x2, x3, x4]) rfl ⟨rfl, below_box (below_q A2.out.below _) _ _ _ _ _⟩
    · have hlt2 : ((n : Int) < 32 + (k : Int) + (UU 1 2 : Int)) = True := eq_true (by omega)
      clear hF2 hmb cc2 hx0 hsz
      go_enter Tryz.func82, Tryz.ntmps82
      go_wp2_with (go_at_call 81; refine (ce.out _ ?_).mono ?_; rfl; rintro r w1 ⟨rfl, rfl⟩)
      go_quiet (first
        | (go_at_call 95; refine Calls.quiet_of_same (cA.out _ _ _ _ ?_ ?_ ?_ ?_); rfl; omega; omega; omega)
        | (go_at_call 96; refine Calls.quiet_of_same (cc.out _ ?_); rfl))
      go_wp2
      have A1 := hide (At.new (w := w) (nq := nq))
      generalize (w.alloc (.cells #[.string ⟨#[]⟩, .string ⟨#[]⟩, .int .u32 0, .int .i64 0, .int .u64 0] 39)).drewN nq = W1 at A1 ⊢
      obtain ⟨hb1, hd0⟩ := A1.out.cell hb hc0
      go_quiet (first
        | (go_at_call 95; refine Calls.quiet_of_same (cA.out _ _ _ _ ?_ ?_ ?_ ?_); exact A1.out.heap; omega; omega; omega))
      go_wp2
      have A2 := hide (A1.out.more nq)
      generalize W1.drewN nq = W2 at A2 ⊢
      obtain ⟨x0, x1, x2, x3, x4⟩ : W2.cell? ⟨w.heap.size, 0, none⟩ = some (.string ⟨#[]⟩) ∧ W2.cell? ⟨w.heap.size, 1, none⟩ = some (.string ⟨#[]⟩) ∧ W2.cell? ⟨w.heap.size, 2, none⟩ = some (.int .u32 0) ∧ W2.cell? ⟨w.heap.size, 3, none⟩ = some (.int .i64 0) ∧ W2.cell? ⟨w.heap.size, 4, none⟩ = some (.int .u64 0) := ⟨A2.out.box.cell rfl, A2.out.box.cell rfl, A2.out.box.cell rfl, A2.out.box.cell rfl, A2.out.box.cell rfl⟩
      have y0 := A2.out.box.frozen 0
      have y1 := A2.out.box.frozen 1
      have y2 := A2.out.box.frozen 2
      have y3 := A2.out.box.frozen 3
      have y4 := A2.out.box.frozen 4
      clear A1 hb1 hd0
      go_quiet (first
        | (go_at_call 62; exact Calls.quiet_of_same (cm.out _))
        | (go_at_call 95; refine Calls.quiet_of_same (cA.out _ _ _ _ ?_ ?_ ?_ ?_); exact A2.out.heap; omega; omega; omega))
      go_wp2
      exact bodyPost_ret (v := tkV .bad) (by simp [results, Tryz.results82, go_sem, tkV, Tk.item, Tk.len, Tk.err, It.val, It.zero, itV, txt, x0, x1, x2, x3, x4]) rfl ⟨rfl, below_box (below_q A2.out.below _) _ _ _ _ _⟩
end Go.Proofs.YtbccnfbombgdmaaGreat

/- Items in a row; 'allGood', 'fit', 'Lay'. -/
set_option linter.unusedVariables false
set_option linter.unusedSimpArgs false
namespace Go.Proofs.YtbccnfbombgdmaaGreat
open Go.RowKit Go.Deep Math

/-- An item in five cells of a row. -/
structure OneIt (w : World) (b o : Nat) (x : It) : Prop where
  c0 : w.cell? ⟨b, o, none⟩ = some (.string (txt x.key))
  c1 : w.cell? ⟨b, o + 1, none⟩ = some (.string (txt x.value))
  c2 : w.cell? ⟨b, o + 2, none⟩ = some (.int .u32 x.flags)
  c3 : w.cell? ⟨b, o + 3, none⟩ = some (.int .i64 x.exp)
  c4 : w.cell? ⟨b, o + 4, none⟩ = some (.int .u64 x.ver)
theorem OneIt.below {w w' : World} {b o : Nat} {x : It} {B : Nat} (h : OneIt w b o x) (k : Below B w w') (hb : b < B) : OneIt w' b o x :=
  ⟨(k.cell (p := ⟨b, o, none⟩) hb).trans h.c0, (k.cell (p := ⟨b, o + 1, none⟩) hb).trans h.c1, (k.cell (p := ⟨b, o + 2, none⟩) hb).trans h.c2, (k.cell (p := ⟨b, o + 3, none⟩) hb).trans h.c3, (k.cell (p := ⟨b, o + 4, none⟩) hb).trans h.c4⟩
/-- A slice of items. -/
structure ItsAt (w : World) (a : Option Addr) (len : Nat) (xs : List It) : Prop where
  len : len = xs.length
  fits : ∀ x ∈ xs, x.fits ∧ x.key.length ≤ 140737488351232 ∧ x.value.length ≤ 140737488351232
  cell : ∀ i x, xs[i]? = some x → ∃ b o, a = some ⟨b, o, none⟩ ∧ b < w.heap.size ∧ OneIt w b (o + i * 5) x
theorem ItsAt.below {w w' : World} {a : Option Addr} {len : Nat} {xs : List It} (h : ItsAt w a len xs) (k : Below w.heap.size w w') : ItsAt w' a len xs :=
  ⟨h.len, h.fits, fun i x hx => by
    obtain ⟨b, o, ha, hb, hc⟩ := h.cell i x hx
    exact ⟨b, o, ha, Nat.lt_of_lt_of_le hb k.size, hc.below k hb⟩⟩

def total : List It → Nat
  | [] => 0
  | x :: r => x.size + total r
theorem total_append : ∀ a b : List It, total (a ++ b) = total a + total b
  | [], _ => by simp [total]
  | x :: r, b => by simp [total, total_append r b]; omega
def encs : List It → List UInt8
  | [] => []
  | x :: r => x.enc ++ encs r
theorem encs_append : ∀ a b : List It, encs (a ++ b) = encs a ++ encs b
  | [], _ => rfl
  | x :: r, b => by simp [encs, encs_append r b]
theorem encs_length : ∀ xs, (encs xs).length = total xs
  | [] => rfl
  | x :: r => by simp [encs, total, x.enc_length, encs_length r]

theorem all_take_succ (xs : List It) (i : Nat) (x : It) (h : xs[i]? = some x) : (xs.take (i + 1)).all It.good = ((xs.take i).all It.good && x.good) := by
  rw [List.take_add_one, h]; simp
theorem all_false (xs : List It) (i : Nat) (x : It) (h : xs[i]? = some x) (hg : x.good = false) : xs.all It.good = false := by
  rw [List.all_eq_false]
  exact ⟨x, List.mem_of_getElem? h, by simp [hg]⟩
theorem total_take_succ (xs : List It) (i : Nat) (x : It) (h : xs[i]? = some x) : total (xs.take (i + 1)) = total (xs.take i) + x.size := by
  rw [List.take_add_one, h, total_append]; simp [total]
theorem total_take_le (xs : List It) (i : Nat) : total (xs.take i) ≤ total xs := by
  have := congrArg total (List.take_append_drop i xs)
  rw [total_append] at this
  omega

set_option maxHeartbeats 1000000 in
theorem allGood_any (a : Option Addr) (n cap : Nat) (xs : List It) (hn63 : n ≤ 9223372036854775807) (w : World) (h : ItsAt w a n xs) :
    Calls Tryz.prog 84 #[.slice a n cap] w fun e w' => e = .returned (.bool (xs.all It.good)) ∧ Below w.heap.size w w' := by
  have H := hide h
  clear h
  go_enter Tryz.func84, Tryz.ntmps84
  go_wp2
  go_loopg [7] n (fun kx s7 wr => ∃ i : Nat, s7 = .int .i64 i ∧ i ≤ n ∧ n - i ≤ kx ∧ Hid ((xs.take i).all It.good = true ∧ Below w.heap.size w wr))
  case atStart => exact ⟨0, rfl, Nat.zero_le _, by omega, by simp, Below.refl _ _⟩
  case round =>
    obtain ⟨i, rfl, hin, hg, I⟩ := hrel
    by_cases hlt : i < n
    · have hlt2 : (i : Int) < (n : Int) := by omega
      obtain ⟨x, hx⟩ : ∃ x, xs[i]? = some x := ⟨_, List.getElem?_eq_getElem (by rw [← H.out.len]; exact hlt)⟩
      obtain ⟨b, o, rfl, hb, hc⟩ := H.out.cell i x hx
      have hc' := hc.below I.out.2 hb
      have c0 := hc'.c0
      have c1 := hc'.c1
      have c2 := hc'.c2
      have c3 := hc'.c3
      have c4 := hc'.c4
      have hbw : b < wr.heap.size := Nat.lt_of_lt_of_le hb I.out.2.size
      have cg := hide (good_any (txt x.key) (txt x.value) x.flags x.exp x.ver)
      rw [← x.good_mayBe] at cg
      unfold itV at cg
      have AT := hide (all_take_succ xs i x hx)
      have AF := hide (all_false xs i x hx)
      clear hc hc' hx
      cases hgx : x.good with
      | true =>
        rw [hgx] at cg AT
        clear AF hgx
        go_wp2_with (go_at_call 27; refine (cg.out _).mono ?_; rintro r w1 ⟨rfl, b1⟩; have B1 := hide b1; clear b1)
        go_roundg (n - (i + 1))
        case measure => omega
        case rel => exact ⟨i + 1, rfl, by omega, by omega, by rw [AT.out, I.out.1]; rfl, (I.out.2.alloc I.out.2.size _).trans (B1.out.mono (by rw [nblk_alloc]; have := I.out.2.size; omega))⟩
      | false =>
        rw [hgx] at cg
        have AF' := hide (AF.out hgx)
        clear AT AF hgx
        go_wp2_with (go_at_call 27; refine (cg.out _).mono ?_; rintro r w1 ⟨rfl, b1⟩; have B1 := hide b1; clear b1)
        go_ret
        exact ⟨by rw [AF'.out]; rfl, (I.out.2.alloc I.out.2.size _).trans (B1.out.mono (by rw [nblk_alloc]; have := I.out.2.size; omega))⟩
    · obtain rfl : i = n := by omega
      have hlt2 : ¬ (i : Int) < (i : Int) := by omega
      go_wp2
      go_ret
      have := I.out.1
      rw [H.out.len, List.take_length] at this
      exact ⟨by rw [this]; rfl, I.out.2⟩

set_option maxHeartbeats 1000000 in
theorem fit_any (a : Option Addr) (n cap : Nat) (xs : List It) (room : Int) (hr0 : -9223372036854775808 ≤ room) (hr1 : room ≤ 65536) (hn63 : n ≤ 9223372036854775807) (w : World) (h : ItsAt w a n xs) :
    Calls Tryz.prog 85 #[.slice a n cap, .int .i64 room] w fun e w' => e = .returned (.bool (decide ((total xs : Int) ≤ room))) ∧ Below w.heap.size w w' := by
  have H := hide h
  clear h
  go_enter Tryz.func85, Tryz.ntmps85
  go_wp2
  go_loopg [1, 9] n (fun kx s1 s9 wr => ∃ (i : Nat) (rm : Int), s9 = .int .i64 i ∧ s1 = .int .i64 rm ∧ i ≤ n ∧ n - i ≤ kx ∧ -9223372036854775808 ≤ rm ∧ rm ≤ 65536 ∧ Hid (rm = room - (total (xs.take i) : Int) ∧ (0 < i → 0 ≤ rm) ∧ Below w.heap.size w wr))
  case atStart => exact ⟨0, room, rfl, rfl, Nat.zero_le _, by omega, hr0, hr1, by simp [total], fun h => absurd h (by omega), Below.refl _ _⟩
  case round =>
    obtain ⟨i, rm, rfl, rfl, hin, hg, hm0, hm1, I⟩ := hrel
    by_cases hlt : i < n
    · have hlt2 : (i : Int) < (n : Int) := by omega
      obtain ⟨x, hx⟩ : ∃ x, xs[i]? = some x := ⟨_, List.getElem?_eq_getElem (by rw [← H.out.len]; exact hlt)⟩
      obtain ⟨b, o, rfl, hb, hc⟩ := H.out.cell i x hx
      have hc' := hc.below I.out.2.2 hb
      have c0 := hc'.c0
      have c1 := hc'.c1
      have c2 := hc'.c2
      have c3 := hc'.c3
      have c4 := hc'.c4
      have hbw : b < wr.heap.size := Nat.lt_of_lt_of_le hb I.out.2.2.size
      have hf := H.out.fits x (List.mem_of_getElem? hx)
      have cs := hide (size_any (txt x.key) (txt x.value) x.flags x.exp x.ver (by rw [txt_size]; exact hf.2.1) (by rw [txt_size]; exact hf.2.2))
      have es : 32 + (txt x.key).size + (txt x.value).size = x.size := by rw [txt_size, txt_size]; rfl
      rw [es] at cs
      unfold itV at cs
      have TT := hide (total_take_succ xs i x hx)
      have TL := hide (total_take_le xs (i + 1))
      have hsz : x.size ≤ 281474976702496 := by unfold It.size; omega
      have HSZ := hide hsz
      generalize x.size = sz at cs TT hsz HSZ
      clear hc hc' hx es hf hsz
      by_cases hfit : rm < (sz : Int)
      · have hf2 : (rm < (sz : Int)) = True := eq_true hfit
        have E : Hid (decide ((total xs : Int) ≤ room) = false) := by
          show _ = false
          rw [decide_eq_false_iff_not]
          have := TT.out; have := TL.out; have := I.out.1
          omega
        clear hfit
        go_wp2_with (go_at_call 28; refine (cs.out _).mono ?_; rintro r w1 ⟨rfl, b1⟩; have B1 := hide b1; clear b1)
        go_ret
        exact ⟨by rw [E.out]; rfl, (I.out.2.2.alloc I.out.2.2.size _).trans (B1.out.mono (by rw [nblk_alloc]; have := I.out.2.2.size; omega))⟩
      · have hf2 : (rm < (sz : Int)) = False := eq_false hfit
        have hw := hide (show wrap64 (rm - (sz : Int)) = rm - (sz : Int) by have := HSZ.out; unfold wrap64; omega)
        have HFI := hide hfit
        clear hfit
        go_wp2_with fail
        refine (cs.out _).mono ?_
        rintro r w1 ⟨rfl, b1⟩
        have B1 := hide ((I.out.2.2.alloc I.out.2.2.size (.cells #[.string (txt x.key), .string (txt x.value), .int .u32 x.flags, .int .i64 x.exp, .int .u64 x.ver] 39)).trans (b1.mono (by rw [nblk_alloc]; have := I.out.2.2.size; omega)))
        have bx : Five w1 wr.heap.size (txt x.key) (txt x.value) x.flags x.exp x.ver := by
          have b := (Blk.new wr [.string (txt x.key), .string (txt x.value), .int .u32 x.flags, .int .i64 x.exp, .int .u64 x.ver] 39).same (b1.block wr.heap.size (by rw [nblk_alloc]; omega))
          exact ⟨b.cell rfl, b.cell rfl, b.cell rfl, b.cell rfl, b.cell rfl⟩
        obtain ⟨f0, f1, f2, f3, f4⟩ := bx
        have lw1 : wr.heap.size < w1.heap.size := by have := b1.size; rw [nblk_alloc] at this; omega
        clear b1
        go_wp2_with fail
        refine (cs.out _).mono ?_
        rintro r w2 ⟨rfl, b2⟩
        have B2 := hide (B1.out.trans (b2.mono B1.out.size))
        clear b2
        go_wp2_with fail
        go_roundg (n - (i + 1))
        case measure => omega
        case rel => exact ⟨i + 1, rm - (sz : Int), rfl, by rw [hw.out], by omega, by omega, by have := HFI.out; omega, by have := HFI.out; omega, by rw [TT.out, I.out.1]; omega, fun _ => by have := HFI.out; omega, B2.out⟩
    · obtain rfl : i = n := by omega
      have hlt2 : ¬ (i : Int) < (i : Int) := by omega
      have hr := I.out.1
      rw [H.out.len, List.take_length] at hr
      have E : Hid (decide ((total xs : Int) ≤ room) = decide (0 ≤ rm)) := by show _ = _; rw [decide_eq_decide]; omega
      clear hr
      go_wp2
      go_ret
      exact ⟨by rw [E.out]; rfl, I.out.2.2⟩
end Go.Proofs.YtbccnfbombgdmaaGreat
