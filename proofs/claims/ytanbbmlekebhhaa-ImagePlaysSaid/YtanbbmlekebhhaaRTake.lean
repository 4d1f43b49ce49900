/- 'ended', 'Take'. -/
import Derived.Test.YtanbbmlekebhhaaRNum
set_option linter.unusedVariables false
set_option linter.unusedSimpArgs false
namespace Go.Proofs.Ytanbbmlekebhhaa
open Go.RowKit Go.Deep Math

/-- A slice of bytes as it lies, with its list. -/
structure BS (w : World) (a : Option Addr) (n cap : Nat) (l : List UInt8) : Prop where
  len : n = l.length
  cap : n ≤ cap
  reads : Reads w a (ints l)
  cell : ∀ i, i < n → ∃ b off, a = some ⟨b, off, none⟩ ∧ b < w.heap.size ∧ w.cell? ⟨b, off + i, none⟩ = some (.int .u8 ((l.getD i 0).toNat : Int))
theorem BS.mk' {w : World} {a : Option Addr} {n cap : Nat} {l : List UInt8} (hn : n = l.length) (hc : n ≤ cap) (hr : Reads w a (ints l)) : BS w a n cap l :=
  ⟨hn, hc, hr, fun i hi => by
    obtain ⟨b, off, ha, hcell⟩ := hr.1 i (by rw [ints_length, ← hn]; exact hi)
    rw [ints_getD] at hcell
    exact ⟨b, off, ha, block_lt_of_cell hcell, hcell⟩⟩
theorem BS.later {w w' : World} {a : Option Addr} {n cap : Nat} {l : List UInt8} (h : BS w a n cap l) (b : Below w.heap.size w w') : BS w' a n cap l := BS.mk' h.len h.cap (h.reads.later b)
theorem BS.heap {w w' : World} {a : Option Addr} {n cap : Nat} {l : List UInt8} (h : BS w a n cap l) (e : w'.heap = w.heap) : BS w' a n cap l :=
  BS.mk' h.len h.cap ⟨fun i hi => by
    obtain ⟨b, off, ha, hc⟩ := h.reads.1 i hi
    exact ⟨b, off, ha, (World.cell?_of_block (a := ⟨b, off + i, none⟩) (show w'.heap[b]? = w.heap[b]? by rw [e])).trans hc⟩, h.reads.2⟩
/-- A part of it. -/
theorem BS.sub {w : World} {b off n cap : Nat} {l : List UInt8} (h : BS w (some ⟨b, off, none⟩) n cap l) (i j o2 m c : Nat) (ho : o2 = off + i) (hij : i ≤ j) (hj : j ≤ n) (hm : m = j - i) (hc : m ≤ c) : BS w (some ⟨b, o2, none⟩) m c (sl l i j) := by
  have hl := h.len
  refine BS.mk' (by rw [sl_length _ _ _ (by omega)]; exact hm) hc ⟨fun k hk => ?_, fun k => ?_⟩
  · rw [ints_length, sl_length _ _ _ (by omega)] at hk
    obtain ⟨b', off', ha, _, hcell⟩ := h.cell (i + k) (by omega)
    simp only [Option.some.injEq, Addr.mk.injEq, and_true] at ha
    obtain ⟨rfl, rfl⟩ := ha
    refine ⟨b, o2, rfl, ?_⟩
    rw [ho, Nat.add_assoc, hcell, ints_getD]
    congr 4
    simp only [List.getD_eq_getElem?_getD, sl, List.getElem?_drop]
    rw [List.getElem?_take_of_lt (by omega)]
  · rw [ints_getD]
    have := ((sl l i j).getD k 0).toNat_lt
    omega

set_option maxHeartbeats 400000 in
theorem ended_any (a : Option Addr) (n cap : Nat) (l : List UInt8) (w : World) (h : BS w a n cap l) :
    Calls Try.prog 68 #[.slice a n cap] w fun e w' => e = .returned (.bool (ended l)) ∧ w' = w := by
  by_cases h0 : n = 0
  · have E : Hid (ended l = true) := by
      have : l.length = 0 := by have := h.len; omega
      show ended l = true
      simp only [ended, decide_eq_true this, Bool.true_or]
    subst h0
    clear h
    go_enter Try.func68, Try.ntmps68
    go_wp2
    go_ret
    exact ⟨by rw [E.out]; rfl, rfl⟩
  · obtain ⟨b, off, rfl, hb, hc⟩ := h.cell 0 (by omega)
    rw [Nat.add_zero] at hc
    have hn0 : ¬ (n : Int) = 0 := by omega
    have hnl : ¬ l.length = 0 := by have := h.len; omega
    have hpos : (0 : Int) < (n : Int) := by omega
    by_cases hz : l.getD 0 0 = 0
    · have E : Hid (ended l = true) := by simp only [Hid, ended, decide_eq_true hz, Bool.or_true]
      rw [hz] at hc
      clear h hz hnl h0
      have hc' : w.cell? ⟨b, off, none⟩ = some (.int .u8 0) := hc
      clear hc
      go_enter Try.func68, Try.ntmps68
      go_wp2
      go_ret
      exact ⟨by rw [E.out]; rfl, rfl⟩
    · have E : Hid (ended l = false) := by simp only [Hid, ended, decide_eq_false hz, decide_eq_false hnl, Bool.or_self]
      have hz' : ¬ (((l.getD 0 0).toNat : Int) = 0) := fun h => hz (by
        have : (l.getD 0 0).toNat = 0 := by omega
        exact UInt8.toNat_inj.1 this)
      clear h hz hnl h0
      generalize (l.getD 0 0).toNat = x at hc hz'
      have b1 : ((n : Int) == 0) = false := by simpa using hn0
      have b2 : ((x : Int) == 0) = false := by simpa using hz'
      go_enter Try.func68, Try.ntmps68
      go_wp2
      go_ret
      exact ⟨by rw [E.out]; rfl, rfl⟩

def itOf (x : It) : Value := x.val
/-- What Take answers. -/
def tkV (t : Tk) : Value := .tuple #[t.item.val, .int .i64 (t.len : Int), .int .i64 t.err]

theorem below_q {n : Nat} {a b : World} (h : Below n a b) (q : Nat) : Below n a (b.drewN q) := ⟨h.os, h.tape, h.output, h.size, h.block⟩
theorem below_box {w V : World} (h : Below w.heap.size w V) (a b c d e : Value) : Below w.heap.size w (((((V.setCell ⟨w.heap.size, 0, none⟩ a).setCell ⟨w.heap.size, 1, none⟩ b).setCell ⟨w.heap.size, 2, none⟩ c).setCell ⟨w.heap.size, 3, none⟩ d).setCell ⟨w.heap.size, 4, none⟩ e) :=
  ((((h.setCell (Nat.le_refl _) _).setCell (Nat.le_refl _) _).setCell (Nat.le_refl _) _).setCell (Nat.le_refl _) _).setCell (Nat.le_refl _) _
/-- The result's box, as it begins. -/
def zeroBox : Obj := .cells #[.string ⟨#[]⟩, .string ⟨#[]⟩, .int .u32 0, .int .i64 0, .int .u64 0] 32

set_option maxHeartbeats 1000000 in
theorem take_none (a : Option Addr) (n cap : Nat) (l : List UInt8) (w : World) (h : BS w a n cap l) (hE : ended l = true) :
    Calls Try.prog 58 #[.slice a n cap] w fun e w' => e = .returned (tkV .none) ∧ Below w.heap.size w w' := by
  have ce := hide (fun (W : World) (hW : W.heap = (w.alloc zeroBox).heap) => ended_any a n cap l W ((h.later ((Below.refl _ _).alloc (Nat.le_refl _) _)).heap hW))
  rw [hE] at ce
  have y := (Blk.new w [.string ⟨#[]⟩, .string ⟨#[]⟩, .int .u32 0, .int .i64 0, .int .u64 0] 32)
  clear hE h y
  go_enter Try.func58, Try.ntmps58
  go_wp2_with (go_at_call 68; refine (ce.out _ ?_).mono ?_; rfl; rintro r w1 ⟨rfl, rfl⟩)
  exact bodyPost_ret (v := tkV .none) (by simp [results, Try.results58, go_sem, tkV, Tk.item, Tk.len, Tk.err, It.val, It.zero, itV, txt]) rfl ⟨rfl, (Below.refl _ _).alloc (Nat.le_refl _) _⟩

/-- What a look at the bytes needs: the slice is there, with at least 32 bytes. -/
structure Look (w W0 : World) (b off n cap : Nat) (l : List UInt8) : Prop where
  bs : BS W0 (some ⟨b, off, none⟩) n cap l
  n32 : 32 ≤ n
theorem Look.number {w W0 W : World} {b off n cap : Nat} {l : List UInt8} (h : Look w W0 b off n cap l) (i j c : Nat) (hij : i ≤ j) (hj : j ≤ n) (h8 : j - i ≤ 8) (hc : j - i ≤ c) (hW : W.heap = W0.heap) (m o2 : Nat) (hm : m = j - i) (ho : o2 = off + i) :
    Calls Try.prog 69 #[.slice (some ⟨b, o2, none⟩) m c] W fun e w' => e = .returned (.int .u64 (up (sl l i j) : Int)) ∧ w' = W := by
  have s := (h.bs.heap hW).sub i j o2 m c ho hij hj hm (by omega)
  exact number_any _ _ _ _ s.len (by omega) W s.reads
theorem Look.crc {w W0 W : World} {b off n cap : Nat} {l : List UInt8} (h : Look w W0 b off n cap l) (i j c : Nat) (hij : i ≤ j) (hj : j ≤ n) (hn : n ≤ 9223372036854775807) (hc : j - i ≤ c) (hW : W.heap = W0.heap) (m o2 : Nat) (hm : m = j - i) (ho : o2 = off + i) :
    Calls Try.prog 70 #[.slice (some ⟨b, o2, none⟩) m c] W fun e w' => e = .returned (.int .u32 (crcN (sl l i j) : Int)) ∧ w' = W := by
  have s := (h.bs.heap hW).sub i j o2 m c ho hij hj hm (by omega)
  exact crc_at _ m c (ints (sl l i j)) W (by rw [ints_length, s.len]) (by unfold maxLen; omega) s.reads

set_option maxHeartbeats 1000000 in
theorem take_bad1 (a : Option Addr) (n cap : Nat) (l : List UInt8) (hcap : cap ≤ 9223372036854775807) (w : World) (h : BS w a n cap l) (hE : ended l = false) (hF : form1 l = false) :
    Calls Try.prog 58 #[.slice a n cap] w fun e w' => e = .returned (tkV .bad) ∧ Below w.heap.size w w' := by
  have hnl := h.len
  have hcp := h.cap
  have ce := hide (fun (W : World) (hW : W.heap = (w.alloc zeroBox).heap) => ended_any a n cap l W ((h.later ((Below.refl _ _).alloc (Nat.le_refl _) _)).heap hW))
  rw [hE] at ce
  have fin : tkV .bad = .tuple #[.agg #[.string ⟨#[]⟩, .string ⟨#[]⟩, .int .u32 0, .int .i64 0, .int .u64 0], .int .i64 0, .int .i64 3] := rfl
  have h0 : 0 < n := by
    rcases Nat.eq_zero_or_pos n with h0 | h0
    · exfalso
      have : l.length = 0 := by omega
      simp [ended, this] at hE
    · exact h0
  obtain ⟨b, off, rfl, hb, _⟩ := h.cell 0 h0
  by_cases h32 : n < 32
  · have hlt : ((n : Int) < 32) = True := eq_true (by omega)
    clear h hE hF hnl hcp h0 h32
    go_enter Try.func58, Try.ntmps58
    go_wp2_with (go_at_call 68; refine (ce.out _ ?_).mono ?_; rfl; rintro r w1 ⟨rfl, rfl⟩)
    go_quiet (fail)
    go_wp2
    exact bodyPost_ret (v := tkV .bad) (by simp [results, Try.results58, go_sem, tkV, Tk.item, Tk.len, Tk.err, It.val, It.zero, itV, txt]) rfl ⟨rfl, below_box (below_q ((Below.refl _ _).alloc (Nat.le_refl _) _) _) _ _ _ _ _⟩
  · have hlt : ((n : Int) < 32) = False := eq_false (by omega)
    have hi32 : (32 : Int) ≤ (n : Int) := by omega
    have hi3 : (3 : Int) < (n : Int) := by omega
    have hc32 : (32 : Int) ≤ (cap : Int) := by omega
    have hc28 : (28 : Int) ≤ (cap : Int) := by omega
    have hc24 : (24 : Int) ≤ (cap : Int) := by omega
    obtain ⟨b', off', ha, _, hc3⟩ := h.cell 3 (by omega)
    simp only [Option.some.injEq, Addr.mk.injEq, and_true] at ha
    obtain ⟨rfl, rfl⟩ := ha
    by_cases h82 : l.getD 3 0 = 82
    · rw [h82] at hc3
      have hc3' : w.cell? ⟨b, off + 3, none⟩ = some (.int .u8 82) := hc3
      have hne : up (sl l 24 28) ≠ crcN (sl l 0 24) := by
        intro he
        have h1 : 32 ≤ l.length := by omega
        simp only [form1, decide_eq_true h1, decide_eq_true h82, decide_eq_true he, Bool.and_self] at hF
        cases hF
      have L : Look w (w.alloc zeroBox) b off n cap l := ⟨h.later ((Below.refl _ _).alloc (Nat.le_refl _) _), by omega⟩
      have c24 := hide (fun (W : World) (hW : W.heap = (w.alloc zeroBox).heap) => L.number 24 28 (cap - 24) (by omega) (by omega) (by omega) (by omega) hW 4 (off + 24) rfl rfl)
      have cc := hide (fun (W : World) (hW : W.heap = (w.alloc zeroBox).heap) => L.crc 0 24 cap (by omega) (by omega) (by omega) (by omega) hW 24 off rfl rfl)
      have hcl := crcN_lt (sl l 0 24)
      generalize up (sl l 24 28) = u at c24 hne
      generalize crcN (sl l 0 24) = c at cc hne hcl
      have hne' : ¬ ((u : Int) = (c : Int)) := by omega
      have hcw : IntKind.u64.wrap (c : Int) = (c : Int) := by rw [IntKind.wrap_u64]; omega
      have hcl' := hide hcl
      clear h hE hF h82 hc3 hne L h0 h32 hcl hnl
      go_enter Try.func58, Try.ntmps58
      go_wp2_with (go_at_call 68; refine (ce.out _ ?_).mono ?_; rfl; rintro r w1 ⟨rfl, rfl⟩)
      go_quiet (first
        | (go_at_call 69; refine Calls.quiet_of_same (c24.out _ ?_); rfl)
        | (go_at_call 70; refine Calls.quiet_of_same (cc.out _ ?_); rfl))
      go_wp2
      exact bodyPost_ret (v := tkV .bad) (by simp [results, Try.results58, go_sem, tkV, Tk.item, Tk.len, Tk.err, It.val, It.zero, itV, txt]) rfl ⟨rfl, below_box (below_q ((Below.refl _ _).alloc (Nat.le_refl _) _) _) _ _ _ _ _⟩
    · have h82' : ¬ (((l.getD 3 0).toNat : Int) = 82) := fun he => h82 (by
        have : (l.getD 3 0).toNat = (82 : UInt8).toNat := by show _ = 82; omega
        exact UInt8.toNat_inj.1 this)
      generalize (l.getD 3 0).toNat = x3 at hc3 h82'
      clear h hE hF h82 h0 h32 hnl
      go_enter Try.func58, Try.ntmps58
      go_wp2_with (go_at_call 68; refine (ce.out _ ?_).mono ?_; rfl; rintro r w1 ⟨rfl, rfl⟩)
      go_quiet (fail)
      go_wp2
      exact bodyPost_ret (v := tkV .bad) (by simp [results, Try.results58, go_sem, tkV, Tk.item, Tk.len, Tk.err, It.val, It.zero, itV, txt]) rfl ⟨rfl, below_box (below_q ((Below.refl _ _).alloc (Nat.le_refl _) _) _) _ _ _ _ _⟩
end Go.Proofs.Ytanbbmlekebhhaa
