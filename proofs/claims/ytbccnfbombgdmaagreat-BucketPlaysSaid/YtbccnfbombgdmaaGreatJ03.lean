/- Texts joined: RAdd, RPut, RNum. -/
import Derived.Test.YtbccnfbombgdmaaGreatJ02
import Derived.Laws.BytesString
import Derived.Lib.ConvBytes
import Derived.Deep.RegionHeld
/- 'add', 'Put': an item is laid. -/
set_option linter.unusedVariables false
set_option linter.unusedSimpArgs false
namespace Go.Proofs.YtbccnfbombgdmaaGreat
open Go.RowKit Go.Deep Math

/-- An item's fields as values. -/
def txt (l : List UInt8) : ByteArray := ⟨l.toArray⟩
theorem txt_size (l : List UInt8) : (txt l).size = l.length := by show l.toArray.size = _; simp
def It.val (x : It) : Value := itV (txt x.key) (txt x.value) x.flags x.exp x.ver

/-- '[]byte(s)'. -/
theorem run_bytes (w : World) (s : ByteArray) :
    (convert 9 40 (.string s)).run Tryz.prog w = .ok (.slice (some ⟨w.heap.size, 0, none⟩) s.size (grownCap w s.size 0 5)) (Lib.bytesWorld w 5 s) :=
  Lib.run_convert_string_bytes w 9 40 5 s Tryz.underlying9 Tryz.underlying40 Tryz.underlying5
theorem below_bytes (w : World) (s : ByteArray) : Below w.heap.size w (Lib.bytesWorld w 5 s) :=
  ⟨rfl, rfl, rfl, by rw [Lib.bytesWorld_size]; omega, fun k hk => Lib.bytesWorld_at_old w 5 s k hk⟩
theorem reads_bytes (w : World) (s : ByteArray) : Reads (Lib.bytesWorld w 5 s) (some ⟨w.heap.size, 0, none⟩) (bytesOf s) := by
  refine ⟨fun i hi => ⟨_, _, rfl, ?_⟩, bytesOf_range s⟩
  rw [bytesOf_length] at hi
  rw [Nat.zero_add, Lib.bytesWorld_cell w 5 s i hi]
  have hi' : i < s.data.toList.length := by rw [Array.length_toList]; exact hi
  unfold bytesOf
  rw [List.getD_eq_getElem?_getD, List.getD_eq_getElem?_getD, List.getElem?_map, List.getElem?_eq_getElem hi']
  rfl

theorem reads_bytes_at (w : World) (s : ByteArray) (N : Nat) (hN : N = w.heap.size) : Reads (Lib.bytesWorld w 5 s) (some ⟨N, 0, none⟩) (bytesOf s) := by
  subst hN; exact reads_bytes w s


theorem below_two (w : World) (s t : ByteArray) : Below w.heap.size w (Lib.bytesWorld (Lib.bytesWorld w.drew 5 s) 5 t) := by
  have a : Below w.heap.size w.drew (Lib.bytesWorld w.drew 5 s) := below_bytes w.drew s
  have b := below_bytes (Lib.bytesWorld w.drew 5 s) t
  exact ((Below.refl _ w).drew).trans (a.trans (b.mono a.size))
theorem bw_size (w : World) (t : ByteArray) : w.heap.size + 1 = (Lib.bytesWorld w.drew 5 t).heap.size := (Lib.bytesWorld_size w.drew 5 t).symm
theorem r_first (w : World) (t : ByteArray) : Reads (Lib.bytesWorld w.drew 5 t) (some ⟨w.heap.size, 0, none⟩) (bytesOf t) := reads_bytes_at w.drew t w.heap.size rfl
theorem r_old (w : World) (t u : ByteArray) : Reads (Lib.bytesWorld (Lib.bytesWorld w.drew 5 t) 5 u) (some ⟨w.heap.size, 0, none⟩) (bytesOf t) := (r_first w t).later (below_bytes _ u)
theorem r_new (w : World) (t u : ByteArray) : Reads (Lib.bytesWorld (Lib.bytesWorld w.drew 5 t) 5 u) (some ⟨w.heap.size + 1, 0, none⟩) (bytesOf u) := reads_bytes_at _ u _ (bw_size w t)
/-- Two texts made to bytes, one behind the other, in whatever order. -/
theorem two_bytes (w : World) : ∃ bW : World → ByteArray → World,
    (∀ W t, (convert 9 40 (.string t)).run Tryz.prog W = .ok (.slice (some ⟨W.heap.size, 0, none⟩) t.size (grownCap W t.size 0 5)) (bW W t)) ∧ (∀ W t, (bW W t).heap.size = W.heap.size + 1) ∧
    (∀ t N o v, N < w.heap.size → w.cell? ⟨N, o, none⟩ = some v → (bW w.drew t).cell? ⟨N, o, none⟩ = some v) ∧ (∀ t u N o v, N < w.heap.size → w.cell? ⟨N, o, none⟩ = some v → (bW (bW w.drew t) u).cell? ⟨N, o, none⟩ = some v) ∧
    (∀ t, Reads (bW w.drew t) (some ⟨w.heap.size, 0, none⟩) (bytesOf t)) ∧ (∀ t u, Reads (bW (bW w.drew t) u) (some ⟨w.heap.size, 0, none⟩) (bytesOf t)) ∧ (∀ t u, Reads (bW (bW w.drew t) u) (some ⟨w.heap.size + 1, 0, none⟩) (bytesOf u)) ∧
    (∀ t u, Below w.heap.size w (bW (bW w.drew t) u)) := by
  refine ⟨fun W t => Lib.bytesWorld W 5 t, run_bytes, fun W t => Lib.bytesWorld_size W 5 t, fun t N o v hN hc => ?_, fun t u N o v hN hc => ?_, r_first w, r_old w, r_new w, below_two w⟩
  · exact ((below_bytes w.drew t).cell (p := ⟨N, o, none⟩) hN).trans hc
  · exact ((below_two w t u).cell (p := ⟨N, o, none⟩) hN).trans hc
theorem bytesOf_txt (l : List UInt8) : bytesOf (txt l) = ints l := rfl

/-- On the way: the row, the item's box. -/
structure AddSt (w wi : World) (g N : Nat) (l cur : List UInt8) (r : Nat) (box : List Value) : Prop where
  buf : Buf wi g (l ++ cur) (r - cur.length)
  keep : Keep [g] w wi
  blk : Blk wi N box 39
  ng : N ≠ g

theorem AddSt.number {w wi : World} {g N r : Nat} {l cur : List UInt8} {box : List Value} (h : AddSt w wi g N l cur r box) (m cp k : Nat) (z : Int) (n : Nat) (hz : z = (n : Int)) (hn : n < 18446744073709551616) (hk8 : k ≤ 8) (hk : cur.length + k ≤ r) (hm : m = l.length + cur.length) (hcp : cp = l.length + r) (hc : cp ≤ 1048576) :
    Calls Tryz.prog 97 #[.slice (some ⟨g, 0, none⟩) m cp, .int .u64 z, .int .i64 (k : Int)] wi fun e w' => e = .returned (.slice (some ⟨g, 0, none⟩) (m + k) cp) ∧ AddSt w w' g N l (cur ++ low n k) r box := by
  subst hz
  refine (addNumber_any g (r - cur.length) k m cp (l ++ cur) n hn (by omega) hk8 (by rw [List.length_append, hm]) (by rw [List.length_append, hcp]; omega) (by omega) wi h.buf).mono ?_
  rintro e w' ⟨rfl, hb, hkp⟩
  refine ⟨rfl, ?_, h.keep.trans hkp (fun x hx => .inl hx), h.blk.same (hkp.block N h.blk.lt (by simpa using h.ng)), h.ng⟩
  rw [List.length_append, low_length, ← List.append_assoc, show r - (cur.length + k) = r - cur.length - k by omega]
  exact hb

theorem AddSt.one {w wi : World} {g N r : Nat} {l cur : List UInt8} {box : List Value} (h : AddSt w wi g N l cur r box) (m cp : Nat) (hk : cur.length + 1 ≤ r) (hm : m = l.length + cur.length) (hcp : cp = l.length + r) :
    ∃ W, (Builtin.append_ #[40, 40] 40 #[.slice (some ⟨g, 0, none⟩) m cp, .slice (some ⟨wi.heap.size, 0, none⟩) 1 1]).run Tryz.prog (wi.alloc (.cells #[.int .u8 82] 5)) = .ok (.slice (some ⟨g, 0, none⟩) (m + 1) cp) W ∧ AddSt w W g N l (cur ++ [82]) r box := by
  obtain ⟨W, h1, h2, h3⟩ := buf_one (nl := m) (cp := cp) h.buf 82 82 rfl (by omega) (by rw [List.length_append, hm]) (by rw [List.length_append, hcp]; omega)
  refine ⟨W, h1, ?_, h.keep.trans h3 (fun x hx => .inl hx), h.blk.same (h3.block N h.blk.lt (by simpa using h.ng)), h.ng⟩
  rw [List.length_append, ← List.append_assoc, show r - (cur.length + [(82 : UInt8)].length) = r - cur.length - 1 by simp; omega]
  exact h2

theorem AddSt.below {w wi wj : World} {g N r : Nat} {l cur : List UInt8} {box : List Value} (h : AddSt w wi g N l cur r box) (b : Below wi.heap.size wi wj) : AddSt w wj g N l cur r box :=
  ⟨h.buf.same (b.block g h.buf.lt), h.keep.trans (Keep.of_below (F := [g]) b) (fun x hx => .inl hx), h.blk.same (b.block N h.blk.lt), h.ng⟩

theorem byteCells_txt (l : List UInt8) : byteCells (txt l) = bCells l := rfl

/-- A text is laid behind. -/
theorem AddSt.text {w wi : World} {g N r : Nat} {l cur : List UInt8} {box : List Value} (h : AddSt w wi g N l cur r box) (m cp : Nat) (t : List UInt8) (hk : cur.length + t.length ≤ r) (hm : m = l.length + cur.length) (hcp : cp = l.length + r) :
    ∃ W, (Builtin.append_ #[40, 9] 40 #[.slice (some ⟨g, 0, none⟩) m cp, .string (txt t)]).run Tryz.prog wi = .ok (.slice (some ⟨g, 0, none⟩) (m + t.length) cp) W ∧ AddSt w W g N l (cur ++ t) r box := by
  have hs : Src Tryz.prog 1 9 (.string (txt t)) t.length (bCells t) wi := by
    have := Src.ofString (P := Tryz.prog) wi Tryz.underlying9 (txt t)
    rw [txt_size, byteCells_txt] at this
    exact this
  obtain ⟨h1, h2⟩ := buf_append (nl := m) (cp := cp) h.buf hs (by omega) (by rw [List.length_append, hm]) (by rw [List.length_append, hcp]; omega) 40
  refine ⟨_, h1, ?_, h.keep.setCells (.inl (by simp)) _ _, h.blk.same (heap_setCells_other _ _ _ _ _ h.ng), h.ng⟩
  rw [List.length_append, ← List.append_assoc, show r - (cur.length + t.length) = r - cur.length - t.length by omega]
  exact h2

set_option maxHeartbeats 1000000 in
theorem add_any (g r nl cp : Nat) (l : List UInt8) (x : It) (hf : x.fits) (hg : x.good = true) (hr : x.size ≤ r) (hnl : nl = l.length) (hcp : cp = l.length + r) (hc63 : cp ≤ 1048576) (w : World) (h : Buf w g l r) :
    Calls Tryz.prog 86 #[.slice (some ⟨g, 0, none⟩) nl cp, x.val] w fun e w' => e = .returned (.slice (some ⟨g, 0, none⟩) (nl + x.size) cp) ∧ Buf w' g (l ++ x.enc) (r - x.size) ∧ Keep [g] w w' := by
  obtain ⟨g1, g2, g3, g4⟩ := x.good_iff.1 hg
  have hsz : x.size = 32 + x.key.length + x.value.length := rfl
  obtain ⟨kb, hkb⟩ : ∃ kb, kb = txt x.key := ⟨_, rfl⟩
  obtain ⟨vb, hvb⟩ : ∃ vb, vb = txt x.value := ⟨_, rfl⟩
  have hks : kb.size = x.key.length := by rw [hkb, txt_size]
  have hvs : vb.size = x.value.length := by rw [hvb, txt_size]
  obtain ⟨box, hbox⟩ : ∃ box : List Value, box = [.string kb, .string vb, .int .u32 x.flags, .int .i64 x.exp, .int .u64 x.ver] := ⟨_, rfl⟩
  have s0 : AddSt w (w.alloc (.cells #[.string kb, .string vb, .int .u32 x.flags, .int .i64 x.exp, .int .u64 x.ver] 39)) g w.heap.size l [] r box := by
    refine ⟨by rw [List.append_nil]; exact h.alloc _, (Keep.refl _ _).alloc _, ?_, by have := h.lt; omega⟩
    rw [hbox]
    exact Blk.new w _ 39
  have BOX : Hid (∀ W cur, AddSt w W g w.heap.size l cur r box → w.heap.size < W.heap.size ∧ W.cell? ⟨w.heap.size, 0, none⟩ = some (.string kb) ∧ W.cell? ⟨w.heap.size, 1, none⟩ = some (.string vb) ∧ W.cell? ⟨w.heap.size, 2, none⟩ = some (.int .u32 x.flags) ∧ W.cell? ⟨w.heap.size, 3, none⟩ = some (.int .i64 x.exp) ∧ W.cell? ⟨w.heap.size, 4, none⟩ = some (.int .u64 x.ver)) := fun W cur hh => by
    have b := hh.blk
    rw [hbox] at b
    exact ⟨b.lt, b.cell rfl, b.cell rfl, b.cell rfl, b.cell rfl, b.cell rfl⟩
  have ev : x.val = .agg #[.string kb, .string vb, .int .u32 x.flags, .int .i64 x.exp, .int .u64 x.ver] := by rw [hkb, hvb]; rfl
  rw [ev]
  have S0 := hide s0
  have HNL := hide hnl
  have HCP := hide hcp
  have HF := hide hf
  have SZ := hide (show x.key.length ≤ 250 ∧ x.value.length ≤ 1024 ∧ 32 + x.key.length + x.value.length ≤ r ∧ cp ≤ 1048576 from ⟨g2, g3, hr, hc63⟩)
  have HKS := hide hks
  have HVS := hide hvs
  have HKB := hide hkb
  have HVB := hide hvb
  have nl63 : nl ≤ 1048576 := by omega
  clear h hf hg hr hnl hcp hc63 g1 g2 g3 g4 hsz s0 hbox ev hks hvs hkb hvb
  go_enter Tryz.func86, Tryz.ntmps86
  go_wp2_with fail
  refine (S0.out.number nl cp 1 (IntKind.u64.wrap (kb.size : Int)) x.key.length (by rw [IntKind.wrap_u64, HKS.out]; have := SZ.out; omega) (by have := SZ.out; omega) (by omega) (by have := SZ.out; simp only [List.length_append, low_length, List.length_cons, List.length_nil] <;> omega) (by rw [HNL.out]; rfl) HCP.out SZ.out.2.2.2).mono ?_
  rintro e w1 ⟨rfl, s1⟩
  have S1 := hide s1
  obtain ⟨q0, q1, q2, q3, q4, q5⟩ := BOX.out _ _ s1
  clear s1 S0
  go_wp2_with fail
  refine (S1.out.number (nl + 1) cp 2 (IntKind.u64.wrap (vb.size : Int)) x.value.length (by rw [IntKind.wrap_u64, HVS.out]; have := SZ.out; omega) (by have := SZ.out; omega) (by omega) (by have := SZ.out; simp only [List.length_append, low_length, List.length_cons, List.length_nil] <;> omega) (by rw [HNL.out]; simp only [List.length_append, low_length, List.length_cons, List.length_nil] <;> omega) HCP.out SZ.out.2.2.2).mono ?_
  rintro e w2 ⟨rfl, s2⟩
  obtain ⟨W3, hr3, s3⟩ := s2.one (nl + 1 + 2) cp (by have := SZ.out; simp only [List.length_append, low_length, List.length_cons, List.length_nil] <;> omega) (by rw [HNL.out]; simp only [List.length_append, low_length, List.length_cons, List.length_nil] <;> omega) HCP.out
  have HR3 := hide hr3
  have S3 := hide s3
  obtain ⟨z0, z1, z2, z3, z4, z5⟩ := BOX.out _ _ s3
  clear s2 s3 hr3 S1 q0 q1 q2 q3 q4 q5
  go_wp2_with (at_builtin; refine Lib.wpList_append_run _ rfl _ _ _ _ rfl _ _ rfl rfl _ _ HR3.out ?_)
  refine (S3.out.number (nl + 1 + 2 + 1) cp 4 (IntKind.u64.wrap (x.flags : Int)) x.flags (by rw [IntKind.wrap_u64]; have := HF.out.flags; omega) (by have := HF.out.flags; omega) (by omega) (by have := SZ.out; simp only [List.length_append, low_length, List.length_cons, List.length_nil] <;> omega) (by rw [HNL.out]; simp only [List.length_append, low_length, List.length_cons, List.length_nil] <;> omega) HCP.out SZ.out.2.2.2).mono ?_
  rintro e w4 ⟨rfl, s4⟩
  have S4 := hide s4
  obtain ⟨q0, q1, q2, q3, q4, q5⟩ := BOX.out _ _ s4
  clear s4 S3 z0 z1 z2 z3 z4 z5 HR3
  go_wp2_with fail
  refine (S4.out.number (nl + 1 + 2 + 1 + 4) cp 8 (IntKind.u64.wrap x.exp) (u64 x.exp) (by rw [IntKind.wrap_u64]; unfold u64; omega) (u64_lt _) (by omega) (by have := SZ.out; simp only [List.length_append, low_length, List.length_cons, List.length_nil] <;> omega) (by rw [HNL.out]; simp only [List.length_append, low_length, List.length_cons, List.length_nil] <;> omega) HCP.out SZ.out.2.2.2).mono ?_
  rintro e w5 ⟨rfl, s5⟩
  have S5 := hide s5
  obtain ⟨z0, z1, z2, z3, z4, z5⟩ := BOX.out _ _ s5
  clear s5 S4 q0 q1 q2 q3 q4 q5
  go_wp2_with fail
  refine (S5.out.number (nl + 1 + 2 + 1 + 4 + 8) cp 8 (x.ver : Int) x.ver rfl HF.out.ver (by omega) (by have := SZ.out; simp only [List.length_append, low_length, List.length_cons, List.length_nil] <;> omega) (by rw [HNL.out]; simp only [List.length_append, low_length, List.length_cons, List.length_nil] <;> omega) HCP.out SZ.out.2.2.2).mono ?_
  rintro e w6 ⟨rfl, s6⟩
  have eh : [] ++ low x.key.length 1 ++ low x.value.length 2 ++ [82] ++ low x.flags 4 ++ low (u64 x.exp) 8 ++ low x.ver 8 = x.head := by simp [It.head]
  rw [eh] at s6
  have S6 := hide s6
  obtain ⟨q0, q1, q2, q3, q4, q5⟩ := BOX.out _ _ s6
  have rd := s6.buf.reads nl
  rw [HNL.out, List.drop_left, ← HNL.out] at rd
  have hcr := hide (fun n cap (hn : n = 24) => crc_at (some ⟨g, nl, none⟩) n cap (ints x.head) w6 (by rw [ints_length, hn]; exact x.head_length) (by unfold maxLen; omega) rd)
  have h24 : nl + 24 ≤ cp := by have := SZ.out; have := HCP.out; have := HNL.out; omega
  clear s6 S5 z0 z1 z2 z3 z4 z5 eh rd
  go_wp2_with fail
  refine (hcr.out _ _ (by omega)).mono ?_
  rintro e w' ⟨rfl, hw'⟩
  obtain rfl : w6 = w' := hw'.symm
  rw [crcN_U]
  clear hcr
  go_wp2_with fail
  refine (S6.out.number (nl + 1 + 2 + 1 + 4 + 8 + 8) cp 4 (IntKind.u64.wrap (crcN x.head : Int)) (crcN x.head) (by rw [IntKind.wrap_u64]; have := crcN_lt x.head; omega) (by have := crcN_lt x.head; omega) (by omega) (by have := SZ.out; rw [x.head_length]; omega) (by rw [HNL.out, x.head_length]) HCP.out SZ.out.2.2.2).mono ?_
  rintro e w7 ⟨rfl, s7⟩
  have S7 := hide s7
  obtain ⟨z0, z1, z2, z3, z4, z5⟩ := BOX.out _ _ s7
  clear s7 S6 q0 q1 q2 q3 q4 q5
  obtain ⟨bW, hcb, hbs, hcl, hcl2, rf, ro, rn, b2⟩ := two_bytes w7
  have k2 : ∀ t u, (bW (bW w7.drew t) u).cell? ⟨w.heap.size, 0, none⟩ = some (.string kb) := fun t u => hcl2 t u _ _ _ z0 z1
  have k3 : ∀ t u, (bW (bW w7.drew t) u).cell? ⟨w.heap.size, 1, none⟩ = some (.string vb) := fun t u => hcl2 t u _ _ _ z0 z2
  have k0 : ∀ t, (bW w7.drew t).cell? ⟨w.heap.size, 0, none⟩ = some (.string kb) := fun t => hcl t _ _ _ z0 z1
  have k1 : ∀ t, (bW w7.drew t).cell? ⟨w.heap.size, 1, none⟩ = some (.string vb) := fun t => hcl t _ _ _ z0 z2
  have R1 := hide (rf kb)
  have R2 := hide (ro kb vb)
  have R3 := hide (rn vb kb)
  have V1 := hide (rn kb vb)
  have V2 := hide (ro vb kb)
  have B2 := hide b2
  clear hcl hcl2 rf ro rn b2
  have cK : Hid (∀ (W : World) (b cap : Nat), Reads W (some ⟨b, 0, none⟩) (bytesOf kb) → Calls Tryz.prog 96 #[.slice (some ⟨b, 0, none⟩) kb.size cap] W fun e w' => e = .returned (.int .u32 (crcN x.key : Int)) ∧ w' = W) := fun W b cap hr => by
    rw [HKB.out, bytesOf_txt] at hr
    rw [HKB.out, txt_size]
    exact crc_at _ _ cap (ints x.key) W (ints_length _) (by have := SZ.out; unfold maxLen; omega) hr
  have cV : Hid (∀ (W : World) (b cap : Nat), Reads W (some ⟨b, 0, none⟩) (bytesOf vb) → Calls Tryz.prog 98 #[.int .u32 (crcN x.key : Int), .slice (some ⟨b, 0, none⟩) vb.size cap] W fun e w' => e = .returned (.int .u32 (crcN (x.key ++ x.value) : Int)) ∧ w' = W) := fun W b cap hr => by
    rw [HVB.out, bytesOf_txt] at hr
    rw [HVB.out, txt_size]
    refine (more_at _ _ _ cap (ints x.value) W (ints_length _) (by have := SZ.out; unfold maxLen; omega) hr).mono ?_
    rintro e w' ⟨rfl, rfl⟩
    exact ⟨by rw [crcN_more], rfl⟩
  have cN : Hid (∀ W : World, Below w7.heap.size w7 W → Calls Tryz.prog 97 #[.slice (some ⟨g, 0, none⟩) (nl + 1 + 2 + 1 + 4 + 8 + 8 + 4) cp, .int .u64 (IntKind.u64.wrap (crcN (x.key ++ x.value) : Int)), .int .i64 4] W fun e w' => e = .returned (.slice (some ⟨g, 0, none⟩) (nl + 1 + 2 + 1 + 4 + 8 + 8 + 4 + 4) cp) ∧ AddSt w w' g w.heap.size l (x.head ++ low (crcN x.head) 4 ++ low (crcN (x.key ++ x.value)) 4) r box) := fun W hB =>
    (S7.out.below hB).number (nl + 1 + 2 + 1 + 4 + 8 + 8 + 4) cp 4 _ (crcN (x.key ++ x.value)) (by rw [IntKind.wrap_u64]; have := crcN_lt (x.key ++ x.value); omega) (by have := crcN_lt (x.key ++ x.value); omega) (by omega) (by have := SZ.out; rw [List.length_append, low_length, x.head_length]; omega) (by rw [HNL.out, List.length_append, low_length, x.head_length]) HCP.out SZ.out.2.2.2
  go_wp2_with fail
  go_region_held (fun W => W.cell? ⟨w.heap.size, 0, none⟩ = some (.string kb) ∧ W.cell? ⟨w.heap.size, 1, none⟩ = some (.string vb))
    (first | exact ⟨k0 _, k1 _⟩ | exact ⟨k2 _ _, k3 _ _⟩ | exact ⟨z1, z2⟩ | exact ⟨y1, y2⟩ | go_keep)
    (first
    | (go_at_call 96; refine (cK.out _ _ _ ?_).mono ?_; (first | exact R1.out | exact R2.out | exact R3.out); rintro e wx ⟨rfl, rfl⟩)
    | (go_at_call 98; refine (cV.out _ _ _ ?_).mono ?_; (first | exact V1.out | exact V2.out); rintro e wx ⟨rfl, rfl⟩)
    | (go_at_call 97; refine (cN.out _ ?_).mono ?_; exact B2.out _ _; rintro e w8 ⟨rfl, s8⟩; have S8 := hide s8; obtain ⟨y0, y1, y2, y3, y4, y5⟩ := BOX.out _ _ s8; clear s8))
  all_goals (
    obtain ⟨W9, hr9, s9⟩ := S8.out.text (nl + 1 + 2 + 1 + 4 + 8 + 8 + 4 + 4) cp x.key (by have := SZ.out; simp only [List.length_append, low_length, x.head_length]; omega) (by rw [HNL.out]; simp only [List.length_append, low_length, x.head_length]) HCP.out
    obtain ⟨W10, hr10, s10⟩ := s9.text (nl + 1 + 2 + 1 + 4 + 8 + 8 + 4 + 4 + x.key.length) cp x.value (by have := SZ.out; simp only [List.length_append, low_length, x.head_length]; omega) (by rw [HNL.out]; simp only [List.length_append, low_length, x.head_length]; omega) HCP.out
    rw [← HKB.out] at hr9
    rw [← HVB.out] at hr10
    obtain ⟨t0, t1, t2, t3, t4, t5⟩ := BOX.out _ _ s9
    have HR9 := hide hr9
    have HR10 := hide hr10
    have S10 := hide s10
    clear hr9 hr10 s9 s10 R1 R2 R3 V1 V2 B2 cK cV cN S7 hcb hbs k0 k1 k2 k3
    go_wp2_with (first
      | (at_builtin; refine Lib.wpList_append_run _ rfl _ _ _ _ rfl _ _ rfl rfl _ _ HR9.out ?_; clear HR9)
      | (at_builtin; refine Lib.wpList_append_run _ rfl _ _ _ _ rfl _ _ rfl rfl _ _ HR10.out ?_; clear HR10))
    go_ret
    have hsz : x.size = 32 + x.key.length + x.value.length := rfl
    have e1 : x.head ++ low (crcN x.head) 4 ++ low (crcN (x.key ++ x.value)) 4 ++ x.key ++ x.value = x.enc := by simp [It.enc]
    refine ⟨?_, ?_, S10.out.keep⟩
    · show Ending.returned (.slice (some ⟨g, 0, none⟩) (nl + 1 + 2 + 1 + 4 + 8 + 8 + 4 + 4 + x.key.length + x.value.length) cp) = _
      rw [show nl + 1 + 2 + 1 + 4 + 8 + 8 + 4 + 4 + x.key.length + x.value.length = nl + x.size by omega]
    · have := S10.out.buf
      rw [e1, x.enc_length] at this
      exact this)
end Go.Proofs.YtbccnfbombgdmaaGreat

/- 'Put', 'number', 'ended'. -/
set_option linter.unusedVariables false
set_option linter.unusedSimpArgs false
namespace Go.Proofs.YtbccnfbombgdmaaGreat
open Go.RowKit Go.Deep Math

theorem It.good_mayBe (x : It) : x.good = mayBe (txt x.key).size (txt x.value).size x.ver := by
  rw [txt_size, txt_size]; rfl

theorem make_cap (n : Nat) (hn : n ≤ 1048576) (W : World) : (Instr.makeSlice 40 (.int .i64 0) (.int .i64 n)).run Tryz.prog W = .ok (.slice (some ⟨W.heap.size, 0, none⟩) 0 n) (W.alloc (.cells (zc n).toArray 5)) := by
  obtain ⟨i0, hi0, hp0⟩ := Option.map_eq_some_iff.1 info5
  simp only [Prod.mk.injEq] at hp0
  obtain ⟨hz0, hz1, hz2⟩ := hp0
  have h := run_make (P := Tryz.prog) W 40 5 i0 _ Tryz.underlying40 hi0 hz0 .i64 .i64 (0 : Int) (n : Int) (by omega) (by omega) (by rw [hz2]; omega) (by omega)
  rw [h]
  simp only [Int.toNat_natCast, Int.toNat_zero]
  refine congrArg (fun Z => Result.ok (Value.slice (some ⟨W.heap.size, 0, none⟩) 0 n) (W.alloc (Obj.cells Z 5))) ?_
  apply Array.ext'
  rw [hz1, Nat.mul_one, show (Value.int IntKind.u8 0).cells = #[Value.int IntKind.u8 0] from rfl, toList_madeCells_one]
  rfl

/-- The five cells of an item's box. -/
def Five (W : World) (N : Nat) (kb vb : ByteArray) (f e v : Int) : Prop := W.cell? ⟨N, 0, none⟩ = some (.string kb) ∧ W.cell? ⟨N, 1, none⟩ = some (.string vb) ∧ W.cell? ⟨N, 2, none⟩ = some (.int .u32 f) ∧ W.cell? ⟨N, 3, none⟩ = some (.int .i64 e) ∧ W.cell? ⟨N, 4, none⟩ = some (.int .u64 v)
/-- From the world a on, n blocks stand. -/
structure Aft (n : Nat) (a b : World) : Prop where
  below : Below n a b
  size : n ≤ b.heap.size
theorem Aft.then {n : Nat} {a b c : World} (h : Aft n a b) (k : Below b.heap.size b c) : Aft n a c := ⟨h.below.trans (k.mono h.size), Nat.le_trans h.size k.size⟩
theorem Aft.drew {n : Nat} {a b : World} (h : Aft n a b) : Aft n a b.drew := ⟨h.below.drew, h.size⟩
theorem Aft.alloc {n : Nat} {a b : World} (h : Aft n a b) (o : Obj) : Aft n a (b.alloc o) := h.then ((Below.refl _ _).alloc (Nat.le_refl _) o)
theorem Aft.keep {n : Nat} {a b c : World} {F : List Nat} (h : Aft n a b) (k : Keep F b c) (hF : ∀ g ∈ F, n ≤ g) : Aft n a c := ⟨h.below.trans (k.below hF h.size), Nat.le_trans h.size k.size⟩
theorem Aft.new (w : World) (o : Obj) : Aft (w.heap.size + 1) (w.alloc o) (w.alloc o) := ⟨Below.refl _ _, by rw [nblk_alloc]; exact Nat.le_refl _⟩
theorem Aft.old {w W : World} {o : Obj} (h : Aft (w.heap.size + 1) (w.alloc o) W) : Below w.heap.size w W := ((Below.refl _ _).alloc (Nat.le_refl _) o).trans (h.below.mono (by omega))
theorem five_new {w W : World} {kb vb : ByteArray} {f e v : Int} (h : Aft (w.heap.size + 1) (w.alloc (.cells #[.string kb, .string vb, .int .u32 f, .int .i64 e, .int .u64 v] 39)) W) : Five W w.heap.size kb vb f e v := by
  have b := (Blk.new w [.string kb, .string vb, .int .u32 f, .int .i64 e, .int .u64 v] 39).same (h.below.block w.heap.size (Nat.lt_succ_self _))
  exact ⟨b.cell rfl, b.cell rfl, b.cell rfl, b.cell rfl, b.cell rfl⟩

end Go.Proofs.YtbccnfbombgdmaaGreat

/- 'number', 'ended'. -/
set_option linter.unusedVariables false
set_option linter.unusedSimpArgs false
namespace Go.Proofs.YtbccnfbombgdmaaGreat
open Go.RowKit Go.Deep Math

/-- One more byte: the bits lie apart. -/
theorem or_byte (l : List UInt8) (x : UInt8) (hk8 : l.length < 8) (y : Int) (hy : y = ((256 ^ l.length * x.toNat : Nat) : Int)) : bits .or .u64 (up l : Int) y = (up (l ++ [x]) : Int) := by
  have h1 := up_lt l
  have h2 := up_lt (l ++ [x])
  have hx := x.toNat_lt
  rw [up_snoc] at h2 ⊢
  have hp : 256 ^ (l ++ [x]).length ≤ 18446744073709551616 := by
    have : (256 : Nat) ^ (l ++ [x]).length ≤ 256 ^ 8 := Nat.pow_le_pow_right (by decide) (by simp; omega)
    exact this
  have e256 : 256 ^ l.length = 2 ^ (8 * l.length) := by rw [Nat.pow_mul]
  rw [hy, u64_or_nat _ _ (by omega) (by omega)]
  congr 1
  rw [e256] at h1 ⊢
  have h3 := Nat.shiftLeft_add_eq_or_of_lt h1 x.toNat
  rw [Nat.shiftLeft_eq] at h3
  rw [Nat.mul_comm (2 ^ (8 * l.length)), Nat.or_comm, ← h3, Nat.add_comm]

theorem ints_getD (l : List UInt8) (k : Nat) : (ints l).getD k 0 = ((l.getD k 0).toNat : Int) := by
  simp only [ints, List.getD_eq_getElem?_getD, List.getElem?_map]
  cases l[k]? <;> rfl
theorem take_snoc_byte (l : List UInt8) (k : Nat) (h : k < l.length) : l.take (k + 1) = l.take k ++ [l.getD k 0] := by
  rw [List.take_succ_eq_append_getElem h, List.getD_eq_getElem?_getD, List.getElem?_eq_getElem h]; rfl

set_option maxHeartbeats 1000000 in
theorem number_any (a : Option Addr) (n cap : Nat) (l : List UInt8) (hn : n = l.length) (h8 : n ≤ 8) (w : World) (hr : Reads w a (ints l)) :
    Calls Tryz.prog 95 #[.slice a n cap] w fun e w' => e = .returned (.int .u64 (up l : Int)) ∧ w' = w := by
  have HR : Hid (Reads w a (ints l)) := hr
  have HN := hide hn
  clear hr hn
  go_enter Tryz.func95, Tryz.ntmps95
  go_wp2
  go_loop [3, 8] (fun t i => ∃ k m : Nat, k ≤ n ∧ i = .int .i64 k ∧ t = .int .u64 m ∧ Hid (m = up (l.take k))) (fun _ i => n - (intOf i).toNat)
  case atStart => exact ⟨0, 0, Nat.zero_le _, rfl, rfl, rfl⟩
  case round =>
    obtain ⟨k, m, hk, rfl, rfl, hm⟩ := hrel
    by_cases hlt : k < n
    · obtain ⟨b, off, rfl, hc⟩ := HR.out.1 k (by rw [ints_length, ← HN.out]; exact hlt)
      rw [ints_getD] at hc
      have HT := hide (take_snoc_byte l k (by rw [← HN.out]; exact hlt))
      have HL : Hid ((l.take k).length = k) := by show _ = _; rw [List.length_take, ← HN.out]; omega
      generalize l.getD k 0 = x at hc HT
      have hx1 : (x.toNat : Int) ≤ 255 := by have := x.toNat_lt; omega
      have OB : Hid (∀ y : Int, y = ((256 ^ k * x.toNat : Nat) : Int) → bits .or .u64 (m : Int) y = (up (l.take (k + 1)) : Int)) := fun y hy => by
        rw [hm.out, HT.out]
        exact or_byte (l.take k) x (by rw [HL.out]; omega) y (by rw [HL.out]; exact hy)
      clear HR
      rcases (show k = 0 ∨ k = 1 ∨ k = 2 ∨ k = 3 ∨ k = 4 ∨ k = 5 ∨ k = 6 ∨ k = 7 by omega) with rfl | rfl | rfl | rfl | rfl | rfl | rfl | rfl
      all_goals (
        try simp only [Nat.add_zero] at hc
        go_wp2
        go_round
        case rel => exact ⟨_, _, hlt, rfl, (by rw [OB.out _ (by first | omega | (rw [IntKind.wrap_u64]; omega))]), rfl⟩
        case measure => simp [intOf]; omega)
    · have hkn : Hid (k = n) := by unfold Hid; omega
      go_wp2
      go_ret
      exact ⟨ret_int (by rw [hm.out, hkn.out, HN.out, List.take_length]), rfl⟩
end Go.Proofs.YtbccnfbombgdmaaGreat
