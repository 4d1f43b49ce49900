/- Joined texts. -/
import Derived.Laws.BytesString
import Derived.Lib.ConvBytes
import Derived.Deep.RegionHeld
import Derived.Test.YtcdghalnneilpaaGreatK01
set_option linter.unusedVariables false
set_option linter.unusedSimpArgs false
set_option maxRecDepth 8000
set_option maxHeartbeats 8000000
namespace Go.Proofs.YtcdghalnneilpaaGreat
open Go.RowKit Go.Deep Math
def txt (l : List UInt8) : ByteArray := ⟨l.toArray⟩
theorem txt_size (l : List UInt8) : (txt l).size = l.length := by show l.toArray.size = _; simp
def It.val (x : It) : Value := itV (txt x.key) (txt x.value) x.flags x.exp x.ver
theorem run_bytes (w : World) (s : ByteArray) :
  (convert 9 40 (.string s)).run Tryz.prog w = .ok (.slice (some ⟨w.heap.size, 0, none⟩) s.size (grownCap w s.size 0 5)) (Lib.bytesWorld w 5 s) :=
 Lib.run_convert_string_bytes w 9 40 5 s Tryz.underlying9 Tryz.underlying40 Tryz.underlying5
theorem below_bytes (w : World) (s : ByteArray) : Below w.heap.size w (Lib.bytesWorld w 5 s) :=
 ⟨rfl, rfl, rfl, by rw [Lib.bytesWorld_size]; omega, fun k hk => Lib.bytesWorld_at_old w 5 s k hk⟩
theorem reads_bytes (w : World) (s : ByteArray) : Reads (Lib.bytesWorld w 5 s) (some ⟨w.heap.size, 0, none⟩) (bytesOf s) := by
 refine ⟨fun i hi => ⟨_, _, rfl, ?_⟩, bytesOf_range s⟩
 rw [bytesOf_length] at hi
 rw [Nat.zero_add, Lib.bytesWorld_cell w 5 s i hi]
 have hi' : i < s.data.toList.length := by rw [Array.length_toList]; exact hi
 unfold bytesOf
 rw [List.getD_eq_getElem?_getD, List.getD_eq_getElem?_getD, List.getElem?_map, List.getElem?_eq_getElem hi']
 rfl
theorem reads_bytes_at (w : World) (s : ByteArray) (N : Nat) (hN : N = w.heap.size) : Reads (Lib.bytesWorld w 5 s) (some ⟨N, 0, none⟩) (bytesOf s) := by
 subst hN; exact reads_bytes w s
theorem below_two (w : World) (s t : ByteArray) : Below w.heap.size w (Lib.bytesWorld (Lib.bytesWorld w.drew 5 s) 5 t) := by
 have a : Below w.heap.size w.drew (Lib.bytesWorld w.drew 5 s) := below_bytes w.drew s
 have b := below_bytes (Lib.bytesWorld w.drew 5 s) t
 exact ((Below.refl _ w).drew).trans (a.trans (b.mono a.size))
theorem bw_size (w : World) (t : ByteArray) : w.heap.size + 1 = (Lib.bytesWorld w.drew 5 t).heap.size := (Lib.bytesWorld_size w.drew 5 t).symm
theorem r_first (w : World) (t : ByteArray) : Reads (Lib.bytesWorld w.drew 5 t) (some ⟨w.heap.size, 0, none⟩) (bytesOf t) := reads_bytes_at w.drew t w.heap.size rfl
theorem r_old (w : World) (t u : ByteArray) : Reads (Lib.bytesWorld (Lib.bytesWorld w.drew 5 t) 5 u) (some ⟨w.heap.size, 0, none⟩) (bytesOf t) := (r_first w t).later (below_bytes _ u)
theorem r_new (w : World) (t u : ByteArray) : Reads (Lib.bytesWorld (Lib.bytesWorld w.drew 5 t) 5 u) (some ⟨w.heap.size + 1, 0, none⟩) (bytesOf u) := reads_bytes_at _ u _ (bw_size w t)
theorem two_bytes (w : World) : ∃ bW : World -> ByteArray -> World,
  (∀ W t, (convert 9 40 (.string t)).run Tryz.prog W = .ok (.slice (some ⟨W.heap.size, 0, none⟩) t.size (grownCap W t.size 0 5)) (bW W t)) /\ (∀ W t, (bW W t).heap.size = W.heap.size + 1) /\
  (∀ t N o v, N < w.heap.size -> w.cell? ⟨N, o, none⟩ = some v -> (bW w.drew t).cell? ⟨N, o, none⟩ = some v) /\ (∀ t u N o v, N < w.heap.size -> w.cell? ⟨N, o, none⟩ = some v -> (bW (bW w.drew t) u).cell? ⟨N, o, none⟩ = some v) /\
  (∀ t, Reads (bW w.drew t) (some ⟨w.heap.size, 0, none⟩) (bytesOf t)) /\ (∀ t u, Reads (bW (bW w.drew t) u) (some ⟨w.heap.size, 0, none⟩) (bytesOf t)) /\ (∀ t u, Reads (bW (bW w.drew t) u) (some ⟨w.heap.size + 1, 0, none⟩) (bytesOf u)) /\
  (∀ t u, Below w.heap.size w (bW (bW w.drew t) u)) := by
 refine ⟨fun W t => Lib.bytesWorld W 5 t, run_bytes, fun W t => Lib.bytesWorld_size W 5 t, fun t N o v hN hc => ?_, fun t u N o v hN hc => ?_, r_first w, r_old w, r_new w, below_two w⟩
 ·exact ((below_bytes w.drew t).cell (p := ⟨N, o, none⟩) hN).trans hc
 ·exact ((below_two w t u).cell (p := ⟨N, o, none⟩) hN).trans hc
theorem bytesOf_txt (l : List UInt8) : bytesOf (txt l) = ints l := rfl
structure AddSt (w wi : World) (g N : Nat) (l cur : List UInt8) (r : Nat) (box : List Value) : Prop where
 buf : Buf wi g (l ++ cur) (r - cur.length)
 keep : Keep [g] w wi
 blk : Blk wi N box 39
 ng : N ≠ g
theorem AddSt.number {w wi : World} {g N r : Nat} {l cur : List UInt8} {box : List Value} (h : AddSt w wi g N l cur r box) (m cp k : Nat) (z : Int) (n : Nat) (hz : z = (n : Int)) (hn : n < 18446744073709551616) (hk8 : k <= 8) (hk : cur.length + k <= r) (hm : m = l.length + cur.length) (hcp : cp = l.length + r) (hc : cp <= 1048576) :
  Calls Tryz.prog 209 #[.slice (some ⟨g, 0, none⟩) m cp, .int .u64 z, .int .i64 (k : Int)] wi fun e w' => e = .returned (.slice (some ⟨g, 0, none⟩) (m + k) cp) /\ AddSt w w' g N l (cur ++ low n k) r box := by
 subst hz
 refine (addNumber_any g (r - cur.length) k m cp (l ++ cur) n hn (by omega) hk8 (by rw [List.length_append, hm]) (by rw [List.length_append, hcp]; omega) (by omega) wi h.buf).mono ?_
 rintro e w' ⟨rfl, hb, hkp⟩
 refine ⟨rfl, ?_, h.keep.trans hkp (fun x hx => .inl hx), h.blk.same (hkp.block N h.blk.lt (by simpa using h.ng)), h.ng⟩
 rw [List.length_append, low_length, <- List.append_assoc, show r - (cur.length + k) = r - cur.length - k by omega]
 exact hb
theorem AddSt.one {w wi : World} {g N r : Nat} {l cur : List UInt8} {box : List Value} (h : AddSt w wi g N l cur r box) (m cp : Nat) (hk : cur.length + 1 <= r) (hm : m = l.length + cur.length) (hcp : cp = l.length + r) :
  ∃ W, (Builtin.append_ #[40, 40] 40 #[.slice (some ⟨g, 0, none⟩) m cp, .slice (some ⟨wi.heap.size, 0, none⟩) 1 1]).run Tryz.prog (wi.alloc (.cells #[.int .u8 82] 5)) = .ok (.slice (some ⟨g, 0, none⟩) (m + 1) cp) W /\ AddSt w W g N l (cur ++ [82]) r box := by
 obtain ⟨W, h1, h2, h3⟩ := buf_one (nl := m) (cp := cp) h.buf 82 82 rfl (by omega) (by rw [List.length_append, hm]) (by rw [List.length_append, hcp]; omega)
 refine ⟨W, h1, ?_, h.keep.trans h3 (fun x hx => .inl hx), h.blk.same (h3.block N h.blk.lt (by simpa using h.ng)), h.ng⟩
 rw [List.length_append, <- List.append_assoc, show r - (cur.length + [(82 : UInt8)].length) = r - cur.length - 1 by simp; omega]
 exact h2
theorem AddSt.below {w wi wj : World} {g N r : Nat} {l cur : List UInt8} {box : List Value} (h : AddSt w wi g N l cur r box) (b : Below wi.heap.size wi wj) : AddSt w wj g N l cur r box :=
 ⟨h.buf.same (b.block g h.buf.lt), h.keep.trans (Keep.of_below (F := [g]) b) (fun x hx => .inl hx), h.blk.same (b.block N h.blk.lt), h.ng⟩
theorem byteCells_txt (l : List UInt8) : byteCells (txt l) = bCells l := rfl
theorem AddSt.text {w wi : World} {g N r : Nat} {l cur : List UInt8} {box : List Value} (h : AddSt w wi g N l cur r box) (m cp : Nat) (t : List UInt8) (hk : cur.length + t.length <= r) (hm : m = l.length + cur.length) (hcp : cp = l.length + r) :
  ∃ W, (Builtin.append_ #[40, 9] 40 #[.slice (some ⟨g, 0, none⟩) m cp, .string (txt t)]).run Tryz.prog wi = .ok (.slice (some ⟨g, 0, none⟩) (m + t.length) cp) W /\ AddSt w W g N l (cur ++ t) r box := by
 have hs : Src Tryz.prog 1 9 (.string (txt t)) t.length (bCells t) wi := by
  have := Src.ofString (P := Tryz.prog) wi Tryz.underlying9 (txt t)
  rw [txt_size, byteCells_txt] at this
  exact this
 obtain ⟨h1, h2⟩ := buf_append (nl := m) (cp := cp) h.buf hs (by omega) (by rw [List.length_append, hm]) (by rw [List.length_append, hcp]; omega) 40
 refine ⟨_, h1, ?_, h.keep.setCells (.inl (by simp)) _ _, h.blk.same (heap_setCells_other _ _ _ _ _ h.ng), h.ng⟩
 rw [List.length_append, <- List.append_assoc, show r - (cur.length + t.length) = r - cur.length - t.length by omega]
 exact h2
theorem add_any (g r nl cp : Nat) (l : List UInt8) (x : It) (hf : x.fits) (hg : x.good = true) (hr : x.size <= r) (hnl : nl = l.length) (hcp : cp = l.length + r) (hc63 : cp <= 1048576) (w : World) (h : Buf w g l r) :
  Calls Tryz.prog 189 #[.slice (some ⟨g, 0, none⟩) nl cp, x.val] w fun e w' => e = .returned (.slice (some ⟨g, 0, none⟩) (nl + x.size) cp) /\ Buf w' g (l ++ x.enc) (r - x.size) /\ Keep [g] w w' := by
 obtain ⟨g1, g2, g3, g4⟩ := x.good_iff.1 hg
 have hsz : x.size = 32 + x.key.length + x.value.length := rfl
 obtain ⟨kb, hkb⟩ : ∃ kb, kb = txt x.key := ⟨_, rfl⟩
 obtain ⟨vb, hvb⟩ : ∃ vb, vb = txt x.value := ⟨_, rfl⟩
 have hks : kb.size = x.key.length := by rw [hkb, txt_size]
 have hvs : vb.size = x.value.length := by rw [hvb, txt_size]
 obtain ⟨box, hbox⟩ : ∃ box : List Value, box = [.string kb, .string vb, .int .u32 x.flags, .int .i64 x.exp, .int .u64 x.ver] := ⟨_, rfl⟩
 have s0 : AddSt w (w.alloc (.cells #[.string kb, .string vb, .int .u32 x.flags, .int .i64 x.exp, .int .u64 x.ver] 39)) g w.heap.size l [] r box := by
  refine ⟨by rw [List.append_nil]; exact h.alloc _, (Keep.refl _ _).alloc _, ?_, by have := h.lt; omega⟩
  rw [hbox]
  exact Blk.new w _ 39
 have BOX : Hid (∀ W cur, AddSt w W g w.heap.size l cur r box -> w.heap.size < W.heap.size /\ W.cell? ⟨w.heap.size, 0, none⟩ = some (.string kb) /\ W.cell? ⟨w.heap.size, 1, none⟩ = some (.string vb) /\ W.cell? ⟨w.heap.size, 2, none⟩ = some (.int .u32 x.flags) /\ W.cell? ⟨w.heap.size, 3, none⟩ = some (.int .i64 x.exp) /\ W.cell? ⟨w.heap.size, 4, none⟩ = some (.int .u64 x.ver)) := fun W cur hh => by
  have b := hh.blk
  rw [hbox] at b
  exact ⟨b.lt, b.cell rfl, b.cell rfl, b.cell rfl, b.cell rfl, b.cell rfl⟩
 have ev : x.val = .agg #[.string kb, .string vb, .int .u32 x.flags, .int .i64 x.exp, .int .u64 x.ver] := by rw [hkb, hvb]; rfl
 rw [ev]
 have S0 := hide s0
 have HNL := hide hnl
 have HCP := hide hcp
 have HF := hide hf
 have SZ := hide (show x.key.length <= 250 /\ x.value.length <= 1024 /\ 32 + x.key.length + x.value.length <= r /\ cp <= 1048576 from ⟨g2, g3, hr, hc63⟩)
 have HKS := hide hks
 have HVS := hide hvs
 have HKB := hide hkb
 have HVB := hide hvb
 have nl63 : nl <= 1048576 := by omega
 clear h hf hg hr hnl hcp hc63 g1 g2 g3 g4 hsz s0 hbox ev hks hvs hkb hvb
 go_enter Tryz.func189, Tryz.ntmps189
 go_wp2_with fail
 refine (S0.out.number nl cp 1 (IntKind.u64.wrap (kb.size : Int)) x.key.length (by rw [IntKind.wrap_u64, HKS.out]; have := SZ.out; omega) (by have := SZ.out; omega) (by omega) (by have := SZ.out; simp only [List.length_append, low_length, List.length_cons, List.length_nil] <;> omega) (by rw [HNL.out]; rfl) HCP.out SZ.out.2.2.2).mono ?_
 rintro e w1 ⟨rfl, s1⟩
 have S1 := hide s1
 obtain ⟨q0, q1, q2, q3, q4, q5⟩ := BOX.out _ _ s1
 clear s1 S0
 go_wp2_with fail
 refine (S1.out.number (nl + 1) cp 2 (IntKind.u64.wrap (vb.size : Int)) x.value.length (by rw [IntKind.wrap_u64, HVS.out]; have := SZ.out; omega) (by have := SZ.out; omega) (by omega) (by have := SZ.out; simp only [List.length_append, low_length, List.length_cons, List.length_nil] <;> omega) (by rw [HNL.out]; simp only [List.length_append, low_length, List.length_cons, List.length_nil] <;> omega) HCP.out SZ.out.2.2.2).mono ?_
 rintro e w2 ⟨rfl, s2⟩
 obtain ⟨W3, hr3, s3⟩ := s2.one (nl + 1 + 2) cp (by have := SZ.out; simp only [List.length_append, low_length, List.length_cons, List.length_nil] <;> omega) (by rw [HNL.out]; simp only [List.length_append, low_length, List.length_cons, List.length_nil] <;> omega) HCP.out
 have HR3 := hide hr3
 have S3 := hide s3
 obtain ⟨z0, z1, z2, z3, z4, z5⟩ := BOX.out _ _ s3
 clear s2 s3 hr3 S1 q0 q1 q2 q3 q4 q5
 go_wp2_with (at_builtin; refine Lib.wpList_append_run _ rfl _ _ _ _ rfl _ _ rfl rfl _ _ HR3.out ?_)
 refine (S3.out.number (nl + 1 + 2 + 1) cp 4 (IntKind.u64.wrap (x.flags : Int)) x.flags (by rw [IntKind.wrap_u64]; have := HF.out.flags; omega) (by have := HF.out.flags; omega) (by omega) (by have := SZ.out; simp only [List.length_append, low_length, List.length_cons, List.length_nil] <;> omega) (by rw [HNL.out]; simp only [List.length_append, low_length, List.length_cons, List.length_nil] <;> omega) HCP.out SZ.out.2.2.2).mono ?_
 rintro e w4 ⟨rfl, s4⟩
 have S4 := hide s4
 obtain ⟨q0, q1, q2, q3, q4, q5⟩ := BOX.out _ _ s4
 clear s4 S3 z0 z1 z2 z3 z4 z5 HR3
 go_wp2_with fail
 refine (S4.out.number (nl + 1 + 2 + 1 + 4) cp 8 (IntKind.u64.wrap x.exp) (u64 x.exp) (by rw [IntKind.wrap_u64]; unfold u64; omega) (u64_lt _) (by omega) (by have := SZ.out; simp only [List.length_append, low_length, List.length_cons, List.length_nil] <;> omega) (by rw [HNL.out]; simp only [List.length_append, low_length, List.length_cons, List.length_nil] <;> omega) HCP.out SZ.out.2.2.2).mono ?_
 rintro e w5 ⟨rfl, s5⟩
 have S5 := hide s5
 obtain ⟨z0, z1, z2, z3, z4, z5⟩ := BOX.out _ _ s5
 clear s5 S4 q0 q1 q2 q3 q4 q5
 go_wp2_with fail
 refine (S5.out.number (nl + 1 + 2 + 1 + 4 + 8) cp 8 (x.ver : Int) x.ver rfl HF.out.ver (by omega) (by have := SZ.out; simp only [List.length_append, low_length, List.length_cons, List.length_nil] <;> omega) (by rw [HNL.out]; simp only [List.length_append, low_length, List.length_cons, List.length_nil] <;> omega) HCP.out SZ.out.2.2.2).mono ?_
 rintro e w6 ⟨rfl, s6⟩
 have eh : [] ++ low x.key.length 1 ++ low x.value.length 2 ++ [82] ++ low x.flags 4 ++ low (u64 x.exp) 8 ++ low x.ver 8 = x.head := by simp [It.head]
 rw [eh] at s6
 have S6 := hide s6
 obtain ⟨q0, q1, q2, q3, q4, q5⟩ := BOX.out _ _ s6
 have rd := s6.buf.reads nl
 rw [HNL.out, List.drop_left, <- HNL.out] at rd
 have hcr := hide (fun n cap (hn : n = 24) => crc_at (some ⟨g, nl, none⟩) n cap (ints x.head) w6 (by rw [ints_length, hn]; exact x.head_length) (by unfold maxLen; omega) rd)
 have h24 : nl + 24 <= cp := by have := SZ.out; have := HCP.out; have := HNL.out; omega
 clear s6 S5 z0 z1 z2 z3 z4 z5 eh rd
 go_wp2_with fail
 refine (hcr.out _ _ (by omega)).mono ?_
 rintro e w' ⟨rfl, hw'⟩
 obtain rfl : w6 = w' := hw'.symm
 rw [crcN_U]
 clear hcr
 go_wp2_with fail
 refine (S6.out.number (nl + 1 + 2 + 1 + 4 + 8 + 8) cp 4 (IntKind.u64.wrap (crcN x.head : Int)) (crcN x.head) (by rw [IntKind.wrap_u64]; have := crcN_lt x.head; omega) (by have := crcN_lt x.head; omega) (by omega) (by have := SZ.out; rw [x.head_length]; omega) (by rw [HNL.out, x.head_length]) HCP.out SZ.out.2.2.2).mono ?_
 rintro e w7 ⟨rfl, s7⟩
 have S7 := hide s7
 obtain ⟨z0, z1, z2, z3, z4, z5⟩ := BOX.out _ _ s7
 clear s7 S6 q0 q1 q2 q3 q4 q5
 obtain ⟨bW, hcb, hbs, hcl, hcl2, rf, ro, rn, b2⟩ := two_bytes w7
 have k2 : ∀ t u, (bW (bW w7.drew t) u).cell? ⟨w.heap.size, 0, none⟩ = some (.string kb) := fun t u => hcl2 t u _ _ _ z0 z1
 have k3 : ∀ t u, (bW (bW w7.drew t) u).cell? ⟨w.heap.size, 1, none⟩ = some (.string vb) := fun t u => hcl2 t u _ _ _ z0 z2
 have k0 : ∀ t, (bW w7.drew t).cell? ⟨w.heap.size, 0, none⟩ = some (.string kb) := fun t => hcl t _ _ _ z0 z1
 have k1 : ∀ t, (bW w7.drew t).cell? ⟨w.heap.size, 1, none⟩ = some (.string vb) := fun t => hcl t _ _ _ z0 z2
 have R1 := hide (rf kb)
 have R2 := hide (ro kb vb)
 have R3 := hide (rn vb kb)
 have V1 := hide (rn kb vb)
 have V2 := hide (ro vb kb)
 have B2 := hide b2
 clear hcl hcl2 rf ro rn b2
 have cK : Hid (∀ (W : World) (b cap : Nat), Reads W (some ⟨b, 0, none⟩) (bytesOf kb) -> Calls Tryz.prog 179 #[.slice (some ⟨b, 0, none⟩) kb.size cap] W fun e w' => e = .returned (.int .u32 (crcN x.key : Int)) /\ w' = W) := fun W b cap hr => by
  rw [HKB.out, bytesOf_txt] at hr
  rw [HKB.out, txt_size]
  exact crc_at _ _ cap (ints x.key) W (ints_length _) (by have := SZ.out; unfold maxLen; omega) hr
 have cV : Hid (∀ (W : World) (b cap : Nat), Reads W (some ⟨b, 0, none⟩) (bytesOf vb) -> Calls Tryz.prog 199 #[.int .u32 (crcN x.key : Int), .slice (some ⟨b, 0, none⟩) vb.size cap] W fun e w' => e = .returned (.int .u32 (crcN (x.key ++ x.value) : Int)) /\ w' = W) := fun W b cap hr => by
  rw [HVB.out, bytesOf_txt] at hr
  rw [HVB.out, txt_size]
  refine (more_at _ _ _ cap (ints x.value) W (ints_length _) (by have := SZ.out; unfold maxLen; omega) hr).mono ?_
  rintro e w' ⟨rfl, rfl⟩
  exact ⟨by rw [crcN_more], rfl⟩
 have cN : Hid (∀ W : World, Below w7.heap.size w7 W -> Calls Tryz.prog 209 #[.slice (some ⟨g, 0, none⟩) (nl + 1 + 2 + 1 + 4 + 8 + 8 + 4) cp, .int .u64 (IntKind.u64.wrap (crcN (x.key ++ x.value) : Int)), .int .i64 4] W fun e w' => e = .returned (.slice (some ⟨g, 0, none⟩) (nl + 1 + 2 + 1 + 4 + 8 + 8 + 4 + 4) cp) /\ AddSt w w' g w.heap.size l (x.head ++ low (crcN x.head) 4 ++ low (crcN (x.key ++ x.value)) 4) r box) := fun W hB =>
  (S7.out.below hB).number (nl + 1 + 2 + 1 + 4 + 8 + 8 + 4) cp 4 _ (crcN (x.key ++ x.value)) (by rw [IntKind.wrap_u64]; have := crcN_lt (x.key ++ x.value); omega) (by have := crcN_lt (x.key ++ x.value); omega) (by omega) (by have := SZ.out; rw [List.length_append, low_length, x.head_length]; omega) (by rw [HNL.out, List.length_append, low_length, x.head_length]) HCP.out SZ.out.2.2.2
 go_wp2_with fail
 go_region_held (fun W => W.cell? ⟨w.heap.size, 0, none⟩ = some (.string kb) /\ W.cell? ⟨w.heap.size, 1, none⟩ = some (.string vb))
  (first | exact ⟨k0 _, k1 _⟩ | exact ⟨k2 _ _, k3 _ _⟩ | exact ⟨z1, z2⟩ | exact ⟨y1, y2⟩ | go_keep)
  (first
  | (go_at_call 179; refine (cK.out _ _ _ ?_).mono ?_; (first | exact R1.out | exact R2.out | exact R3.out); rintro e wx ⟨rfl, rfl⟩)
  | (go_at_call 199; refine (cV.out _ _ _ ?_).mono ?_; (first | exact V1.out | exact V2.out); rintro e wx ⟨rfl, rfl⟩)
  | (go_at_call 209; refine (cN.out _ ?_).mono ?_; exact B2.out _ _; rintro e w8 ⟨rfl, s8⟩; have S8 := hide s8; obtain ⟨y0, y1, y2, y3, y4, y5⟩ := BOX.out _ _ s8; clear s8))
 all_goals (
  obtain ⟨W9, hr9, s9⟩ := S8.out.text (nl + 1 + 2 + 1 + 4 + 8 + 8 + 4 + 4) cp x.key (by have := SZ.out; simp only [List.length_append, low_length, x.head_length]; omega) (by rw [HNL.out]; simp only [List.length_append, low_length, x.head_length]) HCP.out
  obtain ⟨W10, hr10, s10⟩ := s9.text (nl + 1 + 2 + 1 + 4 + 8 + 8 + 4 + 4 + x.key.length) cp x.value (by have := SZ.out; simp only [List.length_append, low_length, x.head_length]; omega) (by rw [HNL.out]; simp only [List.length_append, low_length, x.head_length]; omega) HCP.out
  rw [<- HKB.out] at hr9
  rw [<- HVB.out] at hr10
  obtain ⟨t0, t1, t2, t3, t4, t5⟩ := BOX.out _ _ s9
  have HR9 := hide hr9
  have HR10 := hide hr10
  have S10 := hide s10
  clear hr9 hr10 s9 s10 R1 R2 R3 V1 V2 B2 cK cV cN S7 hcb hbs k0 k1 k2 k3
  go_wp2_with (first
   | (at_builtin; refine Lib.wpList_append_run _ rfl _ _ _ _ rfl _ _ rfl rfl _ _ HR9.out ?_; clear HR9)
   | (at_builtin; refine Lib.wpList_append_run _ rfl _ _ _ _ rfl _ _ rfl rfl _ _ HR10.out ?_; clear HR10))
  go_ret
  have hsz : x.size = 32 + x.key.length + x.value.length := rfl
  have e1 : x.head ++ low (crcN x.head) 4 ++ low (crcN (x.key ++ x.value)) 4 ++ x.key ++ x.value = x.enc := by simp [It.enc]
  refine ⟨?_, ?_, S10.out.keep⟩
  ·show Ending.returned (.slice (some ⟨g, 0, none⟩) (nl + 1 + 2 + 1 + 4 + 8 + 8 + 4 + 4 + x.key.length + x.value.length) cp) = _
   rw [show nl + 1 + 2 + 1 + 4 + 8 + 8 + 4 + 4 + x.key.length + x.value.length = nl + x.size by omega]
  ·have := S10.out.buf
   rw [e1, x.enc_length] at this
   exact this)
theorem It.good_mayBe (x : It) : x.good = mayBe (txt x.key).size (txt x.value).size x.ver := by
 rw [txt_size, txt_size]; rfl
theorem make_cap (n : Nat) (hn : n <= 1048576) (W : World) : (Instr.makeSlice 40 (.int .i64 0) (.int .i64 n)).run Tryz.prog W = .ok (.slice (some ⟨W.heap.size, 0, none⟩) 0 n) (W.alloc (.cells (zc n).toArray 5)) := by
 obtain ⟨i0, hi0, hp0⟩ := Option.map_eq_some_iff.1 info5
 simp only [Prod.mk.injEq] at hp0
 obtain ⟨hz0, hz1, hz2⟩ := hp0
 have h := run_make (P := Tryz.prog) W 40 5 i0 _ Tryz.underlying40 hi0 hz0 .i64 .i64 (0 : Int) (n : Int) (by omega) (by omega) (by rw [hz2]; omega) (by omega)
 rw [h]
 simp only [Int.toNat_natCast, Int.toNat_zero]
 refine congrArg (fun Z => Result.ok (Value.slice (some ⟨W.heap.size, 0, none⟩) 0 n) (W.alloc (Obj.cells Z 5))) ?_
 apply Array.ext'
 rw [hz1, Nat.mul_one, show (Value.int IntKind.u8 0).cells = #[Value.int IntKind.u8 0] from rfl, toList_madeCells_one]
 rfl
def Five (W : World) (N : Nat) (kb vb : ByteArray) (f e v : Int) : Prop := W.cell? ⟨N, 0, none⟩ = some (.string kb) /\ W.cell? ⟨N, 1, none⟩ = some (.string vb) /\ W.cell? ⟨N, 2, none⟩ = some (.int .u32 f) /\ W.cell? ⟨N, 3, none⟩ = some (.int .i64 e) /\ W.cell? ⟨N, 4, none⟩ = some (.int .u64 v)
structure Aft (n : Nat) (a b : World) : Prop where
 below : Below n a b
 size : n <= b.heap.size
theorem Aft.then {n : Nat} {a b c : World} (h : Aft n a b) (k : Below b.heap.size b c) : Aft n a c := ⟨h.below.trans (k.mono h.size), Nat.le_trans h.size k.size⟩
theorem Aft.drew {n : Nat} {a b : World} (h : Aft n a b) : Aft n a b.drew := ⟨h.below.drew, h.size⟩
theorem Aft.alloc {n : Nat} {a b : World} (h : Aft n a b) (o : Obj) : Aft n a (b.alloc o) := h.then ((Below.refl _ _).alloc (Nat.le_refl _) o)
theorem Aft.keep {n : Nat} {a b c : World} {F : List Nat} (h : Aft n a b) (k : Keep F b c) (hF : ∀ g ∈ F, n <= g) : Aft n a c := ⟨h.below.trans (k.below hF h.size), Nat.le_trans h.size k.size⟩
theorem Aft.new (w : World) (o : Obj) : Aft (w.heap.size + 1) (w.alloc o) (w.alloc o) := ⟨Below.refl _ _, by rw [nblk_alloc]; exact Nat.le_refl _⟩
theorem Aft.old {w W : World} {o : Obj} (h : Aft (w.heap.size + 1) (w.alloc o) W) : Below w.heap.size w W := ((Below.refl _ _).alloc (Nat.le_refl _) o).trans (h.below.mono (by omega))
theorem five_new {w W : World} {kb vb : ByteArray} {f e v : Int} (h : Aft (w.heap.size + 1) (w.alloc (.cells #[.string kb, .string vb, .int .u32 f, .int .i64 e, .int .u64 v] 39)) W) : Five W w.heap.size kb vb f e v := by
 have b := (Blk.new w [.string kb, .string vb, .int .u32 f, .int .i64 e, .int .u64 v] 39).same (h.below.block w.heap.size (Nat.lt_succ_self _))
 exact ⟨b.cell rfl, b.cell rfl, b.cell rfl, b.cell rfl, b.cell rfl⟩
theorem or_byte (l : List UInt8) (x : UInt8) (hk8 : l.length < 8) (y : Int) (hy : y = ((256 ^ l.length * x.toNat : Nat) : Int)) : bits .or .u64 (up l : Int) y = (up (l ++ [x]) : Int) := by
 have h1 := up_lt l
 have h2 := up_lt (l ++ [x])
 have hx := x.toNat_lt
 rw [up_snoc] at h2 ⊢
 have hp : 256 ^ (l ++ [x]).length <= 18446744073709551616 := by
  have : (256 : Nat) ^ (l ++ [x]).length <= 256 ^ 8 := Nat.pow_le_pow_right (by decide) (by simp; omega)
  exact this
 have e256 : 256 ^ l.length = 2 ^ (8 * l.length) := by rw [Nat.pow_mul]
 rw [hy, u64_or_nat _ _ (by omega) (by omega)]
 congr 1
 rw [e256] at h1 ⊢
 have h3 := Nat.shiftLeft_add_eq_or_of_lt h1 x.toNat
 rw [Nat.shiftLeft_eq] at h3
 rw [Nat.mul_comm (2 ^ (8 * l.length)), Nat.or_comm, <- h3, Nat.add_comm]
theorem ints_getD (l : List UInt8) (k : Nat) : (ints l).getD k 0 = ((l.getD k 0).toNat : Int) := by
 simp only [ints, List.getD_eq_getElem?_getD, List.getElem?_map]
 cases l[k]? <;> rfl
theorem take_snoc_byte (l : List UInt8) (k : Nat) (h : k < l.length) : l.take (k + 1) = l.take k ++ [l.getD k 0] := by
 rw [List.take_succ_eq_append_getElem h, List.getD_eq_getElem?_getD, List.getElem?_eq_getElem h]; rfl
theorem number_any (a : Option Addr) (n cap : Nat) (l : List UInt8) (hn : n = l.length) (h8 : n <= 8) (w : World) (hr : Reads w a (ints l)) :
  Calls Tryz.prog 218 #[.slice a n cap] w fun e w' => e = .returned (.int .u64 (up l : Int)) /\ w' = w := by
 have HR : Hid (Reads w a (ints l)) := hr
 have HN := hide hn
 clear hr hn
 go_enter Tryz.func218, Tryz.ntmps218
 go_wp2
 go_loop [3, 8] (fun t i => ∃ k m : Nat, k <= n /\ i = .int .i64 k /\ t = .int .u64 m /\ Hid (m = up (l.take k))) (fun _ i => n - (intOf i).toNat)
 case atStart => exact ⟨0, 0, Nat.zero_le _, rfl, rfl, rfl⟩
 case round =>
  obtain ⟨k, m, hk, rfl, rfl, hm⟩ := hrel
  by_cases hlt : k < n
  ·obtain ⟨b, off, rfl, hc⟩ := HR.out.1 k (by rw [ints_length, <- HN.out]; exact hlt)
   rw [ints_getD] at hc
   have HT := hide (take_snoc_byte l k (by rw [<- HN.out]; exact hlt))
   have HL : Hid ((l.take k).length = k) := by show _ = _; rw [List.length_take, <- HN.out]; omega
   generalize l.getD k 0 = x at hc HT
   have hx1 : (x.toNat : Int) <= 255 := by have := x.toNat_lt; omega
   have OB : Hid (∀ y : Int, y = ((256 ^ k * x.toNat : Nat) : Int) -> bits .or .u64 (m : Int) y = (up (l.take (k + 1)) : Int)) := fun y hy => by
    rw [hm.out, HT.out]
    exact or_byte (l.take k) x (by rw [HL.out]; omega) y (by rw [HL.out]; exact hy)
   clear HR
   rcases (show k = 0 \/ k = 1 \/ k = 2 \/ k = 3 \/ k = 4 \/ k = 5 \/ k = 6 \/ k = 7 by omega) with rfl | rfl | rfl | rfl | rfl | rfl | rfl | rfl
   all_goals (
    try simp only [Nat.add_zero] at hc
    go_wp2
    go_round
    case rel => exact ⟨_, _, hlt, rfl, (by rw [OB.out _ (by first | omega | (rw [IntKind.wrap_u64]; omega))]), rfl⟩
    case measure => simp [intOf]; omega)
  ·have hkn : Hid (k = n) := by unfold Hid; omega
   go_wp2
   go_ret
   exact ⟨ret_int (by rw [hm.out, hkn.out, HN.out, List.take_length]), rfl⟩
structure BS (w : World) (a : Option Addr) (n cap : Nat) (l : List UInt8) : Prop where
 len : n = l.length
 cap : n <= cap
 reads : Reads w a (ints l)
 cell : ∀ i, i < n -> ∃ b off, a = some ⟨b, off, none⟩ /\ b < w.heap.size /\ w.cell? ⟨b, off + i, none⟩ = some (.int .u8 ((l.getD i 0).toNat : Int))
theorem BS.mk' {w : World} {a : Option Addr} {n cap : Nat} {l : List UInt8} (hn : n = l.length) (hc : n <= cap) (hr : Reads w a (ints l)) : BS w a n cap l :=
 ⟨hn, hc, hr, fun i hi => by
  obtain ⟨b, off, ha, hcell⟩ := hr.1 i (by rw [ints_length, <- hn]; exact hi)
  rw [ints_getD] at hcell
  exact ⟨b, off, ha, block_lt_of_cell hcell, hcell⟩⟩
theorem BS.later {w w' : World} {a : Option Addr} {n cap : Nat} {l : List UInt8} (h : BS w a n cap l) (b : Below w.heap.size w w') : BS w' a n cap l := BS.mk' h.len h.cap (h.reads.later b)
theorem BS.heap {w w' : World} {a : Option Addr} {n cap : Nat} {l : List UInt8} (h : BS w a n cap l) (e : w'.heap = w.heap) : BS w' a n cap l :=
 BS.mk' h.len h.cap ⟨fun i hi => by
  obtain ⟨b, off, ha, hc⟩ := h.reads.1 i hi
  exact ⟨b, off, ha, (World.cell?_of_block (a := ⟨b, off + i, none⟩) (show w'.heap[b]? = w.heap[b]? by rw [e])).trans hc⟩, h.reads.2⟩
theorem BS.sub {w : World} {b off n cap : Nat} {l : List UInt8} (h : BS w (some ⟨b, off, none⟩) n cap l) (i j o2 m c : Nat) (ho : o2 = off + i) (hij : i <= j) (hj : j <= n) (hm : m = j - i) (hc : m <= c) : BS w (some ⟨b, o2, none⟩) m c (sl l i j) := by
 have hl := h.len
 refine BS.mk' (by rw [sl_length _ _ _ (by omega)]; exact hm) hc ⟨fun k hk => ?_, fun k => ?_⟩
 ·rw [ints_length, sl_length _ _ _ (by omega)] at hk
  obtain ⟨b', off', ha, _, hcell⟩ := h.cell (i + k) (by omega)
  simp only [Option.some.injEq, Addr.mk.injEq, and_true] at ha
  obtain ⟨rfl, rfl⟩ := ha
  refine ⟨b, o2, rfl, ?_⟩
  rw [ho, Nat.add_assoc, hcell, ints_getD]
  congr 4
  simp only [List.getD_eq_getElem?_getD, sl, List.getElem?_drop]
  rw [List.getElem?_take_of_lt (by omega)]
 ·rw [ints_getD]
  have := ((sl l i j).getD k 0).toNat_lt
  omega
theorem ended_any (a : Option Addr) (n cap : Nat) (l : List UInt8) (w : World) (h : BS w a n cap l) :
  Calls Tryz.prog 204 #[.slice a n cap] w fun e w' => e = .returned (.bool (ended l)) /\ w' = w := by
 by_cases h0 : n = 0
 ·have E : Hid (ended l = true) := by
   have : l.length = 0 := by have := h.len; omega
   show ended l = true
   simp only [ended, decide_eq_true this, Bool.true_or]
  subst h0
  clear h
  go_enter Tryz.func204, Tryz.ntmps204
  go_wp2
  go_ret
  exact ⟨by rw [E.out]; rfl, rfl⟩
 ·obtain ⟨b, off, rfl, hb, hc⟩ := h.cell 0 (by omega)
  rw [Nat.add_zero] at hc
  have hn0 : ¬ (n : Int) = 0 := by omega
  have hnl : ¬ l.length = 0 := by have := h.len; omega
  have hpos : (0 : Int) < (n : Int) := by omega
  by_cases hz : l.getD 0 0 = 0
  ·have E : Hid (ended l = true) := by simp only [Hid, ended, decide_eq_true hz, Bool.or_true]
   rw [hz] at hc
   clear h hz hnl h0
   have hc' : w.cell? ⟨b, off, none⟩ = some (.int .u8 0) := hc
   clear hc
   go_enter Tryz.func204, Tryz.ntmps204
   go_wp2
   go_ret
   exact ⟨by rw [E.out]; rfl, rfl⟩
  ·have E : Hid (ended l = false) := by simp only [Hid, ended, decide_eq_false hz, decide_eq_false hnl, Bool.or_self]
   have hz' : ¬ (((l.getD 0 0).toNat : Int) = 0) := fun h => hz (by
    have : (l.getD 0 0).toNat = 0 := by omega
    exact UInt8.toNat_inj.1 this)
   clear h hz hnl h0
   generalize (l.getD 0 0).toNat = x at hc hz'
   have b1 : ((n : Int) == 0) = false := by simpa using hn0
   have b2 : ((x : Int) == 0) = false := by simpa using hz'
   go_enter Tryz.func204, Tryz.ntmps204
   go_wp2
   go_ret
   exact ⟨by rw [E.out]; rfl, rfl⟩
def tkV (t : Tk) : Value := .tuple #[t.item.val, .int .i64 (t.len : Int), .int .i64 t.err]
theorem below_q {n : Nat} {a b : World} (h : Below n a b) (q : Nat) : Below n a (b.drewN q) := ⟨h.os, h.tape, h.output, h.size, h.block⟩
theorem below_box {w V : World} (h : Below w.heap.size w V) (a b c d e : Value) : Below w.heap.size w (((((V.setCell ⟨w.heap.size, 0, none⟩ a).setCell ⟨w.heap.size, 1, none⟩ b).setCell ⟨w.heap.size, 2, none⟩ c).setCell ⟨w.heap.size, 3, none⟩ d).setCell ⟨w.heap.size, 4, none⟩ e) :=
 ((((h.setCell (Nat.le_refl _) _).setCell (Nat.le_refl _) _).setCell (Nat.le_refl _) _).setCell (Nat.le_refl _) _).setCell (Nat.le_refl _) _
def zeroBox : Obj := .cells #[.string ⟨#[]⟩, .string ⟨#[]⟩, .int .u32 0, .int .i64 0, .int .u64 0] 39
theorem take_none (a : Option Addr) (n cap : Nat) (l : List UInt8) (w : World) (h : BS w a n cap l) (hE : ended l = true) :
  Calls Tryz.prog 205 #[.slice a n cap] w fun e w' => e = .returned (tkV .none) /\ Below w.heap.size w w' := by
 have ce := hide (fun (W : World) (hW : W.heap = (w.alloc zeroBox).heap) => ended_any a n cap l W ((h.later ((Below.refl _ _).alloc (Nat.le_refl _) _)).heap hW))
 rw [hE] at ce
 have y := (Blk.new w [.string ⟨#[]⟩, .string ⟨#[]⟩, .int .u32 0, .int .i64 0, .int .u64 0] 39)
 clear hE h y
 go_enter Tryz.func205, Tryz.ntmps205
 go_wp2_with (go_at_call 204; refine (ce.out _ ?_).mono ?_; rfl; rintro r w1 ⟨rfl, rfl⟩)
 exact bodyPost_ret (v := tkV .none) (by simp [results, Tryz.results205, go_sem, tkV, Tk.item, Tk.len, Tk.err, It.val, It.zero, itV, txt]) rfl ⟨rfl, (Below.refl _ _).alloc (Nat.le_refl _) _⟩
structure Look (w W0 : World) (b off n cap : Nat) (l : List UInt8) : Prop where
 bs : BS W0 (some ⟨b, off, none⟩) n cap l
 n32 : 32 <= n
theorem Look.number {w W0 W : World} {b off n cap : Nat} {l : List UInt8} (h : Look w W0 b off n cap l) (i j c : Nat) (hij : i <= j) (hj : j <= n) (h8 : j - i <= 8) (hc : j - i <= c) (hW : W.heap = W0.heap) (m o2 : Nat) (hm : m = j - i) (ho : o2 = off + i) :
  Calls Tryz.prog 218 #[.slice (some ⟨b, o2, none⟩) m c] W fun e w' => e = .returned (.int .u64 (up (sl l i j) : Int)) /\ w' = W := by
 have s := (h.bs.heap hW).sub i j o2 m c ho hij hj hm (by omega)
 exact number_any _ _ _ _ s.len (by omega) W s.reads
theorem Look.crc {w W0 W : World} {b off n cap : Nat} {l : List UInt8} (h : Look w W0 b off n cap l) (i j c : Nat) (hij : i <= j) (hj : j <= n) (hn : n <= 9223372036854775807) (hc : j - i <= c) (hW : W.heap = W0.heap) (m o2 : Nat) (hm : m = j - i) (ho : o2 = off + i) :
  Calls Tryz.prog 179 #[.slice (some ⟨b, o2, none⟩) m c] W fun e w' => e = .returned (.int .u32 (crcN (sl l i j) : Int)) /\ w' = W := by
 have s := (h.bs.heap hW).sub i j o2 m c ho hij hj hm (by omega)
 exact crc_at _ m c (ints (sl l i j)) W (by rw [ints_length, s.len]) (by unfold maxLen; omega) s.reads
theorem take_bad1 (a : Option Addr) (n cap : Nat) (l : List UInt8) (hcap : cap <= 9223372036854775807) (w : World) (h : BS w a n cap l) (hE : ended l = false) (hF : form1 l = false) :
  Calls Tryz.prog 205 #[.slice a n cap] w fun e w' => e = .returned (tkV .bad) /\ Below w.heap.size w w' := by
 have hnl := h.len
 have hcp := h.cap
 have ce := hide (fun (W : World) (hW : W.heap = (w.alloc zeroBox).heap) => ended_any a n cap l W ((h.later ((Below.refl _ _).alloc (Nat.le_refl _) _)).heap hW))
 rw [hE] at ce
 have fin : tkV .bad = .tuple #[.agg #[.string ⟨#[]⟩, .string ⟨#[]⟩, .int .u32 0, .int .i64 0, .int .u64 0], .int .i64 0, .int .i64 3] := rfl
 have h0 : 0 < n := by
  rcases Nat.eq_zero_or_pos n with h0 | h0
  ·exfalso
   have : l.length = 0 := by omega
   simp [ended, this] at hE
  ·exact h0
 obtain ⟨b, off, rfl, hb, _⟩ := h.cell 0 h0
 by_cases h32 : n < 32
 ·have hlt : ((n : Int) < 32) = True := eq_true (by omega)
  clear h hE hF hnl hcp h0 h32
  go_enter Tryz.func205, Tryz.ntmps205
  go_wp2_with (go_at_call 204; refine (ce.out _ ?_).mono ?_; rfl; rintro r w1 ⟨rfl, rfl⟩)
  go_quiet (fail)
  go_wp2
  exact bodyPost_ret (v := tkV .bad) (by simp [results, Tryz.results205, go_sem, tkV, Tk.item, Tk.len, Tk.err, It.val, It.zero, itV, txt]) rfl ⟨rfl, below_box (below_q ((Below.refl _ _).alloc (Nat.le_refl _) _) _) _ _ _ _ _⟩
 ·have hlt : ((n : Int) < 32) = False := eq_false (by omega)
  have hi32 : (32 : Int) <= (n : Int) := by omega
  have hi3 : (3 : Int) < (n : Int) := by omega
  have hc32 : (32 : Int) <= (cap : Int) := by omega
  have hc28 : (28 : Int) <= (cap : Int) := by omega
  have hc24 : (24 : Int) <= (cap : Int) := by omega
  obtain ⟨b', off', ha, _, hc3⟩ := h.cell 3 (by omega)
  simp only [Option.some.injEq, Addr.mk.injEq, and_true] at ha
  obtain ⟨rfl, rfl⟩ := ha
  by_cases h82 : l.getD 3 0 = 82
  ·rw [h82] at hc3
   have hc3' : w.cell? ⟨b, off + 3, none⟩ = some (.int .u8 82) := hc3
   have hne : up (sl l 24 28) ≠ crcN (sl l 0 24) := by
    intro he
    have h1 : 32 <= l.length := by omega
    simp only [form1, decide_eq_true h1, decide_eq_true h82, decide_eq_true he, Bool.and_self] at hF
    cases hF
   have L : Look w (w.alloc zeroBox) b off n cap l := ⟨h.later ((Below.refl _ _).alloc (Nat.le_refl _) _), by omega⟩
   have c24 := hide (fun (W : World) (hW : W.heap = (w.alloc zeroBox).heap) => L.number 24 28 (cap - 24) (by omega) (by omega) (by omega) (by omega) hW 4 (off + 24) rfl rfl)
   have cc := hide (fun (W : World) (hW : W.heap = (w.alloc zeroBox).heap) => L.crc 0 24 cap (by omega) (by omega) (by omega) (by omega) hW 24 off rfl rfl)
   have hcl := crcN_lt (sl l 0 24)
   generalize up (sl l 24 28) = u at c24 hne
   generalize crcN (sl l 0 24) = c at cc hne hcl
   have hne' : ¬ ((u : Int) = (c : Int)) := by omega
   have hcw : IntKind.u64.wrap (c : Int) = (c : Int) := by rw [IntKind.wrap_u64]; omega
   have hcl' := hide hcl
   clear h hE hF h82 hc3 hne L h0 h32 hcl hnl
   go_enter Tryz.func205, Tryz.ntmps205
   go_wp2_with (go_at_call 204; refine (ce.out _ ?_).mono ?_; rfl; rintro r w1 ⟨rfl, rfl⟩)
   go_quiet (first
    | (go_at_call 218; refine Calls.quiet_of_same (c24.out _ ?_); rfl)
    | (go_at_call 179; refine Calls.quiet_of_same (cc.out _ ?_); rfl))
   go_wp2
   exact bodyPost_ret (v := tkV .bad) (by simp [results, Tryz.results205, go_sem, tkV, Tk.item, Tk.len, Tk.err, It.val, It.zero, itV, txt]) rfl ⟨rfl, below_box (below_q ((Below.refl _ _).alloc (Nat.le_refl _) _) _) _ _ _ _ _⟩
  ·have h82' : ¬ (((l.getD 3 0).toNat : Int) = 82) := fun he => h82 (by
    have : (l.getD 3 0).toNat = (82 : UInt8).toNat := by show _ = 82; omega
    exact UInt8.toNat_inj.1 this)
   generalize (l.getD 3 0).toNat = x3 at hc3 h82'
   clear h hE hF h82 h0 h32 hnl
   go_enter Tryz.func205, Tryz.ntmps205
   go_wp2_with (go_at_call 204; refine (ce.out _ ?_).mono ?_; rfl; rintro r w1 ⟨rfl, rfl⟩)
   go_quiet (fail)
   go_wp2
   exact bodyPost_ret (v := tkV .bad) (by simp [results, Tryz.results205, go_sem, tkV, Tk.item, Tk.len, Tk.err, It.val, It.zero, itV, txt]) rfl ⟨rfl, below_box (below_q ((Below.refl _ _).alloc (Nat.le_refl _) _) _) _ _ _ _ _⟩
theorem form1_of {l : List UInt8} (h : form1 l = true) : 32 <= l.length /\ l.getD 3 0 = 82 /\ up (sl l 24 28) = crcN (sl l 0 24) := by
 simp only [form1, Bool.and_eq_true, decide_eq_true_eq] at h
 exact ⟨h.1.1, h.1.2, h.2⟩
structure At (w W : World) : Prop where
 heap : W.heap = (w.alloc zeroBox).heap
 below : Below w.heap.size w W
theorem At.new {w : World} {nq : Nat} : At w ((w.alloc (.cells #[.string ⟨#[]⟩, .string ⟨#[]⟩, .int .u32 0, .int .i64 0, .int .u64 0] 39)).drewN nq) := ⟨rfl, below_q ((Below.refl _ _).alloc (Nat.le_refl _) _) _⟩
theorem At.more {w W : World} (h : At w W) (nq : Nat) : At w (W.drewN nq) := ⟨h.heap, below_q h.below nq⟩
theorem At.box {w W : World} (h : At w W) : Blk W w.heap.size [.string ⟨#[]⟩, .string ⟨#[]⟩, .int .u32 0, .int .i64 0, .int .u64 0] 39 := by
 have b := Blk.new w [.string ⟨#[]⟩, .string ⟨#[]⟩, .int .u32 0, .int .i64 0, .int .u64 0] 39
 exact b.same (by rw [h.heap]; rfl)
theorem At.cell {w W : World} (h : At w W) {b o : Nat} {v : Value} (hb : b < w.heap.size) (hc : w.cell? ⟨b, o, none⟩ = some v) : b < W.heap.size /\ W.cell? ⟨b, o, none⟩ = some v :=
 ⟨Nat.lt_of_lt_of_le hb h.below.size, (h.below.cell (p := ⟨b, o, none⟩) hb).trans hc⟩
theorem take_bad2 (a : Option Addr) (n cap : Nat) (l : List UInt8) (hcap : cap <= 9223372036854775807) (w : World) (h : BS w a n cap l) (hE : ended l = false) (hF : form1 l = true) (hF2 : form2 l = false) :
  Calls Tryz.prog 205 #[.slice a n cap] w fun e w' => e = .returned (tkV .bad) /\ Below w.heap.size w w' := by
 have hnl := h.len
 have hcp := h.cap
 obtain ⟨f1, f2, f3⟩ := form1_of hF
 have ce := hide (fun (W : World) (hW : W.heap = (w.alloc zeroBox).heap) => ended_any a n cap l W ((h.later ((Below.refl _ _).alloc (Nat.le_refl _) _)).heap hW))
 rw [hE] at ce
 obtain ⟨b, off, rfl, hb, hc0⟩ := h.cell 0 (by omega)
 obtain ⟨b', off', ha, _, hc3⟩ := h.cell 3 (by omega)
 simp only [Option.some.injEq, Addr.mk.injEq, and_true] at ha
 obtain ⟨rfl, rfl⟩ := ha
 rw [f2] at hc3
 have hc3' : w.cell? ⟨b, off + 3, none⟩ = some (.int .u8 82) := hc3
 rw [Nat.add_zero] at hc0
 have L : Look w (w.alloc zeroBox) b off n cap l := ⟨h.later ((Below.refl _ _).alloc (Nat.le_refl _) _), by omega⟩
 obtain ⟨UU, hUU⟩ : ∃ UU : Nat -> Nat -> Nat, UU = fun i m => up (sl l i (i + m)) := ⟨_, rfl⟩
 have cA : Hid (∀ (W : World) (i m c : Nat), W.heap = (w.alloc zeroBox).heap -> i + m <= n -> m <= 8 -> m <= c -> Calls Tryz.prog 218 #[.slice (some ⟨b, off + i, none⟩) m c] W fun e w' => e = .returned (.int .u64 (UU i m : Int)) /\ w' = W) := fun W i m c hW h1 h2 h3 => by
  rw [hUU]
  exact L.number i (i + m) c (by omega) h1 (by omega) (by omega) hW m (off + i) (by omega) rfl
 have u24 : up (sl l 24 28) = UU 24 4 := by rw [hUU]
 have u1 : up (sl l 1 3) = UU 1 2 := by rw [hUU]
 have u16 : up (sl l 16 24) = UU 16 8 := by rw [hUU]
 have u28 : up (sl l 28 32) = UU 28 4 := by rw [hUU]
 have cc := hide (fun (W : World) (hW : W.heap = (w.alloc zeroBox).heap) => L.crc 0 24 cap (by omega) (by omega) (by omega) (by omega) hW 24 off rfl rfl)
 have hcl := crcN_lt (sl l 0 24)
 rw [<- f3] at cc hcl
 rw [u24] at cc hcl
 have hcw : IntKind.u64.wrap (UU 24 4 : Int) = (UU 24 4 : Int) := by rw [IntKind.wrap_u64]; omega
 have hx0 := (l.getD 0 0).toNat_lt
 have hv0 : up (sl l 1 3) <= 65535 := by have := up_lt (sl l 1 3); rw [sl_length _ _ _ (by omega)] at this; simp at this; omega
 have eF : form2 l = (mayBe (tkKey l) (tkVal l) (tkVer l) && decide (tkLen l <= l.length) && decide (up (sl l 28 32) = crcN (sl l 32 (tkLen l)))) := rfl
 have ek : tkKey l = (l.getD 0 0).toNat := rfl
 have ev : tkVal l = up (sl l 1 3) := rfl
 have er : tkVer l = up (sl l 16 24) := rfl
 have el : tkLen l = 32 + tkKey l + tkVal l := rfl
 have cm := hide (mayBe_any (tkKey l) (tkVal l) (tkVer l))
 have cc2 : Hid (∀ (W : World) (m : Nat), W.heap = (w.alloc zeroBox).heap -> m = tkKey l + tkVal l -> tkLen l <= n -> Calls Tryz.prog 179 #[.slice (some ⟨b, off + 32, none⟩) m (cap - 32)] W fun e w' => e = .returned (.int .u32 (crcN (sl l 32 (tkLen l)) : Int)) /\ w' = W) := fun W m hW hm hle =>
  L.crc 32 (tkLen l) (cap - 32) (by omega) hle (by omega) (by omega) hW m (off + 32) (by omega) rfl
 have hi32 : (32 : Int) <= (n : Int) := by omega
 have hlt : ((n : Int) < 32) = False := eq_false (by omega)
 have hi3 : (3 : Int) < (n : Int) := by omega
 have hi0 : 0 < n := by omega
 have hc32 : (32 : Int) <= (cap : Int) := by omega
 have hc28 : (28 : Int) <= (cap : Int) := by omega
 have hc24 : (24 : Int) <= (cap : Int) := by omega
 have hcc3 : (3 : Int) <= (cap : Int) := by omega
 rw [<- ek] at hc0 hx0
 rw [<- ev] at hv0
 rw [eF] at hF2
 have HEL := hide el
 have hcl2 := crcN_lt (sl l 32 (tkLen l))
 obtain ⟨n32, hn32⟩ : ∃ x, x = l.length := ⟨_, rfl⟩
 generalize crcN (sl l 32 (tkLen l)) = cq at cc2 hF2 hcl2
 rw [u28] at hF2
 rw [u1] at ev
 rw [u16] at er
 generalize hk : tkKey l = k at *
 rw [ev] at hv0 cm cc2 HEL hF2
 rw [er] at cm hF2
 have HNL := hide hnl
 have HCL := hide hcl
 have HCL2 := hide hcl2
 have HF1 := hide f1
 clear hk eF ek ev er h hE hF f2 f3 hc3 L u24 u1 u16 u28 hUU hnl hcl hcl2 f1 hn32 n32 el
 have e1 : ¬ cap = 1 := by omega
 have e16 : ¬ cap = 16 := by omega
 have e28 : ¬ cap = 28 := by omega
 have e24 : ¬ cap = 24 := by omega
 have hwk : IntKind.i64.wrap (k : Int) = (k : Int) := by rw [IntKind.wrap_i64]; omega
 have hwv : IntKind.i64.wrap (UU 1 2 : Int) = (UU 1 2 : Int) := by rw [IntKind.wrap_i64]; omega
 have hk255 : k <= 255 := by omega
 cases hmb : mayBe k (UU 1 2) (UU 16 8) with
 | false =>
  rw [hmb] at cm
  clear hF2 hmb cc2 hx0
  go_enter Tryz.func205, Tryz.ntmps205
  go_wp2_with (go_at_call 204; refine (ce.out _ ?_).mono ?_; rfl; rintro r w1 ⟨rfl, rfl⟩)
  go_quiet (first
   | (go_at_call 218; refine Calls.quiet_of_same (cA.out _ _ _ _ ?_ ?_ ?_ ?_); rfl; omega; omega; omega)
   | (go_at_call 179; refine Calls.quiet_of_same (cc.out _ ?_); rfl))
  go_wp2
  have A1 := hide (At.new (w := w) (nq := nq))
  generalize (w.alloc (.cells #[.string ⟨#[]⟩, .string ⟨#[]⟩, .int .u32 0, .int .i64 0, .int .u64 0] 39)).drewN nq = W1 at A1 ⊢
  obtain ⟨hb1, hd0⟩ := A1.out.cell hb hc0
  go_quiet (first
   | (go_at_call 218; refine Calls.quiet_of_same (cA.out _ _ _ _ ?_ ?_ ?_ ?_); exact A1.out.heap; omega; omega; omega))
  go_wp2
  have A2 := hide (A1.out.more nq)
  generalize W1.drewN nq = W2 at A2 ⊢
  obtain ⟨x0, x1, x2, x3, x4⟩ : W2.cell? ⟨w.heap.size, 0, none⟩ = some (.string ⟨#[]⟩) /\ W2.cell? ⟨w.heap.size, 1, none⟩ = some (.string ⟨#[]⟩) /\ W2.cell? ⟨w.heap.size, 2, none⟩ = some (.int .u32 0) /\ W2.cell? ⟨w.heap.size, 3, none⟩ = some (.int .i64 0) /\ W2.cell? ⟨w.heap.size, 4, none⟩ = some (.int .u64 0) := ⟨A2.out.box.cell rfl, A2.out.box.cell rfl, A2.out.box.cell rfl, A2.out.box.cell rfl, A2.out.box.cell rfl⟩
  have y0 := A2.out.box.frozen 0
  have y1 := A2.out.box.frozen 1
  have y2 := A2.out.box.frozen 2
  have y3 := A2.out.box.frozen 3
  have y4 := A2.out.box.frozen 4
  clear A1 hb1 hd0
  go_quiet (first
   | (go_at_call 107; exact Calls.quiet_of_same (cm.out _))
   | (go_at_call 218; refine Calls.quiet_of_same (cA.out _ _ _ _ ?_ ?_ ?_ ?_); exact A2.out.heap; omega; omega; omega))
  go_wp2
  exact bodyPost_ret (v := tkV .bad) (by simp [results, Tryz.results205, go_sem, tkV, Tk.item, Tk.len, Tk.err, It.val, It.zero, itV, txt, x0, x1, x2, x3, x4]) rfl ⟨rfl, below_box (below_q A2.out.below _) _ _ _ _ _⟩
 | true =>
  rw [hmb] at cm hF2
  by_cases hsz : 32 + k + UU 1 2 <= n
  ·have hne : ¬ ((UU 28 4 : Int) = (cq : Int)) := by
    intro he
    have h1 : tkLen l <= l.length := by rw [HEL.out, <- HNL.out]; exact hsz
    have h2 : UU 28 4 = cq := by omega
    simp only [decide_eq_true h1, decide_eq_true h2, Bool.and_self] at hF2
    cases hF2
   have hlt2 : ((n : Int) < 32 + (k : Int) + (UU 1 2 : Int)) = False := eq_false (by omega)
   have hle2 : (32 : Int) + (k : Int) + (UU 1 2 : Int) <= (cap : Int) := by omega
   have hcqw : IntKind.u64.wrap (cq : Int) = (cq : Int) := by rw [IntKind.wrap_u64]; have := HCL2.out; omega
   have hlen : Hid (tkLen l <= n) := by show _ <= _; rw [HEL.out]; exact hsz
   have e32 : ¬ cap = 32 := by
    intro h32
    have : 1 <= k := by
     simp only [mayBe, Bool.and_eq_true, decide_eq_true_eq] at hmb
     exact hmb.1.1.1
    omega
   clear hF2 hmb hx0
   go_enter Tryz.func205, Tryz.ntmps205
   go_wp2_with (go_at_call 204; refine (ce.out _ ?_).mono ?_; rfl; rintro r w1 ⟨rfl, rfl⟩)
   go_quiet (first
    | (go_at_call 218; refine Calls.quiet_of_same (cA.out _ _ _ _ ?_ ?_ ?_ ?_); rfl; omega; omega; omega)
    | (go_at_call 179; refine Calls.quiet_of_same (cc.out _ ?_); rfl))
   go_wp2
   have A1 := hide (At.new (w := w) (nq := nq))
   generalize (w.alloc (.cells #[.string ⟨#[]⟩, .string ⟨#[]⟩, .int .u32 0, .int .i64 0, .int .u64 0] 39)).drewN nq = W1 at A1 ⊢
   obtain ⟨hb1, hd0⟩ := A1.out.cell hb hc0
   go_quiet (first
    | (go_at_call 218; refine Calls.quiet_of_same (cA.out _ _ _ _ ?_ ?_ ?_ ?_); exact A1.out.heap; omega; omega; omega))
   go_wp2
   have A2 := hide (A1.out.more nq)
   generalize W1.drewN nq = W2 at A2 ⊢
   obtain ⟨x0, x1, x2, x3, x4⟩ : W2.cell? ⟨w.heap.size, 0, none⟩ = some (.string ⟨#[]⟩) /\ W2.cell? ⟨w.heap.size, 1, none⟩ = some (.string ⟨#[]⟩) /\ W2.cell? ⟨w.heap.size, 2, none⟩ = some (.int .u32 0) /\ W2.cell? ⟨w.heap.size, 3, none⟩ = some (.int .i64 0) /\ W2.cell? ⟨w.heap.size, 4, none⟩ = some (.int .u64 0) := ⟨A2.out.box.cell rfl, A2.out.box.cell rfl, A2.out.box.cell rfl, A2.out.box.cell rfl, A2.out.box.cell rfl⟩
   have y0 := A2.out.box.frozen 0
   have y1 := A2.out.box.frozen 1
   have y2 := A2.out.box.frozen 2
   have y3 := A2.out.box.frozen 3
   have y4 := A2.out.box.frozen 4
   clear A1 hb1 hd0
   go_quiet (first
    | (go_at_call 107; exact Calls.quiet_of_same (cm.out _))
    | (go_at_call 218; refine Calls.quiet_of_same (cA.out _ _ _ _ ?_ ?_ ?_ ?_); exact A2.out.heap; omega; omega; omega)
    | (go_at_call 179; refine Calls.quiet_of_same (cc2.out _ _ ?_ ?_ ?_); exact A2.out.heap; omega; exact hlen.out))
   go_wp2
   exact bodyPost_ret (v := tkV .bad) (by simp [results, Tryz.results205, go_sem, tkV, Tk.item, Tk.len, Tk.err, It.val, It.zero, itV, txt, x0, x1, x2, x3, x4]) rfl ⟨rfl, below_box (below_q A2.out.below _) _ _ _ _ _⟩
  ·have hlt2 : ((n : Int) < 32 + (k : Int) + (UU 1 2 : Int)) = True := eq_true (by omega)
   clear hF2 hmb cc2 hx0 hsz
   go_enter Tryz.func205, Tryz.ntmps205
   go_wp2_with (go_at_call 204; refine (ce.out _ ?_).mono ?_; rfl; rintro r w1 ⟨rfl, rfl⟩)
   go_quiet (first
    | (go_at_call 218; refine Calls.quiet_of_same (cA.out _ _ _ _ ?_ ?_ ?_ ?_); rfl; omega; omega; omega)
    | (go_at_call 179; refine Calls.quiet_of_same (cc.out _ ?_); rfl))
   go_wp2
   have A1 := hide (At.new (w := w) (nq := nq))
   generalize (w.alloc (.cells #[.string ⟨#[]⟩, .string ⟨#[]⟩, .int .u32 0, .int .i64 0, .int .u64 0] 39)).drewN nq = W1 at A1 ⊢
   obtain ⟨hb1, hd0⟩ := A1.out.cell hb hc0
   go_quiet (first
    | (go_at_call 218; refine Calls.quiet_of_same (cA.out _ _ _ _ ?_ ?_ ?_ ?_); exact A1.out.heap; omega; omega; omega))
   go_wp2
   have A2 := hide (A1.out.more nq)
   generalize W1.drewN nq = W2 at A2 ⊢
   obtain ⟨x0, x1, x2, x3, x4⟩ : W2.cell? ⟨w.heap.size, 0, none⟩ = some (.string ⟨#[]⟩) /\ W2.cell? ⟨w.heap.size, 1, none⟩ = some (.string ⟨#[]⟩) /\ W2.cell? ⟨w.heap.size, 2, none⟩ = some (.int .u32 0) /\ W2.cell? ⟨w.heap.size, 3, none⟩ = some (.int .i64 0) /\ W2.cell? ⟨w.heap.size, 4, none⟩ = some (.int .u64 0) := ⟨A2.out.box.cell rfl, A2.out.box.cell rfl, A2.out.box.cell rfl, A2.out.box.cell rfl, A2.out.box.cell rfl⟩
   have y0 := A2.out.box.frozen 0
   have y1 := A2.out.box.frozen 1
   have y2 := A2.out.box.frozen 2
   have y3 := A2.out.box.frozen 3
   have y4 := A2.out.box.frozen 4
   clear A1 hb1 hd0
   go_quiet (first
    | (go_at_call 107; exact Calls.quiet_of_same (cm.out _))
    | (go_at_call 218; refine Calls.quiet_of_same (cA.out _ _ _ _ ?_ ?_ ?_ ?_); exact A2.out.heap; omega; omega; omega))
   go_wp2
   exact bodyPost_ret (v := tkV .bad) (by simp [results, Tryz.results205, go_sem, tkV, Tk.item, Tk.len, Tk.err, It.val, It.zero, itV, txt, x0, x1, x2, x3, x4]) rfl ⟨rfl, below_box (below_q A2.out.below _) _ _ _ _ _⟩
end Go.Proofs.YtcdghalnneilpaaGreat
