/- Texts joined: RefList, RefPut, RefLay, Wo8. -/
import Derived.Test.YtbccnfbombgdmaaGreatJ34
import Derived.Test.YtbccnfbombgdmaaGreatJ05
import Derived.Test.YtbccnfbombgdmaaGreatJ33
import Derived.Deep.RegionHeld
import Derived.Test.YtbccnfbombgdmaaGreatJ10
import Derived.Deep.RegionHeld3
import Derived.Test.YtbccnfbombgdmaaGreatJ24
/- 'List' of the reckoning side. -/
set_option linter.unusedVariables false
set_option linter.unusedSimpArgs false
namespace Go.Proofs.YtbccnfbombgdmaaGreat
open Go.RowKit Go.Deep Math

/-- What it answers. -/
def RListPost (w : World) (o : Option (List It)) (e : Ending) (w' : World) : Prop := Below w.heap.size w w' ∧ match o with
  | none => e = .returned (.tuple #[.slice none 0 0, .bool false])
  | some xs => ∃ v, e = .returned (.tuple #[v, .bool true]) ∧ w'.ownsRow w.heap.size 39 5 v xs.length (itsCells xs)

set_option maxHeartbeats 1000000 in
theorem refList_any (l : List UInt8) (hl : l.length ≤ 1048576) (w : World) :
    Calls Tryz.prog 61 #[.string (txt l)] w (RListPost w (lst l)) := by
  go_enter Tryz.func61, Tryz.ntmps61
  go_wp2_with fail
  obtain ⟨i0, hi0, hp0⟩ := Option.map_eq_some_iff.1 info30
  simp only [Prod.mk.injEq] at hp0
  obtain ⟨hz0, hz1, hz2⟩ := hp0
  go_loopg [0, 4] l.length (fun kx s0 s4 wr => ∃ (s : ByteArray) (va : Option Addr) (vk vc : Nat) (acc : List It) (r : List UInt8), s0 = .string s ∧ s4 = .slice va vk vc ∧ r.length ≤ kx ∧ Hid (s = txt r ∧ wr.ownsRow w.heap.size 39 5 (.slice va vk vc) acc.length (itsCells acc) ∧ lst l = (lst r).map (acc ++ ·) ∧ Below w.heap.size w wr ∧ acc.length + r.length ≤ l.length))
  case atStart => exact ⟨txt l, none, 0, 0, [], l, rfl, rfl, Nat.le_refl _, rfl, World.ownsRow_nil _ _ _ _, by cases lst l <;> simp, Below.refl _ _, by simp⟩
  case round =>
    obtain ⟨s, va, vk, vc, acc, r, rfl, rfl, hk, I⟩ := hrel
    have ct : Hid (Calls Tryz.prog 79 #[.string s] wr fun e w' => e = .returned (tkV (take r)) ∧ Below wr.heap.size wr w') := by
      show Calls _ _ _ _ _
      rw [I.out.1]
      exact refTake_any r (by have := I.out.2.2.2.2; omega) wr
    have hsz0 : s.size = r.length := by rw [I.out.1, txt_size]
    cases hT : take r using Tk.elim3 with
    | none =>
      rw [hT] at ct
      have E : Hid (lst l = some acc) := by
        show _ = _
        rw [I.out.2.2.1, lst_none hT]
        simp
      have etk : tkV Tk.none = .tuple #[.agg #[.string (txt []), .string (txt []), .int .u32 0, .int .i64 0, .int .u64 0], .int .i64 0, .int .i64 5] := rfl
      rw [etk] at ct
      clear hT etk hsz0
      generalize txt [] = nb at ct
      go_wp2_with (go_at_call 79; refine ct.out.mono ?_; rintro r1 w1 ⟨rfl, b1⟩; have B1 := hide b1; clear b1)
      go_ret2
      rw [E.out]
      have h1 := I.out.2.2.2.1.trans (B1.out.mono I.out.2.2.2.1.size)
      exact ⟨h1.alloc h1.size _, _, rfl, (rown_below I.out.2.1 B1.out).alloc _⟩
    | bad =>
      rw [hT] at ct
      have E : Hid (lst l = none) := by
        show _ = _
        rw [I.out.2.2.1, lst_bad hT]
        rfl
      have etk : tkV Tk.bad = .tuple #[.agg #[.string (txt []), .string (txt []), .int .u32 0, .int .i64 0, .int .u64 0], .int .i64 0, .int .i64 3] := rfl
      rw [etk] at ct
      clear hT etk hsz0
      generalize txt [] = nb at ct
      go_wp2_with (go_at_call 79; refine ct.out.mono ?_; rintro r1 w1 ⟨rfl, b1⟩; have B1 := hide b1; clear b1)
      go_ret2
      rw [E.out]
      have h1 := I.out.2.2.2.1.trans (B1.out.mono I.out.2.2.2.1.size)
      exact ⟨h1.alloc h1.size _, rfl⟩
    | ok x sz =>
      obtain ⟨t1, t2, t3, t4, t5⟩ := take_ok hT
      rw [hT] at ct
      have E : Hid (lst l = (lst (r.drop sz)).map ((acc ++ [x]) ++ ·)) := by
        show _ = _
        rw [I.out.2.2.1, lst_ok hT]
        cases lst (r.drop sz) <;> simp
      have etk : tkV (Tk.ok x sz) = .tuple #[.agg #[.string (txt x.key), .string (txt x.value), .int .u32 x.flags, .int .i64 x.exp, .int .u64 x.ver], .int .i64 sz, .int .i64 0] := rfl
      rw [etk] at ct
      have hsp : 0 < sz := by rw [t3]; exact x.size_pos
      have hszi : (sz : Int) ≤ (s.size : Int) := by omega
      have SP := hide hsp
      have SZ := hide t4
      have EX : Hid (s.extract sz s.size = txt (r.drop sz)) := by
        show _ = _
        rw [hsz0, I.out.1, txt_extract]
        unfold sl
        rw [List.take_length]
      clear hT etk t1 t2 t3 t4 t5 hsp hsz0
      have hac : acc.length ≤ 1048576 := by have := I.out.2.2.2.2; omega
      go_wp2_with (first
        | (go_at_call 79; refine ct.out.mono ?_; rintro r1 w1 ⟨rfl, b1⟩; have B1 := hide b1; clear b1)
        | (at_builtin; refine wpList_append_own _ rfl _ _ 45 rfl w.heap.size 39 i0 _ 5 56 Tryz.underlying45 hi0 hz0 hz1 hz2 rfl (by decide) _ _ _ rfl (((rown_below I.out.2.1 B1.out).alloc _).alloc _) ⟨w1.heap.size + 1, 0, none⟩ 1 1 (itCells x) rfl ?qc1 ?qc2 ?qc3 ?qc4 ?qc5 ?qc6 ?_))
      case qc1 => rfl
      case qc2 =>
        intro j u hj
        rw [Addr.add_lit, Nat.zero_add]
        have hh := (Blk.new (w1.alloc (.cells #[.string (txt x.key), .string (txt x.value), .int .u32 x.flags, .int .i64 x.exp, .int .u64 x.ver] 39)) (itCells x) 39).cell hj
        rw [nblk_alloc] at hh
        exact hh
      case qc3 => intro u hu; simp [itCells] at hu; rcases hu with rfl | rfl | rfl | rfl | rfl <;> rfl
      case qc4 => unfold maxLen; omega
      case qc5 => omega
      case qc6 => have := I.out.2.2.2.1.size; have := B1.out.size; simp; omega
      intro v' w2 hown hgrow hnil
      obtain ⟨g2, cp2, rfl⟩ : ∃ g2 cp2, v' = .slice (some ⟨g2, 0, none⟩) (acc.length + 1) cp2 := by
        rcases hown.2 with ⟨_, h0⟩ | ⟨g2, cp2, _, hv, _⟩
        · omega
        · exact ⟨g2, cp2, hv⟩
      have hB2 : Below w.heap.size w w2 := by
        have h1 := I.out.2.2.2.1.trans (B1.out.mono I.out.2.2.2.1.size)
        have h2 := (h1.alloc h1.size (.cells #[.string (txt x.key), .string (txt x.value), .int .u32 x.flags, .int .i64 x.exp, .int .u64 x.ver] 39))
        have h3 := (h2.alloc h2.size (.cells #[.string (txt x.key), .string (txt x.value), .int .u32 x.flags, .int .i64 x.exp, .int .u64 x.ver] 39))
        exact h3.grown hgrow h3.size (fun k hk => (I.out.2.1.lt k hk).1)
      rw [itsCells_snoc] at hown
      have FO := hide hown
      have FB := hide hB2
      clear hown hgrow hnil hB2
      have hl2 : Hid (acc.length + 1 = (acc ++ [x]).length) := by show _ = _; simp
      go_wp2
      go_roundg (r.drop sz).length
      case measure => have := SP.out; have := SZ.out; rw [List.length_drop]; omega
      case rel =>
        refine ⟨_, _, _, _, acc ++ [x], r.drop sz, rfl, rfl, Nat.le_refl _, EX.out, ?_, E.out, FB.out, ?_⟩
        · rw [← hl2.out]; exact FO.out
        · rw [← hl2.out, List.length_drop]; have := I.out.2.2.2.2; have := SP.out; have := SZ.out; omega
end Go.Proofs.YtbccnfbombgdmaaGreat

/- 'Put' of the reckoning side. -/
set_option linter.unusedVariables false
set_option linter.unusedSimpArgs false
namespace Go.Proofs.YtbccnfbombgdmaaGreat
open Go.RowKit Go.Deep Math

theorem head_txt (x : It) : txt (low x.key.length 1) ++ txt (low x.value.length 2) ++ ⟨#[82]⟩ ++ txt (low x.flags 4) ++ txt (low (u64 x.exp) 8) ++ txt (low x.ver 8) = txt x.head := by
  have e : (⟨#[82]⟩ : ByteArray) = txt [82] := rfl
  rw [e, txt_append, txt_append, txt_append, txt_append, txt_append]
  unfold It.head
  simp only [List.append_assoc]
theorem enc_txt (x : It) : txt x.head ++ txt (low (crcN x.head) 4) ++ txt (low (crcN (x.key ++ x.value)) 4) ++ txt x.key ++ txt x.value = txt x.enc := by
  rw [txt_append, txt_append, txt_append, txt_append]
  unfold It.enc
  simp only [List.append_assoc]

set_option maxRecDepth 4000 in
set_option maxHeartbeats 1000000 in
theorem refPut_any (x : It) (hf : x.fits) (hg : x.good = true) (w : World) :
    Calls Tryz.prog 70 #[.agg #[.string (txt x.key), .string (txt x.value), .int .u32 x.flags, .int .i64 x.exp, .int .u64 x.ver]] w fun e w' => e = .returned (.string (txt x.enc)) ∧ Below w.heap.size w w' := by
  obtain ⟨g1, g2, g3, g4⟩ := x.good_iff.1 hg
  have hks : (txt x.key).size = x.key.length := txt_size _
  have hvs : (txt x.value).size = x.value.length := txt_size _
  have ff := hf.flags
  have fv := hf.ver
  have fu := u64_lt x.exp
  have c1 : Hid (∀ W, Calls Tryz.prog 90 #[.int .u64 ((txt x.key).size : Int), .int .i64 1] W fun e w' => e = .returned (.string (txt (low x.key.length 1))) ∧ Below W.heap.size W w') := fun W => by
    rw [hks]; exact low_any x.key.length 1 (by omega) (by omega) W
  have c2 : Hid (∀ W, Calls Tryz.prog 90 #[.int .u64 ((txt x.value).size : Int), .int .i64 2] W fun e w' => e = .returned (.string (txt (low x.value.length 2))) ∧ Below W.heap.size W w') := fun W => by
    rw [hvs]; exact low_any x.value.length 2 (by omega) (by omega) W
  have c3 : Hid (∀ W, Calls Tryz.prog 90 #[.int .u64 (x.flags : Int), .int .i64 4] W fun e w' => e = .returned (.string (txt (low x.flags 4))) ∧ Below W.heap.size W w') := fun W => low_any x.flags 4 (by omega) (by omega) W
  have c4 : Hid (∀ W, Calls Tryz.prog 90 #[.int .u64 (u64 x.exp : Int), .int .i64 8] W fun e w' => e = .returned (.string (txt (low (u64 x.exp) 8))) ∧ Below W.heap.size W w') := fun W => low_any (u64 x.exp) 8 (by omega) (by omega) W
  have c5 : Hid (∀ W, Calls Tryz.prog 90 #[.int .u64 (x.ver : Int), .int .i64 8] W fun e w' => e = .returned (.string (txt (low x.ver 8))) ∧ Below W.heap.size W w') := fun W => low_any x.ver 8 (by omega) (by omega) W
  have hl2 : (x.key ++ x.value).length ≤ 1048576 := by rw [List.length_append]; omega
  have c6 : Hid (∀ W, Calls Tryz.prog 91 #[.string (txt x.head)] W fun e w' => e = .returned (.int .u64 (crcN x.head : Int)) ∧ Below W.heap.size W w') := fun W => crcT_any x.head (by rw [x.head_length]; omega) W
  have c7 : Hid (∀ W, Calls Tryz.prog 90 #[.int .u64 (crcN x.head : Int), .int .i64 4] W fun e w' => e = .returned (.string (txt (low (crcN x.head) 4))) ∧ Below W.heap.size W w') := fun W => low_any (crcN x.head) 4 (by have := crcN_lt x.head; omega) (by omega) W
  have c8 : Hid (∀ W, Calls Tryz.prog 91 #[.string (txt x.key ++ txt x.value)] W fun e w' => e = .returned (.int .u64 (crcN (x.key ++ x.value) : Int)) ∧ Below W.heap.size W w') := fun W => by
    rw [txt_append]; exact crcT_any (x.key ++ x.value) hl2 W
  have c9 : Hid (∀ W, Calls Tryz.prog 90 #[.int .u64 (crcN (x.key ++ x.value) : Int), .int .i64 4] W fun e w' => e = .returned (.string (txt (low (crcN (x.key ++ x.value)) 4))) ∧ Below W.heap.size W w') := fun W => low_any (crcN (x.key ++ x.value)) 4 (by have := crcN_lt (x.key ++ x.value); omega) (by omega) W
  have HT := hide (head_txt x)
  have ET := hide (enc_txt x)
  have s1 : (txt (low x.key.length 1)).size = 1 := by rw [txt_size, low_length]
  have s2 : (txt (low x.value.length 2)).size = 2 := by rw [txt_size, low_length]
  have s3 : (txt (low x.flags 4)).size = 4 := by rw [txt_size, low_length]
  have s4 : (txt (low (u64 x.exp) 8)).size = 8 := by rw [txt_size, low_length]
  have s5 : (txt (low x.ver 8)).size = 8 := by rw [txt_size, low_length]
  have s6 : (txt x.head).size = 24 := by rw [txt_size, x.head_length]
  have s7 : (txt (low (crcN x.head) 4)).size = 4 := by rw [txt_size, low_length]
  have s9 : (txt (low (crcN (x.key ++ x.value)) 4)).size = 4 := by rw [txt_size, low_length]
  have wk : IntKind.u64.wrap ((txt x.key).size : Int) = ((txt x.key).size : Int) := by rw [IntKind.wrap_u64]; omega
  have wv : IntKind.u64.wrap ((txt x.value).size : Int) = ((txt x.value).size : Int) := by rw [IntKind.wrap_u64]; omega
  have wf : IntKind.u64.wrap (x.flags : Int) = (x.flags : Int) := by rw [IntKind.wrap_u64]; omega
  have we : IntKind.u64.wrap x.exp = (u64 x.exp : Int) := by rw [IntKind.wrap_u64]; unfold u64; omega
  have bk : (txt x.key).size ≤ 250 := by omega
  have bv : (txt x.value).size ≤ 1024 := by omega
  generalize u64 x.exp = ue at *
  generalize txt (low x.key.length 1) = t1 at *
  generalize txt (low x.value.length 2) = t2 at *
  generalize txt (low x.flags 4) = t3 at *
  generalize txt (low ue 8) = t4 at *
  generalize txt (low x.ver 8) = t5 at *
  generalize txt (low (crcN x.head) 4) = t7 at *
  generalize txt (low (crcN (x.key ++ x.value)) 4) = t9 at *
  generalize crcN x.head = n1 at *
  generalize crcN (x.key ++ x.value) = n2 at *
  generalize txt x.head = hb at *
  generalize txt x.key = kb at *
  generalize txt x.value = vb at *
  generalize txt x.enc = eb at *
  clear hks hvs g1 g2 g3 g4 hg hf hl2 ff fv fu
  have f5 := hide (fun W h => five_new (w := w) (W := W) (kb := kb) (vb := vb) (f := x.flags) (e := x.exp) (v := x.ver) h)
  have A := hide (Aft.new w (.cells #[.string kb, .string vb, .int .u32 x.flags, .int .i64 x.exp, .int .u64 x.ver] 39)).drew
  obtain ⟨z1, z2, z3, z4, z5⟩ := f5.out _ A.out
  go_enter Tryz.func70, Tryz.ntmps70
  go_wp2_with fail
  go_region_held (fun W => W.cell? ⟨w.heap.size, 0, none⟩ = some (.string kb) ∧ W.cell? ⟨w.heap.size, 1, none⟩ = some (.string vb) ∧ W.cell? ⟨w.heap.size, 2, none⟩ = some (.int .u32 x.flags) ∧ W.cell? ⟨w.heap.size, 3, none⟩ = some (.int .i64 x.exp) ∧ W.cell? ⟨w.heap.size, 4, none⟩ = some (.int .u64 x.ver))
    (exact f5.out _ A.out)
    (first
      | (go_at_call 90; refine (c1.out _).mono ?_; clear c1; rintro r wx ⟨rfl, hx⟩; replace A := hide (A.out.then hx); clear hx)
      | (go_at_call 90; refine (c2.out _).mono ?_; clear c2; rintro r wx ⟨rfl, hx⟩; replace A := hide (A.out.then hx); clear hx)
      | (go_at_call 90; refine (c3.out _).mono ?_; clear c3; rintro r wx ⟨rfl, hx⟩; replace A := hide (A.out.then hx); clear hx)
      | (go_at_call 90; refine (c4.out _).mono ?_; clear c4; rintro r wx ⟨rfl, hx⟩; replace A := hide (A.out.then hx); clear hx)
      | (go_at_call 90; refine (c5.out _).mono ?_; clear c5; rintro r wx ⟨rfl, hx⟩; replace A := hide (A.out.then hx); clear hx))
  rw [HT.out]
  clear s1 s2 s3 s4 s5 HT wk wv wf we z1 z2 z3 z4 z5
  replace A := hide A.out.drew
  obtain ⟨z1, z2, z3, z4, z5⟩ := f5.out _ A.out
  have q1 : ¬ 9223372036854775807 < kb.size + vb.size := by omega
  have q2 : ¬ 9223372036854775807 < 32 + kb.size := by omega
  have q3 : ¬ 9223372036854775807 < 32 + kb.size + vb.size := by omega
  go_wp2_with fail
  go_region_held (fun W => W.cell? ⟨w.heap.size, 0, none⟩ = some (.string kb) ∧ W.cell? ⟨w.heap.size, 1, none⟩ = some (.string vb))
    (exact ⟨(f5.out _ A.out).1, (f5.out _ A.out).2.1⟩)
    (first
      | (go_at_call 91; refine (c6.out _).mono ?_; clear c6; rintro r wy ⟨rfl, hx⟩; replace A := hide (A.out.then hx); clear hx)
      | (go_at_call 90; refine (c7.out _).mono ?_; clear c7; rintro r wy ⟨rfl, hx⟩; replace A := hide (A.out.then hx); clear hx)
      | (go_at_call 91; refine (c8.out _).mono ?_; clear c8; rintro r wy ⟨rfl, hx⟩; replace A := hide (A.out.then hx); clear hx)
      | (go_at_call 90; refine (c9.out _).mono ?_; clear c9; rintro r wy ⟨rfl, hx⟩; replace A := hide (A.out.then hx); clear hx))
  all_goals go_wp2
  all_goals (
    go_ret
    exact ⟨by rw [← ET.out]; rfl, A.out.old⟩)
end Go.Proofs.YtbccnfbombgdmaaGreat

/- 'Lay' of the reckoning side. -/
set_option linter.unusedVariables false
set_option linter.unusedSimpArgs false
set_option maxRecDepth 8000
namespace Go.Proofs.YtbccnfbombgdmaaGreat
open Go.RowKit Go.Deep Math

theorem total_le : ∀ (l : List It), l.all It.good = true → total l ≤ 1306 * l.length
  | [], _ => by simp [total]
  | x :: r, h => by
    simp only [List.all_cons, Bool.and_eq_true] at h
    obtain ⟨q1, q2, q3, q4⟩ := x.good_iff.1 h.1
    have := total_le r h.2
    simp only [total, List.length_cons]
    unfold It.size
    omega
theorem encs_take_succ (xs : List It) (i : Nat) (x : It) (h : xs[i]? = some x) : encs (xs.take (i + 1)) = encs (xs.take i) ++ x.enc := by
  rw [List.take_add_one, h, encs_append]; simp [encs]
theorem make_len (n : Nat) (hn : n ≤ 1048576) (W : World) : (Instr.makeSlice 40 (.int .i64 n) (.int .i64 n)).run Tryz.prog W = .ok (.slice (some ⟨W.heap.size, 0, none⟩) n n) (W.alloc (.cells (zc n).toArray 5)) := by
  obtain ⟨i0, hi0, hp0⟩ := Option.map_eq_some_iff.1 info5
  simp only [Prod.mk.injEq] at hp0
  obtain ⟨hz0, hz1, hz2⟩ := hp0
  have h := run_make (P := Tryz.prog) W 40 5 i0 _ Tryz.underlying40 hi0 hz0 .i64 .i64 (n : Int) (n : Int) (by omega) (by omega) (by rw [hz2]; omega) (by omega)
  rw [h]
  simp only [Int.toNat_natCast]
  congr 3
  apply Array.ext'
  rw [hz1, Nat.mul_one, show (Value.int IntKind.u8 0).cells = #[Value.int IntKind.u8 0] from rfl, toList_madeCells_one]
  rfl
/-- What it answers. -/
def layS (xs : List It) (room : Int) : Value :=
  if 65536 < room then .tuple #[.string (txt []), .int .i64 1]
  else if xs.all It.good = false then .tuple #[.string (txt []), .int .i64 1]
  else if (total xs : Int) ≤ room then .tuple #[.string (txt (encs xs ++ List.replicate (room.toNat - total xs) 0)), .int .i64 0]
  else .tuple #[.string (txt []), .int .i64 7]
theorem refGood_it' (x : It) (w : World) : Calls Tryz.prog 36 #[.agg #[.string (txt x.key), .string (txt x.value), .int .u32 x.flags, .int .i64 x.exp, .int .u64 x.ver]] w fun r w' => r = .returned (.bool x.good) ∧ Below w.heap.size w w' := by
  rw [x.good_mayBe]; exact refGood_any (txt x.key) (txt x.value) x.flags x.exp x.ver w

set_option maxHeartbeats 1000000 in
theorem refLay_any (a : Option Addr) (n cap : Nat) (xs : List It) (room : Int) (hr0 : -9223372036854775808 ≤ room) (hr1 : room ≤ 9223372036854775807) (hn : n ≤ 30) (w : World) (h : RawAt w a n xs) :
    Calls Tryz.prog 42 #[.slice a n cap, .int .i64 room] w fun e w' => e = .returned (layS xs room) ∧ Below w.heap.size w w' := by
  have HR := hide h
  have HL : Hid (n = xs.length) := h.len
  clear h
  by_cases hbig : 65536 < room
  · have E : Hid (layS xs room = .tuple #[.string (txt []), .int .i64 1]) := by show _ = _; unfold layS; rw [if_pos hbig]
    have hb' : ((65536 : Int) < room) = True := eq_true hbig
    clear hbig
    go_enter Tryz.func42, Tryz.ntmps42
    go_wp2
    go_ret2
    exact ⟨by rw [E.out]; rfl, Below.refl _ _⟩
  have hb' : ((65536 : Int) < room) = False := eq_false hbig
  have HBIG := hide hbig
  clear hbig
  go_enter Tryz.func42, Tryz.ntmps42
  go_wp2_with fail
  go_loopg [6, 7] n (fun kx s6 s7 wr => ∃ (i : Nat) (s : ByteArray), s7 = .int .i64 i ∧ s6 = .string s ∧ i ≤ n ∧ n - i ≤ kx ∧ Hid (s = txt (encs (xs.take i)) ∧ (xs.take i).all It.good = true ∧ Below w.heap.size w wr))
  case atStart => exact ⟨0, _, rfl, rfl, Nat.zero_le _, by omega, rfl, rfl, Below.refl _ _⟩
  case round =>
    obtain ⟨i, s, rfl, rfl, hin, hg, I⟩ := hrel
    have hsz0 : s.size = total (xs.take i) := by rw [I.out.1, txt_size, encs_length]
    have hsz : s.size ≤ 39180 := by
      have h1 := total_le _ I.out.2.1
      rw [List.length_take] at h1
      omega
    by_cases hlt : i < n
    · have hlt2 : (i : Int) < (n : Int) := by omega
      obtain ⟨x, hx⟩ : ∃ x, xs[i]? = some x := ⟨_, List.getElem?_eq_getElem (by rw [← HL.out]; exact hlt)⟩
      obtain ⟨b, o, rfl, hb, hcl⟩ := HR.out.cell i x hx
      have hc' := hcl.below I.out.2.2 hb
      have x0 := hc'.c0
      have x1 := hc'.c1
      have x2 := hc'.c2
      have x3 := hc'.c3
      have x4 := hc'.c4
      have cg := hide (refGood_it' x)
      have AT := hide (all_take_succ xs i x hx)
      have AF := hide (all_false xs i x hx)
      have ET := hide (encs_take_succ xs i x hx)
      have FX := hide (HR.out.fits x (List.mem_of_getElem? hx))
      have HB := hide hb
      have HCL := hide hcl
      clear hc' hx hcl hb hsz0
      cases hgx : x.good with
      | false =>
        rw [hgx] at cg
        have E : Hid (layS xs room = .tuple #[.string (txt []), .int .i64 1]) := by show _ = _; unfold layS; rw [if_neg (by have := HBIG.out; omega), if_pos (AF.out hgx)]
        clear hgx
        go_wp2_with (go_at_call 36; refine (cg.out _).mono ?_; rintro r w2 ⟨rfl, h2⟩; have B2 := hide (I.out.2.2.trans (h2.mono I.out.2.2.size)); clear h2)
        go_ret2
        exact ⟨by rw [E.out]; rfl, B2.out⟩
      | true =>
        rw [hgx] at cg AT
        have cp := hide (refPut_any x FX.out hgx)
        have XS : (txt x.enc).size ≤ 1306 := by
          obtain ⟨q1, q2, q3, q4⟩ := x.good_iff.1 hgx
          rw [txt_size, x.enc_length]; unfold It.size; omega
        have ES : Hid (s ++ txt x.enc = txt (encs (xs.take (i + 1)))) := by show _ = _; rw [I.out.1, txt_append, ET.out]
        clear hgx
        generalize txt x.enc = ex at cp XS ES
        have hle : ((s.size : Int) ≤ 1048576) = True := eq_true (by omega)
        have hov : ¬ 9223372036854775807 < s.size + ex.size := by omega
        go_wp2_with fail
        refine (cg.out _).mono ?_
        rintro r w2 ⟨rfl, h2⟩
        have B2 := hide (I.out.2.2.trans (h2.mono I.out.2.2.size))
        clear h2 cg x0 x1 x2 x3 x4
        have hc' := HCL.out.below B2.out HB.out
        have x0 := hc'.c0
        have x1 := hc'.c1
        have x2 := hc'.c2
        have x3 := hc'.c3
        have x4 := hc'.c4
        clear hc'
        go_wp2_with (go_at_call 70; refine (cp.out _).mono ?_; rintro r w3 ⟨rfl, h3⟩; have B3 := hide (B2.out.trans (h3.mono B2.out.size)); clear h3)
        go_roundg (n - (i + 1))
        case measure => omega
        case rel => exact ⟨i + 1, _, rfl, rfl, by omega, by omega, ES.out, by rw [AT.out, I.out.2.1]; rfl, B3.out⟩
    · obtain rfl : i = n := by omega
      have hlt2 : ¬ (i : Int) < (i : Int) := by omega
      have hall : xs.all It.good = true := by have := I.out.2.1; rwa [HL.out, List.take_length] at this
      have hs : s = txt (encs xs) := by have := I.out.1; rwa [HL.out, List.take_length] at this
      have hss : s.size = total xs := by rw [hs, txt_size, encs_length]
      have hnf : ¬ xs.all It.good = false := by rw [hall]; simp
      by_cases hfit : (s.size : Int) ≤ room
      · obtain ⟨R, rfl⟩ : ∃ R : Nat, room = (R : Int) := ⟨room.toNat, by omega⟩
        have E : Hid (layS xs (R : Int) = .tuple #[.string (s ++ txt (List.replicate (R - s.size) 0)), .int .i64 0]) := by
          show _ = _
          unfold layS
          rw [if_neg (by have := HBIG.out; omega), if_neg hnf, if_pos (by omega), hs, txt_append, txt_size, encs_length]
          simp
        have hlt3 : ((R : Int) < (s.size : Int)) = False := eq_false (by omega)
        obtain ⟨q, hq⟩ : ∃ q : Nat, q = R - s.size := ⟨_, rfl⟩
        rw [← hq] at E
        have hqi : (R : Int) - (s.size : Int) = (q : Int) := by omega
        have hm := make_len q (by have := HBIG.out; omega) wr
        rw [← hqi] at hm
        obtain ⟨Z, hZ⟩ : ∃ Z, Z = (zc q).toArray := ⟨_, rfl⟩
        rw [← hZ] at hm
        have sC : (convert 40 9 (.slice (some ⟨wr.heap.size, 0, none⟩) q q)).run Tryz.prog (wr.alloc (.cells Z 5)) = .ok (.string (txt (List.replicate q 0))) (wr.alloc (.cells Z 5)) := by
          have hB : Buf (wr.alloc (.cells Z 5)) wr.heap.size (List.replicate q 0) 0 := by
            unfold Buf
            rw [show bCells (List.replicate q 0) = zc q by simp [bCells, zc], show zc 0 = [] from rfl, List.append_nil]
            unfold Blk
            rw [← hZ]
            exact blk_alloc_new _ _
          exact str_bs (buf_bs hB (by simp) (Nat.le_refl _)) (fun h => by cases h)
        have htz : (txt (List.replicate q 0)).size = q := by rw [txt_size, List.length_replicate]
        have hov : ¬ 9223372036854775807 < s.size + (txt (List.replicate q 0)).size := by have := HBIG.out; omega
        generalize txt (List.replicate q 0) = tz at sC hov E
        have B9 := hide (I.out.2.2.alloc I.out.2.2.size (.cells Z 5))
        clear hs hss hall hnf hsz0 hsz hq hqi hZ htz hfit I
        go_wp2
        go_ret2
        exact ⟨by rw [E.out]; rfl, B9.out⟩
      · have E : Hid (layS xs room = .tuple #[.string (txt []), .int .i64 7]) := by
          show _ = _
          unfold layS
          rw [if_neg (by have := HBIG.out; omega), if_neg hnf, if_neg (by omega)]
        have hlt3 : (room < (s.size : Int)) = True := eq_true (by omega)
        clear hs hss hall hnf hfit hsz0 hsz
        go_wp2
        go_ret2
        exact ⟨by rw [E.out]; rfl, I.out.2.2⟩
end Go.Proofs.YtbccnfbombgdmaaGreat

/- Without a key (cut out of Lst8, for the port). -/
set_option linter.unusedVariables false
set_option linter.unusedSimpArgs false
set_option maxRecDepth 8000
namespace Go.Proofs.YtbccnfbombgdmaaGreat
open Go.RowKit Go.Deep Math

theorem app_one {w : World} {base : Nat} {v : Value} {xs : List It} (h : Row w base v xs) (x : It) (hx : Oks [x]) (hn : xs.length + 1 ≤ 1048576) (hb : base ≤ w.heap.size) :
    ∃ va vn vc w', (Builtin.append_ #[45, 45] 45 #[v, .slice (some ⟨w.heap.size, 0, none⟩) 1 1]).run Tryz.prog (w.alloc (.cells #[.string (txt x.key), .string (txt x.value), .int .u32 x.flags, .int .i64 x.exp, .int .u64 x.ver] 39)) = .ok (.slice va vn vc) w' ∧ vn = xs.length + 1 ∧ Row w' base (.slice va vn vc) (xs ++ [x]) ∧ Keep v.ownBlock.toList w w' := by
  have hbk : Blk (w.alloc (.cells #[.string (txt x.key), .string (txt x.value), .int .u32 x.flags, .int .i64 x.exp, .int .u64 x.ver] 39)) w.heap.size (itCells x) 39 := Blk.new w _ 39
  have hI : ItsAt (w.alloc (.cells #[.string (txt x.key), .string (txt x.value), .int .u32 x.flags, .int .i64 x.exp, .int .u64 x.ver] 39)) (some ⟨w.heap.size, 0, none⟩) [x].length [x] := its_blk (pad := []) (by simpa [itsCells] using hbk) rfl hx
  have b := (Below.refl w.heap.size w).alloc (Nat.le_refl _) (.cells #[.string (txt x.key), .string (txt x.value), .int .u32 x.flags, .int .i64 x.exp, .int .u64 x.ver] 39)
  obtain ⟨v', w2, h1, h2, h3, _⟩ := run_app (c := 1) (h.below b) hI (by simp; omega) (Nat.le_trans hb b.size)
  obtain ⟨va, vc, rfl⟩ := h2.sl
  refine ⟨va, _, vc, w2, h1 45, by simp, h2, ?_⟩
  have k1 : Keep v.ownBlock.toList w (w.alloc (.cells #[.string (txt x.key), .string (txt x.value), .int .u32 x.flags, .int .i64 x.exp, .int .u64 x.ver] 39)) := Keep.of_below b
  exact k1.trans ⟨h3.os, h3.tape, h3.output, h3.size, fun q hq hn => h3.block q hq (fun e => hn (by rw [← e]; simp))⟩ (fun q hq => .inl hq)
theorem row_keep_bel {w0 w w' : World} {v : Value} {xs : List It} (hr : Row w w0.heap.size v xs) (hb : Below w0.heap.size w0 w) (k : Keep v.ownBlock.toList w w') : Below w0.heap.size w0 w' :=
  hb.trans (k.below (fun q hq => (hr.lt q (by simpa using hq)).1) hb.size)

set_option maxHeartbeats 4000000 in
theorem without_any (a : Option Addr) (n cap : Nat) (xs : List It) (key : List UInt8) (hn : n ≤ 1000) (w : World) (h : ItsAt w a n xs) :
    Calls Tryz.prog 40 #[.slice a n cap, .string (txt key)] w fun e w' => ∃ va vn vc, e = .returned (.slice va vn vc) ∧ vn = (xs.filter (notKey key)).length ∧ Row w' w.heap.size (.slice va vn vc) (xs.filter (notKey key)) ∧ Below w.heap.size w w' := by
  have H := hide h
  have HL := hide h.len
  clear h
  go_enter Tryz.func40, Tryz.ntmps40
  go_wp2_with fail
  go_loopg [5, 6] n (fun kx s5 s6 wr => ∃ (i : Nat) (va : Option Addr) (vn vc : Nat), s5 = .slice va vn vc ∧ s6 = .int .i64 i ∧ i ≤ n ∧ n - i ≤ kx ∧ Hid (vn = ((xs.take i).filter (notKey key)).length ∧ Row wr w.heap.size (.slice va vn vc) ((xs.take i).filter (notKey key)) ∧ Below w.heap.size w wr))
  case atStart => exact ⟨0, none, 0, 0, rfl, rfl, Nat.zero_le _, by omega, rfl, Row.nil _ _, Below.refl _ _⟩
  case round =>
    obtain ⟨i, va, vn, vc, rfl, rfl, hin, hg, I⟩ := hrel
    by_cases hlt : i < n
    · have hlt2 : (i : Int) < (n : Int) := by omega
      obtain ⟨x, hx⟩ : ∃ x, xs[i]? = some x := ⟨_, List.getElem?_eq_getElem (by rw [← HL.out]; exact hlt)⟩
      obtain ⟨b, o, rfl, hb, hc⟩ := (H.out.below I.out.2.2).cell i x hx
      obtain ⟨c0, c1, c2, c3, c4⟩ := hc.vals
      have HT : Hid (xs.take (i + 1) = xs.take i ++ [x]) := by show _ = _; rw [List.take_add_one, hx]; rfl
      have HO : Hid (Oks [x]) := fun z hz => by simp at hz; rw [hz]; exact H.out.fits x (List.mem_of_getElem? hx)
      have he : ((txt x.key).toList == (txt key).toList) = decide (x.key = key) := by rw [txt_list, txt_list]; by_cases h : x.key = key <;> simp [h]
      clear hc hx hb
      by_cases hk : x.key = key
      · rw [decide_eq_true hk] at he
        have E : Hid ((xs.take (i + 1)).filter (notKey key) = (xs.take i).filter (notKey key)) := by show _ = _; rw [HT.out]; simp [notKey, hk]
        clear hk HT
        go_wp2
        go_roundg (n - (i + 1))
        case measure => omega
        case rel => exact ⟨i + 1, va, vn, vc, rfl, rfl, by omega, by omega, by rw [E.out]; exact I.out⟩
      · rw [decide_eq_false hk] at he
        have E : Hid ((xs.take (i + 1)).filter (notKey key) = (xs.take i).filter (notKey key) ++ [x]) := by show _ = _; rw [HT.out]; simp [notKey, hk]
        have hfl : ((xs.take i).filter (notKey key)).length ≤ 1000 := by
          have h1 := List.length_filter_le (notKey key) (xs.take i)
          have h2 : (xs.take i).length ≤ i := by rw [List.length_take]; omega
          omega
        obtain ⟨ua, un, uc, w2, hrun, hun, hrow, hkp⟩ := app_one I.out.2.1 x HO.out (by omega) I.out.2.2.size
        have HR := hide hrun
        have T : Hid (un = ((xs.take (i + 1)).filter (notKey key)).length ∧ Row w2 w.heap.size (.slice ua un uc) ((xs.take (i + 1)).filter (notKey key)) ∧ Below w.heap.size w w2) := by
          refine ⟨by rw [E.out, hun]; simp, by rw [E.out]; exact hrow, row_keep_bel I.out.2.1 I.out.2.2 hkp⟩
        clear hk HT hrun hun hrow hkp hfl
        go_wp2_with (at_builtin; refine Lib.wpList_append_run _ rfl _ _ _ _ rfl _ _ rfl rfl _ _ HR.out ?_)
        go_roundg (n - (i + 1))
        case measure => omega
        case rel => exact ⟨i + 1, ua, un, uc, rfl, rfl, by omega, by omega, T.out⟩
    · obtain rfl : i = n := by omega
      have hlt2 : ¬ (i : Int) < (i : Int) := by omega
      have I' := I.out
      rw [HL.out, List.take_length] at I'
      have II := hide I'
      clear I'
      go_wp2
      go_ret
      exact ⟨va, vn, vc, rfl, II.out⟩

end Go.Proofs.YtbccnfbombgdmaaGreat
