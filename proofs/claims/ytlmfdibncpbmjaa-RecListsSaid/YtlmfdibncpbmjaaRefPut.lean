/- 'Put' of the reckoning side. -/
import Derived.Test.YtlmfdibncpbmjaaRefLow
import Derived.Test.YtlmfdibncpbmjaaAwake
import Derived.Deep.RegionHeld
set_option linter.unusedVariables false
set_option linter.unusedSimpArgs false
namespace Go.Proofs.Ytlmfdibncpbmjaa
open Go.RowKit Go.Deep Math

theorem head_txt (x : It) : txt (low x.key.length 1) ++ txt (low x.value.length 2) ++ ⟨#[82]⟩ ++ txt (low x.flags 4) ++ txt (low (u64 x.exp) 8) ++ txt (low x.ver 8) = txt x.head := by
  have e : (⟨#[82]⟩ : ByteArray) = txt [82] := rfl
  rw [e, txt_append, txt_append, txt_append, txt_append, txt_append]
  unfold It.head
  simp only [List.append_assoc]
theorem enc_txt (x : It) : txt x.head ++ txt (low (crcN x.head) 4) ++ txt (low (crcN (x.key ++ x.value)) 4) ++ txt x.key ++ txt x.value = txt x.enc := by
  rw [txt_append, txt_append, txt_append, txt_append]
  unfold It.enc
  simp only [List.append_assoc]

set_option maxRecDepth 4000 in
set_option maxHeartbeats 1000000 in
theorem refPut_any (x : It) (hf : x.fits) (hg : x.good = true) (w : World) :
    Calls Try.prog 19 #[.agg #[.string (txt x.key), .string (txt x.value), .int .u32 x.flags, .int .i64 x.exp, .int .u64 x.ver]] w fun e w' => e = .returned (.string (txt x.enc)) ∧ Below w.heap.size w w' := by
  obtain ⟨g1, g2, g3, g4⟩ := x.good_iff.1 hg
  have hks : (txt x.key).size = x.key.length := txt_size _
  have hvs : (txt x.value).size = x.value.length := txt_size _
  have ff := hf.flags
  have fv := hf.ver
  have fu := u64_lt x.exp
  have c1 : Hid (∀ W, Calls Try.prog 31 #[.int .u64 ((txt x.key).size : Int), .int .i64 1] W fun e w' => e = .returned (.string (txt (low x.key.length 1))) ∧ Below W.heap.size W w') := fun W => by
    rw [hks]; exact low_any x.key.length 1 (by omega) (by omega) W
  have c2 : Hid (∀ W, Calls Try.prog 31 #[.int .u64 ((txt x.value).size : Int), .int .i64 2] W fun e w' => e = .returned (.string (txt (low x.value.length 2))) ∧ Below W.heap.size W w') := fun W => by
    rw [hvs]; exact low_any x.value.length 2 (by omega) (by omega) W
  have c3 : Hid (∀ W, Calls Try.prog 31 #[.int .u64 (x.flags : Int), .int .i64 4] W fun e w' => e = .returned (.string (txt (low x.flags 4))) ∧ Below W.heap.size W w') := fun W => low_any x.flags 4 (by omega) (by omega) W
  have c4 : Hid (∀ W, Calls Try.prog 31 #[.int .u64 (u64 x.exp : Int), .int .i64 8] W fun e w' => e = .returned (.string (txt (low (u64 x.exp) 8))) ∧ Below W.heap.size W w') := fun W => low_any (u64 x.exp) 8 (by omega) (by omega) W
  have c5 : Hid (∀ W, Calls Try.prog 31 #[.int .u64 (x.ver : Int), .int .i64 8] W fun e w' => e = .returned (.string (txt (low x.ver 8))) ∧ Below W.heap.size W w') := fun W => low_any x.ver 8 (by omega) (by omega) W
  have hl2 : (x.key ++ x.value).length ≤ 1048576 := by rw [List.length_append]; omega
  have c6 : Hid (∀ W, Calls Try.prog 32 #[.string (txt x.head)] W fun e w' => e = .returned (.int .u64 (crcN x.head : Int)) ∧ Below W.heap.size W w') := fun W => crcT_any x.head (by rw [x.head_length]; omega) W
  have c7 : Hid (∀ W, Calls Try.prog 31 #[.int .u64 (crcN x.head : Int), .int .i64 4] W fun e w' => e = .returned (.string (txt (low (crcN x.head) 4))) ∧ Below W.heap.size W w') := fun W => low_any (crcN x.head) 4 (by have := crcN_lt x.head; omega) (by omega) W
  have c8 : Hid (∀ W, Calls Try.prog 32 #[.string (txt x.key ++ txt x.value)] W fun e w' => e = .returned (.int .u64 (crcN (x.key ++ x.value) : Int)) ∧ Below W.heap.size W w') := fun W => by
    rw [txt_append]; exact crcT_any (x.key ++ x.value) hl2 W
  have c9 : Hid (∀ W, Calls Try.prog 31 #[.int .u64 (crcN (x.key ++ x.value) : Int), .int .i64 4] W fun e w' => e = .returned (.string (txt (low (crcN (x.key ++ x.value)) 4))) ∧ Below W.heap.size W w') := fun W => low_any (crcN (x.key ++ x.value)) 4 (by have := crcN_lt (x.key ++ x.value); omega) (by omega) W
  have HT := hide (head_txt x)
  have ET := hide (enc_txt x)
  have s1 : (txt (low x.key.length 1)).size = 1 := by rw [txt_size, low_length]
  have s2 : (txt (low x.value.length 2)).size = 2 := by rw [txt_size, low_length]
  have s3 : (txt (low x.flags 4)).size = 4 := by rw [txt_size, low_length]
  have s4 : (txt (low (u64 x.exp) 8)).size = 8 := by rw [txt_size, low_length]
  have s5 : (txt (low x.ver 8)).size = 8 := by rw [txt_size, low_length]
  have s6 : (txt x.head).size = 24 := by rw [txt_size, x.head_length]
  have s7 : (txt (low (crcN x.head) 4)).size = 4 := by rw [txt_size, low_length]
  have s9 : (txt (low (crcN (x.key ++ x.value)) 4)).size = 4 := by rw [txt_size, low_length]
  have wk : IntKind.u64.wrap ((txt x.key).size : Int) = ((txt x.key).size : Int) := by rw [IntKind.wrap_u64]; omega
  have wv : IntKind.u64.wrap ((txt x.value).size : Int) = ((txt x.value).size : Int) := by rw [IntKind.wrap_u64]; omega
  have wf : IntKind.u64.wrap (x.flags : Int) = (x.flags : Int) := by rw [IntKind.wrap_u64]; omega
  have we : IntKind.u64.wrap x.exp = (u64 x.exp : Int) := by rw [IntKind.wrap_u64]; unfold u64; omega
  have bk : (txt x.key).size ≤ 250 := by omega
  have bv : (txt x.value).size ≤ 1024 := by omega
  generalize u64 x.exp = ue at *
  generalize txt (low x.key.length 1) = t1 at *
  generalize txt (low x.value.length 2) = t2 at *
  generalize txt (low x.flags 4) = t3 at *
  generalize txt (low ue 8) = t4 at *
  generalize txt (low x.ver 8) = t5 at *
  generalize txt (low (crcN x.head) 4) = t7 at *
  generalize txt (low (crcN (x.key ++ x.value)) 4) = t9 at *
  generalize crcN x.head = n1 at *
  generalize crcN (x.key ++ x.value) = n2 at *
  generalize txt x.head = hb at *
  generalize txt x.key = kb at *
  generalize txt x.value = vb at *
  generalize txt x.enc = eb at *
  clear hks hvs g1 g2 g3 g4 hg hf hl2 ff fv fu
  have f5 := hide (fun W h => five_new (w := w) (W := W) (kb := kb) (vb := vb) (f := x.flags) (e := x.exp) (v := x.ver) h)
  have A := hide (Aft.new w (.cells #[.string kb, .string vb, .int .u32 x.flags, .int .i64 x.exp, .int .u64 x.ver] 30)).drew
  obtain ⟨z1, z2, z3, z4, z5⟩ := f5.out _ A.out
  go_enter Try.func19, Try.ntmps19
  go_wp2_with fail
  go_region_held (fun W => W.cell? ⟨w.heap.size, 0, none⟩ = some (.string kb) ∧ W.cell? ⟨w.heap.size, 1, none⟩ = some (.string vb) ∧ W.cell? ⟨w.heap.size, 2, none⟩ = some (.int .u32 x.flags) ∧ W.cell? ⟨w.heap.size, 3, none⟩ = some (.int .i64 x.exp) ∧ W.cell? ⟨w.heap.size, 4, none⟩ = some (.int .u64 x.ver))
    (exact f5.out _ A.out)
    (first
      | (go_at_call 31; refine (c1.out _).mono ?_; clear c1; rintro r wx ⟨rfl, hx⟩; replace A := hide (A.out.then hx); clear hx)
      | (go_at_call 31; refine (c2.out _).mono ?_; clear c2; rintro r wx ⟨rfl, hx⟩; replace A := hide (A.out.then hx); clear hx)
      | (go_at_call 31; refine (c3.out _).mono ?_; clear c3; rintro r wx ⟨rfl, hx⟩; replace A := hide (A.out.then hx); clear hx)
      | (go_at_call 31; refine (c4.out _).mono ?_; clear c4; rintro r wx ⟨rfl, hx⟩; replace A := hide (A.out.then hx); clear hx)
      | (go_at_call 31; refine (c5.out _).mono ?_; clear c5; rintro r wx ⟨rfl, hx⟩; replace A := hide (A.out.then hx); clear hx))
  rw [HT.out]
  clear s1 s2 s3 s4 s5 HT wk wv wf we z1 z2 z3 z4 z5
  replace A := hide A.out.drew
  obtain ⟨z1, z2, z3, z4, z5⟩ := f5.out _ A.out
  have q1 : ¬ 9223372036854775807 < kb.size + vb.size := by omega
  have q2 : ¬ 9223372036854775807 < 32 + kb.size := by omega
  have q3 : ¬ 9223372036854775807 < 32 + kb.size + vb.size := by omega
  go_wp2_with fail
  go_region_held (fun W => W.cell? ⟨w.heap.size, 0, none⟩ = some (.string kb) ∧ W.cell? ⟨w.heap.size, 1, none⟩ = some (.string vb))
    (exact ⟨(f5.out _ A.out).1, (f5.out _ A.out).2.1⟩)
    (first
      | (go_at_call 32; refine (c6.out _).mono ?_; clear c6; rintro r wy ⟨rfl, hx⟩; replace A := hide (A.out.then hx); clear hx)
      | (go_at_call 31; refine (c7.out _).mono ?_; clear c7; rintro r wy ⟨rfl, hx⟩; replace A := hide (A.out.then hx); clear hx)
      | (go_at_call 32; refine (c8.out _).mono ?_; clear c8; rintro r wy ⟨rfl, hx⟩; replace A := hide (A.out.then hx); clear hx)
      | (go_at_call 31; refine (c9.out _).mono ?_; clear c9; rintro r wy ⟨rfl, hx⟩; replace A := hide (A.out.then hx); clear hx))
  all_goals go_wp2
  all_goals (
    go_ret
    exact ⟨by rw [← ET.out]; rfl, A.out.old⟩)
end Go.Proofs.Ytlmfdibncpbmjaa
