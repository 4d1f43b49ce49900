/- What the document tells of two pages. -/
import Derived.Test.YthnfdgjikbjgoabCopy
set_option linter.unusedVariables false
set_option linter.unusedSimpArgs false
namespace Go.Proofs.Ythnfdgjikbjgoab
open Go.RowKit Go.Deep

/-- The blocks G are there, and none of them is of F. -/
def Apart (w : World) (F G : List Nat) : Prop := ∀ k ∈ G, k < w.heap.size ∧ k ∉ F

theorem Moves.apart {F F' G : List Nat} {w w' : World} (m : Moves F F' w w') (a : Apart w F G) : Apart w' F' G ∧ ∀ k ∈ G, w'.heap[k]? = w.heap[k]? := by
  refine ⟨fun k hk => ⟨Nat.lt_of_lt_of_le (a k hk).1 m.keep.size, fun hf => ?_⟩, fun k hk => m.keep.block k (a k hk).1 (a k hk).2⟩
  rcases m.foot k hf with h | h
  · exact (a k hk).2 h
  · have := (a k hk).1; omega
theorem Apart.below {F G : List Nat} {w w' : World} (a : Apart w F G) (b : Below w.heap.size w w') : Apart w' F G ∧ ∀ k ∈ G, w'.heap[k]? = w.heap[k]? :=
  ⟨fun k hk => ⟨Nat.lt_of_lt_of_le (a k hk).1 b.size, (a k hk).2⟩, fun k hk => b.block k (a k hk).1⟩

theorem DvAt.below {w w' : World} {d : Nat} {F : List Nat} {S : Dv} (h : DvAt w d F S) (b : Below w.heap.size w w') : DvAt w' d F S := h.same (fun k hk => b.block k (h.lt k hk))
theorem DvAt.alloc {w : World} {d : Nat} {F : List Nat} {S : Dv} (h : DvAt w d F S) (o : Obj) : DvAt (w.alloc o) d F S := h.below ((Below.refl _ _).alloc (Nat.le_refl _) o)

theorem bs_one (w : World) (x : UInt8) (v : Int) (hv : v = (x.toNat : Int)) : BSlice (w.alloc (.cells #[.int .u8 v] 5)) (some ⟨w.heap.size, 0, none⟩) [x] w.heap.size := by
  refine .inr ⟨by rw [nblk_alloc]; omega, 0, rfl, fun j hj => ?_⟩
  have : j = 0 := by simp at hj; omega
  subst this
  rw [hv]
  exact (Blk.new w [.int .u8 (x.toNat : Int)] 5).cell rfl

theorem not_old {w : World} {d : Nat} {F : List Nat} {S : Dv} (h : DvAt w d F S) : w.heap.size ∉ F := fun hf => by have := h.lt _ hf; omega

theorem ReadsAs.nothing {w w' : World} {v : Value} {err : Int} {t : ByteArray} (h : ReadsAs w w' v err t) (he : err ≠ 0) : v = .slice none 0 0 := by
  rcases h with ⟨_, h, _⟩ | ⟨h, _⟩
  · exact h
  · exact absurd h he
theorem ReadsAs.page {w w' : World} {v : Value} {err : Int} {t : ByteArray} (h : ReadsAs w w' v err t) (he : err = 0) : t.size = 384 ∧ ∃ b, w.heap.size ≤ b ∧ v = .slice (some ⟨b, 0, none⟩) 384 384 ∧ Blk w' b (bCells t.data.toList) 5 := by
  rcases h with ⟨h, _⟩ | ⟨_, h⟩
  · exact absurd he h
  · exact h

/-- All is new from B on: what stood below B stands. -/
def Since (B : Nat) (w w' : World) (F : List Nat) : Prop := Below B w w' ∧ B ≤ w'.heap.size ∧ ∀ k ∈ F, B ≤ k
theorem Since.moves {B : Nat} {w a b : World} {F F' : List Nat} (h : Since B w a F) (m : Moves F F' a b) : Since B w b F' :=
  ⟨h.1.trans (m.keep.below h.2.2 h.2.1), Nat.le_trans h.2.1 m.keep.size, fun k hk => by
    rcases m.foot k hk with h1 | h1
    · exact h.2.2 k h1
    · exact Nat.le_trans h.2.1 h1⟩
theorem Since.keep {B : Nat} {w a b : World} {F : List Nat} (h : Since B w a F) (m : Keep F a b) : Since B w b F := h.moves (Moves.of_keep m)
theorem Since.below {B : Nat} {w a b : World} {F : List Nat} (h : Since B w a F) (m : Below a.heap.size a b) : Since B w b F :=
  ⟨h.1.trans (m.mono h.2.1), Nat.le_trans h.2.1 m.size, h.2.2⟩
theorem Since.alloc {B : Nat} {w a : World} {F : List Nat} (h : Since B w a F) (o : Obj) : Since B w (a.alloc o) F := h.below ((Below.refl _ _).alloc (Nat.le_refl _) o)

def K0 : Dv := Dv.fresh 2
def K1 : Dv := K0.writeDo 0 ⟨[7].toArray⟩
def K2 : Dv := K1.flushDo
def K3 : Dv := K2.writeDo 0 ⟨[8].toArray⟩
def K4 : Dv := K3.readDo 0
def K5 : Dv := K4.crash [2]
def K6 : Dv := K5.readDo 0
def K7 : Dv := K6.on
def K8 : Dv := K7.readDo 0
def K9 : Dv := K8.readDo 1

theorem field42_0 (a b c e : Int) (W : World) : (Instr.field 48 (.agg #[.int .i64 a, .int .i64 b, .int .i64 c, .int .i64 e]) 0).run Try.prog W = .ok (.int .i64 a) W := by kernel_rfl
theorem field42_1 (a b c e : Int) (W : World) : (Instr.field 48 (.agg #[.int .i64 a, .int .i64 b, .int .i64 c, .int .i64 e]) 1).run Try.prog W = .ok (.int .i64 b) W := by kernel_rfl
theorem field42_2 (a b c e : Int) (W : World) : (Instr.field 48 (.agg #[.int .i64 a, .int .i64 b, .int .i64 c, .int .i64 e]) 2).run Try.prog W = .ok (.int .i64 c) W := by kernel_rfl
theorem field42_3 (a b c e : Int) (W : World) : (Instr.field 48 (.agg #[.int .i64 a, .int .i64 b, .int .i64 c, .int .i64 e]) 3).run Try.prog W = .ok (.int .i64 e) W := by kernel_rfl

theorem k9_losses : K9.losses = 2 := by
  have h : K9.losses = wrap64 (wrap64 (0 + 1) + 1) := rfl
  rw [h]; unfold wrap64; omega
theorem k9_cr : K9.cr = 1 := by
  have h : K9.cr = wrap64 (0 + 1) := rfl
  rw [h]; unfold wrap64; omega

theorem full8_0 : (bCells (full ⟨[8].toArray⟩).data.toList)[0]? = some (.int .u8 8) := by rw [full_data]; rfl
theorem full8_1 : (bCells (full ⟨[8].toArray⟩).data.toList)[1]? = some (.int .u8 0) := by
  rw [full_data, show (384 - (⟨[8].toArray⟩ : ByteArray).size) = 382 + 1 by rfl, List.replicate_succ]; rfl

set_option maxHeartbeats 2000000 in
theorem awake_any (w : World) : Calls Try.prog 5 #[] w fun e w' => e = .returned (.bool true) ∧ Below w.heap.size w w' := by
  go_enter Try.func5, Try.ntmps5
  go_wp2_with fail
  refine (new_at 2 (by decide) (by decide) _).mono ?_
  rintro e w1 ⟨d, F1, rfl, h1, f1, b1⟩
  have H1 := hide h1
  have FF1 := hide f1
  have Q1 : Hid (Since w.heap.size w w1 F1) := ⟨b1, b1.size, f1⟩
  clear h1 f1 b1
  go_wp2_with fail
  -- Write(0, {7})
  refine (write_at d F1 K0 0 (some ⟨w1.heap.size, 0, none⟩) 1 1 w1.heap.size [7] rfl _ (bs_one w1 7 7 rfl) (fun h => by cases h) (fun _ => not_old H1.out) (H1.out.alloc _)).mono ?_
  rintro e w2 ⟨rfl, F2, h2, m2⟩
  rw [show K0.writeErr 0 ⟨[7].toArray⟩ = 0 from rfl]
  have H2 : Hid (DvAt w2 d F2 K1) := h2
  have Q2 := hide ((Q1.out.alloc _).moves m2)
  clear h2 m2
  go_wp2_with fail
  -- Flush
  refine (flush_at d F2 K1 _ H2.out).mono ?_
  rintro e w3 ⟨rfl, F3, h3, m3⟩
  rw [show K1.flushErr = 0 from rfl]
  have H3 : Hid (DvAt w3 d F3 K2) := h3
  have Q3 := hide (Q2.out.moves m3)
  clear h3 m3
  go_wp2_with fail
  -- Write(0, {8})
  refine (write_at d F3 K2 0 (some ⟨w3.heap.size, 0, none⟩) 1 1 w3.heap.size [8] rfl _ (bs_one w3 8 8 rfl) (fun h => by cases h) (fun _ => not_old H3.out) (H3.out.alloc _)).mono ?_
  rintro e w4 ⟨rfl, F4, h4, m4⟩
  rw [show K2.writeErr 0 ⟨[8].toArray⟩ = 0 from rfl]
  have H4 : Hid (DvAt w4 d F4 K3) := h4
  have Q4 := hide ((Q3.out.alloc _).moves m4)
  clear h4 m4
  go_wp2_with fail
  -- Read(0)
  refine (read_at d F4 K3 0 _ H4.out).mono ?_
  rintro e w5 ⟨v, rfl, hr, h5, k5⟩
  rw [show K3.readErr 0 = 0 from rfl] at hr ⊢
  rw [show K3.readText 0 = full ⟨[8].toArray⟩ from rfl] at hr
  obtain ⟨_, b, hb, rfl, hbk⟩ := hr.page rfl
  have H5 : Hid (DvAt w5 d F4 K4) := h5
  have Q5 := hide (Q4.out.keep k5)
  have HB := hide hb
  have HBK := hide hbk
  clear h5 k5 hb hbk
  go_wp2_with fail
  -- Waiting
  refine (waiting_at d F4 K4 _ H5.out).mono ?_
  rintro e w6 ⟨rfl, hw6, b6⟩
  rw [show (wl 0 K4.cs).length = 1 from rfl]
  have HW6 : Hid (Blk w6 w5.heap.size [.int .i64 0] 3) := hw6
  have B6 := hide b6
  have Q6 := hide (Q5.out.below b6)
  clear hw6 b6
  go_wp2_with fail
  -- Copy
  refine (copy_at d F4 K4 _ (H5.out.below B6.out)).mono ?_
  rintro e w7 ⟨rfl, G7, h7, g7, b7⟩
  have H7 := hide h7
  have GG7 := hide g7
  have B7 := hide b7
  have Q7 := hide (Q6.out.below b7)
  clear h7 g7 b7
  go_wp2_with fail
  -- what lies apart from the first device, from here on: the page that was read, the list, the copy
  obtain ⟨G, hG⟩ : ∃ G, G = b :: w5.heap.size :: G7 := ⟨_, rfl⟩
  have hb4 : b ∉ F4 := fun hf => by have := H4.out.lt b hf; have := HB.out; omega
  have hb5 : b < w5.heap.size := HBK.out.lt
  have h56 : w5.heap.size < w6.heap.size := HW6.out.lt
  have AP : Hid (Apart w7 F4 G) := by
    intro k hk
    rw [hG] at hk
    rcases List.mem_cons.1 hk with rfl | hk
    · exact ⟨by have := B7.out.size; omega, hb4⟩
    · rcases List.mem_cons.1 hk with rfl | hk
      · exact ⟨by have := B7.out.size; omega, fun hf => by have := H5.out.lt _ hf; omega⟩
      · exact ⟨H7.out.lt k hk, fun hf => by have := H5.out.lt _ hf; have := GG7.out k hk; have := B6.out.size; omega⟩
  have H7d : Hid (DvAt w7 d F4 K4) := (H5.out.below B6.out).below B7.out
  have BK7 : Hid (Blk w7 b (bCells (full ⟨[8].toArray⟩).data.toList) 5) := (HBK.out.same (B6.out.block b hb5)).same (B7.out.block b (by omega))
  have WK7 : Hid (Blk w7 w5.heap.size [.int .i64 0] 3) := HW6.out.same (B7.out.block _ h56)
  have HG := hide hG
  clear hG
  -- Crash({2})
  refine (crash_at d F4 K4 (some ⟨w7.heap.size, 0, none⟩) 1 1 w7.heap.size [2] rfl (by decide) _ (bs_one w7 2 2 rfl) (fun _ => not_old H7d.out) (H7d.out.alloc _)).mono ?_
  rintro e w8 ⟨rfl, F8, h8, m8⟩
  have H8 : Hid (DvAt w8 d F8 K5) := h8
  have A8 := hide (m8.apart (AP.out.below ((Below.refl _ _).alloc (Nat.le_refl _) _)).1)
  have S8 : Hid (∀ k ∈ G, w8.heap[k]? = w7.heap[k]?) := fun k hk => (A8.out.2 k hk).trans ((AP.out.below ((Below.refl _ _).alloc (Nat.le_refl _) _)).2 k hk)
  have Q8 := hide ((Q7.out.alloc _).moves m8)
  clear h8 m8
  go_wp2_with fail
  -- Read(0)
  refine (read_at d F8 K5 0 _ H8.out).mono ?_
  rintro e w9 ⟨v9, rfl, hr9, h9, k9⟩
  rw [show K5.readErr 0 = 4 from rfl] at hr9 ⊢
  obtain rfl := hr9.nothing (by decide)
  have H9 : Hid (DvAt w9 d F8 K6) := h9
  have A9 := hide ((Moves.of_keep k9).apart A8.out.1)
  have Q9 := hide (Q8.out.keep k9)
  clear h9 k9
  go_wp2_with fail
  -- On
  refine (on_at d F8 K6 _ H9.out).mono ?_
  rintro e w10 ⟨rfl, F10, h10, m10⟩
  have H10 : Hid (DvAt w10 d F10 K7) := h10
  have A10 := hide (m10.apart A9.out.1)
  have Q10 := hide (Q9.out.moves m10)
  clear h10 m10
  go_wp2_with fail
  -- Read(0)
  refine (read_at d F10 K7 0 _ H10.out).mono ?_
  rintro e w11 ⟨v11, rfl, hr11, h11, k11⟩
  rw [show K7.readErr 0 = 6 from rfl] at hr11 ⊢
  obtain rfl := hr11.nothing (by decide)
  have H11 : Hid (DvAt w11 d F10 K8) := h11
  have A11 := hide ((Moves.of_keep k11).apart A10.out.1)
  have Q11 := hide (Q10.out.keep k11)
  clear h11 k11
  go_wp2_with fail
  -- Read(1)
  refine (read_at d F10 K8 1 _ H11.out).mono ?_
  rintro e w12 ⟨v12, rfl, hr12, h12, k12⟩
  rw [show K8.readErr 1 = 5 from rfl] at hr12 ⊢
  obtain rfl := hr12.nothing (by decide)
  have H12 : Hid (DvAt w12 d F10 K9) := h12
  have A12 := hide ((Moves.of_keep k12).apart A11.out.1)
  have Q12 := hide (Q11.out.keep k12)
  clear h12 k12
  have SA : Hid (∀ k ∈ G, w12.heap[k]? = w7.heap[k]?) := fun k hk => (A12.out.2 k hk).trans ((A11.out.2 k hk).trans ((A10.out.2 k hk).trans ((A9.out.2 k hk).trans (S8.out k hk))))
  have BK := BK7.out.same (SA.out b (by rw [HG.out]; simp))
  have WK := WK7.out.same (SA.out w5.heap.size (by rw [HG.out]; simp))
  have OK := hide (H7.out.same (fun k hk => SA.out k (by rw [HG.out]; simp [hk])))
  have x0 := BK.cell full8_0
  have x1 := BK.cell full8_1
  have x2 := WK.cell (i := 0) rfl
  clear BK WK
  have c15 := hide (losses_at d F10 K9 _ H12.out)
  have c15o := hide (losses_at w6.heap.size G7 K4 _ OK.out)
  have c14 := hide (power_at d F10 K9 _ H12.out)
  have c22 := hide (pages_at d F10 K9 _ H12.out)
  have c21 := hide (stat_at d F10 K9 _ H12.out)
  rw [k9_losses] at c15
  rw [show K4.losses = 0 from rfl] at c15o
  rw [show (!K9.off) = true from rfl] at c14
  rw [show (K9.cs.length : Int) = 2 from rfl] at c22
  rw [k9_cr] at c21
  go_wp2_with fail
  refine c15.out.mono ?_
  rintro e w' ⟨rfl, rfl⟩
  go_wp2_with fail
  refine c15o.out.mono ?_
  rintro e w' ⟨rfl, rfl⟩
  go_wp2_with fail
  refine c14.out.mono ?_
  rintro e w' ⟨rfl, rfl⟩
  go_wp2_with fail
  refine c22.out.mono ?_
  rintro e w' ⟨rfl, rfl⟩
  go_wp2_with fail
  refine c21.out.mono ?_
  rintro e w13 ⟨rfl, b13⟩
  have Q13 := hide (Q12.out.below b13)
  have OK13 := hide (OK.out.below b13)
  have fd := field42_3
  clear b13
  go_wp2_with fail
  refine (erase_at w6.heap.size G7 K4 1 _ OK13.out).mono ?_
  rintro e w14 ⟨rfl, G14, h14, m14⟩
  rw [show K4.putErr 1 = 0 from rfl]
  have hGB : ∀ k ∈ G7, w.heap.size ≤ k := fun k hk => Nat.le_trans Q6.out.2.1 (GG7.out k hk)
  have Q14 := hide (Q13.out.1.trans (m14.keep.below hGB Q13.out.2.1))
  clear m14 h14
  go_wp2
  go_ret
  exact ⟨rfl, Q14.out⟩
end Go.Proofs.Ythnfdgjikbjgoab
