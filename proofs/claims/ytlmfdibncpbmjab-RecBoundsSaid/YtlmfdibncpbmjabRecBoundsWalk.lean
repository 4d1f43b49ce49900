/-
  Proof of the law 'RecBounds'.
-/
import Derived.WalkKit
import Derived.Below
import Derived.Test.YtlmfdibncpbmjabTakeE
import Derived.Test.YtlmfdibncpbmjabAwake
import Derived.Test.YtlmfdibncpbmjabEq
import Derived.BigRegion
namespace Go.Proofs.Ytlmfdibncpbmjab.recBounds
open Go.RowKit Go.Deep
set_option linter.unusedVariables false
set_option linter.unusedSimpArgs false

theorem zeros_conv {W : World} {N k : Nat} (h : Blk W N (zc k) 5) : (convert 30 9 (.slice (some ⟨N, 0, none⟩) k k)).run Try.prog W = .ok (.string (txt (List.replicate k 0))) W := by
  have hb : Buf W N (List.replicate k 0) 0 := by
    unfold Buf
    rw [show bCells (List.replicate k 0) = zc k by simp [bCells, zc], show zc 0 = [] from rfl, List.append_nil]
    exact h
  exact str_bs (buf_bs hb (by simp) (Nat.le_refl _)) (fun h => by cases h)
theorem make_len (n : Nat) (hn : n ≤ 1048576) (W : World) : (Instr.makeSlice 30 (.int .i64 n) (.int .i64 n)).run Try.prog W = .ok (.slice (some ⟨W.heap.size, 0, none⟩) n n) (W.alloc (.cells (zc n).toArray 5)) := by
  obtain ⟨i0, hi0, hp0⟩ := Option.map_eq_some_iff.1 info5
  simp only [Prod.mk.injEq] at hp0
  obtain ⟨hz0, hz1, hz2⟩ := hp0
  have h := run_make (P := Try.prog) W 30 5 i0 _ Try.underlying30 hi0 hz0 .i64 .i64 (n : Int) (n : Int) (by omega) (by omega) (by rw [hz2]; omega) (by omega)
  rw [h]
  simp only [Int.toNat_natCast]
  congr 3
  apply Array.ext'
  rw [hz1, Nat.mul_one, show (Value.int IntKind.u8 0).cells = #[Value.int IntKind.u8 0] from rfl, toList_madeCells_one]
  rfl
theorem gen_world {R : World → Prop} {W0 : World} (P : World → Prop) (h : P W0) (k : ∀ W, P W → R W) : R W0 := k W0 h
theorem box3 (w1 : World) (o1 o2 : Obj) (L : List Value) (t : TypeId) : Blk (((w1.alloc o1).alloc o2).alloc (.cells L.toArray t)).drew (w1.heap.size + 2) L t := by
  have := Blk.new ((w1.alloc o1).alloc o2) L t
  simp only [nblk_alloc] at this
  exact this
theorem box2 (w1 : World) (o1 o2 : Obj) (L : List Value) (t : TypeId) : Blk (((w1.alloc o1).alloc (.cells L.toArray t)).alloc o2).drew (w1.heap.size + 1) L t := by
  have := (Blk.new (w1.alloc o1) L t).alloc o2
  simp only [nblk_alloc] at this
  exact this
theorem box1 (w1 : World) (o1 o2 : Obj) (L : List Value) (t : TypeId) : Blk (((w1.alloc (.cells L.toArray t)).alloc o1).alloc o2).drew w1.heap.size L t := ((Blk.new w1 L t).alloc o1).alloc o2
theorem below3 {w w1 : World} (h : Below w.heap.size w w1) (o1 o2 o3 : Obj) : Below w.heap.size w (((w1.alloc o1).alloc o2).alloc o3).drew := by
  have h1 := h.alloc h.size o1
  have h2 := h1.alloc h1.size o2
  exact (h2.alloc h2.size o3).drew
def BoxAt (w W : World) (N : Nat) (ks vs : ByteArray) (n : Int) : Prop := Blk W N [.string ks, .string vs, .int .u32 0, .int .i64 0, .int .u64 n] 28 ∧ Below w.heap.size w W ∧ w.heap.size ≤ N
theorem BoxAt.cells {w W : World} {N : Nat} {ks vs : ByteArray} {n : Int} (h : BoxAt w W N ks vs n) : W.cell? ⟨N, 0, none⟩ = some (.string ks) ∧ W.cell? ⟨N, 1, none⟩ = some (.string vs) ∧ W.cell? ⟨N, 2, none⟩ = some (.int .u32 0) ∧ W.cell? ⟨N, 3, none⟩ = some (.int .i64 0) ∧ W.cell? ⟨N, 4, none⟩ = some (.int .u64 n) :=
  ⟨h.1.cell rfl, h.1.cell rfl, h.1.cell rfl, h.1.cell rfl, h.1.cell rfl⟩
theorem BoxAt.next {w W W' : World} {N : Nat} {ks vs : ByteArray} {n : Int} (h : BoxAt w W N ks vs n) (b : Below W.heap.size W W') : BoxAt w W' N ks vs n :=
  ⟨h.1.same (b.block N h.1.lt), h.2.1.trans (b.mono h.2.1.size), h.2.2⟩
theorem BoxAt.more {w W : World} {N : Nat} {ks vs : ByteArray} {n : Int} (h : BoxAt w W N ks vs n) (o : Obj) : BoxAt w (W.alloc o) N ks vs n := h.next ((Below.refl _ _).alloc (Nat.le_refl _) o)
def zIt (k v n : Nat) : It := ⟨List.replicate k 0, List.replicate v 0, 0, 0, n⟩
theorem zIt_size (k v n : Nat) : (zIt k v n).size = 32 + k + v := by simp [zIt, It.size]
theorem zIt_fits (k v n : Nat) (h : n < 18446744073709551616) : (zIt k v n).fits := ⟨by simp [zIt], by simp [zIt], by simp [zIt], h⟩
theorem zIt_good (k v n : Nat) (h1 : 1 ≤ k) (h2 : k ≤ 250) (h3 : v ≤ 1024) (h4 : 0 < n) : (zIt k v n).good = true := by
  rw [It.good_iff]; simp [zIt]; exact ⟨h1, h2, h3, h4⟩
theorem put_z (k v n m : Nat) (ks vs : ByteArray) (hk : ks = txt (List.replicate k 0)) (hv : vs = txt (List.replicate v 0)) (hm : m = 32 + k + v) (hn : n < 18446744073709551616) (hg : (zIt k v n).good = true) (W : World) :
    Calls Try.prog 11 #[.agg #[.string ks, .string vs, .int .u32 0, .int .i64 0, .int .u64 n]] W fun e w' => ∃ g, e = .returned (.tuple #[.slice (some ⟨g, 0, none⟩) m m, .int .i64 0]) ∧ BS w' (some ⟨g, 0, none⟩) m m (zIt k v n).enc ∧ Below W.heap.size W w' := by
  rw [hk, hv]
  refine (put_ok (zIt k v n) (zIt_fits k v n hn) hg W).mono ?_
  rintro e w' ⟨g, rfl, _, h2, h3⟩
  rw [zIt_size, ← hm]
  exact ⟨g, rfl, buf_bs h2 (by rw [It.enc_length, zIt_size, hm]) (Nat.le_refl _), h3⟩
theorem take_z (k v n m : Nat) (ks vs : ByteArray) (hk : ks = txt (List.replicate k 0)) (hv : vs = txt (List.replicate v 0)) (hm : m = 32 + k + v) (hm2 : m ≤ 100000) (hn : n < 18446744073709551616) (hg : (zIt k v n).good = true) (W : World) (g : Nat) (h : BS W (some ⟨g, 0, none⟩) m m (zIt k v n).enc) :
    Calls Try.prog 13 #[.slice (some ⟨g, 0, none⟩) m m] W fun e w' => e = .returned (.tuple #[.agg #[.string ks, .string vs, .int .u32 0, .int .i64 0, .int .u64 n], .int .i64 m, .int .i64 0]) ∧ Below W.heap.size W w' := by
  refine (take_is _ _ _ _ (by omega) W h).mono ?_
  rintro e w' ⟨rfl, h3⟩
  refine ⟨?_, h3⟩
  have := take_rec (zIt k v n) (zIt_fits k v n hn) hg []
  rw [List.append_nil] at this
  rw [this, hk, hv, hm, ← zIt_size k v n]
  rfl
set_option maxRecDepth 4000 in
set_option maxHeartbeats 30000000 in
theorem walk (a0 : Int) (a1 : Int) (a2 : Int) (w : World) (hw0 : (Lit.int .i64 a0).wf = true) (hw1 : (Lit.int .i64 a1).wf = true) (hw2 : (Lit.int .u64 a2).wf = true) :
    Calls Try.prog 4 #[.int .i64 a0, .int .i64 a1, .int .u64 a2] w fun e w' => e = .returned (.bool true) ∧ Below w.heap.size w w' := by
  have ca := hide (awake_any take_is)
  go_enter Try.func4, Try.ntmps4
  go_wp2_with fail
  refine (ca.out _).mono ?_
  rintro r w1 ⟨rfl, h1⟩
  have B := hide h1
  clear h1
  by_cases hk0 : a0 < 0
  · go_wp2
    go_ret
    exact ⟨rfl, B.out⟩
  by_cases hk1 : 300 < a0
  · go_wp2
    go_ret
    exact ⟨rfl, B.out⟩
  by_cases hv0 : a1 < 0
  · go_wp2
    go_ret
    exact ⟨rfl, B.out⟩
  by_cases hv1 : 1200 < a1
  · go_wp2
    go_ret
    exact ⟨rfl, B.out⟩
  obtain ⟨nv, rfl⟩ : ∃ nv : Nat, a2 = (nv : Int) := ⟨a2.toNat, by have := wf_u64 hw2; omega⟩
  have hn64 : nv < 18446744073709551616 := by have := wf_u64 hw2; omega
  obtain ⟨k, rfl⟩ : ∃ k : Nat, a0 = (k : Int) := ⟨a0.toNat, by omega⟩
  obtain ⟨v, rfl⟩ : ∃ v : Nat, a1 = (v : Int) := ⟨a1.toNat, by omega⟩
  have hk : k ≤ 300 := by omega
  have hv : v ≤ 1200 := by omega
  have mk := make_len k (by omega)
  have mv := make_len v (by omega)
  have cK : Hid (∀ W N, Blk W N (zc k) 5 → (convert 30 9 (.slice (some ⟨N, 0, none⟩) k k)).run Try.prog W = .ok (.string (txt (List.replicate k 0))) W) := fun W N h => zeros_conv h
  have cV : Hid (∀ W N, Blk W N (zc v) 5 → (convert 30 9 (.slice (some ⟨N, 0, none⟩) v v)).run Try.prog W = .ok (.string (txt (List.replicate v 0))) W) := fun W N h => zeros_conv h
  obtain ⟨KK, hKK⟩ : ∃ KK, KK = (zc k).toArray := ⟨_, rfl⟩
  obtain ⟨VV, hVV⟩ : ∃ VV, VV = (zc v).toArray := ⟨_, rfl⟩
  rw [← hKK] at mk
  rw [← hVV] at mv
  have blkK : Hid (∀ (W : World) N, N = W.heap.size → Blk (W.alloc (.cells KK 5)) N (zc k) 5) := fun W N h => by rw [hKK, h]; exact Blk.new W (zc k) 5
  have blkV : Hid (∀ (W : World) N, N = W.heap.size → Blk (W.alloc (.cells VV 5)) N (zc v) 5) := fun W N h => by rw [hVV, h]; exact Blk.new W (zc v) 5
  clear hKK hVV
  have sks : (txt (List.replicate k 0)).size = k := by rw [txt_size, List.length_replicate]
  have svs : (txt (List.replicate v 0)).size = v := by rw [txt_size, List.length_replicate]
  have SK := hide sks
  have SV := hide svs
  clear sks svs
  obtain ⟨ks, KS⟩ : ∃ ks, Hid (ks = txt (List.replicate k 0)) := ⟨_, rfl⟩
  obtain ⟨vs, VS⟩ : ∃ vs, Hid (vs = txt (List.replicate v 0)) := ⟨_, rfl⟩
  rw [← KS.out] at cK SK
  rw [← VS.out] at cV SV
  have e0 : (convert 30 9 (.slice (some ⟨w1.heap.size, 0, none⟩) k k)).run Try.prog (w1.alloc (.cells KK 5)).drew = .ok (.string ks) (w1.alloc (.cells KK 5)).drew := cK.out _ _ (show Blk _ _ _ _ from (blkK.out w1 _ (by rfl)))
  have e1 : (convert 30 9 (.slice (some ⟨w1.heap.size, 0, none⟩) v v)).run Try.prog (w1.alloc (.cells VV 5)).drew = .ok (.string vs) (w1.alloc (.cells VV 5)).drew := cV.out _ _ (show Blk _ _ _ _ from (blkV.out w1 _ (by rfl)))
  have e2 : (convert 30 9 (.slice (some ⟨w1.heap.size, 0, none⟩) k k)).run Try.prog ((w1.alloc (.cells KK 5)).alloc (.cells VV 5)).drew = .ok (.string ks) ((w1.alloc (.cells KK 5)).alloc (.cells VV 5)).drew := cK.out _ _ (show Blk _ _ _ _ from ((blkK.out w1 _ (by rfl)).alloc _))
  have e3 : (convert 30 9 (.slice (some ⟨w1.heap.size + 1, 0, none⟩) v v)).run Try.prog ((w1.alloc (.cells KK 5)).alloc (.cells VV 5)).drew = .ok (.string vs) ((w1.alloc (.cells KK 5)).alloc (.cells VV 5)).drew := cV.out _ _ (show Blk _ _ _ _ from (blkV.out (w1.alloc (.cells KK 5)) _ (by simp only [nblk_alloc])))
  have e4 : (convert 30 9 (.slice (some ⟨w1.heap.size, 0, none⟩) k k)).run Try.prog ((w1.alloc (.cells KK 5)).alloc (.cells #[.string ⟨#[]⟩, .string ⟨#[]⟩, .int .u32 0, .int .i64 0, .int .u64 0] 28)).drew = .ok (.string ks) ((w1.alloc (.cells KK 5)).alloc (.cells #[.string ⟨#[]⟩, .string ⟨#[]⟩, .int .u32 0, .int .i64 0, .int .u64 0] 28)).drew := cK.out _ _ (show Blk _ _ _ _ from ((blkK.out w1 _ (by rfl)).alloc _))
  have e5 : (convert 30 9 (.slice (some ⟨w1.heap.size + 1, 0, none⟩) k k)).run Try.prog ((w1.alloc (.cells VV 5)).alloc (.cells KK 5)).drew = .ok (.string ks) ((w1.alloc (.cells VV 5)).alloc (.cells KK 5)).drew := cK.out _ _ (show Blk _ _ _ _ from (blkK.out (w1.alloc (.cells VV 5)) _ (by simp only [nblk_alloc])))
  have e6 : (convert 30 9 (.slice (some ⟨w1.heap.size, 0, none⟩) v v)).run Try.prog ((w1.alloc (.cells VV 5)).alloc (.cells KK 5)).drew = .ok (.string vs) ((w1.alloc (.cells VV 5)).alloc (.cells KK 5)).drew := cV.out _ _ (show Blk _ _ _ _ from ((blkV.out w1 _ (by rfl)).alloc _))
  have e7 : (convert 30 9 (.slice (some ⟨w1.heap.size, 0, none⟩) v v)).run Try.prog ((w1.alloc (.cells VV 5)).alloc (.cells #[.string ⟨#[]⟩, .string ⟨#[]⟩, .int .u32 0, .int .i64 0, .int .u64 0] 28)).drew = .ok (.string vs) ((w1.alloc (.cells VV 5)).alloc (.cells #[.string ⟨#[]⟩, .string ⟨#[]⟩, .int .u32 0, .int .i64 0, .int .u64 0] 28)).drew := cV.out _ _ (show Blk _ _ _ _ from ((blkV.out w1 _ (by rfl)).alloc _))
  have e8 : (convert 30 9 (.slice (some ⟨w1.heap.size + 1, 0, none⟩) k k)).run Try.prog ((w1.alloc (.cells #[.string ⟨#[]⟩, .string ⟨#[]⟩, .int .u32 0, .int .i64 0, .int .u64 0] 28)).alloc (.cells KK 5)).drew = .ok (.string ks) ((w1.alloc (.cells #[.string ⟨#[]⟩, .string ⟨#[]⟩, .int .u32 0, .int .i64 0, .int .u64 0] 28)).alloc (.cells KK 5)).drew := cK.out _ _ (show Blk _ _ _ _ from (blkK.out (w1.alloc (.cells #[.string ⟨#[]⟩, .string ⟨#[]⟩, .int .u32 0, .int .i64 0, .int .u64 0] 28)) _ (by simp only [nblk_alloc])))
  have e9 : (convert 30 9 (.slice (some ⟨w1.heap.size + 1, 0, none⟩) v v)).run Try.prog ((w1.alloc (.cells #[.string ⟨#[]⟩, .string ⟨#[]⟩, .int .u32 0, .int .i64 0, .int .u64 0] 28)).alloc (.cells VV 5)).drew = .ok (.string vs) ((w1.alloc (.cells #[.string ⟨#[]⟩, .string ⟨#[]⟩, .int .u32 0, .int .i64 0, .int .u64 0] 28)).alloc (.cells VV 5)).drew := cV.out _ _ (show Blk _ _ _ _ from (blkV.out (w1.alloc (.cells #[.string ⟨#[]⟩, .string ⟨#[]⟩, .int .u32 0, .int .i64 0, .int .u64 0] 28)) _ (by simp only [nblk_alloc])))
  have e10 : (convert 30 9 (.slice (some ⟨w1.heap.size, 0, none⟩) k k)).run Try.prog (((w1.alloc (.cells KK 5)).alloc (.cells VV 5)).alloc (.cells #[.string ⟨#[]⟩, .string ⟨#[]⟩, .int .u32 0, .int .i64 0, .int .u64 0] 28)).drew = .ok (.string ks) (((w1.alloc (.cells KK 5)).alloc (.cells VV 5)).alloc (.cells #[.string ⟨#[]⟩, .string ⟨#[]⟩, .int .u32 0, .int .i64 0, .int .u64 0] 28)).drew := cK.out _ _ (show Blk _ _ _ _ from (((blkK.out w1 _ (by rfl)).alloc _).alloc _))
  have e11 : (convert 30 9 (.slice (some ⟨w1.heap.size + 1, 0, none⟩) v v)).run Try.prog (((w1.alloc (.cells KK 5)).alloc (.cells VV 5)).alloc (.cells #[.string ⟨#[]⟩, .string ⟨#[]⟩, .int .u32 0, .int .i64 0, .int .u64 0] 28)).drew = .ok (.string vs) (((w1.alloc (.cells KK 5)).alloc (.cells VV 5)).alloc (.cells #[.string ⟨#[]⟩, .string ⟨#[]⟩, .int .u32 0, .int .i64 0, .int .u64 0] 28)).drew := cV.out _ _ (show Blk _ _ _ _ from ((blkV.out (w1.alloc (.cells KK 5)) _ (by simp only [nblk_alloc])).alloc _))
  have e12 : (convert 30 9 (.slice (some ⟨w1.heap.size, 0, none⟩) k k)).run Try.prog (((w1.alloc (.cells KK 5)).alloc (.cells #[.string ⟨#[]⟩, .string ⟨#[]⟩, .int .u32 0, .int .i64 0, .int .u64 0] 28)).alloc (.cells VV 5)).drew = .ok (.string ks) (((w1.alloc (.cells KK 5)).alloc (.cells #[.string ⟨#[]⟩, .string ⟨#[]⟩, .int .u32 0, .int .i64 0, .int .u64 0] 28)).alloc (.cells VV 5)).drew := cK.out _ _ (show Blk _ _ _ _ from (((blkK.out w1 _ (by rfl)).alloc _).alloc _))
  have e13 : (convert 30 9 (.slice (some ⟨w1.heap.size + 2, 0, none⟩) v v)).run Try.prog (((w1.alloc (.cells KK 5)).alloc (.cells #[.string ⟨#[]⟩, .string ⟨#[]⟩, .int .u32 0, .int .i64 0, .int .u64 0] 28)).alloc (.cells VV 5)).drew = .ok (.string vs) (((w1.alloc (.cells KK 5)).alloc (.cells #[.string ⟨#[]⟩, .string ⟨#[]⟩, .int .u32 0, .int .i64 0, .int .u64 0] 28)).alloc (.cells VV 5)).drew := cV.out _ _ (show Blk _ _ _ _ from (blkV.out ((w1.alloc (.cells KK 5)).alloc (.cells #[.string ⟨#[]⟩, .string ⟨#[]⟩, .int .u32 0, .int .i64 0, .int .u64 0] 28)) _ (by simp only [nblk_alloc])))
  have e14 : (convert 30 9 (.slice (some ⟨w1.heap.size + 1, 0, none⟩) k k)).run Try.prog (((w1.alloc (.cells VV 5)).alloc (.cells KK 5)).alloc (.cells #[.string ⟨#[]⟩, .string ⟨#[]⟩, .int .u32 0, .int .i64 0, .int .u64 0] 28)).drew = .ok (.string ks) (((w1.alloc (.cells VV 5)).alloc (.cells KK 5)).alloc (.cells #[.string ⟨#[]⟩, .string ⟨#[]⟩, .int .u32 0, .int .i64 0, .int .u64 0] 28)).drew := cK.out _ _ (show Blk _ _ _ _ from ((blkK.out (w1.alloc (.cells VV 5)) _ (by simp only [nblk_alloc])).alloc _))
  have e15 : (convert 30 9 (.slice (some ⟨w1.heap.size, 0, none⟩) v v)).run Try.prog (((w1.alloc (.cells VV 5)).alloc (.cells KK 5)).alloc (.cells #[.string ⟨#[]⟩, .string ⟨#[]⟩, .int .u32 0, .int .i64 0, .int .u64 0] 28)).drew = .ok (.string vs) (((w1.alloc (.cells VV 5)).alloc (.cells KK 5)).alloc (.cells #[.string ⟨#[]⟩, .string ⟨#[]⟩, .int .u32 0, .int .i64 0, .int .u64 0] 28)).drew := cV.out _ _ (show Blk _ _ _ _ from (((blkV.out w1 _ (by rfl)).alloc _).alloc _))
  have e16 : (convert 30 9 (.slice (some ⟨w1.heap.size + 2, 0, none⟩) k k)).run Try.prog (((w1.alloc (.cells VV 5)).alloc (.cells #[.string ⟨#[]⟩, .string ⟨#[]⟩, .int .u32 0, .int .i64 0, .int .u64 0] 28)).alloc (.cells KK 5)).drew = .ok (.string ks) (((w1.alloc (.cells VV 5)).alloc (.cells #[.string ⟨#[]⟩, .string ⟨#[]⟩, .int .u32 0, .int .i64 0, .int .u64 0] 28)).alloc (.cells KK 5)).drew := cK.out _ _ (show Blk _ _ _ _ from (blkK.out ((w1.alloc (.cells VV 5)).alloc (.cells #[.string ⟨#[]⟩, .string ⟨#[]⟩, .int .u32 0, .int .i64 0, .int .u64 0] 28)) _ (by simp only [nblk_alloc])))
  have e17 : (convert 30 9 (.slice (some ⟨w1.heap.size, 0, none⟩) v v)).run Try.prog (((w1.alloc (.cells VV 5)).alloc (.cells #[.string ⟨#[]⟩, .string ⟨#[]⟩, .int .u32 0, .int .i64 0, .int .u64 0] 28)).alloc (.cells KK 5)).drew = .ok (.string vs) (((w1.alloc (.cells VV 5)).alloc (.cells #[.string ⟨#[]⟩, .string ⟨#[]⟩, .int .u32 0, .int .i64 0, .int .u64 0] 28)).alloc (.cells KK 5)).drew := cV.out _ _ (show Blk _ _ _ _ from (((blkV.out w1 _ (by rfl)).alloc _).alloc _))
  have e18 : (convert 30 9 (.slice (some ⟨w1.heap.size + 1, 0, none⟩) k k)).run Try.prog (((w1.alloc (.cells #[.string ⟨#[]⟩, .string ⟨#[]⟩, .int .u32 0, .int .i64 0, .int .u64 0] 28)).alloc (.cells KK 5)).alloc (.cells VV 5)).drew = .ok (.string ks) (((w1.alloc (.cells #[.string ⟨#[]⟩, .string ⟨#[]⟩, .int .u32 0, .int .i64 0, .int .u64 0] 28)).alloc (.cells KK 5)).alloc (.cells VV 5)).drew := cK.out _ _ (show Blk _ _ _ _ from ((blkK.out (w1.alloc (.cells #[.string ⟨#[]⟩, .string ⟨#[]⟩, .int .u32 0, .int .i64 0, .int .u64 0] 28)) _ (by simp only [nblk_alloc])).alloc _))
  have e19 : (convert 30 9 (.slice (some ⟨w1.heap.size + 2, 0, none⟩) v v)).run Try.prog (((w1.alloc (.cells #[.string ⟨#[]⟩, .string ⟨#[]⟩, .int .u32 0, .int .i64 0, .int .u64 0] 28)).alloc (.cells KK 5)).alloc (.cells VV 5)).drew = .ok (.string vs) (((w1.alloc (.cells #[.string ⟨#[]⟩, .string ⟨#[]⟩, .int .u32 0, .int .i64 0, .int .u64 0] 28)).alloc (.cells KK 5)).alloc (.cells VV 5)).drew := cV.out _ _ (show Blk _ _ _ _ from (blkV.out ((w1.alloc (.cells #[.string ⟨#[]⟩, .string ⟨#[]⟩, .int .u32 0, .int .i64 0, .int .u64 0] 28)).alloc (.cells KK 5)) _ (by simp only [nblk_alloc])))
  have e20 : (convert 30 9 (.slice (some ⟨w1.heap.size + 2, 0, none⟩) k k)).run Try.prog (((w1.alloc (.cells #[.string ⟨#[]⟩, .string ⟨#[]⟩, .int .u32 0, .int .i64 0, .int .u64 0] 28)).alloc (.cells VV 5)).alloc (.cells KK 5)).drew = .ok (.string ks) (((w1.alloc (.cells #[.string ⟨#[]⟩, .string ⟨#[]⟩, .int .u32 0, .int .i64 0, .int .u64 0] 28)).alloc (.cells VV 5)).alloc (.cells KK 5)).drew := cK.out _ _ (show Blk _ _ _ _ from (blkK.out ((w1.alloc (.cells #[.string ⟨#[]⟩, .string ⟨#[]⟩, .int .u32 0, .int .i64 0, .int .u64 0] 28)).alloc (.cells VV 5)) _ (by simp only [nblk_alloc])))
  have e21 : (convert 30 9 (.slice (some ⟨w1.heap.size + 1, 0, none⟩) v v)).run Try.prog (((w1.alloc (.cells #[.string ⟨#[]⟩, .string ⟨#[]⟩, .int .u32 0, .int .i64 0, .int .u64 0] 28)).alloc (.cells VV 5)).alloc (.cells KK 5)).drew = .ok (.string vs) (((w1.alloc (.cells #[.string ⟨#[]⟩, .string ⟨#[]⟩, .int .u32 0, .int .i64 0, .int .u64 0] 28)).alloc (.cells VV 5)).alloc (.cells KK 5)).drew := cV.out _ _ (show Blk _ _ _ _ from ((blkV.out (w1.alloc (.cells #[.string ⟨#[]⟩, .string ⟨#[]⟩, .int .u32 0, .int .i64 0, .int .u64 0] 28)) _ (by simp only [nblk_alloc])).alloc _))
  clear cK cV blkK blkV
  go_wp2_with fail
  go_region
  all_goals clear e0 e1 e2 e3 e4 e5 e6 e7 e8 e9 e10 e11 e12 e13 e14 e15 e16 e17 e18 e19 e20 e21 mk mv hk0 hk1 hv0 hv1 ca
  all_goals first
    | refine gen_world (fun W => BoxAt w W (w1.heap.size + 1 + 1) ks vs nv) ⟨box3 w1 _ _ [.string ks, .string vs, .int .u32 0, .int .i64 0, .int .u64 nv] 28, below3 B.out _ _ _, by have := B.out.size; omega⟩ ?_
    | refine gen_world (fun W => BoxAt w W (w1.heap.size + 1) ks vs nv) ⟨box2 w1 _ _ [.string ks, .string vs, .int .u32 0, .int .i64 0, .int .u64 nv] 28, below3 B.out _ _ _, by have := B.out.size; omega⟩ ?_
    | refine gen_world (fun W => BoxAt w W w1.heap.size ks vs nv) ⟨box1 w1 _ _ [.string ks, .string vs, .int .u32 0, .int .i64 0, .int .u64 nv] 28, below3 B.out _ _ _, by have := B.out.size; omega⟩ ?_
  all_goals (
    intro W hW
    have X := hide hW
    obtain ⟨f0, f1, f2, f3, f4⟩ := hW.cells
    clear hW B)
  all_goals (
    have HM : Hid (mayBe ks.size vs.size nv = mayBe k v nv) := by show _ = _; rw [SK.out, SV.out]
    by_cases h1 : 1 ≤ k
    · have i1 : ((1 : Int) ≤ (k : Int)) = True := eq_true (by omega)
      by_cases h2 : k ≤ 250
      · have i2 : ((k : Int) ≤ 250) = True := eq_true (by omega)
        by_cases h3 : v ≤ 1024
        · have i3 : ((v : Int) ≤ 1024) = True := eq_true (by omega)
          by_cases h4 : 0 < nv
          · have i4 : (0 < nv) = True := eq_true (by omega)
            have hgd := zIt_good k v nv h1 h2 h3 h4
            obtain ⟨m, hm⟩ : ∃ m, m = 32 + k + v := ⟨_, rfl⟩
            have hmI : ((m : Int) = 32 + (k : Int) + (v : Int)) = True := eq_true (by omega)
            have hmB := hide (show (((m : Int) == 32 + (k : Int) + (v : Int)) = true) by rw [beq_iff_eq]; omega)
            have cp := hide (put_z k v nv m ks vs KS.out VS.out hm hn64 hgd)
            have ct := hide (take_z k v nv m ks vs KS.out VS.out hm (by omega) hn64 hgd)
            clear h1 h2 h3 h4 hgd hm
            go_wp2_with fail
            refine (cp.out _).mono ?_
            rintro r w2 ⟨g, rfl, sx, hx⟩
            replace X := hide (X.out.next hx)
            have SX := hide sx
            clear hx f0 f1 f2 f3 f4 sx
            obtain ⟨f0, f1, f2, f3, f4⟩ := X.out.cells
            go_wp2_with fail
            refine (ct.out _ _ SX.out).mono ?_
            rintro r w3 ⟨rfl, hx⟩
            replace X := hide (X.out.next hx)
            clear hx f0 f1 f2 f3 f4
            replace X := hide (X.out.more (.cells #[.string ks, .string vs, .int .u32 0, .int .i64 0, .int .u64 nv] 28))
            obtain ⟨f0, f1, f2, f3, f4⟩ := X.out.cells
            go_wp2_with fail
            go_ret
            exact ⟨congrArg (fun b => Ending.returned (Value.bool b)) hmB.out, X.out.2.1⟩
          · have i4 : (0 < nv) = False := eq_false (by omega)
            have hm : mayBe ks.size vs.size nv = false := by rw [HM.out]; simp [mayBe, h4]
            have cb := hide (put_bad ks vs 0 0 nv hm)
            have cg := hide (good_any ks vs 0 0 nv)
            rw [hm] at cg
            unfold itV at cb cg
            clear h4 hm
            go_wp2_with fail
            refine (cb.out _).mono ?_
            rintro r w2 ⟨rfl, hx⟩
            replace X := hide (X.out.next hx)
            clear hx f0 f1 f2 f3 f4
            obtain ⟨f0, f1, f2, f3, f4⟩ := X.out.cells
            go_wp2_with fail
            refine (cg.out _).mono ?_
            rintro r w3 ⟨rfl, hx⟩
            replace X := hide (X.out.next hx)
            go_wp2_with fail
            go_ret
            exact ⟨rfl, X.out.2.1⟩
        · have i3 : ((v : Int) ≤ 1024) = False := eq_false (by omega)
          have hm : mayBe ks.size vs.size nv = false := by rw [HM.out]; simp [mayBe, h3]
          have cb := hide (put_bad ks vs 0 0 nv hm)
          have cg := hide (good_any ks vs 0 0 nv)
          rw [hm] at cg
          unfold itV at cb cg
          clear h3 hm
          go_wp2_with fail
          refine (cb.out _).mono ?_
          rintro r w2 ⟨rfl, hx⟩
          replace X := hide (X.out.next hx)
          clear hx f0 f1 f2 f3 f4
          obtain ⟨f0, f1, f2, f3, f4⟩ := X.out.cells
          go_wp2_with fail
          refine (cg.out _).mono ?_
          rintro r w3 ⟨rfl, hx⟩
          replace X := hide (X.out.next hx)
          go_wp2_with fail
          go_ret
          exact ⟨rfl, X.out.2.1⟩
      · have i2 : ((k : Int) ≤ 250) = False := eq_false (by omega)
        have hm : mayBe ks.size vs.size nv = false := by rw [HM.out]; simp [mayBe, h2]
        have cb := hide (put_bad ks vs 0 0 nv hm)
        have cg := hide (good_any ks vs 0 0 nv)
        rw [hm] at cg
        unfold itV at cb cg
        clear h2 hm
        go_wp2_with fail
        refine (cb.out _).mono ?_
        rintro r w2 ⟨rfl, hx⟩
        replace X := hide (X.out.next hx)
        clear hx f0 f1 f2 f3 f4
        obtain ⟨f0, f1, f2, f3, f4⟩ := X.out.cells
        go_wp2_with fail
        refine (cg.out _).mono ?_
        rintro r w3 ⟨rfl, hx⟩
        replace X := hide (X.out.next hx)
        go_wp2_with fail
        go_ret
        exact ⟨rfl, X.out.2.1⟩
    · have i1 : ((1 : Int) ≤ (k : Int)) = False := eq_false (by omega)
      have hm : mayBe ks.size vs.size nv = false := by rw [HM.out]; simp [mayBe, h1]
      have cb := hide (put_bad ks vs 0 0 nv hm)
      have cg := hide (good_any ks vs 0 0 nv)
      rw [hm] at cg
      unfold itV at cb cg
      clear h1 hm
      go_wp2_with fail
      refine (cb.out _).mono ?_
      rintro r w2 ⟨rfl, hx⟩
      replace X := hide (X.out.next hx)
      clear hx f0 f1 f2 f3 f4
      obtain ⟨f0, f1, f2, f3, f4⟩ := X.out.cells
      go_wp2_with fail
      refine (cg.out _).mono ?_
      rintro r w3 ⟨rfl, hx⟩
      replace X := hide (X.out.next hx)
      go_wp2_with fail
      go_ret
      exact ⟨rfl, X.out.2.1⟩)
end Go.Proofs.Ytlmfdibncpbmjab.recBounds
