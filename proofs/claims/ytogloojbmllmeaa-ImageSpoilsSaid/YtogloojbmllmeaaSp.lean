/- A page of an image, spoilt. -/
import Derived.Test.YtogloojbmllmeaaLs
set_option linter.unusedVariables false
set_option linter.unusedSimpArgs false
set_option maxRecDepth 8000
namespace Go.Proofs.Ytogloojbmllmeaa
open Go.RowKit Go.Deep Math

theorem and3 (z : Int) : 0 ≤ bits .and .i64 z 3 ∧ bits .and .i64 z 3 ≤ 3 := by
  have h : (BitVec.ofInt 64 z &&& BitVec.ofInt 64 3).toNat ≤ 3 := by
    rw [BitVec.toNat_and]
    exact Nat.le_trans Nat.and_le_right (by decide)
  have e : bits .and .i64 z 3 = IntKind.i64.wrap ((BitVec.ofInt 64 z &&& BitVec.ofInt 64 3).toNat : Int) := rfl
  rw [e, IntKind.wrap_i64]
  omega
theorem and3_four (z : Int) : bits .and .i64 z 3 = 0 ∨ bits .and .i64 z 3 = 1 ∨ bits .and .i64 z 3 = 2 ∨ bits .and .i64 z 3 = 3 := by
  have := and3 z; omega
theorem xor8 (x : UInt8) : bits .xor .u8 (x.toNat : Int) 1 = ((x ^^^ 1).toNat : Int) := by
  have e : bits .xor .u8 (x.toNat : Int) 1 = IntKind.u8.wrap ((BitVec.ofInt 8 (x.toNat : Int) ^^^ BitVec.ofInt 8 1).toNat : Int) := rfl
  have hx := x.toNat_lt
  have h1 : (BitVec.ofInt 8 (x.toNat : Int)).toNat = x.toNat := by
    rw [BitVec.toNat_ofInt]
    omega
  have h2 : (BitVec.ofInt 8 1).toNat = 1 := by decide
  have h3 : (x ^^^ 1).toNat = x.toNat ^^^ 1 := UInt8.toNat_xor x 1
  have h4 := (x ^^^ 1).toNat_lt
  rw [e, BitVec.toNat_xor, h1, h2, ← h3]
  show ((x ^^^ 1).toNat : Int) % 256 = _
  omega
theorem xor8_ne (x : UInt8) : x ^^^ 1 ≠ x := by
  intro h
  have h1 : x ^^^ (x ^^^ 1) = x ^^^ x := by rw [h]
  rw [← UInt8.xor_assoc, UInt8.xor_self, UInt8.zero_xor] at h1
  exact absurd h1 (by decide)

theorem up_inj : ∀ (a b : List UInt8), a.length = b.length → up a = up b → a = b
  | [], [], _, _ => rfl
  | [], _ :: _, h, _ => by simp at h
  | _ :: _, [], h, _ => by simp at h
  | x :: a, y :: b, h, e => by
    simp only [up] at e
    have hx := x.toNat_lt
    have hy := y.toNat_lt
    have h1 : x.toNat = y.toNat := by omega
    have h2 : up a = up b := by omega
    rw [UInt8.toNat_inj.1 h1, up_inj a b (by simpa using h) h2]
theorem imP_other (l : List UInt8) (hl : l.length = 384) (k : Nat) (p : List UInt8) (hp : imP l k = some p) (v : UInt8) (hv : l.getD 4 0 ≠ v) : imP (l.set 4 v) k = none := by
  unfold imP at hp ⊢
  split at hp
  · rename_i h
    rw [if_neg]
    rintro ⟨_, _, h4⟩
    rw [← h.2.2] at h4
    have e2 := up_inj _ _ (by unfold sl; simp) h4
    have e3 := congrArg (fun q => q[0]?) e2
    simp only [sl, List.getElem?_drop] at e3
    rw [List.getElem?_take_of_lt (by omega), List.getElem?_take_of_lt (by omega), List.getElem?_set_self (by omega)] at e3
    rw [List.getD_eq_getElem?_getD] at hv
    exact hv (by rw [show 4 = 4 + 0 from rfl, ← e3]; rfl)
  · cases hp
theorem imP_bare (l : List UInt8) (hl : l.length = 384) (k : Nat) : imP (l.set 0 0) k = none := by
  unfold imP
  rw [if_neg]
  rintro ⟨h, _, _⟩
  have e3 := congrArg (fun q => q[0]?) h
  simp only [sl, List.getElem?_drop] at e3
  rw [List.getElem?_take_of_lt (by omega), List.getElem?_set_self (by omega)] at e3
  simp at e3

theorem blk_bs {w : World} {g : Nat} {l : List UInt8} (hb : Blk w g (bCells l) 5) (hl : l.length = 384) : BS w (some ⟨g, 0, none⟩) 384 384 l := by
  have hb2 : Buf w g l 0 := by unfold Buf; rw [show zc 0 = [] from rfl, List.append_nil]; exact hb
  exact BS.mk' hl.symm (Nat.le_refl _) (by have := hb2.reads 0; rwa [List.drop_zero] at this)
theorem poke {w0 w : World} {d g : Nat} {F : List Nat} {S : Dv} {l : List UInt8} (L : Lw w0 w d F S) (hb : Blk w g (bCells l) 5) (hg : g ∉ F) (h0 : w0.heap.size ≤ g) (i : Nat) (v : UInt8) :
    Lw w0 (w.setCell ⟨g, i, none⟩ (.int .u8 (v.toNat : Int))) d F S ∧ Blk (w.setCell ⟨g, i, none⟩ (.int .u8 (v.toNat : Int))) g (bCells (l.set i v)) 5 := by
  have K : Keep [g] w (w.setCell ⟨g, i, none⟩ (.int .u8 (v.toNat : Int))) := (Keep.refl [g] w).setCell (.inl (by simp)) _
  refine ⟨⟨L.dev.same (fun k hk => blk_setCell_other _ _ _ _ (fun e => hg (by rw [← show k = g from e]; exact hk))), L.bel.trans (K.below (fun k hk => ?_) L.bel.size), L.new⟩, ?_⟩
  · simp only [List.mem_singleton] at hk
    omega
  · have := hb.set i (.int .u8 (v.toNat : Int))
    have e : (bCells l).set i (.int .u8 (v.toNat : Int)) = bCells (l.set i v) := by simp [bCells, List.map_set]
    rwa [e] at this

theorem bget (l : List UInt8) (i : Nat) (hl : l.length = 384) (hi : i < 384) : (bCells l)[i]? = some (.int .u8 ((l.getD i 0).toNat : Int)) := by
  simp [bCells, List.getD_eq_getElem?_getD, List.getElem?_eq_getElem (show i < l.length by omega)]
/-- The picks of the law: one cell, made right ahead of the call. -/
theorem crash_two {w0 w : World} {d : Nat} {F : List Nat} {S : Dv} (L : Lw w0 w d F S) :
    Calls Try.prog 22 #[.pointer (some ⟨d, 0, none⟩), .slice (some ⟨w.heap.size, 0, none⟩) 1 1] (w.alloc (.cells #[.int .u8 2] 5)) fun e w' => e = .returned (.tuple #[]) ∧ ∃ F', Lw w0 w' d F' (S.crash [2]) := by
  have L2 : Lw w0 (w.alloc (.cells #[.int .u8 2] 5)) d F S := L.below ((Below.refl _ _).alloc (Nat.le_refl _) _)
  have hb : Blk (w.alloc (.cells #[.int .u8 2] 5)) w.heap.size (bCells [2]) 5 := Blk.new w (bCells [2]) 5
  have hb2 : Buf (w.alloc (.cells #[.int .u8 2] 5)) w.heap.size [2] 0 := by unfold Buf; rw [show zc 0 = [] from rfl, List.append_nil]; exact hb
  exact crash_lw L2 _ 1 1 [2] (by omega) (BS.mk' rfl (Nat.le_refl _) (by have := hb2.reads 0; rwa [List.drop_zero] at this)) (fun x hx => by cases hx; exact L.dev.new _ (Nat.le_refl _))
theorem settle_one : ∀ (cs : List Cl) (k : Nat) (p : Pg), (∀ c ∈ cs, c.last = none) → k < cs.length →
    ((settle (putAt cs k p) [2])[k]?).map (·.now) = some .torn ∧ ∀ c ∈ settle (putAt cs k p) [2], c.last = none
  | [], k, p, _, h => by simp at h
  | c :: r, 0, p, hs, _ => by
    have hr := settle_still r [] (fun x hx => hs x (by simp [hx]))
    have e : settle (putAt (c :: r) 0 p) [2] = ⟨.torn, none⟩ :: r := by
      show ⟨pick p _ 2, none⟩ :: settle r [] = _
      rw [hr]; rfl
    rw [e]
    refine ⟨rfl, fun x hx => ?_⟩
    rcases List.mem_cons.1 hx with rfl | hx
    · rfl
    · exact hs x (by simp [hx])
  | c :: r, k + 1, p, hs, hk => by
    obtain ⟨h1, h2⟩ := settle_one r k p (fun x hx => hs x (by simp [hx])) (by simpa using hk)
    have e : settle (putAt (c :: r) (k + 1) p) [2] = c :: settle (putAt r k p) [2] := by
      show settle (c :: putAt r k p) [2] = _
      rw [settle, hs c (by simp)]
    rw [e]
    refine ⟨by simpa using h1, fun x hx => ?_⟩
    rcases List.mem_cons.1 hx with rfl | hx
    · exact hs x (by simp)
    · exact h2 x hx
theorem bad_at {S : Dv} {n p k : Nat} (hl : S.cs.length = n) (ho : S.off = false) (hp : p ≤ n) (hk : k < p) (h : S.part (k : Int) k = none) : S.loadErr ((0 : Nat) : Int) (p : Int) = 3 ∧ S.loadIts ((0 : Nat) : Int) (p : Int) = [] :=
  load_bad (first := 0) (j := k) (by omega) ho hk (by rw [Nat.zero_add]; exact h)
theorem spoil_erase {S : Dv} {n p k : Nat} (hC : Calm S n) (hp : p ≤ n) (hk : k < p) : (S.putDo (k : Int) .blank).loadErr ((0 : Nat) : Int) (p : Int) = 3 ∧ (S.putDo (k : Int) .blank).loadIts ((0 : Nat) : Int) (p : Int) = [] := by
  have hkl : k < S.cs.length := by rw [hC.len]; omega
  have hh := has_nat hkl
  have h1 : S.armed ≠ 1 := by rw [hC.armed]; decide
  have hg : S.gone = false := by simp [Dv.gone, h1, hC.off]
  have hu := used_off S h1
  have e1 : (S.putDo (k : Int) .blank).cs = putAt S.cs k .blank := by simp [Dv.putDo, hh, hg]
  have e2 : (S.putDo (k : Int) .blank).off = false := by simp [Dv.putDo, hh, hg, hu, hC.off]
  refine bad_at (by rw [e1, putAt_length, hC.len]) e2 hp hk (part_bare e2 (p := .blank) ?_ (by decide))
  unfold Dv.pg
  rw [e1, putAt_get, if_pos ⟨rfl, hkl⟩]
theorem spoil_write {S : Dv} {n p k : Nat} (hC : Calm S n) (hp : p ≤ n) (hk : k < p) (l : List UInt8) (hl : l.length = 384) (hb : imP l k = none) : (S.writeDo (k : Int) ⟨l.toArray⟩).loadErr ((0 : Nat) : Int) (p : Int) = 3 ∧ (S.writeDo (k : Int) ⟨l.toArray⟩).loadIts ((0 : Nat) : Int) (p : Int) = [] := by
  have hkl : k < S.cs.length := by rw [hC.len]; omega
  have hsz : (⟨l.toArray⟩ : ByteArray).size = 384 := by show l.toArray.size = 384; rw [List.size_toArray, hl]
  rcases write_step S hC.off k hkl ⟨l.toArray⟩ (by omega) with ⟨_, e1, e2, _⟩ | ⟨_, h⟩
  · refine bad_at (by rw [e1, putAt_length, hC.len]) e2 hp hk ?_
    rw [part_read (b := ⟨l.toArray⟩) e2 (by unfold Dv.pg; rw [e1, putAt_get, if_pos ⟨rfl, hkl⟩]), full_data, hsz]
    simpa using hb
  · exact absurd hC.armed h
theorem spoil_torn {S : Dv} {n p k : Nat} (hC : Calm S n) (hs : ∀ x ∈ S.cs, x.last = none) (hp : p ≤ n) (hk : k < p) (l : List UInt8) (hl : l.length = 384) : ((S.writeDo (k : Int) ⟨l.toArray⟩).crash [2]).on.loadErr ((0 : Nat) : Int) (p : Int) = 3 ∧ ((S.writeDo (k : Int) ⟨l.toArray⟩).crash [2]).on.loadIts ((0 : Nat) : Int) (p : Int) = [] := by
  have hkl : k < S.cs.length := by rw [hC.len]; omega
  have hsz : (⟨l.toArray⟩ : ByteArray).size = 384 := by show l.toArray.size = 384; rw [List.size_toArray, hl]
  rcases write_step S hC.off k hkl ⟨l.toArray⟩ (by omega) with ⟨_, e1, e2, _⟩ | ⟨_, h⟩
  · obtain ⟨t1, t2⟩ := settle_one S.cs k (.whole ⟨l.toArray⟩) hs hkl
    have e3 : ((S.writeDo (k : Int) ⟨l.toArray⟩).crash [2]).on.cs = settle (putAt S.cs k (.whole ⟨l.toArray⟩)) [2] := by
      show settle (settle (S.writeDo (k : Int) ⟨l.toArray⟩).cs [2]) [] = _
      rw [e1, settle_still _ _ t2]
    refine bad_at (by rw [e3, settle_length, putAt_length, hC.len]) rfl hp hk (part_bare rfl (p := .torn) ?_ (by decide))
    unfold Dv.pg
    rw [e3, t1]
  · exact absurd hC.armed h
end Go.Proofs.Ytogloojbmllmeaa
