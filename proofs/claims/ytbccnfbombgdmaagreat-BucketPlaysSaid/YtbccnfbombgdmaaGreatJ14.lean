/- Texts joined: Page, BMath, BHash, BIter, BFlt. -/
import Derived.Test.YtbccnfbombgdmaaGreatJ10
import Derived.Test.YtbccnfbombgdmaaGreatJ13
import Derived.Laws.BitsAllLaws
import Derived.Test.YtbccnfbombgdmaaGreatChecked
import Derived.WalkKit
import Derived.WalkSpells
import Derived.WalkLawsBesides
import Derived.Below
import Derived.RangeFuncNested
import Derived.RangeFuncBound
import Derived.RangeFuncCalls
import Derived.RangeFuncLeaves
import Derived.Shelf.Abstract
import Derived.Shelf.RegionOpen
import Derived.OwnWalkIn
import Derived.TacticsInMore
import Derived.LoopNIn
import Derived.LoopIn
import Derived.RegionIn
import Derived.Test.YtbccnfbombgdmaaGreatJ02
import Derived.Laws.MakeOwn
/- A page that is read; a device that a law holds. -/
set_option linter.unusedVariables false
set_option linter.unusedSimpArgs false
set_option maxRecDepth 8000
namespace Go.Proofs.YtbccnfbombgdmaaGreat
open Go.RowKit Go.Deep Math

theorem has_nat {S : Dv} {k : Nat} (hk : k < S.cs.length) : S.has (k : Int) = true := by
  unfold Dv.has
  simp
  exact hk
theorem read_facts {S : Dv} {k : Nat} {c : Cl} (hk : S.cs[k]? = some c) (hoff : S.off = false) : S.readErr (k : Int) = c.now.err ∧ S.readText (k : Int) = c.now.read := by
  have hlt : k < S.cs.length := (List.getElem?_eq_some_iff.1 hk).1
  constructor
  · simp [Dv.readErr, has_nat hlt, hoff, hk]
  · simp [Dv.readText, has_nat hlt, hoff, hk]
theorem read_whole {d : Nat} {F : List Nat} {S : Dv} {k : Nat} {c : Cl} {b : ByteArray} (hk : S.cs[k]? = some c) (hoff : S.off = false) (hc : c.now = .whole b) (w : World) (h : DvAt w d F S) :
    Calls Tryz.prog 57 #[.pointer (some ⟨d, 0, none⟩), .int .i64 (k : Nat)] w fun e w' => e = .returned (.tuple #[.slice (some ⟨w.heap.size + 1, 0, none⟩) 384 384, .int .i64 0]) ∧
      BS w' (some ⟨w.heap.size + 1, 0, none⟩) 384 384 (full b).data.toList ∧ DvAt w' d F (S.readDo (k : Nat)) ∧ Keep F w w' := by
  obtain ⟨e1, e2⟩ := read_facts hk hoff
  rw [hc] at e1 e2
  refine (read_at d F S k w h).mono ?_
  rintro r w1 ⟨v, rfl, hr, hd1, kp1⟩
  rw [e1, e2] at hr
  rw [e1]
  rcases hr with ⟨h0, _⟩ | ⟨_, hsz, g, rfl, rfl, hb⟩
  · exact absurd rfl h0
  · have hsz' : (full b).data.toList.length = 384 := by rw [Array.length_toList]; exact hsz
    refine ⟨rfl, buf_bs ?_ hsz'.symm (Nat.le_refl _), hd1, kp1⟩
    unfold Buf
    rw [show zc 0 = [] from rfl, List.append_nil]
    exact hb
theorem read_bare {d : Nat} {F : List Nat} {S : Dv} {k : Nat} {c : Cl} {p : Pg} {e0 : Int} (hk : S.cs[k]? = some c) (hoff : S.off = false) (hc : c.now = p) (he : p.err = e0) (h0 : e0 ≠ 0) (w : World) (h : DvAt w d F S) :
    Calls Tryz.prog 57 #[.pointer (some ⟨d, 0, none⟩), .int .i64 (k : Nat)] w fun e w' => e = .returned (.tuple #[.slice none 0 0, .int .i64 e0]) ∧ DvAt w' d F (S.readDo (k : Nat)) ∧ Keep F w w' := by
  obtain ⟨e1, e2⟩ := read_facts hk hoff
  rw [hc, he] at e1
  refine (read_at d F S k w h).mono ?_
  rintro r w1 ⟨v, rfl, hr, hd1, kp1⟩
  rw [e1] at hr ⊢
  rcases hr with ⟨_, rfl, _⟩ | ⟨h1, _⟩
  · exact ⟨rfl, hd1, kp1⟩
  · exact absurd h1 h0
theorem DvAt.alloc {w : World} {d : Nat} {F : List Nat} {S : Dv} (h : DvAt w d F S) (o : Obj) : DvAt (w.alloc o) d F S := h.same (fun k hk => blk_alloc_lt _ _ _ (h.lt k hk))
theorem DvAt.below {w w' : World} {d : Nat} {F : List Nat} {S : Dv} (h : DvAt w d F S) (b : Below w.heap.size w w') : DvAt w' d F S := h.same (fun k hk => b.block k (h.lt k hk))
theorem DvAt.new {w : World} {d : Nat} {F : List Nat} {S : Dv} (h : DvAt w d F S) (k : Nat) (hk : w.heap.size ≤ k) : k ∉ F := fun hf => by have := h.lt k hf; omega
/-! ### A device that a law holds -/
structure Law (w0 : World) (d : Nat) (F : List Nat) (S : Dv) (W : World) : Prop where
  dev : DvAt W d F S
  low : ∀ k ∈ F, w0.heap.size ≤ k
  bel : Below w0.heap.size w0 W
theorem Law.move {w0 W W' : World} {d : Nat} {F F' : List Nat} {S S' : Dv} (h : Law w0 d F S W) (hd : DvAt W' d F' S') (m : Moves F F' W W') : Law w0 d F' S' W' := by
  have hs := h.bel.size
  refine ⟨hd, fun k hk => ?_, h.bel.trans (m.keep.below h.low hs)⟩
  rcases m.foot k hk with h1 | h1
  · exact h.low k h1
  · omega
theorem Law.below {w0 W W' : World} {d : Nat} {F : List Nat} {S : Dv} (h : Law w0 d F S W) (b : Below W.heap.size W W') : Law w0 d F S W' := h.move (h.dev.below b) (Moves.of_keep (Keep.of_below b))
theorem Law.alloc {w0 W : World} {d : Nat} {F : List Nat} {S : Dv} (h : Law w0 d F S W) (o : Obj) : Law w0 d F S (W.alloc o) := h.below ((Below.refl _ _).alloc (Nat.le_refl _) _)
/-- A variable of the law's, apart from the device. -/
structure Held (W : World) (F : List Nat) (k : Nat) (L : List Value) (t : TypeId) : Prop where
  blk : Blk W k L t
  off : k ∉ F
theorem Held.move {W W' : World} {F F' : List Nat} {k : Nat} {L : List Value} {t : TypeId} (h : Held W F k L t) (m : Moves F F' W W') : Held W' F' k L t := by
  have hl := h.blk.lt
  refine ⟨h.blk.same (m.keep.block _ hl h.off), fun hf => ?_⟩
  rcases m.foot k hf with h1 | h1
  · exact h.off h1
  · omega
theorem Held.below {W W' : World} {F : List Nat} {k : Nat} {L : List Value} {t : TypeId} (h : Held W F k L t) (b : Below W.heap.size W W') : Held W' F k L t := h.move (Moves.of_keep (Keep.of_below b))
theorem Held.alloc {W : World} {F : List Nat} {k : Nat} {L : List Value} {t : TypeId} (h : Held W F k L t) (o : Obj) : Held (W.alloc o) F k L t := h.below ((Below.refl _ _).alloc (Nat.le_refl _) _)
theorem Law.hold {w0 W : World} {d : Nat} {F : List Nat} {S : Dv} (h : Law w0 d F S W) (L : List Value) (t : TypeId) : Held (W.alloc (.cells L.toArray t)) F W.heap.size L t := ⟨Blk.new _ _ _, h.dev.new _ (Nat.le_refl _)⟩

theorem new_law {w0 W : World} (b : Below w0.heap.size w0 W) (n : Nat) (h1 : 1 ≤ n) (h2 : n ≤ 4096) :
    Calls Tryz.prog 5 #[.int .i64 n] W fun e W' => ∃ d F, e = .returned (.tuple #[.pointer (some ⟨d, 0, none⟩), .int .i64 0]) ∧ Law w0 d F (Dv.fresh n) W' ∧ Below W.heap.size W W' := by
  have hs := b.size
  refine (new_any n h1 h2 W).mono ?_
  rintro e W' ⟨rfl, hd, hb⟩
  refine ⟨W.heap.size + 1, foot (W.heap.size + 1) W.heap.size none, rfl, ⟨⟨_, _, _, _, rfl, hd⟩, fun k hk => ?_, b.trans (hb.mono hs)⟩, hb⟩
  simp [foot] at hk
  omega
def Dv.pg (S : Dv) (k : Nat) : Option Pg := (S.cs[k]?).map (·.now)
theorem putAt_get : ∀ (cs : List Cl) (i j : Nat) (p : Pg), ((putAt cs i p)[j]?).map (·.now) = if j = i ∧ j < cs.length then some p else (cs[j]?).map (·.now)
  | [], i, j, p => by simp [putAt]
  | c :: r, 0, 0, p => by simp [putAt, Cl.put]
  | c :: r, 0, j + 1, p => by simp [putAt]
  | c :: r, i + 1, 0, p => by simp [putAt]
  | c :: r, i + 1, j + 1, p => by
    have := putAt_get r i j p
    simp only [putAt, List.getElem?_cons_succ, this, List.length_cons]
    by_cases h : j = i ∧ j < r.length
    · rw [if_pos h, if_pos (by omega)]
    · rw [if_neg h, if_neg (by omega)]
theorem flush_get (cs : List Cl) (j : Nat) : (((cs.map Cl.flush)[j]?).map (·.now)) = (cs[j]?).map (·.now) := by
  rw [List.getElem?_map]
  cases cs[j]? <;> rfl
theorem used_off (S : Dv) (ha : S.armed ≠ 1) : S.used.off = S.off := by
  unfold Dv.used; split
  · rfl
  · rfl
theorem used_armed (S : Dv) (ho : S.off = false) (ha : S.armed ≠ 1) : S.used.armed = S.armed - 1 := by
  unfold Dv.used; split
  · rename_i h
    rcases h with h | h
    · rw [ho] at h; cases h
    · omega
  · rfl
end Go.Proofs.YtbccnfbombgdmaaGreat

/-
  The hash (FNV-1a) over the model's integers; nothing here speaks of a program.
-/
namespace Go.Proofs.YtbccnfbombgdmaaGreat.Math

/-- One byte into the hash. -/
def turn1 (h x : Int) : Int := IntKind.u64.wrap (bits .xor .u64 h x * 1099511628211)
def hash (h : Int) (l : List UInt8) : Int := l.foldl (fun h x => turn1 h (x.toNat : Int)) h
theorem hash_append (h : Int) (l m : List UInt8) : hash h (l ++ m) = hash (hash h l) m := by unfold hash; rw [List.foldl_append]
theorem hash_snoc (h : Int) (l : List UInt8) (x : UInt8) : hash h (l ++ [x]) = turn1 (hash h l) (x.toNat : Int) := by rw [hash_append]; rfl
def offset : Int := 14695981039346656037
def second0 : Int := turn1 1099511628211 0
theorem turn1_nonneg (h x : Int) : 0 ≤ turn1 h x := by unfold turn1; rw [IntKind.wrap_u64]; omega
theorem turn1_lt (h x : Int) : turn1 h x < 18446744073709551616 := by unfold turn1; rw [IntKind.wrap_u64]; omega
theorem hash_range (h : Int) (l : List UInt8) (h0 : 0 ≤ h) (h1 : h < 18446744073709551616) : 0 ≤ hash h l ∧ hash h l < 18446744073709551616 := by
  induction l generalizing h with
  | nil => exact ⟨h0, h1⟩
  | cons x xs ih => exact ih _ (turn1_nonneg _ _) (turn1_lt _ _)
theorem offset_range : 0 ≤ offset ∧ offset < 18446744073709551616 := by unfold offset; omega
theorem second0_range : 0 ≤ second0 ∧ second0 < 18446744073709551616 := ⟨turn1_nonneg _ _, turn1_lt _ _⟩
theorem hash_second (l : List UInt8) : hash 1099511628211 (0 :: l) = hash second0 l := rfl
end Go.Proofs.YtbccnfbombgdmaaGreat.Math

/-
  What Hash and Second answer, of package sum and of the reckoning.
-/
namespace Go.Proofs.YtbccnfbombgdmaaGreat.Bl
open Go.RowKit Math

theorem ret_int {k : IntKind} {a b : Int} (h : a = b) : Ending.returned (.int k a) = .returned (.int k b) := by rw [h]

theorem take_snoc (s : ByteArray) (k : Nat) (h : k < s.size) : s.data.toList.take (k + 1) = s.data.toList.take k ++ [s[k]] := by
  rw [List.take_succ_eq_append_getElem (by simpa using h)]; rfl

set_option maxHeartbeats 400000 in
theorem turn_any (h x : Int) (w : World) (hx0 : 0 ≤ x) (hx1 : x ≤ 255) :
    Calls Tryz.prog 94 #[.int .u64 h, .int .u8 x] w fun e w' => e = .returned (.int .u64 (turn1 h x)) ∧ w' = w := by
  go_enter Tryz.func94, Tryz.ntmps94
  go_wp2
  go_ret
  exact ⟨rfl, rfl⟩

set_option maxHeartbeats 400000 in
theorem fold_any (h : Int) (s : ByteArray) (w : World) (hs : s.size ≤ maxLen) :
    Calls Tryz.prog 80 #[.int .u64 h, .string s] w fun e w' => e = .returned (.int .u64 (hash h s.data.toList)) ∧ w' = w := by
  unfold maxLen at hs
  go_enter Tryz.func80, Tryz.ntmps80
  go_wp2
  go_loop [0, 8] (fun t i => ∃ k : Nat, k ≤ s.size ∧ i = .int .i64 k ∧ t = .int .u64 (hash h (s.data.toList.take k))) (fun _ i => s.size - (intOf i).toNat)
  case atStart => exact ⟨0, Nat.zero_le _, rfl, rfl⟩
  case round =>
    obtain ⟨k, hk, rfl, rfl⟩ := hrel
    by_cases hlt : k < s.size
    · have HS : Hid (hash h (s.data.toList.take (k + 1)) = turn1 (hash h (s.data.toList.take k)) (s[k].toNat : Int)) := by
        unfold Hid; rw [take_snoc s k hlt, hash_snoc]
      have hx0 : (0 : Int) ≤ (s[k].toNat : Int) := by omega
      have hx1 : (s[k].toNat : Int) ≤ 255 := by have := s[k].toNat_lt; omega
      go_wp2_with (go_at_call 94; refine (turn_any _ _ _ hx0 hx1).mono ?_; rintro e w' ⟨rfl, rfl⟩)
      go_round
      case rel => exact ⟨k + 1, by omega, by go_num, by rw [HS.out]⟩
      case measure => simp [intOf]; omega
    · have hk8 : Hid (k = s.size) := by unfold Hid; omega
      go_wp2
      go_ret
      exact ⟨ret_int (by rw [hk8.out, List.take_of_length_le (by simp)]), rfl⟩

set_option maxHeartbeats 400000 in
theorem hash_any (s : ByteArray) (w : World) (hs : s.size ≤ maxLen) :
    Calls Tryz.prog 63 #[.string s] w fun e w' => e = .returned (.int .u64 (hash offset s.data.toList)) ∧ w' = w := by
  go_enter Tryz.func63, Tryz.ntmps63
  go_wp2_with (go_at_call 80; refine (fold_any _ _ _ hs).mono ?_; rintro e w' ⟨rfl, rfl⟩)
  go_ret
  exact ⟨rfl, rfl⟩

set_option maxHeartbeats 400000 in
theorem second_any (s : ByteArray) (w : World) (hs : s.size ≤ maxLen) :
    Calls Tryz.prog 88 #[.string s] w fun e w' => e = .returned (.int .u64 (hash second0 s.data.toList)) ∧ w' = w := by
  go_enter Tryz.func88, Tryz.ntmps88
  go_wp2_with (first | (go_at_call 94; refine (turn_any _ _ _ (by decide) (by decide)).mono ?_; rintro e w' ⟨rfl, rfl⟩) | (go_at_call 80; refine (fold_any _ _ _ hs).mono ?_; rintro e w' ⟨rfl, rfl⟩))
  go_ret
  exact ⟨rfl, rfl⟩

set_option maxHeartbeats 400000 in
theorem refTurn_any (h : Int) (s : ByteArray) (w : World) (hs : s.size ≤ maxLen) :
    Calls Tryz.prog 89 #[.int .u64 h, .string s] w fun e w' => e = .returned (.int .u64 (hash h s.data.toList)) ∧ w' = w := by
  unfold maxLen at hs
  go_enter Tryz.func89, Tryz.ntmps89
  go_wp2
  go_loop [0, 5] (fun t i => ∃ k : Nat, k ≤ s.size ∧ i = .int .i64 k ∧ t = .int .u64 (hash h (s.data.toList.take k))) (fun _ i => s.size - (intOf i).toNat)
  case atStart => exact ⟨0, Nat.zero_le _, rfl, rfl⟩
  case round =>
    obtain ⟨k, hk, rfl, rfl⟩ := hrel
    by_cases hlt : k < s.size
    · have HS : Hid (hash h (s.data.toList.take (k + 1)) = turn1 (hash h (s.data.toList.take k)) (s[k].toNat : Int)) := by
        unfold Hid; rw [take_snoc s k hlt, hash_snoc]
      have hx1 : (s[k].toNat : Int) ≤ 255 := by have := s[k].toNat_lt; omega
      go_wp2
      go_round
      case rel => exact ⟨k + 1, by omega, by go_num, by rw [HS.out]; rfl⟩
      case measure => simp [intOf]; omega
    · have hk8 : Hid (k = s.size) := by unfold Hid; omega
      go_wp2
      go_ret
      exact ⟨ret_int (by rw [hk8.out, List.take_of_length_le (by simp)]), rfl⟩

set_option maxHeartbeats 400000 in
theorem refHash_any (s : ByteArray) (w : World) (hs : s.size ≤ maxLen) :
    Calls Tryz.prog 69 #[.string s] w fun e w' => e = .returned (.int .u64 (hash offset s.data.toList)) ∧ w' = w := by
  go_enter Tryz.func69, Tryz.ntmps69
  go_wp2_with (go_at_call 89; refine (refTurn_any _ _ _ hs).mono ?_; rintro e w' ⟨rfl, rfl⟩)
  go_ret
  exact ⟨rfl, rfl⟩

end Go.Proofs.YtbccnfbombgdmaaGreat.Bl

/- The bits of a key, one by one: the iterator's own contract, for every loop body that keeps the filter's own cells. -/
set_option linter.unusedVariables false
set_option linter.unusedSimpArgs false
namespace Go.Proofs.YtbccnfbombgdmaaGreat.Bl
open Go.RowKit Go.Shelf Go.Deep Math
attribute [local go_sem] Oper.semAt_some

/-- What comes at turn k, ahead of the last modulo; the place itself. -/
def at64 (H S : Int) (k : Nat) : Int := (H + (k : Int) * S) % 18446744073709551616
def pl (H S : Int) (n k : Nat) : Nat := (at64 H S k % (n : Int)).toNat
theorem at64_nonneg (H S : Int) (k : Nat) : 0 ≤ at64 H S k := by unfold at64; omega
theorem at64_lt (H S : Int) (k : Nat) : at64 H S k < 18446744073709551616 := by unfold at64; omega
theorem at64_zero (H S : Int) (h0 : 0 ≤ H) (h1 : H < 18446744073709551616) : at64 H S 0 = H := by unfold at64; simp; omega
theorem at64_succ (H S : Int) (k : Nat) : IntKind.u64.wrap (at64 H S k + S) = at64 H S (k + 1) := by
  rw [IntKind.wrap_u64]; unfold at64
  have : ((k + 1 : Nat) : Int) * S = (k : Int) * S + S := by rw [Int.natCast_add, Int.add_mul]; simp
  rw [this]
  generalize (k : Int) * S = z
  omega
theorem pl_lt (H S : Int) (n k : Nat) (hn : 0 < n) : pl H S n k < n := by
  unfold pl
  have h0 := Int.emod_nonneg (at64 H S k) (show (n : Int) ≠ 0 by omega)
  have h1 := Int.emod_lt_of_pos (at64 H S k) (show (0 : Int) < n by omega)
  omega
theorem pl_int (H S : Int) (n k : Nat) (hn : 0 < n) : (at64 H S k).tmod (n : Int) = (pl H S n k : Int) := by
  unfold pl
  rw [Int.tmod_eq_emod_of_nonneg (at64_nonneg H S k)]
  have h0 := Int.emod_nonneg (at64 H S k) (show (n : Int) ≠ 0 by omega)
  omega

def hashK (key : ByteArray) : Int := hash offset key.data.toList
def stepK (key : ByteArray) : Int := bits .or .u64 (hash second0 key.data.toList) 1
theorem hashK_range (key : ByteArray) : 0 ≤ hashK key ∧ hashK key < 18446744073709551616 := hash_range _ _ offset_range.1 offset_range.2
def plF (H S : Int) (n : Nat) (hn : 0 < n) (k : Nat) : Fin n := ⟨pl H S n k, pl_lt H S n k hn⟩
def upto {α : Type} (f : Nat → α) (k : Nat) : List α := (List.range k).map f
theorem upto_succ {α : Type} (f : Nat → α) (k : Nat) : upto f (k + 1) = upto f k ++ [f k] := by simp [upto, List.range_succ]
theorem upto_length {α : Type} (f : Nat → α) (k : Nat) : (upto f k).length = k := by simp [upto]

/-- What the iterator wants kept across a round: the box of the filter's pointer, the filter's first cell. -/
def KpB (fb f : Nat) (W W' : World) : Prop := W'.cell? ⟨fb, 0, none⟩ = W.cell? ⟨fb, 0, none⟩ ∧ W'.cell? ⟨f, 0, none⟩ = W.cell? ⟨f, 0, none⟩
theorem KpB.t {fb f : Nat} {A B C : World} (h : KpB fb f A B) (k : KpB fb f B C) : KpB fb f A C := ⟨k.1.trans h.1, k.2.trans h.2⟩
theorem KpB.of_blocks {fb f : Nat} {W W' : World} (h1 : W'.heap[fb]? = W.heap[fb]?) (h2 : W'.heap[f]? = W.heap[f]?) : KpB fb f W W' := by
  constructor <;> simp [World.cell?, h1, h2]
theorem KpB.b {fb f : Nat} {w : World} (h1 : fb < w.heap.size) (h2 : f < w.heap.size) (W : World) (l : Nat) (o o' : Obj) (hl : w.heap.size ≤ l) (h : W.heap[l]? = some o) (_ : o.isCells = false) (_ : o.isWalk = false) : KpB fb f W (W.putObj l o') :=
  KpB.of_blocks (World.putObj_heap_other (by omega)) (World.putObj_heap_other (by omega))

set_option maxRecDepth 100000 in
set_option maxHeartbeats 2000000 in
theorem places1_in (m : Nat) (hm : 1 ≤ m) (l kb fb f s n t : Nat) (key : ByteArray) (hk : key.size ≤ maxLen) (hn : 0 < n) (hn2 : n ≤ 65536) (ht : t ≤ 8) (J Jx : List (Fin n) → World → Prop)
    (hJd : ∀ pre W, J pre W → J pre W.drew)
    (hY : ∀ pre x W, J pre W → pre.length < t → YieldAt Fence.wide (m - 1) Tryz.prog l #[.int .i64 ((x : Fin n).val : Int)] W fun e W' =>
      (e = .returned (.bool true) ∧ J (pre ++ [x]) W' ∧ KpB fb f W W') ∨ (e = .returned (.bool false) ∧ Jx (pre ++ [x]) W'))
    (W : World) (hkb : W.cell? ⟨kb, 0, none⟩ = some (.string key)) (hfb : W.cell? ⟨fb, 0, none⟩ = some (.pointer (some ⟨f, 0, none⟩)))
    (hf0 : W.cell? ⟨f, 0, none⟩ = some (.slice (some ⟨s, 0, none⟩) n n)) (hf1 : W.cell? ⟨f, 1, none⟩ = some (.int .i64 t)) (h0 : J [] W) :
    CallsIn Fence.wide m Tryz.prog 87 #[.func (.yield l) #[] #[], .pointer (some ⟨kb, 0, none⟩), .pointer (some ⟨fb, 0, none⟩)] W fun e W' => (∃ v, e = .returned v) ∧
      ((∃ ys, ys = upto (plF (hashK key) (stepK key) n hn) t ∧ J ys W') ∨ (∃ pre, (∃ k, k ≤ t ∧ pre = upto (plF (hashK key) (stepK key) n hn) k) ∧ Jx pre W')) := by
  have cH : Hid (∀ W : World, CallsIn Fence.wide (m - 1) Tryz.prog 63 #[.string key] W fun e w' => e = .returned (.int .u64 (hashK key)) ∧ w' = W) := fun W => callsIn_wide.2 (hash_any key W hk)
  have cS : Hid (∀ W : World, CallsIn Fence.wide (m - 1) Tryz.prog 88 #[.string key] W fun e w' => e = .returned (.int .u64 (hash second0 key.data.toList)) ∧ w' = W) := fun W => callsIn_wide.2 (second_any key W hk)
  have hmx : Tryz.prog.follows .mixedOrders = true := by kernel_rfl
  refine callsIn_of_wp Tryz.func87 rfl trivial ?_ rfl
  simp only [Tryz.ntmps87, List.size_toArray, List.length_cons, List.length_nil, Nat.reduceAdd, Nat.reduceSub, Array.replicate_succ, Array.replicate_zero, List.push_toArray, List.append_toArray, List.nil_append, List.cons_append]
  gi_wp2
  gi_region_with_o (refine ⟨trivial, ?_⟩; first | (gi_at_call 63; refine (cH.out _).mono ?_; rintro e w' ⟨rfl, rfl⟩) | (gi_at_call 88; refine (cS.out _).mono ?_; rintro e w' ⟨rfl, rfl⟩))
  all_goals clear cH cS hmx hk
  all_goals gi_wp2
  all_goals
    gi_loopw [4, 15] (fun a i wr => ∃ k : Nat, k ≤ t ∧ i = .int .i64 k ∧ a = .int .u64 (at64 (hashK key) (stepK key) k) ∧ Hid (J (upto (plF (hashK key) (stepK key) n hn) k) wr) ∧ Hid (KpB fb f W wr))
      (fun a i _ => t - (intOf i).toNat)
    case atStart => exact ⟨0, Nat.zero_le _, rfl, by rw [at64_zero (hashK key) _ (hashK_range key).1 (hashK_range key).2], hJd _ _ h0, rfl, rfl⟩
    case round =>
      obtain ⟨k, hk, rfl, rfl, hJs, hK⟩ := hrel
      have hfb' := hK.out.1.trans hfb
      have hf0' := hK.out.2.trans hf0
      by_cases hlt : k < t
      · obtain ⟨fn, tmps, assign, body, hy, hR⟩ := hY _ (plF (hashK key) (stepK key) n hn k) wr hJs.out (by rw [upto_length]; exact hlt)
        have e1 := pl_int (hashK key) (stepK key) n k hn
        have e2 := at64_succ (hashK key) (stepK key) k
        have e3 : pl (hashK key) (stepK key) n k < n := pl_lt _ _ _ _ hn
        have e4 : IntKind.u64.wrap (n : Int) = (n : Int) := by rw [IntKind.wrap_u64]; omega
        have e5 : IntKind.i64.wrap (pl (hashK key) (stepK key) n k : Int) = (pl (hashK key) (stepK key) n k : Int) := by rw [IntKind.wrap_i64]; omega
        have e6 : IntKind.u64.wrap (pl (hashK key) (stepK key) n k : Int) = (pl (hashK key) (stepK key) n k : Int) := by rw [IntKind.wrap_u64]; omega
        have e7 : ¬ (n : Int) = 0 := by omega
        have hs : IntKind.u64.signed = false := rfl
        dsimp only [plF] at hy
        gi_wp2
        refine hR.mono ?_
        rintro e W3 (⟨rfl, hJ3, hk3⟩ | ⟨rfl, hJx3⟩)
        · have J3 := hide hJ3
          have K3 := hide (hK.out.t hk3)
          clear hJ3 hk3
          gi_wp2
          go_roundw
          case rel => exact ⟨k + 1, by omega, by simp, by rw [← e2]; rfl, by rw [upto_succ]; exact J3.out, K3.out⟩
          case measure => simp [intOf]; omega
        · gi_wp2
          refine bodyPost_ret (results_none rfl _ _ _) rfl ?_
          exact ⟨⟨_, rfl⟩, .inr ⟨_, ⟨k + 1, by omega, (upto_succ _ _).symm⟩, hJx3⟩⟩
      · obtain rfl : k = t := by omega
        gi_wp2
        go_end0
        exact ⟨⟨_, rfl⟩, .inl ⟨_, rfl, hJs.out⟩⟩

theorem places_stops (m : Nat) (hm : 1 ≤ m) (kb fb f s n t : Nat) (key : ByteArray) (hk : key.size ≤ maxLen) (hn : 0 < n) (hn2 : n ≤ 65536) (ht : t ≤ 8) (w : World)
    (hkb : w.cell? ⟨kb, 0, none⟩ = some (.string key)) (hfb : w.cell? ⟨fb, 0, none⟩ = some (.pointer (some ⟨f, 0, none⟩)))
    (hf0 : w.cell? ⟨f, 0, none⟩ = some (.slice (some ⟨s, 0, none⟩) n n)) (hf1 : w.cell? ⟨f, 1, none⟩ = some (.int .i64 t)) :
    SeqStopsK Fence.wide m Tryz.prog 87 #[.pointer (some ⟨kb, 0, none⟩), .pointer (some ⟨fb, 0, none⟩)] (fun x : Fin n => #[Value.int .i64 (x.val : Int)]) (KpB fb f)
      (fun ys => ys = upto (plF (hashK key) (stepK key) n hn) t) (fun pre => ∃ k, k ≤ t ∧ pre = upto (plF (hashK key) (stepK key) n hn) k) t w := fun l J Jx W hW hJ hJx hY h0 => by
  refine places1_in m hm l kb fb f s n t key hk hn hn2 ht J Jx ?_ hY W (cell_later hW hkb) (cell_later hW hfb) (cell_later hW hf0) (cell_later hW hf1) h0
  intro pre W1 h1
  exact hJ pre W1 _ none h1 ⟨rfl, rfl, rfl, Nat.le_refl _, fun _ _ _ => rfl⟩ (fun r e => by cases e)
end Go.Proofs.YtbccnfbombgdmaaGreat.Bl

/- A filter in memory: New, Add, May. -/
set_option linter.unusedVariables false
set_option linter.unusedSimpArgs false
namespace Go.Proofs.YtbccnfbombgdmaaGreat.Bl
open Go.RowKit Go.Shelf Go.Deep Math
attribute [local go_sem] Oper.semAt_some

/-- The filter f, its bits in block s. -/
structure FltIn (w : World) (f s : Nat) (l : List Bool) (t : Nat) : Prop where
  own : Blk w f [.slice (some ⟨s, 0, none⟩) l.length l.length, .int .i64 t] 114
  row : Blk w s (l.map Value.bool) 4
  ne : f ≠ s
  n8 : 8 ≤ l.length
  n9 : l.length ≤ 65536
  t1 : 1 ≤ t
  t8 : t ≤ 8
theorem FltIn.same {w w' : World} {f s : Nat} {l : List Bool} {t : Nat} (h : FltIn w f s l t) (h1 : w'.heap[f]? = w.heap[f]?) (h2 : w'.heap[s]? = w.heap[s]?) : FltIn w' f s l t :=
  ⟨h.own.same h1, h.row.same h2, h.ne, h.n8, h.n9, h.t1, h.t8⟩
theorem FltIn.keep {w w' : World} {f s : Nat} {l : List Bool} {t : Nat} (h : FltIn w f s l t) {F : List Nat} (k : Keep F w w') (h1 : f ∉ F) (h2 : s ∉ F) : FltIn w' f s l t :=
  h.same (k.block f h.own.lt h1) (k.block s h.row.lt h2)
theorem FltIn.alloc {w : World} {f s : Nat} {l : List Bool} {t : Nat} (h : FltIn w f s l t) (o : Obj) : FltIn (w.alloc o) f s l t :=
  ⟨h.own.alloc o, h.row.alloc o, h.ne, h.n8, h.n9, h.t1, h.t8⟩
theorem FltIn.drew {w : World} {f s : Nat} {l : List Bool} {t : Nat} (h : FltIn w f s l t) : FltIn w.drew f s l t := h.same rfl rfl
theorem FltIn.below {w w' : World} {f s : Nat} {l : List Bool} {t : Nat} (h : FltIn w f s l t) (k : Below w.heap.size w w') : FltIn w' f s l t :=
  h.same (k.block f h.own.lt) (k.block s h.row.lt)

/-- Bits set one after the other. -/
def setB (l : List Bool) (ps : List Nat) : List Bool := ps.foldl (fun l i => l.set i true) l
theorem setB_nil (l : List Bool) : setB l [] = l := rfl
theorem setB_snoc (l : List Bool) (ps : List Nat) (i : Nat) : setB l (ps ++ [i]) = (setB l ps).set i true := by simp [setB]
theorem setB_append (l : List Bool) (ps qs : List Nat) : setB l (ps ++ qs) = setB (setB l ps) qs := by simp [setB]
theorem setB_length (l : List Bool) (ps : List Nat) : (setB l ps).length = l.length := by
  induction ps generalizing l with
  | nil => rfl
  | cons x xs ih => show (setB (l.set x true) xs).length = _; rw [ih]; simp
/-- The bits of a key. -/
def plc (key : ByteArray) (n t : Nat) : List Nat := upto (pl (hashK key) (stepK key) n) t

theorem FltIn.set {w : World} {f s : Nat} {l : List Bool} {t : Nat} (h : FltIn w f s l t) (i : Nat) : FltIn (w.setCell ⟨s, i, none⟩ (.bool true)) f s (l.set i true) t := by
  refine ⟨?_, ?_, h.ne, by simpa using h.n8, by simpa using h.n9, h.t1, h.t8⟩
  · rw [List.length_set]; exact h.own.other (a := ⟨s, i, none⟩) h.ne _
  · have := h.row.set i (.bool true); rw [List.map_set]; exact this

theorem info4 : (Tryz.prog.info? 4).map (fun i => (i.zero, i.size, i.bytes)) = some (some (.bool false), 1, 1) := by kernel_rfl
def boolsA (l : List Bool) : Array Value := (l.map Value.bool).toArray
/-- 'make([]bool, n)'. -/
theorem run_make_bools (n : Nat) (hn : n ≤ 1000000) (w : World) :
    (Instr.makeSlice 65 (.int .i64 (n : Int)) (.int .i64 (n : Int))).run Tryz.prog w = .ok (.slice (some ⟨w.heap.size, 0, none⟩) n n) (w.alloc (.cells (boolsA (List.replicate n false)) 4)) := by
  unfold boolsA
  obtain ⟨i, hi, hi2⟩ := Option.map_eq_some_iff.1 info4
  simp only [Prod.mk.injEq] at hi2
  obtain ⟨hz0, hz1, hz2⟩ := hi2
  have := run_make (P := Tryz.prog) w 65 4 i (.bool false) Tryz.underlying65 hi hz0 .i64 .i64 (n : Int) (n : Int) (by omega) (by omega) (by rw [hz2]; omega) (by omega)
  rw [this, hz1]
  have e : madeCells (Value.bool false).cells ((n : Int).toNat * 1) = ((List.replicate n false).map Value.bool).toArray := by
    have hc : (Value.bool false).cells = #[.bool false] := rfl
    rw [hc, Int.toNat_natCast, Nat.mul_one]
    unfold madeCells
    apply Array.ext
    · simp
    · intro j h1 h2
      simp [Nat.mod_one]
  rw [e, Int.toNat_natCast]

set_option maxHeartbeats 400000 in
theorem new_bad (b t : Int) (w : World) (h : b < 8 ∨ 65536 < b ∨ t < 1 ∨ 8 < t) :
    Calls Tryz.prog 60 #[.int .i64 b, .int .i64 t] w fun e w' => e = .returned (.tuple #[.pointer none, .int .i64 1]) ∧ w' = w := by
  by_cases h1 : b < 8
  · clear h
    go_enter Tryz.func60, Tryz.ntmps60
    go_wp2
    go_ret2
    exact ⟨rfl, rfl⟩
  by_cases h2 : 65536 < b
  · clear h
    go_enter Tryz.func60, Tryz.ntmps60
    go_wp2
    go_ret2
    exact ⟨rfl, rfl⟩
  by_cases h3 : t < 1
  · clear h
    go_enter Tryz.func60, Tryz.ntmps60
    go_wp2
    go_ret2
    exact ⟨rfl, rfl⟩
  have h4 : 8 < t := by omega
  clear h
  go_enter Tryz.func60, Tryz.ntmps60
  go_wp2
  go_ret2
  exact ⟨rfl, rfl⟩

set_option maxHeartbeats 400000 in
theorem new_ok (n t : Nat) (w : World) (h1 : 8 ≤ n) (h2 : n ≤ 65536) (h3 : 1 ≤ t) (h4 : t ≤ 8) :
    Calls Tryz.prog 60 #[.int .i64 n, .int .i64 t] w fun e w' => e = .returned (.tuple #[.pointer (some ⟨w.heap.size + 1, 0, none⟩), .int .i64 0]) ∧ FltIn w' (w.heap.size + 1) w.heap.size (List.replicate n false) t ∧ Below w.heap.size w w' := by
  have e1 : ¬ (n : Int) < 8 := by omega
  have e2 : ¬ (65536 : Int) < (n : Int) := by omega
  have e3 : ¬ (t : Int) < 1 := by omega
  have e4 : ¬ (8 : Int) < (t : Int) := by omega
  have hmk := run_make_bools n (by omega)
  go_enter Tryz.func60, Tryz.ntmps60
  go_wp2
  go_ret2
  refine ⟨rfl, ⟨?_, ?_, by omega, by simpa using h1, by simpa using h2, h3, h4⟩, ((Below.refl _ w).alloc (Nat.le_refl _) _).alloc (by simp) _⟩
  · have := Blk.new (w.alloc (.cells (boolsA (List.replicate n false)) 4)) [.slice (some ⟨w.heap.size, 0, none⟩) n n, .int .i64 t] 114
    rw [World.size_alloc] at this
    rw [List.length_replicate]
    exact this
  · exact (Blk.new w ((List.replicate n false).map Value.bool) 4).alloc _

theorem places_any (f : Nat) (key : ByteArray) (w : World) :
    Calls Tryz.prog 68 #[.pointer (some ⟨f, 0, none⟩), .string key] w fun e w' => e = .returned (.func (.func 87) #[] #[.pointer (some ⟨w.heap.size + 1, 0, none⟩), .pointer (some ⟨w.heap.size, 0, none⟩)]) ∧
      w' = (w.alloc (.cells #[.pointer (some ⟨f, 0, none⟩)] 73)).alloc (.cells #[.string key] 9) := by
  go_enter Tryz.func68, Tryz.ntmps68
  go_wp2
  go_ret
  exact ⟨rfl, rfl⟩
end Go.Proofs.YtbccnfbombgdmaaGreat.Bl
