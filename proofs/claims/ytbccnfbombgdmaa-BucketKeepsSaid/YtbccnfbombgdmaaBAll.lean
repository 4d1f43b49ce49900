/- Joined texts: BMath, BHash, BIter, BFlt, BAdd, BMay. -/
import Derived.Laws.BitsAllLaws
import Derived.Test.YtbccnfbombgdmaaChecked
import Derived.WalkKit
import Derived.WalkSpells
import Derived.WalkLawsBesides
import Derived.Below
import Derived.RangeFuncNested
import Derived.RangeFuncBound
import Derived.RangeFuncCalls
import Derived.RangeFuncLeaves
import Derived.Shelf.Abstract
import Derived.Shelf.RegionOpen
import Derived.OwnWalkIn
import Derived.TacticsInMore
import Derived.LoopNIn
import Derived.LoopIn
import Derived.RegionIn
import Derived.Test.YtbccnfbombgdmaaRMem
import Derived.Laws.MakeOwn
/-
  The hash (FNV-1a) over the model's integers; nothing here speaks of a program.
-/
namespace Go.Proofs.Ytbccnfbombgdmaa.Math

/-- One byte into the hash. -/
def turn1 (h x : Int) : Int := IntKind.u64.wrap (bits .xor .u64 h x * 1099511628211)
def hash (h : Int) (l : List UInt8) : Int := l.foldl (fun h x => turn1 h (x.toNat : Int)) h
theorem hash_append (h : Int) (l m : List UInt8) : hash h (l ++ m) = hash (hash h l) m := by unfold hash; rw [List.foldl_append]
theorem hash_snoc (h : Int) (l : List UInt8) (x : UInt8) : hash h (l ++ [x]) = turn1 (hash h l) (x.toNat : Int) := by rw [hash_append]; rfl
def offset : Int := 14695981039346656037
def second0 : Int := turn1 1099511628211 0
theorem turn1_nonneg (h x : Int) : 0 ≤ turn1 h x := by unfold turn1; rw [IntKind.wrap_u64]; omega
theorem turn1_lt (h x : Int) : turn1 h x < 18446744073709551616 := by unfold turn1; rw [IntKind.wrap_u64]; omega
theorem hash_range (h : Int) (l : List UInt8) (h0 : 0 ≤ h) (h1 : h < 18446744073709551616) : 0 ≤ hash h l ∧ hash h l < 18446744073709551616 := by
  induction l generalizing h with
  | nil => exact ⟨h0, h1⟩
  | cons x xs ih => exact ih _ (turn1_nonneg _ _) (turn1_lt _ _)
theorem offset_range : 0 ≤ offset ∧ offset < 18446744073709551616 := by unfold offset; omega
theorem second0_range : 0 ≤ second0 ∧ second0 < 18446744073709551616 := ⟨turn1_nonneg _ _, turn1_lt _ _⟩
theorem hash_second (l : List UInt8) : hash 1099511628211 (0 :: l) = hash second0 l := rfl
end Go.Proofs.Ytbccnfbombgdmaa.Math

/-
  What Hash and Second answer, of package sum and of the reckoning.
-/
namespace Go.Proofs.Ytbccnfbombgdmaa.Bl
open Go.RowKit Math

theorem ret_int {k : IntKind} {a b : Int} (h : a = b) : Ending.returned (.int k a) = .returned (.int k b) := by rw [h]

theorem take_snoc (s : ByteArray) (k : Nat) (h : k < s.size) : s.data.toList.take (k + 1) = s.data.toList.take k ++ [s[k]] := by
  rw [List.take_succ_eq_append_getElem (by simpa using h)]; rfl

set_option maxHeartbeats 400000 in
theorem turn_any (h x : Int) (w : World) (hx0 : 0 ≤ x) (hx1 : x ≤ 255) :
    Calls Try.prog 64 #[.int .u64 h, .int .u8 x] w fun e w' => e = .returned (.int .u64 (turn1 h x)) ∧ w' = w := by
  go_enter Try.func64, Try.ntmps64
  go_wp2
  go_ret
  exact ⟨rfl, rfl⟩

set_option maxHeartbeats 400000 in
theorem fold_any (h : Int) (s : ByteArray) (w : World) (hs : s.size ≤ maxLen) :
    Calls Try.prog 53 #[.int .u64 h, .string s] w fun e w' => e = .returned (.int .u64 (hash h s.data.toList)) ∧ w' = w := by
  unfold maxLen at hs
  go_enter Try.func53, Try.ntmps53
  go_wp2
  go_loop [0, 8] (fun t i => ∃ k : Nat, k ≤ s.size ∧ i = .int .i64 k ∧ t = .int .u64 (hash h (s.data.toList.take k))) (fun _ i => s.size - (intOf i).toNat)
  case atStart => exact ⟨0, Nat.zero_le _, rfl, rfl⟩
  case round =>
    obtain ⟨k, hk, rfl, rfl⟩ := hrel
    by_cases hlt : k < s.size
    · have HS : Hid (hash h (s.data.toList.take (k + 1)) = turn1 (hash h (s.data.toList.take k)) (s[k].toNat : Int)) := by
        unfold Hid; rw [take_snoc s k hlt, hash_snoc]
      have hx0 : (0 : Int) ≤ (s[k].toNat : Int) := by omega
      have hx1 : (s[k].toNat : Int) ≤ 255 := by have := s[k].toNat_lt; omega
      go_wp2_with (go_at_call 64; refine (turn_any _ _ _ hx0 hx1).mono ?_; rintro e w' ⟨rfl, rfl⟩)
      go_round
      case rel => exact ⟨k + 1, by omega, by go_num, by rw [HS.out]⟩
      case measure => simp [intOf]; omega
    · have hk8 : Hid (k = s.size) := by unfold Hid; omega
      go_wp2
      go_ret
      exact ⟨ret_int (by rw [hk8.out, List.take_of_length_le (by simp)]), rfl⟩

set_option maxHeartbeats 400000 in
theorem hash_any (s : ByteArray) (w : World) (hs : s.size ≤ maxLen) :
    Calls Try.prog 45 #[.string s] w fun e w' => e = .returned (.int .u64 (hash offset s.data.toList)) ∧ w' = w := by
  go_enter Try.func45, Try.ntmps45
  go_wp2_with (go_at_call 53; refine (fold_any _ _ _ hs).mono ?_; rintro e w' ⟨rfl, rfl⟩)
  go_ret
  exact ⟨rfl, rfl⟩

set_option maxHeartbeats 400000 in
theorem second_any (s : ByteArray) (w : World) (hs : s.size ≤ maxLen) :
    Calls Try.prog 63 #[.string s] w fun e w' => e = .returned (.int .u64 (hash second0 s.data.toList)) ∧ w' = w := by
  go_enter Try.func63, Try.ntmps63
  go_wp2_with (first | (go_at_call 64; refine (turn_any _ _ _ (by decide) (by decide)).mono ?_; rintro e w' ⟨rfl, rfl⟩) | (go_at_call 53; refine (fold_any _ _ _ hs).mono ?_; rintro e w' ⟨rfl, rfl⟩))
  go_ret
  exact ⟨rfl, rfl⟩

set_option maxHeartbeats 400000 in
theorem refTurn_any (h : Int) (s : ByteArray) (w : World) (hs : s.size ≤ maxLen) :
    Calls Try.prog 42 #[.int .u64 h, .string s] w fun e w' => e = .returned (.int .u64 (hash h s.data.toList)) ∧ w' = w := by
  unfold maxLen at hs
  go_enter Try.func42, Try.ntmps42
  go_wp2
  go_loop [0, 5] (fun t i => ∃ k : Nat, k ≤ s.size ∧ i = .int .i64 k ∧ t = .int .u64 (hash h (s.data.toList.take k))) (fun _ i => s.size - (intOf i).toNat)
  case atStart => exact ⟨0, Nat.zero_le _, rfl, rfl⟩
  case round =>
    obtain ⟨k, hk, rfl, rfl⟩ := hrel
    by_cases hlt : k < s.size
    · have HS : Hid (hash h (s.data.toList.take (k + 1)) = turn1 (hash h (s.data.toList.take k)) (s[k].toNat : Int)) := by
        unfold Hid; rw [take_snoc s k hlt, hash_snoc]
      have hx1 : (s[k].toNat : Int) ≤ 255 := by have := s[k].toNat_lt; omega
      go_wp2
      go_round
      case rel => exact ⟨k + 1, by omega, by go_num, by rw [HS.out]; rfl⟩
      case measure => simp [intOf]; omega
    · have hk8 : Hid (k = s.size) := by unfold Hid; omega
      go_wp2
      go_ret
      exact ⟨ret_int (by rw [hk8.out, List.take_of_length_le (by simp)]), rfl⟩

set_option maxHeartbeats 400000 in
theorem refHash_any (s : ByteArray) (w : World) (hs : s.size ≤ maxLen) :
    Calls Try.prog 24 #[.string s] w fun e w' => e = .returned (.int .u64 (hash offset s.data.toList)) ∧ w' = w := by
  go_enter Try.func24, Try.ntmps24
  go_wp2_with (go_at_call 42; refine (refTurn_any _ _ _ hs).mono ?_; rintro e w' ⟨rfl, rfl⟩)
  go_ret
  exact ⟨rfl, rfl⟩

end Go.Proofs.Ytbccnfbombgdmaa.Bl

/- The bits of a key, one by one: the iterator's own contract, for every loop body that keeps the filter's own cells. -/
set_option linter.unusedVariables false
set_option linter.unusedSimpArgs false
namespace Go.Proofs.Ytbccnfbombgdmaa.Bl
open Go.RowKit Go.Shelf Go.Deep Math
attribute [local go_sem] Oper.semAt_some

/-- What comes at turn k, ahead of the last modulo; the place itself. -/
def at64 (H S : Int) (k : Nat) : Int := (H + (k : Int) * S) % 18446744073709551616
def pl (H S : Int) (n k : Nat) : Nat := (at64 H S k % (n : Int)).toNat
theorem at64_nonneg (H S : Int) (k : Nat) : 0 ≤ at64 H S k := by unfold at64; omega
theorem at64_lt (H S : Int) (k : Nat) : at64 H S k < 18446744073709551616 := by unfold at64; omega
theorem at64_zero (H S : Int) (h0 : 0 ≤ H) (h1 : H < 18446744073709551616) : at64 H S 0 = H := by unfold at64; simp; omega
theorem at64_succ (H S : Int) (k : Nat) : IntKind.u64.wrap (at64 H S k + S) = at64 H S (k + 1) := by
  rw [IntKind.wrap_u64]; unfold at64
  have : ((k + 1 : Nat) : Int) * S = (k : Int) * S + S := by rw [Int.natCast_add, Int.add_mul]; simp
  rw [this]
  generalize (k : Int) * S = z
  omega
theorem pl_lt (H S : Int) (n k : Nat) (hn : 0 < n) : pl H S n k < n := by
  unfold pl
  have h0 := Int.emod_nonneg (at64 H S k) (show (n : Int) ≠ 0 by omega)
  have h1 := Int.emod_lt_of_pos (at64 H S k) (show (0 : Int) < n by omega)
  omega
theorem pl_int (H S : Int) (n k : Nat) (hn : 0 < n) : (at64 H S k).tmod (n : Int) = (pl H S n k : Int) := by
  unfold pl
  rw [Int.tmod_eq_emod_of_nonneg (at64_nonneg H S k)]
  have h0 := Int.emod_nonneg (at64 H S k) (show (n : Int) ≠ 0 by omega)
  omega

def hashK (key : ByteArray) : Int := hash offset key.data.toList
def stepK (key : ByteArray) : Int := bits .or .u64 (hash second0 key.data.toList) 1
theorem hashK_range (key : ByteArray) : 0 ≤ hashK key ∧ hashK key < 18446744073709551616 := hash_range _ _ offset_range.1 offset_range.2
def plF (H S : Int) (n : Nat) (hn : 0 < n) (k : Nat) : Fin n := ⟨pl H S n k, pl_lt H S n k hn⟩
def upto {α : Type} (f : Nat → α) (k : Nat) : List α := (List.range k).map f
theorem upto_succ {α : Type} (f : Nat → α) (k : Nat) : upto f (k + 1) = upto f k ++ [f k] := by simp [upto, List.range_succ]
theorem upto_length {α : Type} (f : Nat → α) (k : Nat) : (upto f k).length = k := by simp [upto]

/-- What the iterator wants kept across a round: the box of the filter's pointer, the filter's first cell. -/
def KpB (fb f : Nat) (W W' : World) : Prop := W'.cell? ⟨fb, 0, none⟩ = W.cell? ⟨fb, 0, none⟩ ∧ W'.cell? ⟨f, 0, none⟩ = W.cell? ⟨f, 0, none⟩
theorem KpB.t {fb f : Nat} {A B C : World} (h : KpB fb f A B) (k : KpB fb f B C) : KpB fb f A C := ⟨k.1.trans h.1, k.2.trans h.2⟩
theorem KpB.of_blocks {fb f : Nat} {W W' : World} (h1 : W'.heap[fb]? = W.heap[fb]?) (h2 : W'.heap[f]? = W.heap[f]?) : KpB fb f W W' := by
  constructor <;> simp [World.cell?, h1, h2]
theorem KpB.b {fb f : Nat} {w : World} (h1 : fb < w.heap.size) (h2 : f < w.heap.size) (W : World) (l : Nat) (o o' : Obj) (hl : w.heap.size ≤ l) (h : W.heap[l]? = some o) (_ : o.isCells = false) (_ : o.isWalk = false) : KpB fb f W (W.putObj l o') :=
  KpB.of_blocks (World.putObj_heap_other (by omega)) (World.putObj_heap_other (by omega))

set_option maxRecDepth 100000 in
set_option maxHeartbeats 2000000 in
theorem places1_in (m : Nat) (hm : 1 ≤ m) (l kb fb f s n t : Nat) (key : ByteArray) (hk : key.size ≤ maxLen) (hn : 0 < n) (hn2 : n ≤ 65536) (ht : t ≤ 8) (J Jx : List (Fin n) → World → Prop)
    (hJd : ∀ pre W, J pre W → J pre W.drew)
    (hY : ∀ pre x W, J pre W → pre.length < t → YieldAt Fence.wide (m - 1) Try.prog l #[.int .i64 ((x : Fin n).val : Int)] W fun e W' =>
      (e = .returned (.bool true) ∧ J (pre ++ [x]) W' ∧ KpB fb f W W') ∨ (e = .returned (.bool false) ∧ Jx (pre ++ [x]) W'))
    (W : World) (hkb : W.cell? ⟨kb, 0, none⟩ = some (.string key)) (hfb : W.cell? ⟨fb, 0, none⟩ = some (.pointer (some ⟨f, 0, none⟩)))
    (hf0 : W.cell? ⟨f, 0, none⟩ = some (.slice (some ⟨s, 0, none⟩) n n)) (hf1 : W.cell? ⟨f, 1, none⟩ = some (.int .i64 t)) (h0 : J [] W) :
    CallsIn Fence.wide m Try.prog 62 #[.func (.yield l) #[] #[], .pointer (some ⟨kb, 0, none⟩), .pointer (some ⟨fb, 0, none⟩)] W fun e W' => (∃ v, e = .returned v) ∧
      ((∃ ys, ys = upto (plF (hashK key) (stepK key) n hn) t ∧ J ys W') ∨ (∃ pre, (∃ k, k ≤ t ∧ pre = upto (plF (hashK key) (stepK key) n hn) k) ∧ Jx pre W')) := by
  have cH : Hid (∀ W : World, CallsIn Fence.wide (m - 1) Try.prog 45 #[.string key] W fun e w' => e = .returned (.int .u64 (hashK key)) ∧ w' = W) := fun W => callsIn_wide.2 (hash_any key W hk)
  have cS : Hid (∀ W : World, CallsIn Fence.wide (m - 1) Try.prog 63 #[.string key] W fun e w' => e = .returned (.int .u64 (hash second0 key.data.toList)) ∧ w' = W) := fun W => callsIn_wide.2 (second_any key W hk)
  have hmx : Try.prog.follows .mixedOrders = true := by kernel_rfl
  refine callsIn_of_wp Try.func62 rfl trivial ?_ rfl
  simp only [Try.ntmps62, List.size_toArray, List.length_cons, List.length_nil, Nat.reduceAdd, Nat.reduceSub, Array.replicate_succ, Array.replicate_zero, List.push_toArray, List.append_toArray, List.nil_append, List.cons_append]
  gi_wp2
  gi_region_with_o (refine ⟨trivial, ?_⟩; first | (gi_at_call 45; refine (cH.out _).mono ?_; rintro e w' ⟨rfl, rfl⟩) | (gi_at_call 63; refine (cS.out _).mono ?_; rintro e w' ⟨rfl, rfl⟩))
  all_goals clear cH cS hmx hk
  all_goals gi_wp2
  all_goals
    gi_loopw [4, 15] (fun a i wr => ∃ k : Nat, k ≤ t ∧ i = .int .i64 k ∧ a = .int .u64 (at64 (hashK key) (stepK key) k) ∧ Hid (J (upto (plF (hashK key) (stepK key) n hn) k) wr) ∧ Hid (KpB fb f W wr))
      (fun a i _ => t - (intOf i).toNat)
    case atStart => exact ⟨0, Nat.zero_le _, rfl, by rw [at64_zero (hashK key) _ (hashK_range key).1 (hashK_range key).2], hJd _ _ h0, rfl, rfl⟩
    case round =>
      obtain ⟨k, hk, rfl, rfl, hJs, hK⟩ := hrel
      have hfb' := hK.out.1.trans hfb
      have hf0' := hK.out.2.trans hf0
      by_cases hlt : k < t
      · obtain ⟨fn, tmps, assign, body, hy, hR⟩ := hY _ (plF (hashK key) (stepK key) n hn k) wr hJs.out (by rw [upto_length]; exact hlt)
        have e1 := pl_int (hashK key) (stepK key) n k hn
        have e2 := at64_succ (hashK key) (stepK key) k
        have e3 : pl (hashK key) (stepK key) n k < n := pl_lt _ _ _ _ hn
        have e4 : IntKind.u64.wrap (n : Int) = (n : Int) := by rw [IntKind.wrap_u64]; omega
        have e5 : IntKind.i64.wrap (pl (hashK key) (stepK key) n k : Int) = (pl (hashK key) (stepK key) n k : Int) := by rw [IntKind.wrap_i64]; omega
        have e6 : IntKind.u64.wrap (pl (hashK key) (stepK key) n k : Int) = (pl (hashK key) (stepK key) n k : Int) := by rw [IntKind.wrap_u64]; omega
        have e7 : ¬ (n : Int) = 0 := by omega
        have hs : IntKind.u64.signed = false := rfl
        dsimp only [plF] at hy
        gi_wp2
        refine hR.mono ?_
        rintro e W3 (⟨rfl, hJ3, hk3⟩ | ⟨rfl, hJx3⟩)
        · have J3 := hide hJ3
          have K3 := hide (hK.out.t hk3)
          clear hJ3 hk3
          gi_wp2
          go_roundw
          case rel => exact ⟨k + 1, by omega, by simp, by rw [← e2]; rfl, by rw [upto_succ]; exact J3.out, K3.out⟩
          case measure => simp [intOf]; omega
        · gi_wp2
          refine bodyPost_ret (results_none rfl _ _ _) rfl ?_
          exact ⟨⟨_, rfl⟩, .inr ⟨_, ⟨k + 1, by omega, (upto_succ _ _).symm⟩, hJx3⟩⟩
      · obtain rfl : k = t := by omega
        gi_wp2
        go_end0
        exact ⟨⟨_, rfl⟩, .inl ⟨_, rfl, hJs.out⟩⟩

theorem places_stops (m : Nat) (hm : 1 ≤ m) (kb fb f s n t : Nat) (key : ByteArray) (hk : key.size ≤ maxLen) (hn : 0 < n) (hn2 : n ≤ 65536) (ht : t ≤ 8) (w : World)
    (hkb : w.cell? ⟨kb, 0, none⟩ = some (.string key)) (hfb : w.cell? ⟨fb, 0, none⟩ = some (.pointer (some ⟨f, 0, none⟩)))
    (hf0 : w.cell? ⟨f, 0, none⟩ = some (.slice (some ⟨s, 0, none⟩) n n)) (hf1 : w.cell? ⟨f, 1, none⟩ = some (.int .i64 t)) :
    SeqStopsK Fence.wide m Try.prog 62 #[.pointer (some ⟨kb, 0, none⟩), .pointer (some ⟨fb, 0, none⟩)] (fun x : Fin n => #[Value.int .i64 (x.val : Int)]) (KpB fb f)
      (fun ys => ys = upto (plF (hashK key) (stepK key) n hn) t) (fun pre => ∃ k, k ≤ t ∧ pre = upto (plF (hashK key) (stepK key) n hn) k) t w := fun l J Jx W hW hJ hJx hY h0 => by
  refine places1_in m hm l kb fb f s n t key hk hn hn2 ht J Jx ?_ hY W (cell_later hW hkb) (cell_later hW hfb) (cell_later hW hf0) (cell_later hW hf1) h0
  intro pre W1 h1
  exact hJ pre W1 _ none h1 ⟨rfl, rfl, rfl, Nat.le_refl _, fun _ _ _ => rfl⟩ (fun r e => by cases e)
end Go.Proofs.Ytbccnfbombgdmaa.Bl

/- A filter in memory: New, Add, May. -/
set_option linter.unusedVariables false
set_option linter.unusedSimpArgs false
namespace Go.Proofs.Ytbccnfbombgdmaa.Bl
open Go.RowKit Go.Shelf Go.Deep Math
attribute [local go_sem] Oper.semAt_some

/-- The filter f, its bits in block s. -/
structure FltIn (w : World) (f s : Nat) (l : List Bool) (t : Nat) : Prop where
  own : Blk w f [.slice (some ⟨s, 0, none⟩) l.length l.length, .int .i64 t] 89
  row : Blk w s (l.map Value.bool) 4
  ne : f ≠ s
  n8 : 8 ≤ l.length
  n9 : l.length ≤ 65536
  t1 : 1 ≤ t
  t8 : t ≤ 8
theorem FltIn.same {w w' : World} {f s : Nat} {l : List Bool} {t : Nat} (h : FltIn w f s l t) (h1 : w'.heap[f]? = w.heap[f]?) (h2 : w'.heap[s]? = w.heap[s]?) : FltIn w' f s l t :=
  ⟨h.own.same h1, h.row.same h2, h.ne, h.n8, h.n9, h.t1, h.t8⟩
theorem FltIn.keep {w w' : World} {f s : Nat} {l : List Bool} {t : Nat} (h : FltIn w f s l t) {F : List Nat} (k : Keep F w w') (h1 : f ∉ F) (h2 : s ∉ F) : FltIn w' f s l t :=
  h.same (k.block f h.own.lt h1) (k.block s h.row.lt h2)
theorem FltIn.alloc {w : World} {f s : Nat} {l : List Bool} {t : Nat} (h : FltIn w f s l t) (o : Obj) : FltIn (w.alloc o) f s l t :=
  ⟨h.own.alloc o, h.row.alloc o, h.ne, h.n8, h.n9, h.t1, h.t8⟩
theorem FltIn.drew {w : World} {f s : Nat} {l : List Bool} {t : Nat} (h : FltIn w f s l t) : FltIn w.drew f s l t := h.same rfl rfl
theorem FltIn.below {w w' : World} {f s : Nat} {l : List Bool} {t : Nat} (h : FltIn w f s l t) (k : Below w.heap.size w w') : FltIn w' f s l t :=
  h.same (k.block f h.own.lt) (k.block s h.row.lt)

/-- Bits set one after the other. -/
def setB (l : List Bool) (ps : List Nat) : List Bool := ps.foldl (fun l i => l.set i true) l
theorem setB_nil (l : List Bool) : setB l [] = l := rfl
theorem setB_snoc (l : List Bool) (ps : List Nat) (i : Nat) : setB l (ps ++ [i]) = (setB l ps).set i true := by simp [setB]
theorem setB_append (l : List Bool) (ps qs : List Nat) : setB l (ps ++ qs) = setB (setB l ps) qs := by simp [setB]
theorem setB_length (l : List Bool) (ps : List Nat) : (setB l ps).length = l.length := by
  induction ps generalizing l with
  | nil => rfl
  | cons x xs ih => show (setB (l.set x true) xs).length = _; rw [ih]; simp
/-- The bits of a key. -/
def plc (key : ByteArray) (n t : Nat) : List Nat := upto (pl (hashK key) (stepK key) n) t

theorem FltIn.set {w : World} {f s : Nat} {l : List Bool} {t : Nat} (h : FltIn w f s l t) (i : Nat) : FltIn (w.setCell ⟨s, i, none⟩ (.bool true)) f s (l.set i true) t := by
  refine ⟨?_, ?_, h.ne, by simpa using h.n8, by simpa using h.n9, h.t1, h.t8⟩
  · rw [List.length_set]; exact h.own.other (a := ⟨s, i, none⟩) h.ne _
  · have := h.row.set i (.bool true); rw [List.map_set]; exact this

theorem info4 : (Try.prog.info? 4).map (fun i => (i.zero, i.size, i.bytes)) = some (some (.bool false), 1, 1) := by kernel_rfl
def boolsA (l : List Bool) : Array Value := (l.map Value.bool).toArray
/-- 'make([]bool, n)'. -/
theorem run_make_bools (n : Nat) (hn : n ≤ 1000000) (w : World) :
    (Instr.makeSlice 87 (.int .i64 (n : Int)) (.int .i64 (n : Int))).run Try.prog w = .ok (.slice (some ⟨w.heap.size, 0, none⟩) n n) (w.alloc (.cells (boolsA (List.replicate n false)) 4)) := by
  unfold boolsA
  obtain ⟨i, hi, hi2⟩ := Option.map_eq_some_iff.1 info4
  simp only [Prod.mk.injEq] at hi2
  obtain ⟨hz0, hz1, hz2⟩ := hi2
  have := run_make (P := Try.prog) w 87 4 i (.bool false) Try.underlying87 hi hz0 .i64 .i64 (n : Int) (n : Int) (by omega) (by omega) (by rw [hz2]; omega) (by omega)
  rw [this, hz1]
  have e : madeCells (Value.bool false).cells ((n : Int).toNat * 1) = ((List.replicate n false).map Value.bool).toArray := by
    have hc : (Value.bool false).cells = #[.bool false] := rfl
    rw [hc, Int.toNat_natCast, Nat.mul_one]
    unfold madeCells
    apply Array.ext
    · simp
    · intro j h1 h2
      simp [Nat.mod_one]
  rw [e, Int.toNat_natCast]

set_option maxHeartbeats 400000 in
theorem new_bad (b t : Int) (w : World) (h : b < 8 ∨ 65536 < b ∨ t < 1 ∨ 8 < t) :
    Calls Try.prog 43 #[.int .i64 b, .int .i64 t] w fun e w' => e = .returned (.tuple #[.pointer none, .int .i64 1]) ∧ w' = w := by
  by_cases h1 : b < 8
  · clear h
    go_enter Try.func43, Try.ntmps43
    go_wp2
    go_ret2
    exact ⟨rfl, rfl⟩
  by_cases h2 : 65536 < b
  · clear h
    go_enter Try.func43, Try.ntmps43
    go_wp2
    go_ret2
    exact ⟨rfl, rfl⟩
  by_cases h3 : t < 1
  · clear h
    go_enter Try.func43, Try.ntmps43
    go_wp2
    go_ret2
    exact ⟨rfl, rfl⟩
  have h4 : 8 < t := by omega
  clear h
  go_enter Try.func43, Try.ntmps43
  go_wp2
  go_ret2
  exact ⟨rfl, rfl⟩

set_option maxHeartbeats 400000 in
theorem new_ok (n t : Nat) (w : World) (h1 : 8 ≤ n) (h2 : n ≤ 65536) (h3 : 1 ≤ t) (h4 : t ≤ 8) :
    Calls Try.prog 43 #[.int .i64 n, .int .i64 t] w fun e w' => e = .returned (.tuple #[.pointer (some ⟨w.heap.size + 1, 0, none⟩), .int .i64 0]) ∧ FltIn w' (w.heap.size + 1) w.heap.size (List.replicate n false) t ∧ Below w.heap.size w w' := by
  have e1 : ¬ (n : Int) < 8 := by omega
  have e2 : ¬ (65536 : Int) < (n : Int) := by omega
  have e3 : ¬ (t : Int) < 1 := by omega
  have e4 : ¬ (8 : Int) < (t : Int) := by omega
  have hmk := run_make_bools n (by omega)
  go_enter Try.func43, Try.ntmps43
  go_wp2
  go_ret2
  refine ⟨rfl, ⟨?_, ?_, by omega, by simpa using h1, by simpa using h2, h3, h4⟩, ((Below.refl _ w).alloc (Nat.le_refl _) _).alloc (by simp) _⟩
  · have := Blk.new (w.alloc (.cells (boolsA (List.replicate n false)) 4)) [.slice (some ⟨w.heap.size, 0, none⟩) n n, .int .i64 t] 89
    rw [World.size_alloc] at this
    rw [List.length_replicate]
    exact this
  · exact (Blk.new w ((List.replicate n false).map Value.bool) 4).alloc _

theorem places_any (f : Nat) (key : ByteArray) (w : World) :
    Calls Try.prog 52 #[.pointer (some ⟨f, 0, none⟩), .string key] w fun e w' => e = .returned (.func (.func 62) #[] #[.pointer (some ⟨w.heap.size + 1, 0, none⟩), .pointer (some ⟨w.heap.size, 0, none⟩)]) ∧
      w' = (w.alloc (.cells #[.pointer (some ⟨f, 0, none⟩)] 67)).alloc (.cells #[.string key] 9) := by
  go_enter Try.func52, Try.ntmps52
  go_wp2
  go_ret
  exact ⟨rfl, rfl⟩
end Go.Proofs.Ytbccnfbombgdmaa.Bl

/- Add: a key's bits are set. -/
set_option linter.unusedVariables false
set_option linter.unusedSimpArgs false
namespace Go.Proofs.Ytbccnfbombgdmaa.Bl
open Go.RowKit Go.Shelf Go.Deep Math
attribute [local go_sem] Oper.semAt_some

theorem grown_at {W W' : World} {row : Option Nat} (hg : W.grownBy W' row) {B : Nat} (hr : ∀ r, row = some r → B ≤ r) {k : Nat} (hk : k < B) (hs : k < W.heap.size) : W'.heap[k]? = W.heap[k]? :=
  hg.block k hs (fun e => by have := hr k e.symm; omega)

/-- What holds between two rounds of Add. -/
def AddI (w : World) (f s n t : Nat) (l : List Bool) (B : Nat) (pre : List (Fin n)) (W : World) : Prop :=
  FltIn W f s (setB l (pre.map Fin.val)) t ∧ Blk W w.heap.size [.pointer (some ⟨f, 0, none⟩)] 67 ∧ Keep [s] w W ∧ f < w.heap.size ∧ s < w.heap.size ∧ w.heap.size < B ∧ l.length = n
theorem AddI.own {w : World} {f s n t : Nat} {l : List Bool} {B : Nat} : OwnFrom B (AddI w f s n t l B) := by
  rintro pre W W' row ⟨h1, h2, h3, h4, h5, h6, h7⟩ hg hr
  have e : ∀ k, k < B → k < W.heap.size → W'.heap[k]? = W.heap[k]? := fun k hk hs => grown_at hg (fun r e => (hr r e).1) hk hs
  exact ⟨h1.same (e _ (by omega) h1.own.lt) (e _ (by omega) h1.row.lt), h2.same (e _ h6 h2.lt), h3.grown hg (fun k e => .inr (by have := (hr k e).1; omega)), h4, h5, h6, h7⟩

theorem map_plF (key : ByteArray) (n t : Nat) (hn : 0 < n) : (upto (plF (hashK key) (stepK key) n hn) t).map Fin.val = plc key n t := by
  simp [upto, plc, plF, Function.comp_def]

set_option maxRecDepth 100000 in
set_option maxHeartbeats 2000000 in
theorem add_any (f s t : Nat) (l : List Bool) (key : ByteArray) (hk : key.size ≤ maxLen) (w : World) (h : FltIn w f s l t) :
    Calls Try.prog 37 #[.pointer (some ⟨f, 0, none⟩), .string key] w fun e w' => e = .returned (.tuple #[]) ∧ FltIn w' f s (setB l (plc key l.length t)) t ∧ Keep [s] w w' := by
  refine (callsIn_wide (n := 5)).1 ?_
  have cP : Hid (∀ W : World, CallsIn Fence.wide 4 Try.prog 52 #[.pointer (some ⟨f, 0, none⟩), .string key] W fun e w' => e = .returned (.func (.func 62) #[] #[.pointer (some ⟨W.heap.size + 1, 0, none⟩), .pointer (some ⟨W.heap.size, 0, none⟩)]) ∧
      w' = (W.alloc (.cells #[.pointer (some ⟨f, 0, none⟩)] 67)).alloc (.cells #[.string key] 9)) := fun W => callsIn_wide.2 (places_any f key W)
  refine callsIn_of_wp_marks Try.func37 rfl trivial ?_ rfl
  simp only [Try.ntmps37, List.size_toArray, List.length_cons, List.length_nil, Nat.reduceAdd, Nat.reduceSub, Array.replicate_succ, Array.replicate_zero, List.push_toArray, List.append_toArray, List.nil_append, List.cons_append]
  gi_wp2_with (refine ⟨trivial, ?_⟩; gi_at_call 52; refine (cP.out _).mono ?_; rintro e w' ⟨rfl, rfl⟩)
  obtain ⟨n, hnl⟩ : ∃ n, n = l.length := ⟨_, rfl⟩
  have hn : 0 < n := by have := h.n8; omega
  obtain ⟨W0, hW0⟩ : ∃ W0, ((w.alloc (.cells #[.pointer (some ⟨f, 0, none⟩)] 67)).alloc (.cells #[.pointer (some ⟨f, 0, none⟩)] 67)).alloc (.cells #[.string key] 9) = W0 := ⟨_, rfl⟩
  have b0 := (((Blk.new w [.pointer (some ⟨f, 0, none⟩)] 67).alloc (.cells #[.pointer (some ⟨f, 0, none⟩)] 67)).alloc (.cells #[.string key] 9))
  have b1 := (Blk.new (w.alloc (.cells #[.pointer (some ⟨f, 0, none⟩)] 67)) [.pointer (some ⟨f, 0, none⟩)] 67).alloc (.cells #[.string key] 9)
  have b2 := Blk.new ((w.alloc (.cells #[.pointer (some ⟨f, 0, none⟩)] 67)).alloc (.cells #[.pointer (some ⟨f, 0, none⟩)] 67)) [.string key] 9
  have hF0 := ((h.alloc (.cells #[.pointer (some ⟨f, 0, none⟩)] 67)).alloc (.cells #[.pointer (some ⟨f, 0, none⟩)] 67)).alloc (.cells #[.string key] 9)
  have K0 := (((Keep.refl [s] w).alloc (.cells #[.pointer (some ⟨f, 0, none⟩)] 67)).alloc (.cells #[.pointer (some ⟨f, 0, none⟩)] 67)).alloc (.cells #[.string key] 9)
  simp only [World.size_alloc, List.cons.injEq] at b0 b1 b2
  have hsz : W0.heap.size = w.heap.size + 3 := by rw [← hW0]; simp
  rw [hW0] at b0 b1 b2 hF0 K0
  simp only [hW0]
  clear cP
  have HX := hide hW0
  clear hW0
  refine wpIn_rangeFunc_ownF rfl (by omega) (gf := 62) (lb := #[.pointer (some ⟨w.heap.size + 1 + 1, 0, none⟩), .pointer (some ⟨w.heap.size + 1, 0, none⟩)]) rfl trivial (enters_of Try.func62 (by kernel_rfl) rfl)
    (places_stops (5 - 1) (by omega) (w.heap.size + 1 + 1) (w.heap.size + 1) f s n t key hk hn (by have := h.n9; omega) h.t8 W0 (b2.cell (i := 0) rfl) (b1.cell (i := 0) rfl) (by rw [hnl]; exact hF0.own.cell (i := 0) rfl) (hF0.own.cell (i := 1) rfl))
    (fun h k => KpB.t h k) (KpB.b (by rw [hsz]; omega) hF0.own.lt) (Below.refl _ _) (fun _ => rfl)
    (AddI w f s n t l W0.heap.size) (fun _ _ _ => False) AddI.own (fun _ _ _ _ _ hs _ _ => hs)
    ⟨hF0, b0, K0, h.own.lt, h.row.lt, by rw [hsz]; omega, hnl.symm⟩
    (fun x => { tmps := #[.pointer (some ⟨f, 0, none⟩), .string key, .pointer (some ⟨w.heap.size, 0, none⟩), undef, .int .i64 (x.val : Int), .pointer (some ⟨f, 0, none⟩), .string key, .func (.func 62) #[] #[.pointer (some ⟨w.heap.size + 1 + 1, 0, none⟩), .pointer (some ⟨w.heap.size + 1, 0, none⟩)], .int .i64 (x.val : Int), undef, undef, undef, undef, undef, undef], defers := [] }) ?assign ?body ?done ?stop
  case assign =>
    intro l x W K hK
    gi_wp2
    exact hK
  case body =>
    rintro l0 pre x W ⟨h1, h2, h3, h4, h5, h6, h7⟩ hp
    have c0 := h2.cell (i := 0) rfl
    have hln : (setB l (pre.map Fin.val)).length = n := by rw [setB_length, h7]
    have c1 := h1.own.cell (i := 0) rfl
    rw [hln] at c1
    have hx : (x.val : Int) < (n : Int) := by have := x.isLt; omega
    have hx2 : x.val < n := x.isLt
    have c2 : W.cell? ⟨s, x.val, none⟩ = some (.bool ((setB l (pre.map Fin.val)).getD x.val false)) := h1.row.cell (by rw [List.getElem?_map, List.getElem?_eq_getElem (by omega), List.getD_eq_getElem?_getD, List.getElem?_eq_getElem (by omega)]; rfl)
    have c3 := h1.row.frozen x.val
    have G := hide (And.intro h1 (And.intro h2 (And.intro h3 (And.intro h4 (And.intro h5 (And.intro h6 h7))))))
    clear h1 h2 h3 h4 h5 h6 h7 hln
    gi_wp2
    obtain ⟨h1, h2, h3, h4, h5, h6, h7⟩ := G.out
    refine ⟨KeepsOthers.setCell _ _ _, ?_, ?_, ?_, ?_, h4, h5, h6, h7⟩
    · exact KpB.of_blocks (blk_setCell_other _ _ _ _ (show w.heap.size + 1 ≠ s by omega)) (blk_setCell_other _ _ _ _ (show f ≠ s from h1.ne))
    · rw [List.map_append, List.map_cons, List.map_nil, setB_snoc]
      exact h1.set x.val
    · exact h2.other (a := ⟨s, x.val, none⟩) (show w.heap.size ≠ s by omega) _
    · exact h3.setCell (p := ⟨s, x.val, none⟩) (.inl (by simp)) _
  case done =>
    rintro D ys W hD rfl hI hK
    gi_wp2
    refine ⟨by simp, .inl ⟨_, _, rfl, run_takeDeferred hK, ?_⟩⟩
    have h8 := AddI.own (w := w) (f := f) (s := s) (n := n) (t := t) (l := l) (B := W0.heap.size) _ _ _ _ hI (grownBy_putObj' W D (.deferred none)) (fun r e => by cases e; exact ⟨hD, _, hK, rfl⟩)
    refine ⟨_, results_none rfl _ _ _, rfl, ?_, h8.2.2.1⟩
    have := h8.1
    rw [map_plF, hnl] at this
    exact this
  case stop =>
    rintro D c pre W _ _ h _
    exact h.elim
end Go.Proofs.Ytbccnfbombgdmaa.Bl

/- May: are all of a key's bits set? -/
set_option linter.unusedVariables false
set_option linter.unusedSimpArgs false
namespace Go.Proofs.Ytbccnfbombgdmaa.Bl
open Go.RowKit Go.Shelf Go.Deep Math
attribute [local go_sem] Oper.semAt_some

def mayB (l : List Bool) (ps : List Nat) : Bool := ps.all fun i => l.getD i false
theorem mayB_snoc (l : List Bool) (ps : List Nat) (i : Nat) : mayB l (ps ++ [i]) = (mayB l ps && l.getD i false) := by simp [mayB]

/-- What holds in May, the bits so far having said c. -/
structure MayS (w : World) (f s t : Nat) (l : List Bool) (B : Nat) (W : World) : Prop where
  flt : FltIn W f s l t
  box : Blk W w.heap.size [.pointer (some ⟨f, 0, none⟩)] 67
  res : Blk W (w.heap.size + 1) [.bool false] 4
  bel : Below w.heap.size w W
  lf : f < w.heap.size
  ls : s < w.heap.size
  lb : w.heap.size + 1 < B
theorem MayS.turn {w : World} {f s t : Nat} {l : List Bool} {B : Nat} {W W' : World} {row : Option Nat} (h : MayS w f s t l B W) (hg : W.grownBy W' row) (hr : ∀ r, row = some r → B ≤ r) : MayS w f s t l B W' := by
  obtain ⟨h1, h2, h3, h4, h5, h6, h7⟩ := h
  have e : ∀ k, k < B → k < W.heap.size → W'.heap[k]? = W.heap[k]? := fun k hk hs => grown_at hg hr hk hs
  exact ⟨h1.same (e _ (by omega) h1.own.lt) (e _ (by omega) h1.row.lt), h2.same (e _ (by omega) h2.lt), h3.same (e _ (by omega) h3.lt), h4.grown hg (h4.size) (fun k e => by have := hr k e; omega), h5, h6, h7⟩

def MayI (w : World) (f s n t : Nat) (l : List Bool) (B : Nat) (pre : List (Fin n)) (W : World) : Prop := MayS w f s t l B W ∧ mayB l (pre.map Fin.val) = true
def MayX (w : World) (f s n t : Nat) (l : List Bool) (B : Nat) (c : Code) (pre : List (Fin n)) (W : World) : Prop := c = .ret ∧ MayS w f s t l B W ∧ mayB l (pre.map Fin.val) = false
theorem MayI.own {w : World} {f s n t : Nat} {l : List Bool} {B : Nat} : OwnFrom B (MayI w f s n t l B) :=
  fun _ _ _ _ h hg hr => ⟨h.1.turn hg (fun r e => (hr r e).1), h.2⟩
theorem MayX.own {w : World} {f s n t : Nat} {l : List Bool} {B : Nat} (c : Code) : OwnFrom B (MayX w f s n t l B c) :=
  fun _ _ _ _ h hg hr => ⟨h.1, h.2.1.turn hg (fun r e => (hr r e).1), h.2.2⟩

theorem upto_prefix {α : Type} (f : Nat → α) (k t : Nat) (h : k ≤ t) : upto f k <+: upto f t := by
  obtain ⟨d, rfl⟩ := Nat.exists_eq_add_of_le h
  induction d with
  | zero => exact List.prefix_refl _
  | succ d ih => rw [← Nat.add_assoc, upto_succ]; exact (ih (by omega)).trans (List.prefix_append _ _)
theorem mayB_prefix {l : List Bool} {p q : List Nat} (h : p <+: q) (hp : mayB l p = false) : mayB l q = false := by
  obtain ⟨r, rfl⟩ := h
  unfold mayB at hp ⊢
  rw [List.all_append, hp, Bool.false_and]

set_option maxRecDepth 100000 in
set_option maxHeartbeats 2000000 in
theorem may_any (f s t : Nat) (l : List Bool) (key : ByteArray) (hk : key.size ≤ maxLen) (w : World) (h : FltIn w f s l t) :
    Calls Try.prog 39 #[.pointer (some ⟨f, 0, none⟩), .string key] w fun e w' => e = .returned (.bool (mayB l (plc key l.length t))) ∧ Below w.heap.size w w' := by
  refine (callsIn_wide (n := 5)).1 ?_
  have cP : Hid (∀ W : World, CallsIn Fence.wide 4 Try.prog 52 #[.pointer (some ⟨f, 0, none⟩), .string key] W fun e w' => e = .returned (.func (.func 62) #[] #[.pointer (some ⟨W.heap.size + 1, 0, none⟩), .pointer (some ⟨W.heap.size, 0, none⟩)]) ∧
      w' = (W.alloc (.cells #[.pointer (some ⟨f, 0, none⟩)] 67)).alloc (.cells #[.string key] 9)) := fun W => callsIn_wide.2 (places_any f key W)
  refine callsIn_of_wp_marks Try.func39 rfl trivial ?_ rfl
  simp only [Try.ntmps39, List.size_toArray, List.length_cons, List.length_nil, Nat.reduceAdd, Nat.reduceSub, Array.replicate_succ, Array.replicate_zero, List.push_toArray, List.append_toArray, List.nil_append, List.cons_append]
  gi_wp2_with (refine ⟨trivial, ?_⟩; gi_at_call 52; refine (cP.out _).mono ?_; rintro e w' ⟨rfl, rfl⟩)
  obtain ⟨n, hnl⟩ : ∃ n, n = l.length := ⟨_, rfl⟩
  have hn : 0 < n := by have := h.n8; omega
  obtain ⟨W0, hW0⟩ : ∃ W0, (((w.alloc (.cells #[.pointer (some ⟨f, 0, none⟩)] 67)).alloc (.cells #[.bool false] 4)).alloc (.cells #[.pointer (some ⟨f, 0, none⟩)] 67)).alloc (.cells #[.string key] 9) = W0 := ⟨_, rfl⟩
  have b0 := ((((Blk.new w [.pointer (some ⟨f, 0, none⟩)] 67).alloc (.cells #[.bool false] 4)).alloc (.cells #[.pointer (some ⟨f, 0, none⟩)] 67)).alloc (.cells #[.string key] 9))
  have br := ((Blk.new (w.alloc (.cells #[.pointer (some ⟨f, 0, none⟩)] 67)) [.bool false] 4).alloc (.cells #[.pointer (some ⟨f, 0, none⟩)] 67)).alloc (.cells #[.string key] 9)
  have b1 := (Blk.new ((w.alloc (.cells #[.pointer (some ⟨f, 0, none⟩)] 67)).alloc (.cells #[.bool false] 4)) [.pointer (some ⟨f, 0, none⟩)] 67).alloc (.cells #[.string key] 9)
  have b2 := Blk.new (((w.alloc (.cells #[.pointer (some ⟨f, 0, none⟩)] 67)).alloc (.cells #[.bool false] 4)).alloc (.cells #[.pointer (some ⟨f, 0, none⟩)] 67)) [.string key] 9
  have hF0 := (((h.alloc (.cells #[.pointer (some ⟨f, 0, none⟩)] 67)).alloc (.cells #[.bool false] 4)).alloc (.cells #[.pointer (some ⟨f, 0, none⟩)] 67)).alloc (.cells #[.string key] 9)
  have K0 : Below w.heap.size w ((((w.alloc (.cells #[.pointer (some ⟨f, 0, none⟩)] 67)).alloc (.cells #[.bool false] 4)).alloc (.cells #[.pointer (some ⟨f, 0, none⟩)] 67)).alloc (.cells #[.string key] 9)) := ((((Below.refl _ w).alloc (Nat.le_refl _) _).alloc (by simp) _).alloc (by simp; omega) _).alloc (by simp; omega) _
  simp only [World.size_alloc, List.cons.injEq] at b0 b1 b2 br
  have hsz : W0.heap.size = w.heap.size + 4 := by rw [← hW0]; simp
  rw [hW0] at b0 b1 b2 br hF0 K0
  simp only [hW0]
  clear cP
  have HX := hide hW0
  clear hW0
  refine wpIn_rangeFunc_ownF rfl (by omega) (gf := 62) (lb := #[.pointer (some ⟨w.heap.size + 1 + 1 + 1, 0, none⟩), .pointer (some ⟨w.heap.size + 1 + 1, 0, none⟩)]) rfl trivial (enters_of Try.func62 (by kernel_rfl) rfl)
    (places_stops (5 - 1) (by omega) (w.heap.size + 1 + 1 + 1) (w.heap.size + 1 + 1) f s n t key hk hn (by have := h.n9; omega) h.t8 W0 (b2.cell (i := 0) rfl) (b1.cell (i := 0) rfl) (by rw [hnl]; exact hF0.own.cell (i := 0) rfl) (hF0.own.cell (i := 1) rfl))
    (fun h k => KpB.t h k) (KpB.b (by rw [hsz]; omega) hF0.own.lt) (Below.refl _ _) (fun _ => rfl)
    (MayI w f s n t l W0.heap.size) (MayX w f s n t l W0.heap.size) MayI.own MayX.own
    ⟨⟨hF0, b0, br, K0, h.own.lt, h.row.lt, by rw [hsz]; omega⟩, rfl⟩
    (fun x => { tmps := #[.pointer (some ⟨f, 0, none⟩), .string key, .pointer (some ⟨w.heap.size, 0, none⟩), undef, .pointer (some ⟨w.heap.size + 1, 0, none⟩), .int .i64 (x.val : Int), .pointer (some ⟨f, 0, none⟩), .string key, .func (.func 62) #[] #[.pointer (some ⟨w.heap.size + 1 + 1 + 1, 0, none⟩), .pointer (some ⟨w.heap.size + 1 + 1, 0, none⟩)], .int .i64 (x.val : Int), undef, undef, undef, undef, undef, undef, undef, undef], defers := [] }) ?assign ?body ?done ?stop
  case assign =>
    intro l x W K hK
    gi_wp2
    exact hK
  case body =>
    rintro l0 pre x W ⟨h1, hm⟩ hp
    have c0 := h1.box.cell (i := 0) rfl
    have c1 := h1.flt.own.cell (i := 0) rfl
    rw [← hnl] at c1
    have hx : (x.val : Int) < (n : Int) := by have := x.isLt; omega
    have hx2 : x.val < n := x.isLt
    have c2 : W.cell? ⟨s, x.val, none⟩ = some (.bool (l.getD x.val false)) := h1.flt.row.cell (by rw [List.getElem?_map, List.getElem?_eq_getElem (by omega), List.getD_eq_getElem?_getD, List.getElem?_eq_getElem (by omega)]; rfl)
    have r0 := h1.res.cell (i := 0) rfl
    have r1 := h1.res.frozen 0
    have G := hide (And.intro h1 hm)
    have HN := hide hnl
    clear h1 hm h b0 b1 b2 br hF0 K0 HX hsz hnl
    cases hb : l.getD x.val false
    · rw [hb] at c2
      gi_wp2
      obtain ⟨h1, hm⟩ := G.out
      refine ⟨KeepsOthers.setCell _ _ _, rfl, ⟨h1.flt.same (blk_setCell_other _ _ _ _ (show f ≠ w.heap.size + 1 by have := h1.lf; omega)) (blk_setCell_other _ _ _ _ (show s ≠ w.heap.size + 1 by have := h1.ls; omega)), h1.box.other (a := ⟨w.heap.size + 1, 0, none⟩) (show w.heap.size ≠ w.heap.size + 1 by omega) _, ?_, h1.bel.setCell (p := ⟨w.heap.size + 1, 0, none⟩) (by simp) _, h1.lf, h1.ls, h1.lb⟩, ?_⟩
      · exact h1.res.set 0 (.bool false)
      · rw [List.map_append, List.map_cons, List.map_nil, mayB_snoc, hb, Bool.and_false]
    · rw [hb] at c2
      gi_wp2
      obtain ⟨h1, hm⟩ := G.out
      exact ⟨KeepsOthers.refl _, KpB.of_blocks rfl rfl, h1, by rw [List.map_append, List.map_cons, List.map_nil, mayB_snoc, hb, Bool.and_true, hm]⟩
  case done =>
    rintro D ys W hD rfl hI hK
    have r0 := hI.1.res.cell (i := 0) rfl
    have r1 := hI.1.res.frozen 0
    have G := hide hI
    clear hI h b0 b1 b2 br hF0 K0 HX
    gi_wp2
    have hK' := (KeepsOthers.setCell W ⟨w.heap.size + 1, 0, none⟩ (.bool true)).same D _ hK rfl
    refine ⟨by simp, .inl ⟨_, _, rfl, run_takeDeferred hK', ?_⟩⟩
    have hc5 := cell_kept (World.cell?_setCell_same' W ⟨w.heap.size + 1, 0, none⟩ (.bool true) (by rw [r0]; rfl)) (grownBy_putObj' _ D (.deferred none)) (fun r e => by cases e; exact ⟨_, hK', rfl⟩)
    refine ⟨.bool true, ?_, ?_, ?_⟩
    · simp [results, Try.f39, go_sem, hc5]
    · have := G.out.2
      rw [map_plF, hnl] at this
      rw [this]
    · exact (G.out.1.bel.setCell (p := ⟨w.heap.size + 1, 0, none⟩) (by simp) _).trans (belowK_b (w := w) (Nat.le_refl _) _ D _ _ (by rw [hsz] at hD; omega) hK' rfl rfl)
  case stop =>
    rintro D c pre W hD hpre ⟨rfl, h1, hm⟩ hK
    have r0 := h1.res.cell (i := 0) rfl
    have G := hide h1
    clear h1 h b0 b1 b2 br hF0 K0 HX
    gi_wp2
    refine ⟨by simp, .inl ⟨_, _, rfl, run_takeDeferred hK, ?_⟩⟩
    have hc5 := cell_kept r0 (grownBy_putObj' _ D (.deferred none)) (fun r e => by cases e; exact ⟨_, hK, rfl⟩)
    refine ⟨.bool false, ?_, ?_, ?_⟩
    · simp [results, Try.f39, go_sem, hc5]
    · obtain ⟨k, hkt, rfl⟩ := hpre
      rw [map_plF] at hm
      have e : mayB l (plc key n t) = false := mayB_prefix (upto_prefix _ _ _ hkt) hm
      rw [← hnl, e]
    · exact G.out.bel.trans (belowK_b (w := w) (Nat.le_refl _) W D _ _ (by rw [hsz] at hD; omega) hK rfl rfl)
end Go.Proofs.Ytbccnfbombgdmaa.Bl

