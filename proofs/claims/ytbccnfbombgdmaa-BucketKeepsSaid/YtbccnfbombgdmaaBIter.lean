/- The bits of a key, one by one: the iterator's own contract, for every loop body that keeps the filter's own cells. -/
import Derived.RangeFuncNested
import Derived.RangeFuncBound
import Derived.RangeFuncCalls
import Derived.RangeFuncLeaves
import Derived.Shelf.Abstract
import Derived.Shelf.RegionOpen
import Derived.WalkKit
import Derived.OwnWalkIn
import Derived.TacticsInMore
import Derived.LoopNIn
import Derived.LoopIn
import Derived.RegionIn
import Derived.Test.YtbccnfbombgdmaaRMem
import Derived.Test.YtbccnfbombgdmaaBHash
set_option linter.unusedVariables false
set_option linter.unusedSimpArgs false
namespace Go.Proofs.Ytbccnfbombgdmaa.Bl
open Go.RowKit Go.Shelf Go.Deep Math
attribute [local go_sem] Oper.semAt_some

/-- What comes at turn k, ahead of the last modulo; the place itself. -/
def at64 (H S : Int) (k : Nat) : Int := (H + (k : Int) * S) % 18446744073709551616
def pl (H S : Int) (n k : Nat) : Nat := (at64 H S k % (n : Int)).toNat
theorem at64_nonneg (H S : Int) (k : Nat) : 0 ≤ at64 H S k := by unfold at64; omega
theorem at64_lt (H S : Int) (k : Nat) : at64 H S k < 18446744073709551616 := by unfold at64; omega
theorem at64_zero (H S : Int) (h0 : 0 ≤ H) (h1 : H < 18446744073709551616) : at64 H S 0 = H := by unfold at64; simp; omega
theorem at64_succ (H S : Int) (k : Nat) : IntKind.u64.wrap (at64 H S k + S) = at64 H S (k + 1) := by
  rw [IntKind.wrap_u64]; unfold at64
  have : ((k + 1 : Nat) : Int) * S = (k : Int) * S + S := by rw [Int.natCast_add, Int.add_mul]; simp
  rw [this]
  generalize (k : Int) * S = z
  omega
theorem pl_lt (H S : Int) (n k : Nat) (hn : 0 < n) : pl H S n k < n := by
  unfold pl
  have h0 := Int.emod_nonneg (at64 H S k) (show (n : Int) ≠ 0 by omega)
  have h1 := Int.emod_lt_of_pos (at64 H S k) (show (0 : Int) < n by omega)
  omega
theorem pl_int (H S : Int) (n k : Nat) (hn : 0 < n) : (at64 H S k).tmod (n : Int) = (pl H S n k : Int) := by
  unfold pl
  rw [Int.tmod_eq_emod_of_nonneg (at64_nonneg H S k)]
  have h0 := Int.emod_nonneg (at64 H S k) (show (n : Int) ≠ 0 by omega)
  omega

def hashK (key : ByteArray) : Int := hash offset key.data.toList
def stepK (key : ByteArray) : Int := bits .or .u64 (hash second0 key.data.toList) 1
theorem hashK_range (key : ByteArray) : 0 ≤ hashK key ∧ hashK key < 18446744073709551616 := hash_range _ _ offset_range.1 offset_range.2
def plF (H S : Int) (n : Nat) (hn : 0 < n) (k : Nat) : Fin n := ⟨pl H S n k, pl_lt H S n k hn⟩
def upto {α : Type} (f : Nat → α) (k : Nat) : List α := (List.range k).map f
theorem upto_succ {α : Type} (f : Nat → α) (k : Nat) : upto f (k + 1) = upto f k ++ [f k] := by simp [upto, List.range_succ]
theorem upto_length {α : Type} (f : Nat → α) (k : Nat) : (upto f k).length = k := by simp [upto]

/-- What the iterator wants kept across a round: the box of the filter's pointer, the filter's first cell. -/
def KpB (fb f : Nat) (W W' : World) : Prop := W'.cell? ⟨fb, 0, none⟩ = W.cell? ⟨fb, 0, none⟩ ∧ W'.cell? ⟨f, 0, none⟩ = W.cell? ⟨f, 0, none⟩
theorem KpB.t {fb f : Nat} {A B C : World} (h : KpB fb f A B) (k : KpB fb f B C) : KpB fb f A C := ⟨k.1.trans h.1, k.2.trans h.2⟩
theorem KpB.of_blocks {fb f : Nat} {W W' : World} (h1 : W'.heap[fb]? = W.heap[fb]?) (h2 : W'.heap[f]? = W.heap[f]?) : KpB fb f W W' := by
  constructor <;> simp [World.cell?, h1, h2]
theorem KpB.b {fb f : Nat} {w : World} (h1 : fb < w.heap.size) (h2 : f < w.heap.size) (W : World) (l : Nat) (o o' : Obj) (hl : w.heap.size ≤ l) (h : W.heap[l]? = some o) (_ : o.isCells = false) (_ : o.isWalk = false) : KpB fb f W (W.putObj l o') :=
  KpB.of_blocks (World.putObj_heap_other (by omega)) (World.putObj_heap_other (by omega))

set_option maxRecDepth 100000 in
set_option maxHeartbeats 2000000 in
theorem places1_in (m : Nat) (hm : 1 ≤ m) (l kb fb f s n t : Nat) (key : ByteArray) (hk : key.size ≤ maxLen) (hn : 0 < n) (hn2 : n ≤ 65536) (ht : t ≤ 8) (J Jx : List (Fin n) → World → Prop)
    (hJd : ∀ pre W, J pre W → J pre W.drew)
    (hY : ∀ pre x W, J pre W → pre.length < t → YieldAt Fence.wide (m - 1) Try.prog l #[.int .i64 ((x : Fin n).val : Int)] W fun e W' =>
      (e = .returned (.bool true) ∧ J (pre ++ [x]) W' ∧ KpB fb f W W') ∨ (e = .returned (.bool false) ∧ Jx (pre ++ [x]) W'))
    (W : World) (hkb : W.cell? ⟨kb, 0, none⟩ = some (.string key)) (hfb : W.cell? ⟨fb, 0, none⟩ = some (.pointer (some ⟨f, 0, none⟩)))
    (hf0 : W.cell? ⟨f, 0, none⟩ = some (.slice (some ⟨s, 0, none⟩) n n)) (hf1 : W.cell? ⟨f, 1, none⟩ = some (.int .i64 t)) (h0 : J [] W) :
    CallsIn Fence.wide m Try.prog 62 #[.func (.yield l) #[] #[], .pointer (some ⟨kb, 0, none⟩), .pointer (some ⟨fb, 0, none⟩)] W fun e W' => (∃ v, e = .returned v) ∧
      ((∃ ys, ys = upto (plF (hashK key) (stepK key) n hn) t ∧ J ys W') ∨ (∃ pre, (∃ k, k ≤ t ∧ pre = upto (plF (hashK key) (stepK key) n hn) k) ∧ Jx pre W')) := by
  have cH : Hid (∀ W : World, CallsIn Fence.wide (m - 1) Try.prog 45 #[.string key] W fun e w' => e = .returned (.int .u64 (hashK key)) ∧ w' = W) := fun W => callsIn_wide.2 (hash_any key W hk)
  have cS : Hid (∀ W : World, CallsIn Fence.wide (m - 1) Try.prog 63 #[.string key] W fun e w' => e = .returned (.int .u64 (hash second0 key.data.toList)) ∧ w' = W) := fun W => callsIn_wide.2 (second_any key W hk)
  have hmx : Try.prog.follows .mixedOrders = true := by kernel_rfl
  refine callsIn_of_wp Try.func62 rfl trivial ?_ rfl
  simp only [Try.ntmps62, List.size_toArray, List.length_cons, List.length_nil, Nat.reduceAdd, Nat.reduceSub, Array.replicate_succ, Array.replicate_zero, List.push_toArray, List.append_toArray, List.nil_append, List.cons_append]
  gi_wp2
  gi_region_with_o (refine ⟨trivial, ?_⟩; first | (gi_at_call 45; refine (cH.out _).mono ?_; rintro e w' ⟨rfl, rfl⟩) | (gi_at_call 63; refine (cS.out _).mono ?_; rintro e w' ⟨rfl, rfl⟩))
  all_goals clear cH cS hmx hk
  all_goals gi_wp2
  all_goals
    gi_loopw [4, 15] (fun a i wr => ∃ k : Nat, k ≤ t ∧ i = .int .i64 k ∧ a = .int .u64 (at64 (hashK key) (stepK key) k) ∧ Hid (J (upto (plF (hashK key) (stepK key) n hn) k) wr) ∧ Hid (KpB fb f W wr))
      (fun a i _ => t - (intOf i).toNat)
    case atStart => exact ⟨0, Nat.zero_le _, rfl, by rw [at64_zero (hashK key) _ (hashK_range key).1 (hashK_range key).2], hJd _ _ h0, rfl, rfl⟩
    case round =>
      obtain ⟨k, hk, rfl, rfl, hJs, hK⟩ := hrel
      have hfb' := hK.out.1.trans hfb
      have hf0' := hK.out.2.trans hf0
      by_cases hlt : k < t
      · obtain ⟨fn, tmps, assign, body, hy, hR⟩ := hY _ (plF (hashK key) (stepK key) n hn k) wr hJs.out (by rw [upto_length]; exact hlt)
        have e1 := pl_int (hashK key) (stepK key) n k hn
        have e2 := at64_succ (hashK key) (stepK key) k
        have e3 : pl (hashK key) (stepK key) n k < n := pl_lt _ _ _ _ hn
        have e4 : IntKind.u64.wrap (n : Int) = (n : Int) := by rw [IntKind.wrap_u64]; omega
        have e5 : IntKind.i64.wrap (pl (hashK key) (stepK key) n k : Int) = (pl (hashK key) (stepK key) n k : Int) := by rw [IntKind.wrap_i64]; omega
        have e6 : IntKind.u64.wrap (pl (hashK key) (stepK key) n k : Int) = (pl (hashK key) (stepK key) n k : Int) := by rw [IntKind.wrap_u64]; omega
        have e7 : ¬ (n : Int) = 0 := by omega
        have hs : IntKind.u64.signed = false := rfl
        dsimp only [plF] at hy
        gi_wp2
        refine hR.mono ?_
        rintro e W3 (⟨rfl, hJ3, hk3⟩ | ⟨rfl, hJx3⟩)
        · have J3 := hide hJ3
          have K3 := hide (hK.out.t hk3)
          clear hJ3 hk3
          gi_wp2
          go_roundw
          case rel => exact ⟨k + 1, by omega, by simp, by rw [← e2]; rfl, by rw [upto_succ]; exact J3.out, K3.out⟩
          case measure => simp [intOf]; omega
        · gi_wp2
          refine bodyPost_ret (results_none rfl _ _ _) rfl ?_
          exact ⟨⟨_, rfl⟩, .inr ⟨_, ⟨k + 1, by omega, (upto_succ _ _).symm⟩, hJx3⟩⟩
      · obtain rfl : k = t := by omega
        gi_wp2
        go_end0
        exact ⟨⟨_, rfl⟩, .inl ⟨_, rfl, hJs.out⟩⟩

theorem places_stops (m : Nat) (hm : 1 ≤ m) (kb fb f s n t : Nat) (key : ByteArray) (hk : key.size ≤ maxLen) (hn : 0 < n) (hn2 : n ≤ 65536) (ht : t ≤ 8) (w : World)
    (hkb : w.cell? ⟨kb, 0, none⟩ = some (.string key)) (hfb : w.cell? ⟨fb, 0, none⟩ = some (.pointer (some ⟨f, 0, none⟩)))
    (hf0 : w.cell? ⟨f, 0, none⟩ = some (.slice (some ⟨s, 0, none⟩) n n)) (hf1 : w.cell? ⟨f, 1, none⟩ = some (.int .i64 t)) :
    SeqStopsK Fence.wide m Try.prog 62 #[.pointer (some ⟨kb, 0, none⟩), .pointer (some ⟨fb, 0, none⟩)] (fun x : Fin n => #[Value.int .i64 (x.val : Int)]) (KpB fb f)
      (fun ys => ys = upto (plF (hashK key) (stepK key) n hn) t) (fun pre => ∃ k, k ≤ t ∧ pre = upto (plF (hashK key) (stepK key) n hn) k) t w := fun l J Jx W hW hJ hJx hY h0 => by
  refine places1_in m hm l kb fb f s n t key hk hn hn2 ht J Jx ?_ hY W (cell_later hW hkb) (cell_later hW hfb) (cell_later hW hf0) (cell_later hW hf1) h0
  intro pre W1 h1
  exact hJ pre W1 _ none h1 ⟨rfl, rfl, rfl, Nat.le_refl _, fun _ _ _ => rfl⟩ (fun r e => by cases e)
end Go.Proofs.Ytbccnfbombgdmaa.Bl
