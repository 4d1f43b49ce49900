/- Joined texts. -/
import Derived.RangeFuncNested
import Derived.RangeFuncBound
import Derived.RangeFuncCalls
import Derived.RangeFuncLeaves
import Derived.Shelf.Abstract
import Derived.Shelf.RegionOpen
import Derived.OwnWalkIn
import Derived.TacticsInMore
import Derived.LoopNIn
import Derived.LoopIn
import Derived.RegionIn
import Derived.Laws.MakeOwn
import Derived.Test.YtcdghalnneilpaaGreatK12
set_option linter.unusedVariables false
set_option linter.unusedSimpArgs false
set_option maxRecDepth 8000
set_option maxHeartbeats 8000000
namespace Go.Proofs.YtcdghalnneilpaaGreat.Bl
open Go.RowKit Go.Shelf Go.Deep Math
attribute [local go_sem] Oper.semAt_some
def at64 (H S : Int) (k : Nat) : Int := (H + (k : Int) * S) % 18446744073709551616
def pl (H S : Int) (n k : Nat) : Nat := (at64 H S k % (n : Int)).toNat
theorem at64_nonneg (H S : Int) (k : Nat) : 0 <= at64 H S k := by unfold at64; omega
theorem at64_zero (H S : Int) (h0 : 0 <= H) (h1 : H < 18446744073709551616) : at64 H S 0 = H := by unfold at64; simp; omega
theorem at64_succ (H S : Int) (k : Nat) : IntKind.u64.wrap (at64 H S k + S) = at64 H S (k + 1) := by
 rw [IntKind.wrap_u64]; unfold at64
 have : ((k + 1 : Nat) : Int) * S = (k : Int) * S + S := by rw [Int.natCast_add, Int.add_mul]; simp
 rw [this]
 generalize (k : Int) * S = z
 omega
theorem pl_lt (H S : Int) (n k : Nat) (hn : 0 < n) : pl H S n k < n := by
 unfold pl
 have h0 := Int.emod_nonneg (at64 H S k) (show (n : Int) ≠ 0 by omega)
 have h1 := Int.emod_lt_of_pos (at64 H S k) (show (0 : Int) < n by omega)
 omega
theorem pl_int (H S : Int) (n k : Nat) (hn : 0 < n) : (at64 H S k).tmod (n : Int) = (pl H S n k : Int) := by
 unfold pl
 rw [Int.tmod_eq_emod_of_nonneg (at64_nonneg H S k)]
 have h0 := Int.emod_nonneg (at64 H S k) (show (n : Int) ≠ 0 by omega)
 omega
def hashK (key : ByteArray) : Int := hash offset key.data.toList
def stepK (key : ByteArray) : Int := bits .or .u64 (hash second0 key.data.toList) 1
theorem hashK_range (key : ByteArray) : 0 <= hashK key /\ hashK key < 18446744073709551616 := hash_range _ _ offset_range.1 offset_range.2
def plF (H S : Int) (n : Nat) (hn : 0 < n) (k : Nat) : Fin n := ⟨pl H S n k, pl_lt H S n k hn⟩
def upto {α : Type} (f : Nat -> α) (k : Nat) : List α := (List.range k).map f
theorem upto_succ {α : Type} (f : Nat -> α) (k : Nat) : upto f (k + 1) = upto f k ++ [f k] := by simp [upto, List.range_succ]
theorem upto_length {α : Type} (f : Nat -> α) (k : Nat) : (upto f k).length = k := by simp [upto]
def KpB (fb f : Nat) (W W' : World) : Prop := W'.cell? ⟨fb, 0, none⟩ = W.cell? ⟨fb, 0, none⟩ /\ W'.cell? ⟨f, 0, none⟩ = W.cell? ⟨f, 0, none⟩
theorem KpB.t {fb f : Nat} {A B C : World} (h : KpB fb f A B) (k : KpB fb f B C) : KpB fb f A C := ⟨k.1.trans h.1, k.2.trans h.2⟩
theorem KpB.of_blocks {fb f : Nat} {W W' : World} (h1 : W'.heap[fb]? = W.heap[fb]?) (h2 : W'.heap[f]? = W.heap[f]?) : KpB fb f W W' := by
 constructor <;> simp [World.cell?, h1, h2]
theorem KpB.b {fb f : Nat} {w : World} (h1 : fb < w.heap.size) (h2 : f < w.heap.size) (W : World) (l : Nat) (o o' : Obj) (hl : w.heap.size <= l) (h : W.heap[l]? = some o) (_ : o.isCells = false) (_ : o.isWalk = false) : KpB fb f W (W.putObj l o') :=
 KpB.of_blocks (World.putObj_heap_other (by omega)) (World.putObj_heap_other (by omega))
set_option maxRecDepth 100000 in
theorem places1_in (m : Nat) (hm : 1 <= m) (l kb fb f s n t : Nat) (key : ByteArray) (hk : key.size <= maxLen) (hn : 0 < n) (hn2 : n <= 65536) (ht : t <= 8) (J Jx : List (Fin n) -> World -> Prop)
  (hJd : ∀ pre W, J pre W -> J pre W.drew)
  (hY : ∀ pre x W, J pre W -> pre.length < t -> YieldAt Fence.wide (m - 1) Tryz.prog l #[.int .i64 ((x : Fin n).val : Int)] W fun e W' =>
   (e = .returned (.bool true) /\ J (pre ++ [x]) W' /\ KpB fb f W W') \/ (e = .returned (.bool false) /\ Jx (pre ++ [x]) W'))
  (W : World) (hkb : W.cell? ⟨kb, 0, none⟩ = some (.string key)) (hfb : W.cell? ⟨fb, 0, none⟩ = some (.pointer (some ⟨f, 0, none⟩)))
  (hf0 : W.cell? ⟨f, 0, none⟩ = some (.slice (some ⟨s, 0, none⟩) n n)) (hf1 : W.cell? ⟨f, 1, none⟩ = some (.int .i64 t)) (h0 : J [] W) :
  CallsIn Fence.wide m Tryz.prog 197 #[.func (.yield l) #[] #[], .pointer (some ⟨kb, 0, none⟩), .pointer (some ⟨fb, 0, none⟩)] W fun e W' => (∃ v, e = .returned v) /\
   ((∃ ys, ys = upto (plF (hashK key) (stepK key) n hn) t /\ J ys W') \/ (∃ pre, (∃ k, k <= t /\ pre = upto (plF (hashK key) (stepK key) n hn) k) /\ Jx pre W')) := by
 have cH : Hid (∀ W : World, CallsIn Fence.wide (m - 1) Tryz.prog 116 #[.string key] W fun e w' => e = .returned (.int .u64 (hashK key)) /\ w' = W) := fun W => callsIn_wide.2 (hash_any key W hk)
 have cS : Hid (∀ W : World, CallsIn Fence.wide (m - 1) Tryz.prog 198 #[.string key] W fun e w' => e = .returned (.int .u64 (hash second0 key.data.toList)) /\ w' = W) := fun W => callsIn_wide.2 (second_any key W hk)
 have hmx : Tryz.prog.follows .mixedOrders = true := by kernel_rfl
 refine callsIn_of_wp Tryz.func197 rfl trivial ?_ rfl
 simp only [Tryz.ntmps197, List.size_toArray, List.length_cons, List.length_nil, Nat.reduceAdd, Nat.reduceSub, Array.replicate_succ, Array.replicate_zero, List.push_toArray, List.append_toArray, List.nil_append, List.cons_append]
 gi_wp2
 gi_region_with_o (refine ⟨trivial, ?_⟩; first | (gi_at_call 116; refine (cH.out _).mono ?_; rintro e w' ⟨rfl, rfl⟩) | (gi_at_call 198; refine (cS.out _).mono ?_; rintro e w' ⟨rfl, rfl⟩))
 all_goals clear cH cS hmx hk
 all_goals gi_wp2
 all_goals
  gi_loopw [4, 15] (fun a i wr => ∃ k : Nat, k <= t /\ i = .int .i64 k /\ a = .int .u64 (at64 (hashK key) (stepK key) k) /\ Hid (J (upto (plF (hashK key) (stepK key) n hn) k) wr) /\ Hid (KpB fb f W wr))
   (fun a i _ => t - (intOf i).toNat)
  case atStart => exact ⟨0, Nat.zero_le _, rfl, by rw [at64_zero (hashK key) _ (hashK_range key).1 (hashK_range key).2], hJd _ _ h0, rfl, rfl⟩
  case round =>
   obtain ⟨k, hk, rfl, rfl, hJs, hK⟩ := hrel
   have hfb' := hK.out.1.trans hfb
   have hf0' := hK.out.2.trans hf0
   by_cases hlt : k < t
   ·obtain ⟨fn, tmps, assign, body, hy, hR⟩ := hY _ (plF (hashK key) (stepK key) n hn k) wr hJs.out (by rw [upto_length]; exact hlt)
    have e1 := pl_int (hashK key) (stepK key) n k hn
    have e2 := at64_succ (hashK key) (stepK key) k
    have e3 : pl (hashK key) (stepK key) n k < n := pl_lt _ _ _ _ hn
    have e4 : IntKind.u64.wrap (n : Int) = (n : Int) := by rw [IntKind.wrap_u64]; omega
    have e5 : IntKind.i64.wrap (pl (hashK key) (stepK key) n k : Int) = (pl (hashK key) (stepK key) n k : Int) := by rw [IntKind.wrap_i64]; omega
    have e6 : IntKind.u64.wrap (pl (hashK key) (stepK key) n k : Int) = (pl (hashK key) (stepK key) n k : Int) := by rw [IntKind.wrap_u64]; omega
    have e7 : ¬ (n : Int) = 0 := by omega
    have hs : IntKind.u64.signed = false := rfl
    dsimp only [plF] at hy
    gi_wp2
    refine hR.mono ?_
    rintro e W3 (⟨rfl, hJ3, hk3⟩ | ⟨rfl, hJx3⟩)
    ·have J3 := hide hJ3
     have K3 := hide (hK.out.t hk3)
     clear hJ3 hk3
     gi_wp2
     go_roundw
     case rel => exact ⟨k + 1, by omega, by simp, by rw [<- e2]; rfl, by rw [upto_succ]; exact J3.out, K3.out⟩
     case measure => simp [intOf]; omega
    ·gi_wp2
     refine bodyPost_ret (results_none rfl _ _ _) rfl ?_
     exact ⟨⟨_, rfl⟩, .inr ⟨_, ⟨k + 1, by omega, (upto_succ _ _).symm⟩, hJx3⟩⟩
   ·obtain rfl : k = t := by omega
    gi_wp2
    go_end0
    exact ⟨⟨_, rfl⟩, .inl ⟨_, rfl, hJs.out⟩⟩
theorem places_stops (m : Nat) (hm : 1 <= m) (kb fb f s n t : Nat) (key : ByteArray) (hk : key.size <= maxLen) (hn : 0 < n) (hn2 : n <= 65536) (ht : t <= 8) (w : World)
  (hkb : w.cell? ⟨kb, 0, none⟩ = some (.string key)) (hfb : w.cell? ⟨fb, 0, none⟩ = some (.pointer (some ⟨f, 0, none⟩)))
  (hf0 : w.cell? ⟨f, 0, none⟩ = some (.slice (some ⟨s, 0, none⟩) n n)) (hf1 : w.cell? ⟨f, 1, none⟩ = some (.int .i64 t)) :
  SeqStopsK Fence.wide m Tryz.prog 197 #[.pointer (some ⟨kb, 0, none⟩), .pointer (some ⟨fb, 0, none⟩)] (fun x : Fin n => #[Value.int .i64 (x.val : Int)]) (KpB fb f)
   (fun ys => ys = upto (plF (hashK key) (stepK key) n hn) t) (fun pre => ∃ k, k <= t /\ pre = upto (plF (hashK key) (stepK key) n hn) k) t w := fun l J Jx W hW hJ hJx hY h0 => by
 refine places1_in m hm l kb fb f s n t key hk hn hn2 ht J Jx ?_ hY W (cell_later hW hkb) (cell_later hW hfb) (cell_later hW hf0) (cell_later hW hf1) h0
 intro pre W1 h1
 exact hJ pre W1 _ none h1 ⟨rfl, rfl, rfl, Nat.le_refl _, fun _ _ _ => rfl⟩ (fun r e => by cases e)
end Go.Proofs.YtcdghalnneilpaaGreat.Bl
namespace Go.Proofs.YtcdghalnneilpaaGreat.Bl
open Go.RowKit Go.Shelf Go.Deep Math
attribute [local go_sem] Oper.semAt_some
structure FltIn (w : World) (f s : Nat) (l : List Bool) (t : Nat) : Prop where
 own : Blk w f [.slice (some ⟨s, 0, none⟩) l.length l.length, .int .i64 t] 250
 row : Blk w s (l.map Value.bool) 4
 ne : f ≠ s
 n8 : 8 <= l.length
 n9 : l.length <= 65536
 t1 : 1 <= t
 t8 : t <= 8
theorem FltIn.same {w w' : World} {f s : Nat} {l : List Bool} {t : Nat} (h : FltIn w f s l t) (h1 : w'.heap[f]? = w.heap[f]?) (h2 : w'.heap[s]? = w.heap[s]?) : FltIn w' f s l t :=
 ⟨h.own.same h1, h.row.same h2, h.ne, h.n8, h.n9, h.t1, h.t8⟩
theorem FltIn.keep {w w' : World} {f s : Nat} {l : List Bool} {t : Nat} (h : FltIn w f s l t) {F : List Nat} (k : Keep F w w') (h1 : f ∉ F) (h2 : s ∉ F) : FltIn w' f s l t :=
 h.same (k.block f h.own.lt h1) (k.block s h.row.lt h2)
theorem FltIn.alloc {w : World} {f s : Nat} {l : List Bool} {t : Nat} (h : FltIn w f s l t) (o : Obj) : FltIn (w.alloc o) f s l t :=
 ⟨h.own.alloc o, h.row.alloc o, h.ne, h.n8, h.n9, h.t1, h.t8⟩
theorem FltIn.below {w w' : World} {f s : Nat} {l : List Bool} {t : Nat} (h : FltIn w f s l t) (k : Below w.heap.size w w') : FltIn w' f s l t :=
 h.same (k.block f h.own.lt) (k.block s h.row.lt)
def setB (l : List Bool) (ps : List Nat) : List Bool := ps.foldl (fun l i => l.set i true) l
theorem setB_snoc (l : List Bool) (ps : List Nat) (i : Nat) : setB l (ps ++ [i]) = (setB l ps).set i true := by simp [setB]
theorem setB_length (l : List Bool) (ps : List Nat) : (setB l ps).length = l.length := by
 induction ps generalizing l with
 | nil => rfl
 | cons x xs ih => show (setB (l.set x true) xs).length = _; rw [ih]; simp
def plc (key : ByteArray) (n t : Nat) : List Nat := upto (pl (hashK key) (stepK key) n) t
theorem FltIn.set {w : World} {f s : Nat} {l : List Bool} {t : Nat} (h : FltIn w f s l t) (i : Nat) : FltIn (w.setCell ⟨s, i, none⟩ (.bool true)) f s (l.set i true) t := by
 refine ⟨?_, ?_, h.ne, by simpa using h.n8, by simpa using h.n9, h.t1, h.t8⟩
 ·rw [List.length_set]; exact h.own.other (a := ⟨s, i, none⟩) h.ne _
 ·have := h.row.set i (.bool true); rw [List.map_set]; exact this
theorem info4 : (Tryz.prog.info? 4).map (fun i => (i.zero, i.size, i.bytes)) = some (some (.bool false), 1, 1) := by kernel_rfl
def boolsA (l : List Bool) : Array Value := (l.map Value.bool).toArray
theorem run_make_bools (n : Nat) (hn : n <= 1000000) (w : World) :
  (Instr.makeSlice 120 (.int .i64 (n : Int)) (.int .i64 (n : Int))).run Tryz.prog w = .ok (.slice (some ⟨w.heap.size, 0, none⟩) n n) (w.alloc (.cells (boolsA (List.replicate n false)) 4)) := by
 unfold boolsA
 obtain ⟨i, hi, hi2⟩ := Option.map_eq_some_iff.1 info4
 simp only [Prod.mk.injEq] at hi2
 obtain ⟨hz0, hz1, hz2⟩ := hi2
 have := run_make (P := Tryz.prog) w 120 4 i (.bool false) Tryz.underlying120 hi hz0 .i64 .i64 (n : Int) (n : Int) (by omega) (by omega) (by rw [hz2]; omega) (by omega)
 rw [this, hz1]
 have e : madeCells (Value.bool false).cells ((n : Int).toNat * 1) = ((List.replicate n false).map Value.bool).toArray := by
  have hc : (Value.bool false).cells = #[.bool false] := rfl
  rw [hc, Int.toNat_natCast, Nat.mul_one]
  unfold madeCells
  apply Array.ext
  ·simp
  ·intro j h1 h2
   simp [Nat.mod_one]
 rw [e, Int.toNat_natCast]
theorem new_ok (n t : Nat) (w : World) (h1 : 8 <= n) (h2 : n <= 65536) (h3 : 1 <= t) (h4 : t <= 8) :
  Calls Tryz.prog 184 #[.int .i64 n, .int .i64 t] w fun e w' => e = .returned (.tuple #[.pointer (some ⟨w.heap.size + 1, 0, none⟩), .int .i64 0]) /\ FltIn w' (w.heap.size + 1) w.heap.size (List.replicate n false) t /\ Below w.heap.size w w' := by
 have e1 : ¬ (n : Int) < 8 := by omega
 have e2 : ¬ (65536 : Int) < (n : Int) := by omega
 have e3 : ¬ (t : Int) < 1 := by omega
 have e4 : ¬ (8 : Int) < (t : Int) := by omega
 have hmk := run_make_bools n (by omega)
 go_enter Tryz.func184, Tryz.ntmps184
 go_wp2
 go_ret2
 refine ⟨rfl, ⟨?_, ?_, by omega, by simpa using h1, by simpa using h2, h3, h4⟩, ((Below.refl _ w).alloc (Nat.le_refl _) _).alloc (by simp) _⟩
 ·have := Blk.new (w.alloc (.cells (boolsA (List.replicate n false)) 4)) [.slice (some ⟨w.heap.size, 0, none⟩) n n, .int .i64 t] 250
  rw [World.size_alloc] at this
  rw [List.length_replicate]
  exact this
 ·exact (Blk.new w ((List.replicate n false).map Value.bool) 4).alloc _
theorem places_any (f : Nat) (key : ByteArray) (w : World) :
  Calls Tryz.prog 176 #[.pointer (some ⟨f, 0, none⟩), .string key] w fun e w' => e = .returned (.func (.func 197) #[] #[.pointer (some ⟨w.heap.size + 1, 0, none⟩), .pointer (some ⟨w.heap.size, 0, none⟩)]) /\
   w' = (w.alloc (.cells #[.pointer (some ⟨f, 0, none⟩)] 207)).alloc (.cells #[.string key] 9) := by
 go_enter Tryz.func176, Tryz.ntmps176
 go_wp2
 go_ret
 exact ⟨rfl, rfl⟩
end Go.Proofs.YtcdghalnneilpaaGreat.Bl
namespace Go.Proofs.YtcdghalnneilpaaGreat.Bl
open Go.RowKit Go.Shelf Go.Deep Math
attribute [local go_sem] Oper.semAt_some
theorem grown_at {W W' : World} {row : Option Nat} (hg : W.grownBy W' row) {B : Nat} (hr : ∀ r, row = some r -> B <= r) {k : Nat} (hk : k < B) (hs : k < W.heap.size) : W'.heap[k]? = W.heap[k]? :=
 hg.block k hs (fun e => by have := hr k e.symm; omega)
def AddI (w : World) (f s n t : Nat) (l : List Bool) (B : Nat) (pre : List (Fin n)) (W : World) : Prop :=
 FltIn W f s (setB l (pre.map Fin.val)) t /\ Blk W w.heap.size [.pointer (some ⟨f, 0, none⟩)] 207 /\ Keep [s] w W /\ f < w.heap.size /\ s < w.heap.size /\ w.heap.size < B /\ l.length = n
theorem AddI.own {w : World} {f s n t : Nat} {l : List Bool} {B : Nat} : OwnFrom B (AddI w f s n t l B) := by
 rintro pre W W' row ⟨h1, h2, h3, h4, h5, h6, h7⟩ hg hr
 have e : ∀ k, k < B -> k < W.heap.size -> W'.heap[k]? = W.heap[k]? := fun k hk hs => grown_at hg (fun r e => (hr r e).1) hk hs
 exact ⟨h1.same (e _ (by omega) h1.own.lt) (e _ (by omega) h1.row.lt), h2.same (e _ h6 h2.lt), h3.grown hg (fun k e => .inr (by have := (hr k e).1; omega)), h4, h5, h6, h7⟩
theorem map_plF (key : ByteArray) (n t : Nat) (hn : 0 < n) : (upto (plF (hashK key) (stepK key) n hn) t).map Fin.val = plc key n t := by
 simp [upto, plc, plF, Function.comp_def]
set_option maxRecDepth 100000 in
theorem add_any (f s t : Nat) (l : List Bool) (key : ByteArray) (hk : key.size <= maxLen) (w : World) (h : FltIn w f s l t) :
  Calls Tryz.prog 162 #[.pointer (some ⟨f, 0, none⟩), .string key] w fun e w' => e = .returned (.tuple #[]) /\ FltIn w' f s (setB l (plc key l.length t)) t /\ Keep [s] w w' := by
 refine (callsIn_wide (n := 5)).1 ?_
 have cP : Hid (∀ W : World, CallsIn Fence.wide 4 Tryz.prog 176 #[.pointer (some ⟨f, 0, none⟩), .string key] W fun e w' => e = .returned (.func (.func 197) #[] #[.pointer (some ⟨W.heap.size + 1, 0, none⟩), .pointer (some ⟨W.heap.size, 0, none⟩)]) /\
   w' = (W.alloc (.cells #[.pointer (some ⟨f, 0, none⟩)] 207)).alloc (.cells #[.string key] 9)) := fun W => callsIn_wide.2 (places_any f key W)
 refine callsIn_of_wp_marks Tryz.func162 rfl trivial ?_ rfl
 simp only [Tryz.ntmps162, List.size_toArray, List.length_cons, List.length_nil, Nat.reduceAdd, Nat.reduceSub, Array.replicate_succ, Array.replicate_zero, List.push_toArray, List.append_toArray, List.nil_append, List.cons_append]
 gi_wp2_with (refine ⟨trivial, ?_⟩; gi_at_call 176; refine (cP.out _).mono ?_; rintro e w' ⟨rfl, rfl⟩)
 obtain ⟨n, hnl⟩ : ∃ n, n = l.length := ⟨_, rfl⟩
 have hn : 0 < n := by have := h.n8; omega
 obtain ⟨W0, hW0⟩ : ∃ W0, ((w.alloc (.cells #[.pointer (some ⟨f, 0, none⟩)] 207)).alloc (.cells #[.pointer (some ⟨f, 0, none⟩)] 207)).alloc (.cells #[.string key] 9) = W0 := ⟨_, rfl⟩
 have b0 := (((Blk.new w [.pointer (some ⟨f, 0, none⟩)] 207).alloc (.cells #[.pointer (some ⟨f, 0, none⟩)] 207)).alloc (.cells #[.string key] 9))
 have b1 := (Blk.new (w.alloc (.cells #[.pointer (some ⟨f, 0, none⟩)] 207)) [.pointer (some ⟨f, 0, none⟩)] 207).alloc (.cells #[.string key] 9)
 have b2 := Blk.new ((w.alloc (.cells #[.pointer (some ⟨f, 0, none⟩)] 207)).alloc (.cells #[.pointer (some ⟨f, 0, none⟩)] 207)) [.string key] 9
 have hF0 := ((h.alloc (.cells #[.pointer (some ⟨f, 0, none⟩)] 207)).alloc (.cells #[.pointer (some ⟨f, 0, none⟩)] 207)).alloc (.cells #[.string key] 9)
 have K0 := (((Keep.refl [s] w).alloc (.cells #[.pointer (some ⟨f, 0, none⟩)] 207)).alloc (.cells #[.pointer (some ⟨f, 0, none⟩)] 207)).alloc (.cells #[.string key] 9)
 simp only [World.size_alloc, List.cons.injEq] at b0 b1 b2
 have hsz : W0.heap.size = w.heap.size + 3 := by rw [<- hW0]; simp
 rw [hW0] at b0 b1 b2 hF0 K0
 simp only [hW0]
 clear cP
 have HX := hide hW0
 clear hW0
 refine wpIn_rangeFunc_ownF rfl (by omega) (gf := 197) (lb := #[.pointer (some ⟨w.heap.size + 1 + 1, 0, none⟩), .pointer (some ⟨w.heap.size + 1, 0, none⟩)]) rfl trivial (enters_of Tryz.func197 (by kernel_rfl) rfl)
  (places_stops (5 - 1) (by omega) (w.heap.size + 1 + 1) (w.heap.size + 1) f s n t key hk hn (by have := h.n9; omega) h.t8 W0 (b2.cell (i := 0) rfl) (b1.cell (i := 0) rfl) (by rw [hnl]; exact hF0.own.cell (i := 0) rfl) (hF0.own.cell (i := 1) rfl))
  (fun h k => KpB.t h k) (KpB.b (by rw [hsz]; omega) hF0.own.lt) (Below.refl _ _) (fun _ => rfl)
  (AddI w f s n t l W0.heap.size) (fun _ _ _ => False) AddI.own (fun _ _ _ _ _ hs _ _ => hs)
  ⟨hF0, b0, K0, h.own.lt, h.row.lt, by rw [hsz]; omega, hnl.symm⟩
  (fun x => { tmps := #[.pointer (some ⟨f, 0, none⟩), .string key, .pointer (some ⟨w.heap.size, 0, none⟩), undef, .int .i64 (x.val : Int), .pointer (some ⟨f, 0, none⟩), .string key, .func (.func 197) #[] #[.pointer (some ⟨w.heap.size + 1 + 1, 0, none⟩), .pointer (some ⟨w.heap.size + 1, 0, none⟩)], .int .i64 (x.val : Int), undef, undef, undef, undef, undef, undef], defers := [] }) ?assign ?body ?done ?stop
 case assign =>
  intro l x W K hK
  gi_wp2
  exact hK
 case body =>
  rintro l0 pre x W ⟨h1, h2, h3, h4, h5, h6, h7⟩ hp
  have c0 := h2.cell (i := 0) rfl
  have hln : (setB l (pre.map Fin.val)).length = n := by rw [setB_length, h7]
  have c1 := h1.own.cell (i := 0) rfl
  rw [hln] at c1
  have hx : (x.val : Int) < (n : Int) := by have := x.isLt; omega
  have hx2 : x.val < n := x.isLt
  have c2 : W.cell? ⟨s, x.val, none⟩ = some (.bool ((setB l (pre.map Fin.val)).getD x.val false)) := h1.row.cell (by rw [List.getElem?_map, List.getElem?_eq_getElem (by omega), List.getD_eq_getElem?_getD, List.getElem?_eq_getElem (by omega)]; rfl)
  have c3 := h1.row.frozen x.val
  have G := hide (And.intro h1 (And.intro h2 (And.intro h3 (And.intro h4 (And.intro h5 (And.intro h6 h7))))))
  clear h1 h2 h3 h4 h5 h6 h7 hln
  gi_wp2
  obtain ⟨h1, h2, h3, h4, h5, h6, h7⟩ := G.out
  refine ⟨KeepsOthers.setCell _ _ _, ?_, ?_, ?_, ?_, h4, h5, h6, h7⟩
  ·exact KpB.of_blocks (blk_setCell_other _ _ _ _ (show w.heap.size + 1 ≠ s by omega)) (blk_setCell_other _ _ _ _ (show f ≠ s from h1.ne))
  ·rw [List.map_append, List.map_cons, List.map_nil, setB_snoc]
   exact h1.set x.val
  ·exact h2.other (a := ⟨s, x.val, none⟩) (show w.heap.size ≠ s by omega) _
  ·exact h3.setCell (p := ⟨s, x.val, none⟩) (.inl (by simp)) _
 case done =>
  rintro D ys W hD rfl hI hK
  gi_wp2
  refine ⟨by simp, .inl ⟨_, _, rfl, run_takeDeferred hK, ?_⟩⟩
  have h8 := AddI.own (w := w) (f := f) (s := s) (n := n) (t := t) (l := l) (B := W0.heap.size) _ _ _ _ hI (grownBy_putObj' W D (.deferred none)) (fun r e => by cases e; exact ⟨hD, _, hK, rfl⟩)
  refine ⟨_, results_none rfl _ _ _, rfl, ?_, h8.2.2.1⟩
  have := h8.1
  rw [map_plF, hnl] at this
  exact this
 case stop =>
  rintro D c pre W _ _ h _
  exact h.elim
end Go.Proofs.YtcdghalnneilpaaGreat.Bl
namespace Go.Proofs.YtcdghalnneilpaaGreat.Bl
open Go.RowKit Go.Shelf Go.Deep Math
attribute [local go_sem] Oper.semAt_some
def mayB (l : List Bool) (ps : List Nat) : Bool := ps.all fun i => l.getD i false
theorem mayB_snoc (l : List Bool) (ps : List Nat) (i : Nat) : mayB l (ps ++ [i]) = (mayB l ps && l.getD i false) := by simp [mayB]
structure MayS (w : World) (f s t : Nat) (l : List Bool) (B : Nat) (W : World) : Prop where
 flt : FltIn W f s l t
 box : Blk W w.heap.size [.pointer (some ⟨f, 0, none⟩)] 207
 res : Blk W (w.heap.size + 1) [.bool false] 4
 bel : Below w.heap.size w W
 lf : f < w.heap.size
 ls : s < w.heap.size
 lb : w.heap.size + 1 < B
theorem MayS.turn {w : World} {f s t : Nat} {l : List Bool} {B : Nat} {W W' : World} {row : Option Nat} (h : MayS w f s t l B W) (hg : W.grownBy W' row) (hr : ∀ r, row = some r -> B <= r) : MayS w f s t l B W' := by
 obtain ⟨h1, h2, h3, h4, h5, h6, h7⟩ := h
 have e : ∀ k, k < B -> k < W.heap.size -> W'.heap[k]? = W.heap[k]? := fun k hk hs => grown_at hg hr hk hs
 exact ⟨h1.same (e _ (by omega) h1.own.lt) (e _ (by omega) h1.row.lt), h2.same (e _ (by omega) h2.lt), h3.same (e _ (by omega) h3.lt), h4.grown hg (h4.size) (fun k e => by have := hr k e; omega), h5, h6, h7⟩
def MayI (w : World) (f s n t : Nat) (l : List Bool) (B : Nat) (pre : List (Fin n)) (W : World) : Prop := MayS w f s t l B W /\ mayB l (pre.map Fin.val) = true
def MayX (w : World) (f s n t : Nat) (l : List Bool) (B : Nat) (c : Code) (pre : List (Fin n)) (W : World) : Prop := c = .ret /\ MayS w f s t l B W /\ mayB l (pre.map Fin.val) = false
theorem MayI.own {w : World} {f s n t : Nat} {l : List Bool} {B : Nat} : OwnFrom B (MayI w f s n t l B) :=
 fun _ _ _ _ h hg hr => ⟨h.1.turn hg (fun r e => (hr r e).1), h.2⟩
theorem MayX.own {w : World} {f s n t : Nat} {l : List Bool} {B : Nat} (c : Code) : OwnFrom B (MayX w f s n t l B c) :=
 fun _ _ _ _ h hg hr => ⟨h.1, h.2.1.turn hg (fun r e => (hr r e).1), h.2.2⟩
theorem upto_prefix {α : Type} (f : Nat -> α) (k t : Nat) (h : k <= t) : upto f k <+: upto f t := by
 obtain ⟨d, rfl⟩ := Nat.exists_eq_add_of_le h
 induction d with
 | zero => exact List.prefix_refl _
 | succ d ih => rw [<- Nat.add_assoc, upto_succ]; exact (ih (by omega)).trans (List.prefix_append _ _)
theorem mayB_prefix {l : List Bool} {p q : List Nat} (h : p <+: q) (hp : mayB l p = false) : mayB l q = false := by
 obtain ⟨r, rfl⟩ := h
 unfold mayB at hp ⊢
 rw [List.all_append, hp, Bool.false_and]
set_option maxRecDepth 100000 in
theorem may_any (f s t : Nat) (l : List Bool) (key : ByteArray) (hk : key.size <= maxLen) (w : World) (h : FltIn w f s l t) :
  Calls Tryz.prog 142 #[.pointer (some ⟨f, 0, none⟩), .string key] w fun e w' => e = .returned (.bool (mayB l (plc key l.length t))) /\ Below w.heap.size w w' := by
 refine (callsIn_wide (n := 5)).1 ?_
 have cP : Hid (∀ W : World, CallsIn Fence.wide 4 Tryz.prog 176 #[.pointer (some ⟨f, 0, none⟩), .string key] W fun e w' => e = .returned (.func (.func 197) #[] #[.pointer (some ⟨W.heap.size + 1, 0, none⟩), .pointer (some ⟨W.heap.size, 0, none⟩)]) /\
   w' = (W.alloc (.cells #[.pointer (some ⟨f, 0, none⟩)] 207)).alloc (.cells #[.string key] 9)) := fun W => callsIn_wide.2 (places_any f key W)
 refine callsIn_of_wp_marks Tryz.func142 rfl trivial ?_ rfl
 simp only [Tryz.ntmps142, List.size_toArray, List.length_cons, List.length_nil, Nat.reduceAdd, Nat.reduceSub, Array.replicate_succ, Array.replicate_zero, List.push_toArray, List.append_toArray, List.nil_append, List.cons_append]
 gi_wp2_with (refine ⟨trivial, ?_⟩; gi_at_call 176; refine (cP.out _).mono ?_; rintro e w' ⟨rfl, rfl⟩)
 obtain ⟨n, hnl⟩ : ∃ n, n = l.length := ⟨_, rfl⟩
 have hn : 0 < n := by have := h.n8; omega
 obtain ⟨W0, hW0⟩ : ∃ W0, (((w.alloc (.cells #[.pointer (some ⟨f, 0, none⟩)] 207)).alloc (.cells #[.bool false] 4)).alloc (.cells #[.pointer (some ⟨f, 0, none⟩)] 207)).alloc (.cells #[.string key] 9) = W0 := ⟨_, rfl⟩
 have b0 := ((((Blk.new w [.pointer (some ⟨f, 0, none⟩)] 207).alloc (.cells #[.bool false] 4)).alloc (.cells #[.pointer (some ⟨f, 0, none⟩)] 207)).alloc (.cells #[.string key] 9))
 have br := ((Blk.new (w.alloc (.cells #[.pointer (some ⟨f, 0, none⟩)] 207)) [.bool false] 4).alloc (.cells #[.pointer (some ⟨f, 0, none⟩)] 207)).alloc (.cells #[.string key] 9)
 have b1 := (Blk.new ((w.alloc (.cells #[.pointer (some ⟨f, 0, none⟩)] 207)).alloc (.cells #[.bool false] 4)) [.pointer (some ⟨f, 0, none⟩)] 207).alloc (.cells #[.string key] 9)
 have b2 := Blk.new (((w.alloc (.cells #[.pointer (some ⟨f, 0, none⟩)] 207)).alloc (.cells #[.bool false] 4)).alloc (.cells #[.pointer (some ⟨f, 0, none⟩)] 207)) [.string key] 9
 have hF0 := (((h.alloc (.cells #[.pointer (some ⟨f, 0, none⟩)] 207)).alloc (.cells #[.bool false] 4)).alloc (.cells #[.pointer (some ⟨f, 0, none⟩)] 207)).alloc (.cells #[.string key] 9)
 have K0 : Below w.heap.size w ((((w.alloc (.cells #[.pointer (some ⟨f, 0, none⟩)] 207)).alloc (.cells #[.bool false] 4)).alloc (.cells #[.pointer (some ⟨f, 0, none⟩)] 207)).alloc (.cells #[.string key] 9)) := ((((Below.refl _ w).alloc (Nat.le_refl _) _).alloc (by simp) _).alloc (by simp; omega) _).alloc (by simp; omega) _
 simp only [World.size_alloc, List.cons.injEq] at b0 b1 b2 br
 have hsz : W0.heap.size = w.heap.size + 4 := by rw [<- hW0]; simp
 rw [hW0] at b0 b1 b2 br hF0 K0
 simp only [hW0]
 clear cP
 have HX := hide hW0
 clear hW0
 refine wpIn_rangeFunc_ownF rfl (by omega) (gf := 197) (lb := #[.pointer (some ⟨w.heap.size + 1 + 1 + 1, 0, none⟩), .pointer (some ⟨w.heap.size + 1 + 1, 0, none⟩)]) rfl trivial (enters_of Tryz.func197 (by kernel_rfl) rfl)
  (places_stops (5 - 1) (by omega) (w.heap.size + 1 + 1 + 1) (w.heap.size + 1 + 1) f s n t key hk hn (by have := h.n9; omega) h.t8 W0 (b2.cell (i := 0) rfl) (b1.cell (i := 0) rfl) (by rw [hnl]; exact hF0.own.cell (i := 0) rfl) (hF0.own.cell (i := 1) rfl))
  (fun h k => KpB.t h k) (KpB.b (by rw [hsz]; omega) hF0.own.lt) (Below.refl _ _) (fun _ => rfl)
  (MayI w f s n t l W0.heap.size) (MayX w f s n t l W0.heap.size) MayI.own MayX.own
  ⟨⟨hF0, b0, br, K0, h.own.lt, h.row.lt, by rw [hsz]; omega⟩, rfl⟩
  (fun x => { tmps := #[.pointer (some ⟨f, 0, none⟩), .string key, .pointer (some ⟨w.heap.size, 0, none⟩), undef, .pointer (some ⟨w.heap.size + 1, 0, none⟩), .int .i64 (x.val : Int), .pointer (some ⟨f, 0, none⟩), .string key, .func (.func 197) #[] #[.pointer (some ⟨w.heap.size + 1 + 1 + 1, 0, none⟩), .pointer (some ⟨w.heap.size + 1 + 1, 0, none⟩)], .int .i64 (x.val : Int), undef, undef, undef, undef, undef, undef, undef, undef], defers := [] }) ?assign ?body ?done ?stop
 case assign =>
  intro l x W K hK
  gi_wp2
  exact hK
 case body =>
  rintro l0 pre x W ⟨h1, hm⟩ hp
  have c0 := h1.box.cell (i := 0) rfl
  have c1 := h1.flt.own.cell (i := 0) rfl
  rw [<- hnl] at c1
  have hx : (x.val : Int) < (n : Int) := by have := x.isLt; omega
  have hx2 : x.val < n := x.isLt
  have c2 : W.cell? ⟨s, x.val, none⟩ = some (.bool (l.getD x.val false)) := h1.flt.row.cell (by rw [List.getElem?_map, List.getElem?_eq_getElem (by omega), List.getD_eq_getElem?_getD, List.getElem?_eq_getElem (by omega)]; rfl)
  have r0 := h1.res.cell (i := 0) rfl
  have r1 := h1.res.frozen 0
  have G := hide (And.intro h1 hm)
  have HN := hide hnl
  clear h1 hm h b0 b1 b2 br hF0 K0 HX hsz hnl
  cases hb : l.getD x.val false
  ·rw [hb] at c2
   gi_wp2
   obtain ⟨h1, hm⟩ := G.out
   refine ⟨KeepsOthers.setCell _ _ _, rfl, ⟨h1.flt.same (blk_setCell_other _ _ _ _ (show f ≠ w.heap.size + 1 by have := h1.lf; omega)) (blk_setCell_other _ _ _ _ (show s ≠ w.heap.size + 1 by have := h1.ls; omega)), h1.box.other (a := ⟨w.heap.size + 1, 0, none⟩) (show w.heap.size ≠ w.heap.size + 1 by omega) _, ?_, h1.bel.setCell (p := ⟨w.heap.size + 1, 0, none⟩) (by simp) _, h1.lf, h1.ls, h1.lb⟩, ?_⟩
   ·exact h1.res.set 0 (.bool false)
   ·rw [List.map_append, List.map_cons, List.map_nil, mayB_snoc, hb, Bool.and_false]
  ·rw [hb] at c2
   gi_wp2
   obtain ⟨h1, hm⟩ := G.out
   exact ⟨KeepsOthers.refl _, KpB.of_blocks rfl rfl, h1, by rw [List.map_append, List.map_cons, List.map_nil, mayB_snoc, hb, Bool.and_true, hm]⟩
 case done =>
  rintro D ys W hD rfl hI hK
  have r0 := hI.1.res.cell (i := 0) rfl
  have r1 := hI.1.res.frozen 0
  have G := hide hI
  clear hI h b0 b1 b2 br hF0 K0 HX
  gi_wp2
  have hK' := (KeepsOthers.setCell W ⟨w.heap.size + 1, 0, none⟩ (.bool true)).same D _ hK rfl
  refine ⟨by simp, .inl ⟨_, _, rfl, run_takeDeferred hK', ?_⟩⟩
  have hc5 := cell_kept (World.cell?_setCell_same' W ⟨w.heap.size + 1, 0, none⟩ (.bool true) (by rw [r0]; rfl)) (grownBy_putObj' _ D (.deferred none)) (fun r e => by cases e; exact ⟨_, hK', rfl⟩)
  refine ⟨.bool true, ?_, ?_, ?_⟩
  ·simp [results, Tryz.f142, go_sem, hc5]
  ·have := G.out.2
   rw [map_plF, hnl] at this
   rw [this]
  ·exact (G.out.1.bel.setCell (p := ⟨w.heap.size + 1, 0, none⟩) (by simp) _).trans (belowK_b (w := w) (Nat.le_refl _) _ D _ _ (by rw [hsz] at hD; omega) hK' rfl rfl)
 case stop =>
  rintro D c pre W hD hpre ⟨rfl, h1, hm⟩ hK
  have r0 := h1.res.cell (i := 0) rfl
  have G := hide h1
  clear h1 h b0 b1 b2 br hF0 K0 HX
  gi_wp2
  refine ⟨by simp, .inl ⟨_, _, rfl, run_takeDeferred hK, ?_⟩⟩
  have hc5 := cell_kept r0 (grownBy_putObj' _ D (.deferred none)) (fun r e => by cases e; exact ⟨_, hK, rfl⟩)
  refine ⟨.bool false, ?_, ?_, ?_⟩
  ·simp [results, Tryz.f142, go_sem, hc5]
  ·obtain ⟨k, hkt, rfl⟩ := hpre
   rw [map_plF] at hm
   have e : mayB l (plc key n t) = false := mayB_prefix (upto_prefix _ _ _ hkt) hm
   rw [<- hnl, e]
  ·exact G.out.bel.trans (belowK_b (w := w) (Nat.le_refl _) W D _ _ (by rw [hsz] at hD; omega) hK rfl rfl)
end Go.Proofs.YtcdghalnneilpaaGreat.Bl
namespace Go.Proofs.YtcdghalnneilpaaGreat
open Go.RowKit Go.Deep Math
structure FB where
 f : Nat
 s : Nat
 l : List Bool
structure SM where
 a : Option Addr
 cap : Nat
 fs : List FB
def SM.foot (M : SM) (s : Nat) : List Nat := s :: ((M.a.map (·.block)).toList ++ M.fs.flatMap (fun x => [x.f, x.s]))
def SM.ptrs (M : SM) : List Value := M.fs.map fun x => .pointer (some ⟨x.f, 0, none⟩)
structure StIn (W : World) (s d : Nat) (L : Int) (first : Nat) (M : SM) : Prop where
 box : Blk W s [.pointer (some ⟨d, 0, none⟩), .int .i64 L, .int .i64 (first : Int), .slice M.a M.fs.length M.cap] 210
 row : W.ownsRow 0 207 1 (.slice M.a M.fs.length M.cap) M.fs.length M.ptrs
 flt : ∀ x ∈ M.fs, Bl.FltIn W x.f x.s x.l 3 /\ x.l.length = 256
 nd : (M.fs.map (·.s)).Nodup
theorem SM.mem_f {M : SM} {s : Nat} {x : FB} (h : x ∈ M.fs) : x.f ∈ M.foot s /\ x.s ∈ M.foot s := by
 unfold SM.foot
 simp only [List.mem_cons, List.mem_append, List.mem_flatMap]
 exact ⟨.inr (.inr ⟨x, h, by simp⟩), .inr (.inr ⟨x, h, by simp⟩)⟩
theorem SM.mem_s {M : SM} {s : Nat} : s ∈ M.foot s := by simp [SM.foot]
theorem SM.mem_a {M : SM} {s : Nat} {a : Addr} (h : M.a = some a) : a.block ∈ M.foot s := by simp [SM.foot, h]
theorem SM.foot_inv {M : SM} {s b : Nat} (h : b ∈ M.foot s) : b = s \/ (∃ a, M.a = some a /\ b = a.block) \/ ∃ x ∈ M.fs, b = x.f \/ b = x.s := by
 unfold SM.foot at h
 simp only [List.mem_cons, List.mem_append, List.mem_flatMap] at h
 rcases h with h | h | ⟨x, hx, h⟩
 ·exact .inl h
 ·cases ha : M.a with
  | none => rw [ha] at h; simp at h
  | some a => rw [ha] at h; simp at h; exact .inr (.inl ⟨a, rfl, h⟩)
 ·simp at h; exact .inr (.inr ⟨x, hx, h⟩)
theorem StIn.form {W : World} {s d : Nat} {L : Int} {first : Nat} {M : SM} (h : StIn W s d L first M) : (M.a = none /\ M.fs = []) \/ ∃ q cur, M.a = some ⟨q, 0, none⟩ /\ W.heap[q]? = some (.cells cur 207 (0, 0)) /\ M.fs.length <= M.cap /\ cur.toList.take M.fs.length = M.ptrs := by
 rcases h.row.2 with ⟨hv, h0⟩ | ⟨g, cap, cur, hv, hb, hh, hc, hm, hs, ht⟩
 ·simp at hv; exact .inl ⟨hv.1, List.eq_nil_of_length_eq_zero h0⟩
 ·simp only [Value.slice.injEq] at hv
  obtain ⟨h1, _, h3⟩ := hv
  subst h3
  exact .inr ⟨g, cur, h1, hh, hc, by simpa using ht⟩
theorem StIn.lt {W : World} {s d : Nat} {L : Int} {first : Nat} {M : SM} (h : StIn W s d L first M) : ∀ b ∈ M.foot s, b < W.heap.size := by
 intro b hb
 rcases SM.foot_inv hb with rfl | ⟨a, ha, rfl⟩ | ⟨x, hx, rfl | rfl⟩
 ·exact h.box.lt
 ·rcases h.form with ⟨h1, _⟩ | ⟨q, cur, h1, h2, _⟩
  ·rw [h1] at ha; cases ha
  ·rw [h1] at ha; cases ha; exact (Array.getElem?_eq_some_iff.1 h2).1
 ·exact (h.flt x hx).1.own.lt
 ·exact (h.flt x hx).1.row.lt
theorem row67_keep {W W' : World} {base : Nat} {e : TypeId} {size : Nat} {v : Value} {n : Nat} {xs : List Value} (h : W.ownsRow base e size v n xs) (k : ∀ q, v.ownBlock = some q -> W'.heap[q]? = W.heap[q]?) : W'.ownsRow base e size v n xs := by
 refine ⟨h.1, ?_⟩
 rcases h.2 with h2 | ⟨g, cap, cur, hv, hg, hh, r⟩
 ·exact .inl h2
 ·exact .inr ⟨g, cap, cur, hv, hg, by rw [k g (by rw [hv]; rfl)]; exact hh, r⟩
theorem StIn.same {W W' : World} {s d : Nat} {L : Int} {first : Nat} {M : SM} (h : StIn W s d L first M) (k : ∀ b ∈ M.foot s, W'.heap[b]? = W.heap[b]?) : StIn W' s d L first M :=
 ⟨h.box.same (k s SM.mem_s), row67_keep h.row (fun q hq => by
  cases ha : M.a with
  | none => rw [ha] at hq; simp [Value.ownBlock] at hq
  | some a => rw [ha] at hq; simp [Value.ownBlock] at hq; rw [<- hq]; exact k _ (SM.mem_a ha)), fun x hx => ⟨(h.flt x hx).1.same (k _ (SM.mem_f hx).1) (k _ (SM.mem_f hx).2), (h.flt x hx).2⟩, h.nd⟩
structure Bk (w0 W : World) (d : Nat) (F : List Nat) (S : Dv) (s : Nat) (L : Int) (first : Nat) (M : SM) : Prop where
 law : Law w0 d F S W
 st : StIn W s d L first M
 new : ∀ b ∈ M.foot s, w0.heap.size <= b
 off : ∀ b ∈ M.foot s, b ∉ F
variable {w0 W W' : World} {d s : Nat} {F F' : List Nat} {S S' : Dv} {L : Int} {first : Nat} {M : SM}
theorem Bk.move (h : Bk w0 W d F S s L first M) (hd : DvAt W' d F' S') (m : Moves F F' W W') : Bk w0 W' d F' S' s L first M :=
 ⟨h.law.move hd m, h.st.same (fun b hb => m.keep.block b (h.st.lt b hb) (h.off b hb)), h.new, fun b hb hf => by
  rcases m.foot b hf with h1 | h1
  ·exact h.off b hb h1
  ·have := h.st.lt b hb; omega⟩
theorem Bk.below (h : Bk w0 W d F S s L first M) (b : Below W.heap.size W W') : Bk w0 W' d F S s L first M := h.move (h.law.dev.below b) (Moves.of_keep (Keep.of_below b))
theorem Bk.keep (h : Bk w0 W d F S s L first M) {G : List Nat} (k : Keep G W W') (hF : ∀ b ∈ G, b ∉ F /\ b ∉ M.foot s /\ w0.heap.size <= b) : Bk w0 W' d F S s L first M :=
 ⟨⟨h.law.dev.same (fun b hb => k.block b (h.law.dev.lt b hb) (fun hg => (hF b hg).1 hb)), h.law.low, h.law.bel.trans (k.below (fun b hb => (hF b hb).2.2) h.law.bel.size)⟩, h.st.same (fun b hb => k.block b (h.st.lt b hb) (fun hg => (hF b hg).2.1 hb)), h.new, h.off⟩
def Pg.its : Pg -> List It
 | ⟨some (some b)⟩ => lsO (full b).data.toList
 | _ => []
theorem Pg.its_all (p : Pg) (hp : p.fits) : total p.its <= 384 /\ ∀ x ∈ p.its, x.fits /\ x.good = true := by
 rcases p with ⟨_ | _ | b⟩
 ·simp [Pg.its, total]
 ·simp [Pg.its, total]
 ·have := lsO_all (full b).data.toList
  have h2 : (full b).data.toList.length = 384 := by rw [Array.length_toList]; exact full_size b hp
  rw [h2] at this
  exact this
theorem below_q2 (W : World) (n : Nat) : Below W.heap.size W (W.drewN n) := ⟨rfl, rfl, rfl, Nat.le_refl _, fun _ _ => rfl⟩
theorem keep_q {F : List Nat} (W : World) (n : Nat) : Keep F W (W.drewN n) := Keep.of_below (below_q2 W n)
theorem entb46 (args : Array Value) (w : World) : (callFunc 99 args).run Tryz.prog w = .ok (.enter 99 args) w := enters_of Tryz.func99 (by kernel_rfl) rfl args w
theorem list_ok (h : Bk w0 W d F S s L first M) (hL : L = S.losses) (hoff : S.off = false) (at0 : Nat) (c : Cl) (hk : S.cs[first + at0]? = some c) :
  Calls Tryz.prog 148 #[.pointer (some ⟨s, 0, none⟩), .int .i64 at0] W fun e W' => ∃ v, e = .returned (.tuple #[v, .int .i64 0]) /\ Row W' W.heap.size v c.now.its /\ Bk w0 W' d F (S.readDo (first + at0 : Nat)) s L first M /\ Keep F W W' := by
 have c0 := h.st.box.cell (i := 0) rfl
 have c1 := h.st.box.cell (i := 1) rfl
 have hm := h.law.dev.good.many
 have hlt := (List.getElem?_eq_some_iff.1 hk).1
 have cL : Hid (∀ V : World, V.heap = W.heap -> Calls Tryz.prog 48 #[.pointer (some ⟨d, 0, none⟩)] V fun e w' => e = .returned (.int .i64 L) /\ w' = V) := fun V hV => by
  rw [hL]; exact losses_at (h.law.dev.same (fun _ _ => by rw [hV]))
 have H := hide h
 have hkb : first + at0 <= 4096 := by omega
 obtain ⟨k, hkk⟩ : ∃ k, k = first + at0 := ⟨_, rfl⟩
 have e1 : (first : Int) + (at0 : Int) = (k : Int) := by omega
 rw [<- hkk] at hk hkb ⊢
 have hx1 : first <= 4096 := by omega
 have hwr : IntKind.i64.wrap ((first : Int) + (at0 : Int)) = (k : Int) := by rw [IntKind.wrap_i64, e1]; omega
 have hx2 : at0 <= 4096 := by omega
 have HX : Hid (∀ (P : World -> Prop) (w' : World), DvAt w' d F (S.readDo (k : Nat)) -> Keep F W w' -> Bk w0 w' d F (S.readDo (k : Nat)) s L first M) := fun P w' h1 h2 => H.out.move h1 (Moves.of_keep h2)
 obtain ⟨rv, er, X, cR, hcs⟩ : ∃ (rv : Value) (er : Int) (X : World -> Prop), Hid (∀ q, Calls Tryz.prog 99 #[.pointer (some ⟨d, 0, none⟩), .int .i64 (k : Nat)] (W.drewN q) fun e w' => e = .returned (.tuple #[rv, .int .i64 er]) /\ DvAt w' d F (S.readDo (k : Nat)) /\ Keep F W w' /\ X w') /\
   (((er = 5 \/ er = 6) /\ rv = .slice none 0 0 /\ c.now.its = []) \/ ∃ g lb, er = 0 /\ rv = .slice (some ⟨g, 0, none⟩) 384 384 /\ c.now.its = lsO lb /\ ∀ w', X w' -> BS w' (some ⟨g, 0, none⟩) 384 384 lb) := by
  have hdv : ∀ q, DvAt (W.drewN q) d F S := fun q => h.law.dev.same (fun _ _ => rfl)
  rcases hp : c.now with ⟨_ | _ | b⟩
  ·refine ⟨_, 5, fun _ => True, fun q => (read_bare hk hoff hp (e0 := 5) rfl (by omega) (W.drewN q) (hdv q)).mono ?_, .inl ⟨.inl rfl, rfl, rfl⟩⟩
   rintro e w2 ⟨rfl, h2, k2⟩
   exact ⟨rfl, h2, (keep_q (F := F) W q).trans k2 (fun x hx => .inl hx), trivial⟩
  ·refine ⟨_, 6, fun _ => True, fun q => (read_bare hk hoff hp (e0 := 6) rfl (by omega) (W.drewN q) (hdv q)).mono ?_, .inl ⟨.inr rfl, rfl, rfl⟩⟩
   rintro e w2 ⟨rfl, h2, k2⟩
   exact ⟨rfl, h2, (keep_q (F := F) W q).trans k2 (fun x hx => .inl hx), trivial⟩
  ·refine ⟨_, 0, fun w' => BS w' (some ⟨W.heap.size + 1, 0, none⟩) 384 384 (full b).data.toList, fun q => (read_whole hk hoff hp (W.drewN q) (hdv q)).mono ?_, .inr ⟨W.heap.size + 1, _, rfl, rfl, rfl, fun w' h => h⟩⟩
   rintro e w2 ⟨rfl, hb, h2, k2⟩
   exact ⟨rfl, h2, (keep_q (F := F) W q).trans k2 (fun x hx => .inl hx), hb⟩
 have HCS := hide hcs
 clear h hlt hm hkk hL hk hoff hcs
 go_enter Tryz.func148, Tryz.ntmps148
 go_wp2_with fail
 go_quiet (first | (go_at_call 48; refine Calls.quiet_of_same (cL.out _ ?_); rfl))
 go_wp2_with fail
 obtain ⟨CC, hCC⟩ : ∃ CC : Bool -> World -> Prop, CC = fun f w' => match f with
   | false => w' = W.drewN (nq + 1)
   | true => DvAt w' d F (S.readDo (k : Nat)) /\ Keep F W w' /\ X w' := ⟨_, rfl⟩
 have DR : Hid (CC false { W.drewN nq with drawn := (W.drewN nq).drawn + 1 }) := by show CC false _; rw [hCC]; rfl
 have cC : Hid (∀ w', CC false w' -> Calls Tryz.prog 99 #[.pointer (some ⟨d, 0, none⟩), .int .i64 (k : Nat)] w' fun e w' => e = .returned (.tuple #[rv, .int .i64 er]) /\ CC true w') := fun w' hw => by
  rw [hCC] at hw ⊢
  simp only at hw
  subst hw
  exact cR.out _
 have cells : Hid (∀ f w', CC f w' -> w'.cell? ⟨s, 0, none⟩ = some (.pointer (some ⟨d, 0, none⟩)) /\ w'.cell? ⟨s, 2, none⟩ = some (.int .i64 (first : Int))) := fun f w' hw => by
  rw [hCC] at hw
  cases f with
  | false =>
   simp only at hw
   subst hw
   exact ⟨H.out.st.box.cell (i := 0) rfl, H.out.st.box.cell (i := 2) rfl⟩
  | true =>
   have := (HX.out X w' hw.1 hw.2.1).st.box
   exact ⟨this.cell (i := 0) rfl, this.cell (i := 2) rfl⟩
 have HE : Hid (∀ w', CC true w' -> DvAt w' d F (S.readDo (k : Nat)) /\ Keep F W w' /\ X w') := fun w' hw => by rw [hCC] at hw; exact hw
 clear hCC c0 c1 cL cR
 refine wp_region_turn (by kernel_rfl) (by kernel_rfl) (fun i => ([.pointer (some ⟨s, 0, none⟩), .pointer (some ⟨s, 0, none⟩), .pointer (some ⟨s, 0, none⟩), .pointer (some ⟨d, 0, none⟩), .pointer (some ⟨s, 0, none⟩), .pointer (some ⟨s, 0, none⟩), .pointer (some ⟨s, 2, none⟩), .int .i64 (first : Int), .int .i64 (at0 : Int), .int .i64 (k : Int), .tuple #[rv, .int .i64 er], .tuple #[rv, .int .i64 er], rv, .int .i64 er, rv, .int .i64 er] : List Value).getD i undef) 10 (by decide) (CC) (DR.out) ?_ ?_
 ·intro i o hi f w' ev hc hz hin hout hcst hfn
  have hlt : i < 16 := by
   have := (Array.getElem?_eq_some_iff.1 hi).1
   simpa using this
  match i, hlt with
  | 0, _ =>
   cases hi
   have e0 : ev (.tmp 0) = .pointer (some ⟨s, 0, none⟩) := hout 0
   rw [if_neg (by decide)]
   refine .inl ⟨w', ?_, hc⟩
   simp [execOp, e0, hcst, go_sem]
  | 1, _ =>
   cases hi
   have e0 : ev (.tmp 20) = .pointer (some ⟨s, 0, none⟩) := hin 20 0 ⟨0, .data⟩
   rw [if_neg (by decide)]
   refine .inl ⟨w', ?_, hc⟩
   simp [execOp, e0, hcst, go_sem]
  | 2, _ =>
   cases hi
   have e0 : ev (.tmp 21) = .pointer (some ⟨s, 0, none⟩) := hin 21 1 ⟨1, .data⟩
   rw [if_neg (by decide)]
   refine .inl ⟨w', ?_, hc⟩
   simp [execOp, e0, hcst, go_sem]
  | 3, _ =>
   cases hi
   have e0 : ev (.tmp 22) = .pointer (some ⟨s, 0, none⟩) := hin 22 2 ⟨2, .data⟩
   rw [if_neg (by decide)]
   refine .inl ⟨w', ?_, hc⟩
   show _ = Result.ok (Next.value (.pointer (some ⟨d, 0, none⟩))) w'
   have q := (cells.out f w' hc).1
   simp [execOp, e0, q, hcst, go_sem]
  | 4, _ =>
   cases hi
   have e0 : ev (.tmp 0) = .pointer (some ⟨s, 0, none⟩) := hout 0
   rw [if_neg (by decide)]
   refine .inl ⟨w', ?_, hc⟩
   simp [execOp, e0, hcst, go_sem]
  | 5, _ =>
   cases hi
   have e0 : ev (.tmp 24) = .pointer (some ⟨s, 0, none⟩) := hin 24 4 ⟨4, .data⟩
   rw [if_neg (by decide)]
   refine .inl ⟨w', ?_, hc⟩
   simp [execOp, e0, hcst, go_sem]
  | 6, _ =>
   cases hi
   have e0 : ev (.tmp 25) = .pointer (some ⟨s, 0, none⟩) := hin 25 5 ⟨5, .data⟩
   rw [if_neg (by decide)]
   refine .inl ⟨w', ?_, hc⟩
   simp [execOp, e0, hcst, go_sem]
  | 7, _ =>
   cases hi
   have e0 : ev (.tmp 26) = .pointer (some ⟨s, 2, none⟩) := hin 26 6 ⟨6, .data⟩
   rw [if_neg (by decide)]
   refine .inl ⟨w', ?_, hc⟩
   show _ = Result.ok (Next.value (.int .i64 (first : Int))) w'
   have q := (cells.out f w' hc).2
   simp [execOp, e0, q, hcst, go_sem]
  | 8, _ =>
   cases hi
   have e0 : ev (.tmp 1) = .int .i64 (at0 : Int) := hout 1
   rw [if_neg (by decide)]
   refine .inl ⟨w', ?_, hc⟩
   simp [execOp, e0, hcst, go_sem]
  | 9, _ =>
   cases hi
   have e0 : ev (.tmp 27) = .int .i64 (first : Int) := hin 27 7 ⟨7, .data⟩
   have e1 : ev (.tmp 28) = .int .i64 (at0 : Int) := hin 28 8 ⟨8, .data⟩
   rw [if_neg (by decide)]
   refine .inl ⟨w', ?_, hc⟩
   simp [execOp, e0, e1, hcst, go_sem, hwr]
  | 10, _ =>
   cases hi
   have e0 : ev (.tmp 23) = .pointer (some ⟨d, 0, none⟩) := hin 23 3 ⟨3, .data⟩
   have e1 : ev (.tmp 29) = .int .i64 (k : Int) := hin 29 9 ⟨9, .data⟩
   rw [if_pos rfl]
   refine .inr (.inr ⟨99, #[.pointer (some ⟨d, 0, none⟩), .int .i64 (k : Int)], ?_, ?_⟩)
   ·have ef := hfn 99
    simp [execOp, resolve, invoke, ef, hcst, e0, e1, Result.andThen]
    exact entb46 _ _
   ·rw [hz rfl] at hc
    refine (cC.out w' hc).mono ?_
    rintro e w2 ⟨rfl, h2⟩
    exact ⟨rfl, h2⟩
  | 11, _ =>
   cases hi
   have e0 : ev (.tmp 30) = .tuple #[rv, .int .i64 er] := hin 30 10 ⟨10, .data⟩
   rw [if_neg (by decide)]
   refine .inl ⟨w', ?_, hc⟩
   simp [execOp, e0, hcst, go_sem]
  | 12, _ =>
   cases hi
   have e0 : ev (.tmp 19) = .tuple #[rv, .int .i64 er] := hin 19 11 ⟨11, .data⟩
   rw [if_neg (by decide)]
   refine .inl ⟨w', ?_, hc⟩
   simp [execOp, e0, hcst, go_sem]
  | 13, _ =>
   cases hi
   have e0 : ev (.tmp 19) = .tuple #[rv, .int .i64 er] := hin 19 11 ⟨11, .data⟩
   rw [if_neg (by decide)]
   refine .inl ⟨w', ?_, hc⟩
   simp [execOp, e0, hcst, go_sem]
  | 14, _ =>
   cases hi
   have e0 : ev (.tmp 31) = rv := hin 31 12 ⟨12, .data⟩
   rw [if_neg (by decide)]
   refine .inl ⟨w', ?_, hc⟩
   simp [execOp, e0, hcst, go_sem]
  | 15, _ =>
   cases hi
   have e0 : ev (.tmp 32) = .int .i64 er := hin 32 13 ⟨13, .data⟩
   rw [if_neg (by decide)]
   refine .inl ⟨w', ?_, hc⟩
   simp [execOp, e0, hcst, go_sem]
 ·intro w7 hc
  simp only [lexF, Act.put, List.setIfInBounds_toArray, List.set_cons_succ, List.set_cons_zero, List.getD_cons_succ, List.getD_cons_zero]
  have T := hide (HE.out w7 hc)
  clear hwr
  clear hc cC cells DR HE
  rcases HCS.out with ⟨he, rfl, hi⟩ | ⟨g, lb, rfl, rfl, hi, hX⟩
  ·have HI := hide hi
   clear hi
   rcases he with rfl | rfl
   ·go_wp2
    go_ret2
    exact ⟨_, rfl, by rw [HI.out]; exact Row.nil _ _, HX.out X _ T.out.1 T.out.2.1, T.out.2.1⟩
   ·go_wp2
    go_ret2
    exact ⟨_, rfl, by rw [HI.out]; exact Row.nil _ _, HX.out X _ T.out.1 T.out.2.1, T.out.2.1⟩
  ·have EP := hide hi
   have cT := hide (list_cap take_is (some ⟨g, 0, none⟩) 384 384 lb (by omega) (by omega) w7 (hX w7 T.out.2.2))
   clear hi hX
   go_wp2_with fail
   refine cT.out.mono ?_
   rintro e w3 ⟨b3, hp3⟩
   have B3 := hide b3
   clear b3 cT
   cases hl : lst lb with
   | none =>
    rw [hl] at hp3
    simp only at hp3
    subst hp3
    have E : Hid (lsO lb = []) := by show _ = _; simp [lsO, hl]
    clear hl
    go_wp2
    go_ret2
    refine ⟨_, rfl, ?_, (HX.out X _ T.out.1 T.out.2.1).below B3.out, T.out.2.1.trans (Keep.of_below (F := []) B3.out) (by simp)⟩
    rw [EP.out, E.out]
    exact Row.nil _ _
   | some xs =>
    rw [hl] at hp3
    simp only at hp3
    obtain ⟨v, rfl, hv⟩ := hp3
    have E : Hid (lsO lb = xs) := by show _ = _; simp [lsO, hl]
    have HV := hide hv
    clear hl hv
    go_wp2
    go_ret2
    refine ⟨v, rfl, ?_, (HX.out X _ T.out.1 T.out.2.1).below B3.out, T.out.2.1.trans (Keep.of_below (F := []) B3.out) (by simp)⟩
    rw [EP.out, E.out]
    exact Row.mono (base := w7.heap.size) HV.out T.out.2.1.size
variable {w0 W W' : World} {d s : Nat} {F F' : List Nat} {S S' : Dv} {L : Int} {first : Nat} {M : SM}
def bkt (key : List UInt8) (n : Nat) : Nat := (Bl.hashK (txt key) % (n : Int)).toNat
theorem bkt_lt (key : List UInt8) (n : Nat) (hn : 0 < n) : bkt key n < n := by
 unfold bkt
 have h1 := Int.emod_nonneg (Bl.hashK (txt key)) (show (n : Int) ≠ 0 by omega)
 have h2 := Int.emod_lt_of_pos (Bl.hashK (txt key)) (show (0 : Int) < n by omega)
 omega
theorem bucket_any (h : StIn W s d L first M) (key : List UInt8) (hk : key.length <= maxLen) (h1 : 0 < M.fs.length) (h2 : M.fs.length <= 1000) :
  Calls Tryz.prog 141 #[.pointer (some ⟨s, 0, none⟩), .string (txt key)] W fun e W' => e = .returned (.int .i64 (bkt key M.fs.length : Nat)) /\ ∃ q, W' = W.drewN q := by
 have c3 := h.box.cell (i := 3) rfl
 obtain ⟨n, hn⟩ : ∃ n, n = M.fs.length := ⟨_, rfl⟩
 rw [<- hn] at c3 h1 h2 ⊢
 have cH : Hid (∀ V : World, Calls Tryz.prog 116 #[.string (txt key)] V fun e w' => e = .returned (.int .u64 (Bl.hashK (txt key))) /\ w' = V) := fun V => Bl.hash_any (txt key) V (by rw [txt_size]; exact hk)
 obtain ⟨H, hH⟩ : ∃ H, H = Bl.hashK (txt key) := ⟨_, rfl⟩
 have hr := Bl.hashK_range (txt key)
 have hb : (bkt key n : Int) = H % (n : Int) := by
  rw [hH]
  unfold bkt
  have := Int.emod_nonneg (Bl.hashK (txt key)) (show (n : Int) ≠ 0 by omega)
  omega
 have hbl := bkt_lt key n h1
 rw [<- hH] at cH hr
 have HB : Hid (wrap64 (H % (n : Int)) = (bkt key n : Int)) := by show _ = _; rw [<- hb]; unfold wrap64; omega
 have hn0 : ¬ ((n : Int) = 0) := by omega
 have hr0 := hr.1
 have hr1 := hr.2
 have hw1 : IntKind.u64.wrap (n : Int) = (n : Int) := by rw [IntKind.wrap_u64]; omega
 clear hb hr h hn hH hk
 go_enter Tryz.func141, Tryz.ntmps141
 go_wp2_with fail
 go_quiet (first | (go_at_call 116; refine Calls.quiet_of_same (cH.out _)))
 go_wp2
 go_ret
 exact ⟨congrArg (fun z => Ending.returned (.int .i64 z)) HB.out, _, rfl⟩
end Go.Proofs.YtcdghalnneilpaaGreat
