/- A filter in memory: New, Add, May. -/
import Derived.Test.YtbccnfbombgdmaaBIter
import Derived.Laws.MakeOwn
set_option linter.unusedVariables false
set_option linter.unusedSimpArgs false
namespace Go.Proofs.Ytbccnfbombgdmaa.Bl
open Go.RowKit Go.Shelf Go.Deep Math
attribute [local go_sem] Oper.semAt_some

/-- The filter f, its bits in block s. -/
structure FltIn (w : World) (f s : Nat) (l : List Bool) (t : Nat) : Prop where
  own : Blk w f [.slice (some ⟨s, 0, none⟩) l.length l.length, .int .i64 t] 89
  row : Blk w s (l.map Value.bool) 4
  ne : f ≠ s
  n8 : 8 ≤ l.length
  n9 : l.length ≤ 65536
  t1 : 1 ≤ t
  t8 : t ≤ 8
theorem FltIn.same {w w' : World} {f s : Nat} {l : List Bool} {t : Nat} (h : FltIn w f s l t) (h1 : w'.heap[f]? = w.heap[f]?) (h2 : w'.heap[s]? = w.heap[s]?) : FltIn w' f s l t :=
  ⟨h.own.same h1, h.row.same h2, h.ne, h.n8, h.n9, h.t1, h.t8⟩
theorem FltIn.keep {w w' : World} {f s : Nat} {l : List Bool} {t : Nat} (h : FltIn w f s l t) {F : List Nat} (k : Keep F w w') (h1 : f ∉ F) (h2 : s ∉ F) : FltIn w' f s l t :=
  h.same (k.block f h.own.lt h1) (k.block s h.row.lt h2)
theorem FltIn.alloc {w : World} {f s : Nat} {l : List Bool} {t : Nat} (h : FltIn w f s l t) (o : Obj) : FltIn (w.alloc o) f s l t :=
  ⟨h.own.alloc o, h.row.alloc o, h.ne, h.n8, h.n9, h.t1, h.t8⟩
theorem FltIn.drew {w : World} {f s : Nat} {l : List Bool} {t : Nat} (h : FltIn w f s l t) : FltIn w.drew f s l t := h.same rfl rfl
theorem FltIn.below {w w' : World} {f s : Nat} {l : List Bool} {t : Nat} (h : FltIn w f s l t) (k : Below w.heap.size w w') : FltIn w' f s l t :=
  h.same (k.block f h.own.lt) (k.block s h.row.lt)

/-- Bits set one after the other. -/
def setB (l : List Bool) (ps : List Nat) : List Bool := ps.foldl (fun l i => l.set i true) l
theorem setB_nil (l : List Bool) : setB l [] = l := rfl
theorem setB_snoc (l : List Bool) (ps : List Nat) (i : Nat) : setB l (ps ++ [i]) = (setB l ps).set i true := by simp [setB]
theorem setB_append (l : List Bool) (ps qs : List Nat) : setB l (ps ++ qs) = setB (setB l ps) qs := by simp [setB]
theorem setB_length (l : List Bool) (ps : List Nat) : (setB l ps).length = l.length := by
  induction ps generalizing l with
  | nil => rfl
  | cons x xs ih => show (setB (l.set x true) xs).length = _; rw [ih]; simp
/-- The bits of a key. -/
def plc (key : ByteArray) (n t : Nat) : List Nat := upto (pl (hashK key) (stepK key) n) t

theorem FltIn.set {w : World} {f s : Nat} {l : List Bool} {t : Nat} (h : FltIn w f s l t) (i : Nat) : FltIn (w.setCell ⟨s, i, none⟩ (.bool true)) f s (l.set i true) t := by
  refine ⟨?_, ?_, h.ne, by simpa using h.n8, by simpa using h.n9, h.t1, h.t8⟩
  · rw [List.length_set]; exact h.own.other (a := ⟨s, i, none⟩) h.ne _
  · have := h.row.set i (.bool true); rw [List.map_set]; exact this

theorem info4 : (Try.prog.info? 4).map (fun i => (i.zero, i.size, i.bytes)) = some (some (.bool false), 1, 1) := by kernel_rfl
def boolsA (l : List Bool) : Array Value := (l.map Value.bool).toArray
/-- 'make([]bool, n)'. -/
theorem run_make_bools (n : Nat) (hn : n ≤ 1000000) (w : World) :
    (Instr.makeSlice 87 (.int .i64 (n : Int)) (.int .i64 (n : Int))).run Try.prog w = .ok (.slice (some ⟨w.heap.size, 0, none⟩) n n) (w.alloc (.cells (boolsA (List.replicate n false)) 4)) := by
  unfold boolsA
  obtain ⟨i, hi, hi2⟩ := Option.map_eq_some_iff.1 info4
  simp only [Prod.mk.injEq] at hi2
  obtain ⟨hz0, hz1, hz2⟩ := hi2
  have := run_make (P := Try.prog) w 87 4 i (.bool false) Try.underlying87 hi hz0 .i64 .i64 (n : Int) (n : Int) (by omega) (by omega) (by rw [hz2]; omega) (by omega)
  rw [this, hz1]
  have e : madeCells (Value.bool false).cells ((n : Int).toNat * 1) = ((List.replicate n false).map Value.bool).toArray := by
    have hc : (Value.bool false).cells = #[.bool false] := rfl
    rw [hc, Int.toNat_natCast, Nat.mul_one]
    unfold madeCells
    apply Array.ext
    · simp
    · intro j h1 h2
      simp [Nat.mod_one]
  rw [e, Int.toNat_natCast]

set_option maxHeartbeats 400000 in
theorem new_bad (b t : Int) (w : World) (h : b < 8 ∨ 65536 < b ∨ t < 1 ∨ 8 < t) :
    Calls Try.prog 43 #[.int .i64 b, .int .i64 t] w fun e w' => e = .returned (.tuple #[.pointer none, .int .i64 1]) ∧ w' = w := by
  by_cases h1 : b < 8
  · clear h
    go_enter Try.func43, Try.ntmps43
    go_wp2
    go_ret2
    exact ⟨rfl, rfl⟩
  by_cases h2 : 65536 < b
  · clear h
    go_enter Try.func43, Try.ntmps43
    go_wp2
    go_ret2
    exact ⟨rfl, rfl⟩
  by_cases h3 : t < 1
  · clear h
    go_enter Try.func43, Try.ntmps43
    go_wp2
    go_ret2
    exact ⟨rfl, rfl⟩
  have h4 : 8 < t := by omega
  clear h
  go_enter Try.func43, Try.ntmps43
  go_wp2
  go_ret2
  exact ⟨rfl, rfl⟩

set_option maxHeartbeats 400000 in
theorem new_ok (n t : Nat) (w : World) (h1 : 8 ≤ n) (h2 : n ≤ 65536) (h3 : 1 ≤ t) (h4 : t ≤ 8) :
    Calls Try.prog 43 #[.int .i64 n, .int .i64 t] w fun e w' => e = .returned (.tuple #[.pointer (some ⟨w.heap.size + 1, 0, none⟩), .int .i64 0]) ∧ FltIn w' (w.heap.size + 1) w.heap.size (List.replicate n false) t ∧ Below w.heap.size w w' := by
  have e1 : ¬ (n : Int) < 8 := by omega
  have e2 : ¬ (65536 : Int) < (n : Int) := by omega
  have e3 : ¬ (t : Int) < 1 := by omega
  have e4 : ¬ (8 : Int) < (t : Int) := by omega
  have hmk := run_make_bools n (by omega)
  go_enter Try.func43, Try.ntmps43
  go_wp2
  go_ret2
  refine ⟨rfl, ⟨?_, ?_, by omega, by simpa using h1, by simpa using h2, h3, h4⟩, ((Below.refl _ w).alloc (Nat.le_refl _) _).alloc (by simp) _⟩
  · have := Blk.new (w.alloc (.cells (boolsA (List.replicate n false)) 4)) [.slice (some ⟨w.heap.size, 0, none⟩) n n, .int .i64 t] 89
    rw [World.size_alloc] at this
    rw [List.length_replicate]
    exact this
  · exact (Blk.new w ((List.replicate n false).map Value.bool) 4).alloc _

theorem places_any (f : Nat) (key : ByteArray) (w : World) :
    Calls Try.prog 52 #[.pointer (some ⟨f, 0, none⟩), .string key] w fun e w' => e = .returned (.func (.func 62) #[] #[.pointer (some ⟨w.heap.size + 1, 0, none⟩), .pointer (some ⟨w.heap.size, 0, none⟩)]) ∧
      w' = (w.alloc (.cells #[.pointer (some ⟨f, 0, none⟩)] 67)).alloc (.cells #[.string key] 9) := by
  go_enter Try.func52, Try.ntmps52
  go_wp2
  go_ret
  exact ⟨rfl, rfl⟩
end Go.Proofs.Ytbccnfbombgdmaa.Bl
