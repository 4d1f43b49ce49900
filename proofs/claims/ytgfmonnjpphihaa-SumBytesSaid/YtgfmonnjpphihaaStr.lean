/-
  Strings and slices of bytes, there and back; the hash of a string behind a name.
-/
import Derived.Test.YtgfmonnjpphihaaBytes
import Derived.Laws.BytesString
import Derived.Lib.ConvBytes
namespace Go.Proofs.Ytgfmonnjpphihaa
open Go.RowKit Math

theorem hash_at (s : ByteArray) (w : World) (hs : s.size ≤ maxLen) :
    Calls Try.prog 16 #[.string s] w fun e w' => e = .returned (.int .u64 (hashS offset s)) ∧ w' = w := hash_any s w hs
theorem second_at (s : ByteArray) (w : World) (hs : s.size ≤ maxLen) :
    Calls Try.prog 12 #[.string s] w fun e w' => e = .returned (.int .u64 (hashS second0 s)) ∧ w' = w := second_any s w hs

theorem foldl_push (l : List Int) (s : ByteArray) : l.foldl (fun r n => r.push (UInt8.ofNat n.toNat)) s = s ++ strOf l := by
  induction l generalizing s with
  | nil => apply ByteArray.ext; simp [strOf]
  | cons x xs ih =>
    rw [List.foldl_cons, ih]
    apply ByteArray.ext
    simp [strOf]

theorem Reads.cells {w : World} {a : Addr} {l : List Int} (h : Reads w (some a) l) : ∀ j u, (l.map (Value.int .u8))[j]? = some u → w.cell? (a.add j) = some u := by
  intro j u hj
  have hjl : j < l.length := by
    rcases Nat.lt_or_ge j l.length with h' | h'
    · exact h'
    · simp [List.getElem?_eq_none h'] at hj
  obtain ⟨b, off, e, hc⟩ := h.1 j hjl
  cases e
  rw [List.getElem?_map, List.getElem?_eq_getElem hjl] at hj
  simp [List.getD_eq_getElem?_getD, List.getElem?_eq_getElem hjl] at hj hc
  subst hj
  rw [← hc]
  by_cases hj0 : j = 0
  · subst hj0; simp [Addr.add]
  · simp [Addr.add, hj0]

/-- 'string(b)'. -/
theorem run_str (w : World) (a : Addr) (n c : Nat) (l : List Int) (hn : l.length = n) (hr : Reads w (some a) l) :
    (convert 28 9 (.slice (some a) n c)).run Try.prog w = .ok (.string (strOf l)) w := by
  rw [run_convert_bytes_string w 28 9 5 (some a) n c Try.underlying28 Try.underlying5 Try.underlying9]
  have h := run_firstCells_some (P := Try.prog) w 1 n a n c (l.map (Value.int .u8)) (by simpa using hn) hr.cells
  have h2 : (loadCells a n).run Try.prog w = .ok (l.map (Value.int .u8)).toArray w := by
    simpa [Builtin.firstCells] using h
  rw [run_bytesToString w a n c l h2, foldl_push]
  congr 2

/-- 'string([]byte{x})'. -/
theorem run_str_one (w : World) (x : Int) (N : Nat) (hN : N = w.heap.size) (h0 : 0 ≤ x) (h1 : x ≤ 255) :
    (convert 28 9 (.slice (some ⟨N, 0, none⟩) 1 1)).run Try.prog (w.alloc (.cells #[.int .u8 x] 5)) = .ok (.string (strOf [x])) (w.alloc (.cells #[.int .u8 x] 5)) := by
  subst hN
  refine run_str _ _ _ _ [x] rfl ⟨fun i hi => ⟨_, _, rfl, ?_⟩, fun i => ?_⟩
  · have : i = 0 := by simp at hi; omega
    subst this
    simp [World.cell?, World.alloc, -World.alloc_eq]
  · cases i <;> simp <;> omega

/-- The cells of a list of bytes. -/
def cellsOf (l : List Int) : Array Value := (l.map (Value.int .u8)).toArray

theorem Reads.made (w : World) (l : List Int) (fz : Nat × Nat) (N : Nat) (hN : N = w.heap.size) (hl : ∀ i, 0 ≤ l.getD i 0 ∧ l.getD i 0 ≤ 255) :
    Reads (w.alloc (.cells (cellsOf l) 5 fz)) (some ⟨N, 0, none⟩) l := by
  subst hN
  refine ⟨fun i hi => ⟨_, _, rfl, ?_⟩, hl⟩
  simp [World.cell?, World.alloc, -World.alloc_eq, cellsOf, hi]

theorem zeros_range (n i : Nat) : 0 ≤ (List.replicate n (0 : Int)).getD i 0 ∧ (List.replicate n (0 : Int)).getD i 0 ≤ 255 := by
  rw [List.getD_eq_getElem?_getD, List.getElem?_replicate]
  split <;> simp

/-- 'make([]byte, n)'. -/
theorem run_make_zeros (n : Nat) (hn : n ≤ 1000000) (w : World) :
    (Instr.makeSlice 28 (.int .i64 (n : Int)) (.int .i64 (n : Int))).run Try.prog w = .ok (.slice (some ⟨w.heap.size, 0, none⟩) n n) (w.alloc (.cells (cellsOf (List.replicate n 0)) 5)) := by
  obtain ⟨i, hi, hi2⟩ := Option.map_eq_some_iff.1 info5
  simp only [Prod.mk.injEq] at hi2
  obtain ⟨hz0, hz1, hz2⟩ := hi2
  have := run_make (P := Try.prog) w 28 5 i (.int .u8 0) Try.underlying28 hi hz0 .i64 .i64 (n : Int) (n : Int) (by omega) (by omega) (by rw [hz2]; omega) (by omega)
  rw [this, hz1]
  have e : madeCells (Value.int .u8 0).cells ((n : Int).toNat * 1) = cellsOf (List.replicate n 0) := by
    have hc : (Value.int .u8 0).cells = #[.int .u8 0] := rfl
    rw [hc, Int.toNat_natCast, Nat.mul_one]
    unfold madeCells cellsOf
    apply Array.ext
    · simp
    · intro j h1 h2
      simp [Nat.mod_one]
  rw [e, Int.toNat_natCast]

/-- 'string(make([]byte, n))'. -/
theorem run_str_made (l : List Int) (n : Nat) (hn : l.length = n) (hl : ∀ i, 0 ≤ l.getD i 0 ∧ l.getD i 0 ≤ 255) (w : World) (c N : Nat) (hN : N = w.heap.size) :
    (convert 28 9 (.slice (some ⟨N, 0, none⟩) n c)).run Try.prog (w.alloc (.cells (cellsOf l) 5)) = .ok (.string (strOf l)) (w.alloc (.cells (cellsOf l) 5)) :=
  run_str _ _ _ _ l hn (Reads.made w l (0, 0) N hN hl)

/-- '[]byte(s)'. -/
theorem run_bytes (w : World) (s : ByteArray) :
    (convert 9 28 (.string s)).run Try.prog w = .ok (.slice (some ⟨w.heap.size, 0, none⟩) s.size (grownCap w s.size 0 5)) (Lib.bytesWorld w 5 s) :=
  Lib.run_convert_string_bytes w 9 28 5 s Try.underlying9 Try.underlying28 Try.underlying5
theorem below_bytes (w : World) (s : ByteArray) : Below w.heap.size w (Lib.bytesWorld w 5 s) :=
  ⟨rfl, rfl, rfl, by rw [Lib.bytesWorld_size]; omega, fun k hk => Lib.bytesWorld_at_old w 5 s k hk⟩
theorem reads_bytes (w : World) (s : ByteArray) : Reads (Lib.bytesWorld w 5 s) (some ⟨w.heap.size, 0, none⟩) (bytesOf s) := by
  refine ⟨fun i hi => ⟨_, _, rfl, ?_⟩, bytesOf_range s⟩
  rw [bytesOf_length] at hi
  rw [Nat.zero_add, Lib.bytesWorld_cell w 5 s i hi]
  have hi' : i < s.data.toList.length := by rw [Array.length_toList]; exact hi
  unfold bytesOf
  rw [List.getD_eq_getElem?_getD, List.getD_eq_getElem?_getD, List.getElem?_map, List.getElem?_eq_getElem hi']
  rfl

theorem reads_bytes_at (w : World) (s : ByteArray) (N : Nat) (hN : N = w.heap.size) : Reads (Lib.bytesWorld w 5 s) (some ⟨N, 0, none⟩) (bytesOf s) := by
  subst hN; exact reads_bytes w s

end Go.Proofs.Ytgfmonnjpphihaa
