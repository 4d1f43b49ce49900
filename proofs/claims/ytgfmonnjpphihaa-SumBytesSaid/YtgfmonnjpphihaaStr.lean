/-
  Strings and slices of bytes, there and back; the hash of a string behind a name.
-/
import Derived.Test.YtgfmonnjpphihaaBytes
import Derived.Laws.BytesString
import Derived.Lib.ConvBytes
namespace Go.Proofs.Ytgfmonnjpphihaa
open Go.RowKit Math

theorem hash_at (s : ByteArray) (w : World) (hs : s.size ≤ maxLen) :
    Calls Try.prog 16 #[.string s] w fun e w' => e = .returned (.int .u64 (hashS offset s)) ∧ w' = w := hash_any s w hs
theorem second_at (s : ByteArray) (w : World) (hs : s.size ≤ maxLen) :
    Calls Try.prog 12 #[.string s] w fun e w' => e = .returned (.int .u64 (hashS second0 s)) ∧ w' = w := second_any s w hs

theorem foldl_push (l : List Int) (s : ByteArray) : l.foldl (fun r n => r.push (UInt8.ofNat n.toNat)) s = s ++ strOf l := by
  induction l generalizing s with
  | nil => apply ByteArray.ext; simp [strOf]
  | cons x xs ih =>
    rw [List.foldl_cons, ih]
    apply ByteArray.ext
    simp [strOf]

theorem Reads.cells {w : World} {a : Addr} {l : List Int} (h : Reads w (some a) l) : ∀ j u, (l.map (Value.int .u8))[j]? = some u → w.cell? (a.add j) = some u := by
  intro j u hj
  have hjl : j < l.length := by
    rcases Nat.lt_or_ge j l.length with h' | h'
    · exact h'
    · simp [List.getElem?_eq_none h'] at hj
  obtain ⟨b, off, e, hc⟩ := h.1 j hjl
  cases e
  rw [List.getElem?_map, List.getElem?_eq_getElem hjl] at hj
  simp [List.getD_eq_getElem?_getD, List.getElem?_eq_getElem hjl] at hj hc
  subst hj
  rw [← hc]
  by_cases hj0 : j = 0
  · subst hj0; simp [Addr.add]
  · simp [Addr.add, hj0]

/-- 'string(b)'. -/
theorem run_str (w : World) (a : Addr) (n c : Nat) (l : List Int) (hn : l.length = n) (hr : Reads w (some a) l) :
    (convert 28 9 (.slice (some a) n c)).run Try.prog w = .ok (.string (strOf l)) w := by
  rw [run_convert_bytes_string w 28 9 5 (some a) n c Try.underlying28 Try.underlying5 Try.underlying9]
  have h := run_firstCells_some (P := Try.prog) w 1 n a n c (l.map (Value.int .u8)) (by simpa using hn) hr.cells
  have h2 : (loadCells a n).run Try.prog w = .ok (l.map (Value.int .u8)).toArray w := by
    simpa [Builtin.firstCells] using h
  rw [run_bytesToString w a n c l h2, foldl_push]
  congr 2

/-- 'string([]byte{x})'. -/
theorem run_str_one (w : World) (x : Int) (N : Nat) (hN : N = w.heap.size) (h0 : 0 ≤ x) (h1 : x ≤ 255) :
    (convert 28 9 (.slice (some ⟨N, 0, none⟩) 1 1)).run Try.prog (w.alloc (.cells #[.int .u8 x] 5)) = .ok (.string (strOf [x])) (w.alloc (.cells #[.int .u8 x] 5)) := by
  subst hN
  refine run_str _ _ _ _ [x] rfl ⟨fun i hi => ⟨_, _, rfl, ?_⟩, fun i => ?_⟩
  · have : i = 0 := by simp at hi; omega
    subst this
    simp [World.cell?, World.alloc, -World.alloc_eq]
  · cases i <;> simp <;> omega

end Go.Proofs.Ytgfmonnjpphihaa
