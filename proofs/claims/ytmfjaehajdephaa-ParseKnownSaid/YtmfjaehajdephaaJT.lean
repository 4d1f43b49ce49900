/- Texts joined. -/
import Derived.Test.YtmfjaehajdephaaNamed
import Derived.Lib.AppendZeros
import Derived.Handy
import Derived.Test.YtmfjaehajdephaaJR
import Derived.Deep.AppendSrc
/-
  The document's own commands: the key of one, and the program's command for it.
-/
namespace Go.Proofs.Ytmfjaehajdephaa
open Go.Shelf Go.RowKit Go.Deep
set_option linter.unusedVariables false
set_option linter.unusedSimpArgs false
set_option maxRecDepth 1000000

/-- A struct that lies in a block. -/
def Bx (w : World) (b : Nat) (cs : Array Value) (t : TypeId) : Prop := b < w.heap.size ∧ w.heap[b]? = some (.cells cs t)
theorem Bx.new (w : World) (cs : Array Value) (t : TypeId) : Bx (w.alloc (.cells cs t)) w.heap.size cs t := by
  refine ⟨?_, ?_⟩
  · show _ < (w.heap.push _).size
    rw [Array.size_push]
    omega
  · show (w.heap.push _)[w.heap.size]? = _
    simp
theorem Bx.later {w W : World} {b : Nat} {cs : Array Value} {t : TypeId} (h : Bx w b cs t) (k : Below w.heap.size w W) : Bx W b cs t :=
  ⟨Nat.lt_of_lt_of_le h.1 k.size, (k.block b h.1).trans h.2⟩
theorem Bx.cell {w : World} {b : Nat} {cs : Array Value} {t : TypeId} (h : Bx w b cs t) (i : Nat) (v : Value) (hv : cs[i]? = some v) : w.cell? ⟨b, i, none⟩ = some v := by
  simp only [World.cell?, h.2]
  exact hv


theorem key35 (a : Option Addr) (n cap : Nat) (c : Cm) (w : World) (h : StrsAt w a n c.keys) (hn : n ≤ 5000) :
    Calls Try.prog 45 #[cmV c (.slice a n cap)] w fun e w' => e = .returned (.string (hd c.keys)) ∧ w' = w.alloc (.cells #[.string c.what, .string c.verb, .slice a n cap, .string c.data, .int .u32 c.fl, .int .i64 c.ex, .int .u64 c.cs, .int .u64 c.y, .bool c.wc, .bool c.wt, .bool c.dn, .bool c.q] 32) := by
  have B := (Below.refl w.heap.size w).alloc (Nat.le_refl _) (.cells #[.string c.what, .string c.verb, .slice a n cap, .string c.data, .int .u32 c.fl, .int .i64 c.ex, .int .u64 c.cs, .int .u64 c.y, .bool c.wc, .bool c.wt, .bool c.dn, .bool c.q] 32)
  have H := h.later B
  rcases Nat.eq_zero_or_pos n with h0 | h0
  · subst h0
    have e : Hid (c.keys = []) := List.eq_nil_of_length_eq_zero h.len.symm
    clear h H
    go_enter Try.func45, Try.ntmps45
    go_wp2
    go_ret
    exact ⟨by rw [e.out]; rfl, rfl⟩
  · obtain ⟨b, o, x, rfl, hx, _, hb, hc⟩ := H.key 0 h0
    have e : Hid (hd c.keys = x) := by
      show hd c.keys = x
      cases hk : c.keys with
      | nil => rw [hk] at hx; simp at hx
      | cons y r => rw [hk] at hx; simp at hx; exact hx
    rw [Nat.add_zero] at hc
    clear hx H
    go_enter Try.func45, Try.ntmps45
    go_wp2
    go_ret
    exact ⟨by rw [e.out]; rfl, rfl⟩


theorem one_at2 (W : World) (q : Nat) (k : ByteArray) (hq : q = W.heap.size) (hk : k.size ≤ 140737488351232) : StrsAt (W.alloc (.cells #[.string k] 9)) (some ⟨q, 0, none⟩) 1 [k] := by
  subst hq
  exact one_strs W k hk
theorem one_at2d (W : World) (q : Nat) (k : ByteArray) (hq : q = W.heap.size) (hk : k.size ≤ 140737488351232) : StrsAt (W.alloc (.cells #[.string k] 9)).drew (some ⟨q, 0, none⟩) 1 [k] := by
  subst hq
  exact (one_strs W k hk).later (Below.refl _ _).drew
theorem hd_size {w : World} {a : Option Addr} {n : Nat} {xs : List ByteArray} (h : StrsAt w a n xs) : (hd xs).size ≤ 140737488351232 := hd_fits h _ (by simp)
/-- What 'append([]string{}, texts...)' makes of texts. -/
def rowR (W : World) (n : Nat) (xs : List ByteArray) : Array Value := (strC xs).toArray ++ Builtin.zeroCells (Value.string ⟨#[]⟩).cells (grownCap W n 0 9 - n)
theorem append_lit (W : World) (q : Nat) (a : Option Addr) (n cap : Nat) (xs : List ByteArray) (h : StrsAt W a n xs) (h0 : 0 < n) (hn : n ≤ 5000) :
    (Builtin.append_ #[23, 23] 23 #[.slice (some ⟨q, 0, none⟩) 0 0, .slice a n cap]).run Try.prog W = .ok (.slice (some ⟨W.heap.size, 0, none⟩) n (grownCap W n 0 9)) (W.drew.alloc (.cells (rowR W n xs) 9)) := by
  obtain ⟨i0, hi0, hz0, hz1, hz2⟩ := infoStr
  obtain ⟨b, o, x, rfl, _⟩ := h.key 0 h0
  have hsrc : Src Try.prog i0.size 23 (.slice (some ⟨b, o, none⟩) n cap) n (strC xs) W := Src.ofSlice W Try.underlying23 ⟨b, o, none⟩ n cap (strC xs) (by rw [hz1]; simp [strC, h.len]) (fun j u hj => by
    have hjl : j < xs.length := by have := (List.getElem?_eq_some_iff.1 hj).1; simpa [strC] using this
    obtain ⟨b', off, ha, _, hc⟩ := h.cell j _ (List.getElem?_eq_getElem hjl)
    cases ha
    rw [Addr.add_lit, hc]
    have e : (strC xs)[j]? = some (.string xs[j]) := by simp [strC, hjl]
    rw [e] at hj
    exact hj) (fun u hu => by obtain ⟨_, _, rfl⟩ := List.mem_map.1 hu; rfl)
  have hr := run_append_grow_src (P := Try.prog) (w := W) 23 23 23 9 i0 (.string ⟨#[]⟩) Try.underlying23 hi0 hz0 (some ⟨q, 0, none⟩) 0 0 [] (by simp [Builtin.firstCells, loadCells, loadCellsFrom]) (.slice (some ⟨b, o, none⟩) n cap) n (strC xs) hsrc (by omega) (by omega) (by
    rw [Nat.zero_add, nextslicecap_zero h0, hz2]; omega)
  rw [Nat.zero_add, List.nil_append] at hr
  exact hr
theorem append_none (W : World) (q : Nat) (a : Option Addr) (cap : Nat) (hq : ∃ cs, W.heap[q]? = some (.cells cs 9)) : (Builtin.append_ #[23, 23] 23 #[.slice (some ⟨q, 0, none⟩) 0 0, .slice a 0 cap]).run Try.prog W = .ok (.slice (some ⟨q, 0, none⟩) 0 0) W := by
  obtain ⟨i0, hi0, hz0, hz1, hz2⟩ := infoStr
  cases a with
  | none => exact run_append_room_src (P := Try.prog) W 23 23 23 9 i0 Try.underlying23 hi0 q 0 0 0 (.slice none 0 cap) 0 [] (Src.ofNil _ Try.underlying23 cap) (by omega) (fun j hj => by simp at hj) (fun j hj => by simp at hj)
  | some x => exact run_append_room_src (P := Try.prog) W 23 23 23 9 i0 Try.underlying23 hi0 q 0 0 0 (.slice (some x) 0 cap) 0 [] (Src.ofSlice W Try.underlying23 x 0 cap [] (by simp) (fun j u hj => by simp at hj) (fun u hu => by simp at hu)) (by omega) (fun j hj => by simp at hj) (fun j hj => by simp at hj)
theorem row_at {W : World} {q n : Nat} {xs : List ByteArray} {V : World} (hq : W.heap[q]? = some (.cells (rowR V n xs) 9)) (hl : n = xs.length) (hf : ∀ x ∈ xs, x.size ≤ 140737488351232) : StrsAt W (some ⟨q, 0, none⟩) n xs := by
  refine ⟨hl, hf, fun i x hx => ⟨q, 0, rfl, (Array.getElem?_eq_some_iff.1 hq).1, ?_⟩⟩
  have hi := (List.getElem?_eq_some_iff.1 hx).1
  rw [Nat.zero_add]
  simp only [World.cell?, hq]
  unfold rowR
  rw [Array.getElem?_append_left (by simpa [strC] using hi)]
  simp [strC, hx]
theorem heap_new (W : World) (o : Obj) (q : Nat) (hq : q = W.heap.size) : (W.alloc o).heap[q]? = some o := by
  subst hq
  show (W.heap.push _)[W.heap.size]? = _
  simp
theorem heap_newd (W : World) (o : Obj) (q : Nat) (hq : q = W.heap.size) : (W.alloc o).drew.heap[q]? = some o := heap_new W o q hq
theorem heap_newdd (W : World) (o : Obj) (q : Nat) (hq : q = W.heap.size) : (W.alloc o).drew.drew.heap[q]? = some o := heap_new W o q hq
theorem heap_old (W : World) (o : Obj) (q : Nat) (hq : q < W.heap.size) : (W.alloc o).heap[q]? = W.heap[q]? := by
  show (W.heap.push _)[q]? = _
  rw [Array.getElem?_push, if_neg (by omega)]

set_option maxHeartbeats 4000000 in
theorem back_get (w : World) (a : Option Addr) (n cap : Nat) (c : Cm) (h : StrsAt w a n c.keys) (hn : n ≤ 5000) (hw : (c.what.toList == [103, 101, 116]) = true) :
    Calls Try.prog 20 #[cmV c (.slice a n cap)] w fun e w' => ∃ a' n' c', e = .returned (cmV ⟨⟨#[103, 101, 116]⟩, ⟨#[]⟩, c.keys, ⟨#[]⟩, 0, c.ex, 0, 0, c.wc, c.wt, false, false⟩ (.slice a' n' c')) ∧ StrsAt w' a' n' (Cm.keys ⟨⟨#[103, 101, 116]⟩, ⟨#[]⟩, c.keys, ⟨#[]⟩, 0, c.ex, 0, 0, c.wc, c.wt, false, false⟩) ∧ n' ≤ 5000 ∧ Below w.heap.size w w' := by
  have B := (Below.refl w.heap.size w).alloc (Nat.le_refl _) (.cells #[.string c.what, .string c.verb, .slice a n cap, .string c.data, .int .u32 c.fl, .int .i64 c.ex, .int .u64 c.cs, .int .u64 c.y, .bool c.wc, .bool c.wt, .bool c.dn, .bool c.q] 32)
  have B2 := (B.alloc B.size (.cells #[.string ⟨#[]⟩, .string ⟨#[]⟩, .slice none 0 0, .string ⟨#[]⟩, .int .u32 0, .int .i64 0, .int .u64 0, .int .u64 0, .bool false, .bool false, .bool false, .bool false] 27)).drew
  have H := h.later B2
  have hf := h.fits
  have hl := hide h.len
  rcases Nat.eq_zero_or_pos n with h0 | h0
  · subst h0
    have hr := append_none (((w.alloc (.cells #[.string c.what, .string c.verb, .slice a 0 cap, .string c.data, .int .u32 c.fl, .int .i64 c.ex, .int .u64 c.cs, .int .u64 c.y, .bool c.wc, .bool c.wt, .bool c.dn, .bool c.q] 32)).alloc (.cells #[.string ⟨#[]⟩, .string ⟨#[]⟩, .slice none 0 0, .string ⟨#[]⟩, .int .u32 0, .int .i64 0, .int .u64 0, .int .u64 0, .bool false, .bool false, .bool false, .bool false] 27)).alloc (.cells #[] 9)).drew (w.heap.size + 1 + 1) a cap ⟨_, heap_newd _ _ _ (by simp only [World.size_alloc])⟩
    have HR := hide hr
    clear hr
    have E : Hid (c.keys = []) := List.eq_nil_of_length_eq_zero h.len.symm
    go_enter Try.func20, Try.ntmps20
    go_wp2
    go_region_held3 (fun W => W.cell? ⟨w.heap.size, 0, none⟩ = some (.string c.what) ∧ W.cell? ⟨w.heap.size, 1, none⟩ = some (.string c.verb) ∧ W.cell? ⟨w.heap.size, 2, none⟩ = some (.slice a 0 cap) ∧ W.cell? ⟨w.heap.size, 3, none⟩ = some (.string c.data) ∧ W.cell? ⟨w.heap.size, 4, none⟩ = some (.int .u32 c.fl) ∧ W.cell? ⟨w.heap.size, 5, none⟩ = some (.int .i64 c.ex) ∧ W.cell? ⟨w.heap.size, 6, none⟩ = some (.int .u64 c.cs) ∧ W.cell? ⟨w.heap.size, 7, none⟩ = some (.int .u64 c.y) ∧ W.cell? ⟨w.heap.size, 8, none⟩ = some (.bool c.wc) ∧ W.cell? ⟨w.heap.size, 9, none⟩ = some (.bool c.wt) ∧ W.cell? ⟨w.heap.size, 10, none⟩ = some (.bool c.dn) ∧ W.cell? ⟨w.heap.size, 11, none⟩ = some (.bool c.q))
      (go_keep)
      (first | (rw [if_pos (by rfl)]; refine Lib.wp_append_run _ _ _ _ _ rfl _ _ rfl rfl _ _ HR.out ?_))
    all_goals go_wp2
    all_goals go_returns
    all_goals exact ⟨_, _, _, rfl, by show StrsAt _ _ _ c.keys; rw [E.out]; exact StrsAt.nil, by omega, by go_grown⟩
  · have hr := append_lit (((w.alloc (.cells #[.string c.what, .string c.verb, .slice a n cap, .string c.data, .int .u32 c.fl, .int .i64 c.ex, .int .u64 c.cs, .int .u64 c.y, .bool c.wc, .bool c.wt, .bool c.dn, .bool c.q] 32)).alloc (.cells #[.string ⟨#[]⟩, .string ⟨#[]⟩, .slice none 0 0, .string ⟨#[]⟩, .int .u32 0, .int .i64 0, .int .u64 0, .int .u64 0, .bool false, .bool false, .bool false, .bool false] 27)).alloc (.cells #[] 9)).drew (w.heap.size + 1 + 1) a n cap c.keys (h.later ((B.alloc B.size (.cells #[.string ⟨#[]⟩, .string ⟨#[]⟩, .slice none 0 0, .string ⟨#[]⟩, .int .u32 0, .int .i64 0, .int .u64 0, .int .u64 0, .bool false, .bool false, .bool false, .bool false] 27)).alloc (B.alloc B.size (.cells #[.string ⟨#[]⟩, .string ⟨#[]⟩, .slice none 0 0, .string ⟨#[]⟩, .int .u32 0, .int .i64 0, .int .u64 0, .int .u64 0, .bool false, .bool false, .bool false, .bool false] 27)).size (.cells #[] 9)).drew) h0 hn
    have HR := hide hr
    clear hr
    go_enter Try.func20, Try.ntmps20
    go_wp2
    go_region_held3 (fun W => W.cell? ⟨w.heap.size, 0, none⟩ = some (.string c.what) ∧ W.cell? ⟨w.heap.size, 1, none⟩ = some (.string c.verb) ∧ W.cell? ⟨w.heap.size, 2, none⟩ = some (.slice a n cap) ∧ W.cell? ⟨w.heap.size, 3, none⟩ = some (.string c.data) ∧ W.cell? ⟨w.heap.size, 4, none⟩ = some (.int .u32 c.fl) ∧ W.cell? ⟨w.heap.size, 5, none⟩ = some (.int .i64 c.ex) ∧ W.cell? ⟨w.heap.size, 6, none⟩ = some (.int .u64 c.cs) ∧ W.cell? ⟨w.heap.size, 7, none⟩ = some (.int .u64 c.y) ∧ W.cell? ⟨w.heap.size, 8, none⟩ = some (.bool c.wc) ∧ W.cell? ⟨w.heap.size, 9, none⟩ = some (.bool c.wt) ∧ W.cell? ⟨w.heap.size, 10, none⟩ = some (.bool c.dn) ∧ W.cell? ⟨w.heap.size, 11, none⟩ = some (.bool c.q))
      (go_keep)
      (first | (rw [if_pos (by rfl)]; refine Lib.wp_append_run _ _ _ _ _ rfl _ _ rfl rfl _ _ HR.out ?_))
    all_goals go_wp2
    all_goals go_returns
    all_goals exact ⟨_, _, _, rfl, row_at (by first | exact heap_newd _ _ _ (by simp only [World.size_alloc, World.size_drew]) | exact heap_newdd _ _ _ (by simp only [World.size_alloc, World.size_drew]) | exact heap_new _ _ _ (by simp only [World.size_alloc, World.size_drew])) hl.out hf, by omega, by go_grown⟩
end Go.Proofs.Ytmfjaehajdephaa
/-
  The document's command for one of the program's.
-/
namespace Go.Proofs.Ytmfjaehajdephaa
open Go.Shelf Go.RowKit Go.Deep
set_option linter.unusedVariables false
set_option linter.unusedSimpArgs false
set_option maxRecDepth 1000000
theorem append_ex (W : World) (q : Nat) (a : Option Addr) (n cap : Nat) (xs : List ByteArray) (h : StrsAt W a n xs) (h0 : 0 < n) (hn : n ≤ 5000) :
    ∃ (R : Array Value) (c0 g0 : Nat), g0 = W.heap.size ∧ (∀ (W' : World) (q' : Nat), W'.heap[q']? = some (.cells R 9) → StrsAt W' (some ⟨q', 0, none⟩) n xs) ∧
      (Builtin.append_ #[23, 23] 23 #[.slice (some ⟨q, 0, none⟩) 0 0, .slice a n cap]).run Try.prog W = .ok (.slice (some ⟨g0, 0, none⟩) n c0) (W.drew.alloc (.cells R 9)) :=
  ⟨rowR W n xs, grownCap W n 0 9, _, rfl, fun W' q' hq => row_at hq h.len h.fits, append_lit W q a n cap xs h h0 hn⟩
theorem heap_old2 {W : World} {o : Obj} {q : Nat} {x : Obj} (h : W.heap[q]? = some x) : (W.alloc o).heap[q]? = some x := by
  rw [heap_old W o q (Array.getElem?_eq_some_iff.1 h).1]
  exact h

theorem limbs {w W : World} {a : Option Addr} {n cap : Nat} {c : Cm} (hB : Below (w.heap.size + 1) (w.alloc (.cells #[.string c.what, .string c.verb, .slice a n cap, .string c.data, .int .u32 c.fl, .int .i64 c.ex, .int .u64 c.cs, .int .u64 c.y, .bool c.wc, .bool c.wt, .bool c.dn, .bool c.q] 27)) W) : W.cell? ⟨w.heap.size, 0, none⟩ = some (.string c.what) ∧ W.cell? ⟨w.heap.size, 1, none⟩ = some (.string c.verb) ∧ W.cell? ⟨w.heap.size, 2, none⟩ = some (.slice a n cap) ∧ W.cell? ⟨w.heap.size, 3, none⟩ = some (.string c.data) ∧ W.cell? ⟨w.heap.size, 4, none⟩ = some (.int .u32 c.fl) ∧ W.cell? ⟨w.heap.size, 5, none⟩ = some (.int .i64 c.ex) ∧ W.cell? ⟨w.heap.size, 6, none⟩ = some (.int .u64 c.cs) ∧ W.cell? ⟨w.heap.size, 7, none⟩ = some (.int .u64 c.y) ∧ W.cell? ⟨w.heap.size, 8, none⟩ = some (.bool c.wc) ∧ W.cell? ⟨w.heap.size, 9, none⟩ = some (.bool c.wt) ∧ W.cell? ⟨w.heap.size, 10, none⟩ = some (.bool c.dn) ∧ W.cell? ⟨w.heap.size, 11, none⟩ = some (.bool c.q) := by
  have hq : W.heap[w.heap.size]? = some (.cells #[.string c.what, .string c.verb, .slice a n cap, .string c.data, .int .u32 c.fl, .int .i64 c.ex, .int .u64 c.cs, .int .u64 c.y, .bool c.wc, .bool c.wt, .bool c.dn, .bool c.q] 27) := (hB.block w.heap.size (by omega)).trans (heap_new w _ _ rfl)
  refine ⟨?_, ?_, ?_, ?_, ?_, ?_, ?_, ?_, ?_, ?_, ?_, ?_⟩ <;> (simp only [World.cell?, hq]; rfl)
end Go.Proofs.Ytmfjaehajdephaa
