/-
  The document's command for one of the program's.
-/
import Derived.Test.YtmfjaehajdephabJT
namespace Go.Proofs.Ytmfjaehajdephab
open Go.Shelf Go.RowKit Go.Deep
set_option linter.unusedVariables false
set_option linter.unusedSimpArgs false
set_option maxRecDepth 1000000
set_option maxHeartbeats 16000000 in
theorem cmd_none (w : World) (a : Option Addr) (n cap : Nat) (c : Cm) (h : StrsAt w a n c.keys) (hn : n ≤ 5000) (h0 : n = 0) :
    Calls Try.prog 14 #[cmV c (.slice a n cap)] w fun e w' => ∃ a' c', e = .returned (cmV c (.slice a' n c')) ∧ StrsAt w' a' n c.keys ∧ Below w.heap.size w w' := by
  have B := (Below.refl w.heap.size w).alloc (Nat.le_refl _) (.cells #[.string c.what, .string c.verb, .slice a n cap, .string c.data, .int .u32 c.fl, .int .i64 c.ex, .int .u64 c.cs, .int .u64 c.y, .bool c.wc, .bool c.wt, .bool c.dn, .bool c.q] 33)
  subst h0
  have K : Hid (c.keys = []) := List.eq_nil_of_length_eq_zero h.len.symm
  have HR0 := hide (append_none (((w.alloc (.cells #[.string c.what, .string c.verb, .slice a 0 cap, .string c.data, .int .u32 c.fl, .int .i64 c.ex, .int .u64 c.cs, .int .u64 c.y, .bool c.wc, .bool c.wt, .bool c.dn, .bool c.q] 33)).alloc (.cells #[.string ⟨#[]⟩, .string ⟨#[]⟩, .slice none 0 0, .string ⟨#[]⟩, .int .u32 0, .int .i64 0, .int .u64 0, .int .u64 0, .bool false, .bool false, .bool false, .bool false] 32)).alloc (.cells #[] 9)).drew (w.heap.size + 1 + 1) a cap ⟨_, heap_newd _ _ _ (by simp only [World.size_alloc])⟩)
  have HR1 := hide (append_none ((((w.alloc (.cells #[.string c.what, .string c.verb, .slice a 0 cap, .string c.data, .int .u32 c.fl, .int .i64 c.ex, .int .u64 c.cs, .int .u64 c.y, .bool c.wc, .bool c.wt, .bool c.dn, .bool c.q] 33)).alloc (.cells #[.string ⟨#[]⟩, .string ⟨#[]⟩, .slice none 0 0, .string ⟨#[]⟩, .int .u32 0, .int .i64 0, .int .u64 0, .int .u64 0, .bool false, .bool false, .bool false, .bool false] 32)).alloc (.cells #[.string ⟨#[]⟩, .string ⟨#[]⟩, .slice none 0 0, .string ⟨#[]⟩, .int .u32 0, .int .i64 0, .int .u64 0, .int .u64 0, .bool false, .bool false, .bool false, .bool false] 32)).alloc (.cells #[] 9)).drew (w.heap.size + 1 + 1 + 1) a cap ⟨_, heap_newd _ _ _ (by simp only [World.size_alloc])⟩)
  have HR2 := hide (append_none ((((w.alloc (.cells #[.string c.what, .string c.verb, .slice a 0 cap, .string c.data, .int .u32 c.fl, .int .i64 c.ex, .int .u64 c.cs, .int .u64 c.y, .bool c.wc, .bool c.wt, .bool c.dn, .bool c.q] 33)).alloc (.cells #[.string ⟨#[]⟩, .string ⟨#[]⟩, .slice none 0 0, .string ⟨#[]⟩, .int .u32 0, .int .i64 0, .int .u64 0, .int .u64 0, .bool false, .bool false, .bool false, .bool false] 32)).alloc (.cells #[] 9)).alloc (.cells #[.string ⟨#[]⟩, .string ⟨#[]⟩, .slice none 0 0, .string ⟨#[]⟩, .int .u32 0, .int .i64 0, .int .u64 0, .int .u64 0, .bool false, .bool false, .bool false, .bool false] 32)).drew (w.heap.size + 1 + 1) a cap ⟨_, heap_old2 (heap_new _ _ _ (by simp only [World.size_alloc]))⟩)
  clear h
  go_enter Try.func14, Try.ntmps14
  go_wp2
  go_region_held3 (fun W => W.cell? ⟨w.heap.size, 0, none⟩ = some (.string c.what) ∧ W.cell? ⟨w.heap.size, 1, none⟩ = some (.string c.verb) ∧ W.cell? ⟨w.heap.size, 2, none⟩ = some (.slice a 0 cap) ∧ W.cell? ⟨w.heap.size, 3, none⟩ = some (.string c.data) ∧ W.cell? ⟨w.heap.size, 4, none⟩ = some (.int .u32 c.fl) ∧ W.cell? ⟨w.heap.size, 5, none⟩ = some (.int .i64 c.ex) ∧ W.cell? ⟨w.heap.size, 6, none⟩ = some (.int .u64 c.cs) ∧ W.cell? ⟨w.heap.size, 7, none⟩ = some (.int .u64 c.y) ∧ W.cell? ⟨w.heap.size, 8, none⟩ = some (.bool c.wc) ∧ W.cell? ⟨w.heap.size, 9, none⟩ = some (.bool c.wt) ∧ W.cell? ⟨w.heap.size, 10, none⟩ = some (.bool c.dn) ∧ W.cell? ⟨w.heap.size, 11, none⟩ = some (.bool c.q))
    (first | exact limbs (by go_grown) | go_keep)
    (first
    | (rw [if_pos (by rfl)]; refine Lib.wp_append_run _ _ _ _ _ rfl _ _ rfl rfl _ _ HR0.out ?_)
    | (rw [if_pos (by rfl)]; refine Lib.wp_append_run _ _ _ _ _ rfl _ _ rfl rfl _ _ HR1.out ?_)
    | (rw [if_pos (by rfl)]; refine Lib.wp_append_run _ _ _ _ _ rfl _ _ rfl rfl _ _ HR2.out ?_))
  all_goals go_wp2
  all_goals go_returns
  all_goals exact ⟨_, _, rfl, by rw [K.out]; exact StrsAt.nil, by go_grown⟩
end Go.Proofs.Ytmfjaehajdephab
