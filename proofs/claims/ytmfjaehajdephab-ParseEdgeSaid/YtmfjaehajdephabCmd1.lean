/-
  The document's command for one of the program's.
-/
import Derived.Test.YtmfjaehajdephabJT
namespace Go.Proofs.Ytmfjaehajdephab
open Go.Shelf Go.RowKit Go.Deep
set_option linter.unusedVariables false
set_option linter.unusedSimpArgs false
set_option maxRecDepth 1000000
set_option maxHeartbeats 16000000 in
theorem cmd_some (w : World) (a : Option Addr) (n cap : Nat) (c : Cm) (h : StrsAt w a n c.keys) (hn : n ≤ 5000) (h0 : 0 < n) :
    Calls Try.prog 14 #[cmV c (.slice a n cap)] w fun e w' => ∃ a' c', e = .returned (cmV c (.slice a' n c')) ∧ StrsAt w' a' n c.keys ∧ Below w.heap.size w w' := by
  have B := (Below.refl w.heap.size w).alloc (Nat.le_refl _) (.cells #[.string c.what, .string c.verb, .slice a n cap, .string c.data, .int .u32 c.fl, .int .i64 c.ex, .int .u64 c.cs, .int .u64 c.y, .bool c.wc, .bool c.wt, .bool c.dn, .bool c.q] 33)
  have b1 := B.alloc B.size (.cells #[.string ⟨#[]⟩, .string ⟨#[]⟩, .slice none 0 0, .string ⟨#[]⟩, .int .u32 0, .int .i64 0, .int .u64 0, .int .u64 0, .bool false, .bool false, .bool false, .bool false] 32)
  have k0 := (b1.alloc b1.size (.cells #[] 9)).drew
  have k1 := ((b1.alloc b1.size (.cells #[.string ⟨#[]⟩, .string ⟨#[]⟩, .slice none 0 0, .string ⟨#[]⟩, .int .u32 0, .int .i64 0, .int .u64 0, .int .u64 0, .bool false, .bool false, .bool false, .bool false] 32)).alloc (b1.alloc b1.size (.cells #[.string ⟨#[]⟩, .string ⟨#[]⟩, .slice none 0 0, .string ⟨#[]⟩, .int .u32 0, .int .i64 0, .int .u64 0, .int .u64 0, .bool false, .bool false, .bool false, .bool false] 32)).size (.cells #[] 9)).drew
  have k2 := ((b1.alloc b1.size (.cells #[] 9)).alloc (b1.alloc b1.size (.cells #[] 9)).size (.cells #[.string ⟨#[]⟩, .string ⟨#[]⟩, .slice none 0 0, .string ⟨#[]⟩, .int .u32 0, .int .i64 0, .int .u64 0, .int .u64 0, .bool false, .bool false, .bool false, .bool false] 32)).drew
  obtain ⟨R0, c0, g0, hg0, hs0, hr0⟩ := append_ex (((w.alloc (.cells #[.string c.what, .string c.verb, .slice a n cap, .string c.data, .int .u32 c.fl, .int .i64 c.ex, .int .u64 c.cs, .int .u64 c.y, .bool c.wc, .bool c.wt, .bool c.dn, .bool c.q] 33)).alloc (.cells #[.string ⟨#[]⟩, .string ⟨#[]⟩, .slice none 0 0, .string ⟨#[]⟩, .int .u32 0, .int .i64 0, .int .u64 0, .int .u64 0, .bool false, .bool false, .bool false, .bool false] 32)).alloc (.cells #[] 9)).drew (w.heap.size + 1 + 1) a n cap c.keys (h.later k0) h0 hn
  simp only [World.size_alloc, World.size_drew] at hg0
  subst hg0
  have HR0 := hide hr0
  have HS0 := hide hs0
  obtain ⟨R1, c1, g1, hg1, hs1, hr1⟩ := append_ex ((((w.alloc (.cells #[.string c.what, .string c.verb, .slice a n cap, .string c.data, .int .u32 c.fl, .int .i64 c.ex, .int .u64 c.cs, .int .u64 c.y, .bool c.wc, .bool c.wt, .bool c.dn, .bool c.q] 33)).alloc (.cells #[.string ⟨#[]⟩, .string ⟨#[]⟩, .slice none 0 0, .string ⟨#[]⟩, .int .u32 0, .int .i64 0, .int .u64 0, .int .u64 0, .bool false, .bool false, .bool false, .bool false] 32)).alloc (.cells #[.string ⟨#[]⟩, .string ⟨#[]⟩, .slice none 0 0, .string ⟨#[]⟩, .int .u32 0, .int .i64 0, .int .u64 0, .int .u64 0, .bool false, .bool false, .bool false, .bool false] 32)).alloc (.cells #[] 9)).drew (w.heap.size + 1 + 1 + 1) a n cap c.keys (h.later k1) h0 hn
  simp only [World.size_alloc, World.size_drew] at hg1
  subst hg1
  have HR1 := hide hr1
  have HS1 := hide hs1
  obtain ⟨R2, c2, g2, hg2, hs2, hr2⟩ := append_ex ((((w.alloc (.cells #[.string c.what, .string c.verb, .slice a n cap, .string c.data, .int .u32 c.fl, .int .i64 c.ex, .int .u64 c.cs, .int .u64 c.y, .bool c.wc, .bool c.wt, .bool c.dn, .bool c.q] 33)).alloc (.cells #[.string ⟨#[]⟩, .string ⟨#[]⟩, .slice none 0 0, .string ⟨#[]⟩, .int .u32 0, .int .i64 0, .int .u64 0, .int .u64 0, .bool false, .bool false, .bool false, .bool false] 32)).alloc (.cells #[] 9)).alloc (.cells #[.string ⟨#[]⟩, .string ⟨#[]⟩, .slice none 0 0, .string ⟨#[]⟩, .int .u32 0, .int .i64 0, .int .u64 0, .int .u64 0, .bool false, .bool false, .bool false, .bool false] 32)).drew (w.heap.size + 1 + 1) a n cap c.keys (h.later k2) h0 hn
  simp only [World.size_alloc, World.size_drew] at hg2
  subst hg2
  have HR2 := hide hr2
  have HS2 := hide hs2
  clear h b1 k0 k1 k2 hr0 hr1 hr2 hs0 hs1 hs2
  go_enter Try.func14, Try.ntmps14
  go_wp2
  go_region_held3 (fun W => W.cell? ⟨w.heap.size, 0, none⟩ = some (.string c.what) ∧ W.cell? ⟨w.heap.size, 1, none⟩ = some (.string c.verb) ∧ W.cell? ⟨w.heap.size, 2, none⟩ = some (.slice a n cap) ∧ W.cell? ⟨w.heap.size, 3, none⟩ = some (.string c.data) ∧ W.cell? ⟨w.heap.size, 4, none⟩ = some (.int .u32 c.fl) ∧ W.cell? ⟨w.heap.size, 5, none⟩ = some (.int .i64 c.ex) ∧ W.cell? ⟨w.heap.size, 6, none⟩ = some (.int .u64 c.cs) ∧ W.cell? ⟨w.heap.size, 7, none⟩ = some (.int .u64 c.y) ∧ W.cell? ⟨w.heap.size, 8, none⟩ = some (.bool c.wc) ∧ W.cell? ⟨w.heap.size, 9, none⟩ = some (.bool c.wt) ∧ W.cell? ⟨w.heap.size, 10, none⟩ = some (.bool c.dn) ∧ W.cell? ⟨w.heap.size, 11, none⟩ = some (.bool c.q))
    (first | exact limbs (by go_grown) | go_keep)
    (first
    | (rw [if_pos (by rfl)]; refine Lib.wp_append_run _ _ _ _ _ rfl _ _ rfl rfl _ _ HR0.out ?_)
    | (rw [if_pos (by rfl)]; refine Lib.wp_append_run _ _ _ _ _ rfl _ _ rfl rfl _ _ HR1.out ?_)
    | (rw [if_pos (by rfl)]; refine Lib.wp_append_run _ _ _ _ _ rfl _ _ rfl rfl _ _ HR2.out ?_))
  all_goals go_wp2
  all_goals go_returns
  all_goals exact ⟨_, _, rfl, by first | exact HS0.out _ _ (by first | exact heap_newd _ _ _ (by simp only [World.size_alloc, World.size_drew]) | exact heap_newdd _ _ _ (by simp only [World.size_alloc, World.size_drew]) | exact heap_new _ _ _ (by simp only [World.size_alloc, World.size_drew]) | exact heap_old2 (heap_new _ _ _ (by simp only [World.size_alloc, World.size_drew])) | exact heap_old2 (heap_newd _ _ _ (by simp only [World.size_alloc, World.size_drew]))) | exact HS1.out _ _ (by first | exact heap_newd _ _ _ (by simp only [World.size_alloc, World.size_drew]) | exact heap_newdd _ _ _ (by simp only [World.size_alloc, World.size_drew]) | exact heap_new _ _ _ (by simp only [World.size_alloc, World.size_drew]) | exact heap_old2 (heap_new _ _ _ (by simp only [World.size_alloc, World.size_drew])) | exact heap_old2 (heap_newd _ _ _ (by simp only [World.size_alloc, World.size_drew]))) | exact HS2.out _ _ (by first | exact heap_newd _ _ _ (by simp only [World.size_alloc, World.size_drew]) | exact heap_newdd _ _ _ (by simp only [World.size_alloc, World.size_drew]) | exact heap_new _ _ _ (by simp only [World.size_alloc, World.size_drew]) | exact heap_old2 (heap_new _ _ _ (by simp only [World.size_alloc, World.size_drew])) | exact heap_old2 (heap_newd _ _ _ (by simp only [World.size_alloc, World.size_drew]))), by go_grown⟩
end Go.Proofs.Ytmfjaehajdephab
