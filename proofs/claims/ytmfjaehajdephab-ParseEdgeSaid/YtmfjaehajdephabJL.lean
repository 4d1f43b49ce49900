/- Texts joined. -/
import Derived.Test.YtmfjaehajdephabCmd0
import Derived.Test.YtmfjaehajdephabCmd1
import Derived.Test.YtmfjaehajdephabJK
import Derived.Deep.QuietTactic
import Derived.BigQuiet
/-
  The document's command for one of the program's.
-/
namespace Go.Proofs.Ytmfjaehajdephab
open Go.Shelf Go.RowKit Go.Deep
set_option linter.unusedVariables false
set_option linter.unusedSimpArgs false
set_option maxRecDepth 1000000
theorem cmd_any (w : World) (a : Option Addr) (n cap : Nat) (c : Cm) (h : StrsAt w a n c.keys) (hn : n ≤ 5000) :
    Calls Try.prog 14 #[cmV c (.slice a n cap)] w fun e w' => ∃ a' c', e = .returned (cmV c (.slice a' n c')) ∧ StrsAt w' a' n c.keys ∧ Below w.heap.size w w' := by
  rcases Nat.eq_zero_or_pos n with h0 | h0
  · exact cmd_none w a n cap c h hn h0
  · exact cmd_some w a n cap c h hn h0
end Go.Proofs.Ytmfjaehajdephab

/-
  The document's 'is it this Bad' and 'are they the same command', where they are.
-/
namespace Go.Proofs.Ytmfjaehajdephab
open Go.Shelf Go.RowKit Go.Deep
set_option linter.unusedVariables false
set_option linter.unusedSimpArgs false
set_option maxRecDepth 1000000

abbrev cmM (c : Cm) (v : Value) : Obj := .cells #[.string c.what, .string c.verb, v, .string c.data, .int .u32 c.fl, .int .i64 c.ex, .int .u64 c.cs, .int .u64 c.y, .bool c.wc, .bool c.wt, .bool c.dn, .bool c.q] 32
theorem is_eq (w : World) (c : Cm) (a : Option Addr) (cap : Nat) (hw : (c.what.toList == [98, 97, 100]) = true) : Calls Try.prog 12 #[cmV c (.slice a 0 cap), .string ⟨#[98, 97, 100]⟩, .string c.verb] w fun e w' => e = .returned (.bool true) ∧ Below w.heap.size w w' := by
  have B := (Below.refl w.heap.size w).alloc (Nat.le_refl _) (cmO c (.slice a 0 cap))
  go_enter Try.func12, Try.ntmps12
  go_wp2
  go_ret
  exact ⟨rfl, B⟩
theorem is_any (w : World) (t : ByteArray) (a : Option Addr) (cap : Nat) : Calls Try.prog 12 #[cmV (badV t) (.slice a 0 cap), .string ⟨#[98, 97, 100]⟩, .string t] w fun e w' => e = .returned (.bool true) ∧ Below w.heap.size w w' :=
  is_eq w (badV t) a cap (by show ((⟨#[98, 97, 100]⟩ : ByteArray).toList == [98, 97, 100]) = true; kernel_rfl)
theorem atM {W : World} {b : Nat} {c : Cm} {v : Value} (h : W.heap[b]? = some (cmM c v)) : CmAt W b c v := by
  constructor <;> simp [World.cell?, h]
set_option maxHeartbeats 20000000 in
theorem same_any (w : World) (c : Cm) (a1 a2 : Option Addr) (n c1 c2 : Nat) (h1 : StrsAt w a1 n c.keys) (h2 : StrsAt w a2 n c.keys) (hn : n ≤ 5000) :
    Calls Try.prog 13 #[cmV c (.slice a1 n c1), cmV c (.slice a2 n c2)] w fun e w' => e = .returned (.bool true) ∧ Below w.heap.size w w' := by
  have B0 := (Below.refl w.heap.size w).alloc (Nat.le_refl _) (cmM c (.slice a1 n c1))
  have B := B0.alloc B0.size (cmM c (.slice a2 n c2))
  have H1 := h1.later B
  have H2 := h2.later B
  have HL : Hid (n = c.keys.length) := h1.len
  have X : CmAt ((w.alloc (cmM c (.slice a1 n c1))).alloc (cmM c (.slice a2 n c2))) w.heap.size c (.slice a1 n c1) := atM (heap_at2 w _ _).1
  have Y : CmAt ((w.alloc (cmM c (.slice a1 n c1))).alloc (cmM c (.slice a2 n c2))) (w.heap.size + 1) c (.slice a2 n c2) := atM (heap_at2 w _ _).2
  obtain ⟨W, hW⟩ : ∃ W, W = (w.alloc (cmM c (.slice a1 n c1))).alloc (cmM c (.slice a2 n c2)) := ⟨_, rfl⟩
  have HW := hide hW
  rw [← hW] at B H1 H2 X Y
  clear hW B0 h1 h2
  go_enter Try.func13, Try.ntmps13
  go_wp2
  have e0 : ((w.alloc (cmM c (.slice a1 n c1))).alloc (cmM c (.slice a2 n c2))) = W := HW.out.symm
  rw [e0]
  clear e0 HW
  go_loopw [5] (fun i wr => ∃ k : Nat, i = .int .i64 k ∧ k ≤ n ∧ ∃ m, wr = W.drewN m) (fun i _ => n - vi i)
  case atStart => exact ⟨0, rfl, by omega, 0, rfl⟩
  case round =>
    obtain ⟨k, rfl, hk, m, rfl⟩ := hrel
    by_cases hlt : k < n
    · obtain ⟨b, o, x, rfl, hx, hs, hbb, hc⟩ := H1.key k hlt
      obtain ⟨b2, o2, x2, rfl, hx2, hs2, hbb2, hc2⟩ := H2.key k hlt
      rw [hx] at hx2
      obtain rfl := Option.some.inj hx2
      clear hx hx2
      have x2 : W.cell? ⟨w.heap.size, 2, none⟩ = some (.slice (some ⟨b, o, none⟩) n c1) := X.c2
      have y2 : W.cell? ⟨w.heap.size + 1, 2, none⟩ = some (.slice (some ⟨b2, o2, none⟩) n c2) := Y.c2
      have x3 : W.cell? ⟨b, o + k, none⟩ = some (.string x) := hc
      have y3 : W.cell? ⟨b2, o2 + k, none⟩ = some (.string x) := hc2
      go_wp2
      go_quiet (fail)
      go_wp2
      go_roundw
      case rel => exact ⟨k + 1, by go_num, by omega, m + nq, by simp only [World.drewN, Nat.add_assoc]⟩
      case measure => simp [vi]; omega
    · have e : n = k := by omega
      subst e
      obtain ⟨x0, x1, x2, x3, x4, x5, x6, x7, x8, x9, x10, x11⟩ := X
      obtain ⟨y0, y1, y2, y3, y4, y5, y6, y7, y8, y9, y10, y11⟩ := Y
      go_wp2
      go_ret
      exact ⟨rfl, B.trans (below_drewN _ _ _)⟩
end Go.Proofs.Ytmfjaehajdephab
