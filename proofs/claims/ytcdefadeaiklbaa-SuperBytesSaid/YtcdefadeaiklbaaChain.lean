/- Blocks stored one behind the other. -/
import Derived.Test.YtcdefadeaiklbaaOpen
set_option linter.unusedVariables false
set_option linter.unusedSimpArgs false
set_option maxRecDepth 8000
namespace Go.Proofs.Ytcdefadeaiklbaa
open Go.RowKit Go.Deep Math

def sB (z : Bk) (s : Nat) : Bk := { z with seq := s, image := (toldN z.image : Int) }
/-- i blocks were stored: the last one, the one ahead of it. -/
structure Chain (S : Dv) (i : Nat) (cur prev : Option Bk) : Prop where
  two : Two S (if i % 2 = 0 then cur else prev) (if i % 2 = 0 then prev else cur)
  hzero : i = 0 → cur = none ∧ prev = none
  hcur : 0 < i → ∃ b, cur = some b ∧ b.seq = i
  hprev : 1 < i → ∃ b, prev = some b ∧ b.seq = i - 1
  hnone : i ≤ 1 → prev = none
  arm : S.armed = 0
theorem Chain.fresh (n : Nat) (h : 2 ≤ n) : Chain (Dv.fresh n) 0 none none :=
  ⟨Two.fresh n h, fun _ => ⟨rfl, rfl⟩, fun h => absurd h (by omega), fun h => absurd h (by omega), fun _ => rfl, rfl⟩
theorem Chain.newer {S : Dv} {i : Nat} {cur prev : Option Bk} (h : Chain S i cur prev) : newer (if i % 2 = 0 then cur else prev) (if i % 2 = 0 then prev else cur) = cur := by
  rcases Nat.lt_or_ge 1 i with h1 | h1
  · obtain ⟨c, rfl, hc⟩ := h.hcur (by omega)
    obtain ⟨p, rfl, hp⟩ := h.hprev h1
    by_cases hi : i % 2 = 0
    · rw [if_pos hi, if_pos hi]
      show (if c.seq < p.seq then some p else some c) = _
      rw [if_neg (by omega)]
    · rw [if_neg hi, if_neg hi]
      show (if p.seq < c.seq then some c else some p) = _
      rw [if_pos (by omega)]
  · rw [h.hnone h1]
    by_cases hi : i % 2 = 0
    · rw [if_pos hi, if_pos hi]
      cases cur <;> rfl
    · rw [if_neg hi, if_neg hi]
      cases cur <;> rfl
theorem Chain.last {S : Dv} {i : Nat} {cur prev : Option Bk} (h : Chain S i cur prev) : lastS (if i % 2 = 0 then cur else prev) (if i % 2 = 0 then prev else cur) = i := by
  unfold lastS
  rw [h.newer]
  rcases Nat.eq_zero_or_pos i with h0 | h0
  · rw [(h.hzero h0).1, h0]
  · obtain ⟨c, rfl, hc⟩ := h.hcur h0
    exact hc
theorem Chain.nxt {S : Dv} {i : Nat} {cur prev : Option Bk} (h : Chain S i cur prev) (x : Bk) : nxt (if i % 2 = 0 then cur else prev) (if i % 2 = 0 then prev else cur) x = sB x (i + 1) := by
  unfold Go.Proofs.Ytcdefadeaiklbaa.nxt sB
  rw [h.last]
/-- The slots behind one Store more. -/
theorem Chain.step {S S' : Dv} {i : Nat} {cur prev : Option Bk} (h : Chain S i cur prev) (x : Bk) (t : Two S' (if (sB x (i + 1)).seq % 2 = 0 then some (sB x (i + 1)) else (if i % 2 = 0 then cur else prev)) (if (sB x (i + 1)).seq % 2 = 1 then some (sB x (i + 1)) else (if i % 2 = 0 then prev else cur))) (ha : S'.armed = 0) :
    Chain S' (i + 1) (some (sB x (i + 1))) cur := by
  have e : (sB x (i + 1)).seq = i + 1 := rfl
  rw [e] at t
  refine ⟨?_, fun h => absurd h (by omega), fun _ => ⟨_, rfl, rfl⟩, fun h1 => h.hcur (by omega), fun h1 => (h.hzero (by omega)).1, ha⟩
  by_cases hi : i % 2 = 0
  · have h1 : ¬ (i + 1) % 2 = 0 := by omega
    have h2 : (i + 1) % 2 = 1 := by omega
    simp only [if_pos hi, if_neg h1, if_pos h2] at t ⊢
    exact t
  · have h1 : (i + 1) % 2 = 0 := by omega
    have h2 : ¬ (i + 1) % 2 = 1 := by omega
    simp only [if_neg hi, if_pos h1, if_neg h2] at t ⊢
    exact t
theorem Chain.slot {S : Dv} {i : Nat} {cur prev : Option Bk} (h : Chain S i cur prev) : S.slotB (i % 2) = cur ∧ S.slotB ((i + 1) % 2) = prev := by
  rcases Nat.mod_two_eq_zero_or_one i with hi | hi
  · have h1 : (i + 1) % 2 = 1 := by omega
    have hs0 := h.two.s0
    have hs1 := h.two.s1
    rw [hi, h1]
    rw [if_pos hi] at hs0 hs1
    exact ⟨hs0, hs1⟩
  · have h1 : (i + 1) % 2 = 0 := by omega
    have hn : ¬ i % 2 = 0 := by omega
    have hs0 := h.two.s0
    have hs1 := h.two.s1
    rw [hi, h1]
    rw [if_neg hn] at hs0 hs1
    exact ⟨hs1, hs0⟩
theorem store_chain {w0 W : World} {d : Nat} {F : List Nat} {S : Dv} {i : Nat} {cur prev : Option Bk} (h : Law w0 d F S W) (c : Chain S i cur prev) (hi : i < 18446744073709551615) (x : Bk) (hf : x.fits) :
    Calls Try.prog 12 #[.pointer (some ⟨d, 0, none⟩), .agg #[.int .u64 x.seq, .int .u64 x.epoch, .int .u64 x.res, .int .u64 x.hor, .int .u64 x.gen, .bool x.clean, .int .i64 x.image]] W fun e W' => e = .returned (bkV (sB x (i + 1)) 0) ∧
      ∃ F' S', Law w0 d F' S' W' ∧ Chain S' (i + 1) (some (sB x (i + 1))) cur ∧ Moves F F' W W' := by
  have e := c.nxt x
  refine (store_two h c.two c.arm x hf (by rw [c.last]; omega)).mono ?_
  rw [e]
  rintro r W' ⟨rfl, F', S', hl, ht, ha, hm⟩
  exact ⟨rfl, F', S', hl, c.step x ht ha, hm⟩
theorem load_chain {w0 W : World} {d : Nat} {F : List Nat} {S : Dv} {i : Nat} {cur prev : Option Bk} (h : Law w0 d F S W) (c : Chain S i cur prev) :
    Calls Try.prog 11 #[.pointer (some ⟨d, 0, none⟩)] W fun e W' => e = .returned (slotV cur) ∧ ∃ S', Law w0 d F S' W' ∧ Chain S' i cur prev ∧ Moves F F W W' := by
  have e := c.newer
  refine (load_two h c.two).mono ?_
  rw [e]
  rintro r W' ⟨rfl, S', hl, ht, ha, hm⟩
  exact ⟨rfl, S', hl, ⟨ht, c.hzero, c.hcur, c.hprev, c.hnone, by rw [ha]; exact c.arm⟩, hm⟩
/-- The pages of the last block and of the one ahead, read. -/
theorem read_chain {w0 W : World} {d : Nat} {F : List Nat} {S : Dv} {i : Nat} {cur prev : Option Bk} (h : Law w0 d F S W) (c : Chain S i cur prev) {k : Nat} {x : Bk} (hx : S.slotB k = some x) :
    Calls Try.prog 29 #[.pointer (some ⟨d, 0, none⟩), .int .i64 (k : Nat)] W fun e W' => ∃ g L, e = .returned (.tuple #[.slice (some ⟨g, 0, none⟩) 384 384, .int .i64 0]) ∧ BS W' (some ⟨g, 0, none⟩) 384 384 L ∧ dec L = some x ∧ ∃ S', Law w0 d F S' W' ∧ Chain S' i cur prev ∧ Moves F F W W' := by
  refine (read_two h c.two hx).mono ?_
  rintro r W' ⟨g, L, rfl, hb, hd, S', hl, ht, ha, hm⟩
  exact ⟨g, L, rfl, hb, hd, S', hl, ⟨ht, c.hzero, c.hcur, c.hprev, c.hnone, by rw [ha]; exact c.arm⟩, hm⟩
/-- A page's bytes, decoded. -/
theorem dec_page {W : World} {g : Nat} {L : List UInt8} {x : Bk} (h : BS W (some ⟨g, 0, none⟩) 384 384 L) (hd : dec L = some x) :
    Calls Try.prog 13 #[.slice (some ⟨g, 0, none⟩) 384 384] W fun e w' => e = .returned (bkV x 0) ∧ Below W.heap.size W w' := by
  have := decode_any _ 384 384 L (by omega) W h
  rw [hd] at this
  exact this
theorem sB_fits (x : Bk) (hf : x.fits) (s : Nat) (hs : s < 18446744073709551616) : (sB x s).fits := by
  have := toldN_le x.image
  exact ⟨hs, hf.epoch, hf.res, hf.hor, hf.gen, by show _ ≤ ((toldN x.image : Nat) : Int); omega, by show ((toldN x.image : Nat) : Int) ≤ _; omega⟩
end Go.Proofs.Ytcdefadeaiklbaa
