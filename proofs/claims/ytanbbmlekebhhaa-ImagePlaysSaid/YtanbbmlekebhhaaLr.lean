/- Dump on an armed device, and what stands behind a loss of power. -/
import Derived.Test.YtanbbmlekebhhaaLq
set_option linter.unusedVariables false
set_option linter.unusedSimpArgs false
set_option maxRecDepth 8000
namespace Go.Proofs.Ytanbbmlekebhhaa
open Go.RowKit Go.Deep Math

theorem dump_armL {w0 w : World} {d : Nat} {F : List Nat} {S : Dv} {M : Nat} (L : Lw w0 w d F S) (ho : S.off = false) (hl : S.cs.length = M) (f N : Nat) (hN : f + N ≤ M) (hM : M ≤ 4096) (a : Option Addr) (n cap : Nat) (xs : List It) (hn63 : n ≤ 9223372036854775807) (hnc : n ≤ cap) (h : RawAt w a n xs) (hg : xs.all It.good = true) :
    (∃ S', Stands S' f (dmpB N xs) ∧ (∀ x ∈ S'.cs, x.last = none) ∧ dmpN N xs ≤ xs.length ∧ Calls Try.prog 11 #[.pointer (some ⟨d, 0, none⟩), .int .i64 (f : Int), .int .i64 (N : Int), .slice a n cap] w fun e w' => e = .returned (.tuple #[.int .i64 (pgsN (dmpB N xs).length : Nat), .int .i64 (dmpN N xs : Nat), .int .i64 0]) ∧ ∃ F', Lw w0 w' d F' S') ∨
    (∃ S', Calls Try.prog 11 #[.pointer (some ⟨d, 0, none⟩), .int .i64 (f : Int), .int .i64 (N : Int), .slice a n cap] w fun e w' => e = .returned (.tuple #[.int .i64 0, .int .i64 0, .int .i64 4]) ∧ ∃ F', Lw w0 w' d F' S') := by
  have cD := dump_lw L (f : Int) (N : Int) (by omega) a n cap xs hn63 hnc h
  rcases dump_any S f N xs hg ho (by rw [hl]; exact hN) with ⟨S', hDu⟩ | ⟨h4, _⟩
  · rw [hDu.p, hDu.n, hDu.err, hDu.same] at cD
    exact .inl ⟨S', hDu.stands (by rw [hl]; exact hN) (by rw [hl]; exact hM), hDu.w.still, hDu.nle, cD⟩
  · have e1 : S.dumpP f N xs = 0 := by unfold Dv.dumpP; rw [h4]; rfl
    have e2 : S.dumpN f N xs = 0 := by unfold Dv.dumpN; rw [h4]; rfl
    rw [h4, e1, e2] at cD
    exact .inr ⟨_, cD⟩
theorem BS.low {w : World} {x : Addr} {a : Option Addr} {n cap : Nat} {l : List UInt8} (h : BS w a n cap l) (hx : a = some x) (h0 : l ≠ []) : x.block < w.heap.size := by
  have hl := h.len
  have hp : 0 < n := by have := List.length_pos_iff.2 h0; omega
  obtain ⟨b, off, ha, hb, _⟩ := h.cell 0 hp
  rw [hx] at ha
  cases ha
  exact hb
/-- Crash with picks that lay there ahead of the law. -/
theorem crash_l0 {w0 w : World} {d : Nat} {F : List Nat} {S : Dv} (L : Lw w0 w d F S) (a : Option Addr) (n cap : Nat) (l : List UInt8) (hn63 : n ≤ 9223372036854775807) (h : BS w0 a n cap l) :
    Calls Try.prog 22 #[.pointer (some ⟨d, 0, none⟩), .slice a n cap] w fun e w' => e = .returned (.tuple #[]) ∧ ∃ F', Lw w0 w' d F' (S.crash l) := by
  obtain ⟨b, hb, hx⟩ := (h.later L.bel).slice
  refine (crash_at d F S a n cap b l h.len hn63 w hb (fun h0 hm => ?_) L.dev).mono ?_
  · obtain ⟨off, ha⟩ := hx h0
    have h1 := h.low ha h0
    have h2 := L.new _ hm
    simp only at h1
    omega
  rintro e w' ⟨rfl, F', h1, h2⟩
  exact ⟨rfl, F', L.move h1 h2⟩
theorem Stands.past {S : Dv} {f : Nat} {c ps : List UInt8} (h : Stands S f c) (hs : ∀ x ∈ S.cs, x.last = none) : Stands (S.crash ps).on f c := by
  have h1 := crash_still (ps := ps) hs
  exact h.again (by rw [on_still (by rw [h1]; exact hs), h1]) rfl
end Go.Proofs.Ytanbbmlekebhhaa
