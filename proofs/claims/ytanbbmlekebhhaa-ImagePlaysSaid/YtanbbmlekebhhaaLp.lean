/- Dump and Load as a law calls them, on a device whose power stays. -/
import Derived.Test.YtanbbmlekebhhaaAw
set_option linter.unusedVariables false
set_option linter.unusedSimpArgs false
set_option maxRecDepth 8000
namespace Go.Proofs.Ytanbbmlekebhhaa
open Go.RowKit Go.Deep Math

theorem dump_no {S : Dv} {first pages : Int} {xs : List It} (h : S.dumpOk first pages xs = false) : S.dumpErr first pages xs = 1 ∧ S.dumpP first pages xs = 0 ∧ S.dumpN first pages xs = 0 ∧ S.dumpDo first pages xs = S := by
  have her : S.dumpErr first pages xs = 1 := by unfold Dv.dumpErr; rw [if_pos h]
  exact ⟨her, by unfold Dv.dumpP; rw [her]; rfl, by unfold Dv.dumpN; rw [her]; rfl, by unfold Dv.dumpDo; rw [if_pos h]⟩
/-- On, and not armed. -/
structure Calm (S : Dv) (n : Nat) : Prop where
  off : S.off = false
  armed : S.armed = 0
  len : S.cs.length = n
theorem calm_fresh (n : Nat) : Calm (Dv.fresh n) n := ⟨rfl, rfl, fresh_len n⟩
theorem Calm.like {S S' : Dv} {n : Nat} (h : Calm S n) (l : Like S S') : Calm S' n := ⟨by rw [l.off]; exact h.off, by rw [l.armed]; exact h.armed, by rw [l.cs]; exact h.len⟩
theorem dump_badL {w0 w : World} {d : Nat} {F : List Nat} {S : Dv} (L : Lw w0 w d F S) (f N : Nat) (hN : N ≤ 4096) (a : Option Addr) (n cap : Nat) (xs : List It) (hn63 : n ≤ 9223372036854775807) (hnc : n ≤ cap) (h : RawAt w a n xs) (hg : xs.all It.good = false) :
    Calls Try.prog 11 #[.pointer (some ⟨d, 0, none⟩), .int .i64 (f : Int), .int .i64 (N : Int), .slice a n cap] w fun e w' => e = .returned (.tuple #[.int .i64 0, .int .i64 0, .int .i64 1]) ∧ ∃ F', Lw w0 w' d F' S := by
  have cD := dump_lw L (f : Int) (N : Int) (by omega) a n cap xs hn63 hnc h
  obtain ⟨q1, q2, q3, q4⟩ := dump_no (S := S) (first := (f : Int)) (pages := (N : Int)) (xs := xs) (by unfold Dv.dumpOk; rw [hg, Bool.and_false])
  rw [q1, q2, q3, q4] at cD
  exact cD
theorem dump_goodL {w0 w : World} {d : Nat} {F : List Nat} {S : Dv} {M : Nat} (L : Lw w0 w d F S) (hC : Calm S M) (f N : Nat) (hN : f + N ≤ M) (hM : M ≤ 4096) (a : Option Addr) (n cap : Nat) (xs : List It) (hn63 : n ≤ 9223372036854775807) (hnc : n ≤ cap) (h : RawAt w a n xs) (hg : xs.all It.good = true) :
    ∃ S', Dumped S S' f N xs ∧ Calm S' M ∧ Stands S' f (dmpB N xs) ∧ Calls Try.prog 11 #[.pointer (some ⟨d, 0, none⟩), .int .i64 (f : Int), .int .i64 (N : Int), .slice a n cap] w fun e w' => e = .returned (.tuple #[.int .i64 (pgsN (dmpB N xs).length : Nat), .int .i64 (dmpN N xs : Nat), .int .i64 0]) ∧ ∃ F', Lw w0 w' d F' S' := by
  have cD := dump_lw L (f : Int) (N : Int) (by omega) a n cap xs hn63 hnc h
  rcases dump_any S f N xs hg hC.off (by rw [hC.len]; exact hN) with ⟨S', hDu⟩ | ⟨_, hx⟩
  · rw [hDu.p, hDu.n, hDu.err, hDu.same] at cD
    exact ⟨S', hDu, ⟨hDu.w.off, hDu.w.armed hC.armed, by rw [hDu.w.len]; exact hC.len⟩, hDu.stands (by rw [hC.len]; exact hN) (by rw [hC.len]; exact hM), cD⟩
  · exact absurd hC.armed hx
theorem load_goodL {w0 w : World} {d : Nat} {F : List Nat} {S : Dv} (L : Lw w0 w d F S) (f : Nat) (c : List UInt8) (ys : List It) (hs : Stands S f c) (hc : c = encs ys) (hy : ∀ x ∈ ys, x.fits ∧ x.good = true) :
    Calls Try.prog 12 #[.pointer (some ⟨d, 0, none⟩), .int .i64 (f : Int), .int .i64 (pgsN c.length : Nat)] w fun e w' => ∃ a c', e = .returned (.tuple #[.slice a ys.length c', .int .i64 0]) ∧ RawAt w' a ys.length ys ∧ ys.length ≤ c' ∧ ∃ S', Like S S' ∧ Lw w0 w' d F S' := by
  obtain ⟨l1, l2⟩ := load_stands hs hc hy
  have cL := load_lw L (f : Int) (pgsN c.length : Nat) (by have := hs.in_; have := hs.few; omega) (by rw [l2]; exact fun x hx => (hy x hx).1)
  rw [l1, l2] at cL
  exact cL
theorem load_badL {w0 w : World} {d : Nat} {F : List Nat} {S : Dv} (L : Lw w0 w d F S) (f n : Nat) (hn : n ≤ 4096) (h : S.loadErr (f : Int) (n : Int) = 3 ∧ S.loadIts (f : Int) (n : Int) = []) :
    Calls Try.prog 12 #[.pointer (some ⟨d, 0, none⟩), .int .i64 (f : Int), .int .i64 (n : Int)] w fun e w' => ∃ a c', e = .returned (.tuple #[.slice a 0 c', .int .i64 3]) ∧ ∃ S', Like S S' ∧ Lw w0 w' d F S' := by
  have cL := load_lw L (f : Int) (n : Int) (by omega) (by rw [h.2]; simp)
  rw [h.1, h.2] at cL
  refine cL.mono ?_
  rintro e w' ⟨a, c', rfl, _, _, h3⟩
  exact ⟨a, c', rfl, h3⟩
theorem its_take {xs : List It} (hf : ∀ x ∈ xs, x.fits) (hg : xs.all It.good = true) (k : Nat) : ∀ x ∈ xs.take k, x.fits ∧ x.good = true := fun x hx =>
  ⟨hf x (List.mem_of_mem_take hx), List.all_eq_true.1 hg x (List.mem_of_mem_take hx)⟩
end Go.Proofs.Ytanbbmlekebhhaa
