/- The laws' 'items', 'two', 'awake'. -/
import Derived.Test.YtanbbmlekebhhaaIm8
import Derived.Test.YtanbbmlekebhhaaRItem
import Derived.Deep.RegionHeld
import Derived.Deep.RegionHeld3
set_option linter.unusedVariables false
set_option linter.unusedSimpArgs false
set_option maxRecDepth 8000
namespace Go.Proofs.Ytanbbmlekebhhaa
open Go.RowKit Go.Deep Go.ChangeShapes Go.WideShapes Math

theorem its_cap {H : Type} {enc : TypeId × Value → H} {W : World} {fuel : Nat} {a0 : Option Addr} {len0 cap0 : Nat} {x : DataW H × List MemPlace} (h : DataW.trod enc Try.prog W 0 (fun _ => true) true fuel 33 [.slice a0 len0 cap0] = some x) : len0 ≤ cap0 := by
  rcases open_slice Try.underlying33 h with ⟨hcs, _⟩ | ⟨a, len, cap, m, n, D, Pl, hcs, _, hl, hm, hmm, hx, hel⟩
  · simp at hcs
    obtain ⟨rfl, rfl, rfl⟩ := hcs
    exact Nat.le_refl _
  · simp only [List.cons.injEq, Value.slice.injEq, and_true] at hcs
    obtain ⟨rfl, rfl, rfl⟩ := hcs
    exact hl

set_option maxHeartbeats 400000 in
theorem items_same (a b : Option Addr) (n ca cb : Nat) (xs : List It) (hn : n ≤ 1048576) (w : World) (h : RawAt w a n xs) (h' : RawAt w b n xs) :
    Calls Try.prog 18 #[.slice a n ca, .slice b n cb] w fun e w' => e = .returned (.bool true) ∧ Below w.heap.size w w' := by
  have H := hide h
  have H' := hide h'
  clear h h'
  go_enter Try.func18, Try.ntmps18
  go_wp2_with fail
  go_loopg [5] n (fun kx s5 wr => ∃ i : Nat, s5 = .int .i64 i ∧ i ≤ n ∧ n - i ≤ kx ∧ Hid (Below w.heap.size w wr))
  case atStart => exact ⟨0, rfl, Nat.zero_le _, by omega, Below.refl _ _⟩
  case round =>
    obtain ⟨i, rfl, hin, hg, I⟩ := hrel
    by_cases hlt : i < n
    · have hlt2 : (i : Int) < (n : Int) := by omega
      obtain ⟨x, hx⟩ : ∃ x, xs[i]? = some x := ⟨_, List.getElem?_eq_getElem (by rw [← H.out.len]; exact hlt)⟩
      obtain ⟨b1, o1, rfl, hb1, hc1⟩ := H.out.cell i x hx
      obtain ⟨b2, o2, rfl, hb2, hc2⟩ := H'.out.cell i x hx
      have hc1 := hc1.below I.out.drew hb1
      have hc2 := hc2.below I.out.drew hb2
      have hb1' : b1 < wr.heap.size := Nat.lt_of_lt_of_le hb1 I.out.size
      have hb2' : b2 < wr.heap.size := Nat.lt_of_lt_of_le hb2 I.out.size
      have c0 := hc1.c0
      have c1 := hc1.c1
      have c2 := hc1.c2
      have c3 := hc1.c3
      have c4 := hc1.c4
      have d0 := hc2.c0
      have d1 := hc2.c1
      have d2 := hc2.c2
      have d3 := hc2.c3
      have d4 := hc2.c4
      have FF := hide (And.intro c0 (And.intro c1 (And.intro c2 (And.intro c3 (And.intro c4 (And.intro d0 (And.intro d1 (And.intro d2 (And.intro d3 d4)))))))))
      clear hc1 hc2 hx
      go_wp2_with fail
      go_region_held (fun W => W.cell? ⟨b1, o1 + i * 5, none⟩ = some (.string (txt x.key)) ∧ W.cell? ⟨b1, o1 + i * 5 + 1, none⟩ = some (.string (txt x.value)) ∧ W.cell? ⟨b1, o1 + i * 5 + 2, none⟩ = some (.int .u32 x.flags) ∧ W.cell? ⟨b1, o1 + i * 5 + 3, none⟩ = some (.int .i64 x.exp) ∧ W.cell? ⟨b1, o1 + i * 5 + 4, none⟩ = some (.int .u64 x.ver) ∧ W.cell? ⟨b2, o2 + i * 5, none⟩ = some (.string (txt x.key)) ∧ W.cell? ⟨b2, o2 + i * 5 + 1, none⟩ = some (.string (txt x.value)) ∧ W.cell? ⟨b2, o2 + i * 5 + 2, none⟩ = some (.int .u32 x.flags) ∧ W.cell? ⟨b2, o2 + i * 5 + 3, none⟩ = some (.int .i64 x.exp) ∧ W.cell? ⟨b2, o2 + i * 5 + 4, none⟩ = some (.int .u64 x.ver))
        (exact FF.out)
        (fail)
      all_goals go_wp2
      all_goals go_roundg (n - (i + 1))
      case measure => omega
      case rel => exact ⟨i + 1, rfl, by omega, by omega, I.out.drew⟩
    · obtain rfl : i = n := by omega
      have hlt2 : ¬ (i : Int) < (i : Int) := by omega
      go_wp2
      go_ret
      exact ⟨rfl, I.out⟩

/-- A row of items of a call's own. -/
theorem own_raw {w : World} {base : Nat} {v : Value} {n : Nat} {xs : List It} (hn : n = xs.length) (hf : ∀ x ∈ xs, x.fits) (h : w.ownsRow base 32 5 v n (itsCells xs)) : ∃ a c, v = .slice a n c ∧ n ≤ c ∧ RawAt w a n xs := by
  rcases h.2 with ⟨h1, h0⟩ | ⟨g, cap, cur, hv, hb, hh, hc, hm, hs, htk⟩
  · have : xs = [] := List.eq_nil_of_length_eq_zero (by omega)
    subst this
    exact ⟨none, 0, by rw [h1, h0], by omega, hn, hf, fun i x hx => by simp at hx⟩
  · refine ⟨some ⟨g, 0, none⟩, cap, hv, hc, hn, hf, fun i x hx => ?_⟩
    have hi : i < xs.length := (List.getElem?_eq_some_iff.1 hx).1
    refine ⟨g, 0, rfl, (Array.getElem?_eq_some_iff.1 hh).1, ?_⟩
    have key : ∀ j u, j < 5 → (itCells x)[j]? = some u → w.cell? ⟨g, 0 + i * 5 + j, none⟩ = some u := fun j u hj hu => by
      have h1 : (itsCells xs)[i * 5 + j]? = some u := by
        have e : xs = xs.take i ++ x :: xs.drop (i + 1) := by
          have h2 := List.take_append_drop i xs
          rw [List.drop_eq_getElem_cons hi, (List.getElem?_eq_some_iff.1 hx).2] at h2
          exact h2.symm
        rw [e]
        unfold itsCells
        rw [List.flatMap_append, List.flatMap_cons]
        have hl : ((xs.take i).flatMap itCells).length = i * 5 := by
          have := itsCells_length (xs.take i)
          unfold itsCells at this
          rw [this, List.length_take]; congr 1; omega
        rw [List.getElem?_append_right (by omega), hl, show i * 5 + j - i * 5 = j by omega, List.getElem?_append_left (by show j < 5; omega)]
        exact hu
      rw [← htk, List.getElem?_take] at h1
      split at h1
      · rw [show 0 + i * 5 + j = i * 5 + j by omega]
        simp [World.cell?, hh, ← Array.getElem?_toList, h1]
      · cases h1
    exact ⟨key 0 _ (by omega) rfl, key 1 _ (by omega) rfl, key 2 _ (by omega) rfl, key 3 _ (by omega) rfl, key 4 _ (by omega) rfl⟩

/-- The chapter's items. -/
def twoL : List It := [⟨[97], [49], 0, 0, 1⟩, ⟨[98], [50], 0, 0, 2⟩]
theorem twoL_fits : ∀ x ∈ twoL, x.fits := by
  intro x hx
  simp only [twoL, List.mem_cons, List.not_mem_nil, or_false] at hx
  rcases hx with rfl | rfl <;> exact ⟨by decide, by decide, by decide, by decide⟩
theorem twoL_good : twoL.all It.good = true := by decide
theorem twoL_cells : itsCells twoL = [.string ⟨#[97]⟩, .string ⟨#[49]⟩, .int .u32 0, .int .i64 0, .int .u64 1, .string ⟨#[98]⟩, .string ⟨#[50]⟩, .int .u32 0, .int .i64 0, .int .u64 2] := rfl

theorem two_any (w : World) : Calls Try.prog 27 #[] w fun e w' => ∃ a, e = .returned (.slice a 2 2) ∧ RawAt w' a 2 twoL ∧ Below w.heap.size w w' := by
  go_enter Try.func27, Try.ntmps27
  go_wp2
  go_ret
  refine ⟨_, rfl, ?_, (Below.refl _ _).alloc (Nat.le_refl _) _⟩
  have hb := Blk.new w (itsCells twoL) 32
  rw [twoL_cells] at hb
  refine ⟨rfl, twoL_fits, fun i x hx => ⟨w.heap.size, 0, rfl, hb.lt, ?_⟩⟩
  match i, hx with
  | 0, hx =>
    simp only [twoL, List.getElem?_cons_zero, Option.some.injEq] at hx
    subst hx
    exact ⟨hb.cell rfl, hb.cell rfl, hb.cell rfl, hb.cell rfl, hb.cell rfl⟩
  | 1, hx =>
    simp only [twoL, List.getElem?_cons_zero, List.getElem?_cons_succ, Option.some.injEq] at hx
    subst hx
    exact ⟨hb.cell rfl, hb.cell rfl, hb.cell rfl, hb.cell rfl, hb.cell rfl⟩
  | i + 2, hx => simp [twoL] at hx

/-- New, as a law holds the device. -/
theorem new_at {w : World} (n : Nat) (h1 : 1 ≤ n) (h2 : n ≤ 4096) :
    Calls Try.prog 10 #[.int .i64 n] w fun e w' => ∃ d F, e = .returned (.tuple #[.pointer (some ⟨d, 0, none⟩), .int .i64 0]) ∧ DvAt w' d F (Dv.fresh n) ∧ Below w.heap.size w w' ∧ ∀ k ∈ F, w.heap.size ≤ k := by
  refine (new_any n h1 h2 w).mono ?_
  rintro e w' ⟨rfl, h, b⟩
  exact ⟨_, _, rfl, ⟨_, _, _, _, rfl, h⟩, b, fun k hk => by simp [foot] at hk; omega⟩
theorem fresh_len (n : Nat) : (Dv.fresh n).cs.length = n := by simp [Dv.fresh]

/-- What a law holds: a device of its own beside what was there at its begin. -/
structure Lw (w0 w : World) (d : Nat) (F : List Nat) (S : Dv) : Prop where
  dev : DvAt w d F S
  bel : Below w0.heap.size w0 w
  new : ∀ k ∈ F, w0.heap.size ≤ k
theorem Lw.move {w0 w w' : World} {d : Nat} {F F' : List Nat} {S S' : Dv} (h : Lw w0 w d F S) (hd : DvAt w' d F' S') (m : Moves F F' w w') : Lw w0 w' d F' S' :=
  ⟨hd, h.bel.trans (m.keep.below h.new h.bel.size), fun k hk => by
    rcases m.foot k hk with h1 | h1
    · exact h.new k h1
    · exact Nat.le_trans h.bel.size h1⟩
theorem Lw.keep {w0 w w' : World} {d : Nat} {F : List Nat} {S S' : Dv} (h : Lw w0 w d F S) (hd : DvAt w' d F S') (m : Keep F w w') : Lw w0 w' d F S' := h.move hd (Moves.of_keep m)
theorem Lw.below {w0 w w' : World} {d : Nat} {F : List Nat} {S : Dv} (h : Lw w0 w d F S) (b : Below w.heap.size w w') : Lw w0 w' d F S := h.keep (h.dev.below b) (Keep.of_below b)
theorem new_lw {w0 w : World} (b : Below w0.heap.size w0 w) (n : Nat) (h1 : 1 ≤ n) (h2 : n ≤ 4096) :
    Calls Try.prog 10 #[.int .i64 n] w fun e w' => ∃ d F, e = .returned (.tuple #[.pointer (some ⟨d, 0, none⟩), .int .i64 0]) ∧ Lw w0 w' d F (Dv.fresh n) := by
  refine (new_at n h1 h2).mono ?_
  rintro e w' ⟨d, F, rfl, h, b2, hF⟩
  exact ⟨d, F, rfl, h, b.trans (b2.mono b.size), fun k hk => Nat.le_trans b.size (hF k hk)⟩
/-- Dump by a law. -/
theorem dump_lw {w0 w : World} {d : Nat} {F : List Nat} {S : Dv} (L : Lw w0 w d F S) (first pages : Int) (hp1 : pages ≤ 9223372036854775807) (a : Option Addr) (n cap : Nat) (xs : List It) (hn63 : n ≤ 9223372036854775807) (hnc : n ≤ cap) (h : RawAt w a n xs) :
    Calls Try.prog 11 #[.pointer (some ⟨d, 0, none⟩), .int .i64 first, .int .i64 pages, .slice a n cap] w fun e w' => e = .returned (.tuple #[.int .i64 (S.dumpP first pages xs), .int .i64 (S.dumpN first pages xs), .int .i64 (S.dumpErr first pages xs)]) ∧ ∃ F', Lw w0 w' d F' (S.dumpDo first pages xs) := by
  refine (dump15 d F S first pages hp1 a n cap xs hn63 hnc w h L.dev).mono ?_
  rintro e w' ⟨rfl, F', h1, h2⟩
  exact ⟨rfl, F', L.move h1 h2⟩
/-- Load by a law: the items lie in memory that none of the law's earlier ones is. -/
theorem load_lw {w0 w : World} {d : Nat} {F : List Nat} {S : Dv} (L : Lw w0 w d F S) (first n : Int) (hn1 : n ≤ 9223372036854775807) (hf : ∀ x ∈ S.loadIts first n, x.fits) :
    Calls Try.prog 12 #[.pointer (some ⟨d, 0, none⟩), .int .i64 first, .int .i64 n] w fun e w' => ∃ a c, e = .returned (.tuple #[.slice a (S.loadIts first n).length c, .int .i64 (S.loadErr first n)]) ∧ RawAt w' a (S.loadIts first n).length (S.loadIts first n) ∧ (S.loadIts first n).length ≤ c ∧ ∃ S', Like S S' ∧ Lw w0 w' d F S' := by
  refine (load15 d F S first n hn1 w L.dev).mono ?_
  rintro e w' ⟨v, rfl, h1, h2, S', h3, h4⟩
  obtain ⟨a, c, rfl, hc, hr⟩ := own_raw rfl hf h1
  exact ⟨a, c, rfl, hr, hc, S', h3, L.keep h4 h2⟩
end Go.Proofs.Ytanbbmlekebhhaa
