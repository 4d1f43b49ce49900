/- The slab's calls over a world that goes on. -/
import Derived.Test.YteeanaoglcpaaaaDoorSl4
set_option linter.unusedVariables false
set_option linter.unusedSimpArgs false
set_option maxRecDepth 8000
namespace Go.Proofs.YteeanaoglcpaaaaDoor
open Go.RowKit Go.Deep Go.Shelf Math

/-! ### What Take and Free make of the pages -/
theorem findIdx_get {l : List Pg} {g : Pg → Bool} {a : Nat} (h : l.findIdx? g = some a) : ∃ p, l[a]? = some p ∧ g p = true := by
  rw [List.findIdx?_eq_some_iff_getElem] at h
  obtain ⟨hi, hg, _⟩ := h
  exact ⟨l[a], List.getElem?_eq_getElem hi, hg⟩
/-- The page that is picked: its next place, and what it is then. -/
theorem pfor_ok {cl : Nat} (hcl : cl < 6) {l : List Pg} (hg : Good l) {a : Nat} (h : pfor cl l = some a) : ∃ p, l[a]? = some p ∧ lz 64 p.t < 64 ∧ lz 64 p.t < many cl ∧ p.t < 2 ^ many cl ∧ (p.t = 0 ∨ p.c = (cl : Int)) ∧ Pg.Ok ⟨(cl : Int), p.t + 2 ^ lz 64 p.t⟩ := by
  have hm := many_le cl
  have hm2 := many_pos cl hcl
  have key : ∀ p, l[a]? = some p → lz 64 p.t < many cl → p.t < 2 ^ many cl → (p.t = 0 ∨ p.c = (cl : Int)) → ∃ p, l[a]? = some p ∧ lz 64 p.t < 64 ∧ lz 64 p.t < many cl ∧ p.t < 2 ^ many cl ∧ (p.t = 0 ∨ p.c = (cl : Int)) ∧ Pg.Ok ⟨(cl : Int), p.t + 2 ^ lz 64 p.t⟩ := fun p hp h1 h2 h3 =>
    ⟨p, hp, by omega, h1, h2, h3, .inr ⟨cl, hcl, rfl, add_lt h2 h1 (lz_bit (by omega))⟩⟩
  have zero : ∀ p, l[a]? = some p → p.t = 0 → ∃ p, l[a]? = some p ∧ lz 64 p.t < 64 ∧ lz 64 p.t < many cl ∧ p.t < 2 ^ many cl ∧ (p.t = 0 ∨ p.c = (cl : Int)) ∧ Pg.Ok ⟨(cl : Int), p.t + 2 ^ lz 64 p.t⟩ := fun p hp h0 =>
    key p hp (by rw [h0, lz_zero 64 (by omega)]; omega) (by rw [h0]; exact Nat.two_pow_pos _) (.inl h0)
  unfold pfor at h
  cases h1 : l.findIdx? (owns cl) with
  | some i =>
    rw [h1] at h
    obtain rfl : i = a := by simpa using h
    obtain ⟨p, hp, hq⟩ := findIdx_get h1
    unfold owns at hq
    simp only [Bool.and_eq_true, decide_eq_true_eq] at hq
    refine key p hp hq.2 ?_ (.inr hq.1)
    rcases hg.at hp with ⟨hc, _⟩ | ⟨c, _, hc, ht⟩
    · omega
    · obtain rfl : c = cl := by omega
      exact ht
  | none =>
    rw [h1, Option.none_or] at h
    cases h2 : l.findIdx? bare with
    | some i =>
      rw [h2] at h
      obtain rfl : i = a := by simpa using h
      obtain ⟨p, hp, hq⟩ := findIdx_get h2
      unfold bare at hq
      simp only [decide_eq_true_eq] at hq
      refine zero p hp ?_
      rcases hg.at hp with ⟨_, h0⟩ | ⟨c, _, hc, ht⟩
      · exact h0
      · omega
    | none =>
      rw [h2, Option.none_or] at h
      obtain ⟨p, hp, hq⟩ := findIdx_get h
      unfold free at hq
      exact zero p hp (by simpa using hq)
/-- What Take answers, and the pages behind it. -/
def tkC (cl : Nat) (l : List Pg) : Nat := match pfor cl l with
  | some a => 64 * a + lz 64 ((l[a]?.map Pg.t).getD 0)
  | none => 0
def tkE (cl : Nat) (l : List Pg) : Int := match pfor cl l with
  | some _ => 0
  | none => 7
def tkL (cl : Nat) (l : List Pg) : List Pg := match pfor cl l with
  | some a => tkn cl a ((l[a]?.map Pg.t).getD 0) l
  | none => l
theorem tk_some {cl : Nat} {l : List Pg} {a : Nat} {p : Pg} (h : pfor cl l = some a) (hp : l[a]? = some p) : tkC cl l = 64 * a + lz 64 p.t ∧ tkE cl l = 0 ∧ tkL cl l = tkn cl a p.t l := by
  unfold tkC tkE tkL
  rw [h]
  simp [hp]
theorem tk_none {cl : Nat} {l : List Pg} (h : pfor cl l = none) : tkC cl l = 0 ∧ tkE cl l = 7 ∧ tkL cl l = l := by
  unfold tkC tkE tkL
  rw [h]
  simp
theorem tkL_len (cl : Nat) (l : List Pg) : (tkL cl l).length = l.length := by
  unfold tkL
  cases pfor cl l <;> simp [tkn]
theorem tkL_good {cl : Nat} (hcl : cl < 6) {l : List Pg} (hg : Good l) : Good (tkL cl l) := by
  cases h : pfor cl l with
  | none => rw [(tk_none h).2.2]; exact hg
  | some a =>
    obtain ⟨p, hp, _, _, _, _, hok⟩ := pfor_ok hcl hg h
    rw [(tk_some h hp).2.2]
    exact hg.set hok
/-- Is this chunk taken? -/
def bitAt (l : List Pg) (n : Nat) : Bool := match l[n / 64]? with
  | some p => p.t.testBit (n % 64)
  | none => false
def clsAt (l : List Pg) (n : Nat) : Int := match l[n / 64]? with
  | some p => p.c
  | none => -1
def clr (l : List Pg) (n : Nat) : List Pg := match l[n / 64]? with
  | some p => l.set (n / 64) ⟨p.c, p.t - 2 ^ (n % 64)⟩
  | none => l
def takI (l : List Pg) (k : Int) : Bool := decide (0 ≤ k) && bitAt l k.toNat
theorem bitAt_some {l : List Pg} {n : Nat} {p : Pg} (h : l[n / 64]? = some p) : bitAt l n = p.t.testBit (n % 64) ∧ clsAt l n = p.c ∧ clr l n = l.set (n / 64) ⟨p.c, p.t - 2 ^ (n % 64)⟩ := by
  unfold bitAt clsAt clr
  rw [h]
  exact ⟨rfl, rfl, rfl⟩
theorem clr_len (l : List Pg) (n : Nat) : (clr l n).length = l.length := by
  unfold clr
  split <;> simp
theorem Pg.Ok.less {p : Pg} (h : p.Ok) (t : Nat) (ht : t ≤ p.t) : Pg.Ok ⟨p.c, t⟩ := by
  rcases h with ⟨h1, h2⟩ | ⟨c, h1, h2, h3⟩
  · exact .inl ⟨h1, by show t = 0; omega⟩
  · exact .inr ⟨c, h1, h2, by show t < _; omega⟩
theorem clr_good {l : List Pg} (hg : Good l) (n : Nat) : Good (clr l n) := by
  unfold clr
  split
  · rename_i p hp
    exact hg.set ((hg.at hp).less _ (Nat.sub_le _ _))
  · exact hg

/-! ### The slab as the world goes on -/
structure Sl (w0 : World) (f s : Nat) (l : List Pg) (W : World) : Prop where
  inn : SlIn W f s l
  bel : Below w0.heap.size w0 W
  lf : w0.heap.size ≤ f
  ls : w0.heap.size ≤ s
  good : Good l
  tab : Tab w0
theorem Sl.on {w0 : World} {f s : Nat} {l : List Pg} {W W' : World} (h : Sl w0 f s l W) (b : Below W.heap.size W W') : Sl w0 f s l W' :=
  ⟨h.inn.below b, h.bel.trans (b.mono h.bel.size), h.lf, h.ls, h.good, h.tab⟩
theorem Sl.tabW {w0 : World} {f s : Nat} {l : List Pg} {W : World} (h : Sl w0 f s l W) : Tab W := h.tab.later h.bel
theorem blank_good (n : Nat) : Good (List.replicate n blank) := fun p hp => by
  rw [List.mem_replicate] at hp
  rw [hp.2]
  exact .inl ⟨rfl, rfl⟩
theorem new_l {w0 W : World} (b : Below w0.heap.size w0 W) (hT : Tab w0) (n : Nat) (h1 : 1 ≤ n) (h2 : n ≤ 1024) :
    Calls Tryd.prog 10 #[.int .i64 n] W fun e W' => ∃ f s, e = .returned (.tuple #[.pointer (some ⟨f, 0, none⟩), .int .i64 0]) ∧ Sl w0 f s (List.replicate n blank) W' ∧ W.heap.size ≤ f ∧ W.heap.size ≤ s ∧ Below W.heap.size W W' := by
  refine (new_ok n W h1 h2).mono ?_
  rintro e W' ⟨rfl, hf, hb⟩
  exact ⟨_, _, rfl, ⟨hf, b.trans (hb.mono b.size), by have := b.size; omega, b.size, blank_good n, hT⟩, by omega, Nat.le_refl _, hb⟩
theorem take_l {w0 W : World} {f s : Nat} {l : List Pg} (h : Sl w0 f s l W) (cl : Nat) (hcl : cl < 6) :
    Calls Tryd.prog 11 #[.pointer (some ⟨f, 0, none⟩), .int .i64 (cl : Int)] W fun e W' => e = .returned (.tuple #[.int .i64 (tkC cl l : Int), .int .i64 (tkE cl l)]) ∧ Sl w0 f s (tkL cl l) W' ∧ Keep [s] W W' := by
  cases hp : pfor cl l with
  | none =>
    obtain ⟨e1, e2, e3⟩ := tk_none hp
    rw [e1, e2, e3]
    refine (take_full f s l cl hcl W h.inn h.good.fit h.tabW hp).mono ?_
    rintro e W' ⟨rfl, b⟩
    exact ⟨rfl, h.on b, Keep.of_below b⟩
  | some a =>
    obtain ⟨p, hpa, h64, _, _, _, hok⟩ := pfor_ok hcl h.good hp
    obtain ⟨e1, e2, e3⟩ := tk_some hp hpa
    have hgd := tkL_good hcl h.good
    rw [e3] at hgd
    rw [e1, e2, e3]
    refine (take_ok f s l cl hcl a p W h.inn h.good.fit h.tabW hp hpa h64).mono ?_
    rintro e W' ⟨rfl, hs, k⟩
    exact ⟨rfl, ⟨hs, h.bel.trans (k.below (by simpa using h.ls) h.bel.size), h.lf, h.ls, hgd, h.tab⟩, k⟩
theorem split64 (k : Int) (h0 : 0 ≤ k) : k / 64 = ((k.toNat / 64 : Nat) : Int) ∧ k % 64 = ((k.toNat % 64 : Nat) : Int) := by omega
/-- What Free answers, and the pages behind it. -/
def frE (l : List Pg) (k : Int) : Int := if takI l k then 0 else 5
def frL (l : List Pg) (k : Int) : List Pg := if takI l k then clr l k.toNat else l
theorem free_l {w0 W : World} {f s : Nat} {l : List Pg} (h : Sl w0 f s l W) (k : Int) (hk9 : k ≤ 9223372036854775807) :
    Calls Tryd.prog 12 #[.pointer (some ⟨f, 0, none⟩), .int .i64 k] W fun e W' => e = .returned (.int .i64 (frE l k)) ∧ Sl w0 f s (frL l k) W' ∧ Keep [s] W W' := by
  unfold frE frL takI
  by_cases h0 : 0 ≤ k
  · obtain ⟨hq, hr⟩ := split64 k h0
    rw [decide_eq_true h0, Bool.true_and]
    by_cases hl : k.toNat / 64 < l.length
    · have hp := List.getElem?_eq_getElem hl
      obtain ⟨b1, b2, b3⟩ := bitAt_some (n := k.toNat) hp
      rw [b1, b3]
      by_cases hb : l[k.toNat / 64].t.testBit (k.toNat % 64) = true
      · rw [if_pos hb, if_pos hb]
        refine (free_ok f s l k _ _ _ W h.inn h.good.fit h0 hk9 hq hr hp hb ?_).mono ?_
        · rcases h.good.at hp with ⟨_, ht⟩ | ⟨c, _, hc, _⟩
          · rw [ht] at hb; simp at hb
          · rw [hc]; omega
        · rintro e W' ⟨rfl, hs, k'⟩
          exact ⟨rfl, ⟨hs, h.bel.trans (k'.below (by simpa using h.ls) h.bel.size), h.lf, h.ls, h.good.set ((h.good.at hp).less _ (Nat.sub_le _ _)), h.tab⟩, k'⟩
      · rw [if_neg hb, if_neg hb]
        refine (free_none f s l k _ _ _ W h.inn h.good.fit h0 hk9 hq hr hp (by simpa using hb)).mono ?_
        rintro e W' ⟨rfl, b⟩
        exact ⟨rfl, h.on b, Keep.of_below b⟩
    · have hn : bitAt l k.toNat = false := by unfold bitAt; rw [List.getElem?_eq_none (by omega)]
      rw [hn]
      refine (free_bad f s l k W h.inn hk9 (.inr (by omega))).mono ?_
      rintro e W' ⟨rfl, rfl⟩
      exact ⟨rfl, h, Keep.refl _ _⟩
  · rw [decide_eq_false h0, Bool.false_and]
    refine (free_bad f s l k W h.inn hk9 (.inl (by omega))).mono ?_
    rintro e W' ⟨rfl, rfl⟩
    exact ⟨rfl, h, Keep.refl _ _⟩
def ofI (l : List Pg) (k : Int) : Int := if takI l k then clsAt l k.toNat else -1
theorem of_l {w0 W : World} {f s : Nat} {l : List Pg} (h : Sl w0 f s l W) (k : Int) (hk9 : k ≤ 9223372036854775807) :
    Calls Tryd.prog 15 #[.pointer (some ⟨f, 0, none⟩), .int .i64 k] W fun e W' => e = .returned (.int .i64 (ofI l k)) ∧ Sl w0 f s l W' ∧ Below W.heap.size W W' := by
  unfold ofI takI
  by_cases h0 : 0 ≤ k
  · obtain ⟨hq, hr⟩ := split64 k h0
    rw [decide_eq_true h0, Bool.true_and]
    by_cases hl : k.toNat / 64 < l.length
    · have hp := List.getElem?_eq_getElem hl
      obtain ⟨b1, b2, b3⟩ := bitAt_some (n := k.toNat) hp
      rw [b1, b2]
      refine (of_in f s l k _ _ _ W h.inn h.good.fit h0 hk9 hq hr hp).mono ?_
      rintro e W' ⟨rfl, b⟩
      exact ⟨rfl, h.on b, b⟩
    · have hn : bitAt l k.toNat = false := by unfold bitAt; rw [List.getElem?_eq_none (by omega)]
      rw [hn]
      refine (of_bad f s l k W h.inn hk9 (.inr (by omega))).mono ?_
      rintro e W' ⟨rfl, rfl⟩
      exact ⟨rfl, h, Below.refl _ _⟩
  · rw [decide_eq_false h0, Bool.false_and]
    refine (of_bad f s l k W h.inn hk9 (.inl (by omega))).mono ?_
    rintro e W' ⟨rfl, rfl⟩
    exact ⟨rfl, h, Below.refl _ _⟩
theorem used_l {w0 W : World} {f s : Nat} {l : List Pg} (h : Sl w0 f s l W) (c : Int) :
    Calls Tryd.prog 21 #[.pointer (some ⟨f, 0, none⟩), .int .i64 c] W fun e W' => e = .returned (.int .i64 (usd c l : Int)) ∧ Sl w0 f s l W' ∧ Below W.heap.size W W' := by
  refine (used_any f s l c W h.inn h.good.fit).mono ?_
  rintro e W' ⟨rfl, b⟩
  exact ⟨rfl, h.on b, b⟩
theorem left_l {w0 W : World} {f s : Nat} {l : List Pg} (h : Sl w0 f s l W) :
    Calls Tryd.prog 16 #[.pointer (some ⟨f, 0, none⟩)] W fun e W' => e = .returned (.int .i64 (ownd (-1) l : Int)) ∧ Sl w0 f s l W' ∧ Below W.heap.size W W' := by
  refine (left_any f s l W h.inn).mono ?_
  rintro e W' ⟨rfl, b⟩
  exact ⟨rfl, h.on b, b⟩
theorem pages_l {w0 W : World} {f s : Nat} {l : List Pg} (h : Sl w0 f s l W) (c : Int) (hc : 0 ≤ c ∧ c < 6) :
    Calls Tryd.prog 22 #[.pointer (some ⟨f, 0, none⟩), .int .i64 c] W fun e W' => e = .returned (.int .i64 (ownd c l : Int)) ∧ Sl w0 f s l W' ∧ Below W.heap.size W W' := by
  refine (pages_ok f s l c W h.inn hc).mono ?_
  rintro e W' ⟨rfl, b⟩
  exact ⟨rfl, h.on b, b⟩
end Go.Proofs.YteeanaoglcpaaaaDoor
