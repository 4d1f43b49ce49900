/- Joined texts: LLaw, LSt, LTot. -/
import Derived.Test.YtdkiegkgnimapabDoorSl4
/- The slab's calls over a world that goes on. -/
set_option linter.unusedVariables false
set_option linter.unusedSimpArgs false
set_option maxRecDepth 8000
namespace Go.Proofs.YtdkiegkgnimapabDoor.Slb
open Go.RowKit Go.Deep Go.Shelf Math

/-! ### What Take and Free make of the pages -/
theorem findIdx_get {l : List Pg} {g : Pg → Bool} {a : Nat} (h : l.findIdx? g = some a) : ∃ p, l[a]? = some p ∧ g p = true := by
  rw [List.findIdx?_eq_some_iff_getElem] at h
  obtain ⟨hi, hg, _⟩ := h
  exact ⟨l[a], List.getElem?_eq_getElem hi, hg⟩
/-- The page that is picked: its next place, and what it is then. -/
theorem pfor_ok {cl : Nat} (hcl : cl < 6) {l : List Pg} (hg : Good l) {a : Nat} (h : pfor cl l = some a) : ∃ p, l[a]? = some p ∧ lz 64 p.t < 64 ∧ lz 64 p.t < many cl ∧ p.t < 2 ^ many cl ∧ (p.t = 0 ∨ p.c = (cl : Int)) ∧ Pg.Ok ⟨(cl : Int), p.t + 2 ^ lz 64 p.t⟩ := by
  have hm := many_le cl
  have hm2 := many_pos cl hcl
  have key : ∀ p, l[a]? = some p → lz 64 p.t < many cl → p.t < 2 ^ many cl → (p.t = 0 ∨ p.c = (cl : Int)) → ∃ p, l[a]? = some p ∧ lz 64 p.t < 64 ∧ lz 64 p.t < many cl ∧ p.t < 2 ^ many cl ∧ (p.t = 0 ∨ p.c = (cl : Int)) ∧ Pg.Ok ⟨(cl : Int), p.t + 2 ^ lz 64 p.t⟩ := fun p hp h1 h2 h3 =>
    ⟨p, hp, by omega, h1, h2, h3, .inr ⟨cl, hcl, rfl, add_lt h2 h1 (lz_bit (by omega))⟩⟩
  have zero : ∀ p, l[a]? = some p → p.t = 0 → ∃ p, l[a]? = some p ∧ lz 64 p.t < 64 ∧ lz 64 p.t < many cl ∧ p.t < 2 ^ many cl ∧ (p.t = 0 ∨ p.c = (cl : Int)) ∧ Pg.Ok ⟨(cl : Int), p.t + 2 ^ lz 64 p.t⟩ := fun p hp h0 =>
    key p hp (by rw [h0, lz_zero 64 (by omega)]; omega) (by rw [h0]; exact Nat.two_pow_pos _) (.inl h0)
  unfold pfor at h
  cases h1 : l.findIdx? (owns cl) with
  | some i =>
    rw [h1] at h
    obtain rfl : i = a := by simpa using h
    obtain ⟨p, hp, hq⟩ := findIdx_get h1
    unfold owns at hq
    simp only [Bool.and_eq_true, decide_eq_true_eq] at hq
    refine key p hp hq.2 ?_ (.inr hq.1)
    rcases hg.at hp with ⟨hc, _⟩ | ⟨c, _, hc, ht⟩
    · omega
    · obtain rfl : c = cl := by omega
      exact ht
  | none =>
    rw [h1, Option.none_or] at h
    cases h2 : l.findIdx? bare with
    | some i =>
      rw [h2] at h
      obtain rfl : i = a := by simpa using h
      obtain ⟨p, hp, hq⟩ := findIdx_get h2
      unfold bare at hq
      simp only [decide_eq_true_eq] at hq
      refine zero p hp ?_
      rcases hg.at hp with ⟨_, h0⟩ | ⟨c, _, hc, ht⟩
      · exact h0
      · omega
    | none =>
      rw [h2, Option.none_or] at h
      obtain ⟨p, hp, hq⟩ := findIdx_get h
      unfold free at hq
      exact zero p hp (by simpa using hq)
/-- What Take answers, and the pages behind it. -/
def tkC (cl : Nat) (l : List Pg) : Nat := match pfor cl l with
  | some a => 64 * a + lz 64 ((l[a]?.map Pg.t).getD 0)
  | none => 0
def tkE (cl : Nat) (l : List Pg) : Int := match pfor cl l with
  | some _ => 0
  | none => 7
def tkL (cl : Nat) (l : List Pg) : List Pg := match pfor cl l with
  | some a => tkn cl a ((l[a]?.map Pg.t).getD 0) l
  | none => l
theorem tk_some {cl : Nat} {l : List Pg} {a : Nat} {p : Pg} (h : pfor cl l = some a) (hp : l[a]? = some p) : tkC cl l = 64 * a + lz 64 p.t ∧ tkE cl l = 0 ∧ tkL cl l = tkn cl a p.t l := by
  unfold tkC tkE tkL
  rw [h]
  simp [hp]
theorem tk_none {cl : Nat} {l : List Pg} (h : pfor cl l = none) : tkC cl l = 0 ∧ tkE cl l = 7 ∧ tkL cl l = l := by
  unfold tkC tkE tkL
  rw [h]
  simp
theorem tkL_len (cl : Nat) (l : List Pg) : (tkL cl l).length = l.length := by
  unfold tkL
  cases pfor cl l <;> simp [tkn]
theorem tkL_good {cl : Nat} (hcl : cl < 6) {l : List Pg} (hg : Good l) : Good (tkL cl l) := by
  cases h : pfor cl l with
  | none => rw [(tk_none h).2.2]; exact hg
  | some a =>
    obtain ⟨p, hp, _, _, _, _, hok⟩ := pfor_ok hcl hg h
    rw [(tk_some h hp).2.2]
    exact hg.set hok
/-- Is this chunk taken? -/
def bitAt (l : List Pg) (n : Nat) : Bool := match l[n / 64]? with
  | some p => p.t.testBit (n % 64)
  | none => false
def clsAt (l : List Pg) (n : Nat) : Int := match l[n / 64]? with
  | some p => p.c
  | none => -1
def clr (l : List Pg) (n : Nat) : List Pg := match l[n / 64]? with
  | some p => l.set (n / 64) ⟨p.c, p.t - 2 ^ (n % 64)⟩
  | none => l
def takI (l : List Pg) (k : Int) : Bool := decide (0 ≤ k) && bitAt l k.toNat
theorem bitAt_some {l : List Pg} {n : Nat} {p : Pg} (h : l[n / 64]? = some p) : bitAt l n = p.t.testBit (n % 64) ∧ clsAt l n = p.c ∧ clr l n = l.set (n / 64) ⟨p.c, p.t - 2 ^ (n % 64)⟩ := by
  unfold bitAt clsAt clr
  rw [h]
  exact ⟨rfl, rfl, rfl⟩
theorem clr_len (l : List Pg) (n : Nat) : (clr l n).length = l.length := by
  unfold clr
  split <;> simp
theorem Pg.Ok.less {p : Pg} (h : p.Ok) (t : Nat) (ht : t ≤ p.t) : Pg.Ok ⟨p.c, t⟩ := by
  rcases h with ⟨h1, h2⟩ | ⟨c, h1, h2, h3⟩
  · exact .inl ⟨h1, by show t = 0; omega⟩
  · exact .inr ⟨c, h1, h2, by show t < _; omega⟩
theorem clr_good {l : List Pg} (hg : Good l) (n : Nat) : Good (clr l n) := by
  unfold clr
  split
  · rename_i p hp
    exact hg.set ((hg.at hp).less _ (Nat.sub_le _ _))
  · exact hg

/-! ### The slab as the world goes on -/
structure Sl (w0 : World) (f s : Nat) (l : List Pg) (W : World) : Prop where
  inn : SlIn W f s l
  bel : Below w0.heap.size w0 W
  lf : w0.heap.size ≤ f
  ls : w0.heap.size ≤ s
  good : Good l
  tab : Tab w0
theorem Sl.on {w0 : World} {f s : Nat} {l : List Pg} {W W' : World} (h : Sl w0 f s l W) (b : Below W.heap.size W W') : Sl w0 f s l W' :=
  ⟨h.inn.below b, h.bel.trans (b.mono h.bel.size), h.lf, h.ls, h.good, h.tab⟩
theorem Sl.tabW {w0 : World} {f s : Nat} {l : List Pg} {W : World} (h : Sl w0 f s l W) : Tab W := h.tab.later h.bel
theorem blank_good (n : Nat) : Good (List.replicate n blank) := fun p hp => by
  rw [List.mem_replicate] at hp
  rw [hp.2]
  exact .inl ⟨rfl, rfl⟩
theorem new_l {w0 W : World} (b : Below w0.heap.size w0 W) (hT : Tab w0) (n : Nat) (h1 : 1 ≤ n) (h2 : n ≤ 1024) :
    Calls Tryd.prog 15 #[.int .i64 n] W fun e W' => ∃ f s, e = .returned (.tuple #[.pointer (some ⟨f, 0, none⟩), .int .i64 0]) ∧ Sl w0 f s (List.replicate n blank) W' ∧ W.heap.size ≤ f ∧ W.heap.size ≤ s ∧ Below W.heap.size W W' := by
  refine (new_ok n W h1 h2).mono ?_
  rintro e W' ⟨rfl, hf, hb⟩
  exact ⟨_, _, rfl, ⟨hf, b.trans (hb.mono b.size), by have := b.size; omega, b.size, blank_good n, hT⟩, by omega, Nat.le_refl _, hb⟩
theorem take_l {w0 W : World} {f s : Nat} {l : List Pg} (h : Sl w0 f s l W) (cl : Nat) (hcl : cl < 6) :
    Calls Tryd.prog 37 #[.pointer (some ⟨f, 0, none⟩), .int .i64 (cl : Int)] W fun e W' => e = .returned (.tuple #[.int .i64 (tkC cl l : Int), .int .i64 (tkE cl l)]) ∧ Sl w0 f s (tkL cl l) W' ∧ Keep [s] W W' := by
  cases hp : pfor cl l with
  | none =>
    obtain ⟨e1, e2, e3⟩ := tk_none hp
    rw [e1, e2, e3]
    refine (take_full f s l cl hcl W h.inn h.good.fit h.tabW hp).mono ?_
    rintro e W' ⟨rfl, b⟩
    exact ⟨rfl, h.on b, Keep.of_below b⟩
  | some a =>
    obtain ⟨p, hpa, h64, _, _, _, hok⟩ := pfor_ok hcl h.good hp
    obtain ⟨e1, e2, e3⟩ := tk_some hp hpa
    have hgd := tkL_good hcl h.good
    rw [e3] at hgd
    rw [e1, e2, e3]
    refine (take_ok f s l cl hcl a p W h.inn h.good.fit h.tabW hp hpa h64).mono ?_
    rintro e W' ⟨rfl, hs, k⟩
    exact ⟨rfl, ⟨hs, h.bel.trans (k.below (by simpa using h.ls) h.bel.size), h.lf, h.ls, hgd, h.tab⟩, k⟩
theorem split64 (k : Int) (h0 : 0 ≤ k) : k / 64 = ((k.toNat / 64 : Nat) : Int) ∧ k % 64 = ((k.toNat % 64 : Nat) : Int) := by omega
/-- What Free answers, and the pages behind it. -/
def frE (l : List Pg) (k : Int) : Int := if takI l k then 0 else 5
def frL (l : List Pg) (k : Int) : List Pg := if takI l k then clr l k.toNat else l
theorem free_l {w0 W : World} {f s : Nat} {l : List Pg} (h : Sl w0 f s l W) (k : Int) (hk9 : k ≤ 9223372036854775807) :
    Calls Tryd.prog 62 #[.pointer (some ⟨f, 0, none⟩), .int .i64 k] W fun e W' => e = .returned (.int .i64 (frE l k)) ∧ Sl w0 f s (frL l k) W' ∧ Keep [s] W W' := by
  unfold frE frL takI
  by_cases h0 : 0 ≤ k
  · obtain ⟨hq, hr⟩ := split64 k h0
    rw [decide_eq_true h0, Bool.true_and]
    by_cases hl : k.toNat / 64 < l.length
    · have hp := List.getElem?_eq_getElem hl
      obtain ⟨b1, b2, b3⟩ := bitAt_some (n := k.toNat) hp
      rw [b1, b3]
      by_cases hb : l[k.toNat / 64].t.testBit (k.toNat % 64) = true
      · rw [if_pos hb, if_pos hb]
        refine (free_ok f s l k _ _ _ W h.inn h.good.fit h0 hk9 hq hr hp hb ?_).mono ?_
        · rcases h.good.at hp with ⟨_, ht⟩ | ⟨c, _, hc, _⟩
          · rw [ht] at hb; simp at hb
          · rw [hc]; omega
        · rintro e W' ⟨rfl, hs, k'⟩
          exact ⟨rfl, ⟨hs, h.bel.trans (k'.below (by simpa using h.ls) h.bel.size), h.lf, h.ls, h.good.set ((h.good.at hp).less _ (Nat.sub_le _ _)), h.tab⟩, k'⟩
      · rw [if_neg hb, if_neg hb]
        refine (free_none f s l k _ _ _ W h.inn h.good.fit h0 hk9 hq hr hp (by simpa using hb)).mono ?_
        rintro e W' ⟨rfl, b⟩
        exact ⟨rfl, h.on b, Keep.of_below b⟩
    · have hn : bitAt l k.toNat = false := by unfold bitAt; rw [List.getElem?_eq_none (by omega)]
      rw [hn]
      refine (free_bad f s l k W h.inn hk9 (.inr (by omega))).mono ?_
      rintro e W' ⟨rfl, rfl⟩
      exact ⟨rfl, h, Keep.refl _ _⟩
  · rw [decide_eq_false h0, Bool.false_and]
    refine (free_bad f s l k W h.inn hk9 (.inl (by omega))).mono ?_
    rintro e W' ⟨rfl, rfl⟩
    exact ⟨rfl, h, Keep.refl _ _⟩
def ofI (l : List Pg) (k : Int) : Int := if takI l k then clsAt l k.toNat else -1
theorem of_l {w0 W : World} {f s : Nat} {l : List Pg} (h : Sl w0 f s l W) (k : Int) (hk9 : k ≤ 9223372036854775807) :
    Calls Tryd.prog 51 #[.pointer (some ⟨f, 0, none⟩), .int .i64 k] W fun e W' => e = .returned (.int .i64 (ofI l k)) ∧ Sl w0 f s l W' ∧ Below W.heap.size W W' := by
  unfold ofI takI
  by_cases h0 : 0 ≤ k
  · obtain ⟨hq, hr⟩ := split64 k h0
    rw [decide_eq_true h0, Bool.true_and]
    by_cases hl : k.toNat / 64 < l.length
    · have hp := List.getElem?_eq_getElem hl
      obtain ⟨b1, b2, b3⟩ := bitAt_some (n := k.toNat) hp
      rw [b1, b2]
      refine (of_in f s l k _ _ _ W h.inn h.good.fit h0 hk9 hq hr hp).mono ?_
      rintro e W' ⟨rfl, b⟩
      exact ⟨rfl, h.on b, b⟩
    · have hn : bitAt l k.toNat = false := by unfold bitAt; rw [List.getElem?_eq_none (by omega)]
      rw [hn]
      refine (of_bad f s l k W h.inn hk9 (.inr (by omega))).mono ?_
      rintro e W' ⟨rfl, rfl⟩
      exact ⟨rfl, h, Below.refl _ _⟩
  · rw [decide_eq_false h0, Bool.false_and]
    refine (of_bad f s l k W h.inn hk9 (.inl (by omega))).mono ?_
    rintro e W' ⟨rfl, rfl⟩
    exact ⟨rfl, h, Below.refl _ _⟩
end Go.Proofs.YtdkiegkgnimapabDoor.Slb

/- A slab of which one class alone takes: what its pages are; nothing here speaks of memory. -/
set_option linter.unusedVariables false
set_option linter.unusedSimpArgs false
namespace Go.Proofs.YtdkiegkgnimapabDoor.Slb
open Math

theorem ones_bit (k i : Nat) : (2 ^ k - 1).testBit i = decide (i < k) := Nat.testBit_two_pow_sub_one k i
theorem lz_ones (n k : Nat) (h : k ≤ n) : lz n (2 ^ k - 1) = k := by
  rcases Nat.lt_or_ge k n with h1 | h1
  · exact lz_unique h1 (by rw [ones_bit]; simp) (fun i hi => by rw [ones_bit]; simpa using hi)
  · obtain rfl : k = n := by omega
    rcases Nat.lt_or_ge (lz k (2 ^ k - 1)) k with h2 | h2
    · have := lz_bit h2
      rw [ones_bit] at this
      simp at this
      omega
    · have := lz_le k (2 ^ k - 1)
      omega
theorem lz_hole (n k j : Nat) (hj : j < k) (hk : k ≤ n) : lz n (2 ^ k - 1 - 2 ^ j) = j := by
  have hb : (2 ^ k - 1).testBit j = true := by rw [ones_bit]; simpa using hj
  exact lz_unique (by omega) (by rw [testBit_sub hb]; simp) (fun i hi => by rw [testBit_sub hb, ones_bit]; simp; omega)
/-- Page q when m chunks were taken, one after the other; z: a page that was not reached. -/
def pgm (z : Pg) (c m q : Nat) : Pg := if m ≤ q * many c then z else ⟨(c : Int), 2 ^ min (many c) (m - q * many c) - 1⟩
def St (z : Pg) (c n m : Nat) : List Pg := (List.range n).map (pgm z c m)
/-- What a page that was not reached may be. -/
def Zok (z : Pg) (c : Nat) : Prop := z.t = 0 ∧ z.c ≠ (c : Int) ∧ -1 ≤ z.c
theorem St_len (z : Pg) (c n m : Nat) : (St z c n m).length = n := by simp [St]
theorem St_get {z : Pg} {c n m q : Nat} (h : q < n) : (St z c n m)[q]? = some (pgm z c m q) := by simp [St, h]
theorem St_get' {z : Pg} {c n m q : Nat} (h : q < (St z c n m).length) : (St z c n m)[q] = pgm z c m q := by simp [St]
theorem pgm_full {z : Pg} {c m q : Nat} (h : (q + 1) * many c ≤ m) (hc : 0 < many c) : pgm z c m q = ⟨(c : Int), 2 ^ many c - 1⟩ := by
  rw [Nat.succ_mul] at h
  unfold pgm
  rw [if_neg (by omega), Nat.min_eq_left (by omega)]
theorem pgm_z {z : Pg} {c m q : Nat} (h : m ≤ q * many c) : pgm z c m q = z := by unfold pgm; rw [if_pos h]
theorem pgm_part {z : Pg} {c m q r : Nat} (h : m = q * many c + r) (h0 : 0 < r) (hr : r ≤ many c) : pgm z c m q = ⟨(c : Int), 2 ^ r - 1⟩ := by
  unfold pgm
  rw [if_neg (by omega), show m - q * many c = r by omega, Nat.min_eq_right hr]
theorem owns_ones {c k : Nat} (hk : k ≤ many c) : owns c ⟨(c : Int), 2 ^ k - 1⟩ = decide (k < many c) := by
  unfold owns
  rw [lz_ones 64 k (Nat.le_trans hk (many_le c))]
  simp
theorem owns_z {z : Pg} {c : Nat} (h : Zok z c) : owns c z = false := by unfold owns; rw [decide_eq_false h.2.1]; rfl
theorem free_ones {c k : Nat} (hk : 0 < k) : free ⟨(c : Int), 2 ^ k - 1⟩ = false := by
  unfold free
  have : 2 ^ 1 ≤ 2 ^ k := Nat.pow_le_pow_right (by decide) hk
  simp only [decide_eq_false_iff_not]
  omega
theorem bare_cls {c t : Nat} : bare ⟨(c : Int), t⟩ = false := by unfold bare; simp only [decide_eq_false_iff_not]; omega
theorem find_at {l : List Pg} {g : Pg → Bool} {a : Nat} (ha : a < l.length) (h : g l[a] = true) (hb : ∀ j (hj : j < l.length), j < a → g l[j] = false) : l.findIdx? g = some a := by
  rw [List.findIdx?_eq_some_iff_getElem]
  exact ⟨ha, h, fun j hj => by rw [hb j (by omega) hj]; simp⟩
theorem find_no {l : List Pg} {g : Pg → Bool} (h : ∀ j (hj : j < l.length), g l[j] = false) : l.findIdx? g = none := by
  rw [List.findIdx?_eq_none_iff]
  intro x hx
  obtain ⟨j, hj, rfl⟩ := List.getElem_of_mem hx
  exact h j hj
/-- The next page, and what it holds. -/
theorem St_pfor {z : Pg} {c n m : Nat} (hz : Zok z c) (hc : c < 6) (hm : m < n * many c) : pfor c (St z c n m) = some (m / many c) ∧ ∃ p, (St z c n m)[m / many c]? = some p ∧ p.t = 2 ^ (m % many c) - 1 := by
  have hM := many_pos c hc
  obtain ⟨a, ha⟩ : ∃ a, a = m / many c := ⟨_, rfl⟩
  obtain ⟨r, hr⟩ : ∃ r, r = m % many c := ⟨_, rfl⟩
  have e : m = a * many c + r := by rw [ha, hr]; exact (Nat.div_add_mod' m (many c)).symm
  have hrM : r < many c := by rw [hr]; exact Nat.mod_lt _ (by omega)
  have han : a < n := by
    apply Nat.lt_of_not_le
    intro h
    have := Nat.mul_le_mul_right (many c) h
    omega
  rw [← ha, ← hr]
  have hfull : ∀ j, j < a → pgm z c m j = ⟨(c : Int), 2 ^ many c - 1⟩ := fun j hj => pgm_full (by have := Nat.mul_le_mul_right (many c) (show j + 1 ≤ a by omega); omega) (by omega)
  have hz' : ∀ j, a < j → pgm z c m j = z := fun j hj => pgm_z (by have := Nat.mul_le_mul_right (many c) (show a + 1 ≤ j by omega); rw [Nat.succ_mul] at this; omega)
  have hal : a < (St z c n m).length := by rw [St_len]; exact han
  unfold pfor
  by_cases h0 : 0 < r
  · have hp : pgm z c m a = ⟨(c : Int), 2 ^ r - 1⟩ := pgm_part e h0 (by omega)
    refine ⟨?_, _, St_get han, by rw [hp]⟩
    rw [find_at (g := owns c) hal (by rw [St_get', hp, owns_ones (by omega)]; simpa using hrM) (fun j hj hja => by rw [St_get', hfull j hja, owns_ones (Nat.le_refl _)]; simp)]
    rfl
  · have hr0 : r = 0 := by omega
    have hp : pgm z c m a = z := pgm_z (by omega)
    refine ⟨?_, _, St_get han, by rw [hp, hr0, hz.1]⟩
    have hown : (St z c n m).findIdx? (owns c) = none := find_no (fun j hj => by
      rw [St_get']
      rcases Nat.lt_trichotomy j a with h1 | h1 | h1
      · rw [hfull j h1, owns_ones (Nat.le_refl _)]; simp
      · rw [h1, hp, owns_z hz]
      · rw [hz' j h1, owns_z hz])
    rw [hown, Option.none_or]
    by_cases hb : z.c = -1
    · rw [find_at (g := bare) hal (by rw [St_get', hp]; unfold bare; simpa using hb) (fun j hj hja => by rw [St_get', hfull j hja, bare_cls])]
      rfl
    · have hbn : bare z = false := by unfold bare; simpa using hb
      rw [find_no (g := bare) (fun j hj => by
        rw [St_get']
        rcases Nat.lt_trichotomy j a with h1 | h1 | h1
        · rw [hfull j h1, bare_cls]
        · rw [h1, hp, hbn]
        · rw [hz' j h1, hbn]), Option.none_or]
      exact find_at (g := free) hal (by rw [St_get', hp]; unfold free; simpa using hz.1) (fun j hj hja => by rw [St_get', hfull j hja, free_ones (by omega)])
/-- The number of the i-th chunk. -/
def num (c i : Nat) : Nat := 64 * (i / many c) + i % many c
theorem St_take {z : Pg} {c n m : Nat} (hz : Zok z c) (hc : c < 6) (hm : m < n * many c) : tkC c (St z c n m) = num c m ∧ tkE c (St z c n m) = 0 ∧ tkL c (St z c n m) = St z c n (m + 1) := by
  have hM := many_pos c hc
  have hM6 := many_le c
  obtain ⟨hp, p, hpa, hpt⟩ := St_pfor hz hc hm
  obtain ⟨e1, e2, e3⟩ := tk_some hp hpa
  have hrM : m % many c < many c := Nat.mod_lt _ (by omega)
  rw [e1, e2, e3]
  unfold tkn
  rw [hpt, lz_ones 64 _ (by omega)]
  refine ⟨rfl, rfl, ?_⟩
  have e := (Nat.div_add_mod' m (many c)).symm
  obtain ⟨a, ha⟩ : ∃ a, a = m / many c := ⟨_, rfl⟩
  obtain ⟨r, hr⟩ : ∃ r, r = m % many c := ⟨_, rfl⟩
  rw [← ha, ← hr] at e
  rw [← hr] at hrM
  rw [← ha, ← hr]
  have han : a < n := by have := (List.getElem?_eq_some_iff.1 hpa).1; rw [St_len, ← ha] at this; exact this
  apply List.ext_getElem?
  intro q
  by_cases hq : q < n
  · rw [St_get hq]
    by_cases hqa : q = a
    · subst hqa
      rw [List.getElem?_set_self (by rw [St_len]; exact hq), pgm_part (r := r + 1) (by omega) (by omega) (by omega)]
      have h2 : 0 < 2 ^ r := Nat.two_pow_pos r
      congr 2
      rw [Nat.pow_succ]; omega
    · rw [List.getElem?_set_ne (fun h => hqa h.symm), St_get hq]
      rcases Nat.lt_or_ge q a with h1 | h1
      · have := Nat.mul_le_mul_right (many c) (show q + 1 ≤ a by omega)
        rw [pgm_full (by omega) (by omega), pgm_full (by omega) (by omega)]
      · have := Nat.mul_le_mul_right (many c) (show a + 1 ≤ q by omega)
        rw [Nat.succ_mul] at this
        rw [pgm_z (by omega), pgm_z (by omega)]
  · rw [List.getElem?_eq_none (by rw [List.length_set, St_len]; omega), List.getElem?_eq_none (by rw [St_len]; omega)]
theorem St_end {z : Pg} {c n : Nat} (hc : c < 6) {q : Nat} (hq : q < n) : pgm z c (n * many c) q = ⟨(c : Int), 2 ^ many c - 1⟩ :=
  pgm_full (Nat.mul_le_mul_right (many c) (by omega)) (by have := many_pos c hc; omega)
/-- All is taken: none is left for any class. -/
theorem St_full {z : Pg} {c n : Nat} (hc : c < 6) {b : Nat} (hb : b < 6) : tkC b (St z c n (n * many c)) = 0 ∧ tkE b (St z c n (n * many c)) = 7 ∧ tkL b (St z c n (n * many c)) = St z c n (n * many c) := by
  have hM := many_pos c hc
  apply tk_none
  have hp : ∀ j (hj : j < (St z c n (n * many c)).length), (St z c n (n * many c))[j] = ⟨(c : Int), 2 ^ many c - 1⟩ := fun j hj => by
    rw [St_get', St_end hc (by rw [St_len] at hj; exact hj)]
  unfold pfor
  rw [find_no (g := owns b) (fun j hj => by
    rw [hp]
    by_cases h : c = b
    · subst h; rw [owns_ones (Nat.le_refl _)]; simp
    · unfold owns; rw [decide_eq_false (show ¬ ((c : Int) = (b : Int)) by omega)]; rfl), Option.none_or,
    find_no (g := bare) (fun j hj => by rw [hp, bare_cls]), Option.none_or, find_no (g := free) (fun j hj => by rw [hp, free_ones (by omega)])]
theorem St_zero (z : Pg) (c n : Nat) : St z c n 0 = List.replicate n z := by
  apply List.ext_getElem?
  intro q
  by_cases hq : q < n
  · rw [St_get hq, pgm_z (Nat.zero_le _), List.getElem?_replicate, if_pos hq]
  · rw [List.getElem?_eq_none (by rw [St_len]; omega), List.getElem?_eq_none (by simp; omega)]
theorem blank_ok (c : Nat) : Zok blank c := ⟨rfl, by show (-1 : Int) ≠ _; omega, by show (-1 : Int) ≤ -1; omega⟩
theorem num_div {c i : Nat} (hc : c < 6) : num c i / 64 = i / many c ∧ num c i % 64 = i % many c := by
  have := many_le c
  have hM := many_pos c hc
  have : i % many c < many c := Nat.mod_lt _ (by omega)
  unfold num
  omega
/-- A chunk that was taken is given back; it is the next. -/
theorem St_hole {z : Pg} {c n m i : Nat} (hz : Zok z c) (hc : c < 6) (hm : m ≤ n * many c) (hi : i < m) :
    takI (St z c n m) (num c i : Int) = true ∧ takI (clr (St z c n m) (num c i)) (num c i : Int) = false ∧ tkC c (clr (St z c n m) (num c i)) = num c i ∧ tkE c (clr (St z c n m) (num c i)) = 0 := by
  have hM := many_pos c hc
  have hM6 := many_le c
  obtain ⟨d1, d2⟩ := num_div (i := i) hc
  obtain ⟨a, ha⟩ : ∃ a, a = i / many c := ⟨_, rfl⟩
  obtain ⟨r, hr⟩ : ∃ r, r = i % many c := ⟨_, rfl⟩
  have e : i = a * many c + r := by rw [ha, hr]; exact (Nat.div_add_mod' i (many c)).symm
  have hrM : r < many c := by rw [hr]; exact Nat.mod_lt _ (by omega)
  have hnum : num c i = 64 * a + r := by unfold num; rw [← ha, ← hr]
  rw [← ha] at d1
  rw [← hr] at d2
  have han : a < n := by
    apply Nat.lt_of_not_le
    intro h
    have := Nat.mul_le_mul_right (many c) h
    omega
  obtain ⟨k, hk, hp⟩ : ∃ k, r < k ∧ k ≤ many c ∧ pgm z c m a = ⟨(c : Int), 2 ^ k - 1⟩ := by
    refine ⟨min (many c) (m - a * many c), by omega, Nat.min_le_left _ _, ?_⟩
    unfold pgm
    rw [if_neg (by omega)]
  have hpa : (St z c n m)[num c i / 64]? = some ⟨(c : Int), 2 ^ k - 1⟩ := by rw [d1, St_get han, hp.2]
  obtain ⟨b1, b2, b3⟩ := bitAt_some hpa
  have hb : (2 ^ k - 1).testBit r = true := by rw [ones_bit]; simpa using hk
  have hlen : a < (St z c n m).length := by rw [St_len]; exact han
  have hget : (clr (St z c n m) (num c i))[a]? = some ⟨(c : Int), 2 ^ k - 1 - 2 ^ r⟩ := by rw [b3, d1, d2, List.getElem?_set_self hlen]
  have hlen2 : a < (clr (St z c n m) (num c i)).length := by rw [clr_len]; exact hlen
  have hown : (clr (St z c n m) (num c i)).findIdx? (owns c) = some a := by
    refine find_at hlen2 ?_ ?_
    · rw [(List.getElem?_eq_some_iff.1 hget).2]
      unfold owns
      rw [lz_hole 64 k r hk (by omega)]
      simpa using hrM
    · intro j hj hja
      have h1 : (clr (St z c n m) (num c i))[j]? = some (pgm z c m j) := by rw [b3, d1, List.getElem?_set_ne (by omega), St_get (by omega)]
      rw [(List.getElem?_eq_some_iff.1 h1).2, pgm_full (by have := Nat.mul_le_mul_right (many c) (show j + 1 ≤ a by omega); omega) (by omega), owns_ones (Nat.le_refl _)]
      simp
  have hpf : pfor c (clr (St z c n m) (num c i)) = some a := by unfold pfor; rw [hown]; rfl
  obtain ⟨t1, t2, _⟩ := tk_some hpf hget
  refine ⟨?_, ?_, ?_, t2⟩
  · unfold takI
    rw [Int.toNat_natCast, b1, d2, hb]
    simp
  · unfold takI
    have := (bitAt_some (n := num c i) (l := clr (St z c n m) (num c i)) (by rw [d1]; exact hget)).1
    rw [Int.toNat_natCast, this, d2, testBit_sub hb]
    simp
  · rw [t1, lz_hole 64 k r hk (by omega), hnum]

/-! ### All is given back, one by one -/
/-- Page q when the first i chunks were given back. -/
def Fs (c n i : Nat) : List Pg := (List.range n).map fun q => ⟨(c : Int), 2 ^ many c - 2 ^ min (many c) (i - q * many c)⟩
theorem Fs_get {c n i q : Nat} (h : q < n) : (Fs c n i)[q]? = some ⟨(c : Int), 2 ^ many c - 2 ^ min (many c) (i - q * many c)⟩ := by simp [Fs, h]
theorem Fs_len (c n i : Nat) : (Fs c n i).length = n := by simp [Fs]
theorem Fs_start {z : Pg} {c n : Nat} (hc : c < 6) : St z c n (n * many c) = Fs c n 0 := by
  apply List.ext_getElem?
  intro q
  by_cases hq : q < n
  · rw [St_get hq, St_end hc hq, Fs_get hq, Nat.zero_sub, Nat.min_zero]
  · rw [List.getElem?_eq_none (by rw [St_len]; omega), List.getElem?_eq_none (by rw [Fs_len]; omega)]
theorem Fs_end (c n : Nat) : Fs c n (n * many c) = List.replicate n ⟨(c : Int), 0⟩ := by
  apply List.ext_getElem?
  intro q
  by_cases hq : q < n
  · have := Nat.mul_le_mul_right (many c) (show q + 1 ≤ n by omega)
    rw [Nat.succ_mul] at this
    rw [Fs_get hq, List.getElem?_replicate, if_pos hq, Nat.min_eq_left (by omega), Nat.sub_self]
  · rw [List.getElem?_eq_none (by rw [Fs_len]; omega), List.getElem?_eq_none (by simp; omega)]
theorem top_bit {M r : Nat} (h : r < M) : (2 ^ M - 2 ^ r).testBit r = true := by
  have e : 2 ^ M - 2 ^ r = 2 ^ r * (2 ^ (M - r) - 1) := by rw [Nat.mul_sub, ← Nat.pow_add, show r + (M - r) = M by omega, Nat.mul_one]
  rw [e, Nat.testBit_two_pow_mul, ones_bit]
  simp
  omega
theorem Fs_step {c n i : Nat} (hc : c < 6) (hi : i < n * many c) : takI (Fs c n i) (num c i : Int) = true ∧ clr (Fs c n i) (num c i) = Fs c n (i + 1) := by
  have hM := many_pos c hc
  have hM6 := many_le c
  obtain ⟨d1, d2⟩ := num_div (i := i) hc
  obtain ⟨a, ha⟩ : ∃ a, a = i / many c := ⟨_, rfl⟩
  obtain ⟨r, hr⟩ : ∃ r, r = i % many c := ⟨_, rfl⟩
  have e : i = a * many c + r := by rw [ha, hr]; exact (Nat.div_add_mod' i (many c)).symm
  have hrM : r < many c := by rw [hr]; exact Nat.mod_lt _ (by omega)
  rw [← ha] at d1
  rw [← hr] at d2
  have han : a < n := by
    apply Nat.lt_of_not_le
    intro h
    have := Nat.mul_le_mul_right (many c) h
    omega
  have hpa : (Fs c n i)[num c i / 64]? = some ⟨(c : Int), 2 ^ many c - 2 ^ r⟩ := by rw [d1, Fs_get han, show i - a * many c = r by omega, Nat.min_eq_right (by omega)]
  obtain ⟨b1, b2, b3⟩ := bitAt_some hpa
  refine ⟨by unfold takI; rw [Int.toNat_natCast, b1, d2, top_bit hrM]; simp, ?_⟩
  rw [b3, d1, d2]
  apply List.ext_getElem?
  intro q
  by_cases hq : q < n
  · rw [Fs_get hq]
    by_cases hqa : q = a
    · subst hqa
      rw [List.getElem?_set_self (by rw [Fs_len]; exact hq), show i + 1 - q * many c = r + 1 by omega, Nat.min_eq_right (by omega)]
      show some (Pg.mk (c : Int) (2 ^ many c - 2 ^ r - 2 ^ r)) = some (Pg.mk (c : Int) (2 ^ many c - 2 ^ (r + 1)))
      rw [Nat.pow_succ, show 2 ^ many c - 2 ^ r - 2 ^ r = 2 ^ many c - 2 ^ r * 2 by omega]
    · rw [List.getElem?_set_ne (fun h => hqa h.symm), Fs_get hq]
      congr 3
      rcases Nat.lt_or_ge q a with h1 | h1
      · have := Nat.mul_le_mul_right (many c) (show q + 1 ≤ a by omega)
        rw [Nat.succ_mul] at this
        congr 1
        omega
      · have := Nat.mul_le_mul_right (many c) (show a + 1 ≤ q by omega)
        rw [Nat.succ_mul] at this
        congr 1
        omega
  · rw [List.getElem?_eq_none (by rw [List.length_set, Fs_len]; omega), List.getElem?_eq_none (by rw [Fs_len]; omega)]
theorem ownd_St {z : Pg} {c n : Nat} (hc : c < 6) : ownd c (St z c n (n * many c)) = n ∧ ∀ b : Int, b ≠ c → ownd b (St z c n (n * many c)) = 0 := by
  have e : St z c n (n * many c) = List.replicate n ⟨(c : Int), 2 ^ many c - 1⟩ := by
    apply List.ext_getElem?
    intro q
    by_cases hq : q < n
    · rw [St_get hq, St_end hc hq, List.getElem?_replicate, if_pos hq]
    · rw [List.getElem?_eq_none (by rw [St_len]; omega), List.getElem?_eq_none (by simp; omega)]
  rw [e]
  clear e
  refine ⟨?_, fun b hb => ?_⟩
  · induction n with
    | zero => rfl
    | succ n ih => rw [List.replicate_succ]; simp only [ownd, ih]; simp; omega
  · induction n with
    | zero => rfl
    | succ n ih => rw [List.replicate_succ]; simp only [ownd, ih]; rw [if_neg (fun h => hb h.symm)]
end Go.Proofs.YtdkiegkgnimapabDoor.Slb

/- How many chunks are taken in all; which they are behind Take and Free; nothing here speaks of memory. -/
set_option linter.unusedVariables false
set_option linter.unusedSimpArgs false
namespace Go.Proofs.YtdkiegkgnimapabDoor.Slb
open Math

def tot : List Pg → Nat
  | [] => 0
  | p :: l => pop 64 p.t + tot l
theorem tot_set {l : List Pg} {a : Nat} {p : Pg} (h : l[a]? = some p) (p' : Pg) : tot (l.set a p') + pop 64 p.t = tot l + pop 64 p'.t := by
  induction l generalizing a with
  | nil => simp at h
  | cons q l ih =>
    cases a with
    | zero => simp at h; subst h; simp only [List.set_cons_zero, tot]; omega
    | succ a =>
      have := ih (a := a) (by simpa using h)
      simp only [List.set_cons_succ, tot]
      omega
theorem tot_rep (n : Nat) : tot (List.replicate n blank) = 0 := by
  induction n with
  | zero => rfl
  | succ n ih => rw [List.replicate_succ]; simp only [tot, ih]; rfl
theorem tot_all {l : List Pg} (hf : Fit l) (h : ∀ p ∈ l, p.t ≠ 0) : l.length ≤ tot l := by
  induction l with
  | nil => exact Nat.le_refl _
  | cons p l ih =>
    have h1 := ih (fun q hq => hf q (List.mem_cons_of_mem _ hq)) (fun q hq => h q (List.mem_cons_of_mem _ hq))
    have h2 := pop_pos (n := 64) (hf p (by simp)) (h p (by simp))
    simp only [tot, List.length_cons]
    omega
theorem full_tot {cl : Nat} {l : List Pg} (hf : Fit l) (h : pfor cl l = none) : l.length ≤ tot l := by
  refine tot_all hf (fun p hp h0 => ?_)
  unfold pfor at h
  have h3 : l.findIdx? free = none := by
    cases h1 : l.findIdx? (owns cl) with
    | some i => rw [h1] at h; simp at h
    | none =>
      rw [h1, Option.none_or] at h
      cases h2 : l.findIdx? bare with
      | some i => rw [h2] at h; simp at h
      | none => rw [h2, Option.none_or] at h; exact h
  rw [List.findIdx?_eq_none_iff] at h3
  have := h3 p hp
  unfold free at this
  simp [h0] at this
/-- The pages with one bit of page a set or cleared. -/
theorem bitAt_set {l : List Pg} {a : Nat} {p : Pg} (h : l[a]? = some p) (p' : Pg) (n : Nat) : bitAt (l.set a p') n = if n / 64 = a then p'.t.testBit (n % 64) else bitAt l n := by
  have ha := (List.getElem?_eq_some_iff.1 h).1
  unfold bitAt
  by_cases hn : n / 64 = a
  · rw [if_pos hn, hn, List.getElem?_set_self ha]
  · rw [if_neg hn, List.getElem?_set_ne (fun e => hn e.symm)]
theorem take_bits {cl : Nat} (hcl : cl < 6) {l : List Pg} (hg : Good l) (h : tkE cl l = 0) :
    bitAt l (tkC cl l) = false ∧ (∀ n, bitAt (tkL cl l) n = (bitAt l n || decide (n = tkC cl l))) ∧ tot (tkL cl l) = tot l + 1 ∧ tkC cl l < 64 * l.length := by
  cases hp : pfor cl l with
  | none => rw [(tk_none hp).2.1] at h; omega
  | some a =>
    obtain ⟨p, hpa, h64, _, _, _, _⟩ := pfor_ok hcl hg hp
    obtain ⟨e1, _, e3⟩ := tk_some hp hpa
    have hb := lz_bit h64
    have ha := (List.getElem?_eq_some_iff.1 hpa).1
    obtain ⟨j, hj⟩ : ∃ j, j = lz 64 p.t := ⟨_, rfl⟩
    rw [← hj] at h64 hb e1
    unfold tkn at e3
    rw [← hj] at e3
    have d1 : (64 * a + j) / 64 = a := by omega
    have d2 : (64 * a + j) % 64 = j := by omega
    refine ⟨?_, fun n => ?_, ?_, by rw [e1]; omega⟩
    · rw [e1]
      unfold bitAt
      rw [d1, hpa, d2]
      exact hb
    · rw [e1, e3, bitAt_set hpa]
      by_cases hn : n / 64 = a
      · rw [if_pos hn]
        show (p.t + 2 ^ j).testBit (n % 64) = _
        rw [testBit_add hb]
        unfold bitAt
        rw [hn, hpa]
        have : decide (j = n % 64) = decide (n = 64 * a + j) := by rw [decide_eq_decide]; omega
        rw [this]
      · rw [if_neg hn, decide_eq_false (by omega), Bool.or_false]
    · have := tot_set hpa ⟨(cl : Int), p.t + 2 ^ j⟩
      rw [← e3] at this
      have h2 : pop 64 (p.t + 2 ^ j) = pop 64 p.t + 1 := pop_set h64 hb
      simp only [h2] at this
      omega
theorem clr_bits {l : List Pg} {k : Nat} (h : bitAt l k = true) : (∀ n, bitAt (clr l k) n = (bitAt l n && decide (n ≠ k))) ∧ tot (clr l k) + 1 = tot l := by
  cases hp : l[k / 64]? with
  | none => unfold bitAt at h; rw [hp] at h; cases h
  | some p =>
    obtain ⟨b1, _, b3⟩ := bitAt_some hp
    rw [b1] at h
    refine ⟨fun n => ?_, ?_⟩
    · rw [b3, bitAt_set hp]
      by_cases hn : n / 64 = k / 64
      · rw [if_pos hn]
        show (p.t - 2 ^ (k % 64)).testBit (n % 64) = _
        rw [testBit_sub h]
        unfold bitAt
        rw [hn, hp]
        have : decide (k % 64 ≠ n % 64) = decide (n ≠ k) := by rw [decide_eq_decide]; omega
        rw [this]
      · rw [if_neg hn, decide_eq_true (show n ≠ k by omega), Bool.and_true]
    · have := tot_set hp ⟨p.c, p.t - 2 ^ (k % 64)⟩
      rw [← b3] at this
      have h2 : pop 64 (p.t - 2 ^ (k % 64)) + 1 = pop 64 p.t := pop_clear (Nat.mod_lt _ (by decide)) h
      have h3 : pop 64 (Pg.mk p.c (p.t - 2 ^ (k % 64))).t = pop 64 (p.t - 2 ^ (k % 64)) := rfl
      rw [h3] at this
      omega
/-- The chunks of the first k classes. -/
def sumU (l : List Pg) : Nat → Nat
  | 0 => 0
  | k + 1 => sumU l k + usd (k : Int) l
theorem sumU_le (l : List Pg) : ∀ k, sumU l k ≤ 64 * l.length * k
  | 0 => Nat.zero_le _
  | k + 1 => by
    have := sumU_le l k
    have h2 := usd_le (k : Int) l
    show sumU l k + _ ≤ _
    rw [Nat.mul_succ]
    omega
theorem sumU_six {l : List Pg} (hg : Good l) : sumU l 6 = tot l := by
  induction l with
  | nil => rfl
  | cons p l ih =>
    have h := ih (fun q hq => hg q (List.mem_cons_of_mem _ hq))
    have hp := hg p (by simp)
    simp only [sumU, usd, tot] at h ⊢
    rcases hp with ⟨hc, ht⟩ | ⟨c, hc6, hc, _⟩
    · rw [hc, ht, pop_zero]
      simp
      simp at h
      omega
    · rw [hc]
      generalize pop 64 p.t = y
      rcases (show c = 0 ∨ c = 1 ∨ c = 2 ∨ c = 3 ∨ c = 4 ∨ c = 5 by omega) with rfl | rfl | rfl | rfl | rfl | rfl <;> (simp; simp at h; omega)
/-- The numbers in a law's row are the chunks that are taken, each once. -/
structure Inv (l : List Pg) (xs : List Int) : Prop where
  nd : xs.Nodup
  tk : ∀ x ∈ xs, takI l x = true
  len : xs.length = tot l
theorem Inv.start (n : Nat) : Inv (List.replicate n blank) [] := ⟨List.nodup_nil, fun x hx => by simp at hx, (tot_rep n).symm⟩
theorem takI_nat (l : List Pg) (n : Nat) : takI l (n : Int) = bitAt l n := by unfold takI; simp
theorem takI_pos {l : List Pg} {x : Int} (h : takI l x = true) : ∃ n : Nat, x = (n : Int) ∧ bitAt l n = true := by
  unfold takI at h
  simp only [Bool.and_eq_true, decide_eq_true_eq] at h
  exact ⟨x.toNat, by omega, h.2⟩
theorem Inv.notin {l : List Pg} {xs : List Int} (h : Inv l xs) {cl : Nat} (hcl : cl < 6) (hg : Good l) (he : tkE cl l = 0) : (tkC cl l : Int) ∉ xs := fun hm => by
  have := h.tk _ hm
  rw [takI_nat, (take_bits hcl hg he).1] at this
  cases this
theorem Inv.take {l : List Pg} {xs : List Int} (h : Inv l xs) {cl : Nat} (hcl : cl < 6) (hg : Good l) (he : tkE cl l = 0) : Inv (tkL cl l) (xs ++ [(tkC cl l : Int)]) := by
  obtain ⟨_, b2, b3, _⟩ := take_bits hcl hg he
  refine ⟨?_, fun x hx => ?_, by rw [List.length_append, h.len, b3]; rfl⟩
  · rw [List.nodup_append]
    refine ⟨h.nd, by simp, fun a ha b hb => ?_⟩
    simp at hb
    subst hb
    intro e
    subst e
    exact h.notin hcl hg he ha
  · rcases List.mem_append.1 hx with h1 | h1
    · obtain ⟨n, rfl, hn⟩ := takI_pos (h.tk x h1)
      rw [takI_nat, b2, hn, Bool.true_or]
    · simp at h1
      subst h1
      rw [takI_nat, b2]
      simp
theorem Inv.free {l : List Pg} {xs : List Int} (h : Inv l xs) {k : Nat} {x : Int} (hx : xs[k]? = some x) : takI l x = true ∧ Inv (clr l x.toNat) (xs.take k ++ xs.drop (k + 1)) := by
  have hk := (List.getElem?_eq_some_iff.1 hx).1
  have htk := h.tk x (List.mem_of_getElem? hx)
  obtain ⟨n, rfl, hn⟩ := takI_pos htk
  obtain ⟨b2, b3⟩ := clr_bits hn
  have hsplit : xs = xs.take k ++ (n : Int) :: xs.drop (k + 1) := by
    have : (n : Int) :: xs.drop (k + 1) = xs.drop k := by rw [List.drop_eq_getElem_cons hk, (List.getElem?_eq_some_iff.1 hx).2]
    rw [this, List.take_append_drop]
  have hnd := h.nd
  rw [hsplit, List.nodup_append, List.nodup_cons] at hnd
  obtain ⟨n1, ⟨n2, n3⟩, n4⟩ := hnd
  refine ⟨htk, ⟨?_, fun y hy => ?_, ?_⟩⟩
  · rw [List.nodup_append]
    exact ⟨n1, n3, fun a ha b hb => n4 a ha b (List.mem_cons_of_mem _ hb)⟩
  · have hy1 : y ∈ xs := by
      rw [hsplit]
      rcases List.mem_append.1 hy with h1 | h1
      · exact List.mem_append.2 (.inl h1)
      · exact List.mem_append.2 (.inr (List.mem_cons_of_mem _ h1))
    have hne : y ≠ (n : Int) := by
      rcases List.mem_append.1 hy with h1 | h1
      · exact n4 y h1 _ (by simp)
      · exact fun e => n2 (e ▸ h1)
    obtain ⟨m, rfl, hm⟩ := takI_pos (h.tk y hy1)
    rw [Int.toNat_natCast, takI_nat, b2, hm, decide_eq_true (show m ≠ n by omega)]
    rfl
  · rw [Int.toNat_natCast, List.length_append, List.length_take, List.length_drop]
    have := h.len
    omega
theorem and_low (a : Int) (m : Nat) (hm : m < 9223372036854775808) : ∃ q : Nat, bits BinOp.and IntKind.i64 a (m : Int) = (q : Int) ∧ q ≤ m := by
  have h1 : (BitVec.ofInt 64 (m : Int)).toNat = m := by rw [BitVec.ofInt_natCast, BitVec.toNat_ofNat]; exact Nat.mod_eq_of_lt (by omega)
  have h2 : ((BitVec.ofInt 64 a) &&& (BitVec.ofInt 64 (m : Int))).toNat ≤ m := by
    rw [BitVec.toNat_and, h1]
    exact Nat.and_le_right
  refine ⟨((BitVec.ofInt 64 a) &&& (BitVec.ofInt 64 (m : Int))).toNat, ?_, h2⟩
  show IntKind.i64.wrap (((BitVec.ofInt 64 a) &&& (BitVec.ofInt 64 (m : Int))).toNat : Int) = _
  generalize ((BitVec.ofInt 64 a) &&& (BitVec.ofInt 64 (m : Int))).toNat = q at *
  simp [IntKind.wrap, IntKind.bits, IntKind.signed]
  omega
end Go.Proofs.YtdkiegkgnimapabDoor.Slb

