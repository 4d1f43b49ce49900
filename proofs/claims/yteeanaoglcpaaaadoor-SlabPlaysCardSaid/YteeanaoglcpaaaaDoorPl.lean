/- The program's slab and the document's, side by side. -/
import Derived.Test.YteeanaoglcpaaaaDoorRf5
import Derived.Test.YteeanaoglcpaaaaDoorActs
set_option linter.unusedVariables false
set_option linter.unusedSimpArgs false
set_option maxRecDepth 8000
namespace Go.Proofs.YteeanaoglcpaaaaDoor
open Go.RowKit Go.Deep Go.Shelf Math

/-- Both slabs, and the law's own row of numbers. -/
structure PL (w : World) (f s B r a b ca cb : Nat) (l l2 : List Pg) (v : Value) (xs : List Int) (W : World) : Prop where
  sl : Sl w f s l W
  rf : ∃ lr, RfIn W B r a b ca cb lr ∧ pgs lr = l2
  nr : NR w v xs W
  na : a ∉ own v
  lo : w.heap.size ≤ B
/-- Boxes of calls stay as they are. -/
def KB (W W' : World) : Prop := ∀ bx L, Blk W bx L 37 → Blk W' bx L 37
theorem KB.below {W W' : World} (b : Below W.heap.size W W') : KB W W' := fun bx L h => h.same (b.block bx h.lt)
section
variable {w W W' : World} {f s B r a b ca cb : Nat} {l l2 : List Pg} {v : Value} {xs : List Int}
theorem PL.below (h : PL w f s B r a b ca cb l l2 v xs W) (k : Below W.heap.size W W') : PL w f s B r a b ca cb l l2 v xs W' :=
  ⟨h.sl.on k, by obtain ⟨lr, h1, h2⟩ := h.rf; exact ⟨lr, h1.below k, h2⟩, h.nr.below k, h.na, h.lo⟩
theorem PL.alloc (h : PL w f s B r a b ca cb l l2 v xs W) (o : Obj) : PL w f s B r a b ca cb l l2 v xs (W.alloc o) := h.below ((Below.refl _ _).alloc (Nat.le_refl _) _)
theorem PL.slab {l' : List Pg} (h : PL w f s B r a b ca cb l l2 v xs W) (S : Sl w f s l' W') (k : Keep [s] W W') : PL w f s B r a b ca cb l' l2 v xs W' ∧ KB W W' :=
  ⟨⟨S, by obtain ⟨lr, h1, h2⟩ := h.rf; exact ⟨lr, h1.slab h.sl.inn k, h2⟩, h.nr.keep h.sl.inn k, h.na, h.lo⟩, fun bx L hb => hb.same (k.block bx hb.lt (by simpa using hb.ty_ne (q := s) h.sl.inn.row (by decide)))⟩
theorem PL.ref {F : List Nat} {lr lr' : List Rp} (h : PL w f s B r a b ca cb l l2 v xs W) (h1 : RfIn W B r a b ca cb lr) (h2 : RfIn W' B r a b ca cb lr') (k : Keep F W W') (hF : ∀ q ∈ F, B ≤ q ∧ (q = a ∨ q = b ∨ ∃ L, Blk W q L 4)) : PL w f s B r a b ca cb l (pgs lr') v xs W' ∧ KB W W' := by
  obtain ⟨_, qa⟩ := h1.of
  obtain ⟨_, qb⟩ := h1.tk
  have off : ∀ q L t, Blk W q L t → t ≠ 3 → t ≠ 53 → t ≠ 4 → q ∉ F := fun q L t hq n1 n2 n3 hm => by
    rcases (hF q hm).2 with rfl | rfl | ⟨L', h4⟩
    · exact hq.ty_ne qa n1 rfl
    · exact hq.ty_ne qb n2 rfl
    · exact hq.ty_ne h4 n3 rfl
  have hB : ∀ q ∈ F, w.heap.size ≤ q := fun q hq => Nat.le_trans h.lo (hF q hq).1
  refine ⟨⟨⟨h.sl.inn.same (k.block f h.sl.inn.own.lt (off f _ _ h.sl.inn.own (by decide) (by decide) (by decide))) (k.block s h.sl.inn.row.lt (off s _ _ h.sl.inn.row (by decide) (by decide) (by decide))), h.sl.bel.trans (k.below hB h.sl.bel.size), h.sl.lf, h.sl.ls, h.sl.good, h.sl.tab⟩, ⟨lr', h2, rfl⟩, ?_, h.na, h.lo⟩, fun bx L hb => hb.same (k.block bx hb.lt (off bx _ _ hb (by decide) (by decide) (by decide)))⟩
  refine ⟨own_same h.nr.row (fun q hq => ?_)⟩
  obtain ⟨_, c, hc⟩ := own_ty h.nr.row hq
  refine k.block q (Array.getElem?_eq_some_iff.1 hc).1 (fun hm => ?_)
  rcases (hF q hm).2 with rfl | rfl | ⟨L', h4⟩
  · exact h.na (mem_own.2 hq)
  · unfold Blk at qb
    rw [qb] at hc
    simp at hc
  · unfold Blk at h4
    rw [h4] at hc
    simp at hc
theorem PL.takeS (h : PL w f s B r a b ca cb l l2 v xs W) (cl : Nat) (hcl : cl < 6) :
    Calls Tryd.prog 11 #[.pointer (some ⟨f, 0, none⟩), .int .i64 (cl : Int)] W fun e W' => e = .returned (.tuple #[.int .i64 (tkC cl l : Int), .int .i64 (tkE cl l)]) ∧ PL w f s B r a b ca cb (tkL cl l) l2 v xs W' ∧ KB W W' := by
  refine (take_l h.sl cl hcl).mono ?_
  rintro e W' ⟨rfl, hS, k⟩
  exact ⟨rfl, h.slab hS k⟩
theorem PL.freeS (h : PL w f s B r a b ca cb l l2 v xs W) (k : Int) (hk9 : k ≤ 9223372036854775807) :
    Calls Tryd.prog 12 #[.pointer (some ⟨f, 0, none⟩), .int .i64 k] W fun e W' => e = .returned (.int .i64 (frE l k)) ∧ PL w f s B r a b ca cb (frL l k) l2 v xs W' ∧ KB W W' := by
  refine (free_l h.sl k hk9).mono ?_
  rintro e W' ⟨rfl, hS, k⟩
  exact ⟨rfl, h.slab hS k⟩
theorem PL.ofS (h : PL w f s B r a b ca cb l l2 v xs W) (k : Int) (hk9 : k ≤ 9223372036854775807) :
    Calls Tryd.prog 15 #[.pointer (some ⟨f, 0, none⟩), .int .i64 k] W fun e W' => e = .returned (.int .i64 (ofI l k)) ∧ PL w f s B r a b ca cb l l2 v xs W' ∧ Below W.heap.size W W' := by
  refine (of_l h.sl k hk9).mono ?_
  rintro e W' ⟨rfl, hS, k⟩
  exact ⟨rfl, h.below k, k⟩
theorem PL.takeF (h : PL w f s B r a b ca cb l l2 v xs W) (cl : Nat) (hcl : cl < 6) :
    Calls Tryd.prog 18 #[.pointer (some ⟨r, 0, none⟩), .int .i64 (cl : Int)] W fun e W' => e = .returned (.int .i64 (tkR cl l2)) ∧ PL w f s B r a b ca cb l (tkL cl l2) v xs W' ∧ KB W W' := by
  obtain ⟨lr, h1, rfl⟩ := h.rf
  refine (takeR B r a b ca cb lr cl hcl W h1).mono ?_
  rintro e W' ⟨rfl, lr', F, h2, h3, k, hF⟩
  rw [← h3]
  exact ⟨rfl, h.ref h1 h2 k hF⟩
theorem PL.freeF (h : PL w f s B r a b ca cb l l2 v xs W) (k : Int) (hk8 : -9223372036854775808 ≤ k) (hk9 : k ≤ 9223372036854775807) :
    Calls Tryd.prog 19 #[.pointer (some ⟨r, 0, none⟩), .int .i64 k] W fun e W' => e = .returned (.bool (takI l2 k)) ∧ PL w f s B r a b ca cb l (frL l2 k) v xs W' ∧ KB W W' := by
  obtain ⟨lr, h1, rfl⟩ := h.rf
  unfold frL
  by_cases hk : takI (pgs lr) k = true
  · rw [hk, if_pos rfl]
    refine (freeR_yes B r a b ca cb lr k W h1 hk8 hk9 hk).mono ?_
    rintro e W' ⟨rfl, lr', g, h2, h3, kp, hg, h4⟩
    rw [← h3]
    exact ⟨rfl, h.ref h1 h2 kp (fun q hq => by simp at hq; subst hq; exact ⟨hg, .inr (.inr h4)⟩)⟩
  · have hk' := Bool.eq_false_iff.2 hk
    rw [hk', if_neg (by simp)]
    refine (freeR_no B r a b ca cb lr k W h1 hk8 hk9 hk').mono ?_
    rintro e W' ⟨rfl, rfl⟩
    exact ⟨rfl, h, fun _ _ hb => hb⟩
theorem PL.usedF (h : PL w f s B r a b ca cb l l2 v xs W) {p : Nat} {x : Pg} (hx : l2[p]? = some x) :
    Calls Tryd.prog 20 #[.pointer (some ⟨r, 0, none⟩), .int .i64 (p : Int)] W fun e W' => e = .returned (.int .i64 (pop 64 x.t : Int)) ∧ W' = W := by
  obtain ⟨lr, h1, rfl⟩ := h.rf
  have hpl := (List.getElem?_eq_some_iff.1 hx).1
  rw [pgs_len] at hpl
  have hy := List.getElem?_eq_getElem hpl
  have := pgs_get hy
  rw [hx] at this
  obtain rfl := Option.some.inj this
  exact usedR B r a b ca cb lr p _ W h1 hy
theorem PL.cells (h : PL w f s B r a b ca cb l l2 v xs W) : W.cell? ⟨r, 0, none⟩ = some (.slice (some ⟨a, 0, none⟩) l2.length ca) ∧ l2.length ≤ ca ∧ ∀ p x, l2[p]? = some x → W.cell? ⟨a, p, none⟩ = some (.int .i64 x.c) := by
  obtain ⟨lr, h1, rfl⟩ := h.rf
  rw [pgs_len]
  refine ⟨h1.c0, h1.hca, fun p x hx => ?_⟩
  have hpl := (List.getElem?_eq_some_iff.1 hx).1
  rw [pgs_len] at hpl
  have hy := List.getElem?_eq_getElem hpl
  have := pgs_get hy
  rw [hx] at this
  obtain rfl := Option.some.inj this
  exact h1.ofc hy
/-- One more number in the row. -/
theorem PL.app (h : PL w f s B r a b ca cb l l2 v xs W) (x : Int) (hn : xs.length + 1 ≤ 1048576) :
    ∃ va vc W', (∀ ty, (Builtin.append_ #[35, 35] ty #[v, .slice (some ⟨W.heap.size, 0, none⟩) 1 1]).run Tryd.prog (W.alloc (.cells #[.int .i64 x] 3)) = .ok (.slice va (xs.length + 1) vc) W') ∧
      PL w f s B r a b ca cb l l2 (.slice va (xs.length + 1) vc) (xs ++ [x]) W' := by
  obtain ⟨va, vc, W', hrun, ho, k, hq⟩ := app_of h.nr.row x hn h.sl.bel.size
  have hnr : NR w (.slice va (xs.length + 1) vc) (xs ++ [x]) W' := ⟨by rw [intV_app, List.length_append]; exact ho⟩
  obtain ⟨lr, h1, h2⟩ := h.rf
  obtain ⟨_, qb⟩ := h1.tk
  have off : ∀ q L t, Blk W q L t → t ≠ 3 → q ∉ own v := fun q L t hb ht hm => by
    obtain ⟨_, c, hc⟩ := own_ty h.nr.row (mem_own.1 hm)
    exact hb.ty_ne hc ht rfl
  refine ⟨va, vc, W', hrun, h.sl.off h.nr k, ⟨lr, h1.keep k (off r _ _ h1.box (by decide)) h.na (off b _ _ qb (by decide)) (fun x hx hc => off _ _ _ (h1.bit x hx hc).1 (by decide)), h2⟩, hnr, fun hm => ?_, h.lo⟩
  rcases hq a hm with h3 | h3
  · exact h.na h3
  · have := h1.alt
    omega
end
/-- What was taken just now tells its class; what was freed tells none. -/
theorem of_taken {cl : Nat} (hcl : cl < 6) {l : List Pg} (hg : Good l) (he : tkE cl l = 0) : ofI (tkL cl l) (tkC cl l : Int) = (cl : Int) := by
  obtain ⟨_, b2, _, _⟩ := take_bits hcl hg he
  unfold ofI
  rw [takI_nat, b2, decide_eq_true rfl, Bool.or_true, if_pos rfl, Int.toNat_natCast]
  cases hp : pfor cl l with
  | none => rw [(tk_none hp).2.1] at he; omega
  | some a =>
    obtain ⟨p, hpa, h64, _, _, _, _⟩ := pfor_ok hcl hg hp
    obtain ⟨e1, _, e3⟩ := tk_some hp hpa
    have ha := (List.getElem?_eq_some_iff.1 hpa).1
    rw [e1, e3]
    unfold tkn clsAt
    rw [show (64 * a + lz 64 p.t) / 64 = a by omega, List.getElem?_set_self ha]
theorem of_freed {l : List Pg} (k : Int) : ofI (frL l k) k = -1 := by
  unfold ofI frL
  by_cases h : takI l k = true
  · rw [if_pos h]
    obtain ⟨n, rfl, hn⟩ := takI_pos h
    rw [takI_nat, Int.toNat_natCast, (clr_bits hn).1]
    simp
  · rw [if_neg h, if_neg h]
theorem frL_len (l : List Pg) (k : Int) : (frL l k).length = l.length := by unfold frL; split; exact clr_len _ _; rfl
end Go.Proofs.YteeanaoglcpaaaaDoor
