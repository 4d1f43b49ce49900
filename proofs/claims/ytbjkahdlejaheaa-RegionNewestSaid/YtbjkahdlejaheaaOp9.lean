/- Open gets ready: what a device tells of a log. -/
import Derived.Test.YtbjkahdlejaheaaSo9
set_option linter.unusedVariables false
set_option linter.unusedSimpArgs false
set_option maxRecDepth 8000
namespace Go.Proofs.Ytbjkahdlejaheaa
open Go.RowKit Go.Deep Math

set_option maxHeartbeats 400000 in
theorem power_any (d p : Nat) (pd : List Value) (wa : Option Addr) (wc : Nat) (S : Dv) (w : World) (h : DvIn w d p pd wa wc S) :
    Calls Try.prog 26 #[.pointer (some ⟨d, 0, none⟩)] w fun e w' => e = .returned (.bool (!S.off)) ∧ w' = w := by
  have c3 := h.dev.cell (i := 3) rfl
  clear h
  go_enter Try.func26, Try.ntmps26
  go_wp2
  go_ret
  exact ⟨rfl, rfl⟩
theorem power_at {w : World} {d : Nat} {F : List Nat} {S : Dv} (h : DvAt w d F S) : Calls Try.prog 26 #[.pointer (some ⟨d, 0, none⟩)] w fun e w' => e = .returned (.bool (!S.off)) ∧ w' = w := by
  obtain ⟨p, pd, wa, wc, rfl, h⟩ := h
  exact power_any d p pd wa wc S w h
theorem pages_at {w : World} {d : Nat} {F : List Nat} {S : Dv} (h : DvAt w d F S) : Calls Try.prog 25 #[.pointer (some ⟨d, 0, none⟩)] w fun e w' => e = .returned (.int .i64 S.cs.length) ∧ w' = w := by
  obtain ⟨p, pd, wa, wc, rfl, h⟩ := h
  exact pages_any d p pd wa wc S w h
theorem losses_at {w : World} {d : Nat} {F : List Nat} {S : Dv} (h : DvAt w d F S) : Calls Try.prog 27 #[.pointer (some ⟨d, 0, none⟩)] w fun e w' => e = .returned (.int .i64 S.losses) ∧ w' = w := by
  obtain ⟨p, pd, wa, wc, rfl, h⟩ := h
  exact losses_any d p pd wa wc S w h

def numTo (cs : List Cl) (first : Nat) : Nat → Nat
  | 0 => 0
  | k + 1 => maxNum (numTo cs first k) (forms cs (first + 4 * k) 4)
/-- The regions that count: the place, the number, the items. -/
def cnts (cs : List Cl) (first : Nat) : Nat → List (Nat × Nat × List It)
  | 0 => []
  | k + 1 => cnts cs first k ++ ((cnt cs (first + 4 * k)).map fun p => (k, p.1, p.2)).toList
def Rg.three (r : Rg) : Nat × Nat × List It := (r.place, r.num, r.ths.map Th.it)
theorem forms_form (cs : List Cl) (base : Nat) : ∀ k, ∀ l ∈ forms cs base k, isForm l = true
  | 0 => by simp [forms]
  | k + 1 => by
    intro l hl
    rw [forms] at hl
    rcases List.mem_append.1 hl with h | h
    · exact forms_form cs base k l h
    · simp only [Option.mem_toList] at h
      unfold fmAt at h
      cases hc : cs[base + k]? with
      | none => rw [hc] at h; cases h
      | some c =>
        rw [hc] at h
        simp only [Option.bind_some, fmPg] at h
        cases ht : pgText c.now with
        | none => rw [ht] at h; cases h
        | some l' =>
          rw [ht] at h
          simp only [Option.bind_some] at h
          split at h
          · rename_i hf; cases h; exact hf
          · cases h
theorem part_le {l : List UInt8} (h : isForm l = true) : (fmPart l).length ≤ 368 := by
  simp only [isForm, Bool.and_eq_true, decide_eq_true_eq] at h
  unfold fmPart sl
  rw [List.length_drop, List.length_take]
  have : fmLen l ≤ 368 := h.2.2
  omega
theorem content_le' : ∀ (ls : List (List UInt8)), (∀ l ∈ ls, isForm l = true) → (content ls).length ≤ 368 * ls.length
  | [], _ => by simp [content]
  | l :: r, h => by
    have h1 := content_le' r (fun q hq => h q (by simp [hq]))
    have h2 := part_le (h l (by simp))
    have e : content (l :: r) = fmPart l ++ content r := by simp [content]
    rw [e, List.length_append, List.length_cons]
    omega
theorem cnt_some {cs : List Cl} {base n : Nat} {xs : List It} (h : cnt cs base = some (n, xs)) : isWhole (forms cs base 4) = true ∧ lst (content (forms cs base 4)) = some xs ∧ n = headNum (forms cs base 4) := by
  unfold cnt at h
  split at h
  · rename_i hw
    cases hl : lst (content (forms cs base 4)) with
    | none => rw [hl] at h; cases h
    | some ys =>
      rw [hl] at h
      simp only [Option.map_some, Option.some.injEq, Prod.mk.injEq] at h
      exact ⟨hw, by rw [h.2], h.1.symm⟩
  · cases h
theorem cnt_len {cs : List Cl} {base n : Nat} {xs : List It} (h : cnt cs base = some (n, xs)) : xs.length ≤ 46 ∧ ∀ x ∈ xs, x.fits ∧ x.good = true := by
  obtain ⟨_, hl, _⟩ := cnt_some h
  have h1 := lst_all _ _ _ (Nat.le_refl _) hl
  have h2 := total_len xs
  have h3 := content_le' _ (forms_form cs base 4)
  have h4 := forms_len cs base 4
  exact ⟨by omega, h1.2⟩
/-- What keys have, when things were told in this order. -/
def hasL (M : List UInt8 → Option (Nat × Nat)) (l : List Th) : List UInt8 → Option (Nat × Nat) := l.foldl (fun M t => updK M t.it.key (some t.pos)) M
theorem hasL_snoc (M : List UInt8 → Option (Nat × Nat)) (l : List Th) (t : Th) : hasL M (l ++ [t]) = updK (hasL M l) t.it.key (some t.pos) := by simp [hasL]
theorem insS_perm (x : Rg) : ∀ l, (insS x l).Perm (x :: l)
  | [] => List.Perm.refl _
  | y :: ys => by
    unfold insS
    split
    · exact List.Perm.refl _
    · exact ((insS_perm x ys).cons y).trans (List.Perm.swap x y ys)
theorem isort_perm (l : List Rg) : (isort l).Perm l := by
  have : ∀ (l acc : List Rg), (l.foldl (fun acc x => insS x acc) acc).Perm (acc ++ l) := by
    intro l
    induction l with
    | nil => intro acc; simp
    | cons x r ih =>
      intro acc
      simp only [List.foldl_cons]
      refine (ih (insS x acc)).trans ?_
      refine ((insS_perm x acc).append_right r).trans ?_
      simpa using List.perm_middle.symm
  simpa [isort] using this l []
/-- A log's regions in another order. -/
theorem LgIn.regsTurn {w w' : World} {l d m : Nat} {v5 v6 v7 : Value} {T : Lg} {rs : List Rg} (h : LgIn w l d m v5 v6 v7 T) (hp : rs.Perm T.regs) (ho : w'.ownsRow 0 68 3 v5 T.regs.length (rgRow rs)) (k : Keep (own v5) w w') : LgIn w' l d m v5 v6 v7 { T with regs := rs } := by
  have sm : ∀ {q : Nat} {c : Array Value} {e : TypeId}, w.heap[q]? = some (.cells c e (0, 0)) → e ≠ 68 → w'.heap[q]? = w.heap[q]? := fun {q c e} hq h1 => k.block q (Array.getElem?_eq_some_iff.1 hq).1 (own_notin h.sld hq h1)
  have hall : ∀ t, t ∈ ({ T with regs := rs } : Lg).all ↔ t ∈ T.all := fun t => by
    unfold Lg.all
    rw [List.mem_append, List.mem_append]
    constructor
    · rintro (h1 | h1)
      · obtain ⟨x, hx, hxt⟩ := List.mem_flatMap.1 h1
        exact .inl (List.mem_flatMap.2 ⟨x, hp.mem_iff.1 hx, hxt⟩)
      · exact .inr h1
    · rintro (h1 | h1)
      · obtain ⟨x, hx, hxt⟩ := List.mem_flatMap.1 h1
        exact .inl (List.mem_flatMap.2 ⟨x, hp.mem_iff.2 hx, hxt⟩)
      · exact .inr h1
  refine ⟨h.box.same (sm h.box (by decide)), by rw [hp.length_eq]; exact ho, fun r hr => own_same (h.rows r (hp.mem_iff.1 hr)) (fun q hq => ?_), own_same h.opn (fun q hq => ?_), own_same h.cont (fun q hq => ?_), h.map.same ?_, fun t ht => ?_, fun r hr => h.apart r (hp.mem_iff.1 hr), fun x p hx => ?_⟩
  · obtain ⟨c, hc⟩ := own_ty (h.rows r (hp.mem_iff.1 hr)) hq; exact sm hc (by decide)
  · obtain ⟨c, hc⟩ := own_ty h.opn hq; exact sm hc (by decide)
  · obtain ⟨c, hc⟩ := own_ty h.cont hq; exact sm hc (by decide)
  · exact k.block m h.map.lt (fun hm => by
      obtain ⟨c, hc⟩ := own_ty h.sld (mem_own.1 hm)
      exact h.notM hc rfl)
  · have h1 := h.ths t ((hall t).1 ht)
    obtain ⟨c, hc⟩ := h1.ty
    exact h1.same (sm hc (by decide))
  · obtain ⟨t, ht, h1, h2⟩ := h.hasAt x p hx
    exact ⟨t, (hall t).2 ht, h1, h2⟩
/-- A new log. -/
theorem new_log (w : World) (d first regions : Nat) (L : Int) :
    LgIn ((w.alloc (.map #[] 0)).alloc (.cells #[.pointer (some ⟨d, 0, none⟩), .int .i64 L, .int .i64 first, .int .i64 regions, .int .u64 0, .slice none 0 0, .slice none 0 0, .slice none 0 0, .map (some w.heap.size)] 65)) (w.heap.size + 1) d w.heap.size (.slice none 0 0) (.slice none 0 0) (.slice none 0 0) ⟨L, first, regions, 0, [], [], 0, fun _ => none⟩ := by
  refine ⟨?_, World.ownsRow_nil _ _ _ _, fun r hr => (by cases hr), World.ownsRow_nil _ _ _ _, World.ownsRow_nil _ _ _ _, ?_, fun t ht => (by simp [Lg.all] at ht), fun r hr => (by cases hr), fun k p h => (by cases h)⟩
  · have := Blk.new (w.alloc (.map #[] 0)) [.pointer (some ⟨d, 0, none⟩), .int .i64 L, .int .i64 first, .int .i64 regions, .int .u64 0, .slice none 0 0, .slice none 0 0, .slice none 0 0, .map (some w.heap.size)] 65
    rw [nblk_alloc] at this
    exact this
  · exact ⟨.map [], (World.ownsMap_made w Try.prog 9 ptrElem).alloc _, HasIs.empty⟩
end Go.Proofs.Ytbjkahdlejaheaa
