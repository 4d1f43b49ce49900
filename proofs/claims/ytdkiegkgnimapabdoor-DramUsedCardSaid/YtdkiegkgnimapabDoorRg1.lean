/- Rings in memory: places, fields, links. -/
import Derived.Test.YtdkiegkgnimapabDoorMem
set_option linter.unusedVariables false
set_option linter.unusedSimpArgs false
set_option maxRecDepth 8000
namespace Go.Proofs.YtdkiegkgnimapabDoor.Sgg
open Go.RowKit Go.Deep

/-- A node's place, or that of a list's ends: a block and an offset. -/
abbrev Pl := Nat × Nat
def fc (w : World) (p : Pl) (r : Nat) : Option Value := w.cell? ⟨p.1, p.2 + r, none⟩
def ptr (p : Pl) : Value := .pointer (some ⟨p.1, p.2, none⟩)
def Six (p : Pl) : Prop := p.2 % 6 = 0
/-- A block of n cells, none frozen. -/
def Sh (w : World) (b n : Nat) (t : TypeId) : Prop := ∃ L : List Value, L.length = n ∧ Blk w b L t
theorem _root_.Go.Proofs.YtdkiegkgnimapabDoor.Blk.sh {w : World} {b : Nat} {L : List Value} {t : TypeId} (h : Blk w b L t) : Sh w b L.length t := ⟨L, rfl, h⟩
theorem Sh.lt {w : World} {b n : Nat} {t : TypeId} (h : Sh w b n t) : b < w.heap.size := by
  obtain ⟨L, _, h⟩ := h
  exact h.lt
theorem Sh.frozen {w : World} {b n : Nat} {t : TypeId} (h : Sh w b n t) (i : Nat) : w.frozen? ⟨b, i, none⟩ = false := by
  obtain ⟨L, _, h⟩ := h
  exact h.frozen i
theorem Sh.same {w w' : World} {b n : Nat} {t : TypeId} (h : Sh w b n t) (e : w'.heap[b]? = w.heap[b]?) : Sh w' b n t := by
  obtain ⟨L, hl, h⟩ := h
  exact ⟨L, hl, h.same e⟩
theorem Sh.set {w : World} {b n : Nat} {t : TypeId} (h : Sh w b n t) (c i : Nat) (v : Value) : Sh (w.setCell ⟨c, i, none⟩ v) b n t := by
  obtain ⟨L, hl, h⟩ := h
  by_cases e : b = c
  · subst e; exact ⟨L.set i v, by simpa using hl, h.set i v⟩
  · exact ⟨L, hl, h.other e v⟩
theorem Sh.cell {w : World} {b n : Nat} {t : TypeId} (h : Sh w b n t) {i : Nat} (hi : i < n) : ∃ v, w.cell? ⟨b, i, none⟩ = some v := by
  obtain ⟨L, hl, h⟩ := h
  exact ⟨L[i]'(by omega), h.cell (List.getElem?_eq_getElem _)⟩
theorem Sh.ne {w : World} {b b' n n' : Nat} {t t' : TypeId} (h : Sh w b n t) (h' : Sh w b' n' t') (ht : t ≠ t') : b ≠ b' := fun e => by
  subst e
  obtain ⟨L, _, h⟩ := h
  obtain ⟨L', _, h'⟩ := h'
  unfold Blk at h h'
  rw [h] at h'
  simp at h'
  exact ht h'.2
theorem fa_ne {p q : Pl} {r s : Nat} (hp : Six p) (hq : Six q) (hr : r < 6) (hs : s < 6) (h : q ≠ p ∨ s ≠ r) : (⟨p.1, p.2 + r, none⟩ : Addr) ≠ ⟨q.1, q.2 + s, none⟩ := by
  intro e
  injection e with e1 e2
  unfold Six at hp hq
  have h1 : r = s := by omega
  have h2 : p.2 = q.2 := by omega
  rcases h with h | h
  · exact h (Prod.ext e1.symm h2.symm)
  · exact h h1.symm
theorem fc_other {w : World} {p q : Pl} {r s : Nat} {v : Value} (hp : Six p) (hq : Six q) (hr : r < 6) (hs : s < 6) (h : q ≠ p ∨ s ≠ r) : fc (w.setCell ⟨p.1, p.2 + r, none⟩ v) q s = fc w q s :=
  World.cell?_setCell_other _ _ _ _ (by first | exact fa_ne hp hq hr hs h | exact (fa_ne hp hq hr hs h).symm)
theorem fc_same {w : World} {p : Pl} {r n : Nat} {t : TypeId} {v : Value} (h : Sh w p.1 n t) (hn : p.2 + r < n) : fc (w.setCell ⟨p.1, p.2 + r, none⟩ v) p r = some v := by
  obtain ⟨L, hl, h⟩ := h
  exact (h.set (p.2 + r) v).cell (by rw [List.getElem?_set, if_pos rfl, if_pos (by omega)])
theorem fc_heap {w w' : World} {p : Pl} {r : Nat} (e : w'.heap[p.1]? = w.heap[p.1]?) : fc w' p r = fc w p r := World.cell?_of_block e

/-- Fields other than these read as before. -/
structure Tn (ex : List (Pl × Nat)) (w w' : World) : Prop where
  fld : ∀ q s, Six q → s < 6 → (q, s) ∉ ex → fc w' q s = fc w q s
  sh : ∀ b n t, Sh w b n t → Sh w' b n t
theorem Tn.refl (w : World) : Tn [] w w := ⟨fun _ _ _ _ _ => rfl, fun _ _ _ h => h⟩
theorem Tn.heap {ex : List (Pl × Nat)} {w a b : World} (h : Tn ex w a) (e : b.heap = a.heap) : Tn ex w b :=
  ⟨fun q s hq hs hn => (fc_heap (by rw [e])).trans (h.fld q s hq hs hn), fun x n t hx => (h.sh x n t hx).same (by rw [e])⟩
theorem Tn.set {ex : List (Pl × Nat)} {w a : World} (h : Tn ex w a) (p : Pl) (r : Nat) (v : Value) (hp : Six p) (hr : r < 6) : Tn ((p, r) :: ex) w (a.setCell ⟨p.1, p.2 + r, none⟩ v) :=
  ⟨fun q s hq hs hn => by
    rw [List.mem_cons, not_or] at hn
    rw [fc_other hp hq hr hs (by
      by_cases e : q = p
      · by_cases e2 : s = r
        · exact absurd (by rw [e, e2]) hn.1
        · exact .inr e2
      · exact .inl e)]
    exact h.fld q s hq hs hn.2, fun b n t hb => (h.sh b n t hb).set _ _ _⟩

/-! ### Links -/
def Link (w : World) (a b : Pl) : Prop := fc w a 4 = some (ptr b) ∧ fc w b 3 = some (ptr a)
def Lk (w : World) : Pl → List Pl → Pl → Prop
  | a, [], z => Link w a z
  | a, p :: ps, z => Link w a p ∧ Lk w p ps z
def prv : Pl → List Pl → Pl
  | a, [] => a
  | _, p :: ps => prv p ps
def nxt : List Pl → Pl → Pl
  | [], z => z
  | p :: _, _ => p
section
variable {w w' : World} {a x y z P : Pl} {A B ps : List Pl}
theorem Lk.app : Lk w a (A ++ x :: B) z ↔ Lk w a A x ∧ Lk w x B z := by
  induction A generalizing a with
  | nil => exact Iff.rfl
  | cons p A ih =>
    show Link w a p ∧ Lk w p (A ++ x :: B) z ↔ (Link w a p ∧ Lk w p A x) ∧ Lk w x B z
    rw [ih, and_assoc]
theorem Lk.last (h : Lk w a A x) : Link w (prv a A) x := by
  induction A generalizing a with
  | nil => exact h
  | cons p A ih => exact ih h.2
theorem Lk.head (h : Lk w x B z) : Link w x (nxt B z) := by
  cases B with
  | nil => exact h
  | cons p B => exact h.1
theorem prv_mem (a : Pl) (A : List Pl) : prv a A ∈ a :: A := by
  induction A generalizing a with
  | nil => exact List.mem_cons_self ..
  | cons p A ih => exact List.mem_cons_of_mem _ (ih p)
theorem nxt_mem (B : List Pl) (z : Pl) : nxt B z ∈ B ++ [z] := by
  cases B with
  | nil => simp [nxt]
  | cons p B => simp [nxt]
theorem prv_snoc (a x : Pl) (A : List Pl) : prv a (A ++ [x]) = x := by
  induction A generalizing a with
  | nil => rfl
  | cons p A ih => exact ih p
theorem Lk.same (h : Lk w a A z) (h4 : ∀ c ∈ a :: A, fc w' c 4 = fc w c 4) (h3 : ∀ d ∈ A ++ [z], fc w' d 3 = fc w d 3) : Lk w' a A z := by
  induction A generalizing a with
  | nil => exact ⟨(h4 a (List.mem_cons_self ..)).trans h.1, (h3 z (by simp)).trans h.2⟩
  | cons p A ih =>
    exact ⟨⟨(h4 a (List.mem_cons_self ..)).trans h.1.1, (h3 p (by simp)).trans h.1.2⟩, ih h.2 (fun c hc => h4 c (List.mem_cons_of_mem _ hc)) (fun d hd => h3 d (List.mem_cons_of_mem _ hd))⟩
theorem Lk.toEnd (h : Lk w a A x) (nd : (a :: A).Nodup) (h4 : ∀ c ∈ a :: A, c ≠ prv a A → fc w' c 4 = fc w c 4) (h3 : ∀ d ∈ A, fc w' d 3 = fc w d 3) (hl : Link w' (prv a A) y) : Lk w' a A y := by
  induction A generalizing a with
  | nil => exact hl
  | cons p A ih =>
    rw [List.nodup_cons] at nd
    refine ⟨⟨(h4 a (List.mem_cons_self ..) (fun e => nd.1 ?_)).trans h.1.1, (h3 p (by simp)).trans h.1.2⟩, ih h.2 nd.2 (fun c hc hn => h4 c (List.mem_cons_of_mem _ hc) hn) (fun d hd => h3 d (List.mem_cons_of_mem _ hd)) hl⟩
    have := prv_mem p A
    rw [show prv a (p :: A) = prv p A from rfl] at e
    rwa [← e] at this
/-- One is taken out. -/
theorem Lk.leave (h : Lk w P (A ++ x :: B) P) (nd : (P :: (A ++ x :: B)).Nodup) (e4 : fc w' (prv P A) 4 = some (ptr (nxt B P))) (e3 : fc w' (nxt B P) 3 = some (ptr (prv P A)))
    (oth : ∀ c s, c ∈ P :: (A ++ x :: B) → s < 5 → (c ≠ prv P A ∨ s ≠ 4) → (c ≠ nxt B P ∨ s ≠ 3) → fc w' c s = fc w c s) : Lk w' P (A ++ B) P := by
  obtain ⟨h1, h2⟩ := Lk.app.1 h
  rw [List.nodup_cons, List.mem_append, not_or, List.mem_cons, not_or, List.nodup_append, List.nodup_cons] at nd
  obtain ⟨⟨nP, nPx, nPB⟩, nA, ⟨nx, nB⟩, nAB⟩ := nd
  have nPA : (P :: A).Nodup := List.nodup_cons.2 ⟨nP, nA⟩
  cases B with
  | nil =>
    rw [List.append_nil]
    refine h1.toEnd nPA (fun c hc hn => oth c 4 ?_ (by decide) (.inl hn) (.inr (by decide))) (fun d hd => oth d 3 ?_ (by decide) (.inr (by decide)) (.inl ?_)) ⟨e4, e3⟩
    · rcases List.mem_cons.1 hc with rfl | hc
      · simp
      · simp [hc]
    · simp [hd]
    · rintro rfl; exact nP hd
  | cons b B =>
    rw [List.nodup_cons] at nB
    refine Lk.app.2 ⟨h1.toEnd nPA (fun c hc hn => oth c 4 ?_ (by decide) (.inl hn) (.inr (by decide))) (fun d hd => oth d 3 ?_ (by decide) (.inr (by decide)) (.inl ?_)) ⟨e4, e3⟩, h2.2.same (fun c hc => oth c 4 ?_ (by decide) (.inl ?_) (.inr (by decide))) (fun d hd => oth d 3 ?_ (by decide) (.inr (by decide)) (.inl ?_))⟩
    · rcases List.mem_cons.1 hc with rfl | hc
      · simp
      · simp [hc]
    · simp [hd]
    · rintro rfl; exact nAB _ hd _ (by simp [nxt]) rfl
    · simp only [List.mem_cons, List.mem_append]; exact .inr (.inr (.inr (List.mem_cons.1 hc)))
    · rintro rfl
      rcases List.mem_cons.1 (prv_mem P A) with e | e
      · rw [e] at hc; exact nPB hc
      · exact nAB _ e _ (List.mem_cons_of_mem _ hc) rfl
    · rcases List.mem_append.1 hd with hd | hd
      · simp only [List.mem_cons, List.mem_append]; exact .inr (.inr (.inr (.inr hd)))
      · simp at hd; simp [hd]
    · rintro rfl
      rcases List.mem_append.1 hd with hd | hd
      · exact nB.1 hd
      · simp only [nxt, List.mem_singleton] at hd; exact nPB (by simp [hd])
/-- One is put at the head. -/
theorem Lk.push (h : Lk w P ps P) (nd : (P :: ps).Nodup) (e1 : Link w' P x) (e4 : fc w' x 4 = some (ptr (nxt ps P))) (e3 : fc w' (nxt ps P) 3 = some (ptr x))
    (oth : ∀ c s, c ∈ P :: ps → s < 5 → (c ≠ P ∨ s ≠ 4) → (c ≠ nxt ps P ∨ s ≠ 3) → fc w' c s = fc w c s) : Lk w' P (x :: ps) P := by
  refine ⟨e1, ?_⟩
  cases ps with
  | nil => exact ⟨e4, e3⟩
  | cons p ps =>
    rw [List.nodup_cons, List.nodup_cons] at nd
    refine ⟨⟨e4, e3⟩, h.2.same (fun c hc => oth c 4 (List.mem_cons_of_mem _ hc) (by decide) (.inl ?_) (.inr (by decide))) (fun d hd => oth d 3 ?_ (by decide) (.inr (by decide)) (.inl ?_))⟩
    · rintro rfl; exact nd.1 hc
    · rcases List.mem_append.1 hd with hd | hd
      · simp [hd]
      · simp at hd; simp [hd]
    · rintro rfl
      rcases List.mem_append.1 hd with hd | hd
      · exact nd.2.1 hd
      · simp only [nxt, List.mem_singleton] at hd; exact nd.1 (by simp [hd])
end
end Go.Proofs.YtdkiegkgnimapabDoor.Sgg
