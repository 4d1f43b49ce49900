/- 'take' of any page; what a scan of pages finds. -/
import Derived.Test.YtghdkicijdfpcabTake
set_option linter.unusedVariables false
set_option linter.unusedSimpArgs false
set_option maxRecDepth 8000
namespace Go.Proofs.Ytghdkicijdfpcab
open Go.RowKit Go.Deep Math

/-- The same device but for what was counted of reads. -/
structure Dv.like (S S' : Dv) : Prop where
  cs : S'.cs = S.cs
  armed : S'.armed = S.armed
  off : S'.off = S.off
  losses : S'.losses = S.losses
theorem Dv.like.refl (S : Dv) : S.like S := ⟨rfl, rfl, rfl, rfl⟩
theorem Dv.like.trans {A B C : Dv} (h : A.like B) (k : B.like C) : A.like C := ⟨k.cs.trans h.cs, k.armed.trans h.armed, k.off.trans h.off, k.losses.trans h.losses⟩
theorem Dv.like_read (S : Dv) (k : Int) : S.like (S.readDo k) := by unfold Dv.readDo; split <;> (try split) <;> exact ⟨rfl, rfl, rfl, rfl⟩

def rTake (r : Option (List Mk)) : Bool := r.isSome
def lTake (r : Option (List Mk)) : List Mk := r.getD []
theorem take_any (j d m n : Nat) (F : List Nat) (J : Jr) (S : Dv) (k : Nat) (c : Cl) (hk : S.cs[k]? = some c) (hoff : S.off = false) (hfit : c.now.fits) (hn : n < 900000) (w : World) (h : JD w j d m n F J S) :
    Calls Try.prog 19 #[.pointer (some ⟨j, 0, none⟩), .int .i64 (k : Nat)] w fun e w' => e = .returned (.bool (rTake (c.now.tk J.gen))) ∧
      JD w' j d m (n + (lTake (c.now.tk J.gen)).length) F (J.keeps (lTake (c.now.tk J.gen))) (S.readDo (k : Nat)) ∧ Keep (m :: F) w w' := by
  cases hc : c.now using Pg.elim3 with
  | blank =>
    refine (take_blank j d m n F J S k c hk hoff hc w h).mono ?_
    rintro e w' ⟨rfl, h1, h2⟩
    exact ⟨rfl, h1, h2.mono (fun x hx => .inl (by simp [hx]))⟩
  | torn =>
    refine (take_torn j d m n F J S k c hk hoff hc w h).mono ?_
    rintro e w' ⟨rfl, h1, h2⟩
    exact ⟨rfl, h1, h2.mono (fun x hx => .inl (by simp [hx]))⟩
  | whole b =>
    rw [hc] at hfit
    cases ht : tkM J.gen (full b).data.toList with
    | none =>
      refine (take_bad j d m n F J S k c b hk hoff hc hfit ht w h).mono ?_
      rintro e w' ⟨rfl, h1, h2⟩
      have e : Pg.tk J.gen (.whole b) = none := ht
      rw [e]
      exact ⟨rfl, h1, h2.mono (fun x hx => .inl (by simp [hx]))⟩
    | some xs =>
      refine (take_good j d m n F J S k c b xs hk hoff hc hfit ht hn w h).mono ?_
      rintro e w' ⟨rfl, h1, h2⟩
      have e : Pg.tk J.gen (.whole b) = some xs := ht
      rw [e]
      exact ⟨rfl, h1, h2⟩

/-- The marks of the pages that are read. -/
def scanP (gen : Nat) : List Pg → List (List Mk)
  | [] => []
  | p :: r => match p.tk gen with
    | none => []
    | some xs => xs :: scanP gen r
theorem scan_next {gen : Nat} : ∀ {P : List Pg} {k : Nat} {p : Pg} {xs : List Mk}, k ≤ (scanP gen P).length → P[k]? = some p → p.tk gen = some xs → (scanP gen P)[k]? = some xs
  | [], k, p, xs, _, h, _ => by simp at h
  | q :: r, 0, p, xs, _, h, ht => by
    simp at h; subst h
    simp [scanP, ht]
  | q :: r, k + 1, p, xs, hk, h, ht => by
    simp only [scanP] at hk ⊢
    cases hq : q.tk gen with
    | none => rw [hq] at hk; simp at hk
    | some ys =>
      rw [hq] at hk
      simp only [List.length_cons, List.getElem?_cons_succ] at hk h ⊢
      exact scan_next (by omega) h ht
theorem scan_stop {gen : Nat} : ∀ {P : List Pg} {k : Nat} {p : Pg}, k ≤ (scanP gen P).length → P[k]? = some p → p.tk gen = none → (scanP gen P).length = k
  | [], k, p, _, h, _ => by simp at h
  | q :: r, 0, p, _, h, ht => by
    simp at h; subst h
    simp [scanP, ht]
  | q :: r, k + 1, p, hk, h, ht => by
    simp only [scanP] at hk ⊢
    cases hq : q.tk gen with
    | none => rw [hq] at hk; simp at hk
    | some ys =>
      rw [hq] at hk
      simp only [List.length_cons, List.getElem?_cons_succ] at hk h ⊢
      rw [scan_stop (by omega) h ht]
theorem scan_le {gen : Nat} : ∀ P : List Pg, (scanP gen P).length ≤ P.length
  | [] => Nat.le_refl _
  | p :: r => by
    simp only [scanP]
    cases p.tk gen with
    | none => simp
    | some xs => simp only [List.length_cons]; exact Nat.succ_le_succ (scan_le r)
theorem tk_len {gen : Nat} {p : Pg} {xs : List Mk} (h : p.tk gen = some xs) : xs.length ≤ 23 := by
  cases p using Pg.elim3 with
  | blank => simp [Pg.tk] at h
  | torn => simp [Pg.tk] at h; subst h; simp
  | whole b =>
    simp only [Pg.tk, tkM] at h
    split at h
    · rename_i hc
      cases h
      rw [rdM_length]; exact hc.2.1
    · cases h
theorem Jr.keeps_append (J : Jr) (xs ys : List Mk) : J.keeps (xs ++ ys) = (J.keeps xs).keeps ys := by simp [Jr.keeps, List.foldl_append]
theorem keeps_same (xs : List Mk) : ∀ J : Jr, (J.keeps xs).losses = J.losses ∧ (J.keeps xs).first = J.first ∧ (J.keeps xs).pages = J.pages ∧ (J.keeps xs).used = J.used ∧ (J.keeps xs).gen = J.gen := by
  induction xs with
  | nil => intro J; exact ⟨rfl, rfl, rfl, rfl, rfl⟩
  | cons x r ih => intro J; exact ih (J.keep x.1 x.2)
theorem keeps_cells (J : Jr) (xs : List Mk) (d m : Nat) : jrCells d m (J.keeps xs) = jrCells d m J := by
  obtain ⟨h1, h2, h3, h4, h5⟩ := keeps_same xs J
  unfold jrCells
  rw [h1, h2, h3, h4, h5]
/-- A map behind these marks. -/
def kM (M : Nat → Option Nat) (xs : List Mk) : Nat → Option Nat := xs.foldl (fun M x => fun y => if y = x.1 then some (max ((M x.1).getD 0) x.2) else M y) M
theorem keeps_M (xs : List Mk) : ∀ J : Jr, (J.keeps xs).M = kM J.M xs := by
  induction xs with
  | nil => intro J; rfl
  | cons x r ih => intro J; exact ih (J.keep x.1 x.2)
theorem Jr.ext' {A B : Jr} (h1 : A.losses = B.losses) (h2 : A.first = B.first) (h3 : A.pages = B.pages) (h4 : A.used = B.used) (h5 : A.gen = B.gen) (h6 : A.M = B.M) : A = B := by
  cases A; cases B; simp_all
end Go.Proofs.Ytghdkicijdfpcab
