/- What is held, as a list of items, behind each call. -/
import Derived.Test.YtdkiegkgnimapaaDoorWo
set_option linter.unusedVariables false
set_option linter.unusedSimpArgs false
set_option maxRecDepth 8000
namespace Go.Proofs.YtdkiegkgnimapaaDoor
open Go.RowKit Go.Deep Drm
open Slb (tkE)
open Sgm (evi)
def nowOf (d : Dm) : List It := d.it.map fun e => e.2.x
theorem now_len (d : Dm) : (nowOf d).length = d.it.length := by simp [nowOf]
theorem now_out {d : Dm} (h : Iv d) {i : Int} {o : Ou} (hm : (i, o) ∈ d.it) : (outN i d.it).map (fun e => e.2.x) = wo o.x.k (nowOf d) := by
  unfold nowOf wo outN
  rw [List.filter_map]
  congr 1
  apply List.filter_congr
  intro e he
  simp only [Function.comp, decide_eq_decide, ne_eq]
  refine not_congr ?_
  constructor
  · intro e1
    have a1 := (lok_some h.nd).2 hm
    have a2 := (lok_some h.nd (i := e.1) (o := e.2)).2 he
    rw [e1, a1] at a2
    rw [Option.some.inj a2]
  · intro e1
    have a1 := (kfd_some h.kn (k := o.x.k) (i := i)).2 ⟨o, hm, rfl⟩
    have a2 := (kfd_some h.kn (k := o.x.k) (i := e.1)).2 ⟨e.2, he, e1⟩
    rw [a1] at a2
    exact (Option.some.inj a2).symm
theorem now_del {d : Dm} (h : Iv d) (k : List UInt8) : nowOf (delD k d) = wo k (nowOf d) := by
  cases hk : kfd k d.it with
  | none =>
    rw [delD_none hk]
    symm
    unfold wo
    apply List.filter_eq_self.2
    intro x hx
    obtain ⟨e, he, rfl⟩ := List.mem_map.1 hx
    rw [decide_eq_true_eq]
    exact fun e1 => kfd_none.1 hk (List.mem_map.2 ⟨e, he, e1⟩)
  | some i =>
    obtain ⟨o, h1, h2, _⟩ := h.key hk
    rw [delD_some hk, ← h2]
    exact now_out h h1
def goL (l : List It) (g : List Ou) : List It := g.foldl (fun l o => wo o.x.k l) l
def StepOk : List It → List Ou → Prop
  | _, [] => True
  | l, o :: g => (wo o.x.k l).length + 1 = l.length ∧ StepOk (wo o.x.k l) g
theorem StepOk.len : ∀ {g : List Ou} {l : List It}, StepOk l g → g.length ≤ l.length
  | [], _, _ => Nat.zero_le _
  | o :: g, l, h => by
    have := StepOk.len h.2
    have := h.1
    simp only [List.length_cons]
    omega
theorem goL_len : ∀ (g : List Ou) (l : List It), (goL l g).length ≤ l.length
  | [], _ => Nat.le_refl _
  | o :: g, l => Nat.le_trans (goL_len g (wo o.x.k l)) (wo_len _ _)
theorem goL_take {g : List Ou} {l : List It} {j : Nat} {o : Ou} (h : g[j]? = some o) : goL l (g.take (j + 1)) = wo o.x.k (goL l (g.take j)) := by
  obtain ⟨h1, h2⟩ := List.getElem?_eq_some_iff.1 h
  rw [List.take_succ_eq_append_getElem h1, h2]
  unfold goL
  rw [List.foldl_append]
  rfl
theorem StepOk.at : ∀ {g : List Ou} {l : List It} {j : Nat} {o : Ou}, StepOk l g → g[j]? = some o → (wo o.x.k (goL l (g.take j))).length + 1 = (goL l (g.take j)).length
  | [], l, j, o, _, hj => by simp at hj
  | o' :: g, l, 0, o, h, hj => by
    simp at hj
    subst hj
    exact h.1
  | o' :: g, l, j + 1, o, h, hj => by
    have := StepOk.at (j := j) (o := o) h.2 (by simpa using hj)
    exact this
theorem room_now {cl : Nat} (hcl : cl < 6) : ∀ n d, d.it.length ≤ n → Iv d → StepOk (nowOf d) (room cl d).2 ∧ goL (nowOf d) (room cl d).2 = nowOf (room cl d).1
  | n, d, hn, h => by
    by_cases he : tkE cl d.pg = 0
    · rw [room_stop he]; exact ⟨trivial, rfl⟩
    · obtain ⟨i, hi⟩ := h.giver hcl he
      obtain ⟨h2, hm⟩ := h.evict (giv_lt hcl d) hi
      have hl := outN_len h.nd hm
      obtain ⟨o, ho⟩ : ∃ o, lok i d.it = some o := Option.isSome_iff_exists.1 (lok_isSome.2 hm)
      rw [room_step h hcl he hi ho]
      match n with
      | 0 => omega
      | n + 1 =>
        have hl2 : (evD (giv cl d) i d).it.length = (outN i d.it).length := rfl
        obtain ⟨a1, a2⟩ := room_now hcl n (evD (giv cl d) i d) (by omega) h2
        have e1 : nowOf (evD (giv cl d) i d) = wo o.x.k (nowOf d) := now_out h ((lok_some h.nd).1 ho)
        rw [e1] at a1 a2
        refine ⟨⟨?_, a1⟩, a2⟩
        rw [← e1, now_len, now_len]
        exact hl
/-- Behind a Put. -/
theorem put_now {d : Dm} (h : Iv d) {cl : Nat} (hcl : cl < 6) (o : Ou) : StepOk (wo o.x.k (nowOf d)) (putG cl o d) ∧ nowOf (putD cl o d) = goL (wo o.x.k (nowOf d)) (putG cl o d) ++ [o.x] := by
  have h1 := (h.del o.x.k).1
  obtain ⟨a1, a2⟩ := room_now hcl _ _ (Nat.le_refl _) h1
  rw [now_del h] at a1 a2
  refine ⟨a1, ?_⟩
  show nowOf (putD cl o d) = goL (wo o.x.k (nowOf d)) (room cl (delD o.x.k d)).2 ++ [o.x]
  rw [a2]
  simp [nowOf, putD, addD]
/-- One of what is held is found by its key. -/
theorem now_at {d : Dm} (h : Iv d) {i : Nat} {x : It} (hx : (nowOf d)[i]? = some x) : ∃ j c, kfd x.k d.it = some j ∧ lok j d.it = some ⟨x, c⟩ ∧ x.ok := by
  obtain ⟨e, he, rfl⟩ := List.mem_map.1 (List.mem_of_getElem? hx)
  exact ⟨e.1, e.2.c, (kfd_some h.kn).2 ⟨e.2, he, rfl⟩, (lok_some h.nd).2 he, h.ok e he⟩
end Go.Proofs.YtdkiegkgnimapaaDoor
