/- Three rings in memory: one leaves, one is put at a head. -/
import Derived.Test.YtdkiegkgnimapabDoorRg2
set_option linter.unusedVariables false
set_option linter.unusedSimpArgs false
set_option maxRecDepth 8000
namespace Go.Proofs.YtdkiegkgnimapabDoor.Sgg
open Go.RowKit Go.Deep

/-- A node: its block, its number, whether it is used. -/
structure En where
  b : Nat
  id : Int
  u : Bool
def pl (e : En) : Pl := (e.b, 0)
def P3 (f k : Nat) : Pl := (f, 6 * k)
def upL (L : Nat → List En) (k : Nat) (l : List En) : Nat → List En := fun j => if j = k then l else L j
theorem upL_same (L : Nat → List En) (k : Nat) (l : List En) : upL L k l k = l := by simp [upL]
theorem upL_other (L : Nat → List En) {k j : Nat} (l : List En) (h : j ≠ k) : upL L k l j = L j := by simp [upL, h]
theorem six_pl (e : En) : Six (pl e) := rfl
theorem six_18 (f : Nat) : Six (f, 18) := by simp [Six]
theorem six_P3 (f k : Nat) : Six (P3 f k) := Nat.mul_mod_right 6 k
/-- A node's own cells. -/
structure NdAt (w : World) (e : En) : Prop where
  sh : Sh w e.b 5 91
  c0 : fc w (pl e) 0 = some (.int .i64 e.id)
  c1 : fc w (pl e) 1 = some (.bool e.u)
structure SgIn (w : World) (f m : Nat) (L : Nat → List En) (F : List Nat) : Prop where
  own : Sh w f 19 95
  mp : fc w (f, 18) 0 = some (.map (some m))
  cnt : ∀ k, k < 3 → fc w (P3 f k) 5 = some (.int .i64 ((L k).length : Int))
  ring : ∀ k, k < 3 → Lk w (P3 f k) ((L k).map pl) (P3 f k)
  node : ∀ k, k < 3 → ∀ e ∈ L k, NdAt w e
  lin : ∀ k, k < 3 → ∀ e ∈ L k, fc w (pl e) 2 = some (ptr (P3 f k))
  nd : ∀ k, k < 3 → ((L k).map En.b).Nodup
  ap : ∀ j k, j < 3 → k < 3 → j ≠ k → ∀ e ∈ L j, ∀ e' ∈ L k, e.b ≠ e'.b
  fF : f ∈ F
  eF : ∀ k, k < 3 → ∀ e ∈ L k, e.b ∈ F

def plc (f : Nat) (L : Nat → List En) (k : Nat) : List Pl := P3 f k :: (L k).map pl
section
variable {w w' : World} {f m k j : Nat} {L : Nat → List En} {F : List Nat} {A B : List En} {x : En}
theorem plc_six {q : Pl} (h : q ∈ plc f L k) : Six q := by
  rcases List.mem_cons.1 h with rfl | h
  · exact six_P3 f k
  · obtain ⟨e, _, rfl⟩ := List.mem_map.1 h
    exact six_pl e
theorem SgIn.off (h : SgIn w f m L F) (hk : k < 3) {e : En} (he : e ∈ L k) : e.b ≠ f := (h.node k hk e he).sh.ne h.own (by decide)
theorem pl_ne_P3 {e : En} (h : e.b ≠ f) : pl e ≠ P3 f k := fun c => h (congrArg Prod.fst c)
theorem pl_inj {e e' : En} (h : pl e = pl e') : e.b = e'.b := congrArg Prod.fst h
theorem P3_inj (h : P3 f j = P3 f k) : j = k := by
  have := congrArg Prod.snd h
  simp only [P3] at this
  omega
theorem SgIn.plc_nd (h : SgIn w f m L F) (hk : k < 3) : (plc f L k).Nodup := by
  unfold plc
  rw [List.nodup_cons]
  refine ⟨fun hm => ?_, ?_⟩
  · obtain ⟨e, he, hp⟩ := List.mem_map.1 hm
    exact pl_ne_P3 (h.off hk he) hp
  · have := h.nd k hk
    rw [List.nodup_iff_pairwise_ne, List.pairwise_map] at this ⊢
    exact this.imp (fun hne hp => hne (pl_inj hp))
theorem SgIn.plc_ap (h : SgIn w f m L F) (hj : j < 3) (hk : k < 3) (hne : j ≠ k) {p q : Pl} (hp : p ∈ plc f L j) (hq : q ∈ plc f L k) : p ≠ q := by
  rintro rfl
  rcases List.mem_cons.1 hp with hp | hp <;> rcases List.mem_cons.1 hq with hq | hq
  · exact hne (P3_inj (hp.symm.trans hq))
  · obtain ⟨e, he, e1⟩ := List.mem_map.1 hq
    exact pl_ne_P3 (h.off hk he) (e1.trans hp)
  · obtain ⟨e, he, e1⟩ := List.mem_map.1 hp
    exact pl_ne_P3 (h.off hj he) (e1.trans hq)
  · obtain ⟨e, he, e1⟩ := List.mem_map.1 hp
    obtain ⟨e', he', e2⟩ := List.mem_map.1 hq
    exact h.ap j k hj hk hne e he e' he' (pl_inj (e1.trans e2.symm))
/-- Where a place of a list lies. -/
theorem SgIn.plc_at (h : SgIn w f m L F) (hk : k < 3) {p : Pl} (hp : p ∈ plc f L k) : (p.1 = f ∧ p.2 = 6 * k) ∨ ∃ e ∈ L k, p = pl e := by
  rcases List.mem_cons.1 hp with rfl | hp
  · exact .inl ⟨rfl, rfl⟩
  · obtain ⟨e, he, rfl⟩ := List.mem_map.1 hp
    exact .inr ⟨e, he, rfl⟩
theorem SgIn.plc_wr (h : SgIn w f m L F) (hk : k < 3) {p : Pl} (hp : p ∈ plc f L k) {r : Nat} (hr : r < 5) : Wr w ⟨p.1, p.2 + r, none⟩ ∧ p.1 ∈ F ∧ ∃ n t, Sh w p.1 n t ∧ p.2 + r < n := by
  rcases h.plc_at hk hp with ⟨h1, h2⟩ | ⟨e, he, rfl⟩
  · rw [h1, h2]
    exact ⟨h.own.wr (by omega), h.fF, 19, 95, h.own, by omega⟩
  · have := (h.node k hk e he).sh
    exact ⟨this.wr (by simp only [pl]; omega), h.eF k hk e he, 5, 91, this, by simp only [pl]; omega⟩
theorem prv_in (h : L k = A ++ x :: B) : prv (P3 f k) (A.map pl) ∈ plc f L k := by
  have := prv_mem (P3 f k) (A.map pl)
  unfold plc
  rw [h]
  rcases List.mem_cons.1 this with e | e
  · rw [e]; exact List.mem_cons_self ..
  · refine List.mem_cons_of_mem _ ?_
    rw [List.map_append]
    exact List.mem_append_left _ e
theorem nxt_in (h : L k = A ++ x :: B) : nxt (B.map pl) (P3 f k) ∈ plc f L k := by
  have := nxt_mem (B.map pl) (P3 f k)
  unfold plc
  rw [h]
  rcases List.mem_append.1 this with e | e
  · refine List.mem_cons_of_mem _ ?_
    rw [List.map_append, List.map_cons]
    exact List.mem_append_right _ (List.mem_cons_of_mem _ e)
  · rw [List.mem_singleton.1 e]; exact List.mem_cons_self ..
theorem head_in : nxt ((L k).map pl) (P3 f k) ∈ plc f L k := by
  have := nxt_mem ((L k).map pl) (P3 f k)
  rcases List.mem_append.1 this with e | e
  · exact List.mem_cons_of_mem _ e
  · rw [List.mem_singleton.1 e]; exact List.mem_cons_self ..
theorem ends_in : P3 f k ∈ plc f L k := List.mem_cons_self ..
/-- The cells that leave turns. -/
def wLeave (w : World) (a c : Pl) (f k : Nat) (n : Int) : World := (((w.drew.setCell ⟨a.1, a.2 + 4, none⟩ (ptr c)).setCell ⟨c.1, c.2 + 3, none⟩ (ptr a)).setCell ⟨f, 6 * k + 5, none⟩ (.int .i64 n))
theorem tn_leave (a c : Pl) (n : Int) (ha : Six a) (hc : Six c) : Tn [(P3 f k, 5), (c, 3), (a, 4)] w (wLeave w a c f k n) :=
  ((((Tn.refl w).heap (b := w.drew) rfl).set a 4 _ ha (by decide)).set c 3 _ hc (by decide)).set (P3 f k) 5 _ (six_P3 f k) (by decide)
theorem not_ex {q a c P : Pl} {s : Nat} (h5 : q ≠ P ∨ s ≠ 5) (h3 : q ≠ c ∨ s ≠ 3) (h4 : q ≠ a ∨ s ≠ 4) : (q, s) ∉ [(P, 5), (c, 3), (a, 4)] := by
  simp only [List.mem_cons, Prod.mk.injEq, List.not_mem_nil, or_false, not_or]
  refine ⟨?_, ?_, ?_⟩
  · rintro ⟨rfl, rfl⟩; simp at h5
  · rintro ⟨rfl, rfl⟩; simp at h3
  · rintro ⟨rfl, rfl⟩; simp at h4
theorem SgIn.leave_mem (h : SgIn w f m L F) (hk : k < 3) (hs : L k = A ++ x :: B) :
    SgIn (wLeave w (prv (P3 f k) (A.map pl)) (nxt (B.map pl) (P3 f k)) f k ((A ++ B).length : Int)) f m (upL L k (A ++ B)) F ∧ NdAt (wLeave w (prv (P3 f k) (A.map pl)) (nxt (B.map pl) (P3 f k)) f k ((A ++ B).length : Int)) x ∧
      (∀ j, j < 3 → ∀ e ∈ upL L k (A ++ B) j, e.b ≠ x.b) := by
  have ia := prv_in (f := f) hs
  have ic := nxt_in (f := f) hs
  have hR := h.ring k hk
  rw [hs, List.map_append, List.map_cons] at hR
  have nd := h.plc_nd hk
  have oap := @SgIn.plc_ap w f m
  obtain ⟨a, ea⟩ : ∃ a, a = prv (P3 f k) (A.map pl) := ⟨_, rfl⟩
  obtain ⟨c, ec⟩ : ∃ c, c = nxt (B.map pl) (P3 f k) := ⟨_, rfl⟩
  rw [← ea] at ia ⊢
  rw [← ec] at ic ⊢
  have T := tn_leave (w := w) (f := f) (k := k) a c ((A ++ B).length : Int) (plc_six ia) (plc_six ic)
  obtain ⟨_, _, na, ta, sa, la⟩ := h.plc_wr hk ia (r := 4) (by decide)
  obtain ⟨_, _, nc, tc, sc, lc⟩ := h.plc_wr hk ic (r := 3) (by decide)
  have e4 : fc (wLeave w a c f k ((A ++ B).length : Int)) a 4 = some (ptr c) := by
    unfold wLeave
    have q1 := fc_other (w := (w.drew.setCell ⟨a.1, a.2 + 4, none⟩ (ptr c)).setCell ⟨c.1, c.2 + 3, none⟩ (ptr a)) (p := P3 f k) (q := a) (r := 5) (s := 4) (v := .int .i64 ((A ++ B).length : Int)) (six_P3 f k) (plc_six ia) (by decide) (by decide) (.inr (by decide))
    have q2 := fc_other (w := w.drew.setCell ⟨a.1, a.2 + 4, none⟩ (ptr c)) (p := c) (q := a) (r := 3) (s := 4) (v := ptr a) (plc_six ic) (plc_six ia) (by decide) (by decide) (.inr (by decide))
    exact q1.trans (q2.trans (fc_same (w := w.drew) sa la))
  have e3 : fc (wLeave w a c f k ((A ++ B).length : Int)) c 3 = some (ptr a) := by
    unfold wLeave
    have q1 := fc_other (w := (w.drew.setCell ⟨a.1, a.2 + 4, none⟩ (ptr c)).setCell ⟨c.1, c.2 + 3, none⟩ (ptr a)) (p := P3 f k) (q := c) (r := 5) (s := 3) (v := .int .i64 ((A ++ B).length : Int)) (six_P3 f k) (plc_six ic) (by decide) (by decide) (.inr (by decide))
    exact q1.trans (fc_same (w := w.drew.setCell ⟨a.1, a.2 + 4, none⟩ (ptr c)) (Sh.set (w := w.drew) sc _ _ _) lc)
  have e5 : fc (wLeave w a c f k ((A ++ B).length : Int)) (P3 f k) 5 = some (.int .i64 ((A ++ B).length : Int)) := by
    unfold wLeave
    exact fc_same (p := P3 f k) (r := 5) (n := 19) (t := 95) ((Sh.set (w := w.drew) h.own _ _ _).set _ _ _) (by simp only [P3]; omega)
  generalize wLeave w a c f k ((A ++ B).length : Int) = W at *
  have hx : x ∈ L k := by rw [hs]; simp
  have nodeW : ∀ e, NdAt w e → NdAt W e := fun e he =>
    ⟨T.sh _ _ _ he.sh, (T.fld _ 0 (six_pl e) (by decide) (not_ex (.inr (by decide)) (.inr (by decide)) (.inr (by decide)))).trans he.c0, (T.fld _ 1 (six_pl e) (by decide) (not_ex (.inr (by decide)) (.inr (by decide)) (.inr (by decide)))).trans he.c1⟩
  have sub : ∀ e ∈ A ++ B, e ∈ L k := fun e he => by
    rw [hs]
    rcases List.mem_append.1 he with h1 | h1 <;> simp [h1]
  have nds := h.nd k hk
  rw [hs] at nds
  have sub2 : ∀ j, j < 3 → ∀ e ∈ upL L k (A ++ B) j, e ∈ L j := fun j hj e he => by
    by_cases hjk : j = k
    · subst hjk; rw [upL_same] at he; exact sub e he
    · rw [upL_other _ _ hjk] at he; exact he
  refine ⟨⟨T.sh _ _ _ h.own, (T.fld (f, 18) 0 (six_18 f) (by decide) (not_ex (.inr (by decide)) (.inr (by decide)) (.inr (by decide)))).trans h.mp, fun j hj => ?_, fun j hj => ?_, fun j hj e he => nodeW e (h.node j hj e (sub2 j hj e he)), fun j hj e he => (T.fld _ 2 (six_pl e) (by decide) (not_ex (.inr (by decide)) (.inr (by decide)) (.inr (by decide)))).trans (h.lin j hj e (sub2 j hj e he)), fun j hj => ?_, fun i j hi hj hij e he e' he' => h.ap i j hi hj hij e (sub2 i hi e he) e' (sub2 j hj e' he'), h.fF, fun j hj e he => h.eF j hj e (sub2 j hj e he)⟩, nodeW x (h.node k hk x hx), fun j hj e he => ?_⟩
  · by_cases hjk : j = k
    · subst hjk; rw [upL_same]; exact e5
    · rw [upL_other _ _ hjk]
      exact (T.fld _ 5 (six_P3 f j) (by decide) (not_ex (.inl (fun e => hjk (P3_inj e))) (.inr (by decide)) (.inr (by decide)))).trans (h.cnt j hj)
  · by_cases hjk : j = k
    · subst hjk
      rw [upL_same, List.map_append]
      unfold plc at nd
      rw [hs, List.map_append, List.map_cons] at nd
      refine hR.leave nd (by rw [← ea, ← ec]; exact e4) (by rw [← ea, ← ec]; exact e3) (fun q s hq hs' h1 h2 => T.fld q s ?_ (by omega) (not_ex (.inr (by omega)) (by rw [← ec] at h2; exact h2) (by rw [← ea] at h1; exact h1)))
      · rcases List.mem_cons.1 hq with rfl | hq
        · exact six_P3 f j
        · rw [← List.map_cons, ← List.map_append] at hq
          obtain ⟨e, _, rfl⟩ := List.mem_map.1 hq
          exact six_pl e
    · rw [upL_other _ _ hjk]
      refine (h.ring j hj).same (fun q hq => T.fld q 4 (plc_six hq) (by decide) (not_ex (.inr (by decide)) (.inr (by decide)) (.inl (h.plc_ap hj hk hjk hq ia)))) (fun q hq => ?_)
      have hq' : q ∈ plc f L j := by
        rcases List.mem_append.1 hq with e | e
        · exact List.mem_cons_of_mem _ e
        · rw [List.mem_singleton.1 e]; exact List.mem_cons_self ..
      exact T.fld q 3 (plc_six hq') (by decide) (not_ex (.inr (by decide)) (.inl (h.plc_ap hj hk hjk hq' ic)) (.inr (by decide)))
  · by_cases hjk : j = k
    · subst hjk
      rw [upL_same]
      exact List.Nodup.sublist (((List.Sublist.refl A).append (List.sublist_cons_self x B)).map _) nds
    · rw [upL_other _ _ hjk]; exact h.nd j hj
  · by_cases hjk : j = k
    · subst hjk
      rw [upL_same] at he
      intro e1
      rw [List.map_append, List.map_cons, List.nodup_append, List.nodup_cons] at nds
      rcases List.mem_append.1 he with h1 | h1
      · exact nds.2.2 _ (List.mem_map.2 ⟨e, h1, rfl⟩) _ (by simp) e1
      · exact nds.2.1.1 (List.mem_map.2 ⟨e, h1, e1⟩)
    · rw [upL_other _ _ hjk] at he
      exact h.ap j k hj hk hjk e he x hx
end
end Go.Proofs.YtdkiegkgnimapabDoor.Sgg
