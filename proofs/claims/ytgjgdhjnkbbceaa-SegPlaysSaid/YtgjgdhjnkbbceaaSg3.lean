/- New, Add, Touch, Remove. -/
import Derived.Test.YtgjgdhjnkbbceaaSg2
set_option linter.unusedVariables false
set_option linter.unusedSimpArgs false
set_option maxRecDepth 8000
namespace Go.Proofs.Ytgjgdhjnkbbceaa
open Go.RowKit Go.Deep Sgm

def foot (f m : Nat) (L : Nat → List En) : List Nat := m :: foot0 f L
/-- A Seg in memory: its three lists, the blocks that are its own. -/
def SM (w : World) (f : Nat) (s : St) (F : List Nat) : Prop := ∃ m L M, SMx w f m L M ∧ st L = s ∧ F = foot f m L
section
variable {w w' : World} {f m n k j : Nat} {L L' : Nat → List En} {F : List Nat} {A B : List En} {x : En} {M : Int → Option Nat} {i : Int} {b : Nat} {s : St}
theorem SMx.same (h : SMx w f m L M) (e : ∀ b ∈ foot f m L, w'.heap[b]? = w.heap[b]?) : SMx w' f m L M :=
  ⟨h.sg.sameF (fun b hb => e b (List.mem_cons_of_mem _ hb)), h.mp.same (e m (List.mem_cons_self ..)), h.at_, h.nd, h.i64⟩
theorem SM.same (h : SM w f s F) (e : ∀ b ∈ F, w'.heap[b]? = w.heap[b]?) : SM w' f s F := by
  obtain ⟨m, L, M, h1, h2, rfl⟩ := h
  exact ⟨m, L, M, h1.same e, h2, rfl⟩
theorem SM.lt (h : SM w f s F) : ∀ b ∈ F, b < w.heap.size := by
  obtain ⟨m, L, M, h1, h2, rfl⟩ := h
  intro b hb
  rcases List.mem_cons.1 hb with rfl | hb
  · exact h1.mp.lt
  · exact h1.sg.foot_lt b hb
theorem SM.below (h : SM w f s F) (k : Below w.heap.size w w') : SM w' f s F := h.same (fun b hb => k.block b (h.lt b hb))
/-- The blocks of a Seg are of its own types. -/
theorem SM.ty (h : SM w f s F) : ∀ b ∈ F, ∀ c t, w.heap[b]? = some (.cells c t (0, 0)) → t = 48 ∨ t = 52 := by
  obtain ⟨m, L, M, h1, h2, rfl⟩ := h
  intro b hb c t hc
  rcases List.mem_cons.1 hb with rfl | hb
  · obtain ⟨es, q, he⟩ := h1.mp.isMap
    rw [he] at hc; cases hc
  · rcases mem_foot0.1 hb with rfl | ⟨k, hk, e, he, rfl⟩
    · obtain ⟨X, _, hX⟩ := h1.sg.own
      unfold Blk at hX
      rw [hX] at hc
      simp at hc
      exact .inr hc.2.symm
    · obtain ⟨X, _, hX⟩ := (h1.sg.node k hk e he).sh
      unfold Blk at hX
      rw [hX] at hc
      simp at hc
      exact .inl hc.2.symm
theorem SM.nd (h : SM w f s F) : s.Nd := by
  obtain ⟨m, L, M, h1, rfl, rfl⟩ := h
  exact h1.nd
theorem SM.i64 (h : SM w f s F) : ∀ i ∈ ids s.all, I64 i := by
  obtain ⟨m, L, M, h1, rfl, rfl⟩ := h
  exact h1.i64
theorem len_m (h : SM w f s F) : Calls Try.prog 14 #[.pointer (some ⟨f, 0, none⟩)] w fun e w' => e = .returned (.int .i64 (s.all.length : Int)) ∧ w' = w := by
  obtain ⟨m, L, M, h1, rfl, rfl⟩ := h
  exact len_x h1

/-! ### Touch -/
def tchE (i : Int) (e : En) : En := if e.id = i then ⟨e.b, e.id, true⟩ else e
theorem tchE_b (i : Int) (e : En) : (tchE i e).b = e.b := by unfold tchE; split <;> rfl
theorem tchE_id (i : Int) (e : En) : (tchE i e).id = e.id := by unfold tchE; split <;> rfl
theorem st_tch : st (fun k => (L k).map (tchE i)) = tchS i (st L) := by
  have key : ∀ l : List En, (l.map (tchE i)).map kv = setU i (l.map kv) := fun l => by
    unfold setU
    rw [List.map_map, List.map_map]
    apply List.map_congr_left
    intro e _
    simp only [Function.comp, kv, tchE]
    by_cases h : e.id = i <;> simp [h]
  simp [st, tchS, key]
theorem at_tch {i' : Int} : AtB (fun k => (L k).map (tchE i)) i' b ↔ AtB L i' b := by
  constructor
  · rintro ⟨k, hk, e, he, h1, h2⟩
    obtain ⟨e', he', rfl⟩ := List.mem_map.1 he
    exact ⟨k, hk, e', he', by rw [← h1, tchE_id], by rw [← h2, tchE_b]⟩
  · rintro ⟨k, hk, e, he, h1, h2⟩
    exact ⟨k, hk, tchE i e, List.mem_map.2 ⟨e, he, rfl⟩, by rw [tchE_id]; exact h1, by rw [tchE_b]; exact h2⟩
theorem nd_inj : ∀ {l : List En}, (l.map En.b).Nodup → ∀ {a c : En}, a ∈ l → c ∈ l → a.b = c.b → a = c
  | [], _, a, c, ha, _, _ => by cases ha
  | y :: l, h, a, c, ha, hc, e => by
    rw [List.map_cons, List.nodup_cons] at h
    rcases List.mem_cons.1 ha with h1 | h1 <;> rcases List.mem_cons.1 hc with h2 | h2
    · rw [h1, h2]
    · exact absurd (List.mem_map.2 ⟨c, h2, by rw [← e, h1]⟩) h.1
    · exact absurd (List.mem_map.2 ⟨a, h1, by rw [e, h2]⟩) h.1
    · exact nd_inj h.2 h1 h2 e
theorem SMx.one (h : SMx w f m L M) (hM : M i = some b) {j : Nat} (hj : j < 3) {e : En} (he : e ∈ L j) : e.id = i ↔ e.b = b := by
  constructor
  · intro h1
    have := (h.at_ i e.b).2 ⟨j, hj, e, he, h1, rfl⟩
    rw [hM] at this
    exact (Option.some.inj this).symm
  · intro h1
    obtain ⟨k, hk, e', he', h2, h3⟩ := (h.at_ i b).1 hM
    by_cases hjk : j = k
    · subst hjk
      have hn := h.sg.nd j hj
      have : e = e' := nd_inj hn he he' (h1.trans h3.symm)
      rw [this]; exact h2
    · exact absurd (h1.trans h3.symm) (h.sg.ap j k hj hk hjk e he e' he')
theorem SMx.touch (h : SMx w f m L M) (hM : M i = some b) : SMx (w.setCell ⟨b, 1, none⟩ (.bool true)) f m (fun k => (L k).map (tchE i)) M ∧ (∃ u, w.cell? ⟨b, 1, none⟩ = some (.bool u)) ∧ w.frozen? ⟨b, 1, none⟩ = false ∧ b ∈ foot0 f L := by
  obtain ⟨k0, hk0, e0, he0, h01, h02⟩ := (h.at_ i b).1 hM
  have n0 := h.sg.node k0 hk0 e0 he0
  rw [← h02] at hM ⊢
  have T : Tn [((e0.b, 0), 1)] w (w.setCell ⟨e0.b, 1, none⟩ (.bool true)) := (Tn.refl w).set (pl e0) 1 _ (six_pl e0) (by decide)
  have hp : ∀ k, ((L k).map (tchE i)).map pl = (L k).map pl := fun k => by
    rw [List.map_map]
    apply List.map_congr_left
    intro e _
    simp only [Function.comp, pl, tchE_b]
  have hb : ∀ k, ((L k).map (tchE i)).map En.b = (L k).map En.b := fun k => by
    rw [List.map_map]
    apply List.map_congr_left
    intro e _
    simp only [Function.comp, tchE_b]
  have nf : ∀ {q : Pl} {s : Nat}, s ≠ 1 → (q, s) ∉ [((e0.b, 0), 1)] := fun {q s} hs hm => by
    simp only [List.mem_singleton, Prod.mk.injEq] at hm
    exact hs hm.2
  have sz : (st (fun k => (L k).map (tchE i))).all.length = (st L).all.length := by
    have := tch_ids i (st L)
    rw [st_tch]
    have := congrArg List.length this
    simpa [ids] using this
  obtain ⟨es, c, hes⟩ := h.mp.isMap
  have f0 : e0.b ∈ foot0 f L := mem_foot0.2 (.inr ⟨k0, hk0, e0, he0, rfl⟩)
  refine ⟨⟨⟨T.sh _ _ _ h.sg.own, (T.fld (f, 18) 0 (six_18 f) (by decide) (nf (by decide))).trans h.sg.mp, fun k hk => ?_, fun k hk => ?_, fun k hk e he => ?_, fun k hk e he => ?_, fun k hk => ?_, fun j k hj hk hjk e he e' he' => ?_, List.mem_cons_self .., fun k hk e he => mem_foot0.2 (.inr ⟨k, hk, e, he, rfl⟩)⟩, ?_, fun i b => (h.at_ i b).trans at_tch.symm, ?_, fun i' hi' => ?_⟩, ⟨_, n0.c1⟩, n0.sh.frozen 1, f0⟩
  · rw [List.length_map]
    exact (T.fld _ 5 (six_P3 f k) (by decide) (nf (by decide))).trans (h.sg.cnt k hk)
  · rw [hp]
    exact (h.sg.ring k hk).same (fun q hq => T.fld q 4 (plc_six hq) (by decide) (nf (by decide))) (fun q hq => T.fld q 3 (by
      rcases List.mem_append.1 hq with e | e
      · obtain ⟨y, _, rfl⟩ := List.mem_map.1 e; exact six_pl y
      · rw [List.mem_singleton.1 e]; exact six_P3 f k) (by decide) (nf (by decide)))
  · obtain ⟨e', he', rfl⟩ := List.mem_map.1 he
    have n1 := h.sg.node k hk e' he'
    have ho := h.one hM hk he'
    refine ⟨by rw [tchE_b]; exact T.sh _ _ _ n1.sh, ?_, ?_⟩
    · rw [tchE_id, show pl (tchE i e') = pl e' by unfold pl; rw [tchE_b]]
      exact (T.fld _ 0 (six_pl e') (by decide) (nf (by decide))).trans n1.c0
    · rw [show pl (tchE i e') = pl e' by unfold pl; rw [tchE_b]]
      by_cases hid : e'.id = i
      · have hbb := ho.1 hid
        unfold tchE
        rw [if_pos hid]
        unfold pl
        rw [hbb]
        exact fc_same (p := pl e0) (r := 1) n0.sh (by simp [pl])
      · unfold tchE
        rw [if_neg hid]
        refine (T.fld _ 1 (six_pl e') (by decide) (fun hm => ?_)).trans n1.c1
        simp only [List.mem_singleton, Prod.mk.injEq, and_true, pl] at hm
        exact hid (ho.2 hm)
  · obtain ⟨e', he', rfl⟩ := List.mem_map.1 he
    rw [show pl (tchE i e') = pl e' by unfold pl; rw [tchE_b]]
    exact (T.fld _ 2 (six_pl e') (by decide) (nf (by decide))).trans (h.sg.lin k hk e' he')
  · rw [hb]; exact h.sg.nd k hk
  · obtain ⟨y, hy, rfl⟩ := List.mem_map.1 he
    obtain ⟨y', hy', rfl⟩ := List.mem_map.1 he'
    rw [tchE_b, tchE_b]
    exact h.sg.ap j k hj hk hjk y hy y' hy'
  · rw [sz]
    exact h.mp.same (blk_setCell_other _ _ _ _ (fun e => h.sg.foot_off hes e0.b f0 e.symm))
  · rw [st_tch]; exact tch_nd h.nd
  · rw [st_tch, tch_ids] at hi'; exact h.i64 i' hi'
theorem tch_same {s : St} (h : s.has i = false) : tchS i s = s := by
  have key : ∀ l : List Nd, (∀ x ∈ l, x ∈ s.all) → setU i l = l := fun l hl => by
    unfold setU
    conv => rhs; rw [← List.map_id l]
    apply List.map_congr_left
    intro x hx
    have : x.1 ≠ i := fun e => by
      have : s.has i = true := by
        unfold St.has
        rw [decide_eq_true_eq, ← e]
        exact List.mem_map.2 ⟨x, hl x hx, rfl⟩
      rw [h] at this; cases this
    rw [if_neg this]; rfl
  obtain ⟨sh, sw, sc⟩ := s
  simp only [tchS, St.mk.injEq]
  exact ⟨key sh (fun x hx => by simp [St.all, hx]), key sw (fun x hx => by simp [St.all, hx]), key sc (fun x hx => by simp [St.all, hx])⟩
theorem foot_of_at (f m : Nat) (h : ∀ i b, AtB L' i b ↔ AtB L i b) : ∀ b, b ∈ foot f m L' ↔ b ∈ foot f m L := fun b => by
  unfold foot
  rw [List.mem_cons, List.mem_cons, foot0_at, foot0_at]
  simp only [h]
set_option maxHeartbeats 1000000 in
theorem touch_m (h : SM w f s F) (hi : I64 i) : Calls Try.prog 12 #[.pointer (some ⟨f, 0, none⟩), .int .i64 i] w fun e w' => e = .returned (.bool (s.has i)) ∧ ∃ F', SM w' f (tchS i s) F' ∧ Moves F F' w w' := by
  obtain ⟨m, L, M, h1, rfl, rfl⟩ := h
  have c18 : w.cell? ⟨f, 18, none⟩ = some (.map (some m)) := h1.sg.mp
  have hl := h1.mp.look hi
  have hh := h1.has i
  cases hM : M i with
  | none =>
    rw [hM] at hl hh
    have HE : Hid (∃ F', SM w f (tchS i (st L)) F' ∧ Moves (foot f m L) F' w w) := ⟨_, ⟨m, L, M, h1, by rw [tch_same hh], rfl⟩, Moves.refl _ _⟩
    rw [hh]
    simp only [ptrV] at hl
    clear h1 hh hM
    go_enter Try.func12, Try.ntmps12
    go_wp2
    go_ret
    exact ⟨rfl, HE.out⟩
  | some b =>
    rw [hM] at hl hh
    obtain ⟨t1, ⟨u, t2⟩, t3, t4⟩ := h1.touch hM
    have HE : Hid (∃ F', SM (w.setCell ⟨b, 1, none⟩ (.bool true)) f (tchS i (st L)) F' ∧ Moves (foot f m L) F' w (w.setCell ⟨b, 1, none⟩ (.bool true))) := by
      refine ⟨_, ⟨m, _, M, t1, st_tch, rfl⟩, (Keep.refl _ w).setCell (.inl (List.mem_cons_of_mem _ t4)) _, fun q hq => .inl ?_⟩
      exact (foot_of_at f m (fun _ _ => at_tch) q).1 hq
    rw [hh]
    simp only [ptrV] at hl
    clear h1 hh hM t1 t4
    go_enter Try.func12, Try.ntmps12
    go_wp2
    go_ret
    exact ⟨rfl, HE.out⟩
end
end Go.Proofs.Ytgjgdhjnkbbceaa
