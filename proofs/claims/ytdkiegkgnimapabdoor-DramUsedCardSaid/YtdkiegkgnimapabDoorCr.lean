/- A cache that was cleared, and great ones in it. -/
import Derived.Test.YtdkiegkgnimapabDoorAw
set_option linter.unusedVariables false
set_option linter.unusedSimpArgs false
set_option maxRecDepth 8000
namespace Go.Proofs.YtdkiegkgnimapabDoor
open Go.RowKit Go.Deep Drm Go.Shelf
open Slb (Pg tkE tkL tkC pfor tot clr many owns free)
open Sgm (evi ids)
open Tbl (txt)
open Math
/-- Every page that has any has great ones. -/
def All5 (l : List Pg) : Prop := ∀ p ∈ l, p.t = 0 ∨ p.c = 5
theorem small5 {p : Pg} (h : p.Ok) (h5 : p.t = 0 ∨ p.c = 5) : p.t < 4 := by
  rcases h with ⟨_, h0⟩ | ⟨c, _, hc, ht⟩
  · omega
  · rcases h5 with h0 | h5
    · omega
    · have : c = 5 := by omega
      subst this
      exact ht
theorem pop4 {t : Nat} (h : t < 4) : pop 64 t ≤ 2 := by
  rcases (show t = 0 ∨ t = 1 ∨ t = 2 ∨ t = 3 by omega) with rfl | rfl | rfl | rfl <;> decide
theorem cap5 : ∀ {l : List Pg}, Slb.Good l → All5 l → tot l ≤ 2 * l.length
  | [], _, _ => Nat.le_refl _
  | p :: l, hg, h5 => by
    have h1 := cap5 (l := l) (fun q hq => hg q (List.mem_cons_of_mem _ hq)) (fun q hq => h5 q (List.mem_cons_of_mem _ hq))
    have h2 := pop4 (small5 (hg p (by simp)) (h5 p (by simp)))
    simp only [tot, List.length_cons]
    omega
theorem tot3 : ∀ {l : List Pg}, (∀ p ∈ l, p.t = 3) → tot l = 2 * l.length
  | [], _ => rfl
  | p :: l, h => by
    have h1 := tot3 (l := l) (fun q hq => h q (List.mem_cons_of_mem _ hq))
    have h2 : pop 64 p.t = 2 := by rw [h p (by simp)]; decide
    simp only [tot, List.length_cons]
    omega
theorem full5 {l : List Pg} (hg : Slb.Good l) (h5 : All5 l) (h : pfor 5 l = none) : tot l = 2 * l.length := by
  refine tot3 (fun p hp => ?_)
  unfold pfor at h
  rw [Option.or_eq_none_iff, Option.or_eq_none_iff, List.findIdx?_eq_none_iff, List.findIdx?_eq_none_iff, List.findIdx?_eq_none_iff] at h
  obtain ⟨a1, _, a3⟩ := h
  have b1 := a1 p hp
  have b3 := a3 p hp
  unfold Slb.free at b3
  simp only [decide_eq_false_iff_not] at b3
  have hc : p.c = 5 := (h5 p hp).resolve_left b3
  have h4 := small5 (hg p hp) (.inr hc)
  unfold Slb.owns at b1
  rcases (show p.t = 0 ∨ p.t = 1 ∨ p.t = 2 ∨ p.t = 3 by omega) with e | e | e | e
  · exact absurd e b3
  · rw [hc, e] at b1; exact absurd b1 (by decide)
  · rw [hc, e] at b1; exact absurd b1 (by decide)
  · exact e
theorem tk5 {l : List Pg} (hg : Slb.Good l) (h5 : All5 l) (h : tot l < 2 * l.length) : tkE 5 l = 0 := by
  cases hp : pfor 5 l with
  | none => have := full5 hg h5 hp; omega
  | some a =>
    obtain ⟨p, hpa, _⟩ := Slb.pfor_ok (by decide) hg hp
    exact (Slb.tk_some hp hpa).2.1
theorem take5 {l : List Pg} (hg : Slb.Good l) (h5 : All5 l) (h : tkE 5 l = 0) : All5 (tkL 5 l) := by
  cases hp : pfor 5 l with
  | none => rw [(Slb.tk_none hp).2.1] at h; omega
  | some a =>
    obtain ⟨p, hpa, _⟩ := Slb.pfor_ok (by decide) hg hp
    rw [(Slb.tk_some hp hpa).2.2]
    intro q hq
    unfold Slb.tkn at hq
    rcases List.mem_or_eq_of_mem_set hq with h1 | h1
    · exact h5 q h1
    · rw [h1]; exact .inr rfl
theorem clr5 {l : List Pg} (h5 : All5 l) (n : Nat) : All5 (clr l n) := by
  unfold clr
  split
  · rename_i p hp
    intro q hq
    rcases List.mem_or_eq_of_mem_set hq with h1 | h1
    · exact h5 q h1
    · rw [h1]
      rcases h5 p (List.mem_of_getElem? hp) with h2 | h2
      · exact .inl (by show p.t - _ = 0; rw [h2, Nat.zero_sub])
      · exact .inr h2
  · exact h5
theorem tot_ge : ∀ {l : List Pg} {p : Pg}, p ∈ l → pop 64 p.t ≤ tot l
  | q :: l, p, h => by
    simp only [tot]
    rcases List.mem_cons.1 h with rfl | h
    · omega
    · have := tot_ge h; omega
theorem none5 {d : Dm} (h : Iv d) (h0 : d.it = []) : All5 d.pg := fun p hp => by
  have h1 := h.tot
  rw [h0] at h1
  have h2 := tot_ge hp
  refine .inl (Classical.byContradiction fun e => ?_)
  have := pop_pos (n := 64) (h.good.fit p hp) e
  simp at h1
  omega
theorem none_items {d : Dm} (h : Iv d) (h0 : d.it = []) : ∀ k, k ≤ 6 → itemsTo d k = []
  | 0, _ => rfl
  | k + 1, hk => by
    have h1 := none_items h h0 k (by omega)
    have h2 : ids (d.sg k).all = [] := by
      apply List.eq_nil_iff_forall_not_mem.2
      intro i hi
      have := ((h.seg k (by omega) i).1 hi).1
      rw [h0] at this
      simp [nums] at this
    unfold itemsTo
    rw [h1, h2]
    rfl
theorem dropAll_pg : ∀ (l : List Int) (d : Dm), (dropAll l d).pg.length = d.pg.length
  | [], _ => rfl
  | i :: l, d => (dropAll_pg l (dropD i d)).trans (Slb.clr_len _ _)
/-- One great one more where there is room. -/
theorem more5 {d : Dm} (h : Iv d) (h5 : All5 d.pg) {o : Ou} (hk : o.x.k ∉ kys d.it) (hl : d.it.length < 2 * d.pg.length) : putG 5 o d = [] ∧ (putD 5 o d).it.length = d.it.length + 1 ∧ All5 (putD 5 o d).pg ∧ kys (putD 5 o d).it = kys d.it ++ [o.x.k] := by
  have hd : delD o.x.k d = d := delD_none (kfd_none.2 hk)
  have ht := tk5 h.good h5 (by rw [← h.tot]; exact hl)
  unfold putG putD
  rw [hd, room_stop ht]
  exact ⟨rfl, by simp [addD], take5 h.good h5 ht, by simp [addD, kys]⟩
/-- And where there is none: one is let go. -/
theorem last5 {d : Dm} (h : Iv d) (h5 : All5 d.pg) {o : Ou} (hk : o.x.k ∉ kys d.it) (hl : d.it.length = 2 * d.pg.length) : (putG 5 o d).length = 1 ∧ (putD 5 o d).it.length = d.it.length := by
  have hd : delD o.x.k d = d := delD_none (kfd_none.2 hk)
  have he : tkE 5 d.pg ≠ 0 := fun ht => by
    have h1 := (Slb.take_bits (cl := 5) (by decide) h.good ht).2.2.1
    have h2 := cap5 (Slb.tkL_good (cl := 5) (by decide) h.good) (take5 h.good h5 ht)
    rw [Slb.tkL_len] at h2
    have := h.tot
    omega
  obtain ⟨i, hi⟩ := h.giver (by decide) he
  obtain ⟨h2, hm⟩ := h.evict (giv_lt (by decide) d) hi
  have hlen := outN_len h.nd hm
  obtain ⟨p, hp⟩ : ∃ p, lok i d.it = some p := Option.isSome_iff_exists.1 (lok_isSome.2 hm)
  have hst := room_step h (by decide) he hi hp
  have ht : tkE 5 (evD (giv 5 d) i d).pg = 0 := by
    refine tk5 h2.good (clr5 h5 _) ?_
    rw [← h2.tot, show (evD (giv 5 d) i d).pg.length = d.pg.length from Slb.clr_len _ _]
    show (outN i d.it).length < _
    omega
  unfold putG putD
  rw [hd, hst, room_stop ht]
  refine ⟨rfl, ?_⟩
  show ((outN i d.it) ++ [_]).length = _
  rw [List.length_append]
  simpa using hlen
/-- A text of one byte. -/
theorem conv1 {W : World} {N : Nat} (z : UInt8) (h : W.cell? ⟨N, 0, none⟩ = some (.int .u8 (z.toNat : Int))) : (convert 37 9 (.slice (some ⟨N, 0, none⟩) 1 1)).run Tryd.prog W = .ok (.string (txt [z])) W := by
  exact run_convert_bytes_back W 37 9 5 ⟨N, 0, none⟩ 1 [z] Tryd.underlying37 Tryd.underlying5 Tryd.underlying9 (fun j hj => by
    have : j = 0 := by simpa using hj
    subst this
    rw [Addr.add_lit, Nat.zero_add, h]
    rfl)
end Go.Proofs.YtdkiegkgnimapabDoor
