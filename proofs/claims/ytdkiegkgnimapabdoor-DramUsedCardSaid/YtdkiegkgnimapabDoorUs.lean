/- One that is asked for between any two that come is never let go. -/
import Derived.Test.YtdkiegkgnimapabDoorCr
set_option linter.unusedVariables false
set_option linter.unusedSimpArgs false
set_option maxRecDepth 8000
namespace Go.Proofs.YtdkiegkgnimapabDoor.Sgm
/-- Only i may be used. -/
def One (i : Int) (s : St) : Prop := ∀ x ∈ s.all, x.2 = true → x.1 = i
theorem one_of {i : Int} {s t : St} (h : One i s) (hs : ∀ x ∈ t.all, x.2 = false ∨ x ∈ s.all) : One i t := fun x hx h2 => by
  rcases hs x hx with h3 | h3
  · rw [h3] at h2; cases h2
  · exact h x h3 h2
theorem one_stp {i : Int} {s : St} (h : One i s) (k : Nat) : One i (stp k s) := by
  refine one_of h (fun x hx => ?_)
  unfold stp at hx
  split at hx
  · exact .inr hx
  · rename_i y hy
    have sub : ∀ {l : List Nd}, x ∈ l.dropLast → x ∈ l := fun h => List.dropLast_subset _ h
    split at hx
    · split at hx
      · simp only [St.all, List.mem_append, List.mem_cons] at hx ⊢
        rcases hx with (h1 | rfl | h1) | h1
        · exact .inr (.inl (.inl (sub h1)))
        · exact .inl rfl
        · exact .inr (.inl (.inr h1))
        · exact .inr (.inr h1)
      · simp only [St.all, List.mem_append, List.mem_cons] at hx ⊢
        rcases hx with (h1 | h1) | rfl | h1
        · exact .inr (.inl (.inl (sub h1)))
        · exact .inr (.inl (.inr h1))
        · exact .inl rfl
        · exact .inr (.inr h1)
    · split at hx
      · simp only [St.all, List.mem_append, List.mem_cons] at hx ⊢
        rcases hx with (h1 | rfl | h1) | h1
        · exact .inr (.inl (.inl h1))
        · exact .inl rfl
        · exact .inr (.inl (.inr (sub h1)))
        · exact .inr (.inr h1)
      · simp only [St.all, List.mem_append, List.mem_cons] at hx ⊢
        rcases hx with (h1 | h1) | rfl | h1
        · exact .inr (.inl (.inl h1))
        · exact .inr (.inl (.inr (sub h1)))
        · exact .inl rfl
        · exact .inr (.inr h1)
    · simp only [St.all, List.mem_append, List.mem_cons] at hx ⊢
      rcases hx with (h1 | rfl | h1) | h1
      · exact .inr (.inl (.inl h1))
      · exact .inl rfl
      · exact .inr (.inl (.inr h1))
      · exact .inr (.inr (sub h1))
theorem one_bal {i : Int} {s : St} (h : One i s) (n : Nat) : One i (balS n s) :=
  (snk_ind (k := 1) (by decide) (One i) (fun s h _ => one_stp h 1) (snk_ind (k := 0) (by decide) (One i) (fun s h _ => one_stp h 0) h).1).1
theorem one_add {i j : Int} {s : St} (h : One i s) : One i (addS j s) := by
  unfold addS
  split
  · exact h
  · refine one_bal ?_ _
    refine one_of h (fun x hx => ?_)
    simp only [St.all, List.mem_append, List.mem_cons] at hx ⊢
    rcases hx with ((rfl | h1) | h1) | h1
    · exact .inl rfl
    · exact .inr (.inl (.inl h1))
    · exact .inr (.inl (.inr h1))
    · exact .inr (.inr h1)
theorem one_evi {i : Int} {s : St} (h : One i s) : One i (eviS s) := by
  have h1 : One i (spr s) := (spr_ind (One i) (fun s h _ => one_stp h 2) h).1
  unfold eviS
  split
  · refine one_of h1 (fun x hx => ?_)
    rw [rmv_all] at hx
    unfold outI at hx
    exact .inr (List.mem_filter.1 hx).1
  · exact h1
theorem mem_setU {i : Int} {l : List Nd} {x : Nd} (h : x ∈ setU i l) : x.1 = i ∨ x ∈ l := by
  unfold setU at h
  obtain ⟨y, hy, e⟩ := List.mem_map.1 h
  split at e
  · exact .inl (by rw [← e])
  · exact .inr (e ▸ hy)
theorem one_tch {i : Int} {s : St} (h : One i s) : One i (tchS i s) := fun x hx h2 => by
  simp only [St.all, tchS, List.mem_append] at hx
  rcases hx with (h1 | h1) | h1
  · rcases mem_setU h1 with h3 | h3
    · exact h3
    · exact h x (by simp [St.all, h3]) h2
  · rcases mem_setU h1 with h3 | h3
    · exact h3
    · exact h x (by simp [St.all, h3]) h2
  · rcases mem_setU h1 with h3 | h3
    · exact h3
    · exact h x (by simp [St.all, h3]) h2
def Shr (s : St) : Prop := s.h.length ≤ (s.all.length + 4) / 5 ∧ s.w.length ≤ 2 * s.all.length / 5
theorem shr_tch {i : Int} {s : St} (h : Shr s) : Shr (tchS i s) := by
  unfold Shr at h ⊢
  rw [tch_len]
  simpa [tchS, setU] using h
theorem one_spare {i : Int} {s : St} (hn : s.Nd) (h1 : One i s) (h2 : ∀ x ∈ s.all, x.1 = i → x.2 = true) (hs : Shr s) (h8 : 8 ≤ s.all.length) : ∃ j, evi s = some j ∧ j ≠ i := by
  refine spare_one hn h1 h2 ?_
  obtain ⟨a, b⟩ := hs
  have h3 : s.all.length = s.h.length + s.w.length + s.c.length := by simp [St.all, Nat.add_assoc]
  omega
end Go.Proofs.YtdkiegkgnimapabDoor.Sgm
namespace Go.Proofs.YtdkiegkgnimapabDoor
open Go.RowKit Go.Deep Drm
open Slb (Pg tkE tkL tkC pfor tot clr bitAt clsAt)
open Sgm (evi ids One Shr)
def uK : List UInt8 := [117, 115, 101, 100]
def xK (i : Nat) : List UInt8 := [UInt8.ofNat (i + 1), 120]
theorem cls5 {l : List Pg} (h5 : All5 l) {m : Nat} (hb : bitAt l m = true) : clsAt l m = 5 := by
  unfold bitAt at hb
  unfold clsAt
  cases hp : l[m / 64]? with
  | none => rw [hp] at hb; cases hb
  | some p =>
    rw [hp] at hb
    simp only at hb ⊢
    rcases h5 p (List.mem_of_getElem? hp) with h0 | h0
    · rw [h0] at hb; simp at hb
    · exact h0
theorem cls_is5 {d : Dm} (h : Iv d) (h5 : All5 d.pg) {i : Int} (hi : i ∈ nums d.it) : clsAt d.pg i.toNat = 5 := by
  obtain ⟨n, rfl, hb, _⟩ := h.num hi
  exact cls5 h5 hb
theorem seg5_len {d : Dm} (h : Iv d) (h5 : All5 d.pg) : (d.sg 5).all.length = d.it.length := by
  have hp : (ids (d.sg 5).all).Perm (nums d.it) := (List.perm_ext_iff_of_nodup (h.snd 5 (by decide)) h.nd).2 (fun i => by
    rw [h.seg 5 (by decide) i]
    exact ⟨fun x => x.1, fun x => ⟨x, cls_is5 h h5 x⟩⟩)
  have := hp.length_eq
  simpa [ids, nums] using this
structure Held (n i : Nat) (j0 : Int) (d : Dm) : Prop where
  pg : d.pg.length = n
  a5 : All5 d.pg
  fd : kfd uK d.it = some j0
  lk : lok j0 d.it = some ⟨bigI uK, false⟩
  ky : ∀ k ∈ kys d.it, k = uK ∨ ∃ j, j < i ∧ k = xK j
  us : One j0 (d.sg 5)
theorem xK_ne {i : Nat} (hi : i ≤ 40) {n : Nat} {j0 : Int} {d : Dm} (h : Held n i j0 d) : xK i ∉ kys d.it := fun hm => by
  rcases h.ky _ hm with h1 | ⟨j, hj, h1⟩
  · have := congrArg List.length h1
    simp [xK, uK] at this
  · have h2 := congrArg (fun l => l.map UInt8.toNat) h1
    simp only [xK, List.map_cons, List.map_nil, List.cons.injEq, and_true] at h2
    rw [UInt8.toNat_ofNat', UInt8.toNat_ofNat', Nat.mod_eq_of_lt (by omega), Nat.mod_eq_of_lt (by omega)] at h2
    omega
theorem held_add {n i : Nat} {j0 : Int} {d : Dm} (hI : Iv d) (h : Held n i j0 d) (hk : xK i ∉ kys d.it) (ht : tkE 5 d.pg = 0) : Held n (i + 1) j0 (addD 5 ⟨bigI (xK i), false⟩ d) ∧ Shr ((addD 5 ⟨bigI (xK i), false⟩ d).sg 5) := by
  have hf := hI.fresh (cl := 5) (by decide) ht
  have hne : j0 ≠ (tkC 5 d.pg : Int) := fun e => hf.1 (by rw [← e]; exact (hI.key h.fd).choose_spec.2.2.2)
  have hsg : (addD 5 ⟨bigI (xK i), false⟩ d).sg 5 = Sgm.addS (tkC 5 d.pg : Int) (d.sg 5) := by
    simp [addD, updS]
  refine ⟨⟨(Slb.tkL_len 5 d.pg).trans h.pg, take5 hI.good h.a5 ht, ?_, ?_, fun k hm => ?_, ?_⟩, ?_⟩
  · show kfd uK (d.it ++ [_]) = _
    rw [kfd_snoc hk, if_neg (fun e => by have := congrArg List.length e; simp [bigI, xK, uK] at this)]
    exact h.fd
  · show lok j0 (d.it ++ [_]) = _
    rw [lok_snoc hf.1, if_neg hne]
    exact h.lk
  · rw [show kys (addD 5 ⟨bigI (xK i), false⟩ d).it = kys d.it ++ [xK i] by simp [addD, kys, bigI]] at hm
    rcases List.mem_append.1 hm with h1 | h1
    · rcases h.ky k h1 with h2 | ⟨j, hj, h2⟩
      · exact .inl h2
      · exact .inr ⟨j, by omega, h2⟩
    · exact .inr ⟨i, by omega, List.mem_singleton.1 h1⟩
  · rw [hsg]; exact Sgm.one_add h.us
  · rw [hsg]; exact Sgm.add_shares hf.2.1
/-- A round: it is asked for, and another comes. -/
theorem held_step {n i : Nat} {j0 : Int} {d : Dm} (hI : Iv d) (h : Held n i j0 d) (hs : Shr (d.sg 5)) (hn : 4 ≤ n) (hi : i ≤ 40) : Held n (i + 1) j0 (putD 5 ⟨bigI (xK i), false⟩ (tchD j0 d)) ∧ Shr ((putD 5 ⟨bigI (xK i), false⟩ (tchD j0 d)).sg 5) := by
  have hj : j0 ∈ nums d.it := (hI.key h.fd).choose_spec.2.2.2
  have hc5 : Drm.cls j0 d = 5 := by unfold Drm.cls; rw [cls_is5 hI h.a5 hj]; rfl
  have hT := hI.tch hj
  have hsg : (tchD j0 d).sg 5 = Sgm.tchS j0 (d.sg 5) := by
    unfold tchD
    rw [hc5]
    simp [addD, updS]
  have hit : (tchD j0 d).it = d.it := rfl
  have hpg : (tchD j0 d).pg = d.pg := rfl
  have hk : xK i ∉ kys (tchD j0 d).it := by rw [hit]; exact xK_ne hi h
  have hH : Held n i j0 (tchD j0 d) := ⟨h.pg, h.a5, h.fd, h.lk, h.ky, by rw [hsg]; exact Sgm.one_tch h.us⟩
  have hS : Shr ((tchD j0 d).sg 5) := by rw [hsg]; exact Sgm.shr_tch hs
  have hU : ∀ x ∈ ((tchD j0 d).sg 5).all, x.1 = j0 → x.2 = true := by rw [hsg]; exact Sgm.tch_used2
  generalize tchD j0 d = D at *
  have hd : delD (bigI (xK i)).k D = D := delD_none (kfd_none.2 hk)
  unfold putD
  rw [hd]
  by_cases ht : tkE 5 D.pg = 0
  · rw [room_stop ht]
    exact held_add hT hH hk ht
  · have hfull : pfor 5 D.pg = none := by
      cases hp : pfor 5 D.pg with
      | none => rfl
      | some a =>
        obtain ⟨p, hpa, _⟩ := Slb.pfor_ok (by decide) hT.good hp
        exact absurd (Slb.tk_some hp hpa).2.1 ht
    have htot := full5 hT.good hH.a5 hfull
    rw [← hT.tot, hH.pg] at htot
    have hl5 := seg5_len hT hH.a5
    have hg : giv 5 D = 5 := by unfold giv; rw [if_pos (by omega)]
    obtain ⟨j, hj1, hj2⟩ := Sgm.one_spare (hT.snd 5 (by decide)) hH.us hU hS (by omega)
    have hj1' : evi (D.sg (giv 5 D)) = some j := by rw [hg]; exact hj1
    obtain ⟨hE, hm⟩ := hT.evict (by decide) hj1
    obtain ⟨p, hp⟩ : ∃ p, lok j D.it = some p := Option.isSome_iff_exists.1 (lok_isSome.2 hm)
    have hst := room_step hT (by decide) ht hj1' hp
    rw [hg] at hst
    have hlen := outN_len hT.nd hm
    have htE : tkE 5 (evD 5 j D).pg = 0 := by
      refine tk5 hE.good (clr5 hH.a5 _) ?_
      rw [← hE.tot, show (evD 5 j D).pg.length = D.pg.length from Slb.clr_len _ _, hH.pg]
      show (outN j D.it).length < _
      omega
    have hpm := (lok_some hT.nd).1 hp
    have hpk : uK ≠ p.x.k := fun e => by
      have h1 := (kfd_some hT.kn (k := uK) (i := j)).2 ⟨p, hpm, e.symm⟩
      rw [hH.fd] at h1
      exact hj2 (Option.some.inj h1).symm
    have hHE : Held n i j0 (evD 5 j D) := by
      refine ⟨(Slb.clr_len _ _).trans hH.pg, clr5 hH.a5 _, ?_, ?_, fun k hk2 => ?_, ?_⟩
      · show kfd uK (outN j D.it) = _
        rw [kfd_outN hT.kn hT.nd hpm, if_neg hpk]
        exact hH.fd
      · show lok j0 (outN j D.it) = _
        rw [lok_outN, if_neg (fun e => hj2 e.symm)]
        exact hH.lk
      · exact hH.ky k (((outN_sub j D.it).map _).subset hk2)
      · show One j0 (updS D.sg 5 (Sgm.eviS (D.sg 5)) 5)
        rw [updS_same]
        exact Sgm.one_evi hH.us
    have hkE : xK i ∉ kys (evD 5 j D).it := fun hm2 => hk (((outN_sub j D.it).map _).subset hm2)
    rw [hst, room_stop htE]
    exact held_add hE hHE hkE htE
/-- The first one. -/
theorem held_first {n : Nat} (h1 : 1 ≤ n) (h2 : n ≤ 1024) : ∃ j0, Held n 0 j0 (putD 5 ⟨bigI uK, false⟩ (new0 n)) ∧ Shr ((putD 5 ⟨bigI uK, false⟩ (new0 n)).sg 5) := by
  have hI := Iv.new n h1 h2
  have h5 : All5 (new0 n).pg := none5 hI rfl
  have ht : tkE 5 (new0 n).pg = 0 := tk5 hI.good h5 (by rw [← hI.tot]; simp [new0]; omega)
  have hd : delD (bigI uK).k (new0 n) = new0 n := rfl
  have hf := hI.fresh (cl := 5) (by decide) ht
  unfold putD
  rw [hd, room_stop ht]
  have hsg : (addD 5 ⟨bigI uK, false⟩ (new0 n)).sg 5 = Sgm.addS (tkC 5 (new0 n).pg : Int) ((new0 n).sg 5) := by
    simp [addD, updS]
  refine ⟨(tkC 5 (new0 n).pg : Int), ⟨?_, take5 hI.good h5 ht, ?_, ?_, fun k hm => ?_, ?_⟩, ?_⟩
  · show (tkL 5 (new0 n).pg).length = n
    rw [Slb.tkL_len]
    simp [new0]
  · show kfd uK ((new0 n).it ++ [_]) = _
    rw [kfd_snoc (by simp [new0, kys])]
    exact if_pos rfl
  · show lok _ ((new0 n).it ++ [_]) = _
    rw [lok_snoc hf.1]
    exact if_pos rfl
  · refine .inl ?_
    have : kys (addD 5 ⟨bigI uK, false⟩ (new0 n)).it = [uK] := by simp [addD, kys, bigI, new0]
    rw [this] at hm
    exact List.mem_singleton.1 hm
  · rw [hsg]
    exact Sgm.one_add (fun x hx => by simp [new0, Sgm.St0, Sgm.St.all] at hx)
  · rw [hsg]; exact Sgm.add_shares hf.2.1
end Go.Proofs.YtdkiegkgnimapabDoor
