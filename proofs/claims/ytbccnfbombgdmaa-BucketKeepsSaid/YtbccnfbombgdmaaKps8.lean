/- What was put last, and not left out since: a list beside the store. -/
import Derived.Test.YtbccnfbombgdmaaFst8
set_option linter.unusedVariables false
set_option linter.unusedSimpArgs false
set_option maxRecDepth 8000
namespace Go.Proofs.Ytbccnfbombgdmaa
open Go.RowKit Go.Deep Math

def keysOf (xs : List It) : List (List UInt8) := xs.map (·.key)
def clr (b : Nat) (f : Nat → List It) : Nat → List It := fun k => if k = b then [] else f k
theorem allF_succ (n : Nat) (f : Nat → List It) : allF (n + 1) f = allF n f ++ f n := by
  unfold allF
  rw [List.range_succ, List.flatMap_append, List.flatMap_cons, List.flatMap_nil, List.append_nil]
theorem all_split (b : Nat) (f : Nat → List It) : ∀ n, b < n → (allF n f).Perm (f b ++ allF n (clr b f))
  | 0, h => by omega
  | n + 1, h => by
    rw [allF_succ, allF_succ]
    by_cases e : b = n
    · subst e
      have h1 : allF b (clr b f) = allF b f := all_congr (fun k hk => by unfold clr; rw [if_neg (by omega)])
      have h2 : clr b f b = [] := by unfold clr; rw [if_pos rfl]
      rw [h1, h2, List.append_nil]
      exact List.perm_append_comm
    · have ih := all_split b f n (by omega)
      have h2 : clr b f n = f n := by unfold clr; rw [if_neg (fun h => e h.symm)]
      rw [h2, ← List.append_assoc]
      exact ih.append_right _
theorem mem_all {n : Nat} {f : Nat → List It} {y : It} (h : y ∈ allF n f) : ∃ k, k < n ∧ y ∈ f k := by
  unfold allF at h
  obtain ⟨k, hk, hy⟩ := List.mem_flatMap.1 h
  exact ⟨k, List.mem_range.1 hk, hy⟩
structure Inv (n : Nat) (f : Nat → List It) (cur : List It) : Prop where
  home : Home n f
  nd : (keysOf (allF n f)).Nodup
  perm : cur.Perm (allF n f)
theorem keepOut {fl rest cur : List It} (k : Nat) (y : It) (hk : fl[k]? = some y) (nd : (keysOf (fl ++ rest)).Nodup) (hp : cur.Perm (fl.drop k ++ rest)) :
    (cur.filter (notKey y.key)).Perm (fl.drop (k + 1) ++ rest) ∧ (cur.filter (notKey y.key)).length + 1 = cur.length := by
  obtain ⟨hl, he⟩ := List.getElem?_eq_some_iff.1 hk
  have e1 : fl.drop k = y :: fl.drop (k + 1) := by rw [← he]; exact List.drop_eq_getElem_cons hl
  have e2 : fl ++ rest = fl.take k ++ (y :: (fl.drop (k + 1) ++ rest)) := by
    rw [← List.cons_append, ← e1, ← List.append_assoc, List.take_append_drop]
  rw [e2] at nd
  unfold keysOf at nd
  rw [List.map_append, List.nodup_append] at nd
  have nd2 := nd.2.1
  rw [List.map_cons, List.nodup_cons] at nd2
  have e3 : (y :: (fl.drop (k + 1) ++ rest)).filter (notKey y.key) = fl.drop (k + 1) ++ rest := by
    rw [List.filter_cons, if_neg (by simp [notKey]), List.filter_eq_self]
    intro z hz
    have : z.key ≠ y.key := fun h => nd2.1 (List.mem_map.2 ⟨z, hz, h⟩)
    simp [notKey, this]
  rw [e1, List.cons_append] at hp
  have hf := hp.filter (notKey y.key)
  rw [e3] at hf
  refine ⟨hf, ?_⟩
  rw [hf.length_eq, hp.length_eq, List.length_cons]
/-- What Put does beside the list. -/
structure PutIs (n : Nat) (f : Nat → List It) (x : It) (cur fl rest : List It) (o : Nat) : Prop where
  ho : o ≤ fl.length
  out : outL n f x = fl.take o
  perm : (cur.filter (notKey x.key)).Perm (fl.drop 0 ++ rest)
  nd : (keysOf (fl ++ rest)).Nodup
  next : ∀ cur', cur'.Perm (fl.drop o ++ rest) → Inv n (putF n f x) (cur' ++ [x])
theorem Inv.put {n : Nat} {f : Nat → List It} {cur : List It} (h : Inv n f cur) (hn : 0 < n) (x : It) (hx : x.size ≤ 120) : ∃ fl rest o, PutIs n f x cur fl rest o := by
  obtain ⟨b, hb⟩ : ∃ b, b = bkt x.key n := ⟨_, rfl⟩
  have hbn : b < n := by rw [hb]; exact bkt_lt _ _ hn
  obtain ⟨fl, hfl⟩ : ∃ fl, fl = (f b).filter (notKey x.key) := ⟨_, rfl⟩
  obtain ⟨rest, hrest⟩ : ∃ rest, rest = allF n (clr b f) := ⟨_, rfl⟩
  have e : putL n f x = fl ++ [x] := by unfold putL; rw [← hb, hfl]
  have ho : ovr (fl ++ [x]) ≤ fl.length := ovr_lt fl x (by omega)
  have hsp := all_split b f n hbn
  rw [← hrest] at hsp
  have hrk : ∀ z ∈ rest, z.key ≠ x.key := fun z hz hzk => by
    rw [hrest] at hz
    obtain ⟨k, hk, hz⟩ := mem_all hz
    unfold clr at hz
    split at hz
    · simp at hz
    · rename_i hkb
      have := h.home k hk z hz
      rw [hzk, ← hb] at this
      exact hkb this.symm
  have hrf : rest.filter (notKey x.key) = rest := by
    rw [List.filter_eq_self]
    intro z hz
    simp [notKey, hrk z hz]
  have hnd0 : (keysOf (f b ++ rest)).Nodup := (hsp.map It.key).nodup_iff.1 h.nd
  have hsub : (keysOf (fl ++ rest)).Sublist (keysOf (f b ++ rest)) := by
    unfold keysOf
    apply List.Sublist.map
    rw [hfl]
    exact List.filter_sublist.append_right _
  have hnd : (keysOf (fl ++ rest)).Nodup := hnd0.sublist hsub
  have hp1 : (cur.filter (notKey x.key)).Perm (fl ++ rest) := by
    have := (h.perm.trans hsp).filter (notKey x.key)
    rw [List.filter_append, hrf, ← hfl] at this
    exact this
  have hxk : ∀ z ∈ fl ++ rest, z.key ≠ x.key := fun z hz => by
    rcases List.mem_append.1 hz with h1 | h1
    · rw [hfl] at h1
      simpa [notKey] using (List.mem_filter.1 h1).2
    · exact hrk z h1
  refine ⟨fl, rest, ovr (fl ++ [x]), ho, ?_, by simpa using hp1, hnd, fun cur' hc => ?_⟩
  · unfold outL
    rw [e, List.take_append_of_le_length ho]
  · have hsp2 := all_split b (putF n f x) n hbn
    have e1 : putF n f x b = fl.drop (ovr (fl ++ [x])) ++ [x] := by
      unfold putF
      rw [if_pos hb, e, List.drop_append_of_le_length ho]
    have e2 : allF n (clr b (putF n f x)) = rest := by
      rw [hrest]
      apply all_congr
      intro k hk
      unfold clr
      split
      · rfl
      · rename_i hkb
        rw [put_other x k (by rw [← hb]; exact hkb)]
    rw [e1, e2] at hsp2
    have hpp : (fl.drop (ovr (fl ++ [x])) ++ [x] ++ rest).Perm ((fl.drop (ovr (fl ++ [x])) ++ rest) ++ [x]) := by
      rw [List.append_assoc, List.append_assoc]
      exact List.Perm.append_left _ List.perm_append_comm
    refine ⟨h.home.put x, ?_, ?_⟩
    · have hn2 : (keysOf ((fl.drop (ovr (fl ++ [x])) ++ rest) ++ [x])).Nodup := by
        unfold keysOf
        rw [List.map_append, List.nodup_append]
        refine ⟨hnd.sublist ?_, by simp, ?_⟩
        · unfold keysOf
          exact List.Sublist.map _ ((List.drop_sublist _ _).append_right _)
        · intro a ha b' hb' hab
          simp at hb'
          obtain ⟨z, hz, rfl⟩ := List.mem_map.1 ha
          refine hxk z ?_ (hab.trans hb')
          rcases List.mem_append.1 hz with h1 | h1
          · exact List.mem_append.2 (.inl (List.mem_of_mem_drop h1))
          · exact List.mem_append.2 (.inr h1)
      exact ((hsp2.trans hpp).map It.key).nodup_iff.2 hn2
    · exact ((hc.append_right [x]).trans hpp.symm).trans hsp2.symm
theorem Inv.find {n : Nat} {f : Nat → List It} {cur : List It} (h : Inv n f cur) (y : It) (hy : y ∈ cur) : bkt y.key n < n ∧ y ∈ f (bkt y.key n) ∧ (f (bkt y.key n)).find? (isKey y.key) = some y := by
  have hya := h.perm.mem_iff.1 hy
  obtain ⟨k, hk, hyk⟩ := mem_all hya
  have hb := h.home k hk y hyk
  rw [hb]
  refine ⟨hk, hyk, ?_⟩
  have hsp := all_split k f n hk
  have hnd0 : (keysOf (f k ++ allF n (clr k f))).Nodup := (hsp.map It.key).nodup_iff.1 h.nd
  unfold keysOf at hnd0
  rw [List.map_append, List.nodup_append] at hnd0
  have hnd := hnd0.1
  generalize f k = l at hyk hnd
  induction l with
  | nil => simp at hyk
  | cons z r ih =>
    rw [List.map_cons, List.nodup_cons] at hnd
    by_cases e : z.key = y.key
    · have : z = y := by
        rcases List.mem_cons.1 hyk with h1 | h1
        · exact h1.symm
        · exact absurd (List.mem_map.2 ⟨y, h1, e.symm⟩) hnd.1
      rw [List.find?_cons_of_pos (by simp [isKey, e]), this]
    · rw [List.find?_cons_of_neg (by simp [isKey, e])]
      rcases List.mem_cons.1 hyk with h1 | h1
      · exact absurd (by rw [h1]) e
      · exact ih h1 hnd.2
variable {w0 W W' : World} {d s : Nat} {F F' : List Nat} {S S' : Dv} {L : Int} {first n : Nat} {M : SM} {f : Nat → List It} {bs : List (List Bool)} {G : List Nat}
theorem bu_told (h : Bu w0 W d s first n S f bs G) (y : It) (hk : y.key.length ≤ maxLen) (hy : y ∈ f (bkt y.key n)) :
    Calls Try.prog 17 #[.pointer (some ⟨s, 0, none⟩), .string (txt y.key)] W fun e W' => e = .returned (.bool true) ∧ Below W.heap.size W W' := by
  have h' := h
  obtain ⟨F, M, hb, rfl⟩ := h
  have hbn := bkt_lt y.key n hb.n1
  obtain ⟨l, hl⟩ : ∃ l, bs[bkt y.key n]? = some l := ⟨_, List.getElem?_eq_getElem (by rw [← hb.bits, List.length_map, hb.len]; exact hbn)⟩
  refine (bu_may h' y.key hk l hl).mono ?_
  rintro e W' ⟨rfl, b⟩
  exact ⟨by rw [hb.told _ l y hl hy], b⟩
end Go.Proofs.Ytbccnfbombgdmaa
