/- The document's table beside the program's: what the one holds, the other holds. -/
import Derived.Test.YtkjfildnemgbiaaRfA
set_option linter.unusedVariables false
set_option linter.unusedSimpArgs false
set_option maxRecDepth 8000
namespace Go.Proofs.Ytkjfildnemgbiaa
open Go.RowKit Go.Deep Go.Shelf Math Tab Go.Sort

structure Sim (t : Tb) (nx : Nat) (nw od : Ch) (ks : List (List UInt8)) (vs : List Int) : Prop where
  n : nw = t.nw.map keysOf
  o : od = t.od.map keysOf
  x : 0 < t.od.length → nx = t.gone
  x9 : nx + od.length ≤ 131072
  l : vs.length = ks.length
  p : (ks.zip vs).Perm t.all
variable {t : Tb} {nx : Nat} {nw od : Ch} {ks : List (List UInt8)} {vs : List Int}
theorem getD_map (l : List (List KV)) (i : Nat) : (l.map keysOf).getD i [] = keysOf (l.getD i []) := by
  simp only [List.getD_eq_getElem?_getD, List.getElem?_map]
  cases l[i]? <;> simp [keysOf]
theorem push_map (nw : List (List KV)) (e : KV) : (pushN hsh nw e).map keysOf = rpush (nw.map keysOf) e.1 := by
  unfold pushN rpush
  rw [List.map_set, List.length_map, getD_map]
  rfl
theorem fold_map (c : List KV) (nw : List (List KV)) : (c.foldl (pushN hsh) nw).map keysOf = (keysOf c).foldl rpush (nw.map keysOf) := by
  induction c generalizing nw with
  | nil => rfl
  | cons e c ih =>
    rw [List.foldl_cons, ih, push_map]
    rfl
theorem Sim.zipk (h : Sim t nx nw od ks vs) : keysOf (ks.zip vs) = ks := by
  unfold keysOf
  rw [List.map_fst_zip]
  rw [h.l]; exact Nat.le_refl _
theorem Sim.keys (h : Sim t nx nw od ks vs) : ks.Perm (keysOf t.all) := by
  have := keysOf_perm h.p
  rw [h.zipk] at this
  exact this
theorem Sim.len (h : Sim t nx nw od ks vs) : ks.length = t.all.length := by
  rw [h.keys.length_eq]; simp [keysOf]
theorem Sim.mv (h : Sim t nx nw od ks vs) (g : Tab.Good hsh t) : Sim (t.mv hsh) (mvNx nx od.length) (mvNw nw od) od.tail ks vs := by
  obtain ⟨hn, ho, hx, h9, hl, hp⟩ := h
  refine ⟨?_, ?_, ?_, ?_, hl, hp.trans g.mv_perm.symm⟩
  · subst hn ho
    unfold mvNw Tb.mv
    cases ht : t.od with
    | nil => rfl
    | cons c r => simp only [List.map_cons, List.head?_cons, Option.getD_some]; exact (fold_map c t.nw).symm
  · subst hn ho
    unfold Tb.mv
    cases ht : t.od with
    | nil => simp [ht]
    | cons c r => rfl
  · intro h0
    have h1 := (mv_len (H := hsh) (t := t)).2
    have h2 := (mv_len (H := hsh) (t := t)).1
    have h3 := hx (by omega)
    have h4 : od.length = t.od.length := by rw [ho]; simp
    have h5 := g.ol
    unfold mvNx
    rw [if_neg (by omega), h3]
    unfold Tb.gone Tb.half at *
    rw [h2]
    omega
  · unfold mvNx
    rw [List.length_tail]
    split <;> omega
theorem Sim.bd (h : Sim t nx nw od ks vs) (g : Tab.Good hsh t) (hc : t.all.length ≤ 1000) (hk : ∀ k ∈ ks, k.length ≤ maxLen) : RBd nx nw od := by
  have e1 : nw.flatten.length + od.flatten.length = t.all.length := by
    rw [h.n, h.o]
    unfold Tb.all
    have : ∀ L : List (List KV), (L.map keysOf).flatten.length = L.flatten.length := fun L => by
      induction L with
      | nil => rfl
      | cons c r ih => simp only [List.map_cons, List.flatten_cons, List.length_append, ih]; simp [keysOf]
    rw [this, this, List.length_append]
    omega
  refine ⟨by rw [h.n]; simpa using g.n1, by rw [h.n]; simpa using g.n9, h.x9, by rw [e1]; exact hc, fun c hcm k hkm => hk k (h.keys.mem_iff.2 ?_)⟩
  rw [h.o] at hcm
  obtain ⟨c0, h1, rfl⟩ := List.mem_map.1 hcm
  obtain ⟨e, h2, rfl⟩ := List.mem_map.1 hkm
  exact List.mem_map.2 ⟨e, List.mem_append_left _ (List.mem_flatten.2 ⟨c0, h1, h2⟩), rfl⟩
/-- Which bucket. -/
theorem Sim.old_no (h : Sim t nx nw od ks vs) (g : Tab.Good hsh t) {key : List UInt8} (ho : t.isOld hsh key = false) : oldI nx od.length key = -1 := by
  unfold oldI
  have hl : od.length = t.od.length := by rw [h.o]; simp
  by_cases h0 : od.length = 0
  · rw [if_pos h0]
  · rw [if_neg h0]
    have hx := h.x (by omega)
    have : nx + od.length = t.half := by rw [hx, hl]; have := g.ol; unfold Tb.gone; omega
    rw [this]
    have hn : ¬ (t.isOld hsh key = true) := by rw [ho]; decide
    rw [isOld_iff] at hn
    rw [if_pos (by rw [hx]; have h9 : 0 < t.od.length := by omega
                   exact Nat.lt_of_not_le (fun h8 => hn ⟨h9, h8⟩))]
theorem Sim.old_yes (h : Sim t nx nw od ks vs) (g : Tab.Good hsh t) {key : List UInt8} (ho : t.isOld hsh key = true) : t.oi hsh key < od.length ∧ oldI nx od.length key = ((nx + t.oi hsh key : Nat) : Int) := by
  unfold oldI
  have hl : od.length = t.od.length := by rw [h.o]; simp
  obtain ⟨h1, h2⟩ := g.oi_lt ho
  obtain ⟨h3, h4⟩ := isOld_iff.1 ho
  have hx := h.x h3
  have : nx + od.length = t.half := by rw [hx, hl]; have := g.ol; unfold Tb.gone; omega
  refine ⟨by omega, ?_⟩
  rw [if_neg (by omega), this, if_neg (by omega), ← h2, hx]
theorem idx_lt {key : List UInt8} {ks : List (List UInt8)} (h : key ∈ ks) : ∃ i : Nat, idx key ks = (i : Int) ∧ ks[i]? = some key ∧ key ∉ ks.take i := by
  unfold idx
  cases hf : ks.findIdx? (fun k => decide (k = key)) with
  | none =>
    rw [List.findIdx?_eq_none_iff] at hf
    exact absurd (hf key h) (by simp)
  | some i =>
    rw [List.findIdx?_eq_some_iff_getElem] at hf
    obtain ⟨h1, h2, h3⟩ := hf
    refine ⟨i, rfl, by rw [List.getElem?_eq_getElem h1]; simpa using h2, fun hm => ?_⟩
    obtain ⟨j, hj⟩ := List.getElem?_of_mem hm
    rw [List.getElem?_take] at hj
    split at hj
    · rename_i hji
      have := h3 j hji
      obtain ⟨h5, h6⟩ := List.getElem?_eq_some_iff.1 hj
      simp [h6] at this
    · cases hj
theorem Sim.nd (h : Sim t nx nw od ks vs) (g : Tab.Good hsh t) : ks.Nodup := h.keys.nodup_iff.2 g.nd
theorem Sim.fnd (h : Sim t nx nw od ks vs) (g : Tab.Good hsh t) (key : List UInt8) : Tab.fnd key t.all = Tab.fnd key (ks.zip vs) := (fnd_perm h.p (by rw [h.zipk]; exact h.nd g)).symm
theorem Sim.fnone (h : Sim t nx nw od ks vs) (g : Tab.Good hsh t) {key : List UInt8} (hf : Tab.fnd key t.all = none) : key ∉ ks ∧ idx key ks = -1 := by
  rw [h.fnd g, fnd_none, h.zipk] at hf
  exact ⟨hf, idx_none hf⟩
theorem Sim.fsome (h : Sim t nx nw od ks vs) (g : Tab.Good hsh t) {key : List UInt8} {v : Int} (hf : Tab.fnd key t.all = some v) : ∃ i : Nat, idx key ks = (i : Int) ∧ ks[i]? = some key ∧ vs[i]? = some v := by
  rw [h.fnd g] at hf
  have hm := (fnd_mem (by rw [h.zipk]; exact h.nd g)).1 hf
  have hk : key ∈ ks := by have := h.zipk; rw [← this]; exact List.mem_map.2 ⟨_, hm, rfl⟩
  obtain ⟨i, h1, h2, h3⟩ := idx_lt hk
  refine ⟨i, h1, h2, ?_⟩
  obtain ⟨j, hj⟩ := List.getElem?_of_mem hm
  rw [List.getElem?_zip_eq_some] at hj
  have hij : i = j := by
    have nd := h.nd g
    obtain ⟨a1, a2⟩ := List.getElem?_eq_some_iff.1 h2
    obtain ⟨b1, b2⟩ := List.getElem?_eq_some_iff.1 hj.1
    rcases Nat.lt_trichotomy i j with hlt | heq | hgt
    · exact absurd (a2.trans b2.symm) (List.pairwise_iff_getElem.1 nd i j a1 b1 hlt)
    · exact heq
    · exact absurd (b2.trans a2.symm) (List.pairwise_iff_getElem.1 nd j i b1 a1 hgt)
  subst hij
  exact hj.2

theorem drop_keys (k : List UInt8) (c : List KV) : keysOf (outV k c) = dropK k (keysOf c) := by
  unfold keysOf outV dropK
  rw [List.filter_map]
  rfl
theorem set_keysOf {l : List (List KV)} {i : Nat} {c d : List KV} (h : l[i]? = some c) (e : keysOf d = keysOf c) : (l.set i d).map keysOf = l.map keysOf := by
  rw [List.map_set, e]
  apply List.ext_getElem?
  intro j
  rw [List.getElem?_set]
  by_cases hj : i = j
  · subst hj
    have h1 := (List.getElem?_eq_some_iff.1 h).1
    rw [if_pos rfl, if_pos (by simpa using h1), List.getElem?_map, h]; rfl
  · rw [if_neg hj]
theorem zip_setV : ∀ (ks : List (List UInt8)) (vs : List Int) (i : Nat) (key : List UInt8) (v : Int), ks.Nodup → ks[i]? = some key → i < vs.length → ks.zip (vs.set i v) = Tab.setV key v (ks.zip vs)
  | [], vs, i, key, v, _, h, _ => by simp at h
  | k :: ks, [], i, key, v, _, h, h2 => by simp at h2
  | k :: ks, x :: vs, 0, key, v, nd, h, _ => by
    simp at h
    subst h
    simp only [List.set_cons_zero, List.zip_cons_cons]
    have hn : k ∉ keysOf (ks.zip vs) := fun hm => by
      obtain ⟨e, h1, h2⟩ := List.mem_map.1 hm
      have := (List.of_mem_zip (a := e.1) (b := e.2) h1).1
      rw [h2] at this
      exact (List.nodup_cons.1 nd).1 this
    have := Tab.setV_same v hn
    unfold Tab.setV at this ⊢
    rw [List.map_cons, this]
    simp
  | k :: ks, x :: vs, i + 1, key, v, nd, h, h2 => by
    have hk : k ≠ key := fun e => by
      subst e
      simp at h
      exact (List.nodup_cons.1 nd).1 (List.mem_of_getElem? h)
    have ih := zip_setV ks vs i key v (List.nodup_cons.1 nd).2 (by simpa using h) (by simpa using h2)
    simp only [List.set_cons_succ, List.zip_cons_cons, ih]
    unfold Tab.setV
    rw [List.map_cons]
    simp [hk]
theorem zip_cut {α β : Type} : ∀ (a : List α) (b : List β) (i : Nat), a.length = b.length → (a.take i ++ a.drop (i + 1)).zip (b.take i ++ b.drop (i + 1)) = (a.zip b).take i ++ (a.zip b).drop (i + 1)
  | [], [], i, _ => by simp
  | [], y :: b, i, h => by simp at h
  | x :: a, [], i, h => by simp at h
  | x :: a, y :: b, 0, h => by simp
  | x :: a, y :: b, i + 1, h => by
    have := zip_cut a b i (by simpa using h)
    simp [this]
theorem Sim.hit (h : Sim t nx nw od ks vs) (g : Tab.Good hsh t) {key : List UInt8} {i : Nat} (hi : ks[i]? = some key) (hv : i < vs.length) (v : Int) : Sim (t.put hsh key (Tab.setV key v (t.chn hsh key))) nx nw od ks (vs.set i v) := by
  have pl := put_len (H := hsh) (t := t) key (Tab.setV key v (t.chn hsh key))
  have e := Tab.setV_keys key v (t.chn hsh key)
  refine ⟨?_, ?_, fun h0 => ?_, h.x9, by rw [List.length_set]; exact h.l, ?_⟩
  · rw [h.n]
    rcases g.chn_at key with ⟨h1, h2⟩ | ⟨h1, h2⟩
    · unfold Tb.put; rw [if_pos h1]
    · unfold Tb.put; rw [if_neg (by rw [h1]; decide)]; exact (set_keysOf h2 e).symm
  · rw [h.o]
    rcases g.chn_at key with ⟨h1, h2⟩ | ⟨h1, h2⟩
    · unfold Tb.put; rw [if_pos h1]; exact (set_keysOf h2 e).symm
    · unfold Tb.put; rw [if_neg (by rw [h1]; decide)]
  · rw [h.x (by omega)]; unfold Tb.gone Tb.half; rw [pl.1, pl.2]
  · rw [zip_setV ks vs i key v (h.nd g) hi hv]
    refine List.Perm.trans ?_ (g.all_put_set v).symm
    exact h.p.map _
theorem Sim.zsnoc (h : Sim t nx nw od ks vs) (key : List UInt8) (v : Int) : (ks ++ [key]).zip (vs ++ [v]) = ks.zip vs ++ [(key, v)] := by
  rw [List.zip_append h.l.symm]; rfl
theorem Sim.new_n (h : Sim t nx nw od ks vs) (g : Tab.Good hsh t) {key : List UInt8} (ho : t.isOld hsh key = false) (v : Int) : Sim (t.put hsh key ((key, v) :: t.chn hsh key)) nx (rpush nw key) od (ks ++ [key]) (vs ++ [v]) := by
  have pl := put_len (H := hsh) (t := t) key ((key, v) :: t.chn hsh key)
  have hq : t.put hsh key ((key, v) :: t.chn hsh key) = ⟨pushN hsh t.nw (key, v), t.od⟩ := by
    unfold Tb.put Tb.chn
    rw [if_neg (by rw [ho]; decide), if_neg (by rw [ho]; decide)]
    rfl
  refine ⟨?_, ?_, fun h0 => ?_, h.x9, by simp [h.l], ?_⟩
  · rw [hq, h.n]; exact (push_map t.nw (key, v)).symm
  · rw [hq]; exact h.o
  · rw [h.x (by omega)]; unfold Tb.gone Tb.half; rw [pl.1, pl.2]
  · rw [h.zsnoc]
    refine List.Perm.trans ?_ (g.all_put_new v).symm
    exact (List.perm_append_singleton _ _).trans (h.p.cons _)
theorem Sim.new_o (h : Sim t nx nw od ks vs) (g : Tab.Good hsh t) {key : List UInt8} (ho : t.isOld hsh key = true) (v : Int) : Sim (t.put hsh key ((key, v) :: t.chn hsh key)) nx nw (od.set (t.oi hsh key) (key :: od.getD (t.oi hsh key) [])) (ks ++ [key]) (vs ++ [v]) := by
  have pl := put_len (H := hsh) (t := t) key ((key, v) :: t.chn hsh key)
  have hq : t.put hsh key ((key, v) :: t.chn hsh key) = ⟨t.nw, t.od.set (t.oi hsh key) ((key, v) :: t.od.getD (t.oi hsh key) [])⟩ := by
    unfold Tb.put Tb.chn
    rw [if_pos ho, if_pos ho]
  refine ⟨?_, ?_, fun h0 => ?_, by rw [List.length_set]; exact h.x9, by simp [h.l], ?_⟩
  · rw [hq]; exact h.n
  · rw [hq, h.o, getD_map]
    show _ = List.map keysOf (List.set _ _ _)
    rw [List.map_set]
    rfl
  · rw [h.x (by omega)]; unfold Tb.gone Tb.half; rw [pl.1, pl.2]
  · rw [h.zsnoc]
    refine List.Perm.trans ?_ (g.all_put_new v).symm
    exact (List.perm_append_singleton _ _).trans (h.p.cons _)
theorem Sim.grow (h : Sim t nx nw od ks vs) (g : Tab.Good hsh t) (hf : t.full = true) : Sim t.grow 0 (List.replicate (2 * nw.length) []) nw ks vs := by
  have hl : nw.length = t.nw.length := by rw [h.n]; simp
  have e : t.grow = ⟨List.replicate (2 * t.nw.length) [], t.nw⟩ := by unfold Tb.grow; rw [if_pos hf]
  refine ⟨?_, ?_, fun _ => ?_, ?_, h.l, h.p.trans (grow_perm (t := t)).symm⟩
  · rw [e, hl]; simp [keysOf]
  · rw [e]; exact h.n
  · rw [e]; unfold Tb.gone Tb.half; simp
  · have := g.n9; omega
theorem Good.del_eq (g : Tab.Good hsh t) (key : List UInt8) : (t.put hsh key (outV key (t.chn hsh key))).nw = t.nw.map (outV key) ∧ (t.put hsh key (outV key (t.chn hsh key))).od = t.od.map (outV key) := by
  have nn : ∀ i c, t.nw[i]? = some c → ¬ (t.isOld hsh key = false ∧ i = t.ni hsh key) → outV key c = c := fun i c hc hi => outV_same (fun hm => by
    obtain ⟨e, h1, rfl⟩ := List.mem_map.1 hm
    obtain ⟨h2, h3⟩ := g.inN i c hc e h1
    refine hi ⟨?_, h2.symm⟩
    cases ho : t.isOld hsh e.1 with
    | false => rfl
    | true => have h4 := isOld_iff.1 ho; have := h3 h4.1; omega)
  have oo : ∀ i c, t.od[i]? = some c → ¬ (t.isOld hsh key = true ∧ i = t.oi hsh key) → outV key c = c := fun i c hc hi => outV_same (fun hm => by
    obtain ⟨e, h1, rfl⟩ := List.mem_map.1 hm
    have h2 := g.inO i c hc e h1
    have hlt := (List.getElem?_eq_some_iff.1 hc).1
    refine hi ⟨isOld_iff.2 ⟨by omega, by omega⟩, ?_⟩
    unfold Tb.oi; omega)
  have same : ∀ (L : List (List KV)), (∀ (i : Nat) c, L[i]? = some c → outV key c = c) → L = L.map (outV key) := fun L hL => by
    apply List.ext_getElem?
    intro j
    rw [List.getElem?_map]
    cases hj : L[j]? with
    | none => rfl
    | some c => simp [hL j c hj]
  have one : ∀ (L : List (List KV)) (n : Nat) (c : List KV), L[n]? = some c → (∀ (i : Nat) c, L[i]? = some c → ¬ i = n → outV key c = c) → L.set n (outV key c) = L.map (outV key) := fun L n c hc hL => by
    apply List.ext_getElem?
    intro j
    rw [List.getElem?_map, List.getElem?_set]
    by_cases hj : n = j
    · subst hj
      rw [if_pos rfl, if_pos (List.getElem?_eq_some_iff.1 hc).1, hc]; rfl
    · rw [if_neg hj]
      cases hc2 : L[j]? with
      | none => rfl
      | some d => simp [hL j d hc2 (fun e => hj e.symm)]
  rcases g.chn_at key with ⟨h1, h2⟩ | ⟨h1, h2⟩
  · unfold Tb.put
    rw [if_pos h1]
    exact ⟨same _ (fun i c hc => nn i c hc (fun h => by rw [h1] at h; exact absurd h.1 (by decide))), one _ _ _ h2 (fun i c hc hi => oo i c hc (fun h => hi h.2))⟩
  · unfold Tb.put
    rw [if_neg (by rw [h1]; decide)]
    exact ⟨one _ _ _ h2 (fun i c hc hi => nn i c hc (fun h => hi h.2)), same _ (fun i c hc => oo i c hc (fun h => by rw [h1] at h; exact absurd h.1 (by decide)))⟩
theorem Sim.del (h : Sim t nx nw od ks vs) (g : Tab.Good hsh t) {key : List UInt8} {i : Nat} (hi : ks[i]? = some key) : Sim (t.put hsh key (outV key (t.chn hsh key))) nx (nw.map (dropK key)) (od.map (dropK key)) (ks.take i ++ ks.drop (i + 1)) (vs.take i ++ vs.drop (i + 1)) := by
  have pl := put_len (H := hsh) (t := t) key (outV key (t.chn hsh key))
  obtain ⟨e1, e2⟩ := Good.del_eq g key
  have hik := (List.getElem?_eq_some_iff.1 hi).1
  have mm : ∀ L : List (List KV), (L.map keysOf).map (dropK key) = (L.map (outV key)).map keysOf := fun L => by
    rw [List.map_map, List.map_map]
    exact List.map_congr_left (fun c _ => (drop_keys key c).symm)
  refine ⟨?_, ?_, fun h0 => ?_, by rw [List.length_map]; exact h.x9, ?_, ?_⟩
  · rw [h.n, mm, e1]
  · rw [h.o, mm, e2]
  · rw [h.x (by omega)]; unfold Tb.gone Tb.half; rw [pl.1, pl.2]
  · simp [h.l]
  · rw [zip_cut ks vs i h.l.symm]
    refine List.Perm.trans ?_ (g.all_put_out key).symm
    obtain ⟨v0, hv0⟩ : ∃ v0, vs[i]? = some v0 := ⟨_, List.getElem?_eq_getElem (by rw [h.l]; exact hik)⟩
    have hz : (ks.zip vs)[i]? = some (key, v0) := by
      rw [List.getElem?_zip_eq_some]
      exact ⟨hi, hv0⟩
    obtain ⟨A, C, hA, hAl⟩ := split_at hz
    have e3 : outV key (ks.zip vs) = A ++ C := by
      have hnd := h.nd g
      rw [← h.zipk] at hnd
      rw [hA] at hnd ⊢
      exact outV_cut hnd
    have e4 : (ks.zip vs).take i ++ (ks.zip vs).drop (i + 1) = A ++ C := by
      rw [hA, ← hAl]
      simp
    rw [e4, ← e3]
    exact h.p.filter _
end Go.Proofs.Ytkjfildnemgbiaa
