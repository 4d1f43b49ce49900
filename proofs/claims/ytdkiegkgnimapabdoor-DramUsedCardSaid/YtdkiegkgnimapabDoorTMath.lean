/- What a table holds, told without memory: buckets of chains, new ones and old ones that are left. No program is named here. -/
set_option linter.unusedVariables false
set_option linter.unusedSimpArgs false
namespace Go.Proofs.YtdkiegkgnimapabDoor.Tab

/-- A key and its number. -/
abbrev KV := List UInt8 × Int
/-- New buckets' chains, old ones that are left. -/
structure Tb where
  nw : List (List KV)
  od : List (List KV)

def fnd (k : List UInt8) (l : List KV) : Option Int := (l.find? fun e => decide (e.1 = k)).map Prod.snd
def keysOf (l : List KV) : List (List UInt8) := l.map Prod.fst
theorem fnd_nil (k : List UInt8) : fnd k [] = none := rfl
theorem fnd_cons (k : List UInt8) (e : KV) (l : List KV) : fnd k (e :: l) = if e.1 = k then some e.2 else fnd k l := by
  unfold fnd
  by_cases h : e.1 = k <;> simp [List.find?_cons, h]
theorem fnd_none {k : List UInt8} {l : List KV} : fnd k l = none ↔ k ∉ keysOf l := by
  induction l with
  | nil => simp [fnd, keysOf]
  | cons e l ih =>
    rw [fnd_cons]
    by_cases h : e.1 = k
    · simp [h, keysOf]
    · rw [if_neg h, ih]
      simp only [keysOf, List.map_cons, List.mem_cons, not_or]
      exact ⟨fun x => ⟨fun y => h y.symm, x⟩, fun x => x.2⟩
theorem fnd_app (k : List UInt8) (l m : List KV) : fnd k (l ++ m) = (fnd k l).or (fnd k m) := by
  induction l with
  | nil => simp [fnd_nil]
  | cons e l ih =>
    rw [List.cons_append, fnd_cons, fnd_cons, ih]
    split <;> simp
theorem fnd_mem {k : List UInt8} {v : Int} {l : List KV} (hn : (keysOf l).Nodup) : fnd k l = some v ↔ (k, v) ∈ l := by
  induction l with
  | nil => simp [fnd]
  | cons e l ih =>
    rw [keysOf, List.map_cons, List.nodup_cons] at hn
    rw [fnd_cons]
    by_cases h : e.1 = k
    · rw [if_pos h]
      constructor
      · intro x
        rw [show (k, v) = e by rw [← h]; cases e; simp at x; simp [x]]
        exact List.mem_cons_self ..
      · intro x
        rcases List.mem_cons.1 x with x | x
        · rw [← x]
        · exact absurd (List.mem_map.2 ⟨_, x, h.symm⟩) hn.1
    · rw [if_neg h, ih hn.2]
      constructor
      · exact fun x => List.mem_cons_of_mem _ x
      · intro x
        rcases List.mem_cons.1 x with x | x
        · exact absurd (by rw [← x]) h
        · exact x
theorem keysOf_perm {l m : List KV} (h : l.Perm m) : (keysOf l).Perm (keysOf m) := h.map _
theorem fnd_perm {k : List UInt8} {l m : List KV} (h : l.Perm m) (hn : (keysOf l).Nodup) : fnd k l = fnd k m := by
  have hm : (keysOf m).Nodup := (keysOf_perm h).nodup_iff.1 hn
  cases e : fnd k m with
  | some v => exact (fnd_mem hn).2 (h.mem_iff.2 ((fnd_mem hm).1 e))
  | none => exact fnd_none.2 (fun x => fnd_none.1 e ((keysOf_perm h).mem_iff.1 x))
/-- A key's number, set where it stands. -/
def setV (k : List UInt8) (v : Int) (l : List KV) : List KV := l.map fun e => if e.1 = k then (k, v) else e
def outV (k : List UInt8) (l : List KV) : List KV := l.filter fun e => decide (e.1 ≠ k)
theorem setV_keys (k : List UInt8) (v : Int) (l : List KV) : keysOf (setV k v l) = keysOf l := by
  unfold keysOf setV
  rw [List.map_map]
  apply List.map_congr_left
  intro e _
  simp only [Function.comp]
  by_cases h : e.1 = k <;> simp [h]
theorem setV_same {k : List UInt8} {l : List KV} (v : Int) (h : k ∉ keysOf l) : setV k v l = l := by
  unfold setV
  conv => rhs; rw [← List.map_id l]
  apply List.map_congr_left
  intro e he
  rw [if_neg (fun x => h (by rw [← x]; exact List.mem_map.2 ⟨e, he, rfl⟩))]
  rfl
theorem setV_app (k : List UInt8) (v : Int) (l m : List KV) : setV k v (l ++ m) = setV k v l ++ setV k v m := by simp [setV]
theorem outV_same {k : List UInt8} {l : List KV} (h : k ∉ keysOf l) : outV k l = l := by
  unfold outV
  rw [List.filter_eq_self]
  intro e he
  have : e.1 ≠ k := fun x => h (by rw [← x]; exact List.mem_map.2 ⟨e, he, rfl⟩)
  simpa using this
theorem outV_app (k : List UInt8) (l m : List KV) : outV k (l ++ m) = outV k l ++ outV k m := by simp [outV]
theorem setV_cut {k : List UInt8} {v v0 : Int} {A B : List KV} (hn : (keysOf (A ++ (k, v0) :: B)).Nodup) : setV k v (A ++ (k, v0) :: B) = A ++ (k, v) :: B := by
  simp only [keysOf, List.map_append, List.map_cons] at hn
  rw [List.nodup_append] at hn
  obtain ⟨_, h2, h3⟩ := hn
  rw [List.nodup_cons] at h2
  rw [setV_app, setV_same _ (fun x => h3 _ x _ (List.mem_cons_self ..) rfl)]
  rw [show (k, v0) :: B = [(k, v0)] ++ B from rfl, setV_app, setV_same (l := B) _ h2.1]
  simp [setV]
theorem outV_cut {k : List UInt8} {v0 : Int} {A B : List KV} (hn : (keysOf (A ++ (k, v0) :: B)).Nodup) : outV k (A ++ (k, v0) :: B) = A ++ B := by
  simp only [keysOf, List.map_append, List.map_cons] at hn
  rw [List.nodup_append] at hn
  obtain ⟨_, h2, h3⟩ := hn
  rw [List.nodup_cons] at h2
  rw [outV_app, outV_same (fun x => h3 _ x _ (List.mem_cons_self ..) rfl)]
  rw [show (k, v0) :: B = [(k, v0)] ++ B from rfl, outV_app, outV_same (l := B) h2.1]
  simp [outV]
theorem outV_keys {k k' : List UInt8} {l : List KV} : k' ∈ keysOf (outV k l) ↔ k' ∈ keysOf l ∧ k' ≠ k := by
  simp only [keysOf, outV, List.mem_map, List.mem_filter]
  constructor
  · rintro ⟨e, ⟨h1, h2⟩, rfl⟩
    exact ⟨⟨e, h1, rfl⟩, by simpa using h2⟩
  · rintro ⟨⟨e, h1, rfl⟩, h2⟩
    exact ⟨e, ⟨h1, by simpa using h2⟩, rfl⟩
theorem fnd_setV (k k' : List UInt8) (v : Int) (l : List KV) : fnd k' (setV k v l) = if k' = k then (fnd k l).map (fun _ => v) else fnd k' l := by
  induction l with
  | nil => simp [setV, fnd]
  | cons e l ih =>
    rw [show setV k v (e :: l) = (if e.1 = k then (k, v) else e) :: setV k v l from rfl, fnd_cons, ih, fnd_cons, fnd_cons]
    by_cases h : e.1 = k <;> by_cases h2 : k' = k
    · simp [h, h2]
    · simp [h, h2, show ¬ k = k' from fun x => h2 x.symm]
    · subst h2; simp [h]
    · simp [h, h2]
theorem fnd_outV (k k' : List UInt8) (l : List KV) : fnd k' (outV k l) = if k' = k then none else fnd k' l := by
  induction l with
  | nil => simp [outV, fnd]
  | cons e l ih =>
    by_cases h : e.1 = k
    · rw [show outV k (e :: l) = outV k l by simp [outV, h], ih, fnd_cons]
      by_cases h2 : k' = k
      · simp [h2]
      · rw [if_neg h2, if_neg h2, if_neg (fun x => h2 (x.symm.trans h))]
    · rw [show outV k (e :: l) = e :: outV k l by simp [outV, h], fnd_cons, ih, fnd_cons]
      by_cases h2 : k' = k
      · subst h2; simp [h]
      · simp [h2]
theorem outV_len {k : List UInt8} {l : List KV} (hn : (keysOf l).Nodup) : (outV k l).length + (if k ∈ keysOf l then 1 else 0) = l.length := by
  induction l with
  | nil => simp [outV, keysOf]
  | cons e l ih =>
    rw [keysOf, List.map_cons, List.nodup_cons] at hn
    have ih := ih hn.2
    by_cases h : e.1 = k
    · have hk : k ∉ keysOf l := h ▸ hn.1
      rw [show outV k (e :: l) = outV k l by simp [outV, h], outV_same hk, if_pos (by simp [keysOf, h])]
      rfl
    · rw [show outV k (e :: l) = e :: outV k l by simp [outV, h]]
      have : (k ∈ keysOf (e :: l)) ↔ k ∈ keysOf l := by
        simp only [keysOf, List.map_cons, List.mem_cons]
        exact ⟨fun x => x.resolve_left (fun y => h y.symm), .inr⟩
      simp only [this, List.length_cons]
      omega

/-! ### One chain of many -/
theorem split_at {α : Type} {l : List α} {i : Nat} {c : α} (h : l[i]? = some c) : ∃ A B, l = A ++ c :: B ∧ A.length = i := by
  obtain ⟨hi, hc⟩ := List.getElem?_eq_some_iff.1 h
  exact ⟨l.take i, l.drop (i + 1), by rw [← hc]; simp, by simp; omega⟩
theorem set_split {α : Type} {A B : List α} {c d : α} {i : Nat} (h : A.length = i) : (A ++ c :: B).set i d = A ++ d :: B := by
  subst h; simp
theorem flat_perm {α : Type} {L : List (List α)} {i : Nat} {c : List α} (h : L[i]? = some c) : ∃ R, L.flatten.Perm (c ++ R) ∧ ∀ d, (L.set i d).flatten.Perm (d ++ R) := by
  obtain ⟨A, B, rfl, ha⟩ := split_at h
  refine ⟨A.flatten ++ B.flatten, ?_, fun d => ?_⟩
  · rw [List.flatten_append, List.flatten_cons]
    exact (List.perm_append_comm_assoc ..)
  · rw [set_split ha, List.flatten_append, List.flatten_cons]
    exact (List.perm_append_comm_assoc ..)

section
variable (H : List UInt8 → Nat)
def Tb.all (t : Tb) : List KV := t.od.flatten ++ t.nw.flatten
def Tb.half (t : Tb) : Nat := t.nw.length / 2
def Tb.gone (t : Tb) : Nat := t.half - t.od.length
/-- Is a key's old bucket left? -/
def Tb.isOld (t : Tb) (k : List UInt8) : Bool := decide (0 < t.od.length) && decide (t.gone ≤ H k % t.half)
def Tb.oi (t : Tb) (k : List UInt8) : Nat := H k % t.half - t.gone
def Tb.ni (t : Tb) (k : List UInt8) : Nat := H k % t.nw.length
/-- The chain where a key stands, or would. -/
def Tb.chn (t : Tb) (k : List UInt8) : List KV := if t.isOld H k then t.od.getD (t.oi H k) [] else t.nw.getD (t.ni H k) []
def Tb.put (t : Tb) (k : List UInt8) (c : List KV) : Tb := if t.isOld H k then ⟨t.nw, t.od.set (t.oi H k) c⟩ else ⟨t.nw.set (t.ni H k) c, t.od⟩
def Tb.get (t : Tb) (k : List UInt8) : Option Int := fnd k (t.chn H k)
/-- At the head of its new bucket. -/
def pushN (nw : List (List KV)) (e : KV) : List (List KV) := nw.set (H e.1 % nw.length) (e :: nw.getD (H e.1 % nw.length) [])
def Tb.mv (t : Tb) : Tb := match t.od with
  | [] => t
  | c :: r => ⟨c.foldl (pushN H) t.nw, r⟩
def Tb.full (t : Tb) : Bool := decide (3 * t.nw.length < 2 * t.all.length) && decide (t.od.length = 0) && decide (t.nw.length < 65536)
def Tb.grow (t : Tb) : Tb := if t.full then ⟨List.replicate (2 * t.nw.length) [], t.nw⟩ else t
def Tb.isNew (t : Tb) (k : List UInt8) : Bool := ((t.mv H).get H k).isNone
def Tb.setT (t : Tb) (k : List UInt8) (v : Int) : Tb := if t.isNew H k then ((t.mv H).put H k ((k, v) :: (t.mv H).chn H k)).grow else (t.mv H).put H k (setV k v ((t.mv H).chn H k))
def Tb.delT (t : Tb) (k : List UInt8) : Tb := (t.mv H).put H k (outV k ((t.mv H).chn H k))

structure Good (t : Tb) : Prop where
  n1 : 1 ≤ t.nw.length
  n9 : t.nw.length ≤ 131072
  o2 : 0 < t.od.length → t.nw.length = 2 * t.half
  ol : t.od.length ≤ t.half
  inN : ∀ i c, t.nw[i]? = some c → ∀ e ∈ c, H e.1 % t.nw.length = i ∧ (0 < t.od.length → H e.1 % t.half < t.gone)
  inO : ∀ i c, t.od[i]? = some c → ∀ e ∈ c, H e.1 % t.half = t.gone + i
  nd : (keysOf t.all).Nodup

variable {H} {t : Tb}
theorem getD_some {α : Type} {l : List (List α)} {i : Nat} (h : i < l.length) : l[i]? = some (l.getD i []) := by
  simp [List.getD, h]
theorem Good.ni_lt (g : Good H t) (k : List UInt8) : t.ni H k < t.nw.length := Nat.mod_lt _ g.n1
theorem isOld_iff {k : List UInt8} : t.isOld H k = true ↔ 0 < t.od.length ∧ t.gone ≤ H k % t.half := by simp [Tb.isOld]
theorem Good.oi_lt (g : Good H t) {k : List UInt8} (h : t.isOld H k = true) : t.oi H k < t.od.length ∧ t.gone + t.oi H k = H k % t.half := by
  obtain ⟨h1, h2⟩ := isOld_iff.1 h
  have h3 := g.ol
  have h4 : H k % t.half < t.half := Nat.mod_lt _ (by omega)
  unfold Tb.oi
  have h5 : t.gone = t.half - t.od.length := rfl
  omega
theorem Good.chn_at (g : Good H t) (k : List UInt8) : (t.isOld H k = true ∧ t.od[t.oi H k]? = some (t.chn H k)) ∨ (t.isOld H k = false ∧ t.nw[t.ni H k]? = some (t.chn H k)) := by
  unfold Tb.chn
  cases h : t.isOld H k with
  | true => exact .inl ⟨rfl, by rw [if_pos rfl]; exact getD_some (g.oi_lt h).1⟩
  | false => exact .inr ⟨rfl, by simpa using getD_some (g.ni_lt k)⟩
/-- All keys: those of a key's chain, and the others. -/
theorem Good.perm (g : Good H t) (k : List UInt8) : ∃ R, t.all.Perm (t.chn H k ++ R) ∧ ∀ d, (t.put H k d).all.Perm (d ++ R) := by
  unfold Tb.put Tb.all
  rcases g.chn_at k with ⟨h, hc⟩ | ⟨h, hc⟩
  · obtain ⟨R, h1, h2⟩ := flat_perm hc
    refine ⟨R ++ t.nw.flatten, ?_, fun d => ?_⟩
    · rw [← List.append_assoc]; exact h1.append_right _
    · rw [if_pos h, ← List.append_assoc]; exact (h2 d).append_right _
  · obtain ⟨R, h1, h2⟩ := flat_perm hc
    refine ⟨t.od.flatten ++ R, ?_, fun d => ?_⟩
    · exact (h1.append_left _).trans (List.perm_append_comm_assoc ..)
    · rw [if_neg (by simp [h])]
      exact ((h2 d).append_left _).trans (List.perm_append_comm_assoc ..)
/-- A key stands in its chain, or nowhere. -/
theorem Good.stands (g : Good H t) {e : KV} (h : e ∈ t.all) : e ∈ t.chn H e.1 := by
  rcases List.mem_append.1 h with h | h
  · obtain ⟨c, hc, he⟩ := List.mem_flatten.1 h
    obtain ⟨i, hi⟩ := List.getElem?_of_mem hc
    have h1 := g.inO i c hi e he
    have h0 : i < t.od.length := (List.getElem?_eq_some_iff.1 hi).1
    have hO : t.isOld H e.1 = true := isOld_iff.2 ⟨by omega, by omega⟩
    rcases g.chn_at e.1 with ⟨_, h3⟩ | ⟨h3, _⟩
    · have : t.oi H e.1 = i := by unfold Tb.oi; omega
      rw [this, hi] at h3
      exact (Option.some.inj h3) ▸ he
    · rw [hO] at h3; cases h3
  · obtain ⟨c, hc, he⟩ := List.mem_flatten.1 h
    obtain ⟨i, hi⟩ := List.getElem?_of_mem hc
    obtain ⟨h1, h2⟩ := g.inN i c hi e he
    rcases g.chn_at e.1 with ⟨h3, _⟩ | ⟨_, h3⟩
    · obtain ⟨a, b⟩ := isOld_iff.1 h3
      have := h2 a; omega
    · have : t.ni H e.1 = i := h1
      rw [this, hi] at h3
      exact (Option.some.inj h3) ▸ he
theorem Good.others (g : Good H t) {k : List UInt8} {R : List KV} (h : t.all.Perm (t.chn H k ++ R)) : k ∉ keysOf R := by
  intro hk
  obtain ⟨e, he, rfl⟩ := List.mem_map.1 hk
  have h1 := g.stands (h.mem_iff.2 (List.mem_append_right _ he))
  have h2 := (keysOf_perm h).nodup_iff.1 g.nd
  rw [keysOf, List.map_append, List.nodup_append] at h2
  exact h2.2.2 _ (List.mem_map.2 ⟨e, h1, rfl⟩) _ (List.mem_map.2 ⟨e, he, rfl⟩) rfl
theorem Good.get_eq (g : Good H t) (k : List UInt8) : t.get H k = fnd k t.all := by
  obtain ⟨R, h1, _⟩ := g.perm k
  rw [fnd_perm h1 g.nd, fnd_app, fnd_none.2 (g.others h1), Option.or_none]
  rfl
theorem Good.chn_nd (g : Good H t) (k : List UInt8) : (keysOf (t.chn H k)).Nodup := by
  obtain ⟨R, h1, _⟩ := g.perm k
  have := (keysOf_perm h1).nodup_iff.1 g.nd
  rw [keysOf, List.map_append, List.nodup_append] at this
  exact this.1
theorem put_len (k : List UInt8) (c : List KV) : (t.put H k c).nw.length = t.nw.length ∧ (t.put H k c).od.length = t.od.length := by
  unfold Tb.put
  split <;> simp
theorem Good.put (g : Good H t) (k : List UInt8) {c : List KV} (h : ∀ e ∈ c, e.1 = k ∨ e ∈ t.chn H k ∨ ∃ e' ∈ t.chn H k, e'.1 = e.1) (hn : (keysOf (t.put H k c).all).Nodup) : Good H (t.put H k c) := by
  obtain ⟨l1, l2⟩ := put_len (t := t) (H := H) k c
  have e1 : (t.put H k c).half = t.half := by unfold Tb.half; rw [l1]
  have e2 : (t.put H k c).gone = t.gone := by unfold Tb.gone; rw [e1, l2]
  refine ⟨by rw [l1]; exact g.n1, by rw [l1]; exact g.n9, by rw [l1, l2, e1]; exact g.o2, by rw [l2, e1]; exact g.ol, ?_, ?_, hn⟩
  · intro i d hd e he
    rw [l1, l2, e1, e2]
    unfold Tb.put at hd
    cases ho : t.isOld H k with
    | true => rw [ho, if_pos rfl] at hd; exact g.inN i d hd e he
    | false =>
      rw [ho] at hd
      simp only [Bool.false_eq_true, if_false] at hd
      rw [List.getElem?_set] at hd
      by_cases hi : t.ni H k = i
      · rw [if_pos hi, if_pos (g.ni_lt k)] at hd
        obtain rfl := Option.some.inj hd
        have key : ∀ e : KV, e.1 = k → H e.1 % t.nw.length = i ∧ (0 < t.od.length → H e.1 % t.half < t.gone) := by
          rintro e rfl
          refine ⟨hi, fun h0 => ?_⟩
          have : ¬ (0 < t.od.length ∧ t.gone ≤ H e.1 % t.half) := fun x => by rw [isOld_iff.2 x] at ho; cases ho
          omega
        rcases g.chn_at k with ⟨h3, _⟩ | ⟨_, h3⟩
        · rw [ho] at h3; cases h3
        rw [hi] at h3
        rcases h e he with h1 | h1 | ⟨e', h1, h2⟩
        · exact key e h1
        · exact g.inN i _ h3 e h1
        · rw [← h2]; exact g.inN i _ h3 e' h1
      · rw [if_neg hi] at hd
        exact g.inN i d hd e he
  · intro i d hd e he
    rw [e1, e2]
    unfold Tb.put at hd
    cases ho : t.isOld H k with
    | false => rw [ho] at hd; exact g.inO i d hd e he
    | true =>
      rw [ho, if_pos rfl] at hd
      simp only [] at hd
      rw [List.getElem?_set] at hd
      by_cases hi : t.oi H k = i
      · rw [if_pos hi, if_pos (g.oi_lt ho).1] at hd
        obtain rfl := Option.some.inj hd
        have key : ∀ e : KV, e.1 = k → H e.1 % t.half = t.gone + i := by
          rintro e rfl
          rw [← hi]; exact (g.oi_lt ho).2.symm
        rcases g.chn_at k with ⟨_, h3⟩ | ⟨h3, _⟩
        · rw [hi] at h3
          rcases h e he with h1 | h1 | ⟨e', h1, h2⟩
          · exact key e h1
          · exact g.inO i _ h3 e h1
          · rw [← h2]; exact g.inO i _ h3 e' h1
        · rw [ho] at h3; cases h3
      · rw [if_neg hi] at hd
        exact g.inO i d hd e he

/-! ### What is moved -/
theorem pushN_len (nw : List (List KV)) (e : KV) : (pushN H nw e).length = nw.length := by simp [pushN]
theorem fold_len (c : List KV) (nw : List (List KV)) : (c.foldl (pushN H) nw).length = nw.length := by
  induction c generalizing nw with
  | nil => rfl
  | cons e c ih => rw [List.foldl_cons, ih, pushN_len]
theorem pushN_perm (nw : List (List KV)) (h : 1 ≤ nw.length) (e : KV) : (pushN H nw e).flatten.Perm (e :: nw.flatten) := by
  obtain ⟨R, h1, h2⟩ := flat_perm (getD_some (l := nw) (i := H e.1 % nw.length) (Nat.mod_lt _ h))
  exact (h2 _).trans (h1.symm.cons e)
theorem fold_perm (c : List KV) (nw : List (List KV)) (h : 1 ≤ nw.length) : (c.foldl (pushN H) nw).flatten.Perm (c ++ nw.flatten) := by
  induction c generalizing nw with
  | nil => exact List.Perm.refl _
  | cons e c ih =>
    rw [List.foldl_cons]
    refine (ih _ (by rw [pushN_len]; exact h)).trans ?_
    refine ((pushN_perm nw h e).append_left c).trans ?_
    exact List.perm_middle
theorem pushN_in {nw : List (List KV)} {i : Nat} {d : List KV} {x e : KV} (hd : (pushN H nw e)[i]? = some d) (hx : x ∈ d) : (x = e ∧ H e.1 % nw.length = i) ∨ ∃ d', nw[i]? = some d' ∧ x ∈ d' := by
  unfold pushN at hd
  rw [List.getElem?_set] at hd
  by_cases hi : H e.1 % nw.length = i
  · rw [if_pos hi] at hd
    by_cases hl : H e.1 % nw.length < nw.length
    · rw [if_pos hl] at hd
      obtain rfl := Option.some.inj hd
      rcases List.mem_cons.1 hx with hx | hx
      · exact .inl ⟨hx, hi⟩
      · exact .inr ⟨_, hi ▸ getD_some hl, hx⟩
    · rw [if_neg hl] at hd; cases hd
  · rw [if_neg hi] at hd
    exact .inr ⟨d, hd, hx⟩
theorem fold_in {c : List KV} {nw : List (List KV)} {i : Nat} {d : List KV} {x : KV} (hd : (c.foldl (pushN H) nw)[i]? = some d) (hx : x ∈ d) : (x ∈ c ∧ H x.1 % nw.length = i) ∨ ∃ d', nw[i]? = some d' ∧ x ∈ d' := by
  induction c generalizing nw with
  | nil => exact .inr ⟨d, hd, hx⟩
  | cons e c ih =>
    rw [List.foldl_cons] at hd
    rcases ih hd with ⟨h1, h2⟩ | ⟨d', h1, h2⟩
    · rw [pushN_len] at h2; exact .inl ⟨List.mem_cons_of_mem _ h1, h2⟩
    · rcases pushN_in h1 h2 with ⟨h3, h4⟩ | h3
      · exact .inl ⟨by rw [h3]; exact List.mem_cons_self .., by rw [h3]; exact h4⟩
      · exact .inr h3
theorem Good.mv_perm (g : Good H t) : (t.mv H).all.Perm t.all := by
  obtain ⟨nw, od⟩ := t
  cases od with
  | nil => exact List.Perm.refl _
  | cons c r =>
    show (r.flatten ++ (c.foldl (pushN H) nw).flatten).Perm ((c :: r).flatten ++ nw.flatten)
    rw [List.flatten_cons]
    refine ((fold_perm c nw g.n1).append_left _).trans ?_
    rw [List.append_assoc]
    exact List.perm_append_comm_assoc ..
theorem mv_len : (t.mv H).nw.length = t.nw.length ∧ (t.mv H).od.length = t.od.length - 1 := by
  obtain ⟨nw, od⟩ := t
  cases od with
  | nil => exact ⟨rfl, rfl⟩
  | cons c r => exact ⟨fold_len c nw, rfl⟩
theorem Good.mv (g : Good H t) : Good H (t.mv H) := by
  have hp := g.mv_perm
  have hn := (keysOf_perm hp).nodup_iff.2 g.nd
  obtain ⟨nw, od⟩ := t
  cases od with
  | nil => exact g
  | cons c r =>
    have hl : (c.foldl (pushN H) nw).length = nw.length := fold_len c nw
    have o2 : nw.length = 2 * (nw.length / 2) := g.o2 (by simp)
    have ol : r.length + 1 ≤ nw.length / 2 := g.ol
    have e1 : Tb.half ⟨c.foldl (pushN H) nw, r⟩ = nw.length / 2 := by unfold Tb.half; rw [hl]
    have e2 : Tb.gone ⟨c.foldl (pushN H) nw, r⟩ = nw.length / 2 - r.length := by unfold Tb.gone; rw [e1]
    have e3 : Tb.gone ⟨nw, c :: r⟩ = nw.length / 2 - (r.length + 1) := rfl
    show Good H ⟨c.foldl (pushN H) nw, r⟩
    refine ⟨by rw [hl]; exact g.n1, by rw [hl]; exact g.n9, fun _ => by rw [e1, hl]; exact o2, by rw [e1]; show r.length ≤ _; omega, ?_, ?_, hn⟩
    · intro i d hd e he
      rw [hl, e1, e2]
      rcases fold_in hd he with ⟨h1, h2⟩ | ⟨d', h1, h2⟩
      · refine ⟨h2, fun _ => ?_⟩
        have := g.inO 0 c rfl e h1
        rw [e3] at this
        have e4 : Tb.half ⟨nw, c :: r⟩ = nw.length / 2 := rfl
        rw [e4] at this
        omega
      · obtain ⟨h3, h4⟩ := g.inN i d' h1 e h2
        refine ⟨h3, fun _ => ?_⟩
        have := h4 (by simp)
        rw [e3] at this
        have e4 : Tb.half ⟨nw, c :: r⟩ = nw.length / 2 := rfl
        rw [e4] at this
        omega
    · intro i d hd e he
      rw [e1, e2]
      have := g.inO (i + 1) d hd e he
      rw [e3] at this
      have e4 : Tb.half ⟨nw, c :: r⟩ = nw.length / 2 := rfl
      rw [e4] at this
      omega
theorem grow_perm : t.grow.all.Perm t.all := by
  unfold Tb.grow
  cases h : t.full with
  | false => exact List.Perm.refl _
  | true =>
    have h0 : t.od = [] := by
      simp only [Tb.full, Bool.and_eq_true, decide_eq_true_eq] at h
      exact List.eq_nil_of_length_eq_zero h.1.2
    simp only [if_true]
    unfold Tb.all
    rw [h0]
    simp
theorem Good.grow (g : Good H t) : Good H t.grow := by
  have hn := (keysOf_perm (grow_perm (t := t))).nodup_iff.2 g.nd
  revert hn
  unfold Tb.grow
  cases h : t.full with
  | false => exact fun _ => g
  | true =>
    intro hn
    simp only [if_true] at hn ⊢
    simp only [Tb.full, Bool.and_eq_true, decide_eq_true_eq] at h
    have e1 : Tb.half ⟨List.replicate (2 * t.nw.length) [], t.nw⟩ = t.nw.length := by simp [Tb.half]
    have e2 : Tb.gone ⟨List.replicate (2 * t.nw.length) [], t.nw⟩ = 0 := by unfold Tb.gone; rw [e1]; simp
    have := g.n1
    refine ⟨by simp; omega, ?_, fun _ => by rw [e1]; simp, by rw [e1]; exact Nat.le_refl _, ?_, ?_, hn⟩
    · have := h.2; simp; omega
    · intro i c hc e he
      rw [List.getElem?_replicate] at hc
      split at hc
      · obtain rfl := Option.some.inj hc; cases he
      · cases hc
    · intro i c hc e he
      rw [e1, e2, Nat.zero_add]
      exact (g.inN i c hc e he).1

/-! ### Set and Delete -/
theorem setV_mem {k : List UInt8} {v : Int} {l : List KV} {e : KV} (h : e ∈ setV k v l) : e.1 = k ∨ e ∈ l := by
  unfold setV at h
  obtain ⟨a, ha, rfl⟩ := List.mem_map.1 h
  by_cases hk : a.1 = k
  · rw [if_pos hk]; exact .inl rfl
  · rw [if_neg hk]; exact .inr ha
theorem Good.isNew_iff (g : Good H t) (k : List UInt8) : t.isNew H k = (fnd k t.all).isNone := by
  unfold Tb.isNew
  rw [g.mv.get_eq, fnd_perm g.mv_perm g.mv.nd]
theorem Good.new_not (g : Good H t) {k : List UInt8} (h : t.isNew H k = true) : k ∉ keysOf t.all := by
  rw [g.isNew_iff, Option.isNone_iff_eq_none] at h
  exact fnd_none.1 h
theorem Good.all_put_new (g : Good H t) {k : List UInt8} (v : Int) : (t.put H k ((k, v) :: t.chn H k)).all.Perm ((k, v) :: t.all) := by
  obtain ⟨R, h1, h2⟩ := g.perm k
  exact (h2 _).trans (h1.symm.cons _)
theorem Good.all_put_set (g : Good H t) {k : List UInt8} (v : Int) : (t.put H k (setV k v (t.chn H k))).all.Perm (setV k v t.all) := by
  obtain ⟨R, h1, h2⟩ := g.perm k
  refine (h2 _).trans ?_
  have := g.others h1
  conv => lhs; rw [← setV_same (l := R) v this, ← setV_app]
  exact (h1.symm.map _)
theorem Good.all_put_out (g : Good H t) (k : List UInt8) : (t.put H k (outV k (t.chn H k))).all.Perm (outV k t.all) := by
  obtain ⟨R, h1, h2⟩ := g.perm k
  refine (h2 _).trans ?_
  have := g.others h1
  conv => lhs; rw [← outV_same (l := R) this, ← outV_app]
  exact (h1.symm.filter _)
theorem Good.put_new (g : Good H t) {k : List UInt8} (v : Int) (h : k ∉ keysOf t.all) : Good H (t.put H k ((k, v) :: t.chn H k)) := by
  refine g.put k (fun e he => ?_) ?_
  · rcases List.mem_cons.1 he with rfl | he
    · exact .inl rfl
    · exact .inr (.inl he)
  · refine (keysOf_perm (g.all_put_new v)).nodup_iff.2 ?_
    rw [keysOf, List.map_cons, List.nodup_cons]
    exact ⟨h, g.nd⟩
theorem Good.put_set (g : Good H t) {k : List UInt8} (v : Int) : Good H (t.put H k (setV k v (t.chn H k))) := by
  refine g.put k (fun e he => ?_) ?_
  · rcases setV_mem he with h | h
    · exact .inl h
    · exact .inr (.inl h)
  · refine (keysOf_perm (g.all_put_set v)).nodup_iff.2 ?_
    rw [setV_keys]; exact g.nd
theorem Good.put_out (g : Good H t) (k : List UInt8) : Good H (t.put H k (outV k (t.chn H k))) := by
  refine g.put k (fun e he => .inr (.inl (List.mem_filter.1 he).1)) ?_
  refine (keysOf_perm (g.all_put_out k)).nodup_iff.2 ?_
  exact List.Nodup.sublist (List.filter_sublist.map _) g.nd
theorem put_same (g : Good H t) (k : List UInt8) : t.put H k (t.chn H k) = t := by
  unfold Tb.put
  rcases g.chn_at k with ⟨h, hc⟩ | ⟨h, hc⟩
  · rw [if_pos h]
    obtain ⟨h1, h2⟩ := List.getElem?_eq_some_iff.1 hc
    rw [← h2, List.set_getElem_self]
  · rw [if_neg (by simp [h])]
    obtain ⟨h1, h2⟩ := List.getElem?_eq_some_iff.1 hc
    rw [← h2, List.set_getElem_self]
theorem Good.setT (g : Good H t) (k : List UInt8) (v : Int) : Good H (t.setT H k v) := by
  unfold Tb.setT
  cases h : t.isNew H k with
  | true =>
    refine (g.mv.put_new v ?_).grow
    intro hk
    exact g.new_not h ((keysOf_perm g.mv_perm).mem_iff.1 hk)
  | false => exact g.mv.put_set v
theorem Good.delT (g : Good H t) (k : List UInt8) : Good H (t.delT H k) := g.mv.put_out k
theorem Good.all_setT (g : Good H t) (k : List UInt8) (v : Int) : (t.setT H k v).all.Perm (if t.isNew H k then (k, v) :: t.all else setV k v t.all) := by
  unfold Tb.setT
  cases h : t.isNew H k with
  | true => exact grow_perm.trans ((g.mv.all_put_new v).trans (g.mv_perm.cons _))
  | false => exact (g.mv.all_put_set v).trans (g.mv_perm.map _)
theorem Good.all_delT (g : Good H t) (k : List UInt8) : (t.delT H k).all.Perm (outV k t.all) := (g.mv.all_put_out k).trans (g.mv_perm.filter _)
/-- What a key's number is behind a Set. -/
theorem Good.fnd_setT (g : Good H t) (k k' : List UInt8) (v : Int) : fnd k' (t.setT H k v).all = if k' = k then some v else fnd k' t.all := by
  have hp := g.all_setT k v
  rw [fnd_perm hp (g.setT k v).nd]
  cases h : t.isNew H k with
  | true =>
    simp only [if_true]
    rw [fnd_cons]
    by_cases hk : k' = k
    · simp [hk]
    · rw [if_neg hk, if_neg (fun x => hk x.symm)]
  | false =>
    simp only [Bool.false_eq_true, if_false]
    rw [fnd_setV]
    rw [g.isNew_iff] at h
    by_cases hk : k' = k
    · rw [if_pos hk, if_pos hk]
      cases hf : fnd k t.all with
      | none => rw [hf] at h; cases h
      | some x => rfl
    · rw [if_neg hk, if_neg hk]
theorem Good.fnd_delT (g : Good H t) (k k' : List UInt8) : fnd k' (t.delT H k).all = if k' = k then none else fnd k' t.all := by
  rw [fnd_perm (g.all_delT k) (g.delT k).nd, fnd_outV]
theorem Good.len_setT (g : Good H t) (k : List UInt8) (v : Int) : (t.setT H k v).all.length = t.all.length + (if t.isNew H k then 1 else 0) := by
  rw [(g.all_setT k v).length_eq]
  cases h : t.isNew H k <;> simp [setV]
theorem Good.len_delT (g : Good H t) (k : List UInt8) : (t.delT H k).all.length + (if (fnd k t.all).isSome then 1 else 0) = t.all.length := by
  rw [(g.all_delT k).length_eq]
  have := outV_len (k := k) g.nd
  have e : (k ∈ keysOf t.all) ↔ (fnd k t.all).isSome = true := by
    rw [Option.isSome_iff_ne_none, Ne, fnd_none, Classical.not_not]
  simp only [e] at this
  exact this
theorem Good.len_mv (g : Good H t) : (t.mv H).all.length = t.all.length := g.mv_perm.length_eq
/-- A new table. -/
def Tb.mk0 (n : Nat) : Tb := ⟨List.replicate n [], []⟩
theorem mk0_all (n : Nat) : (Tb.mk0 n).all = [] := by simp [Tb.mk0, Tb.all]
theorem Good.mk0 (n : Nat) (h1 : 1 ≤ n) (h2 : n ≤ 1024) : Good H (Tb.mk0 n) := by
  refine ⟨by simpa [Tb.mk0] using h1, by simp [Tb.mk0]; omega, fun h => absurd h (by simp [Tb.mk0]), by simp [Tb.mk0], ?_, ?_, by rw [mk0_all]; exact List.nodup_nil⟩
  · intro i c hc e he
    simp only [Tb.mk0, List.getElem?_replicate] at hc
    split at hc
    · obtain rfl := Option.some.inj hc; cases he
    · cases hc
  · intro i c hc; simp [Tb.mk0] at hc
end
end Go.Proofs.YtdkiegkgnimapabDoor.Tab
