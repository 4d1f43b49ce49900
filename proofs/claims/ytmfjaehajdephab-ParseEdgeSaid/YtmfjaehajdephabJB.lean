/- Texts joined. -/
import Derived.WalkKit
import Derived.Orders
/- A region that draws its order, told by what each operation yields: whatever order is drawn, the frame is the one that the operations carried out make. -/
set_option linter.unusedVariables false
set_option linter.unusedSimpArgs false
set_option maxRecDepth 8000
namespace Go.Proofs.Ytmfjaehajdephab
open Go.RowKit

section
variable {P : Program} {ops : Array Oper} {Q : Exit → Act → World → Prop} {md : Region.Mode}

def todo (listed : Array Bool) : Nat := listed.toList.count false

theorem todo_set (listed : Array Bool) (i : Nat) (h : listed.getD i true = false) : todo (listed.setIfInBounds i true) + 1 = todo listed := by
  have hi : i < listed.size := by
    rcases Nat.lt_or_ge i listed.size with h1 | h1
    · exact h1
    · simp [Array.getD, show ¬ i < listed.size by omega] at h
  have hv : listed.toList[i]? = some false := by
    simp [Array.getD, hi] at h
    simp [hi, h]
  have key : ∀ (l : List Bool) (j : Nat), l[j]? = some false → (l.set j true).count false + 1 = l.count false := by
    intro l
    induction l with
    | nil => intro j h; simp at h
    | cons a r ih =>
      intro j h
      cases j with
      | zero => simp at h; subst h; simp
      | succ j =>
        simp only [List.getElem?_cons_succ] at h
        have := ih j h
        cases a <;> simp [this] <;> omega
  unfold todo
  rw [Array.toList_setIfInBounds]
  exact key _ _ hv

theorem ready_free {listed : Array Bool} {i : Nat} (h : i ∈ Region.ready md ops listed) : i < ops.size ∧ listed.getD i true = false ∧ ((ops[i]?).map (·.after.all fun e => !Region.binds md e || listed.getD e.on false)).getD false = true := by
  simp only [Region.ready, List.mem_filter, List.mem_range, Bool.and_eq_true, Bool.not_eq_true'] at h
  exact ⟨h.1, h.2.1, h.2.2⟩

/-- Whatever order is drawn: an invariant that every operation that may come up keeps. -/
theorem wpAny_by (I : Array Bool → Act → World → Prop) (hdone : ∀ listed a w, I listed a w → Region.ready md ops listed = [] → Q .normal a w)
    (hstep : ∀ listed a w, I listed a w → ∀ i ∈ Region.ready md ops listed, wpOp P ops Q i (I (listed.setIfInBounds i true)) a w) :
    ∀ fuel listed a w, I listed a w → todo listed ≤ fuel → wpAny P md ops Q fuel listed a w
  | 0, listed, a, w, h, hf => by
    have hr : Region.ready md ops listed = [] := by
      apply List.eq_nil_iff_forall_not_mem.2
      intro i hi
      obtain ⟨_, h1, _⟩ := ready_free hi
      have := todo_set listed i h1
      omega
    exact ⟨hr, hdone _ _ _ h hr⟩
  | fuel + 1, listed, a, w, h, hf =>
    ⟨hdone _ _ _ h, fun i hi => wpOp_mono (fun a' w' h' => wpAny_by I hdone hstep fuel _ a' w' h' (by
      have := todo_set listed i (ready_free hi).2.1
      omega)) (hstep _ _ _ h i hi)⟩
end

/-! ### Frames -/
section
/-- What a slot holds: its operation's value, where it has come up. -/
def pickSlot (own : Nat → Option Nat) (V : Nat → Value) (listed : Array Bool) (t : Nat) (v : Value) : Value := match own t with
  | some i => if listed.getD i false = true then V i else v
  | none => v
def upd (own : Nat → Option Nat) (V : Nat → Value) (listed : Array Bool) : Nat → List Value → List Value
  | _, [] => []
  | t, v :: r => pickSlot own V listed t v :: upd own V listed (t + 1) r
def frameOf (own : Nat → Option Nat) (V : Nat → Value) (a0 : Act) (listed : Array Bool) : Act := { a0 with tmps := (upd own V listed 0 a0.tmps.toList).toArray }

theorem upd_length (own : Nat → Option Nat) (V : Nat → Value) (listed : Array Bool) : ∀ (l : List Value) (t : Nat), (upd own V listed t l).length = l.length
  | [], _ => rfl
  | v :: r, t => by simp [upd, upd_length own V listed r]
theorem upd_get (own : Nat → Option Nat) (V : Nat → Value) (listed : Array Bool) : ∀ (l : List Value) (t j : Nat), (upd own V listed t l)[j]? = (l[j]?).map (pickSlot own V listed (t + j))
  | [], _, _ => by simp [upd]
  | v :: r, t, 0 => by simp [upd]
  | v :: r, t, j + 1 => by
    simp only [upd, List.getElem?_cons_succ]
    rw [upd_get own V listed r (t + 1) j, show t + 1 + j = t + (j + 1) by omega]

theorem frame_get (own : Nat → Option Nat) (V : Nat → Value) (a0 : Act) (listed : Array Bool) (t : Nat) : (frameOf own V a0 listed).tmps[t]? = (a0.tmps[t]?).map (pickSlot own V listed t) := by
  show (upd own V listed 0 a0.tmps.toList).toArray[t]? = _
  rw [List.getElem?_toArray, upd_get, Nat.zero_add, Array.getElem?_toList]

theorem frame_none (own : Nat → Option Nat) (V : Nat → Value) (a0 : Act) (n : Nat) : frameOf own V a0 (Array.replicate n false) = a0 := by
  have e : (upd own V (Array.replicate n false) 0 a0.tmps.toList).toArray = a0.tmps := by
    apply Array.ext'
    rw [List.toList_toArray]
    apply List.ext_getElem?
    intro j
    rw [upd_get]
    cases h : a0.tmps.toList[j]? with
    | none => rfl
    | some v =>
      simp only [Option.map_some, Option.some.injEq]
      unfold pickSlot
      split
      · rw [if_neg]
        simp [Array.getD]
      · rfl
  unfold frameOf
  rw [e]

theorem getD_set (listed : Array Bool) (i j : Nat) (hi : i < listed.size) : (listed.setIfInBounds i true).getD j false = if j = i then true else listed.getD j false := by
  simp only [Array.getD_eq_getD_getElem?, Array.getElem?_setIfInBounds]
  by_cases h : i = j
  · subst h; simp [hi]
  · rw [if_neg h, if_neg (fun e => h e.symm)]

theorem frame_put {own : Nat → Option Nat} {V : Nat → Value} {a0 : Act} {listed : Array Bool} {i t : Nat} (hi : i < listed.size) (ho : own t = some i) (hu : ∀ s, own s = some i → s = t) :
    (frameOf own V a0 listed).put (some t) (V i) = frameOf own V a0 (listed.setIfInBounds i true) := by
  have e : ((frameOf own V a0 listed).tmps.setIfInBounds t (V i)) = (frameOf own V a0 (listed.setIfInBounds i true)).tmps := by
    apply Array.ext_getElem?
    intro s
    rw [Array.getElem?_setIfInBounds, frame_get, frame_get]
    have hsz : (frameOf own V a0 listed).tmps.size = a0.tmps.size := by
      show (upd own V listed 0 a0.tmps.toList).toArray.size = _
      rw [List.size_toArray, upd_length, Array.length_toList]
    by_cases hst : t = s
    · subst hst
      rw [if_pos rfl, hsz]
      by_cases hlt : t < a0.tmps.size
      · rw [if_pos hlt, Array.getElem?_eq_getElem hlt]
        simp only [Option.map_some, Option.some.injEq, pickSlot, ho]
        rw [getD_set _ _ _ hi]; simp
      · rw [if_neg hlt]
        simp [show a0.tmps.size ≤ t by omega]
    · rw [if_neg hst]
      congr 1
      funext v
      unfold pickSlot
      cases h : own s with
      | none => rfl
      | some j =>
        have hj : j ≠ i := fun e => hst (hu s (by rw [h, e])).symm
        simp only [getD_set _ _ _ hi, if_neg hj]
  unfold Act.put
  simp only []
  rw [e]
  rfl

theorem frame_skip {own : Nat → Option Nat} {V : Nat → Value} {a0 : Act} {listed : Array Bool} {i : Nat} (hi : i < listed.size) (hu : ∀ s, own s ≠ some i) :
    frameOf own V a0 listed = frameOf own V a0 (listed.setIfInBounds i true) := by
  unfold frameOf
  congr 2
  have : ∀ (l : List Value) (t : Nat), upd own V listed t l = upd own V (listed.setIfInBounds i true) t l := by
    intro l
    induction l with
    | nil => intro t; rfl
    | cons v r ih =>
      intro t
      simp only [upd, ih]
      congr 1
      unfold pickSlot
      cases h : own t with
      | none => rfl
      | some j =>
        have hj : j ≠ i := fun e => hu t (by rw [h, e])
        simp only [getD_set _ _ _ hi, if_neg hj]
  exact this _ _

theorem frame_eval (own : Nat → Option Nat) (V : Nat → Value) (a0 : Act) (listed : Array Bool) (t : Nat) (ht : t < a0.tmps.size) :
    (frameOf own V a0 listed).eval (.tmp t) = pickSlot own V listed t (a0.eval (.tmp t)) := by
  have h := frame_get own V a0 listed t
  rw [Array.getElem?_eq_getElem ht] at h
  simp only [Option.map_some] at h
  simp only [Act.eval]
  first
    | (simp [Array.getD_eq_getD_getElem?, h, Array.getElem?_eq_getElem ht]; done)
    | (simp [h, ht]; done)
end

/-! ### The region -/
section
variable {P : Program} {ops : Array Oper} {Q : Exit → Act → World → Prop}

def ownOf (ops : Array Oper) (t : Nat) : Option Nat := (List.range ops.size).find? fun i => (ops[i]?).bind (·.dst) == some t

/-- Each operation waits for earlier ones alone, writes a slot of its own, and has no guard. -/
def plainRegion (ops : Array Oper) : Bool := (List.range ops.size).all fun i => match ops[i]? with
  | some o => (o.after.all fun e => !Region.binds .any e || decide (e.on < i)) && o.guard.isNone && (match o.dst with | some t => ownOf ops t == some i | none => true)
  | none => false

/-- What an operation yields: a value in some world; nothing; or a call that hands it back. -/
def OpRuns (P : Program) (ev : Operand → Value) (o : Oper) (v : Value) (w : World) (C : World → Prop) : Prop :=
  (∃ w', (execOp ev o).run P w = .ok (.value v) w' ∧ C w') ∨ (v = undef ∧ ∃ w', (execOp ev o).run P w = .ok .skip w' ∧ C w') ∨
  (∃ f args, (execOp ev o).run P w = .ok (.enter f args) w ∧ Calls P f args w fun e w' => e = .returned v ∧ C w')

theorem ownOf_back {t i : Nat} (h : ownOf ops t = some i) : (ops[i]?).bind (·.dst) = some t := by
  have := List.find?_some h
  simpa using this

/-- The same with guards: a guard is an earlier operation that is waited for, and that writes a slot. -/
def guardRegion (ops : Array Oper) : Bool := (List.range ops.size).all fun i => match ops[i]? with
  | some o => (o.after.all fun e => decide (e.on < i)) && (match o.guard with | none => true | some (j, _) => (o.after.any fun e => e.on == j && Region.binds .any e) && ((ops[j]?).bind (·.dst)).isSome) && (match o.dst with | some t => ownOf ops t == some i | none => true)
  | none => false
/-- Is an operation carried out, by what its guard yields? -/
def wantV (V : Nat → Value) (o : Oper) : Bool := match o.guard with
  | none => true
  | some (j, b) => match V j with | .bool c => c == b | _ => false
theorem all_listed {listed : Array Bool} (hs : listed.size = ops.size) (hp : plainRegion ops = true) (hr : Region.ready .any ops listed = []) : listed = Array.replicate ops.size true := by
  have key : ∀ i, i < ops.size → listed.getD i true = true := by
    intro i
    induction i using Nat.strongRecOn with
    | ind i ih =>
      intro hi
      cases h : listed.getD i true with
      | true => rfl
      | false =>
        exfalso
        have hpi := List.all_eq_true.1 hp i (List.mem_range.2 hi)
        rw [Array.getElem?_eq_getElem hi] at hpi
        simp only [Bool.and_eq_true] at hpi
        have hmem : i ∈ Region.ready .any ops listed := by
          simp only [Region.ready, List.mem_filter, List.mem_range, Bool.and_eq_true, Bool.not_eq_true']
          refine ⟨hi, h, ?_⟩
          rw [Array.getElem?_eq_getElem hi]
          simp only [Option.map_some, Option.getD_some]
          rw [Array.all_eq_true]
          intro j hj
          have hd := (Array.all_eq_true.1 hpi.1.1) j hj
          rw [Bool.or_eq_true] at hd ⊢
          rcases hd with hd | hd
          · left; exact hd
          simp only [decide_eq_true_eq] at hd
          have := ih _ hd (by omega)
          right
          simp only [Array.getD_eq_getD_getElem?] at this ⊢
          rw [Array.getElem?_eq_getElem (by omega)] at this ⊢
          simpa using this
        rw [hr] at hmem
        cases hmem
  apply Array.ext
  · simp [hs]
  · intro i h1 h2
    have := key i (by omega)
    simp only [Array.getD_eq_getD_getElem?, Array.getElem?_eq_getElem h1, Option.getD_some] at this
    simp [this]

theorem all_listed_g {listed : Array Bool} (hs : listed.size = ops.size) (hp : guardRegion ops = true) (hr : Region.ready .any ops listed = []) : listed = Array.replicate ops.size true := by
  have key : ∀ i, i < ops.size → listed.getD i true = true := by
    intro i
    induction i using Nat.strongRecOn with
    | ind i ih =>
      intro hi
      cases h : listed.getD i true with
      | true => rfl
      | false =>
        exfalso
        have hpi := List.all_eq_true.1 hp i (List.mem_range.2 hi)
        rw [Array.getElem?_eq_getElem hi] at hpi
        simp only [Bool.and_eq_true] at hpi
        have hmem : i ∈ Region.ready .any ops listed := by
          simp only [Region.ready, List.mem_filter, List.mem_range, Bool.and_eq_true, Bool.not_eq_true']
          refine ⟨hi, h, ?_⟩
          rw [Array.getElem?_eq_getElem hi]
          simp only [Option.map_some, Option.getD_some]
          rw [Array.all_eq_true]
          intro j hj
          have hd := (Array.all_eq_true.1 hpi.1.1) j hj
          simp only [decide_eq_true_eq] at hd
          have := ih _ hd (by omega)
          rw [Bool.or_eq_true]
          right
          simp only [Array.getD_eq_getD_getElem?] at this ⊢
          rw [Array.getElem?_eq_getElem (by omega)] at this ⊢
          simpa using this
        rw [hr] at hmem
        cases hmem
  apply Array.ext
  · simp [hs]
  · intro i h1 h2
    have := key i (by omega)
    simp only [Array.getD_eq_getD_getElem?, Array.getElem?_eq_getElem h1, Option.getD_some] at this
    simp [this]

/-- The operations' values laid down in the order of the text. -/
def lexF (V : Nat → Value) : Nat → List Oper → Act → Act
  | _, [], a => a
  | i, o :: r, a => lexF V (i + 1) r (a.put o.dst (V i))

def firstK (n : Nat) : Nat → Array Bool
  | 0 => Array.replicate n false
  | k + 1 => (firstK n k).setIfInBounds k true
theorem firstK_size (n : Nat) : ∀ k, (firstK n k).size = n
  | 0 => by simp [firstK]
  | k + 1 => by simp [firstK, firstK_size n k]
theorem firstK_get (n : Nat) : ∀ k j, j < n → (firstK n k)[j]? = some (decide (j < k))
  | 0, j, hj => by simp [firstK, hj]
  | k + 1, j, hj => by
    rw [firstK, Array.getElem?_setIfInBounds, firstK_size]
    by_cases h : k = j
    · subst h; simp [hj]
    · rw [if_neg h, firstK_get n k j hj]
      congr 1
      rw [decide_eq_decide]
      omega
theorem firstK_all (n : Nat) : firstK n n = Array.replicate n true := by
  apply Array.ext
  · simp [firstK_size]
  · intro i h1 h2
    have hi : i < n := by rw [firstK_size] at h1; exact h1
    have := firstK_get n n i hi
    rw [Array.getElem?_eq_getElem h1] at this
    simp [hi] at this
    simp [this]

theorem frame_step (hp : plainRegion ops = true) {V : Nat → Value} {a0 : Act} {listed : Array Bool} {i : Nat} {o : Oper} (hs : listed.size = ops.size) (ho : ops[i]? = some o) :
    (frameOf (ownOf ops) V a0 listed).put o.dst (V i) = frameOf (ownOf ops) V a0 (listed.setIfInBounds i true) := by
  have hlt : i < ops.size := (Array.getElem?_eq_some_iff.1 ho).1
  have hpi := List.all_eq_true.1 hp i (List.mem_range.2 hlt)
  rw [ho] at hpi
  simp only [Bool.and_eq_true] at hpi
  cases hd : o.dst with
  | none =>
    exact frame_skip (by omega) (fun s hs' => by
      have := ownOf_back hs'
      rw [ho] at this
      simp [hd] at this)
  | some t =>
    have hown : ownOf ops t = some i := by
      have := hpi.2
      rw [hd] at this
      simpa using this
    exact frame_put (by omega) hown (fun s hs' => by
      have := ownOf_back hs'
      rw [ho] at this
      simp [hd] at this
      exact this.symm)

theorem lexF_go (hp : plainRegion ops = true) (V : Nat → Value) (a0 : Act) : ∀ (l : List Oper) (k : Nat), (∀ j, l[j]? = ops[k + j]?) → k + l.length = ops.size → lexF V k l (frameOf (ownOf ops) V a0 (firstK ops.size k)) = frameOf (ownOf ops) V a0 (firstK ops.size ops.size)
  | [], k, _, hk => by
    simp only [List.length_nil, Nat.add_zero] at hk
    rw [← hk]; rfl
  | o :: r, k, hl, hk => by
    have ho : ops[k]? = some o := by have := hl 0; simpa using this.symm
    rw [lexF, frame_step hp (firstK_size _ _) ho]
    exact lexF_go hp V a0 r (k + 1) (fun j => by
      have := hl (j + 1)
      rw [List.getElem?_cons_succ] at this
      rw [this, show k + 1 + j = k + (j + 1) by omega]) (by simp at hk; omega)

theorem frame_lex (hp : plainRegion ops = true) (V : Nat → Value) (a0 : Act) : frameOf (ownOf ops) V a0 (Array.replicate ops.size true) = lexF V 0 ops.toList a0 := by
  have h := lexF_go hp V a0 ops.toList 0 (fun j => by simp) (by simp)
  rw [← firstK_all, ← h]
  show _ = lexF V 0 ops.toList a0
  congr 1
  exact frame_none _ _ _ _

theorem frame_step_g (hp : guardRegion ops = true) {V : Nat → Value} {a0 : Act} {listed : Array Bool} {i : Nat} {o : Oper} (hs : listed.size = ops.size) (ho : ops[i]? = some o) :
    (frameOf (ownOf ops) V a0 listed).put o.dst (V i) = frameOf (ownOf ops) V a0 (listed.setIfInBounds i true) := by
  have hlt : i < ops.size := (Array.getElem?_eq_some_iff.1 ho).1
  have hpi := List.all_eq_true.1 hp i (List.mem_range.2 hlt)
  rw [ho] at hpi
  simp only [Bool.and_eq_true] at hpi
  cases hd : o.dst with
  | none =>
    exact frame_skip (by omega) (fun s hs' => by
      have := ownOf_back hs'
      rw [ho] at this
      simp [hd] at this)
  | some t =>
    have hown : ownOf ops t = some i := by
      have := hpi.2
      rw [hd] at this
      simpa using this
    exact frame_put (by omega) hown (fun s hs' => by
      have := ownOf_back hs'
      rw [ho] at this
      simp [hd] at this
      exact this.symm)

theorem lexF_go_g (hp : guardRegion ops = true) (V : Nat → Value) (a0 : Act) : ∀ (l : List Oper) (k : Nat), (∀ j, l[j]? = ops[k + j]?) → k + l.length = ops.size → lexF V k l (frameOf (ownOf ops) V a0 (firstK ops.size k)) = frameOf (ownOf ops) V a0 (firstK ops.size ops.size)
  | [], k, _, hk => by
    simp only [List.length_nil, Nat.add_zero] at hk
    rw [← hk]; rfl
  | o :: r, k, hl, hk => by
    have ho : ops[k]? = some o := by have := hl 0; simpa using this.symm
    rw [lexF, frame_step_g hp (firstK_size _ _) ho]
    exact lexF_go_g hp V a0 r (k + 1) (fun j => by
      have := hl (j + 1)
      rw [List.getElem?_cons_succ] at this
      rw [this, show k + 1 + j = k + (j + 1) by omega]) (by simp at hk; omega)

theorem frame_lex_g (hp : guardRegion ops = true) (V : Nat → Value) (a0 : Act) : frameOf (ownOf ops) V a0 (Array.replicate ops.size true) = lexF V 0 ops.toList a0 := by
  have h := lexF_go_g hp V a0 ops.toList 0 (fun j => by simp) (by simp)
  rw [← firstK_all, ← h]
  show _ = lexF V 0 ops.toList a0
  congr 1
  exact frame_none _ _ _ _

theorem wp_region_by {id : Nat} {a0 : Act} {w : World} (hm : P.follows .mixedOrders = true) (hp : plainRegion ops = true) (V : Nat → Value) (C : Array Bool → World → Prop)
    (hC0 : C (Array.replicate ops.size false) { w with drawn := w.drawn + 1 })
    (hops : ∀ i o, ops[i]? = some o → ∀ listed w' ev, listed.size = ops.size → C listed w' → listed.getD i true = false →
      (∀ e ∈ o.after.toList, Region.binds .any e = true → listed.getD e.on false = true) →
      (∀ t, t < a0.tmps.size → ev (.tmp t) = pickSlot (ownOf ops) V listed t (a0.eval (.tmp t))) → (∀ v, ev (.const v) = v) → (∀ f, ev (.func f) = .func (.func f) #[] #[]) →
      OpRuns P ev o (V i) w' (C (listed.setIfInBounds i true)))
    (hend : ∀ w', C (Array.replicate ops.size true) w' → Q .normal (lexF V 0 ops.toList a0) w') : (Code.region id ops true).wp P Q a0 w := by
  refine wp_region_any hm ?_
  refine wpAny_by (fun listed a w' => listed.size = ops.size ∧ a = frameOf (ownOf ops) V a0 listed ∧ C listed w') ?_ ?_ _ _ _ _ ⟨by simp, (frame_none _ _ _ _).symm, hC0⟩ ?_
  · rintro listed a w' ⟨hs, rfl, hc⟩ hr
    have := all_listed hs hp hr
    subst this
    rw [frame_lex hp]
    exact hend w' hc
  · rintro listed a w' ⟨hs, rfl, hc⟩ i hi
    obtain ⟨hlt, hfree, haft⟩ := ready_free hi
    have ho : ops[i]? = some ops[i] := Array.getElem?_eq_getElem hlt
    have hpi := List.all_eq_true.1 hp i (List.mem_range.2 hlt)
    rw [ho] at hpi
    simp only [Bool.and_eq_true] at hpi
    rw [ho] at haft
    simp only [Option.map_some, Option.getD_some] at haft
    have hbind : ∀ e ∈ (ops[i]).after.toList, Region.binds .any e = true → listed.getD e.on false = true := by
      intro e he hb
      obtain ⟨j, hj, hje⟩ := List.getElem_of_mem he
      have hx := (Array.all_eq_true.1 haft) j (by simpa using hj)
      have hje' : (ops[i]).after[j]'(by simpa using hj) = e := by simpa using hje
      rw [hje', hb] at hx
      simpa using hx
    have hrun := hops i ops[i] ho listed w' (frameOf (ownOf ops) V a0 listed).eval hs hc hfree hbind (fun t ht => frame_eval _ _ _ _ _ ht) (fun v => rfl) (fun f => rfl)
    have hw : Region.wanted ops[i] (yielded ops (frameOf (ownOf ops) V a0 listed).tmps) = true := by
      have hg : ops[i].guard = none := by simpa using hpi.1.2
      simp [Region.wanted, hg]
    have hput : (frameOf (ownOf ops) V a0 listed).put ops[i].dst (V i) = frameOf (ownOf ops) V a0 (listed.setIfInBounds i true) := by
      cases hd : ops[i].dst with
      | none =>
        exact frame_skip (by omega) (fun s hs' => by
          have := ownOf_back hs'
          rw [ho] at this
          simp [hd] at this)
      | some t =>
        have hown : ownOf ops t = some i := by
          have := hpi.2
          rw [hd] at this
          simpa using this
        exact frame_put (by omega) hown (fun s hs' => by
          have := ownOf_back hs'
          rw [ho] at this
          simp [hd] at this
          exact this.symm)
    unfold wpOp
    rw [ho]
    simp only [hw, if_true]
    left
    unfold Oper.wp
    rcases hrun with ⟨w2, hr, hc2⟩ | ⟨hv, w2, hr, hc2⟩ | ⟨f, args, hr, hcalls⟩
    · rw [hr]
      exact ⟨by simpa using hs, hput, hc2⟩
    · rw [hr]
      rw [hv] at hput
      exact ⟨by simpa using hs, hput, hc2⟩
    · rw [hr]
      refine hcalls.mono ?_
      rintro e w2 ⟨rfl, hc2⟩
      exact ⟨by simpa using hs, hput, hc2⟩
  · unfold todo
    simp

/-- A region whose world turns at one operation alone. -/
theorem wp_region_turn {id : Nat} {a0 : Act} {w : World} (hm : P.follows .mixedOrders = true) (hp : plainRegion ops = true) (V : Nat → Value) (z : Nat) (hz : z < ops.size) (C : Bool → World → Prop)
    (hC0 : C false { w with drawn := w.drawn + 1 })
    (hops : ∀ (i : Nat) (o : Oper), ops[i]? = some o → ∀ (f : Bool) (w' : World) (ev : Operand → Value), C f w' → (i = z → f = false) →
      (∀ t j e, ownOf ops t = some j → e ∈ o.after.toList → Region.binds .any e = true → e.on = j → t < a0.tmps.size → ev (.tmp t) = V j) →
      (∀ t, ownOf ops t = none → t < a0.tmps.size → ev (.tmp t) = a0.eval (.tmp t)) → (∀ v, ev (.const v) = v) → (∀ f, ev (.func f) = .func (.func f) #[] #[]) →
      OpRuns P ev o (V i) w' (C (if i = z then true else f)))
    (hend : ∀ w', C true w' → Q .normal (lexF V 0 ops.toList a0) w') : (Code.region id ops true).wp P Q a0 w := by
  refine wp_region_by hm hp V (fun listed W => C (listed.getD z false) W) ?_ ?_ ?_
  · simp only [Array.getD_eq_getD_getElem?, Array.getElem?_replicate, hz, if_true, Option.getD_some]; exact hC0
  · intro i o hi listed w' ev hs hc hfree hbind hev hcst hfn
    have h1 := hops i o hi (listed.getD z false) w' ev hc (fun e => by
      subst e
      simp only [Array.getD_eq_getD_getElem?] at hfree ⊢
      rw [Array.getElem?_eq_getElem (by omega)] at hfree ⊢
      simpa using hfree)
      (fun t j e hown he hb hej ht => by rw [hev t ht]; unfold pickSlot; rw [hown]; simp only; rw [if_pos (hej ▸ hbind e he hb)])
      (fun t hown ht => by rw [hev t ht]; unfold pickSlot; rw [hown]) hcst hfn
    have hlt : i < listed.size := by rw [hs]; exact (Array.getElem?_eq_some_iff.1 hi).1
    have e : (listed.setIfInBounds i true).getD z false = if i = z then true else listed.getD z false := by
      rw [getD_set _ _ _ hlt]
      by_cases h : i = z
      · rw [if_pos h.symm, if_pos h]
      · rw [if_neg (fun e => h e.symm), if_neg h]
    rw [e]
    exact h1
  · intro w' hc
    refine hend w' ?_
    simp only [Array.getD_eq_getD_getElem?, Array.getElem?_replicate, hz, if_true, Option.getD_some] at hc
    exact hc

theorem wp_region_guard {id : Nat} {a0 : Act} {w : World} (hm : P.follows .mixedOrders = true) (hp : guardRegion ops = true) (V : Nat → Value) (C : World → Prop)
    (hsz : ∀ (i : Nat) (o : Oper) (t : Nat), ops[i]? = some o → o.dst = some t → t < a0.tmps.size)
    (hC0 : C { w with drawn := w.drawn + 1 })
    (hops : ∀ (i : Nat) (o : Oper), ops[i]? = some o → ∀ (w' : World) (ev : Operand → Value), C w' →
      (∀ t j e, ownOf ops t = some j → e ∈ o.after.toList → Region.binds .any e = true → e.on = j → t < a0.tmps.size → ev (.tmp t) = V j) →
      (∀ t, ownOf ops t = none → t < a0.tmps.size → ev (.tmp t) = a0.eval (.tmp t)) → (∀ v, ev (.const v) = v) → (∀ f, ev (.func f) = .func (.func f) #[] #[]) →
      if wantV V o = true then OpRuns P ev o (V i) w' C else V i = undef)
    (hend : ∀ w', C w' → Q .normal (lexF V 0 ops.toList a0) w') : (Code.region id ops true).wp P Q a0 w := by
  refine wp_region_any hm ?_
  refine wpAny_by (fun listed a w' => listed.size = ops.size ∧ a = frameOf (ownOf ops) V a0 listed ∧ C w') ?_ ?_ _ _ _ _ ⟨by simp, (frame_none _ _ _ _).symm, hC0⟩ ?_
  · rintro listed a w' ⟨hs, rfl, hc⟩ hr
    have := all_listed_g hs hp hr
    subst this
    rw [frame_lex_g hp]
    exact hend w' hc
  · rintro listed a w' ⟨hs, rfl, hc⟩ i hi
    obtain ⟨hlt, hfree, haft⟩ := ready_free hi
    have ho : ops[i]? = some ops[i] := Array.getElem?_eq_getElem hlt
    have hpi := List.all_eq_true.1 hp i (List.mem_range.2 hlt)
    rw [ho] at hpi
    simp only [Bool.and_eq_true] at hpi
    rw [ho] at haft
    simp only [Option.map_some, Option.getD_some] at haft
    have hbind : ∀ e ∈ (ops[i]).after.toList, Region.binds .any e = true → listed.getD e.on false = true := by
      intro e he hb
      obtain ⟨j, hj, hje⟩ := List.getElem_of_mem he
      have hx := (Array.all_eq_true.1 haft) j (by simpa using hj)
      have hje' : (ops[i]).after[j]'(by simpa using hj) = e := by simpa using hje
      rw [hje', hb] at hx
      simpa using hx
    have hrun := hops i ops[i] ho w' (frameOf (ownOf ops) V a0 listed).eval hc
      (fun t j e hown he hb hej ht => by rw [frame_eval _ _ _ _ _ ht]; unfold pickSlot; rw [hown]; simp only; rw [if_pos (hej ▸ hbind e he hb)])
      (fun t hown ht => by rw [frame_eval _ _ _ _ _ ht]; unfold pickSlot; rw [hown]) (fun v => rfl) (fun f => rfl)
    have hw : Region.wanted ops[i] (yielded ops (frameOf (ownOf ops) V a0 listed).tmps) = wantV V ops[i] := by
      have hg := hpi.1.2
      unfold Region.wanted wantV
      cases hgd : ops[i].guard with
      | none => rfl
      | some p =>
        obtain ⟨j, b⟩ := p
        rw [hgd] at hg
        simp only [Bool.and_eq_true] at hg
        obtain ⟨hany, hdst⟩ := hg
        obtain ⟨x, hx, hxe⟩ := Array.any_eq_true.1 hany
        simp only [Bool.and_eq_true, beq_iff_eq] at hxe
        have hl : listed.getD j false = true := by
          have := hbind ((ops[i]).after[x]) (by simp) hxe.2
          rw [hxe.1] at this
          exact this
        obtain ⟨t, ht⟩ := Option.isSome_iff_exists.1 hdst
        have hoj : ∃ oj, ops[j]? = some oj := by
          cases h : ops[j]? with
          | none => rw [h] at ht; cases ht
          | some oj => exact ⟨oj, rfl⟩
        obtain ⟨oj, hoj⟩ := hoj
        have hdj : oj.dst = some t := by rw [hoj] at ht; exact ht
        have hjlt : j < ops.size := (Array.getElem?_eq_some_iff.1 hoj).1
        have hpj := List.all_eq_true.1 hp j (List.mem_range.2 hjlt)
        rw [hoj] at hpj
        simp only [Bool.and_eq_true] at hpj
        have hown : ownOf ops t = some j := by
          have := hpj.2
          rw [hdj] at this
          simpa using this
        have htl := hsz j oj t hoj hdj
        have hy : yielded ops (frameOf (ownOf ops) V a0 listed).tmps j = match V j with | .bool c => some c | _ => none := by
          unfold yielded
          rw [hoj]
          simp only [Option.bind_some, hdj]
          rw [frame_get, Array.getElem?_eq_getElem htl]
          simp only [Option.map_some]
          unfold pickSlot
          rw [hown]
          simp only [hl, if_true]
          cases V j <;> rfl
        simp only [hy]
        cases V j <;> simp
    have hput : (frameOf (ownOf ops) V a0 listed).put ops[i].dst (V i) = frameOf (ownOf ops) V a0 (listed.setIfInBounds i true) := by
      cases hd : ops[i].dst with
      | none =>
        exact frame_skip (by omega) (fun s hs' => by
          have := ownOf_back hs'
          rw [ho] at this
          simp [hd] at this)
      | some t =>
        have hown : ownOf ops t = some i := by
          have := hpi.2
          rw [hd] at this
          simpa using this
        exact frame_put (by omega) hown (fun s hs' => by
          have := ownOf_back hs'
          rw [ho] at this
          simp [hd] at this
          exact this.symm)
    unfold wpOp
    rw [ho]
    simp only [hw]
    by_cases hwv : wantV V ops[i] = true
    · rw [if_pos hwv] at hrun
      rw [hwv]
      simp only [if_true]
      left
      unfold Oper.wp
      rcases hrun with ⟨w2, hr, hc2⟩ | ⟨hv, w2, hr, hc2⟩ | ⟨f, args, hr, hcalls⟩
      · rw [hr]
        exact ⟨by simpa using hs, hput, hc2⟩
      · rw [hr]
        rw [hv] at hput
        exact ⟨by simpa using hs, hput, hc2⟩
      · rw [hr]
        refine hcalls.mono ?_
        rintro e w2 ⟨rfl, hc2⟩
        exact ⟨by simpa using hs, hput, hc2⟩
    · rw [if_neg hwv] at hrun
      have hwf : wantV V ops[i] = false := by simpa using hwv
      rw [hwf]
      rw [hrun] at hput
      simp only [Bool.false_eq_true, if_false]
      exact ⟨by simpa using hs, hput, hc⟩
  · unfold todo
    simp

/-- The same with guards. -/
theorem wp_region_gturn {id : Nat} {a0 : Act} {w : World} (hm : P.follows .mixedOrders = true) (hp : guardRegion ops = true) (V : Nat → Value) (z : Nat) (hzl : z < ops.size) (C : Bool → World → Prop)
    (hsz : ∀ (i : Nat) (o : Oper) (t : Nat), ops[i]? = some o → o.dst = some t → t < a0.tmps.size)
    (hC0 : C false { w with drawn := w.drawn + 1 })
    (hops : ∀ (i : Nat) (o : Oper), ops[i]? = some o → ∀ (f : Bool) (w' : World) (ev : Operand → Value), C f w' → (i = z → f = false) →
      (∀ t j e, ownOf ops t = some j → e ∈ o.after.toList → Region.binds .any e = true → e.on = j → t < a0.tmps.size → ev (.tmp t) = V j) →
      (∀ t, ownOf ops t = none → t < a0.tmps.size → ev (.tmp t) = a0.eval (.tmp t)) → (∀ v, ev (.const v) = v) → (∀ f, ev (.func f) = .func (.func f) #[] #[]) →
      if wantV V o = true then OpRuns P ev o (V i) w' (C (if i = z then true else f)) else V i = undef ∧ i ≠ z)
    (hend : ∀ w', C true w' → Q .normal (lexF V 0 ops.toList a0) w') : (Code.region id ops true).wp P Q a0 w := by
  refine wp_region_any hm ?_
  refine wpAny_by (fun listed a w' => listed.size = ops.size ∧ a = frameOf (ownOf ops) V a0 listed ∧ C (listed.getD z false) w') ?_ ?_ _ _ _ _ ⟨by simp, (frame_none _ _ _ _).symm, by simp only [Array.getD_eq_getD_getElem?, Array.getElem?_replicate, hzl, if_true, Option.getD_some]; exact hC0⟩ ?_
  · rintro listed a w' ⟨hs, rfl, hc⟩ hr
    have := all_listed_g hs hp hr
    subst this
    rw [frame_lex_g hp]
    refine hend w' ?_
    simp only [Array.getD_eq_getD_getElem?, Array.getElem?_replicate, hzl, if_true, Option.getD_some] at hc
    exact hc
  · rintro listed a w' ⟨hs, rfl, hc⟩ i hi
    obtain ⟨hlt, hfree, haft⟩ := ready_free hi
    have ho : ops[i]? = some ops[i] := Array.getElem?_eq_getElem hlt
    have hpi := List.all_eq_true.1 hp i (List.mem_range.2 hlt)
    rw [ho] at hpi
    simp only [Bool.and_eq_true] at hpi
    rw [ho] at haft
    simp only [Option.map_some, Option.getD_some] at haft
    have hbind : ∀ e ∈ (ops[i]).after.toList, Region.binds .any e = true → listed.getD e.on false = true := by
      intro e he hb
      obtain ⟨j, hj, hje⟩ := List.getElem_of_mem he
      have hx := (Array.all_eq_true.1 haft) j (by simpa using hj)
      have hje' : (ops[i]).after[j]'(by simpa using hj) = e := by simpa using hje
      rw [hje', hb] at hx
      simpa using hx
    have eset : (listed.setIfInBounds i true).getD z false = if i = z then true else listed.getD z false := by
      rw [getD_set _ _ _ (by omega)]
      by_cases h : i = z
      · rw [if_pos h.symm, if_pos h]
      · rw [if_neg (fun e => h e.symm), if_neg h]
    have hrun := hops i ops[i] ho (listed.getD z false) w' (frameOf (ownOf ops) V a0 listed).eval hc (fun e => by
      subst e
      simp only [Array.getD_eq_getD_getElem?] at hfree ⊢
      rw [Array.getElem?_eq_getElem (by omega)] at hfree ⊢
      simpa using hfree)
      (fun t j e hown he hb hej ht => by rw [frame_eval _ _ _ _ _ ht]; unfold pickSlot; rw [hown]; simp only; rw [if_pos (hej ▸ hbind e he hb)])
      (fun t hown ht => by rw [frame_eval _ _ _ _ _ ht]; unfold pickSlot; rw [hown]) (fun v => rfl) (fun f => rfl)
    have hw : Region.wanted ops[i] (yielded ops (frameOf (ownOf ops) V a0 listed).tmps) = wantV V ops[i] := by
      have hg := hpi.1.2
      unfold Region.wanted wantV
      cases hgd : ops[i].guard with
      | none => rfl
      | some p =>
        obtain ⟨j, b⟩ := p
        rw [hgd] at hg
        simp only [Bool.and_eq_true] at hg
        obtain ⟨hany, hdst⟩ := hg
        obtain ⟨x, hx, hxe⟩ := Array.any_eq_true.1 hany
        simp only [Bool.and_eq_true, beq_iff_eq] at hxe
        have hl : listed.getD j false = true := by
          have := hbind ((ops[i]).after[x]) (by simp) hxe.2
          rw [hxe.1] at this
          exact this
        obtain ⟨t, ht⟩ := Option.isSome_iff_exists.1 hdst
        have hoj : ∃ oj, ops[j]? = some oj := by
          cases h : ops[j]? with
          | none => rw [h] at ht; cases ht
          | some oj => exact ⟨oj, rfl⟩
        obtain ⟨oj, hoj⟩ := hoj
        have hdj : oj.dst = some t := by rw [hoj] at ht; exact ht
        have hjlt : j < ops.size := (Array.getElem?_eq_some_iff.1 hoj).1
        have hpj := List.all_eq_true.1 hp j (List.mem_range.2 hjlt)
        rw [hoj] at hpj
        simp only [Bool.and_eq_true] at hpj
        have hown : ownOf ops t = some j := by
          have := hpj.2
          rw [hdj] at this
          simpa using this
        have htl := hsz j oj t hoj hdj
        have hy : yielded ops (frameOf (ownOf ops) V a0 listed).tmps j = match V j with | .bool c => some c | _ => none := by
          unfold yielded
          rw [hoj]
          simp only [Option.bind_some, hdj]
          rw [frame_get, Array.getElem?_eq_getElem htl]
          simp only [Option.map_some]
          unfold pickSlot
          rw [hown]
          simp only [hl, if_true]
          cases V j <;> rfl
        simp only [hy]
        cases V j <;> simp
    have hput : (frameOf (ownOf ops) V a0 listed).put ops[i].dst (V i) = frameOf (ownOf ops) V a0 (listed.setIfInBounds i true) := by
      cases hd : ops[i].dst with
      | none =>
        exact frame_skip (by omega) (fun s hs' => by
          have := ownOf_back hs'
          rw [ho] at this
          simp [hd] at this)
      | some t =>
        have hown : ownOf ops t = some i := by
          have := hpi.2
          rw [hd] at this
          simpa using this
        exact frame_put (by omega) hown (fun s hs' => by
          have := ownOf_back hs'
          rw [ho] at this
          simp [hd] at this
          exact this.symm)
    unfold wpOp
    rw [ho]
    simp only [hw]
    by_cases hwv : wantV V ops[i] = true
    · rw [if_pos hwv] at hrun
      rw [hwv]
      simp only [if_true]
      left
      unfold Oper.wp
      rcases hrun with ⟨w2, hr, hc2⟩ | ⟨hv, w2, hr, hc2⟩ | ⟨f, args, hr, hcalls⟩
      · rw [hr]
        exact ⟨by simpa using hs, hput, by rw [eset]; exact hc2⟩
      · rw [hr]
        rw [hv] at hput
        exact ⟨by simpa using hs, hput, by rw [eset]; exact hc2⟩
      · rw [hr]
        refine hcalls.mono ?_
        rintro e w2 ⟨rfl, hc2⟩
        exact ⟨by simpa using hs, hput, by rw [eset]; exact hc2⟩
    · rw [if_neg hwv] at hrun
      have hwf : wantV V ops[i] = false := by simpa using hwv
      rw [hwf]
      rw [hrun.1] at hput
      simp only [Bool.false_eq_true, if_false]
      exact ⟨by simpa using hs, hput, by rw [eset, if_neg hrun.2]; exact hc⟩
  · unfold todo
    simp

/-- A region whose world turns at two operations, the one behind the other. -/
theorem wp_region_two {id : Nat} {a0 : Act} {w : World} (hm : P.follows .mixedOrders = true) (hp : plainRegion ops = true) (V : Nat → Value) (y z : Nat) (hy : y < ops.size) (hz : z < ops.size) (hyz : y ≠ z)
    (hdep : (match ops[z]? with | some o => o.after.any fun e => e.on == y && Region.binds .any e | none => false) = true) (C : Bool → Bool → World → Prop)
    (hCf : ∀ W, ¬ C false true W)
    (hC0 : C false false { w with drawn := w.drawn + 1 })
    (hops : ∀ (i : Nat) (o : Oper), ops[i]? = some o → ∀ (f g : Bool) (w' : World) (ev : Operand → Value), C f g w' → (i = y → f = false ∧ g = false) → (i = z → f = true ∧ g = false) →
      (∀ t j e, ownOf ops t = some j → e ∈ o.after.toList → Region.binds .any e = true → e.on = j → t < a0.tmps.size → ev (.tmp t) = V j) →
      (∀ t, ownOf ops t = none → t < a0.tmps.size → ev (.tmp t) = a0.eval (.tmp t)) → (∀ v, ev (.const v) = v) → (∀ f, ev (.func f) = .func (.func f) #[] #[]) →
      OpRuns P ev o (V i) w' (C (if i = y then true else f) (if i = z then true else g)))
    (hend : ∀ w', C true true w' → Q .normal (lexF V 0 ops.toList a0) w') : (Code.region id ops true).wp P Q a0 w := by
  refine wp_region_by hm hp V (fun listed W => C (listed.getD y false) (listed.getD z false) W) ?_ ?_ ?_
  · simp only [Array.getD_eq_getD_getElem?, Array.getElem?_replicate, hy, hz, if_true, Option.getD_some]; exact hC0
  · intro i o hi listed w' ev hs hc hfree hbind hev hcst hfn
    have hfr : ∀ k, i = k → k < ops.size → listed.getD k false = false := fun k e hk => by
      subst e
      simp only [Array.getD_eq_getD_getElem?] at hfree ⊢
      rw [Array.getElem?_eq_getElem (by omega)] at hfree ⊢
      simpa using hfree
    have hlt : i < listed.size := by rw [hs]; exact (Array.getElem?_eq_some_iff.1 hi).1
    have e : ∀ k, (listed.setIfInBounds i true).getD k false = if i = k then true else listed.getD k false := fun k => by
      rw [getD_set _ _ _ hlt]
      by_cases h : i = k
      · rw [if_pos h.symm, if_pos h]
      · rw [if_neg (fun e => h e.symm), if_neg h]
    simp only [e]
    refine hops i o hi (listed.getD y false) (listed.getD z false) w' ev hc (fun h => ?_) (fun h => ?_)
      (fun t j e hown he hb hej ht => by rw [hev t ht]; unfold pickSlot; rw [hown]; simp only; rw [if_pos (hej ▸ hbind e he hb)])
      (fun t hown ht => by rw [hev t ht]; unfold pickSlot; rw [hown]) hcst hfn
    · have h1 := hfr y h hy
      refine ⟨h1, ?_⟩
      cases h2 : listed.getD z false with
      | false => rfl
      | true => rw [h1, h2] at hc; exact absurd hc (hCf _)
    · refine ⟨?_, hfr z h hz⟩
      subst h
      rw [hi] at hdep
      simp only at hdep
      obtain ⟨x, hx, hxe⟩ := Array.any_eq_true.1 hdep
      simp only [Bool.and_eq_true, beq_iff_eq] at hxe
      have := hbind (o.after[x]) (by simp) hxe.2
      rw [hxe.1] at this
      exact this
  · intro w' hc
    refine hend w' ?_
    simp only [Array.getD_eq_getD_getElem?, Array.getElem?_replicate, hy, hz, if_true, Option.getD_some] at hc
    exact hc

/-- The same, the frame told by its slots. -/
theorem wp_region_slots {id : Nat} {a0 : Act} {w : World} (hm : P.follows .mixedOrders = true) (hp : plainRegion ops = true) (V : Nat → Value) (C : Array Bool → World → Prop)
    (hC0 : C (Array.replicate ops.size false) { w with drawn := w.drawn + 1 })
    (hops : ∀ i o, ops[i]? = some o → ∀ listed w' ev, listed.size = ops.size → C listed w' → listed.getD i true = false →
      (∀ e ∈ o.after.toList, Region.binds .any e = true → listed.getD e.on false = true) →
      (∀ t, t < a0.tmps.size → ev (.tmp t) = pickSlot (ownOf ops) V listed t (a0.eval (.tmp t))) → (∀ v, ev (.const v) = v) → (∀ f, ev (.func f) = .func (.func f) #[] #[]) →
      OpRuns P ev o (V i) w' (C (listed.setIfInBounds i true)))
    (hend : ∀ w' fr, C (Array.replicate ops.size true) w' → fr.defers = a0.defers → (∀ t, t < a0.tmps.size → fr.eval (.tmp t) = pickSlot (ownOf ops) V (Array.replicate ops.size true) t (a0.eval (.tmp t))) → Q .normal fr w') : (Code.region id ops true).wp P Q a0 w := by
  refine wp_region_by hm hp V C hC0 hops (fun w' hc => ?_)
  rw [← frame_lex hp]
  exact hend w' _ hc rfl (fun t ht => frame_eval _ _ _ _ _ ht)
end
end Go.Proofs.Ytmfjaehajdephab

/- A guarded region whose world turns at several operations. -/
set_option linter.unusedVariables false
set_option linter.unusedSimpArgs false
namespace Go.Proofs.Ytmfjaehajdephab
open Go.RowKit
variable {P : Program} {ops : Array Oper} {Q : Exit → Act → World → Prop} {md : Region.Mode}
/-- Does an operation wait for another one? -/
def edgeOf (ops : Array Oper) (j k : Nat) : Bool := match ops[j]? with
  | some o => o.after.any fun e => e.on == k && Region.binds .any e
  | none => false
/-- A guarded region; what is known of the world hangs on what has been done. -/
theorem wp_region_gl {id : Nat} {a0 : Act} {w : World} (hm : P.follows .mixedOrders = true) (hp : guardRegion ops = true) (V : Nat → Value) (C : Array Bool → World → Prop)
    (hsz : ∀ (i : Nat) (o : Oper) (t : Nat), ops[i]? = some o → o.dst = some t → t < a0.tmps.size)
    (hC0 : C (Array.replicate ops.size false) { w with drawn := w.drawn + 1 })
    (hops : ∀ (i : Nat) (o : Oper), ops[i]? = some o → ∀ (listed : Array Bool) (w' : World) (ev : Operand → Value), listed.size = ops.size → C listed w' → listed.getD i false = false → (∀ k, edgeOf ops i k = true → listed.getD k false = true) → (∀ j k, edgeOf ops j k = true → listed.getD j false = true → listed.getD k false = true) →
      (∀ t j e, ownOf ops t = some j → e ∈ o.after.toList → Region.binds .any e = true → e.on = j → t < a0.tmps.size → ev (.tmp t) = V j) →
      (∀ t, ownOf ops t = none → t < a0.tmps.size → ev (.tmp t) = a0.eval (.tmp t)) → (∀ v, ev (.const v) = v) → (∀ f, ev (.func f) = .func (.func f) #[] #[]) →
      if wantV V o = true then OpRuns P ev o (V i) w' (C (listed.setIfInBounds i true)) else V i = undef ∧ C (listed.setIfInBounds i true) w')
    (hend : ∀ w', C (Array.replicate ops.size true) w' → Q .normal (lexF V 0 ops.toList a0) w') : (Code.region id ops true).wp P Q a0 w := by
  refine wp_region_any hm ?_
  refine wpAny_by (fun listed a w' => listed.size = ops.size ∧ a = frameOf (ownOf ops) V a0 listed ∧ (∀ j k, edgeOf ops j k = true → listed.getD j false = true → listed.getD k false = true) ∧ C listed w') ?_ ?_ _ _ _ _ ⟨by simp, (frame_none _ _ _ _).symm, fun j k _ hj => by simp only [Array.getD_eq_getD_getElem?, Array.getElem?_replicate] at hj; split at hj <;> simp at hj, hC0⟩ ?_
  · rintro listed a w' ⟨hs, rfl, hcl, hc⟩ hr
    have := all_listed_g hs hp hr
    subst this
    rw [frame_lex_g hp]
    exact hend w' hc
  · rintro listed a w' ⟨hs, rfl, hcl, hc⟩ i hi
    obtain ⟨hlt, hfree, haft⟩ := ready_free hi
    have ho : ops[i]? = some ops[i] := Array.getElem?_eq_getElem hlt
    have hpi := List.all_eq_true.1 hp i (List.mem_range.2 hlt)
    rw [ho] at hpi
    simp only [Bool.and_eq_true] at hpi
    rw [ho] at haft
    simp only [Option.map_some, Option.getD_some] at haft
    have hbind : ∀ e ∈ (ops[i]).after.toList, Region.binds .any e = true → listed.getD e.on false = true := by
      intro e he hb
      obtain ⟨j, hj, hje⟩ := List.getElem_of_mem he
      have hx := (Array.all_eq_true.1 haft) j (by simpa using hj)
      have hje' : (ops[i]).after[j]'(by simpa using hj) = e := by simpa using hje
      rw [hje', hb] at hx
      simpa using hx
    have hdir : ∀ k, edgeOf ops i k = true → listed.getD k false = true := by
      intro k hk
      unfold edgeOf at hk
      rw [ho] at hk
      obtain ⟨x, hx, hxe⟩ := Array.any_eq_true.1 hk
      simp only [Bool.and_eq_true, beq_iff_eq] at hxe
      have := hbind ((ops[i]).after[x]) (by simp) hxe.2
      rw [hxe.1] at this
      exact this
    have hcl' : ∀ j k, edgeOf ops j k = true → (listed.setIfInBounds i true).getD j false = true → (listed.setIfInBounds i true).getD k false = true := by
      intro j k hjk hj
      rw [getD_set _ _ _ (by omega)] at hj ⊢
      split
      · rfl
      · by_cases h : j = i
        · subst h; exact hdir k hjk
        · rw [if_neg h] at hj; exact hcl j k hjk hj
    have hrun := hops i ops[i] ho listed w' (frameOf (ownOf ops) V a0 listed).eval hs hc (by
      simp only [Array.getD_eq_getD_getElem?] at hfree ⊢
      rw [Array.getElem?_eq_getElem (by omega)] at hfree ⊢
      simpa using hfree) hdir hcl
      (fun t j e hown he hb hej ht => by rw [frame_eval _ _ _ _ _ ht]; unfold pickSlot; rw [hown]; simp only; rw [if_pos (hej ▸ hbind e he hb)])
      (fun t hown ht => by rw [frame_eval _ _ _ _ _ ht]; unfold pickSlot; rw [hown]) (fun v => rfl) (fun f => rfl)
    have hw : Region.wanted ops[i] (yielded ops (frameOf (ownOf ops) V a0 listed).tmps) = wantV V ops[i] := by
      have hg := hpi.1.2
      unfold Region.wanted wantV
      cases hgd : ops[i].guard with
      | none => rfl
      | some p =>
        obtain ⟨j, b⟩ := p
        rw [hgd] at hg
        simp only [Bool.and_eq_true] at hg
        obtain ⟨hany, hdst⟩ := hg
        obtain ⟨x, hx, hxe⟩ := Array.any_eq_true.1 hany
        simp only [Bool.and_eq_true, beq_iff_eq] at hxe
        have hl : listed.getD j false = true := by
          have := hbind ((ops[i]).after[x]) (by simp) hxe.2
          rw [hxe.1] at this
          exact this
        obtain ⟨t, ht⟩ := Option.isSome_iff_exists.1 hdst
        have hoj : ∃ oj, ops[j]? = some oj := by
          cases h : ops[j]? with
          | none => rw [h] at ht; cases ht
          | some oj => exact ⟨oj, rfl⟩
        obtain ⟨oj, hoj⟩ := hoj
        have hdj : oj.dst = some t := by rw [hoj] at ht; exact ht
        have hjlt : j < ops.size := (Array.getElem?_eq_some_iff.1 hoj).1
        have hpj := List.all_eq_true.1 hp j (List.mem_range.2 hjlt)
        rw [hoj] at hpj
        simp only [Bool.and_eq_true] at hpj
        have hown : ownOf ops t = some j := by
          have := hpj.2
          rw [hdj] at this
          simpa using this
        have htl := hsz j oj t hoj hdj
        have hy : yielded ops (frameOf (ownOf ops) V a0 listed).tmps j = match V j with | .bool c => some c | _ => none := by
          unfold yielded
          rw [hoj]
          simp only [Option.bind_some, hdj]
          rw [frame_get, Array.getElem?_eq_getElem htl]
          simp only [Option.map_some]
          unfold pickSlot
          rw [hown]
          simp only [hl, if_true]
          cases V j <;> rfl
        simp only [hy]
        cases V j <;> simp
    have hput : (frameOf (ownOf ops) V a0 listed).put ops[i].dst (V i) = frameOf (ownOf ops) V a0 (listed.setIfInBounds i true) := by
      cases hd : ops[i].dst with
      | none =>
        exact frame_skip (by omega) (fun s hs' => by
          have := ownOf_back hs'
          rw [ho] at this
          simp [hd] at this)
      | some t =>
        have hown : ownOf ops t = some i := by
          have := hpi.2
          rw [hd] at this
          simpa using this
        exact frame_put (by omega) hown (fun s hs' => by
          have := ownOf_back hs'
          rw [ho] at this
          simp [hd] at this
          exact this.symm)
    unfold wpOp
    rw [ho]
    simp only [hw]
    by_cases hwv : wantV V ops[i] = true
    · rw [if_pos hwv] at hrun
      rw [hwv]
      simp only [if_true]
      left
      unfold Oper.wp
      rcases hrun with ⟨w2, hr, hc2⟩ | ⟨hv, w2, hr, hc2⟩ | ⟨f, args, hr, hcalls⟩
      · rw [hr]
        exact ⟨by simpa using hs, hput, hcl', hc2⟩
      · rw [hr]
        rw [hv] at hput
        exact ⟨by simpa using hs, hput, hcl', hc2⟩
      · rw [hr]
        refine hcalls.mono ?_
        rintro e w2 ⟨rfl, hc2⟩
        exact ⟨by simpa using hs, hput, hcl', hc2⟩
    · rw [if_neg hwv] at hrun
      have hwf : wantV V ops[i] = false := by simpa using hwv
      rw [hwf]
      rw [hrun.1] at hput
      simp only [Bool.false_eq_true, if_false]
      exact ⟨by simpa using hs, hput, hcl', hrun.2⟩
  · unfold todo
    simp

end Go.Proofs.Ytmfjaehajdephab

/- A region some of whose values are known only when they come up. -/
set_option linter.unusedVariables false
set_option linter.unusedSimpArgs false
namespace Go.Proofs.Ytmfjaehajdephab
open Go.RowKit
variable {P : Program} {ops : Array Oper} {Q : Exit → Act → World → Prop}

theorem upd_congr {own : Nat → Option Nat} {V V' : Nat → Value} {listed : Array Bool} (h : ∀ i, listed.getD i false = true → V i = V' i) : ∀ (l : List Value) (t : Nat), upd own V listed t l = upd own V' listed t l
  | [], _ => rfl
  | v :: r, t => by
    simp only [upd]
    rw [upd_congr h r]
    congr 1
    unfold pickSlot
    cases own t with
    | none => rfl
    | some i =>
      simp only
      split
      · rename_i hi; exact h i hi
      · rfl
theorem frame_congr {own : Nat → Option Nat} {V V' : Nat → Value} {a0 : Act} {listed : Array Bool} (h : ∀ i, listed.getD i false = true → V i = V' i) : frameOf own V a0 listed = frameOf own V' a0 listed := by
  unfold frameOf
  rw [upd_congr h]
def setV (V : Nat → Value) (i : Nat) (v : Value) : Nat → Value := fun j => if j = i then v else V j
theorem setV_same (V : Nat → Value) (i : Nat) (v : Value) : setV V i v i = v := by simp [setV]
theorem setV_other (V : Nat → Value) (i j : Nat) (v : Value) (h : j ≠ i) : setV V i v j = V j := by simp [setV, h]
/-- What an operation yields, whatever value it is. -/
def OpRunsX (P : Program) (ev : Operand → Value) (o : Oper) (w : World) (C : Value → World → Prop) : Prop :=
  (∃ v w', (execOp ev o).run P w = .ok (.value v) w' ∧ C v w') ∨
  (∃ f args, (execOp ev o).run P w = .ok (.enter f args) w ∧ Calls P f args w fun e w' => ∃ v, e = .returned v ∧ C v w')
theorem wp_region_ex {id : Nat} {a0 : Act} {w : World} (hm : P.follows .mixedOrders = true) (hp : plainRegion ops = true) (J : Array Bool → (Nat → Value) → World → Prop)
    (hJ0 : J (Array.replicate ops.size false) (fun _ => undef) { w with drawn := w.drawn + 1 })
    (hops : ∀ i o, ops[i]? = some o → ∀ (listed : Array Bool) (V : Nat → Value) (w' : World) (ev : Operand → Value), listed.size = ops.size → J listed V w' → listed.getD i false = false → (∀ k, edgeOf ops i k = true → listed.getD k false = true) →
      (∀ t j e, ownOf ops t = some j → e ∈ o.after.toList → Region.binds .any e = true → e.on = j → t < a0.tmps.size → ev (.tmp t) = V j) →
      (∀ t, ownOf ops t = none → t < a0.tmps.size → ev (.tmp t) = a0.eval (.tmp t)) → (∀ t j, ownOf ops t = some j → listed.getD j false = false → t < a0.tmps.size → ev (.tmp t) = a0.eval (.tmp t)) → (∀ v, ev (.const v) = v) → (∀ f, ev (.func f) = .func (.func f) #[] #[]) →
      OpRunsX P ev o w' fun v w'' => J (listed.setIfInBounds i true) (setV V i v) w'')
    (hend : ∀ V w', J (Array.replicate ops.size true) V w' → Q .normal (lexF V 0 ops.toList a0) w') : (Code.region id ops true).wp P Q a0 w := by
  refine wp_region_any hm ?_
  refine wpAny_by (fun listed a w' => listed.size = ops.size ∧ ∃ V, a = frameOf (ownOf ops) V a0 listed ∧ J listed V w') ?_ ?_ _ _ _ _ ⟨by simp, _, (frame_none _ _ _ _).symm, hJ0⟩ ?_
  · rintro listed a w' ⟨hs, V, rfl, hc⟩ hr
    have := all_listed hs hp hr
    subst this
    rw [frame_lex hp]
    exact hend V w' hc
  · rintro listed a w' ⟨hs, V, rfl, hc⟩ i hi
    obtain ⟨hlt, hfree, haft⟩ := ready_free hi
    have ho : ops[i]? = some ops[i] := Array.getElem?_eq_getElem hlt
    have hpi := List.all_eq_true.1 hp i (List.mem_range.2 hlt)
    rw [ho] at hpi
    simp only [Bool.and_eq_true] at hpi
    rw [ho] at haft
    simp only [Option.map_some, Option.getD_some] at haft
    have hbind : ∀ e ∈ (ops[i]).after.toList, Region.binds .any e = true → listed.getD e.on false = true := by
      intro e he hb
      obtain ⟨j, hj, hje⟩ := List.getElem_of_mem he
      have hx := (Array.all_eq_true.1 haft) j (by simpa using hj)
      have hje' : (ops[i]).after[j]'(by simpa using hj) = e := by simpa using hje
      rw [hje', hb] at hx
      simpa using hx
    have hdir : ∀ k, edgeOf ops i k = true → listed.getD k false = true := by
      intro k hk
      unfold edgeOf at hk
      rw [ho] at hk
      obtain ⟨x, hx, hxe⟩ := Array.any_eq_true.1 hk
      simp only [Bool.and_eq_true, beq_iff_eq] at hxe
      have := hbind ((ops[i]).after[x]) (by simp) hxe.2
      rw [hxe.1] at this
      exact this
    have hfr : listed.getD i false = false := by
      simp only [Array.getD_eq_getD_getElem?] at hfree ⊢
      rw [Array.getElem?_eq_getElem (by omega)] at hfree ⊢
      simpa using hfree
    have hrun := hops i ops[i] ho listed V w' (frameOf (ownOf ops) V a0 listed).eval hs hc hfr hdir
      (fun t j e hown he hb hej ht => by rw [frame_eval _ _ _ _ _ ht]; unfold pickSlot; rw [hown]; simp only; rw [if_pos (hej ▸ hbind e he hb)])
      (fun t hown ht => by rw [frame_eval _ _ _ _ _ ht]; unfold pickSlot; rw [hown]) (fun t j hown hj ht => by rw [frame_eval _ _ _ _ _ ht]; unfold pickSlot; rw [hown]; simp only; rw [if_neg (by rw [hj]; decide)]) (fun v => rfl) (fun f => rfl)
    have hw : Region.wanted ops[i] (yielded ops (frameOf (ownOf ops) V a0 listed).tmps) = true := by
      have hg : ops[i].guard = none := by simpa using hpi.1.2
      simp [Region.wanted, hg]
    have hput : ∀ v, (frameOf (ownOf ops) V a0 listed).put ops[i].dst v = frameOf (ownOf ops) (setV V i v) a0 (listed.setIfInBounds i true) := fun v => by
      have e : frameOf (ownOf ops) V a0 listed = frameOf (ownOf ops) (setV V i v) a0 listed := frame_congr (fun j hj => by
        rw [setV_other]
        rintro rfl
        rw [hfr] at hj; cases hj)
      rw [e]
      have := frame_step (V := setV V i v) (a0 := a0) hp hs ho
      rw [setV_same] at this
      exact this
    unfold wpOp
    rw [ho]
    simp only [hw, if_true]
    left
    unfold Oper.wp
    rcases hrun with ⟨v, w2, hr, hc2⟩ | ⟨f, args, hr, hcalls⟩
    · rw [hr]
      exact ⟨by simpa using hs, _, hput v, hc2⟩
    · rw [hr]
      refine hcalls.mono ?_
      rintro e w2 ⟨v, rfl, hc2⟩
      exact ⟨by simpa using hs, _, hput v, hc2⟩
  · unfold todo
    simp
end Go.Proofs.Ytmfjaehajdephab

/- A drawn region in which some operations turn the world, one behind the other, and yield what is known only then. -/
set_option linter.unusedVariables false
set_option linter.unusedSimpArgs false
namespace Go.Proofs.Ytmfjaehajdephab
open Go.RowKit
variable {P : Program} {ops : Array Oper} {Q : Exit → Act → World → Prop}

def zpos : List Nat → Nat → Option Nat
  | [], _ => none
  | z :: r, j => if z = j then some 0 else (zpos r j).map (· + 1)
theorem zpos_get : ∀ {zs : List Nat} {j m : Nat}, zpos zs j = some m → zs[m]? = some j
  | [], _, _, h => by cases h
  | z :: r, j, m, h => by
    unfold zpos at h
    split at h
    · rename_i e
      cases h
      simp [e]
    · obtain ⟨m', hm, rfl⟩ := Option.map_eq_some_iff.1 h
      simpa using zpos_get hm
theorem zpos_of : ∀ {zs : List Nat} {j m : Nat}, zs.Nodup → zs[m]? = some j → zpos zs j = some m
  | [], _, _, _, h => by simp at h
  | z :: r, j, 0, _, h => by
    simp only [List.getElem?_cons_zero, Option.some.injEq] at h
    simp [zpos, h]
  | z :: r, j, m + 1, hn, h => by
    rw [List.getElem?_cons_succ] at h
    have hj : j ∈ r := List.mem_of_getElem? h
    rw [List.nodup_cons] at hn
    have hne : z ≠ j := fun e => hn.1 (e ▸ hj)
    simp [zpos, hne, zpos_of hn.2 h]
/-- What an operation has yielded: one of the turning ones by their row, any other what is known ahead. -/
def linV (vals : Nat → Value) (zs : List Nat) (us : List Value) (j : Nat) : Value := match zpos zs j with
  | some m => us.getD m undef
  | none => vals j
/-- The turning ones hang on one another. -/
def linOk (ops : Array Oper) (zs : List Nat) : Bool := (List.range zs.length).all fun m => decide (m = 0) || edgeOf ops (zs.getD m 0) (zs.getD (m - 1) 0)
theorem lexF_same {V V' : Nat → Value} : ∀ (l : List Oper) (k : Nat) (a : Act), (∀ j, k ≤ j → j < k + l.length → V j = V' j) → lexF V k l a = lexF V' k l a
  | [], _, _, _ => rfl
  | o :: r, k, a, h => by
    simp only [lexF]
    rw [h k (Nat.le_refl _) (by simp), lexF_same r (k + 1) _ (fun j h1 h2 => h j (by omega) (by simp at h2 ⊢; omega))]

theorem wp_region_lin {id : Nat} {a0 : Act} {w : World} (hm : P.follows .mixedOrders = true) (hp : plainRegion ops = true) (vals : Nat → Value) (zs : List Nat) (hz : linOk ops zs = true) (hzn : zs.Nodup)
    (hzs : ∀ z ∈ zs, z < ops.size) (C : List Value → World → Prop) (hC0 : C [] { w with drawn := w.drawn + 1 })
    (hops : ∀ i o, ops[i]? = some o → ∀ (us : List Value) (w' : World) (ev : Operand → Value), C us w' → us.length ≤ zs.length →
      (∀ m j, zs[m]? = some j → edgeOf ops i j = true → m < us.length) → (∀ m j, zs[m]? = some j → edgeOf ops j i = true → us.length ≤ m) →
      (∀ t j e, ownOf ops t = some j → e ∈ o.after.toList → Region.binds .any e = true → e.on = j → t < a0.tmps.size → ev (.tmp t) = linV vals zs us j) →
      (∀ t, ownOf ops t = none → t < a0.tmps.size → ev (.tmp t) = a0.eval (.tmp t)) → (∀ t j, ownOf ops t = some j → edgeOf ops j i = true → t < a0.tmps.size → ev (.tmp t) = a0.eval (.tmp t)) → (∀ v, ev (.const v) = v) → (∀ f, ev (.func f) = .func (.func f) #[] #[]) →
      (∀ m, zpos zs i = some m → us.length = m → OpRunsX P ev o w' fun v w'' => C (us ++ [v]) w'') ∧ (zpos zs i = none → (execOp ev o).run P w' = .ok (.value (vals i)) w'))
    (hend : ∀ us w', us.length = zs.length → C us w' → Q .normal (lexF (linV vals zs us) 0 ops.toList a0) w') : (Code.region id ops true).wp P Q a0 w := by
  have gall : ∀ (n j : Nat), (Array.replicate n false).getD j false = false := fun n j => by
    simp only [Array.getD_eq_getD_getElem?, Array.getElem?_replicate]; split <;> rfl
  refine wp_region_ex hm hp (fun listed V w' => ∃ us, us.length ≤ zs.length ∧ C us w' ∧ (∀ j, listed.getD j false = true → V j = linV vals zs us j) ∧ (∀ m j, zs[m]? = some j → (listed.getD j false = true ↔ m < us.length)) ∧ (∀ j k, edgeOf ops j k = true → listed.getD j false = true → listed.getD k false = true)) ?_ ?_ ?_
  · refine ⟨[], by simp, hC0, fun j hj => ?_, fun m j _ => ?_, fun j k _ hj => ?_⟩
    · rw [gall] at hj; cases hj
    · rw [gall]; simp
    · rw [gall] at hj; cases hj
  · intro i o hi listed V w' ev hs hJ hfr hdir hin hout hold hcst hfn
    obtain ⟨us, hul, hC, hV, hL, hcl⟩ := hJ
    have his : i < listed.size := by rw [hs]; exact (Array.getElem?_eq_some_iff.1 hi).1
    have H := hops i o hi us w' ev hC hul
      (fun m j hj he => (hL m j hj).1 (hdir j he))
      (fun m j hj he => Nat.le_of_not_lt (fun hlt => by have := hcl j i he ((hL m j hj).2 hlt); rw [hfr] at this; cases this))
      (fun t j e h1 h2 h3 h4 h5 => by
        have hj : listed.getD j false = true := hdir j (by
          unfold edgeOf
          rw [hi]
          obtain ⟨q, hq, hqe⟩ := List.getElem_of_mem h2
          exact Array.any_eq_true.2 ⟨q, by simpa using hq, by
            have : o.after[q]'(by simpa using hq) = e := by simpa using hqe
            rw [this, h4, h3]; simp⟩)
        rw [hin t j e h1 h2 h3 h4 h5, hV j hj])
      hout
      (fun t j h1 h2 h3 => hold t j h1 (by
        cases hj : listed.getD j false with
        | false => rfl
        | true => have := hcl j i h2 hj; rw [hfr] at this; cases this) h3) hcst hfn
    cases hzi : zpos zs i with
    | some m =>
      have hgm := zpos_get hzi
      have hmz := (List.getElem?_eq_some_iff.1 hgm).1
      have hle : us.length ≤ m := Nat.le_of_not_lt (fun hlt => by have := (hL m i hgm).2 hlt; rw [hfr] at this; cases this)
      have hum : us.length = m := by
        rcases Nat.lt_or_ge us.length m with hlt | hge
        · exfalso
          have h1 := List.all_eq_true.1 hz m (by simpa using hmz)
          have h0 : m ≠ 0 := by omega
          simp only [h0, decide_false, Bool.false_or] at h1
          have h2 : zs.getD m 0 = i := by rw [List.getD_eq_getElem?_getD, hgm]; rfl
          have h3 : zs[m - 1]? = some (zs.getD (m - 1) 0) := by rw [List.getD_eq_getElem?_getD, List.getElem?_eq_getElem (by omega)]; rfl
          rw [h2] at h1
          have := (hL (m - 1) _ h3).1 (hdir _ h1)
          omega
        · omega
      have R := H.1 m hzi hum
      have key : ∀ v w'', C (us ++ [v]) w'' → ∃ us', us'.length ≤ zs.length ∧ C us' w'' ∧ (∀ j, (listed.setIfInBounds i true).getD j false = true → setV V i v j = linV vals zs us' j) ∧ (∀ m j, zs[m]? = some j → ((listed.setIfInBounds i true).getD j false = true ↔ m < us'.length)) ∧ (∀ j k, edgeOf ops j k = true → (listed.setIfInBounds i true).getD j false = true → (listed.setIfInBounds i true).getD k false = true) := fun v w'' hc => by
        refine ⟨us ++ [v], by simp; omega, hc, fun j hj => ?_, fun m' j hj => ?_, fun j k he hj => ?_⟩
        · rw [getD_set listed i j his] at hj
          by_cases hji : j = i
          · subst hji
            rw [setV_same]
            unfold linV
            rw [hzi]
            simp [List.getD_eq_getElem?_getD, ← hum]
          · rw [if_neg hji] at hj
            rw [setV_other _ _ _ _ hji, hV j hj]
            unfold linV
            cases hzj : zpos zs j with
            | none => rfl
            | some m2 =>
              have := (hL m2 j (zpos_get hzj)).1 hj
              simp only [List.getD_eq_getElem?_getD]
              rw [List.getElem?_append_left this]
        · rw [getD_set listed i j his]
          by_cases hji : j = i
          · subst hji
            have := zpos_of hzn hj
            rw [hzi] at this
            simp only [Option.some.injEq] at this
            simp; omega
          · rw [if_neg hji, hL m' j hj]
            have : m' ≠ m := fun e => hji (by rw [e, hgm] at hj; exact (Option.some.inj hj).symm)
            simp; omega
        · rw [getD_set listed i j his] at hj
          rw [getD_set listed i k his]
          by_cases hki : k = i
          · rw [if_pos hki]
          · rw [if_neg hki]
            by_cases hji : j = i
            · subst hji; exact hdir k he
            · rw [if_neg hji] at hj; exact hcl j k he hj
      rcases R with ⟨v, w2, hr, hc⟩ | ⟨f, args, hr, hcalls⟩
      · exact .inl ⟨v, w2, hr, key v w2 hc⟩
      · exact .inr ⟨f, args, hr, hcalls.mono (by rintro e w2 ⟨v, rfl, hc⟩; exact ⟨v, rfl, key v w2 hc⟩)⟩
    | none =>
      refine .inl ⟨vals i, w', H.2 hzi, us, hul, hC, fun j hj => ?_, fun m' j hj => ?_, fun j k he hj => ?_⟩
      · rw [getD_set listed i j his] at hj
        by_cases hji : j = i
        · subst hji
          rw [setV_same]; unfold linV; rw [hzi]
        · rw [if_neg hji] at hj
          rw [setV_other _ _ _ _ hji, hV j hj]
      · rw [getD_set listed i j his]
        by_cases hji : j = i
        · subst hji
          have := zpos_of hzn hj
          rw [hzi] at this; cases this
        · rw [if_neg hji, hL m' j hj]
      · rw [getD_set listed i j his] at hj
        rw [getD_set listed i k his]
        by_cases hki : k = i
        · rw [if_pos hki]
        · rw [if_neg hki]
          by_cases hji : j = i
          · subst hji; exact hdir k he
          · rw [if_neg hji] at hj; exact hcl j k he hj
  · rintro V w' ⟨us, hul, hC, hV, hL, hcl⟩
    have gt : ∀ j, j < ops.size → (Array.replicate ops.size true).getD j false = true := fun j hj => by simp [Array.getD_eq_getD_getElem?, Array.getElem?_replicate, hj]
    have hlen : us.length = zs.length := by
      rcases Nat.lt_or_ge us.length zs.length with hlt | hge
      · exfalso
        have h1 : zs[us.length]? = some (zs[us.length]'hlt) := List.getElem?_eq_getElem hlt
        have := (hL _ _ h1).1 (gt _ (hzs _ (List.getElem_mem hlt)))
        omega
      · omega
    rw [lexF_same (V := V) (V' := linV vals zs us) ops.toList 0 a0 (fun j _ hj => hV j (gt j (by simpa using hj)))]
    exact hend us w' hlen hC
end Go.Proofs.Ytmfjaehajdephab

/- A drawn region in which some operations turn the world in whatever order, and yield what is known only then. -/
set_option linter.unusedVariables false
set_option linter.unusedSimpArgs false
namespace Go.Proofs.Ytmfjaehajdephab
open Go.RowKit
variable {P : Program} {ops : Array Oper} {Q : Exit → Act → World → Prop}

/-- What an operation yields, or that it yields nothing. -/
def OpRunsY (P : Program) (ev : Operand → Value) (o : Oper) (w : World) (C : Value → World → Prop) : Prop :=
  OpRunsX P ev o w C ∨ (∃ w', (execOp ev o).run P w = .ok .skip w' ∧ C undef w')
theorem wp_region_ey {id : Nat} {a0 : Act} {w : World} (hm : P.follows .mixedOrders = true) (hp : plainRegion ops = true) (J : Array Bool → (Nat → Value) → World → Prop)
    (hJ0 : J (Array.replicate ops.size false) (fun _ => undef) { w with drawn := w.drawn + 1 })
    (hops : ∀ i o, ops[i]? = some o → ∀ (listed : Array Bool) (V : Nat → Value) (w' : World) (ev : Operand → Value), listed.size = ops.size → J listed V w' → listed.getD i false = false → (∀ k, edgeOf ops i k = true → listed.getD k false = true) →
      (∀ t j e, ownOf ops t = some j → e ∈ o.after.toList → Region.binds .any e = true → e.on = j → t < a0.tmps.size → ev (.tmp t) = V j) →
      (∀ t, ownOf ops t = none → t < a0.tmps.size → ev (.tmp t) = a0.eval (.tmp t)) → (∀ t j, ownOf ops t = some j → listed.getD j false = false → t < a0.tmps.size → ev (.tmp t) = a0.eval (.tmp t)) → (∀ v, ev (.const v) = v) → (∀ f, ev (.func f) = .func (.func f) #[] #[]) →
      OpRunsY P ev o w' fun v w'' => J (listed.setIfInBounds i true) (setV V i v) w'')
    (hend : ∀ V w', J (Array.replicate ops.size true) V w' → Q .normal (lexF V 0 ops.toList a0) w') : (Code.region id ops true).wp P Q a0 w := by
  refine wp_region_any hm ?_
  refine wpAny_by (fun listed a w' => listed.size = ops.size ∧ ∃ V, a = frameOf (ownOf ops) V a0 listed ∧ J listed V w') ?_ ?_ _ _ _ _ ⟨by simp, _, (frame_none _ _ _ _).symm, hJ0⟩ ?_
  · rintro listed a w' ⟨hs, V, rfl, hc⟩ hr
    have := all_listed hs hp hr
    subst this
    rw [frame_lex hp]
    exact hend V w' hc
  · rintro listed a w' ⟨hs, V, rfl, hc⟩ i hi
    obtain ⟨hlt, hfree, haft⟩ := ready_free hi
    have ho : ops[i]? = some ops[i] := Array.getElem?_eq_getElem hlt
    have hpi := List.all_eq_true.1 hp i (List.mem_range.2 hlt)
    rw [ho] at hpi
    simp only [Bool.and_eq_true] at hpi
    rw [ho] at haft
    simp only [Option.map_some, Option.getD_some] at haft
    have hbind : ∀ e ∈ (ops[i]).after.toList, Region.binds .any e = true → listed.getD e.on false = true := by
      intro e he hb
      obtain ⟨j, hj, hje⟩ := List.getElem_of_mem he
      have hx := (Array.all_eq_true.1 haft) j (by simpa using hj)
      have hje' : (ops[i]).after[j]'(by simpa using hj) = e := by simpa using hje
      rw [hje', hb] at hx
      simpa using hx
    have hdir : ∀ k, edgeOf ops i k = true → listed.getD k false = true := by
      intro k hk
      unfold edgeOf at hk
      rw [ho] at hk
      obtain ⟨x, hx, hxe⟩ := Array.any_eq_true.1 hk
      simp only [Bool.and_eq_true, beq_iff_eq] at hxe
      have := hbind ((ops[i]).after[x]) (by simp) hxe.2
      rw [hxe.1] at this
      exact this
    have hfr : listed.getD i false = false := by
      simp only [Array.getD_eq_getD_getElem?] at hfree ⊢
      rw [Array.getElem?_eq_getElem (by omega)] at hfree ⊢
      simpa using hfree
    have hrun := hops i ops[i] ho listed V w' (frameOf (ownOf ops) V a0 listed).eval hs hc hfr hdir
      (fun t j e hown he hb hej ht => by rw [frame_eval _ _ _ _ _ ht]; unfold pickSlot; rw [hown]; simp only; rw [if_pos (hej ▸ hbind e he hb)])
      (fun t hown ht => by rw [frame_eval _ _ _ _ _ ht]; unfold pickSlot; rw [hown]) (fun t j hown hj ht => by rw [frame_eval _ _ _ _ _ ht]; unfold pickSlot; rw [hown]; simp only; rw [if_neg (by rw [hj]; decide)]) (fun v => rfl) (fun f => rfl)
    have hw : Region.wanted ops[i] (yielded ops (frameOf (ownOf ops) V a0 listed).tmps) = true := by
      have hg : ops[i].guard = none := by simpa using hpi.1.2
      simp [Region.wanted, hg]
    have hput : ∀ v, (frameOf (ownOf ops) V a0 listed).put ops[i].dst v = frameOf (ownOf ops) (setV V i v) a0 (listed.setIfInBounds i true) := fun v => by
      have e : frameOf (ownOf ops) V a0 listed = frameOf (ownOf ops) (setV V i v) a0 listed := frame_congr (fun j hj => by
        rw [setV_other]
        rintro rfl
        rw [hfr] at hj; cases hj)
      rw [e]
      have := frame_step (V := setV V i v) (a0 := a0) hp hs ho
      rw [setV_same] at this
      exact this
    unfold wpOp
    rw [ho]
    simp only [hw, if_true]
    left
    unfold Oper.wp
    rcases hrun with (⟨v, w2, hr, hc2⟩ | ⟨f, args, hr, hcalls⟩) | ⟨w2, hr, hc2⟩
    · rw [hr]
      exact ⟨by simpa using hs, _, hput v, hc2⟩
    · rw [hr]
      refine hcalls.mono ?_
      rintro e w2 ⟨v, rfl, hc2⟩
      exact ⟨by simpa using hs, _, hput v, hc2⟩
    · rw [hr]
      exact ⟨by simpa using hs, _, hput undef, hc2⟩
  · unfold todo
    simp

def setU (us : Nat → Option Value) (i : Nat) (v : Value) : Nat → Option Value := fun j => if j = i then some v else us j
theorem setU_same (us : Nat → Option Value) (i : Nat) (v : Value) : setU us i v i = some v := by simp [setU]
theorem setU_other (us : Nat → Option Value) (i j : Nat) (v : Value) (h : j ≠ i) : setU us i v j = us j := by simp [setU, h]
def parV (vals : Nat → Value) (zs : List Nat) (us : Nat → Option Value) (j : Nat) : Value := if zs.contains j = true then (us j).getD undef else vals j

theorem wp_region_par {id : Nat} {a0 : Act} {w : World} (hm : P.follows .mixedOrders = true) (hp : plainRegion ops = true) (vals : Nat → Value) (zs : List Nat)
    (hzs : ∀ z, zs.contains z = true → z < ops.size) (C : (Nat → Option Value) → World → Prop) (hC0 : C (fun _ => none) { w with drawn := w.drawn + 1 })
    (hops : ∀ i o, ops[i]? = some o → ∀ (us : Nat → Option Value) (w' : World) (ev : Operand → Value), C us w' →
      (∀ j, zs.contains j = true → edgeOf ops i j = true → (us j).isSome = true) → (∀ j, zs.contains j = true → edgeOf ops j i = true → us j = none) →
      (∀ t j e, ownOf ops t = some j → e ∈ o.after.toList → Region.binds .any e = true → e.on = j → t < a0.tmps.size → ev (.tmp t) = parV vals zs us j) →
      (∀ t, ownOf ops t = none → t < a0.tmps.size → ev (.tmp t) = a0.eval (.tmp t)) → (∀ t j, ownOf ops t = some j → edgeOf ops j i = true → t < a0.tmps.size → ev (.tmp t) = a0.eval (.tmp t)) → (∀ v, ev (.const v) = v) → (∀ f, ev (.func f) = .func (.func f) #[] #[]) →
      (zs.contains i = true → us i = none → OpRunsY P ev o w' fun v w'' => C (setU us i v) w'') ∧ (zs.contains i = false → (execOp ev o).run P w' = .ok (.value (vals i)) w'))
    (hend : ∀ us w', (∀ z, zs.contains z = true → (us z).isSome = true) → C us w' → Q .normal (lexF (parV vals zs us) 0 ops.toList a0) w') : (Code.region id ops true).wp P Q a0 w := by
  have gall : ∀ (n j : Nat), (Array.replicate n false).getD j false = false := fun n j => by
    simp only [Array.getD_eq_getD_getElem?, Array.getElem?_replicate]; split <;> rfl
  refine wp_region_ey hm hp (fun listed V w' => ∃ us, C us w' ∧ (∀ j, listed.getD j false = true → V j = parV vals zs us j) ∧ (∀ j, zs.contains j = true → (listed.getD j false = true ↔ (us j).isSome = true)) ∧ (∀ j k, edgeOf ops j k = true → listed.getD j false = true → listed.getD k false = true)) ?_ ?_ ?_
  · refine ⟨fun _ => none, hC0, fun j hj => ?_, fun j _ => ?_, fun j k _ hj => ?_⟩
    · rw [gall] at hj; cases hj
    · rw [gall]; simp
    · rw [gall] at hj; cases hj
  · intro i o hi listed V w' ev hs hJ hfr hdir hin hout hold hcst hfn
    obtain ⟨us, hC, hV, hL, hcl⟩ := hJ
    have his : i < listed.size := by rw [hs]; exact (Array.getElem?_eq_some_iff.1 hi).1
    have H := hops i o hi us w' ev hC
      (fun j hj he => (hL j hj).1 (hdir j he))
      (fun j hj he => by
        cases hu : us j with
        | none => rfl
        | some v =>
          have := hcl j i he ((hL j hj).2 (by rw [hu]; rfl))
          rw [hfr] at this; cases this)
      (fun t j e h1 h2 h3 h4 h5 => by
        have hj : listed.getD j false = true := hdir j (by
          unfold edgeOf
          rw [hi]
          obtain ⟨q, hq, hqe⟩ := List.getElem_of_mem h2
          exact Array.any_eq_true.2 ⟨q, by simpa using hq, by
            have : o.after[q]'(by simpa using hq) = e := by simpa using hqe
            rw [this, h4, h3]; simp⟩)
        rw [hin t j e h1 h2 h3 h4 h5, hV j hj])
      hout
      (fun t j h1 h2 h3 => hold t j h1 (by
        cases hj : listed.getD j false with
        | false => rfl
        | true => have := hcl j i h2 hj; rw [hfr] at this; cases this) h3) hcst hfn
    cases hzi : zs.contains i with
    | true =>
      have hui : us i = none := by
        cases hu : us i with
        | none => rfl
        | some v => have := (hL i hzi).2 (by rw [hu]; rfl); rw [hfr] at this; cases this
      have key : ∀ v w'', C (setU us i v) w'' → ∃ us', C us' w'' ∧ (∀ j, (listed.setIfInBounds i true).getD j false = true → setV V i v j = parV vals zs us' j) ∧ (∀ j, zs.contains j = true → ((listed.setIfInBounds i true).getD j false = true ↔ (us' j).isSome = true)) ∧ (∀ j k, edgeOf ops j k = true → (listed.setIfInBounds i true).getD j false = true → (listed.setIfInBounds i true).getD k false = true) := fun v w'' hc => by
        refine ⟨setU us i v, hc, fun j hj => ?_, fun j hj => ?_, fun j k he hj => ?_⟩
        · rw [getD_set listed i j his] at hj
          by_cases hji : j = i
          · subst hji
            rw [setV_same]
            unfold parV
            rw [if_pos hzi, setU_same]; rfl
          · rw [if_neg hji] at hj
            rw [setV_other _ _ _ _ hji, hV j hj]
            unfold parV
            rw [setU_other _ _ _ _ hji]
        · rw [getD_set listed i j his]
          by_cases hji : j = i
          · subst hji
            rw [setU_same]; simp
          · rw [if_neg hji, hL j hj, setU_other _ _ _ _ hji]
        · rw [getD_set listed i j his] at hj
          rw [getD_set listed i k his]
          by_cases hki : k = i
          · rw [if_pos hki]
          · rw [if_neg hki]
            by_cases hji : j = i
            · subst hji; exact hdir k he
            · rw [if_neg hji] at hj; exact hcl j k he hj
      rcases H.1 hzi hui with (⟨v, w2, hr, hc⟩ | ⟨f, args, hr, hcalls⟩) | ⟨w2, hr, hc⟩
      · exact .inl (.inl ⟨v, w2, hr, key v w2 hc⟩)
      · exact .inl (.inr ⟨f, args, hr, hcalls.mono (by rintro e w2 ⟨v, rfl, hc⟩; exact ⟨v, rfl, key v w2 hc⟩)⟩)
      · exact .inr ⟨w2, hr, key undef w2 hc⟩
    | false =>
      refine .inl (.inl ⟨vals i, w', H.2 hzi, us, hC, fun j hj => ?_, fun j hj => ?_, fun j k he hj => ?_⟩)
      · rw [getD_set listed i j his] at hj
        by_cases hji : j = i
        · subst hji
          rw [setV_same]; unfold parV; rw [if_neg (by rw [hzi]; decide)]
        · rw [if_neg hji] at hj
          rw [setV_other _ _ _ _ hji, hV j hj]
      · rw [getD_set listed i j his]
        by_cases hji : j = i
        · subst hji
          rw [hzi] at hj; cases hj
        · rw [if_neg hji, hL j hj]
      · rw [getD_set listed i j his] at hj
        rw [getD_set listed i k his]
        by_cases hki : k = i
        · rw [if_pos hki]
        · rw [if_neg hki]
          by_cases hji : j = i
          · subst hji; exact hdir k he
          · rw [if_neg hji] at hj; exact hcl j k he hj
  · rintro V w' ⟨us, hC, hV, hL, hcl⟩
    have gt : ∀ j, j < ops.size → (Array.replicate ops.size true).getD j false = true := fun j hj => by simp [Array.getD_eq_getD_getElem?, Array.getElem?_replicate, hj]
    rw [lexF_same (V := V) (V' := parV vals zs us) ops.toList 0 a0 (fun j _ hj => hV j (gt j (by simpa using hj)))]
    exact hend us w' (fun z hz => (hL z hz).1 (gt z (hzs z hz))) hC
end Go.Proofs.Ytmfjaehajdephab

/- As AnyL, stores among the operations that turn the world. -/
set_option linter.unusedVariables false
set_option linter.unusedSimpArgs false
namespace Go.Proofs.Ytmfjaehajdephab
open Go.RowKit
variable {P : Program} {ops : Array Oper} {Q : Exit → Act → World → Prop}

theorem wp_region_liy {id : Nat} {a0 : Act} {w : World} (hm : P.follows .mixedOrders = true) (hp : plainRegion ops = true) (vals : Nat → Value) (zs : List Nat) (hz : linOk ops zs = true) (hzn : zs.Nodup)
    (hzs : ∀ z ∈ zs, z < ops.size) (C : List Value → World → Prop) (hC0 : C [] { w with drawn := w.drawn + 1 })
    (hops : ∀ i o, ops[i]? = some o → ∀ (us : List Value) (w' : World) (ev : Operand → Value), C us w' → us.length ≤ zs.length →
      (∀ m j, zs[m]? = some j → edgeOf ops i j = true → m < us.length) → (∀ m j, zs[m]? = some j → edgeOf ops j i = true → us.length ≤ m) →
      (∀ t j e, ownOf ops t = some j → e ∈ o.after.toList → Region.binds .any e = true → e.on = j → t < a0.tmps.size → ev (.tmp t) = linV vals zs us j) →
      (∀ t, ownOf ops t = none → t < a0.tmps.size → ev (.tmp t) = a0.eval (.tmp t)) → (∀ t j, ownOf ops t = some j → edgeOf ops j i = true → t < a0.tmps.size → ev (.tmp t) = a0.eval (.tmp t)) → (∀ v, ev (.const v) = v) → (∀ f, ev (.func f) = .func (.func f) #[] #[]) →
      (∀ m, zpos zs i = some m → us.length = m → OpRunsY P ev o w' fun v w'' => C (us ++ [v]) w'') ∧ (zpos zs i = none → (execOp ev o).run P w' = .ok (.value (vals i)) w'))
    (hend : ∀ us w', us.length = zs.length → C us w' → Q .normal (lexF (linV vals zs us) 0 ops.toList a0) w') : (Code.region id ops true).wp P Q a0 w := by
  have gall : ∀ (n j : Nat), (Array.replicate n false).getD j false = false := fun n j => by
    simp only [Array.getD_eq_getD_getElem?, Array.getElem?_replicate]; split <;> rfl
  refine wp_region_ey hm hp (fun listed V w' => ∃ us, us.length ≤ zs.length ∧ C us w' ∧ (∀ j, listed.getD j false = true → V j = linV vals zs us j) ∧ (∀ m j, zs[m]? = some j → (listed.getD j false = true ↔ m < us.length)) ∧ (∀ j k, edgeOf ops j k = true → listed.getD j false = true → listed.getD k false = true)) ?_ ?_ ?_
  · refine ⟨[], by simp, hC0, fun j hj => ?_, fun m j _ => ?_, fun j k _ hj => ?_⟩
    · rw [gall] at hj; cases hj
    · rw [gall]; simp
    · rw [gall] at hj; cases hj
  · intro i o hi listed V w' ev hs hJ hfr hdir hin hout hold hcst hfn
    obtain ⟨us, hul, hC, hV, hL, hcl⟩ := hJ
    have his : i < listed.size := by rw [hs]; exact (Array.getElem?_eq_some_iff.1 hi).1
    have H := hops i o hi us w' ev hC hul
      (fun m j hj he => (hL m j hj).1 (hdir j he))
      (fun m j hj he => Nat.le_of_not_lt (fun hlt => by have := hcl j i he ((hL m j hj).2 hlt); rw [hfr] at this; cases this))
      (fun t j e h1 h2 h3 h4 h5 => by
        have hj : listed.getD j false = true := hdir j (by
          unfold edgeOf
          rw [hi]
          obtain ⟨q, hq, hqe⟩ := List.getElem_of_mem h2
          exact Array.any_eq_true.2 ⟨q, by simpa using hq, by
            have : o.after[q]'(by simpa using hq) = e := by simpa using hqe
            rw [this, h4, h3]; simp⟩)
        rw [hin t j e h1 h2 h3 h4 h5, hV j hj])
      hout
      (fun t j h1 h2 h3 => hold t j h1 (by
        cases hj : listed.getD j false with
        | false => rfl
        | true => have := hcl j i h2 hj; rw [hfr] at this; cases this) h3) hcst hfn
    cases hzi : zpos zs i with
    | some m =>
      have hgm := zpos_get hzi
      have hmz := (List.getElem?_eq_some_iff.1 hgm).1
      have hle : us.length ≤ m := Nat.le_of_not_lt (fun hlt => by have := (hL m i hgm).2 hlt; rw [hfr] at this; cases this)
      have hum : us.length = m := by
        rcases Nat.lt_or_ge us.length m with hlt | hge
        · exfalso
          have h1 := List.all_eq_true.1 hz m (by simpa using hmz)
          have h0 : m ≠ 0 := by omega
          simp only [h0, decide_false, Bool.false_or] at h1
          have h2 : zs.getD m 0 = i := by rw [List.getD_eq_getElem?_getD, hgm]; rfl
          have h3 : zs[m - 1]? = some (zs.getD (m - 1) 0) := by rw [List.getD_eq_getElem?_getD, List.getElem?_eq_getElem (by omega)]; rfl
          rw [h2] at h1
          have := (hL (m - 1) _ h3).1 (hdir _ h1)
          omega
        · omega
      have R := H.1 m hzi hum
      have key : ∀ v w'', C (us ++ [v]) w'' → ∃ us', us'.length ≤ zs.length ∧ C us' w'' ∧ (∀ j, (listed.setIfInBounds i true).getD j false = true → setV V i v j = linV vals zs us' j) ∧ (∀ m j, zs[m]? = some j → ((listed.setIfInBounds i true).getD j false = true ↔ m < us'.length)) ∧ (∀ j k, edgeOf ops j k = true → (listed.setIfInBounds i true).getD j false = true → (listed.setIfInBounds i true).getD k false = true) := fun v w'' hc => by
        refine ⟨us ++ [v], by simp; omega, hc, fun j hj => ?_, fun m' j hj => ?_, fun j k he hj => ?_⟩
        · rw [getD_set listed i j his] at hj
          by_cases hji : j = i
          · subst hji
            rw [setV_same]
            unfold linV
            rw [hzi]
            simp [List.getD_eq_getElem?_getD, ← hum]
          · rw [if_neg hji] at hj
            rw [setV_other _ _ _ _ hji, hV j hj]
            unfold linV
            cases hzj : zpos zs j with
            | none => rfl
            | some m2 =>
              have := (hL m2 j (zpos_get hzj)).1 hj
              simp only [List.getD_eq_getElem?_getD]
              rw [List.getElem?_append_left this]
        · rw [getD_set listed i j his]
          by_cases hji : j = i
          · subst hji
            have := zpos_of hzn hj
            rw [hzi] at this
            simp only [Option.some.injEq] at this
            simp; omega
          · rw [if_neg hji, hL m' j hj]
            have : m' ≠ m := fun e => hji (by rw [e, hgm] at hj; exact (Option.some.inj hj).symm)
            simp; omega
        · rw [getD_set listed i j his] at hj
          rw [getD_set listed i k his]
          by_cases hki : k = i
          · rw [if_pos hki]
          · rw [if_neg hki]
            by_cases hji : j = i
            · subst hji; exact hdir k he
            · rw [if_neg hji] at hj; exact hcl j k he hj
      rcases R with (⟨v, w2, hr, hc⟩ | ⟨f, args, hr, hcalls⟩) | ⟨w2, hr, hc⟩
      · exact .inl (.inl ⟨v, w2, hr, key v w2 hc⟩)
      · exact .inl (.inr ⟨f, args, hr, hcalls.mono (by rintro e w2 ⟨v, rfl, hc⟩; exact ⟨v, rfl, key v w2 hc⟩)⟩)
      · exact .inr ⟨w2, hr, key undef w2 hc⟩
    | none =>
      refine .inl (.inl ⟨vals i, w', H.2 hzi, us, hul, hC, fun j hj => ?_, fun m' j hj => ?_, fun j k he hj => ?_⟩)
      · rw [getD_set listed i j his] at hj
        by_cases hji : j = i
        · subst hji
          rw [setV_same]; unfold linV; rw [hzi]
        · rw [if_neg hji] at hj
          rw [setV_other _ _ _ _ hji, hV j hj]
      · rw [getD_set listed i j his]
        by_cases hji : j = i
        · subst hji
          have := zpos_of hzn hj
          rw [hzi] at this; cases this
        · rw [if_neg hji, hL m' j hj]
      · rw [getD_set listed i j his] at hj
        rw [getD_set listed i k his]
        by_cases hki : k = i
        · rw [if_pos hki]
        · rw [if_neg hki]
          by_cases hji : j = i
          · subst hji; exact hdir k he
          · rw [if_neg hji] at hj; exact hcl j k he hj
  · rintro V w' ⟨us, hul, hC, hV, hL, hcl⟩
    have gt : ∀ j, j < ops.size → (Array.replicate ops.size true).getD j false = true := fun j hj => by simp [Array.getD_eq_getD_getElem?, Array.getElem?_replicate, hj]
    have hlen : us.length = zs.length := by
      rcases Nat.lt_or_ge us.length zs.length with hlt | hge
      · exfalso
        have h1 : zs[us.length]? = some (zs[us.length]'hlt) := List.getElem?_eq_getElem hlt
        have := (hL _ _ h1).1 (gt _ (hzs _ (List.getElem_mem hlt)))
        omega
      · omega
    rw [lexF_same (V := V) (V' := linV vals zs us) ops.toList 0 a0 (fun j _ hj => hV j (gt j (by simpa using hj)))]
    exact hend us w' hlen hC
end Go.Proofs.Ytmfjaehajdephab
