/- Texts joined: Any. -/
import Derived.WalkKit
import Derived.Orders
/- A region that draws its order, told by what each operation yields: whatever order is drawn, the frame is the one that the operations carried out make. -/
set_option linter.unusedVariables false
set_option linter.unusedSimpArgs false
set_option maxRecDepth 8000
namespace Go.Proofs.YtbccnfbombgdmaaGreat
open Go.RowKit

section
variable {P : Program} {ops : Array Oper} {Q : Exit → Act → World → Prop} {md : Region.Mode}

def todo (listed : Array Bool) : Nat := listed.toList.count false

theorem todo_set (listed : Array Bool) (i : Nat) (h : listed.getD i true = false) : todo (listed.setIfInBounds i true) + 1 = todo listed := by
  have hi : i < listed.size := by
    rcases Nat.lt_or_ge i listed.size with h1 | h1
    · exact h1
    · simp [Array.getD, show ¬ i < listed.size by omega] at h
  have hv : listed.toList[i]? = some false := by
    simp [Array.getD, hi] at h
    simp [hi, h]
  have key : ∀ (l : List Bool) (j : Nat), l[j]? = some false → (l.set j true).count false + 1 = l.count false := by
    intro l
    induction l with
    | nil => intro j h; simp at h
    | cons a r ih =>
      intro j h
      cases j with
      | zero => simp at h; subst h; simp
      | succ j =>
        simp only [List.getElem?_cons_succ] at h
        have := ih j h
        cases a <;> simp [this] <;> omega
  unfold todo
  rw [Array.toList_setIfInBounds]
  exact key _ _ hv

theorem ready_free {listed : Array Bool} {i : Nat} (h : i ∈ Region.ready md ops listed) : i < ops.size ∧ listed.getD i true = false ∧ ((ops[i]?).map (·.after.all fun e => !Region.binds md e || listed.getD e.on false)).getD false = true := by
  simp only [Region.ready, List.mem_filter, List.mem_range, Bool.and_eq_true, Bool.not_eq_true'] at h
  exact ⟨h.1, h.2.1, h.2.2⟩

/-- Whatever order is drawn: an invariant that every operation that may come up keeps. -/
theorem wpAny_by (I : Array Bool → Act → World → Prop) (hdone : ∀ listed a w, I listed a w → Region.ready md ops listed = [] → Q .normal a w)
    (hstep : ∀ listed a w, I listed a w → ∀ i ∈ Region.ready md ops listed, wpOp P ops Q i (I (listed.setIfInBounds i true)) a w) :
    ∀ fuel listed a w, I listed a w → todo listed ≤ fuel → wpAny P md ops Q fuel listed a w
  | 0, listed, a, w, h, hf => by
    have hr : Region.ready md ops listed = [] := by
      apply List.eq_nil_iff_forall_not_mem.2
      intro i hi
      obtain ⟨_, h1, _⟩ := ready_free hi
      have := todo_set listed i h1
      omega
    exact ⟨hr, hdone _ _ _ h hr⟩
  | fuel + 1, listed, a, w, h, hf =>
    ⟨hdone _ _ _ h, fun i hi => wpOp_mono (fun a' w' h' => wpAny_by I hdone hstep fuel _ a' w' h' (by
      have := todo_set listed i (ready_free hi).2.1
      omega)) (hstep _ _ _ h i hi)⟩
end

/-! ### Frames -/
section
/-- What a slot holds: its operation's value, where it has come up. -/
def pickSlot (own : Nat → Option Nat) (V : Nat → Value) (listed : Array Bool) (t : Nat) (v : Value) : Value := match own t with
  | some i => if listed.getD i false = true then V i else v
  | none => v
def upd (own : Nat → Option Nat) (V : Nat → Value) (listed : Array Bool) : Nat → List Value → List Value
  | _, [] => []
  | t, v :: r => pickSlot own V listed t v :: upd own V listed (t + 1) r
def frameOf (own : Nat → Option Nat) (V : Nat → Value) (a0 : Act) (listed : Array Bool) : Act := { a0 with tmps := (upd own V listed 0 a0.tmps.toList).toArray }

theorem upd_length (own : Nat → Option Nat) (V : Nat → Value) (listed : Array Bool) : ∀ (l : List Value) (t : Nat), (upd own V listed t l).length = l.length
  | [], _ => rfl
  | v :: r, t => by simp [upd, upd_length own V listed r]
theorem upd_get (own : Nat → Option Nat) (V : Nat → Value) (listed : Array Bool) : ∀ (l : List Value) (t j : Nat), (upd own V listed t l)[j]? = (l[j]?).map (pickSlot own V listed (t + j))
  | [], _, _ => by simp [upd]
  | v :: r, t, 0 => by simp [upd]
  | v :: r, t, j + 1 => by
    simp only [upd, List.getElem?_cons_succ]
    rw [upd_get own V listed r (t + 1) j, show t + 1 + j = t + (j + 1) by omega]

theorem frame_get (own : Nat → Option Nat) (V : Nat → Value) (a0 : Act) (listed : Array Bool) (t : Nat) : (frameOf own V a0 listed).tmps[t]? = (a0.tmps[t]?).map (pickSlot own V listed t) := by
  show (upd own V listed 0 a0.tmps.toList).toArray[t]? = _
  rw [List.getElem?_toArray, upd_get, Nat.zero_add, Array.getElem?_toList]

theorem frame_none (own : Nat → Option Nat) (V : Nat → Value) (a0 : Act) (n : Nat) : frameOf own V a0 (Array.replicate n false) = a0 := by
  have e : (upd own V (Array.replicate n false) 0 a0.tmps.toList).toArray = a0.tmps := by
    apply Array.ext'
    rw [List.toList_toArray]
    apply List.ext_getElem?
    intro j
    rw [upd_get]
    cases h : a0.tmps.toList[j]? with
    | none => rfl
    | some v =>
      simp only [Option.map_some, Option.some.injEq]
      unfold pickSlot
      split
      · rw [if_neg]
        simp [Array.getD]
      · rfl
  unfold frameOf
  rw [e]

theorem getD_set (listed : Array Bool) (i j : Nat) (hi : i < listed.size) : (listed.setIfInBounds i true).getD j false = if j = i then true else listed.getD j false := by
  simp only [Array.getD_eq_getD_getElem?, Array.getElem?_setIfInBounds]
  by_cases h : i = j
  · subst h; simp [hi]
  · rw [if_neg h, if_neg (fun e => h e.symm)]

theorem frame_put {own : Nat → Option Nat} {V : Nat → Value} {a0 : Act} {listed : Array Bool} {i t : Nat} (hi : i < listed.size) (ho : own t = some i) (hu : ∀ s, own s = some i → s = t) :
    (frameOf own V a0 listed).put (some t) (V i) = frameOf own V a0 (listed.setIfInBounds i true) := by
  have e : ((frameOf own V a0 listed).tmps.setIfInBounds t (V i)) = (frameOf own V a0 (listed.setIfInBounds i true)).tmps := by
    apply Array.ext_getElem?
    intro s
    rw [Array.getElem?_setIfInBounds, frame_get, frame_get]
    have hsz : (frameOf own V a0 listed).tmps.size = a0.tmps.size := by
      show (upd own V listed 0 a0.tmps.toList).toArray.size = _
      rw [List.size_toArray, upd_length, Array.length_toList]
    by_cases hst : t = s
    · subst hst
      rw [if_pos rfl, hsz]
      by_cases hlt : t < a0.tmps.size
      · rw [if_pos hlt, Array.getElem?_eq_getElem hlt]
        simp only [Option.map_some, Option.some.injEq, pickSlot, ho]
        rw [getD_set _ _ _ hi]; simp
      · rw [if_neg hlt]
        simp [show a0.tmps.size ≤ t by omega]
    · rw [if_neg hst]
      congr 1
      funext v
      unfold pickSlot
      cases h : own s with
      | none => rfl
      | some j =>
        have hj : j ≠ i := fun e => hst (hu s (by rw [h, e])).symm
        simp only [getD_set _ _ _ hi, if_neg hj]
  unfold Act.put
  simp only []
  rw [e]
  rfl

theorem frame_skip {own : Nat → Option Nat} {V : Nat → Value} {a0 : Act} {listed : Array Bool} {i : Nat} (hi : i < listed.size) (hu : ∀ s, own s ≠ some i) :
    frameOf own V a0 listed = frameOf own V a0 (listed.setIfInBounds i true) := by
  unfold frameOf
  congr 2
  have : ∀ (l : List Value) (t : Nat), upd own V listed t l = upd own V (listed.setIfInBounds i true) t l := by
    intro l
    induction l with
    | nil => intro t; rfl
    | cons v r ih =>
      intro t
      simp only [upd, ih]
      congr 1
      unfold pickSlot
      cases h : own t with
      | none => rfl
      | some j =>
        have hj : j ≠ i := fun e => hu t (by rw [h, e])
        simp only [getD_set _ _ _ hi, if_neg hj]
  exact this _ _

theorem frame_eval (own : Nat → Option Nat) (V : Nat → Value) (a0 : Act) (listed : Array Bool) (t : Nat) (ht : t < a0.tmps.size) :
    (frameOf own V a0 listed).eval (.tmp t) = pickSlot own V listed t (a0.eval (.tmp t)) := by
  have h := frame_get own V a0 listed t
  rw [Array.getElem?_eq_getElem ht] at h
  simp only [Option.map_some] at h
  simp only [Act.eval]
  first
    | (simp [Array.getD_eq_getD_getElem?, h, Array.getElem?_eq_getElem ht]; done)
    | (simp [h, ht]; done)
end

/-! ### The region -/
section
variable {P : Program} {ops : Array Oper} {Q : Exit → Act → World → Prop}

def ownOf (ops : Array Oper) (t : Nat) : Option Nat := (List.range ops.size).find? fun i => (ops[i]?).bind (·.dst) == some t

/-- Each operation waits for earlier ones alone, writes a slot of its own, and has no guard. -/
def plainRegion (ops : Array Oper) : Bool := (List.range ops.size).all fun i => match ops[i]? with
  | some o => (o.after.all fun e => !Region.binds .any e || decide (e.on < i)) && o.guard.isNone && (match o.dst with | some t => ownOf ops t == some i | none => true)
  | none => false

/-- What an operation yields: a value in some world; nothing; or a call that hands it back. -/
def OpRuns (P : Program) (ev : Operand → Value) (o : Oper) (v : Value) (w : World) (C : World → Prop) : Prop :=
  (∃ w', (execOp ev o).run P w = .ok (.value v) w' ∧ C w') ∨ (v = undef ∧ ∃ w', (execOp ev o).run P w = .ok .skip w' ∧ C w') ∨
  (∃ f args, (execOp ev o).run P w = .ok (.enter f args) w ∧ Calls P f args w fun e w' => e = .returned v ∧ C w')

theorem ownOf_back {t i : Nat} (h : ownOf ops t = some i) : (ops[i]?).bind (·.dst) = some t := by
  have := List.find?_some h
  simpa using this

/-- The same with guards: a guard is an earlier operation that is waited for, and that writes a slot. -/
def guardRegion (ops : Array Oper) : Bool := (List.range ops.size).all fun i => match ops[i]? with
  | some o => (o.after.all fun e => decide (e.on < i)) && (match o.guard with | none => true | some (j, _) => (o.after.any fun e => e.on == j && Region.binds .any e) && ((ops[j]?).bind (·.dst)).isSome) && (match o.dst with | some t => ownOf ops t == some i | none => true)
  | none => false
/-- Is an operation carried out, by what its guard yields? -/
def wantV (V : Nat → Value) (o : Oper) : Bool := match o.guard with
  | none => true
  | some (j, b) => match V j with | .bool c => c == b | _ => false
theorem all_listed {listed : Array Bool} (hs : listed.size = ops.size) (hp : plainRegion ops = true) (hr : Region.ready .any ops listed = []) : listed = Array.replicate ops.size true := by
  have key : ∀ i, i < ops.size → listed.getD i true = true := by
    intro i
    induction i using Nat.strongRecOn with
    | ind i ih =>
      intro hi
      cases h : listed.getD i true with
      | true => rfl
      | false =>
        exfalso
        have hpi := List.all_eq_true.1 hp i (List.mem_range.2 hi)
        rw [Array.getElem?_eq_getElem hi] at hpi
        simp only [Bool.and_eq_true] at hpi
        have hmem : i ∈ Region.ready .any ops listed := by
          simp only [Region.ready, List.mem_filter, List.mem_range, Bool.and_eq_true, Bool.not_eq_true']
          refine ⟨hi, h, ?_⟩
          rw [Array.getElem?_eq_getElem hi]
          simp only [Option.map_some, Option.getD_some]
          rw [Array.all_eq_true]
          intro j hj
          have hd := (Array.all_eq_true.1 hpi.1.1) j hj
          rw [Bool.or_eq_true] at hd ⊢
          rcases hd with hd | hd
          · left; exact hd
          simp only [decide_eq_true_eq] at hd
          have := ih _ hd (by omega)
          right
          simp only [Array.getD_eq_getD_getElem?] at this ⊢
          rw [Array.getElem?_eq_getElem (by omega)] at this ⊢
          simpa using this
        rw [hr] at hmem
        cases hmem
  apply Array.ext
  · simp [hs]
  · intro i h1 h2
    have := key i (by omega)
    simp only [Array.getD_eq_getD_getElem?, Array.getElem?_eq_getElem h1, Option.getD_some] at this
    simp [this]

theorem all_listed_g {listed : Array Bool} (hs : listed.size = ops.size) (hp : guardRegion ops = true) (hr : Region.ready .any ops listed = []) : listed = Array.replicate ops.size true := by
  have key : ∀ i, i < ops.size → listed.getD i true = true := by
    intro i
    induction i using Nat.strongRecOn with
    | ind i ih =>
      intro hi
      cases h : listed.getD i true with
      | true => rfl
      | false =>
        exfalso
        have hpi := List.all_eq_true.1 hp i (List.mem_range.2 hi)
        rw [Array.getElem?_eq_getElem hi] at hpi
        simp only [Bool.and_eq_true] at hpi
        have hmem : i ∈ Region.ready .any ops listed := by
          simp only [Region.ready, List.mem_filter, List.mem_range, Bool.and_eq_true, Bool.not_eq_true']
          refine ⟨hi, h, ?_⟩
          rw [Array.getElem?_eq_getElem hi]
          simp only [Option.map_some, Option.getD_some]
          rw [Array.all_eq_true]
          intro j hj
          have hd := (Array.all_eq_true.1 hpi.1.1) j hj
          simp only [decide_eq_true_eq] at hd
          have := ih _ hd (by omega)
          rw [Bool.or_eq_true]
          right
          simp only [Array.getD_eq_getD_getElem?] at this ⊢
          rw [Array.getElem?_eq_getElem (by omega)] at this ⊢
          simpa using this
        rw [hr] at hmem
        cases hmem
  apply Array.ext
  · simp [hs]
  · intro i h1 h2
    have := key i (by omega)
    simp only [Array.getD_eq_getD_getElem?, Array.getElem?_eq_getElem h1, Option.getD_some] at this
    simp [this]

/-- The operations' values laid down in the order of the text. -/
def lexF (V : Nat → Value) : Nat → List Oper → Act → Act
  | _, [], a => a
  | i, o :: r, a => lexF V (i + 1) r (a.put o.dst (V i))

def firstK (n : Nat) : Nat → Array Bool
  | 0 => Array.replicate n false
  | k + 1 => (firstK n k).setIfInBounds k true
theorem firstK_size (n : Nat) : ∀ k, (firstK n k).size = n
  | 0 => by simp [firstK]
  | k + 1 => by simp [firstK, firstK_size n k]
theorem firstK_get (n : Nat) : ∀ k j, j < n → (firstK n k)[j]? = some (decide (j < k))
  | 0, j, hj => by simp [firstK, hj]
  | k + 1, j, hj => by
    rw [firstK, Array.getElem?_setIfInBounds, firstK_size]
    by_cases h : k = j
    · subst h; simp [hj]
    · rw [if_neg h, firstK_get n k j hj]
      congr 1
      rw [decide_eq_decide]
      omega
theorem firstK_all (n : Nat) : firstK n n = Array.replicate n true := by
  apply Array.ext
  · simp [firstK_size]
  · intro i h1 h2
    have hi : i < n := by rw [firstK_size] at h1; exact h1
    have := firstK_get n n i hi
    rw [Array.getElem?_eq_getElem h1] at this
    simp [hi] at this
    simp [this]

theorem frame_step (hp : plainRegion ops = true) {V : Nat → Value} {a0 : Act} {listed : Array Bool} {i : Nat} {o : Oper} (hs : listed.size = ops.size) (ho : ops[i]? = some o) :
    (frameOf (ownOf ops) V a0 listed).put o.dst (V i) = frameOf (ownOf ops) V a0 (listed.setIfInBounds i true) := by
  have hlt : i < ops.size := (Array.getElem?_eq_some_iff.1 ho).1
  have hpi := List.all_eq_true.1 hp i (List.mem_range.2 hlt)
  rw [ho] at hpi
  simp only [Bool.and_eq_true] at hpi
  cases hd : o.dst with
  | none =>
    exact frame_skip (by omega) (fun s hs' => by
      have := ownOf_back hs'
      rw [ho] at this
      simp [hd] at this)
  | some t =>
    have hown : ownOf ops t = some i := by
      have := hpi.2
      rw [hd] at this
      simpa using this
    exact frame_put (by omega) hown (fun s hs' => by
      have := ownOf_back hs'
      rw [ho] at this
      simp [hd] at this
      exact this.symm)

theorem lexF_go (hp : plainRegion ops = true) (V : Nat → Value) (a0 : Act) : ∀ (l : List Oper) (k : Nat), (∀ j, l[j]? = ops[k + j]?) → k + l.length = ops.size → lexF V k l (frameOf (ownOf ops) V a0 (firstK ops.size k)) = frameOf (ownOf ops) V a0 (firstK ops.size ops.size)
  | [], k, _, hk => by
    simp only [List.length_nil, Nat.add_zero] at hk
    rw [← hk]; rfl
  | o :: r, k, hl, hk => by
    have ho : ops[k]? = some o := by have := hl 0; simpa using this.symm
    rw [lexF, frame_step hp (firstK_size _ _) ho]
    exact lexF_go hp V a0 r (k + 1) (fun j => by
      have := hl (j + 1)
      rw [List.getElem?_cons_succ] at this
      rw [this, show k + 1 + j = k + (j + 1) by omega]) (by simp at hk; omega)

theorem frame_lex (hp : plainRegion ops = true) (V : Nat → Value) (a0 : Act) : frameOf (ownOf ops) V a0 (Array.replicate ops.size true) = lexF V 0 ops.toList a0 := by
  have h := lexF_go hp V a0 ops.toList 0 (fun j => by simp) (by simp)
  rw [← firstK_all, ← h]
  show _ = lexF V 0 ops.toList a0
  congr 1
  exact frame_none _ _ _ _

theorem frame_step_g (hp : guardRegion ops = true) {V : Nat → Value} {a0 : Act} {listed : Array Bool} {i : Nat} {o : Oper} (hs : listed.size = ops.size) (ho : ops[i]? = some o) :
    (frameOf (ownOf ops) V a0 listed).put o.dst (V i) = frameOf (ownOf ops) V a0 (listed.setIfInBounds i true) := by
  have hlt : i < ops.size := (Array.getElem?_eq_some_iff.1 ho).1
  have hpi := List.all_eq_true.1 hp i (List.mem_range.2 hlt)
  rw [ho] at hpi
  simp only [Bool.and_eq_true] at hpi
  cases hd : o.dst with
  | none =>
    exact frame_skip (by omega) (fun s hs' => by
      have := ownOf_back hs'
      rw [ho] at this
      simp [hd] at this)
  | some t =>
    have hown : ownOf ops t = some i := by
      have := hpi.2
      rw [hd] at this
      simpa using this
    exact frame_put (by omega) hown (fun s hs' => by
      have := ownOf_back hs'
      rw [ho] at this
      simp [hd] at this
      exact this.symm)

theorem lexF_go_g (hp : guardRegion ops = true) (V : Nat → Value) (a0 : Act) : ∀ (l : List Oper) (k : Nat), (∀ j, l[j]? = ops[k + j]?) → k + l.length = ops.size → lexF V k l (frameOf (ownOf ops) V a0 (firstK ops.size k)) = frameOf (ownOf ops) V a0 (firstK ops.size ops.size)
  | [], k, _, hk => by
    simp only [List.length_nil, Nat.add_zero] at hk
    rw [← hk]; rfl
  | o :: r, k, hl, hk => by
    have ho : ops[k]? = some o := by have := hl 0; simpa using this.symm
    rw [lexF, frame_step_g hp (firstK_size _ _) ho]
    exact lexF_go_g hp V a0 r (k + 1) (fun j => by
      have := hl (j + 1)
      rw [List.getElem?_cons_succ] at this
      rw [this, show k + 1 + j = k + (j + 1) by omega]) (by simp at hk; omega)

theorem frame_lex_g (hp : guardRegion ops = true) (V : Nat → Value) (a0 : Act) : frameOf (ownOf ops) V a0 (Array.replicate ops.size true) = lexF V 0 ops.toList a0 := by
  have h := lexF_go_g hp V a0 ops.toList 0 (fun j => by simp) (by simp)
  rw [← firstK_all, ← h]
  show _ = lexF V 0 ops.toList a0
  congr 1
  exact frame_none _ _ _ _

theorem wp_region_by {id : Nat} {a0 : Act} {w : World} (hm : P.follows .mixedOrders = true) (hp : plainRegion ops = true) (V : Nat → Value) (C : Array Bool → World → Prop)
    (hC0 : C (Array.replicate ops.size false) { w with drawn := w.drawn + 1 })
    (hops : ∀ i o, ops[i]? = some o → ∀ listed w' ev, listed.size = ops.size → C listed w' → listed.getD i true = false →
      (∀ e ∈ o.after.toList, Region.binds .any e = true → listed.getD e.on false = true) →
      (∀ t, t < a0.tmps.size → ev (.tmp t) = pickSlot (ownOf ops) V listed t (a0.eval (.tmp t))) → (∀ v, ev (.const v) = v) → (∀ f, ev (.func f) = .func (.func f) #[] #[]) →
      OpRuns P ev o (V i) w' (C (listed.setIfInBounds i true)))
    (hend : ∀ w', C (Array.replicate ops.size true) w' → Q .normal (lexF V 0 ops.toList a0) w') : (Code.region id ops true).wp P Q a0 w := by
  refine wp_region_any hm ?_
  refine wpAny_by (fun listed a w' => listed.size = ops.size ∧ a = frameOf (ownOf ops) V a0 listed ∧ C listed w') ?_ ?_ _ _ _ _ ⟨by simp, (frame_none _ _ _ _).symm, hC0⟩ ?_
  · rintro listed a w' ⟨hs, rfl, hc⟩ hr
    have := all_listed hs hp hr
    subst this
    rw [frame_lex hp]
    exact hend w' hc
  · rintro listed a w' ⟨hs, rfl, hc⟩ i hi
    obtain ⟨hlt, hfree, haft⟩ := ready_free hi
    have ho : ops[i]? = some ops[i] := Array.getElem?_eq_getElem hlt
    have hpi := List.all_eq_true.1 hp i (List.mem_range.2 hlt)
    rw [ho] at hpi
    simp only [Bool.and_eq_true] at hpi
    rw [ho] at haft
    simp only [Option.map_some, Option.getD_some] at haft
    have hbind : ∀ e ∈ (ops[i]).after.toList, Region.binds .any e = true → listed.getD e.on false = true := by
      intro e he hb
      obtain ⟨j, hj, hje⟩ := List.getElem_of_mem he
      have hx := (Array.all_eq_true.1 haft) j (by simpa using hj)
      have hje' : (ops[i]).after[j]'(by simpa using hj) = e := by simpa using hje
      rw [hje', hb] at hx
      simpa using hx
    have hrun := hops i ops[i] ho listed w' (frameOf (ownOf ops) V a0 listed).eval hs hc hfree hbind (fun t ht => frame_eval _ _ _ _ _ ht) (fun v => rfl) (fun f => rfl)
    have hw : Region.wanted ops[i] (yielded ops (frameOf (ownOf ops) V a0 listed).tmps) = true := by
      have hg : ops[i].guard = none := by simpa using hpi.1.2
      simp [Region.wanted, hg]
    have hput : (frameOf (ownOf ops) V a0 listed).put ops[i].dst (V i) = frameOf (ownOf ops) V a0 (listed.setIfInBounds i true) := by
      cases hd : ops[i].dst with
      | none =>
        exact frame_skip (by omega) (fun s hs' => by
          have := ownOf_back hs'
          rw [ho] at this
          simp [hd] at this)
      | some t =>
        have hown : ownOf ops t = some i := by
          have := hpi.2
          rw [hd] at this
          simpa using this
        exact frame_put (by omega) hown (fun s hs' => by
          have := ownOf_back hs'
          rw [ho] at this
          simp [hd] at this
          exact this.symm)
    unfold wpOp
    rw [ho]
    simp only [hw, if_true]
    left
    unfold Oper.wp
    rcases hrun with ⟨w2, hr, hc2⟩ | ⟨hv, w2, hr, hc2⟩ | ⟨f, args, hr, hcalls⟩
    · rw [hr]
      exact ⟨by simpa using hs, hput, hc2⟩
    · rw [hr]
      rw [hv] at hput
      exact ⟨by simpa using hs, hput, hc2⟩
    · rw [hr]
      refine hcalls.mono ?_
      rintro e w2 ⟨rfl, hc2⟩
      exact ⟨by simpa using hs, hput, hc2⟩
  · unfold todo
    simp

/-- A region whose world turns at one operation alone. -/
theorem wp_region_turn {id : Nat} {a0 : Act} {w : World} (hm : P.follows .mixedOrders = true) (hp : plainRegion ops = true) (V : Nat → Value) (z : Nat) (hz : z < ops.size) (C : Bool → World → Prop)
    (hC0 : C false { w with drawn := w.drawn + 1 })
    (hops : ∀ (i : Nat) (o : Oper), ops[i]? = some o → ∀ (f : Bool) (w' : World) (ev : Operand → Value), C f w' → (i = z → f = false) →
      (∀ t j e, ownOf ops t = some j → e ∈ o.after.toList → Region.binds .any e = true → e.on = j → t < a0.tmps.size → ev (.tmp t) = V j) →
      (∀ t, ownOf ops t = none → t < a0.tmps.size → ev (.tmp t) = a0.eval (.tmp t)) → (∀ v, ev (.const v) = v) → (∀ f, ev (.func f) = .func (.func f) #[] #[]) →
      OpRuns P ev o (V i) w' (C (if i = z then true else f)))
    (hend : ∀ w', C true w' → Q .normal (lexF V 0 ops.toList a0) w') : (Code.region id ops true).wp P Q a0 w := by
  refine wp_region_by hm hp V (fun listed W => C (listed.getD z false) W) ?_ ?_ ?_
  · simp only [Array.getD_eq_getD_getElem?, Array.getElem?_replicate, hz, if_true, Option.getD_some]; exact hC0
  · intro i o hi listed w' ev hs hc hfree hbind hev hcst hfn
    have h1 := hops i o hi (listed.getD z false) w' ev hc (fun e => by
      subst e
      simp only [Array.getD_eq_getD_getElem?] at hfree ⊢
      rw [Array.getElem?_eq_getElem (by omega)] at hfree ⊢
      simpa using hfree)
      (fun t j e hown he hb hej ht => by rw [hev t ht]; unfold pickSlot; rw [hown]; simp only; rw [if_pos (hej ▸ hbind e he hb)])
      (fun t hown ht => by rw [hev t ht]; unfold pickSlot; rw [hown]) hcst hfn
    have hlt : i < listed.size := by rw [hs]; exact (Array.getElem?_eq_some_iff.1 hi).1
    have e : (listed.setIfInBounds i true).getD z false = if i = z then true else listed.getD z false := by
      rw [getD_set _ _ _ hlt]
      by_cases h : i = z
      · rw [if_pos h.symm, if_pos h]
      · rw [if_neg (fun e => h e.symm), if_neg h]
    rw [e]
    exact h1
  · intro w' hc
    refine hend w' ?_
    simp only [Array.getD_eq_getD_getElem?, Array.getElem?_replicate, hz, if_true, Option.getD_some] at hc
    exact hc

theorem wp_region_guard {id : Nat} {a0 : Act} {w : World} (hm : P.follows .mixedOrders = true) (hp : guardRegion ops = true) (V : Nat → Value) (C : World → Prop)
    (hsz : ∀ (i : Nat) (o : Oper) (t : Nat), ops[i]? = some o → o.dst = some t → t < a0.tmps.size)
    (hC0 : C { w with drawn := w.drawn + 1 })
    (hops : ∀ (i : Nat) (o : Oper), ops[i]? = some o → ∀ (w' : World) (ev : Operand → Value), C w' →
      (∀ t j e, ownOf ops t = some j → e ∈ o.after.toList → Region.binds .any e = true → e.on = j → t < a0.tmps.size → ev (.tmp t) = V j) →
      (∀ t, ownOf ops t = none → t < a0.tmps.size → ev (.tmp t) = a0.eval (.tmp t)) → (∀ v, ev (.const v) = v) → (∀ f, ev (.func f) = .func (.func f) #[] #[]) →
      if wantV V o = true then OpRuns P ev o (V i) w' C else V i = undef)
    (hend : ∀ w', C w' → Q .normal (lexF V 0 ops.toList a0) w') : (Code.region id ops true).wp P Q a0 w := by
  refine wp_region_any hm ?_
  refine wpAny_by (fun listed a w' => listed.size = ops.size ∧ a = frameOf (ownOf ops) V a0 listed ∧ C w') ?_ ?_ _ _ _ _ ⟨by simp, (frame_none _ _ _ _).symm, hC0⟩ ?_
  · rintro listed a w' ⟨hs, rfl, hc⟩ hr
    have := all_listed_g hs hp hr
    subst this
    rw [frame_lex_g hp]
    exact hend w' hc
  · rintro listed a w' ⟨hs, rfl, hc⟩ i hi
    obtain ⟨hlt, hfree, haft⟩ := ready_free hi
    have ho : ops[i]? = some ops[i] := Array.getElem?_eq_getElem hlt
    have hpi := List.all_eq_true.1 hp i (List.mem_range.2 hlt)
    rw [ho] at hpi
    simp only [Bool.and_eq_true] at hpi
    rw [ho] at haft
    simp only [Option.map_some, Option.getD_some] at haft
    have hbind : ∀ e ∈ (ops[i]).after.toList, Region.binds .any e = true → listed.getD e.on false = true := by
      intro e he hb
      obtain ⟨j, hj, hje⟩ := List.getElem_of_mem he
      have hx := (Array.all_eq_true.1 haft) j (by simpa using hj)
      have hje' : (ops[i]).after[j]'(by simpa using hj) = e := by simpa using hje
      rw [hje', hb] at hx
      simpa using hx
    have hrun := hops i ops[i] ho w' (frameOf (ownOf ops) V a0 listed).eval hc
      (fun t j e hown he hb hej ht => by rw [frame_eval _ _ _ _ _ ht]; unfold pickSlot; rw [hown]; simp only; rw [if_pos (hej ▸ hbind e he hb)])
      (fun t hown ht => by rw [frame_eval _ _ _ _ _ ht]; unfold pickSlot; rw [hown]) (fun v => rfl) (fun f => rfl)
    have hw : Region.wanted ops[i] (yielded ops (frameOf (ownOf ops) V a0 listed).tmps) = wantV V ops[i] := by
      have hg := hpi.1.2
      unfold Region.wanted wantV
      cases hgd : ops[i].guard with
      | none => rfl
      | some p =>
        obtain ⟨j, b⟩ := p
        rw [hgd] at hg
        simp only [Bool.and_eq_true] at hg
        obtain ⟨hany, hdst⟩ := hg
        obtain ⟨x, hx, hxe⟩ := Array.any_eq_true.1 hany
        simp only [Bool.and_eq_true, beq_iff_eq] at hxe
        have hl : listed.getD j false = true := by
          have := hbind ((ops[i]).after[x]) (by simp) hxe.2
          rw [hxe.1] at this
          exact this
        obtain ⟨t, ht⟩ := Option.isSome_iff_exists.1 hdst
        have hoj : ∃ oj, ops[j]? = some oj := by
          cases h : ops[j]? with
          | none => rw [h] at ht; cases ht
          | some oj => exact ⟨oj, rfl⟩
        obtain ⟨oj, hoj⟩ := hoj
        have hdj : oj.dst = some t := by rw [hoj] at ht; exact ht
        have hjlt : j < ops.size := (Array.getElem?_eq_some_iff.1 hoj).1
        have hpj := List.all_eq_true.1 hp j (List.mem_range.2 hjlt)
        rw [hoj] at hpj
        simp only [Bool.and_eq_true] at hpj
        have hown : ownOf ops t = some j := by
          have := hpj.2
          rw [hdj] at this
          simpa using this
        have htl := hsz j oj t hoj hdj
        have hy : yielded ops (frameOf (ownOf ops) V a0 listed).tmps j = match V j with | .bool c => some c | _ => none := by
          unfold yielded
          rw [hoj]
          simp only [Option.bind_some, hdj]
          rw [frame_get, Array.getElem?_eq_getElem htl]
          simp only [Option.map_some]
          unfold pickSlot
          rw [hown]
          simp only [hl, if_true]
          cases V j <;> rfl
        simp only [hy]
        cases V j <;> simp
    have hput : (frameOf (ownOf ops) V a0 listed).put ops[i].dst (V i) = frameOf (ownOf ops) V a0 (listed.setIfInBounds i true) := by
      cases hd : ops[i].dst with
      | none =>
        exact frame_skip (by omega) (fun s hs' => by
          have := ownOf_back hs'
          rw [ho] at this
          simp [hd] at this)
      | some t =>
        have hown : ownOf ops t = some i := by
          have := hpi.2
          rw [hd] at this
          simpa using this
        exact frame_put (by omega) hown (fun s hs' => by
          have := ownOf_back hs'
          rw [ho] at this
          simp [hd] at this
          exact this.symm)
    unfold wpOp
    rw [ho]
    simp only [hw]
    by_cases hwv : wantV V ops[i] = true
    · rw [if_pos hwv] at hrun
      rw [hwv]
      simp only [if_true]
      left
      unfold Oper.wp
      rcases hrun with ⟨w2, hr, hc2⟩ | ⟨hv, w2, hr, hc2⟩ | ⟨f, args, hr, hcalls⟩
      · rw [hr]
        exact ⟨by simpa using hs, hput, hc2⟩
      · rw [hr]
        rw [hv] at hput
        exact ⟨by simpa using hs, hput, hc2⟩
      · rw [hr]
        refine hcalls.mono ?_
        rintro e w2 ⟨rfl, hc2⟩
        exact ⟨by simpa using hs, hput, hc2⟩
    · rw [if_neg hwv] at hrun
      have hwf : wantV V ops[i] = false := by simpa using hwv
      rw [hwf]
      rw [hrun] at hput
      simp only [Bool.false_eq_true, if_false]
      exact ⟨by simpa using hs, hput, hc⟩
  · unfold todo
    simp

/-- The same with guards. -/
theorem wp_region_gturn {id : Nat} {a0 : Act} {w : World} (hm : P.follows .mixedOrders = true) (hp : guardRegion ops = true) (V : Nat → Value) (z : Nat) (hzl : z < ops.size) (C : Bool → World → Prop)
    (hsz : ∀ (i : Nat) (o : Oper) (t : Nat), ops[i]? = some o → o.dst = some t → t < a0.tmps.size)
    (hC0 : C false { w with drawn := w.drawn + 1 })
    (hops : ∀ (i : Nat) (o : Oper), ops[i]? = some o → ∀ (f : Bool) (w' : World) (ev : Operand → Value), C f w' → (i = z → f = false) →
      (∀ t j e, ownOf ops t = some j → e ∈ o.after.toList → Region.binds .any e = true → e.on = j → t < a0.tmps.size → ev (.tmp t) = V j) →
      (∀ t, ownOf ops t = none → t < a0.tmps.size → ev (.tmp t) = a0.eval (.tmp t)) → (∀ v, ev (.const v) = v) → (∀ f, ev (.func f) = .func (.func f) #[] #[]) →
      if wantV V o = true then OpRuns P ev o (V i) w' (C (if i = z then true else f)) else V i = undef ∧ i ≠ z)
    (hend : ∀ w', C true w' → Q .normal (lexF V 0 ops.toList a0) w') : (Code.region id ops true).wp P Q a0 w := by
  refine wp_region_any hm ?_
  refine wpAny_by (fun listed a w' => listed.size = ops.size ∧ a = frameOf (ownOf ops) V a0 listed ∧ C (listed.getD z false) w') ?_ ?_ _ _ _ _ ⟨by simp, (frame_none _ _ _ _).symm, by simp only [Array.getD_eq_getD_getElem?, Array.getElem?_replicate, hzl, if_true, Option.getD_some]; exact hC0⟩ ?_
  · rintro listed a w' ⟨hs, rfl, hc⟩ hr
    have := all_listed_g hs hp hr
    subst this
    rw [frame_lex_g hp]
    refine hend w' ?_
    simp only [Array.getD_eq_getD_getElem?, Array.getElem?_replicate, hzl, if_true, Option.getD_some] at hc
    exact hc
  · rintro listed a w' ⟨hs, rfl, hc⟩ i hi
    obtain ⟨hlt, hfree, haft⟩ := ready_free hi
    have ho : ops[i]? = some ops[i] := Array.getElem?_eq_getElem hlt
    have hpi := List.all_eq_true.1 hp i (List.mem_range.2 hlt)
    rw [ho] at hpi
    simp only [Bool.and_eq_true] at hpi
    rw [ho] at haft
    simp only [Option.map_some, Option.getD_some] at haft
    have hbind : ∀ e ∈ (ops[i]).after.toList, Region.binds .any e = true → listed.getD e.on false = true := by
      intro e he hb
      obtain ⟨j, hj, hje⟩ := List.getElem_of_mem he
      have hx := (Array.all_eq_true.1 haft) j (by simpa using hj)
      have hje' : (ops[i]).after[j]'(by simpa using hj) = e := by simpa using hje
      rw [hje', hb] at hx
      simpa using hx
    have eset : (listed.setIfInBounds i true).getD z false = if i = z then true else listed.getD z false := by
      rw [getD_set _ _ _ (by omega)]
      by_cases h : i = z
      · rw [if_pos h.symm, if_pos h]
      · rw [if_neg (fun e => h e.symm), if_neg h]
    have hrun := hops i ops[i] ho (listed.getD z false) w' (frameOf (ownOf ops) V a0 listed).eval hc (fun e => by
      subst e
      simp only [Array.getD_eq_getD_getElem?] at hfree ⊢
      rw [Array.getElem?_eq_getElem (by omega)] at hfree ⊢
      simpa using hfree)
      (fun t j e hown he hb hej ht => by rw [frame_eval _ _ _ _ _ ht]; unfold pickSlot; rw [hown]; simp only; rw [if_pos (hej ▸ hbind e he hb)])
      (fun t hown ht => by rw [frame_eval _ _ _ _ _ ht]; unfold pickSlot; rw [hown]) (fun v => rfl) (fun f => rfl)
    have hw : Region.wanted ops[i] (yielded ops (frameOf (ownOf ops) V a0 listed).tmps) = wantV V ops[i] := by
      have hg := hpi.1.2
      unfold Region.wanted wantV
      cases hgd : ops[i].guard with
      | none => rfl
      | some p =>
        obtain ⟨j, b⟩ := p
        rw [hgd] at hg
        simp only [Bool.and_eq_true] at hg
        obtain ⟨hany, hdst⟩ := hg
        obtain ⟨x, hx, hxe⟩ := Array.any_eq_true.1 hany
        simp only [Bool.and_eq_true, beq_iff_eq] at hxe
        have hl : listed.getD j false = true := by
          have := hbind ((ops[i]).after[x]) (by simp) hxe.2
          rw [hxe.1] at this
          exact this
        obtain ⟨t, ht⟩ := Option.isSome_iff_exists.1 hdst
        have hoj : ∃ oj, ops[j]? = some oj := by
          cases h : ops[j]? with
          | none => rw [h] at ht; cases ht
          | some oj => exact ⟨oj, rfl⟩
        obtain ⟨oj, hoj⟩ := hoj
        have hdj : oj.dst = some t := by rw [hoj] at ht; exact ht
        have hjlt : j < ops.size := (Array.getElem?_eq_some_iff.1 hoj).1
        have hpj := List.all_eq_true.1 hp j (List.mem_range.2 hjlt)
        rw [hoj] at hpj
        simp only [Bool.and_eq_true] at hpj
        have hown : ownOf ops t = some j := by
          have := hpj.2
          rw [hdj] at this
          simpa using this
        have htl := hsz j oj t hoj hdj
        have hy : yielded ops (frameOf (ownOf ops) V a0 listed).tmps j = match V j with | .bool c => some c | _ => none := by
          unfold yielded
          rw [hoj]
          simp only [Option.bind_some, hdj]
          rw [frame_get, Array.getElem?_eq_getElem htl]
          simp only [Option.map_some]
          unfold pickSlot
          rw [hown]
          simp only [hl, if_true]
          cases V j <;> rfl
        simp only [hy]
        cases V j <;> simp
    have hput : (frameOf (ownOf ops) V a0 listed).put ops[i].dst (V i) = frameOf (ownOf ops) V a0 (listed.setIfInBounds i true) := by
      cases hd : ops[i].dst with
      | none =>
        exact frame_skip (by omega) (fun s hs' => by
          have := ownOf_back hs'
          rw [ho] at this
          simp [hd] at this)
      | some t =>
        have hown : ownOf ops t = some i := by
          have := hpi.2
          rw [hd] at this
          simpa using this
        exact frame_put (by omega) hown (fun s hs' => by
          have := ownOf_back hs'
          rw [ho] at this
          simp [hd] at this
          exact this.symm)
    unfold wpOp
    rw [ho]
    simp only [hw]
    by_cases hwv : wantV V ops[i] = true
    · rw [if_pos hwv] at hrun
      rw [hwv]
      simp only [if_true]
      left
      unfold Oper.wp
      rcases hrun with ⟨w2, hr, hc2⟩ | ⟨hv, w2, hr, hc2⟩ | ⟨f, args, hr, hcalls⟩
      · rw [hr]
        exact ⟨by simpa using hs, hput, by rw [eset]; exact hc2⟩
      · rw [hr]
        rw [hv] at hput
        exact ⟨by simpa using hs, hput, by rw [eset]; exact hc2⟩
      · rw [hr]
        refine hcalls.mono ?_
        rintro e w2 ⟨rfl, hc2⟩
        exact ⟨by simpa using hs, hput, by rw [eset]; exact hc2⟩
    · rw [if_neg hwv] at hrun
      have hwf : wantV V ops[i] = false := by simpa using hwv
      rw [hwf]
      rw [hrun.1] at hput
      simp only [Bool.false_eq_true, if_false]
      exact ⟨by simpa using hs, hput, by rw [eset, if_neg hrun.2]; exact hc⟩
  · unfold todo
    simp

/-- A region whose world turns at two operations, the one behind the other. -/
theorem wp_region_two {id : Nat} {a0 : Act} {w : World} (hm : P.follows .mixedOrders = true) (hp : plainRegion ops = true) (V : Nat → Value) (y z : Nat) (hy : y < ops.size) (hz : z < ops.size) (hyz : y ≠ z)
    (hdep : (match ops[z]? with | some o => o.after.any fun e => e.on == y && Region.binds .any e | none => false) = true) (C : Bool → Bool → World → Prop)
    (hCf : ∀ W, ¬ C false true W)
    (hC0 : C false false { w with drawn := w.drawn + 1 })
    (hops : ∀ (i : Nat) (o : Oper), ops[i]? = some o → ∀ (f g : Bool) (w' : World) (ev : Operand → Value), C f g w' → (i = y → f = false ∧ g = false) → (i = z → f = true ∧ g = false) →
      (∀ t j e, ownOf ops t = some j → e ∈ o.after.toList → Region.binds .any e = true → e.on = j → t < a0.tmps.size → ev (.tmp t) = V j) →
      (∀ t, ownOf ops t = none → t < a0.tmps.size → ev (.tmp t) = a0.eval (.tmp t)) → (∀ v, ev (.const v) = v) → (∀ f, ev (.func f) = .func (.func f) #[] #[]) →
      OpRuns P ev o (V i) w' (C (if i = y then true else f) (if i = z then true else g)))
    (hend : ∀ w', C true true w' → Q .normal (lexF V 0 ops.toList a0) w') : (Code.region id ops true).wp P Q a0 w := by
  refine wp_region_by hm hp V (fun listed W => C (listed.getD y false) (listed.getD z false) W) ?_ ?_ ?_
  · simp only [Array.getD_eq_getD_getElem?, Array.getElem?_replicate, hy, hz, if_true, Option.getD_some]; exact hC0
  · intro i o hi listed w' ev hs hc hfree hbind hev hcst hfn
    have hfr : ∀ k, i = k → k < ops.size → listed.getD k false = false := fun k e hk => by
      subst e
      simp only [Array.getD_eq_getD_getElem?] at hfree ⊢
      rw [Array.getElem?_eq_getElem (by omega)] at hfree ⊢
      simpa using hfree
    have hlt : i < listed.size := by rw [hs]; exact (Array.getElem?_eq_some_iff.1 hi).1
    have e : ∀ k, (listed.setIfInBounds i true).getD k false = if i = k then true else listed.getD k false := fun k => by
      rw [getD_set _ _ _ hlt]
      by_cases h : i = k
      · rw [if_pos h.symm, if_pos h]
      · rw [if_neg (fun e => h e.symm), if_neg h]
    simp only [e]
    refine hops i o hi (listed.getD y false) (listed.getD z false) w' ev hc (fun h => ?_) (fun h => ?_)
      (fun t j e hown he hb hej ht => by rw [hev t ht]; unfold pickSlot; rw [hown]; simp only; rw [if_pos (hej ▸ hbind e he hb)])
      (fun t hown ht => by rw [hev t ht]; unfold pickSlot; rw [hown]) hcst hfn
    · have h1 := hfr y h hy
      refine ⟨h1, ?_⟩
      cases h2 : listed.getD z false with
      | false => rfl
      | true => rw [h1, h2] at hc; exact absurd hc (hCf _)
    · refine ⟨?_, hfr z h hz⟩
      subst h
      rw [hi] at hdep
      simp only at hdep
      obtain ⟨x, hx, hxe⟩ := Array.any_eq_true.1 hdep
      simp only [Bool.and_eq_true, beq_iff_eq] at hxe
      have := hbind (o.after[x]) (by simp) hxe.2
      rw [hxe.1] at this
      exact this
  · intro w' hc
    refine hend w' ?_
    simp only [Array.getD_eq_getD_getElem?, Array.getElem?_replicate, hy, hz, if_true, Option.getD_some] at hc
    exact hc

/-- The same, the frame told by its slots. -/
theorem wp_region_slots {id : Nat} {a0 : Act} {w : World} (hm : P.follows .mixedOrders = true) (hp : plainRegion ops = true) (V : Nat → Value) (C : Array Bool → World → Prop)
    (hC0 : C (Array.replicate ops.size false) { w with drawn := w.drawn + 1 })
    (hops : ∀ i o, ops[i]? = some o → ∀ listed w' ev, listed.size = ops.size → C listed w' → listed.getD i true = false →
      (∀ e ∈ o.after.toList, Region.binds .any e = true → listed.getD e.on false = true) →
      (∀ t, t < a0.tmps.size → ev (.tmp t) = pickSlot (ownOf ops) V listed t (a0.eval (.tmp t))) → (∀ v, ev (.const v) = v) → (∀ f, ev (.func f) = .func (.func f) #[] #[]) →
      OpRuns P ev o (V i) w' (C (listed.setIfInBounds i true)))
    (hend : ∀ w' fr, C (Array.replicate ops.size true) w' → fr.defers = a0.defers → (∀ t, t < a0.tmps.size → fr.eval (.tmp t) = pickSlot (ownOf ops) V (Array.replicate ops.size true) t (a0.eval (.tmp t))) → Q .normal fr w') : (Code.region id ops true).wp P Q a0 w := by
  refine wp_region_by hm hp V C hC0 hops (fun w' hc => ?_)
  rw [← frame_lex hp]
  exact hend w' _ hc rfl (fun t ht => frame_eval _ _ _ _ _ ht)
end
end Go.Proofs.YtbccnfbombgdmaaGreat
