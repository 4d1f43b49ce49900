/- A device's state by itself, what each call does to it, and how memory that is kept is told; no program is named here. -/
import Derived.WalkKit
import Derived.Deep.Heap
import Derived.Laws.IdiomCopy
import Derived.Deep.AppendSrc
import Derived.Below
import Derived.IntWalk
set_option linter.unusedVariables false
set_option linter.unusedSimpArgs false
namespace Go.Proofs.Ythnfdgjikbjgoaa
open Go.RowKit Go.Deep

/-- A page: blank, torn, or whole: what it was given. -/
structure Pg where
  v : Option (Option ByteArray)
abbrev Pg.blank : Pg := ⟨none⟩
abbrev Pg.torn : Pg := ⟨some none⟩
abbrev Pg.whole (b : ByteArray) : Pg := ⟨some (some b)⟩
theorem Pg.elim3 {motive : Pg → Prop} (p : Pg) (blank : motive .blank) (torn : motive .torn) (whole : ∀ b, motive (.whole b)) : motive p := by
  rcases p with ⟨_ | _ | b⟩
  · exact blank
  · exact torn
  · exact whole b

def Pg.kind : Pg → Nat
  | ⟨none⟩ => 0
  | ⟨some (some _)⟩ => 1
  | ⟨some none⟩ => 2
def Pg.text : Pg → ByteArray
  | ⟨some (some b)⟩ => b
  | _ => ⟨#[]⟩
def zeros (n : Nat) : ByteArray := ⟨(List.replicate n (0 : UInt8)).toArray⟩
/-- What is read of a page. -/
def full (b : ByteArray) : ByteArray := b ++ zeros (384 - b.size)
def Pg.read : Pg → ByteArray
  | ⟨some (some b)⟩ => full b
  | _ => ⟨#[]⟩
def Pg.err : Pg → Int
  | ⟨none⟩ => 5
  | ⟨some none⟩ => 6
  | ⟨some (some _)⟩ => 0

/-- A page as it stands, and, where it waits, what it was when it last did not. -/
structure Cl where
  now : Pg
  last : Option Pg

structure Dv where
  cs : List Cl
  armed : Nat
  off : Bool
  losses : Int
  wr : Int
  fl : Int
  rd : Int
  cr : Int

/-- The pages that wait, from number i on. -/
def wl : Nat → List Cl → List (Nat × Pg)
  | _, [] => []
  | i, c :: r => match c.last with
    | none => wl (i + 1) r
    | some l => (i, l) :: wl (i + 1) r

def Dv.fresh (n : Nat) : Dv := ⟨List.replicate n ⟨.blank, none⟩, 0, false, 0, 0, 0, 0, 0⟩

/-- Does a call find the power gone? -/
def Dv.gone (S : Dv) : Bool := S.off || decide (S.armed = 1)
/-- What such a call leaves behind it. -/
def Dv.used (S : Dv) : Dv :=
  if S.off = true ∨ S.armed = 0 then S
  else if S.armed = 1 then { S with armed := 0, off := true, losses := wrap64 (S.losses + 1) }
  else { S with armed := S.armed - 1 }

def Cl.put (c : Cl) (p : Pg) : Cl := ⟨p, some (c.last.getD c.now)⟩
def Cl.flush (c : Cl) : Cl := ⟨c.now, none⟩

def putAt : List Cl → Nat → Pg → List Cl
  | [], _, _ => []
  | c :: r, 0, p => c.put p :: r
  | c :: r, i + 1, p => c :: putAt r i p

def Dv.has (S : Dv) (at0 : Int) : Bool := decide (0 ≤ at0) && decide (at0 < (S.cs.length : Int))

def Dv.putErr (S : Dv) (at0 : Int) : Int := if S.has at0 = false then 1 else if S.gone = true then 4 else 0
def Dv.putDo (S : Dv) (at0 : Int) (p : Pg) : Dv :=
  if S.has at0 = false then S else if S.gone = true then S.used else { S.used with cs := putAt S.cs at0.toNat p, wr := wrap64 (S.wr + 1) }

def Dv.writeErr (S : Dv) (at0 : Int) (b : ByteArray) : Int := if 384 < b.size then 1 else S.putErr at0
def Dv.writeDo (S : Dv) (at0 : Int) (b : ByteArray) : Dv := if 384 < b.size then S else S.putDo at0 (.whole b)

def Dv.flushErr (S : Dv) : Int := if S.gone = true then 4 else 0
def Dv.flushDo (S : Dv) : Dv := if S.gone = true then S.used else { S.used with cs := S.cs.map Cl.flush, fl := wrap64 (S.fl + 1) }

/-- What a page becomes by a pick. -/
def pick (now l : Pg) (k : Nat) : Pg := if k % 3 = 0 then l else if k % 3 = 2 then .torn else now

def settle : List Cl → List UInt8 → List Cl
  | [], _ => []
  | c :: r, ps => match c.last with
    | none => c :: settle r ps
    | some l => ⟨pick c.now l (ps.headD 0).toNat, none⟩ :: settle r ps.tail

def Dv.crash (S : Dv) (ps : List UInt8) : Dv := { S with off := true, losses := wrap64 (S.losses + 1), cr := wrap64 (S.cr + 1), cs := settle S.cs ps }
def Dv.on (S : Dv) : Dv := { S with off := false, armed := 0, losses := wrap64 (S.losses + 1), cs := settle S.cs [] }
def Dv.arm (S : Dv) (n : Int) : Dv := { S with armed := n.toNat }

/-- What is asked of a state: the sizes. -/
def Pg.fits (p : Pg) : Prop := p.text.size ≤ 384
def Cl.fits (c : Cl) : Prop := c.now.fits ∧ ∀ l, c.last = some l → l.fits
structure Dv.good (S : Dv) : Prop where
  many : S.cs.length ≤ 4096
  armed : S.armed ≤ 9223372036854775807
  fits : ∀ c ∈ S.cs, c.fits

theorem Dv.used_cs (S : Dv) : S.used.cs = S.cs := by unfold Dv.used; split <;> (try split) <;> rfl
theorem Dv.used_good {S : Dv} (h : S.good) : S.used.good := by
  refine ⟨by rw [S.used_cs]; exact h.many, ?_, by rw [S.used_cs]; exact h.fits⟩
  have := h.armed
  unfold Dv.used; split
  · exact this
  · split
    · exact Nat.zero_le _
    · show S.armed - 1 ≤ _; omega

theorem putAt_length : ∀ (cs : List Cl) (i : Nat) (p : Pg), (putAt cs i p).length = cs.length
  | [], _, _ => rfl
  | _ :: _, 0, _ => rfl
  | c :: r, i + 1, p => by simp [putAt, putAt_length r i p]

theorem Cl.put_fits {c : Cl} {p : Pg} (hc : c.fits) (hp : p.fits) : (c.put p).fits := by
  refine ⟨hp, fun l hl => ?_⟩
  have e : l = c.last.getD c.now := by simpa [Cl.put] using hl.symm
  rw [e]
  cases h : c.last with
  | none => exact hc.1
  | some q => exact hc.2 q h

theorem putAt_fits {p : Pg} (hp : p.fits) : ∀ (cs : List Cl) (i : Nat), (∀ c ∈ cs, c.fits) → ∀ c ∈ putAt cs i p, c.fits
  | [], _, _ => by simp [putAt]
  | c :: r, 0, h => by
    intro x hx
    rcases List.mem_cons.1 hx with rfl | hx
    · exact Cl.put_fits (h c (by simp)) hp
    · exact h x (by simp [hx])
  | c :: r, i + 1, h => by
    intro x hx
    rcases List.mem_cons.1 hx with rfl | hx
    · exact h x (by simp)
    · exact putAt_fits hp r i (fun y hy => h y (by simp [hy])) x hx

theorem Dv.putDo_good {S : Dv} (h : S.good) (at0 : Int) {p : Pg} (hp : p.fits) : (S.putDo at0 p).good := by
  unfold Dv.putDo
  split
  · exact h
  · split
    · exact Dv.used_good h
    · exact ⟨by show (putAt _ _ _).length ≤ _; rw [putAt_length]; exact h.many, (Dv.used_good h).armed, putAt_fits hp _ _ h.fits⟩

theorem Dv.writeDo_good {S : Dv} (h : S.good) (at0 : Int) (b : ByteArray) : (S.writeDo at0 b).good := by
  unfold Dv.writeDo
  split
  · exact h
  · exact Dv.putDo_good h _ (by show b.size ≤ 384; omega)

theorem Cl.flush_fits {c : Cl} (h : c.fits) : c.flush.fits := ⟨h.1, fun l hl => by cases hl⟩

theorem Dv.flushDo_good {S : Dv} (h : S.good) : S.flushDo.good := by
  unfold Dv.flushDo
  split
  · exact Dv.used_good h
  · exact ⟨by show (List.map _ _).length ≤ _; rw [List.length_map]; exact h.many, (Dv.used_good h).armed, fun c hc => by
      obtain ⟨x, hx, rfl⟩ := List.mem_map.1 hc
      exact Cl.flush_fits (h.fits x hx)⟩

theorem pick_fits {a l : Pg} (h : a.fits) (hl : l.fits) (k : Nat) : (pick a l k).fits := by
  unfold pick; split
  · exact hl
  · split
    · exact Nat.zero_le _
    · exact h

theorem settle_length : ∀ (cs : List Cl) (ps : List UInt8), (settle cs ps).length = cs.length
  | [], _ => rfl
  | c :: r, ps => by unfold settle; split <;> simp [settle_length r]

theorem settle_fits : ∀ (cs : List Cl) (ps : List UInt8), (∀ c ∈ cs, c.fits) → ∀ c ∈ settle cs ps, c.fits
  | [], _, _ => by simp [settle]
  | c :: r, ps, h => by
    have hr : ∀ x ∈ r, x.fits := fun x hx => h x (by simp [hx])
    have hc := h c (by simp)
    intro x hx
    unfold settle at hx
    split at hx
    · rcases List.mem_cons.1 hx with rfl | hx
      · exact hc
      · exact settle_fits r ps hr x hx
    · rename_i l hl
      rcases List.mem_cons.1 hx with rfl | hx
      · exact ⟨pick_fits hc.1 (hc.2 l hl) _, fun _ e => by cases e⟩
      · exact settle_fits r ps.tail hr x hx

theorem Dv.crash_good {S : Dv} (h : S.good) (ps : List UInt8) : (S.crash ps).good :=
  ⟨by show (settle _ _).length ≤ _; rw [settle_length]; exact h.many, h.armed, settle_fits _ _ h.fits⟩
theorem Dv.on_good {S : Dv} (h : S.good) : S.on.good :=
  ⟨by show (settle _ _).length ≤ _; rw [settle_length]; exact h.many, Nat.zero_le _, settle_fits _ _ h.fits⟩
theorem Dv.arm_good {S : Dv} (h : S.good) (n : Int) (hn : n ≤ 9223372036854775807) : (S.arm n).good := ⟨h.many, by show n.toNat ≤ _; omega, h.fits⟩
theorem Dv.fresh_good (n : Nat) (h : n ≤ 4096) : (Dv.fresh n).good :=
  ⟨by simpa [Dv.fresh] using h, Nat.zero_le _, fun c hc => by
    have := List.eq_of_mem_replicate hc
    subst this
    exact ⟨Nat.zero_le _, fun _ e => by cases e⟩⟩

/-! ### A list parted at a place -/
theorem part_at {α : Type} (l : List α) (i : Nat) (h : i < l.length) : ∃ A c B, l = A ++ c :: B ∧ A.length = i :=
  ⟨l.take i, l[i], l.drop (i + 1), by rw [List.getElem_cons_drop, List.take_append_drop], by simp; omega⟩

theorem putAt_part : ∀ (A : List Cl) (c : Cl) (B : List Cl) (p : Pg), putAt (A ++ c :: B) A.length p = A ++ c.put p :: B
  | [], _, _, _ => rfl
  | a :: r, c, B, p => by simp [putAt, putAt_part r c B p]

theorem wl_append : ∀ (A B : List Cl) (i : Nat), wl i (A ++ B) = wl i A ++ wl (i + A.length) B
  | [], _, _ => by simp [wl]
  | a :: r, B, i => by
    have ih := wl_append r B (i + 1)
    rw [show i + 1 + r.length = i + (a :: r).length by simp; omega] at ih
    simp only [List.cons_append, wl]
    split <;> simp [ih]

theorem wl_lt : ∀ (A : List Cl) (i : Nat), ∀ x ∈ wl i A, i ≤ x.1 ∧ x.1 < i + A.length
  | [], _ => by simp [wl]
  | a :: r, i => by
    intro x hx
    unfold wl at hx
    split at hx
    · have := wl_lt r (i + 1) x hx; simp; omega
    · rcases List.mem_cons.1 hx with rfl | hx
      · simp
      · have := wl_lt r (i + 1) x hx; simp; omega

theorem wl_length : ∀ (A : List Cl) (i : Nat), (wl i A).length ≤ A.length
  | [], _ => by simp [wl]
  | a :: r, i => by
    have := wl_length r (i + 1)
    unfold wl; split <;> simp <;> omega

theorem wl_flush : ∀ (A : List Cl) (i : Nat), wl i (A.map Cl.flush) = []
  | [], _ => rfl
  | a :: r, i => by simp [wl, Cl.flush, wl_flush r]

theorem wl_settle : ∀ (A : List Cl) (ps : List UInt8) (i : Nat), wl i (settle A ps) = []
  | [], _, _ => rfl
  | a :: r, ps, i => by
    unfold settle
    split
    · rename_i h; simp [wl, h, wl_settle r]
    · simp [wl, wl_settle r]

theorem wl_fresh : ∀ (n i : Nat), wl i (List.replicate n (⟨.blank, none⟩ : Cl)) = []
  | 0, _ => rfl
  | n + 1, i => by simp [List.replicate_succ, wl, wl_fresh n]

/-! ### Memory -/

/-- Block b is a row of these cells, none frozen. -/
def Blk (w : World) (b : Nat) (L : List Value) (t : TypeId) : Prop := w.heap[b]? = some (.cells L.toArray t (0, 0))

section
variable {w w' : World} {b : Nat} {L : List Value} {t : TypeId}
theorem Blk.lt (h : Blk w b L t) : b < w.heap.size := (Array.getElem?_eq_some_iff.1 h).1
theorem Blk.cell (h : Blk w b L t) {i : Nat} {v : Value} (hv : L[i]? = some v) : w.cell? ⟨b, i, none⟩ = some v := by
  unfold Blk at h
  simp [World.cell?, h, hv]
theorem Blk.frozen (h : Blk w b L t) (i : Nat) : w.frozen? ⟨b, i, none⟩ = false := by
  unfold Blk at h
  simp [World.frozen?, h]
theorem Blk.same (h : Blk w b L t) (e : w'.heap[b]? = w.heap[b]?) : Blk w' b L t := e.trans h
theorem Blk.set (h : Blk w b L t) (i : Nat) (v : Value) : Blk (w.setCell ⟨b, i, none⟩ v) b (L.set i v) t := by
  unfold Blk at *
  simp [World.setCell, Array.getElem?_modify, h]
theorem Blk.new (w : World) (L : List Value) (t : TypeId) : Blk (w.alloc (.cells L.toArray t)) w.heap.size L t := blk_alloc_new _ _
theorem Blk.other (h : Blk w b L t) {a : Addr} (ha : b ≠ a.block) (v : Value) : Blk (w.setCell a v) b L t := h.same (blk_setCell_other _ _ _ _ ha)
theorem Blk.alloc (h : Blk w b L t) (o : Obj) : Blk (w.alloc o) b L t := h.same (blk_alloc_lt _ _ _ h.lt)
end

theorem set_append_len (A : List Value) (v x : Value) (B : List Value) (i : Nat) (h : i = A.length) : (A ++ v :: B).set i x = A ++ x :: B := by
  subst h; simp

theorem heap_setCells_other (b : Nat) : ∀ (vs : List Value) (o : Nat) (w : World) (k : Nat), k ≠ b → (w.setCells b o vs).heap[k]? = w.heap[k]?
  | [], _, _, _, _ => rfl
  | v :: r, o, w, k, h => by rw [World.setCells, heap_setCells_other b r _ _ k h]; exact blk_setCell_other _ _ _ _ h
theorem size_setCells (b : Nat) : ∀ (vs : List Value) (o : Nat) (w : World), (w.setCells b o vs).heap.size = w.heap.size
  | [], _, _ => rfl
  | v :: r, o, w => by rw [World.setCells, size_setCells b r]; exact nblk_setCell _ _ _

/-- A run of stores into a row: what stood ahead, the new cells, what stands behind. -/
theorem Blk.sets {b : Nat} {t : TypeId} : ∀ (vs A M B : List Value) (w : World), M.length = vs.length → Blk w b (A ++ M ++ B) t → Blk (w.setCells b A.length vs) b (A ++ vs ++ B) t
  | [], A, [], B, w, _, h => h
  | v :: r, A, m :: M, B, w, hl, h => by
    have h1 := h.set A.length v
    rw [show A ++ m :: M ++ B = A ++ m :: (M ++ B) by simp, set_append_len A m v (M ++ B) _ rfl] at h1
    have ih := Blk.sets r (A ++ [v]) M B (w.setCell ⟨b, A.length, none⟩ v) (by simpa using hl) (by simpa using h1)
    rw [World.setCells]
    simpa using ih

/-- Outside the blocks F all is as it was. -/
structure Keep (F : List Nat) (w w' : World) : Prop where
  os : w'.os = w.os
  tape : w'.tape = w.tape
  output : w'.output = w.output
  size : w.heap.size ≤ w'.heap.size
  block : ∀ k, k < w.heap.size → k ∉ F → w'.heap[k]? = w.heap[k]?

theorem Keep.refl (F : List Nat) (w : World) : Keep F w w := ⟨rfl, rfl, rfl, Nat.le_refl _, fun _ _ _ => rfl⟩
theorem Keep.trans {F G : List Nat} {a b c : World} (h : Keep F a b) (k : Keep G b c) (hG : ∀ x ∈ G, x ∈ F ∨ a.heap.size ≤ x) : Keep F a c :=
  ⟨k.os.trans h.os, k.tape.trans h.tape, k.output.trans h.output, Nat.le_trans h.size k.size, fun i hi hn =>
    (k.block i (Nat.lt_of_lt_of_le hi h.size) (fun hg => by rcases hG i hg with h1 | h1; exact hn h1; omega)).trans (h.block i hi hn)⟩
theorem Keep.drew {F : List Nat} {a w : World} (h : Keep F a w) : Keep F a w.drew := ⟨h.os, h.tape, h.output, h.size, h.block⟩
theorem Keep.alloc {F : List Nat} {a w : World} (h : Keep F a w) (o : Obj) : Keep F a (w.alloc o) :=
  h.trans (G := []) ⟨rfl, rfl, rfl, by rw [nblk_alloc]; omega, fun k hk _ => blk_alloc_lt _ _ _ hk⟩ (fun x hx => by cases hx)
theorem Keep.setCell {F : List Nat} {a w : World} (h : Keep F a w) {p : Addr} (hp : p.block ∈ F ∨ a.heap.size ≤ p.block) (v : Value) : Keep F a (w.setCell p v) :=
  h.trans (G := [p.block]) ⟨rfl, rfl, rfl, by rw [nblk_setCell]; exact Nat.le_refl _, fun k hk hn => blk_setCell_other _ _ _ _ (fun e => hn (by simp [e]))⟩ (fun x hx => by simp at hx; subst hx; exact hp)
theorem Keep.setCells {F : List Nat} {a w : World} (h : Keep F a w) {b : Nat} (hp : b ∈ F ∨ a.heap.size ≤ b) (o : Nat) (vs : List Value) : Keep F a (w.setCells b o vs) := by
  induction vs generalizing w o with
  | nil => exact h
  | cons v r ih => rw [World.setCells]; exact ih (h.setCell hp v) _
theorem Keep.below {F : List Nat} {w w' : World} (h : Keep F w w') {B : Nat} (hF : ∀ k ∈ F, B ≤ k) (hB : B ≤ w.heap.size) : Below B w w' :=
  ⟨h.os, h.tape, h.output, h.size, fun k hk => h.block k (by omega) (fun hf => by have := hF k hf; omega)⟩
theorem Keep.of_below {F : List Nat} {w w' : World} (h : Below w.heap.size w w') : Keep F w w' := ⟨h.os, h.tape, h.output, h.size, fun k hk _ => h.block k hk⟩
theorem Keep.grown {F : List Nat} {a w w' : World} {row : Option Nat} (h : Keep F a w) (hg : w.grownBy w' row) (hr : ∀ k, row = some k → k ∈ F ∨ a.heap.size ≤ k) : Keep F a w' :=
  h.trans (G := row.toList) ⟨hg.os, hg.tape, hg.output, hg.size, fun k hk hn => hg.block k hk (fun e => hn (by simp [← e]))⟩ (fun x hx => hr x (by simpa using hx))
theorem Keep.mono {F G : List Nat} {w w' : World} (h : Keep F w w') (hs : ∀ k ∈ F, k ∈ G ∨ w.heap.size ≤ k) : Keep G w w' :=
  ⟨h.os, h.tape, h.output, h.size, fun k hk hn => h.block k hk (fun hf => by rcases hs k hf with h1 | h1; exact hn h1; omega)⟩

/-- The blocks F are turned; what stands for them then, F', is of them or new. -/
structure Moves (F F' : List Nat) (w w' : World) : Prop where
  keep : Keep F w w'
  foot : ∀ k ∈ F', k ∈ F ∨ w.heap.size ≤ k

theorem Moves.refl (F : List Nat) (w : World) : Moves F F w w := ⟨Keep.refl _ _, fun _ h => .inl h⟩
theorem Moves.trans {F G H : List Nat} {a b c : World} (h : Moves F G a b) (k : Moves G H b c) : Moves F H a c :=
  ⟨h.keep.trans k.keep h.foot, fun x hx => by
    rcases k.foot x hx with h1 | h1
    · exact h.foot x h1
    · exact .inr (Nat.le_trans h.keep.size h1)⟩
theorem Moves.of_keep {F : List Nat} {w w' : World} (h : Keep F w w') : Moves F F w w' := ⟨h, fun _ h => .inl h⟩

/-! ### Rows of elements of k cells -/
theorem flat_length {α : Type} (enc : α → List Value) (k : Nat) (hk : ∀ x, (enc x).length = k) : ∀ l : List α, (l.flatMap enc).length = l.length * k
  | [] => by simp
  | a :: r => by simp [flat_length enc k hk r, hk, Nat.add_mul]; omega

theorem flat_get {α : Type} (enc : α → List Value) (k : Nat) (hk : ∀ x, (enc x).length = k) (A : List α) (x : α) (B : List α) (j : Nat) (hj : j < k) :
    ((A ++ x :: B).flatMap enc)[A.length * k + j]? = (enc x)[j]? := by
  rw [List.flatMap_append, List.getElem?_append_right (by rw [flat_length enc k hk]; omega), flat_length enc k hk, List.flatMap_cons, show A.length * k + j - A.length * k = j by omega,
    List.getElem?_append_left (by rw [hk]; exact hj)]

theorem flat_getP {α : Type} (enc : α → List Value) (k : Nat) (hk : ∀ x, (enc x).length = k) (A : List α) (x : α) (B : List α) (pd : List Value) (j : Nat) (hj : j < k) :
    ((A ++ x :: B).flatMap enc ++ pd)[A.length * k + j]? = (enc x)[j]? := by
  have h := flat_get enc k hk A x B j hj
  rw [List.getElem?_append_left ?_]
  · exact h
  · rw [flat_length enc k hk]
    simp only [List.length_append, List.length_cons]
    rw [Nat.add_mul, Nat.add_mul]
    omega

def pgCells (p : Pg) : List Value := [.int .u8 p.kind, .string p.text]
def pgRow (cs : List Cl) : List Value := cs.flatMap fun c => pgCells c.now
def wtCells (x : Nat × Pg) : List Value := [.int .i64 x.1, .int .u8 x.2.kind, .string x.2.text]
def wtRow (l : List (Nat × Pg)) : List Value := l.flatMap wtCells
end Go.Proofs.Ythnfdgjikbjgoaa
