/- Texts joined. -/
import Derived.Test.YtmfjaehajdephabP5
/-
  The program's store: the region that makes the command, its operations in whatever order.
-/
namespace Go.Proofs.Ytmfjaehajdephab
open Go.Shelf Go.RowKit Go.Deep
set_option linter.unusedVariables false
set_option linter.unusedSimpArgs false
set_option maxRecDepth 1000000

abbrev stC (x0 x1 : ByteArray) (q : Bool) (fl ex cs : Int) : Cm := ⟨⟨#[115, 116, 111, 114, 101]⟩, x0, [x1], ⟨#[]⟩, fl, ex, cs, 0, false, false, false, q⟩
theorem store_run (W : World) (b : Nat) (hb : W.heap[b]? = some (cmO cmZ (.slice none 0 0))) (r : Cm) (a : Option Addr) (n c : Nat) :
    (storeVar 33 ⟨b, 0, none⟩ (cmV r (.slice a n c))).run Try.prog W = .ok () (W.setCells b 0 (cmL r (.slice a n c))) := by
  have hB : Blk W b (cmL cmZ (.slice none 0 0)) 33 := hb
  have ht : W.there b 0 12 := fun j hj => by
    refine ⟨?_, hB.frozen _⟩
    rw [Nat.zero_add]
    obtain ⟨u, hu⟩ : ∃ u, (cmL cmZ (.slice none 0 0))[j]? = some u := ⟨_, List.getElem?_eq_getElem hj⟩
    rw [hB.cell hu]
    rfl
  exact run_storeVar_mid W b 0 33 #[.string r.what, .string r.verb, .slice a n c, .string r.data, .int .u32 r.fl, .int .i64 r.ex, .int .u64 r.cs, .int .u64 r.y, .bool r.wc, .bool r.wt, .bool r.dn, .bool r.q] ht size27 (by simp [Value.oneCell'])
structure SrC (w : World) (b : Nat) (x0 x1 : ByteArray) (q : Bool) (us : Nat → Option Value) (W : World) : Prop where
  rb : RgB w b W
  row : ∀ u, us 6 = some u → ∃ g, u = sl1 g ∧ RowT W (some ⟨g, 0, none⟩) 1 [x1]
  bld : ∀ u, us 8 = some u → ∃ g, u = cmV (stC x0 x1 q 0 0 0) (sl1 g) ∧ RowT W (some ⟨g, 0, none⟩) 1 [x1]
  al : ∀ u, us 9 = some u → ∃ b8, u = .pointer (some ⟨b8, 0, none⟩) ∧ w.heap.size ≤ b8 ∧ b8 ≠ b ∧ (us 10 = none → W.heap[b8]? = some (cmO cmZ (.slice none 0 0))) ∧
    (∀ v, us 10 = some v → ∃ g, RowT W (some ⟨g, 0, none⟩) 1 [x1] ∧ W.heap[b8]? = some (cmO (stC x0 x1 q 0 0 0) (sl1 g)))
section
variable {w : World} {b : Nat} {x0 x1 : ByteArray} {q : Bool} {us : Nat → Option Value} {W : World}
theorem SrC.new (h : RgB w b W) : SrC w b x0 x1 q (fun _ => none) W := ⟨h, fun u h => (by cases h), fun u h => (by cases h), fun u h => (by cases h)⟩
theorem SrC.bel (H : SrC w b x0 x1 q us W) : Below w.heap.size w W := H.rb.bel
/-- Something is laid behind all; an operation other than the store has yielded v. -/
theorem SrC.later (H : SrC w b x0 x1 q us W) {W' : World} (k : Below W.heap.size W W') (hlt : ∀ c : Nat, (∃ o, W.heap[c]? = some o) → c < W.heap.size) : SrC w b x0 x1 q us W' :=
  ⟨H.rb.later k, fun u hu => by obtain ⟨g, h1, h2⟩ := H.row u hu; exact ⟨g, h1, h2.later k⟩, fun u hu => by obtain ⟨g, h1, h2⟩ := H.bld u hu; exact ⟨g, h1, h2.later k⟩,
   fun u hu => by
    obtain ⟨b8, h1, h2, h3, h4, h5⟩ := H.al u hu
    refine ⟨b8, h1, h2, h3, fun h => ?_, fun v h => ?_⟩
    · have := h4 h
      exact (k.block b8 (hlt b8 ⟨_, this⟩)).trans this
    · obtain ⟨g, h6, h7⟩ := h5 v h
      exact ⟨g, h6.later k, (k.block b8 (hlt b8 ⟨_, h7⟩)).trans h7⟩⟩
theorem lt_of_at {W : World} : ∀ c : Nat, (∃ o, W.heap[c]? = some o) → c < W.heap.size := fun c ⟨o, h⟩ => (Array.getElem?_eq_some_iff.1 h).1
theorem SrC.s6 (H : SrC w b x0 x1 q us W) (ha8 : us 8 = none) (ha10 : us 10 = none) (hx : x1.size ≤ 140737488351232) :
    (Instr.buildSlice 28 1 #[(0, .string x1)]).run Try.prog W = .ok (sl1 W.heap.size) (W.alloc (.cells #[.string x1] 9)) ∧ SrC w b x0 x1 q (setU us 6 (sl1 W.heap.size)) (W.alloc (.cells #[.string x1] 9)) := by
  have K : SrC w b x0 x1 q us (W.alloc (.cells #[.string x1] 9)) := H.later ((Below.refl _ _).alloc (Nat.le_refl _) _) lt_of_at
  refine ⟨by simp [go_sem, sl1], K.rb, fun u hu => ?_, fun u hu => K.bld u (by simpa [setU] using hu), fun u hu => ?_⟩
  · rw [setU_same] at hu
    cases hu
    exact ⟨_, rfl, row_one W x1 hx⟩
  · obtain ⟨b8, h1, h2, h3, h4, h5⟩ := K.al u (by simpa [setU] using hu)
    exact ⟨b8, h1, h2, h3, fun h => h4 (by simpa [setU] using h), fun v h => h5 v (by simpa [setU] using h)⟩
theorem SrC.s8 (H : SrC w b x0 x1 q us W) {u : Value} (hu : us 6 = some u) (ha10 : us 10 = none) :
    ∃ g, u = sl1 g ∧ SrC w b x0 x1 q (setU us 8 (cmV (stC x0 x1 q 0 0 0) (sl1 g))) W := by
  obtain ⟨g, h1, h2⟩ := H.row u hu
  refine ⟨g, h1, H.rb, fun u hu => H.row u (by simpa [setU] using hu), fun u hu => ?_, fun u hu => ?_⟩
  · rw [setU_same] at hu
    cases hu
    exact ⟨g, rfl, h2⟩
  · obtain ⟨b8, h1, h2, h3, h4, h5⟩ := H.al u (by simpa [setU] using hu)
    exact ⟨b8, h1, h2, h3, fun h => h4 (by simpa [setU] using h), fun v h => h5 v (by simpa [setU] using h)⟩
theorem SrC.s9 (H : SrC w b x0 x1 q us W) (ha10 : us 10 = none) : SrC w b x0 x1 q (setU us 9 (.pointer (some ⟨W.heap.size, 0, none⟩))) (W.alloc (cmO cmZ (.slice none 0 0))) := by
  have K : SrC w b x0 x1 q us (W.alloc (cmO cmZ (.slice none 0 0))) := H.later ((Below.refl _ _).alloc (Nat.le_refl _) _) lt_of_at
  refine ⟨K.rb, fun u hu => K.row u (by simpa [setU] using hu), fun u hu => K.bld u (by simpa [setU] using hu), fun u hu => ?_⟩
  rw [setU_same] at hu
  cases hu
  refine ⟨W.heap.size, rfl, H.rb.bel.size, fun e => ?_, fun _ => heap_alloc_new _ _, fun v hv => ?_⟩
  · have := lt_of_at b ⟨_, H.rb.blk⟩
    omega
  · have : us 10 = some v := by simpa [setU] using hv
    rw [ha10] at this
    cases this
theorem SrC.s10 (H : SrC w b x0 x1 q us W) {u p : Value} (hu : us 8 = some u) (hp : us 9 = some p) (ha10 : us 10 = none) :
    ∃ b8 W', p = .pointer (some ⟨b8, 0, none⟩) ∧ (storeVar 33 ⟨b8, 0, none⟩ u).run Try.prog W = .ok () W' ∧ SrC w b x0 x1 q (setU us 10 undef) W' := by
  obtain ⟨b8, h1, h2, h3, h4, h5⟩ := H.al p hp
  obtain ⟨g, rfl, hr⟩ := H.bld u hu
  have hz := h4 ha10
  have hst := store_run W b8 hz (stC x0 x1 q 0 0 0) (some ⟨g, 0, none⟩) 1 1
  have hk := keep_cm W b8 (stC x0 x1 q 0 0 0) (sl1 g)
  have hrow : ∀ {a : Option Addr} {n : Nat} {xs : List ByteArray}, RowT W a n xs → RowT (W.setCells b8 0 (cmL (stC x0 x1 q 0 0 0) (sl1 g))) a n xs := fun h => keep_row h hz _ _
  refine ⟨b8, _, h1, hst, ⟨below_cm H.rb.bel h2 _ _, H.rb.lo, (hk.block b (lt_of_at b ⟨_, H.rb.blk⟩) (by simp; omega)).trans H.rb.blk⟩, fun u hu => ?_, fun u hu => ?_, fun u hu => ?_⟩
  · obtain ⟨g, h6, h7⟩ := H.row u (by simpa [setU] using hu)
    exact ⟨g, h6, hrow h7⟩
  · obtain ⟨g, h6, h7⟩ := H.bld u (by simpa [setU] using hu)
    exact ⟨g, h6, hrow h7⟩
  · have : us 9 = some u := by simpa [setU] using hu
    rw [hp] at this
    cases this
    exact ⟨b8, h1, h2, h3, fun h => by simp [setU] at h, fun v _ => ⟨g, hrow hr, heap_cm hz _ _⟩⟩
theorem SrC.done (H : SrC w b x0 x1 q us W) (h : ∀ z, [6, 8, 9, 10].contains z = true → (us z).isSome = true) :
    ∃ z6 z8 z10 g b8, us 6 = some z6 ∧ us 8 = some z8 ∧ us 9 = some (.pointer (some ⟨b8, 0, none⟩)) ∧ us 10 = some z10 ∧ w.heap.size ≤ b8 ∧ b8 ≠ b ∧ RowT W (some ⟨g, 0, none⟩) 1 [x1] ∧ W.heap[b8]? = some (cmO (stC x0 x1 q 0 0 0) (sl1 g)) := by
  obtain ⟨u6, h6⟩ := Option.isSome_iff_exists.1 (h 6 (by decide))
  obtain ⟨u8, h8⟩ := Option.isSome_iff_exists.1 (h 8 (by decide))
  obtain ⟨u9, h9⟩ := Option.isSome_iff_exists.1 (h 9 (by decide))
  obtain ⟨u10, h10⟩ := Option.isSome_iff_exists.1 (h 10 (by decide))
  obtain ⟨b8, rfl, e2, e3, _, e5⟩ := H.al _ h9
  obtain ⟨g, e6, e7⟩ := e5 _ h10
  exact ⟨u6, u8, u10, g, b8, h6, h8, h9, h10, e2, e3, e6, e7⟩
end
end Go.Proofs.Ytmfjaehajdephab

/-
  The program's store: its fields, its two blocks.
-/
namespace Go.Proofs.Ytmfjaehajdephab
open Go.Shelf Go.RowKit Go.Deep
set_option linter.unusedVariables false
set_option linter.unusedSimpArgs false
set_option maxRecDepth 1000000

theorem set12 (w : World) (b : Nat) (v0 v1 v2 v3 v4 v5 v6 v7 v8 v9 v10 v11 : Value) : ((((((((((((w.setCell ⟨b, 0, none⟩ v0).setCell ⟨b, 1, none⟩ v1).setCell ⟨b, 2, none⟩ v2).setCell ⟨b, 3, none⟩ v3).setCell ⟨b, 4, none⟩ v4).setCell ⟨b, 5, none⟩ v5).setCell ⟨b, 6, none⟩ v6).setCell ⟨b, 7, none⟩ v7).setCell ⟨b, 8, none⟩ v8).setCell ⟨b, 9, none⟩ v9).setCell ⟨b, 10, none⟩ v10).setCell ⟨b, 11, none⟩ v11) = w.setCells b 0 [v0, v1, v2, v3, v4, v5, v6, v7, v8, v9, v10, v11] := rfl
theorem st_fields (W : World) (b : Nat) (x0 x1 : ByteArray) (q : Bool) (fl k3 : Int) (k5 : Nat) (v : Value) (h : W.heap[b]? = some (cmO (stC x0 x1 q 0 0 0) v)) :
    (((W.setCell ⟨b, 6, none⟩ (.int .u64 (k5 : Int))).setCell ⟨b, 4, none⟩ (.int .u32 fl)).setCell ⟨b, 5, none⟩ (.int .i64 k3)).heap[b]? = some (cmO (stC x0 x1 q fl k3 (k5 : Int)) v) := by
  have hB : Blk W b (cmL (stC x0 x1 q 0 0 0) v) 33 := h
  exact ((hB.set 6 (.int .u64 (k5 : Int))).set 4 (.int .u32 fl)).set 5 (.int .i64 k3)
theorem st_fields0 (W : World) (b : Nat) (x0 x1 : ByteArray) (q : Bool) (fl k3 : Int) (v : Value) (h : W.heap[b]? = some (cmO (stC x0 x1 q 0 0 0) v)) :
    ((W.setCell ⟨b, 4, none⟩ (.int .u32 fl)).setCell ⟨b, 5, none⟩ (.int .i64 k3)).heap[b]? = some (cmO (stC x0 x1 q fl k3 0) v) := by
  have hB : Blk W b (cmL (stC x0 x1 q 0 0 0) v) 33 := h
  exact (hB.set 4 (.int .u32 fl)).set 5 (.int .i64 k3)
theorem st_keep (W : World) (b : Nat) (fl k3 : Int) (k5 : Nat) : Keep [b] W (((W.setCell ⟨b, 6, none⟩ (.int .u64 (k5 : Int))).setCell ⟨b, 4, none⟩ (.int .u32 fl)).setCell ⟨b, 5, none⟩ (.int .i64 k3)) :=
  (((Keep.refl _ _).setCell (.inl (by simp)) _).setCell (.inl (by simp)) _).setCell (.inl (by simp)) _
theorem st_keep0 (W : World) (b : Nat) (fl k3 : Int) : Keep [b] W ((W.setCell ⟨b, 4, none⟩ (.int .u32 fl)).setCell ⟨b, 5, none⟩ (.int .i64 k3)) :=
  ((Keep.refl _ _).setCell (.inl (by simp)) _).setCell (.inl (by simp)) _
theorem row_off {W : World} {b : Nat} {a : Option Addr} {n : Nat} {xs : List ByteArray} (hr : RowT W a n xs) {c0 : Cm} {v0 : Value} (hb : W.heap[b]? = some (cmO c0 v0)) : ∀ x, a = some x → x.block ∉ [b] := fun x hx h => by
  obtain ⟨cs, fz, hc⟩ := hr.kind x hx
  simp only [List.mem_singleton] at h
  rw [h, hb] at hc
  simp at hc
/-- Two blocks of commands: the call's own result, and another. -/
structure Two_st (w : World) (Y : World) (b8 : Nat) (r : Cm) (a : Option Addr) (n c : Nat) : Prop where
  rb : RgB w w.heap.size Y
  e8 : ∃ c0 v0, Y.heap[b8]? = some (cmO c0 v0)
  lo : w.heap.size ≤ b8
  ne : b8 ≠ w.heap.size
  row : RowT Y a n r.keys
theorem Two_st.mk' {w Y : World} {b8 : Nat} {c0 : Cm} {v0 : Value} {r : Cm} {a : Option Addr} {n c : Nat} (h : RgB w w.heap.size Y) (e8 : Y.heap[b8]? = some (cmO c0 v0)) (lo : w.heap.size ≤ b8) (ne : b8 ≠ w.heap.size) (row : RowT Y a n r.keys) : Two_st w Y b8 r a n c := ⟨h, ⟨_, _, e8⟩, lo, ne, row⟩
theorem there_cm {W : World} {b : Nat} {c0 : Cm} {v0 : Value} (h : W.heap[b]? = some (cmO c0 v0)) : W.there b 0 12 := fun j hj => by
  have hB : Blk W b (cmL c0 v0) 33 := h
  refine ⟨?_, hB.frozen _⟩
  rw [Nat.zero_add]
  obtain ⟨u, hu⟩ : ∃ u, (cmL c0 v0)[j]? = some u := ⟨_, List.getElem?_eq_getElem hj⟩
  rw [hB.cell hu]
  rfl
section
variable {w Y : World} {b8 : Nat} {r : Cm} {a : Option Addr} {n c : Nat}
theorem Two_st.stored (H : Two_st w Y b8 r a n c) : RgB w w.heap.size (Y.setCells b8 0 (cmL r (.slice a n c))) :=
  ⟨below_cm H.rb.bel H.lo _ _, H.rb.lo, ((keep_cm Y b8 r _).block _ (lt_of_at _ ⟨_, H.rb.blk⟩) (by have := H.ne; simp; omega)).trans H.rb.blk⟩
theorem Two_st.both (H : Two_st w Y b8 r a n c) : RgD w w.heap.size r ((Y.setCells b8 0 (cmL r (.slice a n c))).setCells w.heap.size 0 (cmL r (.slice a n c))) ∧
    RowT ((Y.setCells b8 0 (cmL r (.slice a n c))).setCells w.heap.size 0 (cmL r (.slice a n c))) a n r.keys ∧ ((Y.setCells b8 0 (cmL r (.slice a n c))).setCells w.heap.size 0 (cmL r (.slice a n c))).heap[w.heap.size]? = some (cmO r (.slice a n c)) := by
  obtain ⟨c0, v0, e8⟩ := H.e8
  have h1 := H.stored
  have hr := keep_row (keep_row H.row e8 r (.slice a n c)) h1.blk r (.slice a n c)
  have hb := heap_cm h1.blk r (.slice a n c)
  exact ⟨⟨below_cm h1.bel h1.lo _ _, h1.lo, a, n, c, hr, hb⟩, hr, hb⟩
/-- What stands once the other block holds the command. -/
structure One_st (w : World) (Y1 : World) (b8 : Nat) (r : Cm) (a : Option Addr) (n c : Nat) : Prop where
  rb : RgB w w.heap.size Y1
  e8 : Y1.heap[b8]? = some (cmO r (.slice a n c))
  row : RowT Y1 a n r.keys
theorem Two_st.one (H : Two_st w Y b8 r a n c) : One_st w (Y.setCells b8 0 (cmL r (.slice a n c))) b8 r a n c := by
  obtain ⟨c0, v0, e8⟩ := H.e8
  exact ⟨H.stored, heap_cm e8 _ _, keep_row H.row e8 _ _⟩
theorem One_st.done {Y1 : World} (H : One_st w Y1 b8 r a n c) : RowT (Y1.setCells w.heap.size 0 (cmL r (.slice a n c))) a n r.keys ∧ (Y1.setCells w.heap.size 0 (cmL r (.slice a n c))).heap[w.heap.size]? = some (cmO r (.slice a n c)) ∧ Below w.heap.size w (Y1.setCells w.heap.size 0 (cmL r (.slice a n c))) :=
  ⟨keep_row H.row H.rb.blk _ _, heap_cm H.rb.blk _ _, below_cm H.rb.bel H.rb.lo _ _⟩
theorem store_step {ops : Array Oper} {rest : List Oper} {op : Oper} {ac : Act} {W : World} {Q : Exit → Act → World → Prop} (hgd : op.guard = none) (x y : Operand) (ho : op.op = .store 33 x y)
    (b : Nat) (hx : ac.eval x = .pointer (some ⟨b, 0, none⟩)) (hy : ac.eval y = cmV r (.slice a n c)) (ht : W.there b 0 12) (h : wpList Try.prog ops Q rest (ac.put op.dst undef) (W.setCells b 0 (cmL r (.slice a n c)))) : wpList Try.prog ops Q (op :: rest) ac W :=
  wpList_store_mid hgd 33 x y ho b 0 #[.string r.what, .string r.verb, .slice a n c, .string r.data, .int .u32 r.fl, .int .i64 r.ex, .int .u64 r.cs, .int .u64 r.y, .bool r.wc, .bool r.wt, .bool r.dn, .bool r.q] hx hy ht size27 (by simp [Value.oneCell']) h
end
/-- A call answers the command r and the number k. -/
def OneR (w : World) (r : Cm) (k : Int) (e : Ending) (w' : World) : Prop := ∃ a n c, e = .returned (.tuple #[cmV r (.slice a n c), .int .i64 k]) ∧ RowT w' a n r.keys ∧ Below w.heap.size w w'
theorem OneR.mk' {w w' : World} {r : Cm} {k : Int} (a : Option Addr) (n c : Nat) (h1 : RowT w' a n r.keys) (h2 : Below w.heap.size w w') : OneR w r k (.returned (.tuple #[cmV r (.slice a n c), .int .i64 k])) w' := ⟨a, n, c, rfl, h1, h2⟩
end Go.Proofs.Ytmfjaehajdephab
