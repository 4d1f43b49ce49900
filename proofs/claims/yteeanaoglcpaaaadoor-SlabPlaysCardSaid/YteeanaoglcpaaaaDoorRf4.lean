/- The document's own slab in memory: Take. -/
import Derived.Test.YteeanaoglcpaaaaDoorRf3
set_option linter.unusedVariables false
set_option linter.unusedSimpArgs false
set_option maxRecDepth 8000
namespace Go.Proofs.YteeanaoglcpaaaaDoor
open Go.RowKit Go.Deep Go.Shelf Math

def Chain3 (A B C : World) (n : Nat) (W : World) : Prop := match n with
  | 0 => W = A
  | 1 => W = B
  | _ => W = C
theorem run_shru (c : Nat) (hc : c < 6) (W : World) : (binOp .shr 3 (.int .i64 64) (.int .u64 (c : Int))).run Tryd.prog W = .ok (.int .i64 (many c : Int)) W := by
  rcases (show c = 0 ∨ c = 1 ∨ c = 2 ∨ c = 3 ∨ c = 4 ∨ c = 5 by omega) with rfl | rfl | rfl | rfl | rfl | rfl <;> rfl
theorem run_uint (c : Nat) (hc : c < 6) (W : World) : (convert 3 54 (.int .i64 (c : Int))).run Tryd.prog W = .ok (.int .u64 (c : Int)) W := by
  rcases (show c = 0 ∨ c = 1 ∨ c = 2 ∨ c = 3 ∨ c = 4 ∨ c = 5 by omega) with rfl | rfl | rfl | rfl | rfl | rfl <;> rfl
theorem info4 : (Tryd.prog.info? 4).map (fun i => (i.zero, i.size, i.bytes)) = some (some (.bool false), 1, 1) := by kernel_rfl
theorem run_make_bools (n : Nat) (hn : n ≤ 1000000) (w : World) :
    (Instr.makeSlice 53 (.int .i64 (n : Int)) (.int .i64 (n : Int))).run Tryd.prog w = .ok (.slice (some ⟨w.heap.size, 0, none⟩) n n) (w.alloc (.cells (List.replicate n (.bool false)).toArray 4)) := by
  obtain ⟨i, hi, hi2⟩ := Option.map_eq_some_iff.1 info4
  simp only [Prod.mk.injEq] at hi2
  obtain ⟨hz0, hz1, hz2⟩ := hi2
  have := run_make (P := Tryd.prog) w 53 4 i (.bool false) Tryd.underlying53 hi hz0 .i64 .i64 (n : Int) (n : Int) (by omega) (by omega) (by rw [hz2]; omega) (by omega)
  rw [this, hz1]
  have e : madeCells (Value.bool false).cells ((n : Int).toNat * 1) = (List.replicate n (Value.bool false)).toArray := by
    have hc : (Value.bool false).cells = #[.bool false] := rfl
    rw [hc, Int.toNat_natCast, Nat.mul_one]
    unfold madeCells
    apply Array.ext
    · simp
    · intro j h1 h2
      simp [Nat.mod_one]
  rw [e, Int.toNat_natCast]
/-- What Take tells: the chunk, or -1. -/
def tkR (cl : Nat) (l : List Pg) : Int := if tkE cl l = 0 then (tkC cl l : Int) else -1
def TakeP (cl B r a b ca cb : Nat) (l : List Rp) (w : World) (e : Ending) (w' : World) : Prop :=
  e = .returned (.int .i64 (tkR cl (pgs l))) ∧ ∃ l' F, RfIn w' B r a b ca cb l' ∧ pgs l' = tkL cl (pgs l) ∧ Keep F w w' ∧ ∀ q ∈ F, B ≤ q ∧ (q = a ∨ q = b ∨ ∃ L, Blk w q L 4)
theorem one_bits (cl g : Nat) (hcl : cl < 6) : (List.replicate (many cl) (Value.bool false)).set 0 (.bool true) = blV ⟨⟨(cl : Int), 1⟩, g⟩ := by
  have hm := many_pos cl hcl
  have em : (Rp.mk ⟨(cl : Int), 1⟩ g).m = many cl := rfl
  apply List.ext_getElem?
  intro i
  by_cases hi : i < many cl
  · rw [blV_get (x := ⟨⟨(cl : Int), 1⟩, g⟩) hi]
    cases i with
    | zero => rw [List.getElem?_set_self (by simpa using hi)]; simp
    | succ i =>
      rw [List.getElem?_set_ne (by omega), List.getElem?_replicate, if_pos hi]
      show some (Value.bool false) = some (Value.bool (Nat.testBit 1 (i + 1)))
      rw [Nat.testBit_succ]
      simp
  · rw [List.getElem?_eq_none (by simp; omega), List.getElem?_eq_none (by rw [blV_len]; exact Nat.le_of_not_lt hi)]
/-- A page is handed to a class anew: the worlds on the way. -/
theorem RfIn.fresh {w : World} {B r a b ca cb : Nat} {l : List Rp} (h : RfIn w B r a b ca cb l) {p : Nat} {x : Rp} (hx : l[p]? = some x) {cl : Nat} (hcl : cl < 6) (hz : x.p.t = 0) :
    ∃ W1 W2 W3 W4 W5, W1 = w.setCell ⟨a, p, none⟩ (.int .i64 (cl : Int)) ∧ W2 = { W1 with drawn := W1.drawn + 1 } ∧ W3 = W2.alloc (.cells (List.replicate (many cl) (.bool false)).toArray 4) ∧
      W4 = W3.setCell ⟨b, p, none⟩ (.slice (some ⟨w.heap.size, 0, none⟩) (many cl) (many cl)) ∧ W5 = W4.setCell ⟨w.heap.size, 0, none⟩ (.bool true) ∧
      W2.cell? ⟨r, 1, none⟩ = some (.slice (some ⟨b, 0, none⟩) l.length cb) ∧ W3.cell? ⟨r, 1, none⟩ = some (.slice (some ⟨b, 0, none⟩) l.length cb) ∧
      (Instr.makeSlice 53 (.int .i64 (many cl : Int)) (.int .i64 (many cl : Int))).run Tryd.prog W2 = .ok (.slice (some ⟨w.heap.size, 0, none⟩) (many cl) (many cl)) W3 ∧
      W3.cell? ⟨b, p, none⟩ = some (rpV x) ∧ W3.frozen? ⟨b, p, none⟩ = false ∧
      W4.cell? ⟨r, 1, none⟩ = some (.slice (some ⟨b, 0, none⟩) l.length cb) ∧ W4.cell? ⟨b, p, none⟩ = some (.slice (some ⟨w.heap.size, 0, none⟩) (many cl) (many cl)) ∧ W4.cell? ⟨w.heap.size, 0, none⟩ = some (.bool false) ∧ W4.frozen? ⟨w.heap.size, 0, none⟩ = false ∧
      RfIn W5 B r a b ca cb (l.set p ⟨⟨(cl : Int), 1⟩, w.heap.size⟩) ∧ Keep [a, b] w W5 := by
  have hpl := (List.getElem?_eq_some_iff.1 hx).1
  have hm := many_pos cl hcl
  obtain ⟨pa, qa⟩ := h.of
  obtain ⟨pb, qb⟩ := h.tk
  have hra : r ≠ a := h.box.ty_ne (q := a) qa (by decide)
  have hrb : r ≠ b := h.box.ty_ne (q := b) qb (by decide)
  have hab : a ≠ b := qa.ty_ne (q := b) qb (by decide)
  have hrs := h.box.lt
  have has := h.alt
  have hbs := h.blt
  obtain ⟨W1, e1⟩ : ∃ W1, W1 = w.setCell ⟨a, p, none⟩ (.int .i64 (cl : Int)) := ⟨_, rfl⟩
  obtain ⟨W2, e2⟩ : ∃ W2 : World, W2 = { W1 with drawn := W1.drawn + 1 } := ⟨_, rfl⟩
  obtain ⟨W3, e3⟩ : ∃ W3, W3 = W2.alloc (.cells (List.replicate (many cl) (.bool false)).toArray 4) := ⟨_, rfl⟩
  obtain ⟨W4, e4⟩ : ∃ W4, W4 = W3.setCell ⟨b, p, none⟩ (.slice (some ⟨w.heap.size, 0, none⟩) (many cl) (many cl)) := ⟨_, rfl⟩
  obtain ⟨W5, e5⟩ : ∃ W5, W5 = W4.setCell ⟨w.heap.size, 0, none⟩ (.bool true) := ⟨_, rfl⟩
  have s1 : W1.heap.size = w.heap.size := by rw [e1, nblk_setCell]
  have s2 : W2.heap.size = w.heap.size := by rw [e2]; exact s1
  have K1 : Keep [a] w W1 := by rw [e1]; exact (Keep.refl _ _).setCell (p := ⟨a, p, none⟩) (.inl (by simp)) _
  have K2 : Keep [a] w W2 := by rw [e2]; exact K1.drew
  have K3 : Keep [a] w W3 := by rw [e3]; exact K2.alloc _
  have K4 : Keep [a, b] w W4 := by rw [e4]; exact (K3.mono (fun k hk => .inl (by simp at hk; simp [hk]))).setCell (p := ⟨b, p, none⟩) (.inl (by simp)) _
  have K5 : Keep [a, b] w W5 := by rw [e5]; exact K4.setCell (p := ⟨w.heap.size, 0, none⟩) (.inr (Nat.le_refl _)) _
  have box2 := h.box.same (K2.block r hrs (by simpa using hra))
  have box3 := h.box.same (K3.block r hrs (by simpa using hra))
  have box4 := h.box.same (K4.block r hrs (by simp [hra, hrb]))
  have box5 := h.box.same (K5.block r hrs (by simp [hra, hrb]))
  have b3 := qb.same (K3.block b hbs (by simpa using hab.symm))
  have b4 : Blk W4 b ((tkV l ++ pb).set p (.slice (some ⟨w.heap.size, 0, none⟩) (many cl) (many cl))) 53 := by rw [e4]; exact b3.set p _
  have g3 : Blk W3 w.heap.size (List.replicate (many cl) (.bool false)) 4 := by rw [e3, ← s2]; exact Blk.new _ _ _
  have g4 : Blk W4 w.heap.size (List.replicate (many cl) (.bool false)) 4 := by rw [e4]; exact g3.other (a := ⟨b, p, none⟩) (show w.heap.size ≠ b by omega) _
  have hlen : p < (tkV l ++ pb).length := by simp [tkV]; omega
  have g4c : W4.cell? ⟨w.heap.size, 0, none⟩ = some (.bool false) := g4.cell (by rw [List.getElem?_replicate, if_pos (by omega)])
  refine ⟨W1, W2, W3, W4, W5, e1, e2, e3, e4, e5, box2.cell (i := 1) rfl, box3.cell (i := 1) rfl, ?_, b3.cell (tkV_get hx pb), b3.frozen _, box4.cell (i := 1) rfl, b4.cell (by rw [List.getElem?_set_self hlen]), g4c, g4.frozen 0, ?_, K5⟩
  · have := run_make_bools (many cl) (by have := many_le cl; omega) W2
    rw [s2, ← e3] at this
    exact this
  have x'c : (⟨⟨(cl : Int), 1⟩, w.heap.size⟩ : Rp).p.c ≠ -1 := by show (cl : Int) ≠ -1; omega
  have rv : rpV ⟨⟨(cl : Int), 1⟩, w.heap.size⟩ = .slice (some ⟨w.heap.size, 0, none⟩) (many cl) (many cl) := by unfold rpV; rw [if_neg x'c]; rfl
  refine ⟨?_, ⟨pa, ?_⟩, ⟨pb, ?_⟩, ?_, ?_, ?_, by rw [List.length_set]; exact h.hca, by rw [List.length_set]; exact h.hcb, by rw [List.length_set]; exact h.n1, by rw [List.length_set]; exact h.n9, h.lr, h.la, h.lb⟩
  · rw [List.length_set]; exact box5
  · have a1 : Blk W1 a ((ofL l ++ pa).set p (.int .i64 (cl : Int))) 3 := by rw [e1]; exact qa.set p _
    have a2 : Blk W2 a ((ofL l ++ pa).set p (.int .i64 (cl : Int))) 3 := by rw [e2]; exact a1
    have a3 : Blk W3 a ((ofL l ++ pa).set p (.int .i64 (cl : Int))) 3 := by rw [e3]; exact a2.alloc _
    have a4 : Blk W4 a ((ofL l ++ pa).set p (.int .i64 (cl : Int))) 3 := by rw [e4]; exact a3.other (a := ⟨b, p, none⟩) hab _
    have a5 : Blk W5 a ((ofL l ++ pa).set p (.int .i64 (cl : Int))) 3 := by rw [e5]; exact a4.other (a := ⟨w.heap.size, 0, none⟩) (show a ≠ w.heap.size by omega) _
    rw [List.set_append_left _ _ (by simpa [ofL] using hpl)] at a5
    unfold ofL
    rw [List.map_set]
    exact a5
  · have b5 : Blk W5 b ((tkV l ++ pb).set p (.slice (some ⟨w.heap.size, 0, none⟩) (many cl) (many cl))) 53 := by rw [e5]; exact b4.other (a := ⟨w.heap.size, 0, none⟩) (show b ≠ w.heap.size by omega) _
    rw [List.set_append_left _ _ (by simpa [tkV] using hpl), ← rv] at b5
    unfold tkV
    rw [List.map_set]
    exact b5
  · intro y hy hyc
    obtain ⟨q, hq⟩ := List.getElem?_of_mem hy
    by_cases hqi : p = q
    · subst hqi
      rw [List.getElem?_set_self hpl] at hq
      obtain rfl : _ = y := Option.some.inj hq
      refine ⟨?_, by show B ≤ w.heap.size; exact Nat.le_trans h.lr (Nat.le_of_lt hrs)⟩
      rw [← one_bits cl w.heap.size hcl, e5]
      exact g4.set 0 (.bool true)
    · rw [List.getElem?_set_ne hqi] at hq
      have hby := h.bit y (List.mem_of_getElem? hq) hyc
      refine ⟨hby.1.same (K5.block y.g hby.1.lt ?_), hby.2⟩
      simp only [List.mem_cons, List.not_mem_nil, or_false, not_or]
      exact ⟨fun e => (qa.ty_ne (q := y.g) hby.1 (by decide)) e.symm, fun e => (qb.ty_ne (q := y.g) hby.1 (by decide)) e.symm⟩
  · intro q q' y y' hy hy' hyc hyc' hne
    have old : ∀ (q : Nat) (y : Rp), (l.set p ⟨⟨(cl : Int), 1⟩, w.heap.size⟩)[q]? = some y → y.p.c ≠ -1 → (p = q ∧ y.g = w.heap.size) ∨ (p ≠ q ∧ l[q]? = some y ∧ y.g < w.heap.size) := fun q y hy hyc => by
      by_cases hqi : p = q
      · subst hqi
        rw [List.getElem?_set_self hpl] at hy
        obtain rfl : _ = y := Option.some.inj hy
        exact .inl ⟨rfl, rfl⟩
      · rw [List.getElem?_set_ne hqi] at hy
        exact .inr ⟨hqi, hy, (h.bit y (List.mem_of_getElem? hy) hyc).1.lt⟩
    rcases old q y hy hyc with ⟨h1, h2⟩ | ⟨h1, h2, h3⟩ <;> rcases old q' y' hy' hyc' with ⟨h4, h5⟩ | ⟨h4, h5, h6⟩
    · omega
    · omega
    · omega
    · exact h.nd q q' y y' h2 h5 hyc hyc' hne
  · rw [pgs_set]
    refine h.ok.set (.inr ⟨cl, hcl, rfl, ?_⟩)
    show 1 < 2 ^ many cl
    exact Nat.lt_of_lt_of_le (show 1 < 2 ^ 1 by decide) (Nat.pow_le_pow_right (by decide) (by omega))
end Go.Proofs.YteeanaoglcpaaaaDoor
