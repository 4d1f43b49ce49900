/- The document's own Seg: head, all, Len, has, IDs. -/
import Derived.Test.YtgjgdhjnkbbceaaLaw
import Derived.Test.YtgjgdhjnkbbceaaAnyC
set_option linter.unusedVariables false
set_option linter.unusedSimpArgs false
set_option maxRecDepth 8000
namespace Go.Proofs.Ytgjgdhjnkbbceaa
open Go.RowKit Go.Deep Sgm

def upV {α : Type} (V : Nat → α) (k : Nat) (v : α) : Nat → α := fun j => if j = k then v else V j
theorem upV_same {α : Type} (V : Nat → α) (k : Nat) (v : α) : upV V k v k = v := by simp [upV]
theorem upV_other {α : Type} (V : Nat → α) {k j : Nat} (v : α) (h : j ≠ k) : upV V k v j = V j := by simp [upV, h]
/-- The document's Seg in memory: three rows, each of its own. -/
structure RfIn (B : Nat) (w : World) (r : Nat) (V : Nat → Value) (R : Nat → List Nd) : Prop where
  own : Blk w r [V 0, V 1, V 2] 33
  row : ∀ k, k < 3 → GR nodK B (V k) (R k) w
  ap : ∀ j k, j < 3 → k < 3 → j ≠ k → ∀ q ∈ ownB (V j), q ∉ ownB (V k)
  lb : B ≤ r
def rs (R : Nat → List Nd) : St := ⟨R 0, R 1, R 2⟩
section
variable {B : Nat} {w w' W : World} {r k j n : Nat} {V : Nat → Value} {R : Nat → List Nd} {i : Int} {v : Value} {xs : List Nd}
theorem RfIn.cell (h : RfIn B w r V R) (hk : k < 3) : w.cell? ⟨r, k, none⟩ = some (V k) := h.own.cell (by
  match k, hk with
  | 0, _ => rfl
  | 1, _ => rfl
  | 2, _ => rfl)
theorem RfIn.off (h : RfIn B w r V R) (hk : k < 3) : ∀ q ∈ ownB (V k), q ≠ r := fun q hq e => by
  obtain ⟨c, hc⟩ := (h.row k hk).ty q hq
  have := h.own
  unfold Blk at this
  rw [e, this] at hc
  have e2 : (33 : TypeId) = 59 := by
    simp only [Option.some.injEq, Obj.cells.injEq] at hc
    exact hc.2.1
  exact absurd e2 (by decide)
theorem RfIn.same (h : RfIn B w r V R) (e0 : w'.heap[r]? = w.heap[r]?) (e : ∀ k, k < 3 → ∀ q ∈ ownB (V k), w'.heap[q]? = w.heap[q]?) : RfIn B w' r V R :=
  ⟨h.own.same e0, fun k hk => (h.row k hk).sameB (e k hk), h.ap, h.lb⟩
theorem RfIn.below (h : RfIn B w r V R) (b : Below w.heap.size w w') : RfIn B w' r V R := h.same (b.block r h.own.lt) (fun k hk q hq => b.block q ((h.row k hk).lt q hq).2)
theorem RfIn.offT (h : RfIn B w r V R) (b : OffT w w') : RfIn B w' r V R :=
  h.same (b.2 r _ 33 h.own (by decide) (by decide)) (fun k hk q hq => by obtain ⟨c, hc⟩ := (h.row k hk).ty q hq; exact b.2 q c 59 hc (by decide) (by decide))
/-- One row is another one then. -/
theorem RfIn.turn (h : RfIn B w r V R) (hk : k < 3) (K : Keep (ownB (V k)) w W) (g : GR nodK B v xs W) (ho : ∀ q ∈ ownB v, q ∈ ownB (V k) ∨ w.heap.size ≤ q) : RfIn B (W.setCell ⟨r, k, none⟩ v) r (upV V k v) (upV R k xs) := by
  have rlt := h.own.lt
  have or_ : W.heap[r]? = w.heap[r]? := K.block r rlt (fun hm => h.off hk r hm rfl)
  have ow : Blk W r [V 0, V 1, V 2] 33 := h.own.same or_
  have vr : ∀ q ∈ ownB v, q ≠ r := fun q hq e => by
    rcases ho q hq with h1 | h1
    · exact h.off hk q h1 e
    · omega
  have oth : ∀ j, j < 3 → j ≠ k → GR nodK B (V j) (R j) (W.setCell ⟨r, k, none⟩ v) := fun j hj hjk => (h.row j hj).sameB (fun q hq => by
    rw [blk_setCell_other _ _ _ _ (h.off hj q hq)]
    exact K.block q ((h.row j hj).lt q hq).2 (h.ap j k hj hk hjk q hq))
  refine ⟨?_, fun j hj => ?_, fun i j hi hj hij q hq => ?_, h.lb⟩
  · have := ow.set k v
    have e : [V 0, V 1, V 2].set k v = [upV V k v 0, upV V k v 1, upV V k v 2] := by
      match k, hk with
      | 0, _ => rfl
      | 1, _ => rfl
      | 2, _ => rfl
    rw [e] at this
    exact this
  · by_cases hjk : j = k
    · subst hjk
      rw [upV_same, upV_same]
      exact g.sameB (fun q hq => blk_setCell_other _ _ _ _ (vr q hq))
    · rw [upV_other _ _ hjk, upV_other _ _ hjk]
      exact oth j hj hjk
  · by_cases hik : i = k
    · subst hik
      rw [upV_same] at hq
      rw [upV_other _ _ (fun e => hij e.symm)]
      rcases ho q hq with h1 | h1
      · exact h.ap i j hi hj hij q h1
      · intro hm
        have := ((h.row j hj).lt q hm).2
        omega
    · rw [upV_other _ _ hik] at hq
      by_cases hjk : j = k
      · subst hjk
        rw [upV_same]
        intro hm
        rcases ho q hm with h1 | h1
        · exact h.ap i j hi hj hij q hq h1
        · have := ((h.row i hi).lt q hq).2
          omega
      · rw [upV_other _ _ hjk]
        exact h.ap i j hi hj hij q hq
theorem GR.at0 {g c : Nat} (h : GR nodK B (.slice (some ⟨g, 0, none⟩) n c) xs w) {i : Nat} {x : Nd} (hx : xs[i]? = some x) : w.cell? ⟨g, i * 2, none⟩ = some (.int .i64 x.1) ∧ w.cell? ⟨g, i * 2 + 1, none⟩ = some (.bool x.2) := by
  obtain ⟨g', c', hv, hc, _⟩ := h.cell hx (r := 0) (u := .int .i64 x.1) rfl
  obtain ⟨g2, c2, hv2, hc2, _⟩ := h.cell hx (r := 1) (u := .bool x.2) rfl
  simp only [Value.slice.injEq, Option.some.injEq, Addr.mk.injEq, and_true] at hv hv2
  rw [← hv.1] at hc
  rw [← hv2.1] at hc2
  exact ⟨hc, hc2⟩
theorem GR.form (h : GR nodK B v xs w) (h0 : 0 < xs.length) : ∃ g c, v = .slice (some ⟨g, 0, none⟩) xs.length c := by
  rcases h.row.2 with ⟨_, h1⟩ | ⟨g, cap, cur, hv, _⟩
  · omega
  · exact ⟨g, cap, hv⟩

/-! ### head -/
def HdP (B : Nat) (w : World) (xs : List Nd) (e : Ending) (w' : World) : Prop := ∃ va vc, e = .returned (.slice va xs.length vc) ∧ GR nodK B (.slice va xs.length vc) xs w' ∧ Below w.heap.size w w' ∧ ∀ q ∈ ownB (.slice va xs.length vc), w.heap.size ≤ q
set_option maxHeartbeats 1000000 in
theorem rhead_any (hB : B ≤ w.heap.size) (h : GR nodK B v xs w) (i : Int) (hn : xs.length ≤ 100000) : Calls Try.prog 32 #[v, .int .i64 i] w (HdP B w ((i, false) :: xs)) := by
  obtain ⟨va, vc, W2, hr, hG, hb, hO⟩ := front_g nodK hB (i, false) h.src (by omega)
  obtain ⟨a0, c0, hv⟩ := h.slice
  rw [hv] at hr ⊢
  have HE : Hid (HdP B w ((i, false) :: xs) (.returned (.slice va (xs.length + 1) vc)) W2) := ⟨va, vc, rfl, hG, hb, hO⟩
  have HR : Hid (∀ ty, (Builtin.append_ #[31, 31] ty #[.slice (some ⟨w.heap.size, 0, none⟩) 1 1, .slice a0 xs.length c0]).run Try.prog (w.alloc (.cells #[.int .i64 i, .bool false] 59)) = .ok (.slice va (xs.length + 1) vc) W2) := hr
  clear hr hG hb hO hv h hB
  generalize xs.length = n at *
  go_enter Try.func32, Try.ntmps32
  go_wp2_with (at_builtin; refine Lib.wpList_append_run _ rfl _ _ _ _ rfl _ _ rfl rfl _ _ (HR.out _) ?_)
  go_ret
  exact HE.out
/-! ### Len -/
set_option maxHeartbeats 1000000 in
theorem rlen_any (h : RfIn B w r V R) (hn : (rs R).all.length ≤ 100000) : Calls Try.prog 23 #[.pointer (some ⟨r, 0, none⟩)] w fun e w' => e = .returned (.int .i64 ((rs R).all.length : Int)) ∧ ∃ q, w' = w.drewN q := by
  have c0 := h.cell (k := 0) (by decide)
  have c1 := h.cell (k := 1) (by decide)
  have c2 := h.cell (k := 2) (by decide)
  obtain ⟨a0, d0, e0⟩ := (h.row 0 (by decide)).slice
  obtain ⟨a1, d1, e1⟩ := (h.row 1 (by decide)).slice
  obtain ⟨a2, d2, e2⟩ := (h.row 2 (by decide)).slice
  rw [e0] at c0
  rw [e1] at c1
  rw [e2] at c2
  have hl : (rs R).all.length = (R 0).length + (R 1).length + (R 2).length := by simp [rs, St.all]; omega
  rw [hl] at hn ⊢
  obtain ⟨s1, h1⟩ : ∃ s1, s1 = (R 0).length + (R 1).length := ⟨_, rfl⟩
  obtain ⟨s2, h2⟩ : ∃ s2, s2 = (R 0).length + (R 1).length + (R 2).length := ⟨_, rfl⟩
  rw [← h2] at hn ⊢
  have q1 : IntKind.i64.wrap (((R 0).length : Int) + ((R 1).length : Int)) = (s1 : Int) := by rw [IntKind.wrap_i64]; omega
  have q2 : IntKind.i64.wrap ((s1 : Int) + ((R 2).length : Int)) = (s2 : Int) := by rw [IntKind.wrap_i64]; omega
  have q3 : ((R 0).length : Int) + ((R 1).length : Int) = (s1 : Int) := by omega
  have q4 : (s1 : Int) + ((R 2).length : Int) = (s2 : Int) := by omega
  have q5 : s1 ≤ 100000 := by omega
  clear h e0 e1 e2 hl h1 h2
  generalize (R 0).length = n0 at *
  generalize (R 1).length = n1 at *
  generalize (R 2).length = n2 at *
  go_enter Try.func23, Try.ntmps23
  go_wp2
  go_quiet (fail)
  go_wp2
  go_ret
  exact ⟨rfl, _, rfl⟩
/-! ### all -/
def al3 (r : Nat) : List Value := [.pointer (some ⟨r, 0, none⟩), .pointer (some ⟨r, 1, none⟩), .pointer (some ⟨r, 2, none⟩)]
def alO (r : Nat) : Obj := .cells #[.pointer (some ⟨r, 0, none⟩), .pointer (some ⟨r, 1, none⟩), .pointer (some ⟨r, 2, none⟩)] 62
set_option maxHeartbeats 1000000 in
theorem rall_any (w : World) (r : Nat) : Calls Try.prog 33 #[.pointer (some ⟨r, 0, none⟩)] w fun e w' => e = .returned (.slice (some ⟨w.heap.size, 0, none⟩) 3 3) ∧ w' = w.drew.alloc (alO r) := by
  obtain ⟨A, hA⟩ : ∃ A, A = w.drew := ⟨_, rfl⟩
  obtain ⟨N, hN⟩ : ∃ N, N = w.heap.size := ⟨_, rfl⟩
  have hN2 : N = A.heap.size := by rw [hN, hA]; rfl
  rw [← hA, ← hN]
  have HA : Hid (CC4 A (A.alloc (alO r)) A A 0 { w with drawn := w.drawn + 1 }) := hA.symm
  have HNN := hide hN2
  clear hA hN hN2
  go_enter Try.func33, Try.ntmps33
  go_wp2
  refine wp_region_chain (by kernel_rfl) (by kernel_rfl) (fun jx => ([.pointer (some ⟨r, 0, none⟩), .pointer (some ⟨r, 0, none⟩), .pointer (some ⟨r, 0, none⟩), .pointer (some ⟨r, 0, none⟩), .pointer (some ⟨r, 0, none⟩), .pointer (some ⟨r, 1, none⟩), .pointer (some ⟨r, 0, none⟩), .pointer (some ⟨r, 0, none⟩), .pointer (some ⟨r, 2, none⟩), .slice (some ⟨N, 0, none⟩) 3 3, .slice (some ⟨N, 0, none⟩) 3 3] : List Value).getD jx undef) [9] (by kernel_rfl) (CC4 A (A.alloc (alO r)) A A) (HA.out) ?_ ?_
  · intro jx ox hi sx w' ev hlm hks hc hin hout hcst hfn
    have hltx : jx < 11 := by
      have := (Array.getElem?_eq_some_iff.1 hi).1
      simpa using this
    match jx, hltx with
    | 0, _ =>
      simp only [List.getElem?_toArray, List.getElem?_cons_zero, List.getElem?_cons_succ, Option.some.injEq] at hi
      subst hi
      have e0 : ev (.tmp 0) = .pointer (some ⟨r, 0, none⟩) := hout 0 (by kernel_rfl) (show (0 : Nat) < 13 by decide)
      rw [if_neg (by decide)]
      refine .inl ⟨w', ?_, hc⟩
      show _ = Result.ok (Next.value (.pointer (some ⟨r, 0, none⟩))) w'
      simp [execOp, e0, hcst, go_sem]
    | 1, _ =>
      simp only [List.getElem?_toArray, List.getElem?_cons_zero, List.getElem?_cons_succ, Option.some.injEq] at hi
      subst hi
      have e0 : ev (.tmp 3) = .pointer (some ⟨r, 0, none⟩) := hin 3 0 ⟨0, .data⟩ (by kernel_rfl) (by simp) rfl rfl (show (3 : Nat) < 13 by decide)
      rw [if_neg (by decide)]
      refine .inl ⟨w', ?_, hc⟩
      show _ = Result.ok (Next.value (.pointer (some ⟨r, 0, none⟩))) w'
      simp [execOp, e0, hcst, go_sem]
    | 2, _ =>
      simp only [List.getElem?_toArray, List.getElem?_cons_zero, List.getElem?_cons_succ, Option.some.injEq] at hi
      subst hi
      have e0 : ev (.tmp 4) = .pointer (some ⟨r, 0, none⟩) := hin 4 1 ⟨1, .data⟩ (by kernel_rfl) (by simp) rfl rfl (show (4 : Nat) < 13 by decide)
      rw [if_neg (by decide)]
      refine .inl ⟨w', ?_, hc⟩
      show _ = Result.ok (Next.value (.pointer (some ⟨r, 0, none⟩))) w'
      simp [execOp, e0, hcst, go_sem]
    | 3, _ =>
      simp only [List.getElem?_toArray, List.getElem?_cons_zero, List.getElem?_cons_succ, Option.some.injEq] at hi
      subst hi
      have e0 : ev (.tmp 0) = .pointer (some ⟨r, 0, none⟩) := hout 0 (by kernel_rfl) (show (0 : Nat) < 13 by decide)
      rw [if_neg (by decide)]
      refine .inl ⟨w', ?_, hc⟩
      show _ = Result.ok (Next.value (.pointer (some ⟨r, 0, none⟩))) w'
      simp [execOp, e0, hcst, go_sem]
    | 4, _ =>
      simp only [List.getElem?_toArray, List.getElem?_cons_zero, List.getElem?_cons_succ, Option.some.injEq] at hi
      subst hi
      have e0 : ev (.tmp 6) = .pointer (some ⟨r, 0, none⟩) := hin 6 3 ⟨3, .data⟩ (by kernel_rfl) (by simp) rfl rfl (show (6 : Nat) < 13 by decide)
      rw [if_neg (by decide)]
      refine .inl ⟨w', ?_, hc⟩
      show _ = Result.ok (Next.value (.pointer (some ⟨r, 0, none⟩))) w'
      simp [execOp, e0, hcst, go_sem]
    | 5, _ =>
      simp only [List.getElem?_toArray, List.getElem?_cons_zero, List.getElem?_cons_succ, Option.some.injEq] at hi
      subst hi
      have e0 : ev (.tmp 7) = .pointer (some ⟨r, 0, none⟩) := hin 7 4 ⟨4, .data⟩ (by kernel_rfl) (by simp) rfl rfl (show (7 : Nat) < 13 by decide)
      rw [if_neg (by decide)]
      refine .inl ⟨w', ?_, hc⟩
      show _ = Result.ok (Next.value (.pointer (some ⟨r, 1, none⟩))) w'
      simp [execOp, e0, hcst, go_sem]
    | 6, _ =>
      simp only [List.getElem?_toArray, List.getElem?_cons_zero, List.getElem?_cons_succ, Option.some.injEq] at hi
      subst hi
      have e0 : ev (.tmp 0) = .pointer (some ⟨r, 0, none⟩) := hout 0 (by kernel_rfl) (show (0 : Nat) < 13 by decide)
      rw [if_neg (by decide)]
      refine .inl ⟨w', ?_, hc⟩
      show _ = Result.ok (Next.value (.pointer (some ⟨r, 0, none⟩))) w'
      simp [execOp, e0, hcst, go_sem]
    | 7, _ =>
      simp only [List.getElem?_toArray, List.getElem?_cons_zero, List.getElem?_cons_succ, Option.some.injEq] at hi
      subst hi
      have e0 : ev (.tmp 9) = .pointer (some ⟨r, 0, none⟩) := hin 9 6 ⟨6, .data⟩ (by kernel_rfl) (by simp) rfl rfl (show (9 : Nat) < 13 by decide)
      rw [if_neg (by decide)]
      refine .inl ⟨w', ?_, hc⟩
      show _ = Result.ok (Next.value (.pointer (some ⟨r, 0, none⟩))) w'
      simp [execOp, e0, hcst, go_sem]
    | 8, _ =>
      simp only [List.getElem?_toArray, List.getElem?_cons_zero, List.getElem?_cons_succ, Option.some.injEq] at hi
      subst hi
      have e0 : ev (.tmp 10) = .pointer (some ⟨r, 0, none⟩) := hin 10 7 ⟨7, .data⟩ (by kernel_rfl) (by simp) rfl rfl (show (10 : Nat) < 13 by decide)
      rw [if_neg (by decide)]
      refine .inl ⟨w', ?_, hc⟩
      show _ = Result.ok (Next.value (.pointer (some ⟨r, 2, none⟩))) w'
      simp [execOp, e0, hcst, go_sem]
    | 9, _ =>
      simp only [List.getElem?_toArray, List.getElem?_cons_zero, List.getElem?_cons_succ, Option.some.injEq] at hi
      subst hi
      have e0 : ev (.tmp 5) = .pointer (some ⟨r, 0, none⟩) := hin 5 2 ⟨2, .data⟩ (by kernel_rfl) (by simp) rfl rfl (show (5 : Nat) < 13 by decide)
      have e1 : ev (.tmp 8) = .pointer (some ⟨r, 1, none⟩) := hin 8 5 ⟨5, .data⟩ (by kernel_rfl) (by simp) rfl rfl (show (8 : Nat) < 13 by decide)
      have e2 : ev (.tmp 11) = .pointer (some ⟨r, 2, none⟩) := hin 11 8 ⟨8, .data⟩ (by kernel_rfl) (by simp) rfl rfl (show (11 : Nat) < 13 by decide)
      rw [if_pos (by decide)]
      have hsx : sx = 0 := hks 0 rfl
      subst hsx
      have hw : w' = A := hc
      subst hw
      have q := HNN.out
      refine .inl ⟨_, ?_, rfl⟩
      simp [execOp, e0, e1, e2, hcst, go_sem, q, Result.andThen, alO]
    | 10, _ =>
      simp only [List.getElem?_toArray, List.getElem?_cons_zero, List.getElem?_cons_succ, Option.some.injEq] at hi
      subst hi
      have e0 : ev (.tmp 12) = .slice (some ⟨N, 0, none⟩) 3 3 := hin 12 9 ⟨9, .data⟩ (by kernel_rfl) (by simp) rfl rfl (show (12 : Nat) < 13 by decide)
      rw [if_neg (by decide)]
      refine .inl ⟨w', ?_, hc⟩
      show _ = Result.ok (Next.value (.slice (some ⟨N, 0, none⟩) 3 3)) w'
      simp [execOp, e0, hcst, go_sem]
  · intro w9 hc
    simp only [lexF, Act.put, List.setIfInBounds_toArray, List.set_cons_succ, List.set_cons_zero, List.getD_cons_succ, List.getD_cons_zero]
    have hw : w9 = A.alloc (alO r) := hc
    subst hw
    go_wp2
    go_ret
    exact ⟨rfl, rfl⟩
theorem al_below (w : World) (r : Nat) : Below w.heap.size w (w.drew.alloc (alO r)) := (show Below w.heap.size w w.drew from ⟨rfl, rfl, rfl, Nat.le_refl _, fun _ _ => rfl⟩).alloc (Nat.le_refl _) _
theorem al_cell (w : World) (r : Nat) {k : Nat} (hk : k < 3) : (w.drew.alloc (alO r)).cell? ⟨w.heap.size, k, none⟩ = some (.pointer (some ⟨r, k, none⟩)) := by
  have := Blk.new w.drew (al3 r) 62
  exact this.cell (by
    match k, hk with
    | 0, _ => rfl
    | 1, _ => rfl
    | 2, _ => rfl)

/-! ### has -/
theorem ids_take_step {l : List Nd} {i : Nat} {x : Nd} (hx : l[i]? = some x) : ids (l.take (i + 1)) = ids (l.take i) ++ [x.1] := by
  obtain ⟨h1, h2⟩ := List.getElem?_eq_some_iff.1 hx
  rw [List.take_succ_eq_append_getElem h1, h2]
  simp [ids]
theorem has_in (hk : k < 3) (h : i ∈ ids (R k)) : (rs R).has i = true := by
  unfold St.has rs St.all
  rw [decide_eq_true_eq]
  simp only [ids, List.map_append, List.mem_append] at h ⊢
  match k, hk with
  | 0, _ => exact .inl (.inl h)
  | 1, _ => exact .inl (.inr h)
  | 2, _ => exact .inr h
theorem has_no (h : ∀ k, k < 3 → i ∉ ids (R k)) : (rs R).has i = false := by
  unfold St.has rs St.all
  rw [decide_eq_false_iff_not]
  simp only [ids, List.map_append, List.mem_append]
  rintro ((q | q) | q)
  · exact h 0 (by decide) q
  · exact h 1 (by decide) q
  · exact h 2 (by decide) q
set_option maxHeartbeats 4000000 in
theorem rhas_any (h : RfIn B w r V R) (i : Int) (hn : ∀ k, k < 3 → (R k).length ≤ 100000) : Calls Try.prog 31 #[.pointer (some ⟨r, 0, none⟩), .int .i64 i] w fun e w' => e = .returned (.bool ((rs R).has i)) ∧ Below w.heap.size w w' := by
  have cA := hide (rall_any w r)
  have hW := h.below (al_below w r)
  have HB := hide (al_below w r)
  have HC : Hid (∀ k, k < 3 → (w.drew.alloc (alO r)).cell? ⟨w.heap.size, k, none⟩ = some (.pointer (some ⟨r, k, none⟩))) := fun k hk => al_cell w r hk
  have HH := hide hW
  have HN := hide hn
  clear h hW hn
  obtain ⟨N, hN⟩ : ∃ N, N = w.heap.size := ⟨_, rfl⟩
  rw [← hN] at cA HC
  clear hN
  obtain ⟨W, hW⟩ : ∃ W, W = w.drew.alloc (alO r) := ⟨_, rfl⟩
  rw [← hW] at cA HC HH HB
  clear hW
  go_enter Try.func31, Try.ntmps31
  go_wp2_with fail
  refine cA.out.mono ?_
  rintro e wx ⟨rfl, hx⟩
  obtain rfl : W = wx := hx.symm
  clear hx cA
  go_wp2
  go_loopg [6, 7, 8] 3 (fun kx s6 s7 s8 wr => ∃ (k : Nat), s6 = .int .i64 (k : Int) ∧ wr = W ∧ Hid (k ≤ 3 ∧ 3 - k ≤ kx ∧ ∀ j, j < k → i ∉ ids (R j)))
  case atStart => exact ⟨0, rfl, rfl, by decide, by decide, fun j hj => by omega⟩
  case round =>
    obtain ⟨k, rfl, rfl, I⟩ := hrel
    by_cases hk : k < 3
    · have hk2 : (k : Int) < 3 := by omega
      have k1 := HC.out k hk
      have k2 := HH.out.cell hk
      have hG := HH.out.row k hk
      have hn9 := HN.out k hk
      obtain ⟨va, vc, hv⟩ := hG.slice
      rw [hv] at k2 hG
      have HG := hide hG
      obtain ⟨n, hn⟩ : ∃ n, n = (R k).length := ⟨_, rfl⟩
      rw [← hn] at k2 HG hn9
      have Hn := hide hn
      obtain ⟨k3, hk3⟩ : ∃ k3, k3 = k + 1 := ⟨_, rfl⟩
      have e3 : (k : Int) + 1 = (k3 : Int) := by omega
      have Hk3 := hide hk3
      have Hk := hide hk
      clear hv hG hn hk3
      obtain ⟨wo, hwo⟩ : ∃ wo, wo = wr := ⟨_, rfl⟩
      subst hwo
      go_wp2
      go_loopg [8] n (fun ky s8 wr => ∃ (p : Nat), s8 = .int .i64 (p : Int) ∧ wr = wo ∧ Hid (p ≤ n ∧ n - p ≤ ky ∧ i ∉ ids ((R k).take p)))
      case atStart => exact ⟨0, rfl, rfl, Nat.zero_le _, Nat.le_refl _, by simp [ids]⟩
      case round =>
        obtain ⟨p, rfl, rfl, J⟩ := hrel
        by_cases hp : p < n
        · have hp2 : (p : Int) < (n : Int) := by omega
          have gx := List.getElem?_eq_getElem (l := R k) (i := p) (by rw [← Hn.out]; exact hp)
          obtain ⟨x, hx⟩ : ∃ x, x = (R k)[p]'(by rw [← Hn.out]; exact hp) := ⟨_, rfl⟩
          rw [← hx] at gx
          obtain ⟨g, c, hv⟩ := HG.out.form (by have := Hn.out; omega)
          simp only [Value.slice.injEq] at hv
          obtain ⟨rfl, -, rfl⟩ := hv
          obtain ⟨x0, x1⟩ := HG.out.at0 gx
          have hst := ids_take_step gx
          obtain ⟨p1, hp1⟩ : ∃ p1, p1 = p + 1 := ⟨_, rfl⟩
          have e1 : (p : Int) + 1 = (p1 : Int) := by omega
          have Hp1 := hide hp1
          have Hp := hide hp
          by_cases hxi : x.1 = i
          · have HE : Hid ((rs R).has i = true) := has_in hk (by
              rw [← hxi]
              exact List.mem_map.2 ⟨x, List.mem_of_getElem? gx, rfl⟩)
            rw [hxi] at x0
            clear gx hx hst hp1 hxi J
            go_wp2
            go_ret
            exact ⟨ret_bool HE.out.symm, HB.out⟩
          · have hb : (x.1 == i) = false := by simpa using hxi
            have HJ : Hid (i ∉ ids ((R k).take p1)) := by
              rw [hp1, hst, List.mem_append, not_or]
              exact ⟨J.out.2.2, fun q => hxi (List.mem_singleton.1 q).symm⟩
            clear gx hx hst hp1
            generalize x.1 = xv at *
            go_wp2
            go_roundg (n - p1)
            case measure => have := J.out.2.1; have := Hp1.out; have := Hp.out; omega
            case rel => exact ⟨p1, rfl, rfl, by have := Hp1.out; have := Hp.out; omega, Nat.le_refl _, HJ.out⟩
        · have hp2 : ¬ (p : Int) < (n : Int) := by omega
          have HJ : Hid (∀ j, j < k3 → i ∉ ids (R j)) := fun j hj => by
            by_cases e : j = k
            · subst e
              have := J.out.2.2
              rw [List.take_of_length_le (by have := Hn.out; omega)] at this
              exact this
            · exact I.out.2.2 j (by have := Hk3.out; omega)
          clear hp J
          go_wp2
          go_roundg (3 - k3)
          case measure => have := I.out.2.1; have := Hk3.out; have := Hk.out; omega
          case rel => exact ⟨k3, rfl, rfl, by have := Hk3.out; have := Hk.out; omega, Nat.le_refl _, HJ.out⟩
    · have hk3 : k = 3 := by have := I.out.1; omega
      subst hk3
      have HE : Hid ((rs R).has i = false) := has_no (fun j hj => I.out.2.2 j hj)
      clear hk I
      go_wp2
      go_ret
      exact ⟨ret_bool HE.out.symm, HB.out⟩
/-! ### IDs -/
def IdP (w : World) (B : Nat) (xs : List Int) (e : Ending) (w' : World) : Prop := ∃ va vc, e = .returned (.slice va xs.length vc) ∧ GR intK B (.slice va xs.length vc) xs w' ∧ Below w.heap.size w w'
set_option maxHeartbeats 2000000 in
theorem rids_any (h : GR nodK B v xs w) (n1 : xs.length ≤ 100000) : Calls Try.prog 22 #[v] w (IdP w w.heap.size (ids xs)) := by
  obtain ⟨a, c, hv⟩ := h.slice
  obtain ⟨n, hn⟩ : ∃ n, n = xs.length := ⟨_, rfl⟩
  rw [hv, ← hn] at h
  rw [hv, ← hn]
  rw [← hn] at n1
  have H := hide h
  have HN := hide hn
  clear h hn hv
  go_enter Try.func22, Try.ntmps22
  go_wp2
  go_loopg [3, 4] n (fun kx s3 s4 wr => ∃ (j : Nat) (va : Option Addr) (vc : Nat), s4 = .int .i64 (j : Int) ∧ s3 = .slice va j vc ∧ Hid (j ≤ n ∧ n - j ≤ kx ∧ GR intK w.heap.size (.slice va j vc) (ids (xs.take j)) wr ∧ Below w.heap.size w wr))
  case atStart => exact ⟨0, none, 0, rfl, rfl, Nat.zero_le _, Nat.le_refl _, by simpa [ids] using GR.nil intK _ _, Below.refl _ _⟩
  case round =>
    obtain ⟨j, va, vc, rfl, rfl, I⟩ := hrel
    by_cases hj : j < n
    · have hj2 : (j : Int) < (n : Int) := by omega
      have gx := List.getElem?_eq_getElem (l := xs) (i := j) (by rw [← HN.out]; exact hj)
      obtain ⟨x, hx⟩ : ∃ x, x = xs[j]'(by rw [← HN.out]; exact hj) := ⟨_, rfl⟩
      rw [← hx] at gx
      have hG := H.out.below I.out.2.2.2
      obtain ⟨g, c2, hv⟩ := hG.form (by have := HN.out; omega)
      simp only [Value.slice.injEq] at hv
      obtain ⟨rfl, -, rfl⟩ := hv
      obtain ⟨x0, x1⟩ := hG.at0 gx
      have hst := ids_take_step gx
      have hlj : (ids (xs.take j)).length = j := by simp [ids]; have := HN.out; omega
      obtain ⟨va2, vc2, W2, hrun, hS, hK, hO⟩ := snoc_g I.out.2.2.1 I.out.2.2.2.size x.1 (by rw [hlj]; omega)
      rw [hlj] at hrun hS
      have hB2 : Below w.heap.size w W2 := I.out.2.2.2.trans (hK.below (fun q hq => (I.out.2.2.1.lt q hq).1) I.out.2.2.2.size)
      obtain ⟨j1, hj1⟩ : ∃ j1, j1 = j + 1 := ⟨_, rfl⟩
      have e1 : (j : Int) + 1 = (j1 : Int) := by omega
      have HJ := hide hj1
      have Hj := hide hj
      rw [← hj1] at hrun hS
      have HS : Hid (j1 ≤ n ∧ n - j1 ≤ n - j1 ∧ GR intK w.heap.size (.slice va2 j1 vc2) (ids (xs.take j1)) W2 ∧ Below w.heap.size w W2) := ⟨by omega, Nat.le_refl _, by rw [hj1, hst, ← hj1]; exact hS, hB2⟩
      have HR : Hid (∀ ty, (Builtin.append_ #[36, 36] ty #[.slice va j vc, .slice (some ⟨wr.heap.size, 0, none⟩) 1 1]).run Try.prog (wr.alloc (.cells #[.int .i64 x.1] 3)) = .ok (.slice va2 j1 vc2) W2) := hrun
      have HL := hide I.out.2.1
      clear hx gx hG hst hlj hrun hS hK hO hB2 hj1 I x1
      generalize x.1 = xv at *
      go_wp2_with (at_builtin; refine Lib.wpList_append_run _ rfl _ _ _ _ rfl _ _ rfl rfl _ _ (HR.out _) ?_)
      go_roundg (n - j1)
      case measure => have := HL.out; have := HJ.out; have := Hj.out; omega
      case rel => exact ⟨j1, va2, vc2, rfl, rfl, HS.out⟩
    · have hj2 : ¬ (j : Int) < (n : Int) := by omega
      have HE : Hid (IdP w w.heap.size (ids xs) (.returned (.slice va j vc)) wr) := by
        obtain ⟨i1, i2, i3, i4⟩ := I.out
        have e : j = (ids xs).length := by simp [ids]; have := HN.out; omega
        rw [List.take_of_length_le (by have := HN.out; omega)] at i3
        rw [e] at i3 ⊢
        exact ⟨va, vc, rfl, i3, i4⟩
      clear I hj
      go_wp2
      go_ret
      exact HE.out
end
end Go.Proofs.Ytgjgdhjnkbbceaa
