/- The numbers of the lists, told; rows compared; a row without a number. -/
import Derived.Test.YtdkiegkgnimapabDoorSg5
import Derived.Test.YtdkiegkgnimapabDoorRw
import Derived.LaidEqlPtr
import Derived.Deep.QuietTactic
import Derived.BigQuiet
import Derived.Lib.AppendZeros
import Derived.WalkSmall
set_option linter.unusedVariables false
set_option linter.unusedSimpArgs false
set_option maxRecDepth 8000
namespace Go.Proofs.YtdkiegkgnimapabDoor.Sgg
open Go.RowKit Go.Deep Sgm Go.Shelf
theorem enter34 (args : Array Value) (w : World) : (callFunc 52 args).run Tryd.prog w = .ok (.enter 52 args) w := enters_of Tryd.func52 (by kernel_rfl) rfl args w
theorem info48 : ∃ j, Tryd.prog.info? 91 = some j ∧ j.size ≠ 0 := by
  have h : (Tryd.prog.info? 91).map (fun i => decide (i.size ≠ 0)) = some true := by kernel_rfl
  obtain ⟨i0, hi0, hp0⟩ := Option.map_eq_some_iff.1 h
  exact ⟨i0, hi0, by simpa using hp0⟩
theorem neq_same (W : World) (a : Addr) : (binOp .neq 89 (.pointer (some a)) (.pointer (some a))).run Tryd.prog W = .ok (.bool false) W := by
  obtain ⟨j, hj, hsz⟩ := info48
  have h : ∀ d : Nat, (Go.Op.equalIn (d + 1) 89 (.pointer (some a)) (.pointer (some a))).run Tryd.prog W = .ok true W := fun d => by
    simp [Go.Op.equalIn, run_underlying Tryd.underlying89, sizeOf, typeInfo, hj, run_sameAddr_same]
  simp only [binOp]
  simp [Go.Op.equal, Go.Op.maxDepth, h 9999]
theorem neq_other (W : World) {a b : Addr} {ca cb : Array Value} {ta tb : TypeId} (hne : a ≠ b) (ha : W.heap[a.block]? = some (.cells ca ta (0, 0))) (hb : W.heap[b.block]? = some (.cells cb tb (0, 0))) :
    (binOp .neq 89 (.pointer (some a)) (.pointer (some b))).run Tryd.prog W = .ok (.bool true) W := by
  obtain ⟨j, hj, hsz⟩ := info48
  have h : ∀ d : Nat, (Go.Op.equalIn (d + 1) 89 (.pointer (some a)) (.pointer (some b))).run Tryd.prog W = .ok false W := fun d => by
    simp [Go.Op.equalIn, run_underlying Tryd.underlying89, sizeOf, typeInfo, hj, hsz, run_sameAddr_other W hne ha hb]
  simp only [binOp]
  simp [Go.Op.equal, Go.Op.maxDepth, h 9999]
section
variable {w w' : World} {f m n k j : Nat} {L L' : Nat → List En} {F : List Nat} {A B : List En} {x : En} {M : Int → Option Nat} {i : Int} {b : Nat} {s : St}
theorem Sh.obj {w : World} {b n : Nat} {t : TypeId} (h : Sh w b n t) : ∃ c : Array Value, w.heap[b]? = some (.cells c t (0, 0)) := by
  obtain ⟨X, _, hX⟩ := h
  exact ⟨_, hX⟩
theorem SgIn.on (h : SgIn w f m L F) (b : Below w.heap.size w w') : SgIn w' f m L F := h.sameF (fun q hq => b.block q (h.foot_lt q hq))
theorem nxt_cons (e : En) (r : List En) (P : Pl) : nxt ((e :: r).map pl) P = (e.b, 0) := rfl
theorem ret_sl {a : Option Addr} {n n' c : Nat} (h : n = n') : Ending.returned (.slice a n c) = .returned (.slice a n' c) := by rw [h]
/-- What the lists told. -/
def IdsP (w : World) (n : Nat) (xs : List Int) (w' : World) : Prop := GR intK w.heap.size (.slice (some ⟨w.heap.size, 0, none⟩) n n) xs w' ∧ Below w.heap.size w w' ∧ w'.heap.size = w.heap.size + 1 + n
set_option maxHeartbeats 2000000 in
theorem ids_k (h : SgIn w f m L F) (hk : k < 3) (o : Nat) (ho : o = 6 * k) (hn : (L k).length ≤ 100000) : Calls Tryd.prog 52 #[.pointer (some ⟨f, o, none⟩)] w fun e w' => e = .returned (.slice (some ⟨w.heap.size, 0, none⟩) (L k).length (L k).length) ∧ IdsP w (L k).length ((L k).map En.id) w' := by
  obtain ⟨es, hes⟩ : ∃ es, es = L k := ⟨_, rfl⟩
  have c5 : w.cell? ⟨f, o + 5, none⟩ = some (.int .i64 (es.length : Int)) := by rw [ho, hes]; exact h.cnt k hk
  obtain ⟨W1, hr, hG, hB, hZ⟩ := make_g (B := w.heap.size) (W := w) intK (Nat.le_refl _) es.length (by rw [hes]; omega)
  have hr1 : (Instr.makeSlice 71 (.int .i64 0) (.int .i64 (es.length : Int))).run Tryd.prog w = .ok (.slice (some ⟨w.heap.size, 0, none⟩) 0 es.length) W1 := hr
  have lk : ∀ W, Below w.heap.size w W → Lk W (P3 f k) (es.map pl) (P3 f k) := fun W bW => by rw [hes]; exact (h.on bW).ring k hk
  have c4 : W1.cell? ⟨f, o + 4, none⟩ = some (ptr (nxt (es.map pl) (P3 f k))) := by rw [ho]; exact (lk W1 hB).head.1
  have ndf : ∀ W, Below w.heap.size w W → ∀ e ∈ es, W.cell? ⟨e.b, 0, none⟩ = some (.int .i64 e.id) ∧ ∀ Z : World, Z = W → (binOp .neq 89 (.pointer (some ⟨e.b, 0, none⟩)) (.pointer (some ⟨f, o, none⟩))).run Tryd.prog Z = .ok (.bool true) Z := fun W bW e he => by
    have hW := h.on bW
    rw [hes] at he
    have n1 := hW.node k hk e he
    refine ⟨n1.c0, fun Z hZ => ?_⟩
    subst hZ
    obtain ⟨ca, h1⟩ := n1.sh.obj
    obtain ⟨cb, h2⟩ := hW.own.obj
    exact neq_other Z (fun e1 => hW.off hk he (congrArg Addr.block e1)) h1 h2
  have nx : ∀ W, Below w.heap.size w W → ∀ D e r, es = D ++ e :: r → W.cell? ⟨e.b, 4, none⟩ = some (ptr (nxt (r.map pl) (P3 f k))) := fun W bW D e r hD => by
    have := lk W bW
    rw [hD, List.map_append, List.map_cons] at this
    exact (Lk.app.1 this).2.head.1
  have hP : P3 f k = (f, o) := by rw [ho]; rfl
  rw [hP] at c4 nx
  rw [← hes] at hn ⊢
  obtain ⟨p, hp⟩ : ∃ p, p = nxt (es.map pl) (f, o) := ⟨_, rfl⟩
  rw [← hp] at c4
  simp only [ptr] at c4
  have HP := hide hp
  have HG := hide hG
  have HB := hide hB
  have HZ := hide hZ
  have ND := hide ndf
  have NX := hide nx
  have HN := hide hn
  clear h hk ho hes hr hG hB hZ lk ndf nx hP hp hn
  go_enter Tryd.func52, Tryd.ntmps52
  go_wp2
  go_loopg [3, 4] es.length (fun kx s3 s4 wr => ∃ (D r : List En) (n : Nat), s3 = .slice (some ⟨w.heap.size, 0, none⟩) n es.length ∧ s4 = ptr (nxt (r.map pl) (f, o)) ∧ Hid (n = D.length ∧ es = D ++ r ∧ r.length ≤ kx ∧ GR intK w.heap.size (.slice (some ⟨w.heap.size, 0, none⟩) n es.length) (D.map En.id) wr ∧ Below w.heap.size w wr ∧ wr.heap.size = w.heap.size + 1 + n))
  case atStart => exact ⟨[], es, 0, rfl, by rw [← HP.out]; rfl, rfl, rfl, Nat.le_refl _, HG.out, HB.out, HZ.out⟩
  case round =>
    obtain ⟨D, r, n, rfl, rfl, I⟩ := hrel
    cases r with
    | nil =>
      have hq := neq_same wr ⟨f, o, none⟩
      simp only [List.map_nil, nxt, ptr]
      have HE : Hid (n = es.length ∧ IdsP w es.length (es.map En.id) wr) := by
        obtain ⟨i1, i2, i3, i4, i5, i6⟩ := I.out
        rw [List.append_nil] at i2
        subst i2
        rw [i1] at i4 i6
        exact ⟨i1, i4, i5, i6⟩
      clear I
      go_wp2
      go_ret
      exact ⟨ret_sl HE.out.1, HE.out.2⟩
    | cons e r =>
      simp only [nxt_cons, ptr]
      have he : e ∈ es := by rw [I.out.2.1]; simp
      obtain ⟨k0, kn⟩ := ND.out wr I.out.2.2.2.2.1 e he
      have kne := kn wr rfl
      have hl : (D.map En.id).length = n := by rw [I.out.1]; simp
      have hn9 : es.length = D.length + (r.length + 1) := by rw [I.out.2.1]; simp
      obtain ⟨W2, hrun, hS, hK, hZ2⟩ := snoc_fit I.out.2.2.2.1 I.out.2.2.2.2.1.size e.id hl (by rw [I.out.1, hn9]; omega)
      have hB2 : Below w.heap.size w W2 := I.out.2.2.2.2.1.trans (hK.below (fun q hq => (by rw [List.mem_singleton.1 hq]; exact Nat.le_refl _)) I.out.2.2.2.2.1.size)
      have k4 := NX.out W2 hB2 D e r I.out.2.1
      obtain ⟨p2, hp2⟩ : ∃ p2, p2 = nxt (r.map pl) (f, o) := ⟨_, rfl⟩
      rw [← hp2] at k4
      simp only [ptr] at k4
      have HS : Hid (n + 1 = (D ++ [e]).length ∧ es = (D ++ [e]) ++ r ∧ r.length ≤ r.length ∧ GR intK w.heap.size (.slice (some ⟨w.heap.size, 0, none⟩) (n + 1) es.length) ((D ++ [e]).map En.id) W2 ∧ Below w.heap.size w W2 ∧ W2.heap.size = w.heap.size + 1 + (n + 1)) := ⟨by rw [I.out.1]; simp, by rw [I.out.2.1]; simp, Nat.le_refl _, by simpa using hS, hB2, by rw [hZ2, I.out.2.2.2.2.2]; omega⟩
      have HL : Hid (r.length + 1 ≤ _) := I.out.2.2.1
      have HR : Hid (∀ ty, (Builtin.append_ #[71, 71] ty #[.slice (some ⟨w.heap.size, 0, none⟩) n es.length, .slice (some ⟨wr.heap.size, 0, none⟩) 1 1]).run Tryd.prog (wr.alloc (.cells #[.int .i64 e.id] 3)) = .ok (.slice (some ⟨w.heap.size, 0, none⟩) (n + 1) es.length) W2) := hrun
      have HP2 := hide hp2
      clear he kn hl hn9 hrun hS hK hB2 hp2 I hZ2
      generalize e.id = ei at *
      generalize e.b = eb at *
      generalize es.length = N at *
      go_wp2_with (at_builtin; refine Lib.wpList_append_run _ rfl _ _ _ _ rfl _ _ rfl rfl _ _ (HR.out _) ?_)
      go_roundg r.length
      case measure => have := HL.out; omega
      case rel => exact ⟨D ++ [e], r, n + 1, rfl, by rw [← HP2.out]; rfl, HS.out⟩

/-! ### Lists -/
/-- The world as three calls turn it. -/
def CL3 (A : World) (Q1 Q2 Q3 : World → Prop) (n : Nat) (W : World) : Prop := match n with
  | 0 => W = A
  | 1 => Q1 W
  | 2 => Q2 W
  | _ => Q3 W
def rwV (S n : Nat) : Value := .slice (some ⟨S, 0, none⟩) n n
/-- The three rows that Lists tells. -/
structure LsP (w : World) (s : St) (w' : World) : Prop where
  r0 : GR intK w.heap.size (rwV w.heap.size s.h.length) (ids s.h) w'
  r1 : GR intK w.heap.size (rwV (w.heap.size + 1 + s.h.length) s.w.length) (ids s.w) w'
  r2 : GR intK w.heap.size (rwV (w.heap.size + 1 + s.h.length + 1 + s.w.length) s.c.length) (ids s.c) w'
  bel : Below w.heap.size w w'
theorem ids_kv (l : List En) : ids (l.map kv) = l.map En.id := by simp [ids, kv, Function.comp_def]
theorem _root_.Go.Proofs.YtdkiegkgnimapabDoor.GR.base {α : Type} {K : Kd α} {B B' : Nat} {v : Value} {xs : List α} {W : World} (h : GR K B v xs W) (hb : B' ≤ B) : GR K B' v xs W := by
  refine ⟨⟨h.row.1, ?_⟩⟩
  rcases h.row.2 with h2 | ⟨g, cap, cur, hv, hg, r⟩
  · exact .inl h2
  · exact .inr ⟨g, cap, cur, hv, Nat.le_trans hb hg, r⟩
set_option maxHeartbeats 2000000 in
theorem lists_m (h : SM w f s F) (hn : s.all.length ≤ 100000) : Calls Tryd.prog 30 #[.pointer (some ⟨f, 0, none⟩)] w fun e w' => e = .returned (.tuple #[rwV w.heap.size s.h.length, rwV (w.heap.size + 1 + s.h.length) s.w.length, rwV (w.heap.size + 1 + s.h.length + 1 + s.w.length) s.c.length]) ∧ LsP w s w' := by
  obtain ⟨m, L, M, h1, rfl, rfl⟩ := h
  have hx := h1.sg
  have e0 : (st L).h.length = (L 0).length := by simp [st]
  have e1 : (st L).w.length = (L 1).length := by simp [st]
  have e2 : (st L).c.length = (L 2).length := by simp [st]
  have l0 : (L 0).length ≤ 100000 := Nat.le_trans (row_le (by decide)) hn
  have l1 : (L 1).length ≤ 100000 := Nat.le_trans (row_le (by decide)) hn
  have l2 : (L 2).length ≤ 100000 := Nat.le_trans (row_le (by decide)) hn
  obtain ⟨A, hA⟩ : ∃ A, A = w.drew := ⟨_, rfl⟩
  have hAs : A.heap.size = w.heap.size := by rw [hA]; rfl
  have bA : Below w.heap.size w A := by rw [hA]; exact ⟨rfl, rfl, rfl, Nat.le_refl _, fun _ _ => rfl⟩
  obtain ⟨S0, hS0⟩ : ∃ S0, S0 = w.heap.size := ⟨_, rfl⟩
  obtain ⟨n0, hn0⟩ : ∃ n0, n0 = (L 0).length := ⟨_, rfl⟩
  obtain ⟨n1, hn1⟩ : ∃ n1, n1 = (L 1).length := ⟨_, rfl⟩
  obtain ⟨n2, hn2⟩ : ∃ n2, n2 = (L 2).length := ⟨_, rfl⟩
  obtain ⟨S1, hS1⟩ : ∃ S1, S1 = S0 + 1 + n0 := ⟨_, rfl⟩
  obtain ⟨S2, hS2⟩ : ∃ S2, S2 = S1 + 1 + n1 := ⟨_, rfl⟩
  obtain ⟨Q1, hQ1⟩ : ∃ Q1 : World → Prop, Q1 = fun W => GR intK S0 (rwV S0 n0) ((L 0).map En.id) W ∧ Below S0 w W ∧ W.heap.size = S1 := ⟨_, rfl⟩
  obtain ⟨Q2, hQ2⟩ : ∃ Q2 : World → Prop, Q2 = fun W => GR intK S0 (rwV S0 n0) ((L 0).map En.id) W ∧ GR intK S0 (rwV S1 n1) ((L 1).map En.id) W ∧ Below S0 w W ∧ W.heap.size = S2 := ⟨_, rfl⟩
  obtain ⟨Q3, hQ3⟩ : ∃ Q3 : World → Prop, Q3 = fun W => GR intK S0 (rwV S0 n0) ((L 0).map En.id) W ∧ GR intK S0 (rwV S1 n1) ((L 1).map En.id) W ∧ GR intK S0 (rwV S2 n2) ((L 2).map En.id) W ∧ Below S0 w W := ⟨_, rfl⟩
  have C1 : Hid (Calls Tryd.prog 52 #[.pointer (some ⟨f, 0, none⟩)] A fun e w' => e = .returned (rwV S0 n0) ∧ Q1 w') := by
    refine (ids_k (hx.on bA) (k := 0) (by decide) 0 rfl l0).mono ?_
    rintro e w' ⟨rfl, p1, p2, p3⟩
    rw [hAs, ← hS0, ← hn0] at p1 p3 ⊢
    rw [hAs] at p2
    rw [hQ1]
    exact ⟨rfl, p1, by rw [hS0]; exact bA.trans p2, by rw [hS1]; exact p3⟩
  have C2 : Hid (∀ W, Q1 W → Calls Tryd.prog 52 #[.pointer (some ⟨f, 6, none⟩)] W fun e w' => e = .returned (rwV S1 n1) ∧ Q2 w') := fun W hW => by
    rw [hQ1] at hW
    obtain ⟨g1, g2, g3⟩ := hW
    refine (ids_k (hx.on (by rw [← hS0]; exact g2)) (k := 1) (by decide) 6 rfl l1).mono ?_
    rintro e w' ⟨rfl, p1, p2, p3⟩
    have g1' := g1.below p2
    rw [g3, ← hn1] at p1 p3 ⊢
    rw [g3] at p2
    rw [hQ2]
    refine ⟨rfl, g1', p1.base (by omega), g2.trans (p2.mono (by omega)), by rw [hS2]; exact p3⟩
  have C3 : Hid (∀ W, Q2 W → Calls Tryd.prog 52 #[.pointer (some ⟨f, 12, none⟩)] W fun e w' => e = .returned (rwV S2 n2) ∧ Q3 w') := fun W hW => by
    rw [hQ2] at hW
    obtain ⟨g1, g1b, g2, g3⟩ := hW
    refine (ids_k (hx.on (by rw [← hS0]; exact g2)) (k := 2) (by decide) 12 rfl l2).mono ?_
    rintro e w' ⟨rfl, p1, p2, p3⟩
    have g1' := g1.below p2
    have g2' := g1b.below p2
    rw [g3, ← hn2] at p1 p3 ⊢
    rw [g3] at p2
    rw [hQ3]
    refine ⟨rfl, g1', g2', p1.base (by omega), g2.trans (p2.mono (by omega))⟩
  have HE : Hid (∀ W, Q3 W → LsP w (st L) W) := fun W hW => by
    rw [hQ3] at hW
    obtain ⟨g0, g1, g2, g3⟩ := hW
    have i0 : ids (st L).h = (L 0).map En.id := ids_kv _
    have i1 : ids (st L).w = (L 1).map En.id := ids_kv _
    have i2 : ids (st L).c = (L 2).map En.id := ids_kv _
    refine ⟨?_, ?_, ?_, by rw [← hS0]; exact g3⟩
    · rw [e0, i0, ← hS0, ← hn0]; exact g0
    · rw [e0, e1, i1, ← hS0, ← hn0, ← hn1, ← hS1]; exact g1
    · rw [e0, e1, e2, i2, ← hS0, ← hn0, ← hn1, ← hn2, ← hS1, ← hS2]; exact g2
  rw [e0, e1, e2, ← hS0, ← hn0, ← hn1, ← hn2, ← hS1, ← hS2]
  have HA : Hid (CL3 A Q1 Q2 Q3 0 { w with drawn := w.drawn + 1 }) := hA.symm
  clear h1 hx e0 e1 e2 l0 l1 l2 hA hAs bA hS0 hn0 hn1 hn2 hS1 hS2 hQ1 hQ2 hQ3 hn
  simp only [rwV] at C1 C2 C3 ⊢
  go_enter Tryd.func30, Tryd.ntmps30
  go_wp2
  refine wp_region_chain (by kernel_rfl) (by kernel_rfl) (fun jx => ([.pointer (some ⟨f, 0, none⟩), .pointer (some ⟨f, 0, none⟩), .pointer (some ⟨f, 0, none⟩), .slice (some ⟨S0, 0, none⟩) n0 n0, .pointer (some ⟨f, 0, none⟩), .pointer (some ⟨f, 0, none⟩), .pointer (some ⟨f, 6, none⟩), .slice (some ⟨S1, 0, none⟩) n1 n1, .pointer (some ⟨f, 0, none⟩), .pointer (some ⟨f, 0, none⟩), .pointer (some ⟨f, 12, none⟩), .slice (some ⟨S2, 0, none⟩) n2 n2, .slice (some ⟨S0, 0, none⟩) n0 n0, .slice (some ⟨S1, 0, none⟩) n1 n1, .slice (some ⟨S2, 0, none⟩) n2 n2] : List Value).getD jx undef) [3, 7, 11] (by kernel_rfl) (CL3 A Q1 Q2 Q3) (HA.out) ?_ ?_
  · intro jx ox hi sx w' ev hlm hks hc hin hout hcst hfn
    have hltx : jx < 15 := by
      have := (Array.getElem?_eq_some_iff.1 hi).1
      simpa using this
    match jx, hltx with
    | 0, _ =>
      simp only [List.getElem?_toArray, List.getElem?_cons_zero, List.getElem?_cons_succ, Option.some.injEq] at hi
      subst hi
      have e0 : ev (.tmp 0) = .pointer (some ⟨f, 0, none⟩) := hout 0 (by kernel_rfl) (show (0 : Nat) < 17 by decide)
      rw [if_neg (by decide)]
      refine .inl ⟨w', ?_, hc⟩
      show _ = Result.ok (Next.value (.pointer (some ⟨f, 0, none⟩))) w'
      simp [execOp, e0, hcst, go_sem]
    | 1, _ =>
      simp only [List.getElem?_toArray, List.getElem?_cons_zero, List.getElem?_cons_succ, Option.some.injEq] at hi
      subst hi
      have e0 : ev (.tmp 5) = .pointer (some ⟨f, 0, none⟩) := hin 5 0 ⟨0, .data⟩ (by kernel_rfl) (by simp) rfl rfl (show (5 : Nat) < 17 by decide)
      rw [if_neg (by decide)]
      refine .inl ⟨w', ?_, hc⟩
      show _ = Result.ok (Next.value (.pointer (some ⟨f, 0, none⟩))) w'
      simp [execOp, e0, hcst, go_sem]
    | 2, _ =>
      simp only [List.getElem?_toArray, List.getElem?_cons_zero, List.getElem?_cons_succ, Option.some.injEq] at hi
      subst hi
      have e0 : ev (.tmp 6) = .pointer (some ⟨f, 0, none⟩) := hin 6 1 ⟨1, .data⟩ (by kernel_rfl) (by simp) rfl rfl (show (6 : Nat) < 17 by decide)
      rw [if_neg (by decide)]
      refine .inl ⟨w', ?_, hc⟩
      show _ = Result.ok (Next.value (.pointer (some ⟨f, 0, none⟩))) w'
      simp [execOp, e0, hcst, go_sem]
    | 3, _ =>
      simp only [List.getElem?_toArray, List.getElem?_cons_zero, List.getElem?_cons_succ, Option.some.injEq] at hi
      subst hi
      have e0 : ev (.tmp 7) = .pointer (some ⟨f, 0, none⟩) := hin 7 2 ⟨2, .data⟩ (by kernel_rfl) (by simp) rfl rfl (show (7 : Nat) < 17 by decide)
      rw [if_pos (by decide)]
      have hsx : sx = 0 := hks 0 rfl
      subst hsx
      refine .inr (.inr ⟨52, #[.pointer (some ⟨f, 0, none⟩)], ?_, ?_⟩)
      · have ef := hfn 52
        simp [execOp, resolve, invoke, ef, hcst, e0, Result.andThen]
        exact enter34 _ _
      · have hw : w' = A := hc
        subst hw
        refine C1.out.mono ?_
        rintro e wq ⟨rfl, hq⟩
        exact ⟨rfl, hq⟩
    | 4, _ =>
      simp only [List.getElem?_toArray, List.getElem?_cons_zero, List.getElem?_cons_succ, Option.some.injEq] at hi
      subst hi
      have e0 : ev (.tmp 0) = .pointer (some ⟨f, 0, none⟩) := hout 0 (by kernel_rfl) (show (0 : Nat) < 17 by decide)
      rw [if_neg (by decide)]
      refine .inl ⟨w', ?_, hc⟩
      show _ = Result.ok (Next.value (.pointer (some ⟨f, 0, none⟩))) w'
      simp [execOp, e0, hcst, go_sem]
    | 5, _ =>
      simp only [List.getElem?_toArray, List.getElem?_cons_zero, List.getElem?_cons_succ, Option.some.injEq] at hi
      subst hi
      have e0 : ev (.tmp 9) = .pointer (some ⟨f, 0, none⟩) := hin 9 4 ⟨4, .data⟩ (by kernel_rfl) (by simp) rfl rfl (show (9 : Nat) < 17 by decide)
      rw [if_neg (by decide)]
      refine .inl ⟨w', ?_, hc⟩
      show _ = Result.ok (Next.value (.pointer (some ⟨f, 0, none⟩))) w'
      simp [execOp, e0, hcst, go_sem]
    | 6, _ =>
      simp only [List.getElem?_toArray, List.getElem?_cons_zero, List.getElem?_cons_succ, Option.some.injEq] at hi
      subst hi
      have e0 : ev (.tmp 10) = .pointer (some ⟨f, 0, none⟩) := hin 10 5 ⟨5, .data⟩ (by kernel_rfl) (by simp) rfl rfl (show (10 : Nat) < 17 by decide)
      rw [if_neg (by decide)]
      refine .inl ⟨w', ?_, hc⟩
      show _ = Result.ok (Next.value (.pointer (some ⟨f, 6, none⟩))) w'
      simp [execOp, e0, hcst, go_sem]
    | 7, _ =>
      simp only [List.getElem?_toArray, List.getElem?_cons_zero, List.getElem?_cons_succ, Option.some.injEq] at hi
      subst hi
      have e0 : ev (.tmp 11) = .pointer (some ⟨f, 6, none⟩) := hin 11 6 ⟨6, .data⟩ (by kernel_rfl) (by simp) rfl rfl (show (11 : Nat) < 17 by decide)
      rw [if_pos (by decide)]
      have hsx : sx = 1 := hks 1 rfl
      subst hsx
      refine .inr (.inr ⟨52, #[.pointer (some ⟨f, 6, none⟩)], ?_, ?_⟩)
      · have ef := hfn 52
        simp [execOp, resolve, invoke, ef, hcst, e0, Result.andThen]
        exact enter34 _ _
      · refine (C2.out w' hc).mono ?_
        rintro e wq ⟨rfl, hq⟩
        exact ⟨rfl, hq⟩
    | 8, _ =>
      simp only [List.getElem?_toArray, List.getElem?_cons_zero, List.getElem?_cons_succ, Option.some.injEq] at hi
      subst hi
      have e0 : ev (.tmp 0) = .pointer (some ⟨f, 0, none⟩) := hout 0 (by kernel_rfl) (show (0 : Nat) < 17 by decide)
      rw [if_neg (by decide)]
      refine .inl ⟨w', ?_, hc⟩
      show _ = Result.ok (Next.value (.pointer (some ⟨f, 0, none⟩))) w'
      simp [execOp, e0, hcst, go_sem]
    | 9, _ =>
      simp only [List.getElem?_toArray, List.getElem?_cons_zero, List.getElem?_cons_succ, Option.some.injEq] at hi
      subst hi
      have e0 : ev (.tmp 13) = .pointer (some ⟨f, 0, none⟩) := hin 13 8 ⟨8, .data⟩ (by kernel_rfl) (by simp) rfl rfl (show (13 : Nat) < 17 by decide)
      rw [if_neg (by decide)]
      refine .inl ⟨w', ?_, hc⟩
      show _ = Result.ok (Next.value (.pointer (some ⟨f, 0, none⟩))) w'
      simp [execOp, e0, hcst, go_sem]
    | 10, _ =>
      simp only [List.getElem?_toArray, List.getElem?_cons_zero, List.getElem?_cons_succ, Option.some.injEq] at hi
      subst hi
      have e0 : ev (.tmp 14) = .pointer (some ⟨f, 0, none⟩) := hin 14 9 ⟨9, .data⟩ (by kernel_rfl) (by simp) rfl rfl (show (14 : Nat) < 17 by decide)
      rw [if_neg (by decide)]
      refine .inl ⟨w', ?_, hc⟩
      show _ = Result.ok (Next.value (.pointer (some ⟨f, 12, none⟩))) w'
      simp [execOp, e0, hcst, go_sem]
    | 11, _ =>
      simp only [List.getElem?_toArray, List.getElem?_cons_zero, List.getElem?_cons_succ, Option.some.injEq] at hi
      subst hi
      have e0 : ev (.tmp 15) = .pointer (some ⟨f, 12, none⟩) := hin 15 10 ⟨10, .data⟩ (by kernel_rfl) (by simp) rfl rfl (show (15 : Nat) < 17 by decide)
      rw [if_pos (by decide)]
      have hsx : sx = 2 := hks 2 rfl
      subst hsx
      refine .inr (.inr ⟨52, #[.pointer (some ⟨f, 12, none⟩)], ?_, ?_⟩)
      · have ef := hfn 52
        simp [execOp, resolve, invoke, ef, hcst, e0, Result.andThen]
        exact enter34 _ _
      · refine (C3.out w' hc).mono ?_
        rintro e wq ⟨rfl, hq⟩
        exact ⟨rfl, hq⟩
    | 12, _ =>
      simp only [List.getElem?_toArray, List.getElem?_cons_zero, List.getElem?_cons_succ, Option.some.injEq] at hi
      subst hi
      have e0 : ev (.tmp 8) = .slice (some ⟨S0, 0, none⟩) n0 n0 := hin 8 3 ⟨3, .data⟩ (by kernel_rfl) (by simp) rfl rfl (show (8 : Nat) < 17 by decide)
      rw [if_neg (by decide)]
      refine .inl ⟨w', ?_, hc⟩
      show _ = Result.ok (Next.value (.slice (some ⟨S0, 0, none⟩) n0 n0)) w'
      simp [execOp, e0, hcst, go_sem]
    | 13, _ =>
      simp only [List.getElem?_toArray, List.getElem?_cons_zero, List.getElem?_cons_succ, Option.some.injEq] at hi
      subst hi
      have e0 : ev (.tmp 12) = .slice (some ⟨S1, 0, none⟩) n1 n1 := hin 12 7 ⟨7, .data⟩ (by kernel_rfl) (by simp) rfl rfl (show (12 : Nat) < 17 by decide)
      rw [if_neg (by decide)]
      refine .inl ⟨w', ?_, hc⟩
      show _ = Result.ok (Next.value (.slice (some ⟨S1, 0, none⟩) n1 n1)) w'
      simp [execOp, e0, hcst, go_sem]
    | 14, _ =>
      simp only [List.getElem?_toArray, List.getElem?_cons_zero, List.getElem?_cons_succ, Option.some.injEq] at hi
      subst hi
      have e0 : ev (.tmp 16) = .slice (some ⟨S2, 0, none⟩) n2 n2 := hin 16 11 ⟨11, .data⟩ (by kernel_rfl) (by simp) rfl rfl (show (16 : Nat) < 17 by decide)
      rw [if_neg (by decide)]
      refine .inl ⟨w', ?_, hc⟩
      show _ = Result.ok (Next.value (.slice (some ⟨S2, 0, none⟩) n2 n2)) w'
      simp [execOp, e0, hcst, go_sem]
  · intro w9 hc
    simp only [lexF, Act.put, List.setIfInBounds_toArray, List.set_cons_succ, List.set_cons_zero, List.getD_cons_succ, List.getD_cons_zero]
    have HQ : Hid (LsP w (st L) w9) := HE.out w9 hc
    clear HE hc C1 C2 C3 HA
    go_wp2
    refine bodyPost_ret (v := .tuple #[.slice (some ⟨S0, 0, none⟩) n0 n0, .slice (some ⟨S1, 0, none⟩) n1 n1, .slice (some ⟨S2, 0, none⟩) n2 n2]) (by simp [results, Tryd.results30, go_sem]) rfl ?_
    exact ⟨rfl, HQ.out⟩
end
end Go.Proofs.YtdkiegkgnimapabDoor.Sgg
