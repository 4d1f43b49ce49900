/- Texts joined. -/
import Derived.Test.YtmfjaehajdephabJK
import Derived.Test.YtmfjaehajdephabJL
import Derived.Test.YtmfjaehajdephabJH
import Derived.Test.YtmfjaehajdephabJB
import Derived.Lib.SlBytesConst
/-
  What the laws ask first: the tools.
-/
namespace Go.Proofs.Ytmfjaehajdephab
open Go.Shelf Go.RowKit Go.Deep
set_option linter.unusedVariables false
set_option linter.unusedSimpArgs false
set_option maxRecDepth 1000000

theorem bs_lit (W : World) (l : List UInt8) (C : Array Value) (fz : Nat × Nat) (hC : C = (bC l).toArray) (n : Nat) (hn : n = l.length) : BS (W.alloc (.cells C 5 fz)) (some ⟨W.heap.size, 0, none⟩) n n l := by
  subst hC hn
  refine ⟨rfl, Nat.le_refl _, fun i hi => ⟨W.heap.size, 0, rfl, by rw [nblk_alloc]; omega, ?_⟩⟩
  have e : (bC l)[i]? = some (.int .u8 ((l.getD i 0).toNat : Int)) := by simp [bC, List.getD_eq_getElem?_getD, List.getElem?_eq_getElem hi]
  have hq := heap_alloc_new W (.cells (bC l).toArray 5 fz)
  rw [Nat.zero_add]
  simp only [World.cell?, hq]
  rw [List.getElem?_toArray]
  exact e
/-- A new box and what is put into it. -/
theorem box_put {W : World} {c0 : Cm} {v0 : Value} (c : Cm) (v : Value) : ((W.alloc (cmO c0 v0)).setCells W.heap.size 0 (cmL c v)).heap[W.heap.size]? = some (cmO c v) ∧ Below W.heap.size W ((W.alloc (cmO c0 v0)).setCells W.heap.size 0 (cmL c v)) :=
  ⟨heap_cm (heap_alloc_new _ _) c v, ((Below.refl _ _).alloc (Nat.le_refl _) _).trans ((keep_cm _ _ _ _).below (by simp) (by rw [nblk_alloc]; omega))⟩
/-- A command is put into a box that was just made: what stands behind it asks of the world only what it says. -/
theorem box_step {ops : Array Oper} {rest : List Oper} {op : Oper} {ac : Act} {W : World} {Q : Exit → Act → World → Prop} (r : Cm) (a : Option Addr) (n c : Nat) (hgd : op.guard = none) (x y : Operand) (ho : op.op = .store 33 x y)
    (hx : ac.eval x = .pointer (some ⟨W.heap.size, 0, none⟩)) (hy : ac.eval y = cmV r (.slice a n c))
    (h : ∀ Y : World, Y.heap[W.heap.size]? = some (cmO r (.slice a n c)) → Below W.heap.size W Y → wpList Try.prog ops Q rest (ac.put op.dst undef) Y) : wpList Try.prog ops Q (op :: rest) ac (W.alloc (cmO cmZ (.slice none 0 0))) :=
  store_stepA hgd x y ho W.heap.size hx hy (there_cm (heap_alloc_new W _)) (h _ (box_put r _).1 (box_put r _).2)
theorem load_cm {W : World} {b : Nat} {c : Cm} {v : Value} (h : W.heap[b]? = some (cmO c v)) : (loadVar 33 ⟨b, 0, none⟩).run Try.prog W = .ok (cmV c v) W :=
  run_loadVar_mid W b 0 33 (cmL c v) _ (fun j u hj => by
    have hB : Blk W b (cmL c v) 33 := h
    rw [Nat.zero_add]
    exact hB.cell hj) Try.underlying33 rfl size27
/-- A region that makes a box and puts a command into it. -/
def BxC (X : World) (c : Cm) (kv : Value) : List Value → World → Prop
  | [], W => Below X.heap.size X W
  | [u], W => ∃ q, u = .pointer (some ⟨q, 0, none⟩) ∧ X.heap.size ≤ q ∧ W.heap[q]? = some (cmO cmZ (.slice none 0 0)) ∧ Below X.heap.size X W
  | [u, _], W => ∃ q, u = .pointer (some ⟨q, 0, none⟩) ∧ X.heap.size ≤ q ∧ W.heap[q]? = some (cmO c kv) ∧ Below X.heap.size X W
  | _, _ => False
theorem BxC.bel {X : World} {c : Cm} {kv : Value} {us : List Value} {W : World} (h : BxC X c kv us W) : Below X.heap.size X W := by
  match us, h with
  | [], h => exact h
  | [u], h => obtain ⟨q, _, _, _, h⟩ := h; exact h
  | [u, _], h => obtain ⟨q, _, _, _, h⟩ := h; exact h
theorem BxC.s1 {X : World} {c : Cm} {kv : Value} {us : List Value} {W : World} (h : BxC X c kv us W) (hl : us.length = 0) : BxC X c kv (us ++ [.pointer (some ⟨W.heap.size, 0, none⟩)]) (W.alloc (cmO cmZ (.slice none 0 0))) := by
  match us, h with
  | [], h =>
    have h2 : Below X.heap.size X W := h
    exact ⟨W.heap.size, rfl, h2.size, heap_alloc_new _ _, h2.alloc h2.size _⟩
theorem BxC.s2 {X : World} {c : Cm} {a : Option Addr} {n cc : Nat} {us : List Value} {W : World} (h : BxC X c (.slice a n cc) us W) (hl : us.length = 1) :
    ∃ q W', us.getD 0 undef = .pointer (some ⟨q, 0, none⟩) ∧ (storeVar 33 ⟨q, 0, none⟩ (cmV c (.slice a n cc))).run Try.prog W = .ok () W' ∧ BxC X c (.slice a n cc) (us ++ [undef]) W' := by
  match us, h with
  | [u], h =>
    obtain ⟨q, rfl, h1, h2, h3⟩ := h
    exact ⟨q, _, rfl, store_run W q h2 c a n cc, q, rfl, h1, heap_cm h2 _ _, below_cm h3 h1 _ _⟩
theorem BxC.done {X : World} {c : Cm} {kv : Value} {us : List Value} {W : World} (h : BxC X c kv us W) (hl : us.length = 2) :
    ∃ q u2, us = [.pointer (some ⟨q, 0, none⟩), u2] ∧ X.heap.size ≤ q ∧ W.heap[q]? = some (cmO c kv) ∧ Below X.heap.size X W := by
  match us, h with
  | [u, u2], h =>
    obtain ⟨q, rfl, h1, h2, h3⟩ := h
    exact ⟨q, u2, rfl, h1, h2, h3⟩
end Go.Proofs.Ytmfjaehajdephab

/-
  What the laws ask first.
-/
namespace Go.Proofs.Ytmfjaehajdephab
open Go.Shelf Go.RowKit Go.Deep
set_option linter.unusedVariables false
set_option linter.unusedSimpArgs false
set_option maxRecDepth 1000000

abbrev aw0 : List UInt8 := [103, 101, 116, 32, 97, 13, 10, 115, 101, 116, 32, 97, 32, 48, 32, 48, 32, 50, 13, 10, 104, 105, 13, 10, 119, 104, 97, 116, 10]
def awC1 : Cm := ⟨⟨#[103, 101, 116]⟩, ⟨#[]⟩, [⟨#[97]⟩], ⟨#[]⟩, 0, 0, 0, 0, false, false, false, false⟩
def awC2 : Cm := ⟨⟨#[115, 116, 111, 114, 101]⟩, ⟨#[115, 101, 116]⟩, [⟨#[97]⟩], ⟨#[104, 105]⟩, 0, 0, 0, 0, false, false, false, false⟩
def awC3 : Cm := badV ⟨#[69, 82, 82, 79, 82]⟩
theorem aw_n1 : nextP oneP (St.app ⟨[], false, none⟩ aw0) = (some awC1, ⟨aw0.drop 7, false, none⟩) := by kernel_rfl
theorem aw_n2 : nextP oneP ⟨aw0.drop 7, false, none⟩ = (some awC2, ⟨aw0.drop 24, false, none⟩) := by kernel_rfl
theorem aw_n3 : nextP oneP ⟨aw0.drop 24, false, none⟩ = (some awC3, ⟨[], false, none⟩) := by kernel_rfl
theorem aw_n4 : nextP oneP ⟨[], false, none⟩ = (none, ⟨[], false, none⟩) := by kernel_rfl









def awC6 : Cm := ⟨⟨#[103, 101, 116]⟩, ⟨#[]⟩, [⟨#[97]⟩, ⟨#[98]⟩], ⟨#[]⟩, 0, 0, 0, 0, false, false, false, false⟩
theorem aw_o6 : oneB ⟨#[103, 101, 116, 32, 97, 32, 98]⟩ = (awC6, none) := by kernel_rfl


set_option maxHeartbeats 8000000 in
theorem awake_any (w : World) : Calls Try.prog 6 #[] w fun e w' => e = .returned (.bool true) ∧ Below w.heap.size w w' := by
  have kc := fun (w : World) (C : Array Value) (n c : Nat) => Lib.run_convert_bytes_const (P := Try.prog) w 26 5 C n c Try.underlying26 Try.underlying5
  go_enter Try.func6, Try.ntmps6
  go_wp2_with fail
  refine (new_l w.heap.size w (Nat.le_refl _)).mono ?_
  rintro e W0 ⟨rfl, P, B⟩
  obtain ⟨p, hp⟩ : ∃ p, p = w.heap.size := ⟨_, rfl⟩
  have HP := hide hp
  rw [← hp] at P B ⊢
  clear hp
  go_wp2_with fail
  have S : p ≤ W0.heap.size := by have := B.size; have := HP.out; omega
  have BL := (Below.refl _ _).alloc (Nat.le_refl W0.heap.size) (.cells (bC aw0).toArray 5 (29, 30))
  refine (feed_l p _ p _ _ 0 (P.later BL) (by rw [nblk_alloc]; omega) ⟨W0.heap.size, 0, none⟩ 29 29 aw0 (bs_lit W0 aw0 _ (29, 30) (by kernel_rfl) 29 rfl) (by omega)).mono ?_
  rintro e W1 ⟨v, rfl, M⟩
  replace B := (P.later BL).below (B.trans (BL.mono S)) (by rw [nblk_alloc]; omega) M.keep
  replace S : p ≤ W1.heap.size := Nat.le_trans S (Nat.le_trans (by rw [nblk_alloc]; omega) M.keep.size)
  replace P := M.pl
  clear M BL
  go_wp2_with fail
  have Q : Calls Try.prog 10 #[.pointer (some ⟨p, 0, none⟩)] W1 (NxL p W1 p v awC1 true ⟨aw0.drop 7, false, none⟩ 29) := by
    have Q := next_l p W1 p v _ 29 P S (by decide)
    rw [aw_n1] at Q
    exact Q
  refine Q.mono ?_
  clear Q
  rintro e W2 ⟨a1, n1, q1, v1, rfl, R1, M⟩
  replace B := P.below B S M.keep
  replace S : p ≤ W2.heap.size := Nat.le_trans S M.keep.size
  replace P := M.pl
  clear M
  simp only []
  iterate 13 go_step
  refine box_step awC1 a1 n1 q1 rfl _ _ rfl rfl rfl ?_
  intro Y1 X1 BX
  replace R1 := R1.later BX
  replace P := P.later BX
  replace B := B.trans (BX.mono S)
  replace S : p ≤ Y1.heap.size := Nat.le_trans S BX.size
  clear BX
  go_wp2_with fail
  have Q : Calls Try.prog 10 #[.pointer (some ⟨p, 0, none⟩)] Y1 (NxL p Y1 p v1 awC2 true ⟨aw0.drop 24, false, none⟩ 29) := by
    have Q := next_l p Y1 p v1 _ 29 P S (by decide)
    rw [aw_n2] at Q
    exact Q
  refine Q.mono ?_
  clear Q
  rintro e W3 ⟨a2, n2, q2, v2, rfl, R2, M⟩
  replace X1 := keep_at P.at_ M.keep X1 (by decide) (by decide)
  replace R1 := keep_rowP P.at_ M.keep R1
  replace B := P.below B S M.keep
  replace S : p ≤ W3.heap.size := Nat.le_trans S M.keep.size
  replace P := M.pl
  clear M
  simp only []
  iterate 13 go_step
  refine box_step awC2 a2 n2 q2 rfl _ _ rfl rfl rfl ?_
  intro Y2 X2 BX
  replace X1 := (BX.block _ (lt_of_at _ ⟨_, X1⟩)).trans X1
  replace R1 := R1.later BX
  replace R2 := R2.later BX
  replace P := P.later BX
  replace B := B.trans (BX.mono S)
  replace S : p ≤ Y2.heap.size := Nat.le_trans S BX.size
  clear BX
  go_wp2_with fail
  have Q : Calls Try.prog 10 #[.pointer (some ⟨p, 0, none⟩)] Y2 (NxL p Y2 p v2 awC3 true ⟨[], false, none⟩ 29) := by
    have Q := next_l p Y2 p v2 _ 29 P S (by decide)
    rw [aw_n3] at Q
    exact Q
  refine Q.mono ?_
  clear Q
  rintro e W4 ⟨a3, n3, q3, v3, rfl, R3, M⟩
  replace X1 := keep_at P.at_ M.keep X1 (by decide) (by decide)
  replace R1 := keep_rowP P.at_ M.keep R1
  replace X2 := keep_at P.at_ M.keep X2 (by decide) (by decide)
  replace R2 := keep_rowP P.at_ M.keep R2
  replace B := P.below B S M.keep
  replace S : p ≤ W4.heap.size := Nat.le_trans S M.keep.size
  replace P := M.pl
  clear M
  simp only []
  iterate 13 go_step
  refine box_step awC3 a3 n3 q3 rfl _ _ rfl rfl rfl ?_
  intro Y3 X3 BX
  replace X1 := (BX.block _ (lt_of_at _ ⟨_, X1⟩)).trans X1
  replace R1 := R1.later BX
  replace X2 := (BX.block _ (lt_of_at _ ⟨_, X2⟩)).trans X2
  replace R2 := R2.later BX
  replace R3 := R3.later BX
  replace P := P.later BX
  replace B := B.trans (BX.mono S)
  replace S : p ≤ Y3.heap.size := Nat.le_trans S BX.size
  clear BX
  go_wp2_with fail
  have Q : Calls Try.prog 10 #[.pointer (some ⟨p, 0, none⟩)] Y3 (NxL p Y3 p v3 cmZ false ⟨[], false, none⟩ 29) := by
    have Q := next_l p Y3 p v3 _ 29 P S (by decide)
    rw [aw_n4] at Q
    exact Q
  refine Q.mono ?_
  clear Q
  rintro e W5 ⟨a4, n4, q4, v4, rfl, R4, M⟩
  replace X1 := keep_at P.at_ M.keep X1 (by decide) (by decide)
  replace R1 := keep_rowP P.at_ M.keep R1
  replace X2 := keep_at P.at_ M.keep X2 (by decide) (by decide)
  replace R2 := keep_rowP P.at_ M.keep R2
  replace X3 := keep_at P.at_ M.keep X3 (by decide) (by decide)
  replace R3 := keep_rowP P.at_ M.keep R3
  replace B := P.below B S M.keep
  replace S : p ≤ W5.heap.size := Nat.le_trans S M.keep.size
  replace P := M.pl
  clear M
  simp only []
  iterate 13 go_step
  refine box_step cmZ a4 n4 q4 rfl _ _ rfl rfl rfl ?_
  intro Y4 X4 BX
  replace X1 := (BX.block _ (lt_of_at _ ⟨_, X1⟩)).trans X1
  replace R1 := R1.later BX
  replace X2 := (BX.block _ (lt_of_at _ ⟨_, X2⟩)).trans X2
  replace R2 := R2.later BX
  replace X3 := (BX.block _ (lt_of_at _ ⟨_, X3⟩)).trans X3
  replace R3 := R3.later BX
  replace R4 := R4.later BX
  replace P := P.later BX
  replace B := B.trans (BX.mono S)
  replace S : p ≤ Y4.heap.size := Nat.le_trans S BX.size
  clear BX
  go_wp2
  refine wp_region_liy (by kernel_rfl) (by kernel_rfl) (fun jx => ([cmV awC1 (.slice a1 n1 q1), .pointer (some ⟨W2.heap.size, 0, none⟩), .string ⟨#[103, 101, 116]⟩, .bool true, undef, undef, .bool true] : List Value).getD jx undef) [4, 5] (by kernel_rfl) (by decide) (by decide) (BxC Y4 awC1 (.slice a1 n1 q1)) ((Below.refl _ _).drew) ?_ ?_
  · intro jx ox hi us w' ev hc hul hbef haft hin hout hold hcst hfn
    have hltx : jx < 7 := by
      have := (Array.getElem?_eq_some_iff.1 hi).1
      simpa using this
    match jx, hltx with
    | 0, _ =>
      simp only [List.getElem?_toArray, List.getElem?_cons_zero, List.getElem?_cons_succ, Option.some.injEq] at hi
      subst hi
      have ha1 : us.length ≤ 1 := haft 1 5 rfl (by kernel_rfl)
      have e0 : ev (.tmp 2) = .pointer (some ⟨W2.heap.size, 0, none⟩) := hout 2 (by kernel_rfl) (show (2 : Nat) < 111 by decide)
      refine ⟨fun mx hmx => absurd hmx (by simp [zpos]), fun _ => ?_⟩
      have q1 : w'.heap[W2.heap.size]? = some (cmO awC1 (.slice a1 n1 q1)) := (hc.bel.block _ (lt_of_at _ ⟨_, X1⟩)).trans X1
      have q2 := load_cm q1
      simp only [execOp, e0, Instr.loadAt, Instr.sureAddr, Sem.run_bind, Sem.run_pure, Result.andThen_ok, q2]
      rfl
    | 1, _ =>
      simp only [List.getElem?_toArray, List.getElem?_cons_zero, List.getElem?_cons_succ, Option.some.injEq] at hi
      subst hi
      have e0 : ev (.tmp 2) = .pointer (some ⟨W2.heap.size, 0, none⟩) := hout 2 (by kernel_rfl) (show (2 : Nat) < 111 by decide)
      refine ⟨fun mx hmx => absurd hmx (by simp [zpos]), fun _ => ?_⟩
      simp [execOp, e0, hcst, go_sem]
    | 2, _ =>
      simp only [List.getElem?_toArray, List.getElem?_cons_zero, List.getElem?_cons_succ, Option.some.injEq] at hi
      subst hi
      have e0 : ev (.tmp 44) = .pointer (some ⟨W2.heap.size, 0, none⟩) := hin 44 1 ⟨1, .data⟩ (by kernel_rfl) (by simp) rfl rfl (show (44 : Nat) < 111 by decide)
      refine ⟨fun mx hmx => absurd hmx (by simp [zpos]), fun _ => ?_⟩
      have q1 : w'.heap[W2.heap.size]? = some (cmO awC1 (.slice a1 n1 q1)) := (hc.bel.block _ (lt_of_at _ ⟨_, X1⟩)).trans X1
      have q2 : w'.cell? ⟨W2.heap.size, 0, none⟩ = some (.string ⟨#[103, 101, 116]⟩) := (CmAt.of q1).c0
      simp [execOp, e0, hcst, go_sem, q2]
    | 3, _ =>
      simp only [List.getElem?_toArray, List.getElem?_cons_zero, List.getElem?_cons_succ, Option.some.injEq] at hi
      subst hi
      have e0 : ev (.tmp 45) = .string ⟨#[103, 101, 116]⟩ := hin 45 2 ⟨2, .data⟩ (by kernel_rfl) (by simp) rfl rfl (show (45 : Nat) < 111 by decide)
      refine ⟨fun mx hmx => absurd hmx (by simp [zpos]), fun _ => ?_⟩
      simp [execOp, e0, hcst, go_sem]
    | 4, _ =>
      simp only [List.getElem?_toArray, List.getElem?_cons_zero, List.getElem?_cons_succ, Option.some.injEq] at hi
      subst hi
      have ha1 : us.length ≤ 1 := haft 1 5 rfl (by kernel_rfl)
      refine ⟨fun mx hmx hus => ?_, fun hno => absurd hno (by decide)⟩
      obtain rfl : 0 = mx := Option.some.inj hmx
      refine .inl (.inl ⟨_, _, ?_, BxC.s1 hc hus⟩)
      simp [execOp, hcst, go_sem, cmZ]
    | 5, _ =>
      simp only [List.getElem?_toArray, List.getElem?_cons_zero, List.getElem?_cons_succ, Option.some.injEq] at hi
      subst hi
      have hb0 : 0 < us.length := hbef 0 4 rfl (by kernel_rfl)
      have e0 : ev (.tmp 10) = us.getD 0 undef := hin 10 4 ⟨4, .data⟩ (by kernel_rfl) (by simp) rfl rfl (show (10 : Nat) < 111 by decide)
      have e1 : ev (.tmp 43) = cmV awC1 (.slice a1 n1 q1) := hin 43 0 ⟨0, .data⟩ (by kernel_rfl) (by simp) rfl rfl (show (43 : Nat) < 111 by decide)
      refine ⟨fun mx hmx hus => ?_, fun hno => absurd hno (by decide)⟩
      obtain rfl : 1 = mx := Option.some.inj hmx
      obtain ⟨q, W', q3, q4, q5⟩ := BxC.s2 hc hus
      rw [q3] at e0
      refine .inr ⟨W', ?_, q5⟩
      simp only [execOp, e0, e1, Instr.storeAt, Instr.sureAddr, Sem.run_bind, Sem.run_pure, Result.andThen_ok, q4]
    | 6, _ =>
      simp only [List.getElem?_toArray, List.getElem?_cons_zero, List.getElem?_cons_succ, Option.some.injEq] at hi
      subst hi
      have hb0 : 0 < us.length := hbef 0 4 rfl (by kernel_rfl)
      have hb1 : 1 < us.length := hbef 1 5 rfl (by kernel_rfl)
      have e0 : ev (.tmp 46) = .bool true := hin 46 3 ⟨3, .data⟩ (by kernel_rfl) (by simp) rfl rfl (show (46 : Nat) < 111 by decide)
      refine ⟨fun mx hmx => absurd hmx (by simp [zpos]), fun _ => ?_⟩
      simp [execOp, e0, hcst, go_sem]
  · intro us Y5 husl hc
    obtain ⟨b5, u5, rfl, l5, X5, BX⟩ := BxC.done hc husl
    rw [lexF_same (V' := fun jx => ([cmV awC1 (.slice a1 n1 q1), .pointer (some ⟨W2.heap.size, 0, none⟩), .string ⟨#[103, 101, 116]⟩, .bool true, (.pointer (some ⟨b5, 0, none⟩)), u5, .bool true] : List Value).getD jx undef) _ 0 _ (fun jx _ hj => by
      have hlt : jx < 7 := by simpa using hj
      match jx, hlt with
      | 0, _ => rfl
      | 1, _ => rfl
      | 2, _ => rfl
      | 3, _ => rfl
      | 4, _ => rfl
      | 5, _ => rfl
      | 6, _ => rfl)]
    simp only [lexF, Act.put, List.setIfInBounds_toArray, List.set_cons_succ, List.set_cons_zero, List.getD_cons_succ, List.getD_cons_zero]
    clear hc husl X4 R4
    replace X1 := (BX.block _ (lt_of_at _ ⟨_, X1⟩)).trans X1
    replace X2 := (BX.block _ (lt_of_at _ ⟨_, X2⟩)).trans X2
    replace X3 := (BX.block _ (lt_of_at _ ⟨_, X3⟩)).trans X3
    replace R1 := R1.later BX
    replace R2 := R2.later BX
    replace R3 := R3.later BX
    replace P := P.later BX
    replace B := B.trans (BX.mono S)
    replace S : p ≤ Y5.heap.size := Nat.le_trans S BX.size
    clear BX
    go_wp2_with fail
    have Q : Calls Try.prog 17 #[.string ⟨#[103, 101, 116, 32, 97, 32, 98]⟩] Y5 (OneR Y5 awC6 (-1)) := by
      have Q := one_any ⟨#[103, 101, 116, 32, 97, 32, 98]⟩ Y5 (by decide)
      rw [aw_o6] at Q
      exact Q
    refine Q.mono ?_
    clear Q
    rintro e W6 ⟨a6, n6, q6, rfl, R6, BX⟩
    replace X1 := (BX.block _ (lt_of_at _ ⟨_, X1⟩)).trans X1
    replace X2 := (BX.block _ (lt_of_at _ ⟨_, X2⟩)).trans X2
    replace X3 := (BX.block _ (lt_of_at _ ⟨_, X3⟩)).trans X3
    replace X5 := (BX.block _ (lt_of_at _ ⟨_, X5⟩)).trans X5
    replace R1 := R1.later BX
    replace R2 := R2.later BX
    replace R3 := R3.later BX
    replace P := P.later BX
    replace B := B.trans (BX.mono S)
    replace S : p ≤ W6.heap.size := Nat.le_trans S BX.size
    clear BX
    simp only []
    iterate 13 go_step
    refine box_step awC6 a6 n6 q6 rfl _ _ rfl rfl rfl ?_
    intro Y6 X6 BX
    replace X1 := (BX.block _ (lt_of_at _ ⟨_, X1⟩)).trans X1
    replace X2 := (BX.block _ (lt_of_at _ ⟨_, X2⟩)).trans X2
    replace X3 := (BX.block _ (lt_of_at _ ⟨_, X3⟩)).trans X3
    replace X5 := (BX.block _ (lt_of_at _ ⟨_, X5⟩)).trans X5
    replace R1 := R1.later BX
    replace R2 := R2.later BX
    replace R3 := R3.later BX
    replace R6 := R6.later BX
    replace P := P.later BX
    replace B := B.trans (BX.mono S)
    replace S : p ≤ Y6.heap.size := Nat.le_trans S BX.size
    clear BX
    go_wp2
    refine wp_region_liy (by kernel_rfl) (by kernel_rfl) (fun jx => ([cmV awC6 (.slice a6 n6 q6), .pointer (some ⟨W6.heap.size, 0, none⟩), .string ⟨#[103, 101, 116]⟩, .bool true, undef, undef, .bool true] : List Value).getD jx undef) [4, 5] (by kernel_rfl) (by decide) (by decide) (BxC Y6 awC6 (.slice a6 n6 q6)) ((Below.refl _ _).drew) ?_ ?_
    · intro jx ox hi us w' ev hc hul hbef haft hin hout hold hcst hfn
      have hltx : jx < 7 := by
        have := (Array.getElem?_eq_some_iff.1 hi).1
        simpa using this
      match jx, hltx with
      | 0, _ =>
        simp only [List.getElem?_toArray, List.getElem?_cons_zero, List.getElem?_cons_succ, Option.some.injEq] at hi
        subst hi
        have ha1 : us.length ≤ 1 := haft 1 5 rfl (by kernel_rfl)
        have e0 : ev (.tmp 12) = .pointer (some ⟨W6.heap.size, 0, none⟩) := hout 12 (by kernel_rfl) (show (12 : Nat) < 111 by decide)
        refine ⟨fun mx hmx => absurd hmx (by simp [zpos]), fun _ => ?_⟩
        have q1 : w'.heap[W6.heap.size]? = some (cmO awC6 (.slice a6 n6 q6)) := (hc.bel.block _ (lt_of_at _ ⟨_, X6⟩)).trans X6
        have q2 := load_cm q1
        simp only [execOp, e0, Instr.loadAt, Instr.sureAddr, Sem.run_bind, Sem.run_pure, Result.andThen_ok, q2]
        rfl
      | 1, _ =>
        simp only [List.getElem?_toArray, List.getElem?_cons_zero, List.getElem?_cons_succ, Option.some.injEq] at hi
        subst hi
        have e0 : ev (.tmp 12) = .pointer (some ⟨W6.heap.size, 0, none⟩) := hout 12 (by kernel_rfl) (show (12 : Nat) < 111 by decide)
        refine ⟨fun mx hmx => absurd hmx (by simp [zpos]), fun _ => ?_⟩
        simp [execOp, e0, hcst, go_sem]
      | 2, _ =>
        simp only [List.getElem?_toArray, List.getElem?_cons_zero, List.getElem?_cons_succ, Option.some.injEq] at hi
        subst hi
        have e0 : ev (.tmp 52) = .pointer (some ⟨W6.heap.size, 0, none⟩) := hin 52 1 ⟨1, .data⟩ (by kernel_rfl) (by simp) rfl rfl (show (52 : Nat) < 111 by decide)
        refine ⟨fun mx hmx => absurd hmx (by simp [zpos]), fun _ => ?_⟩
        have q1 : w'.heap[W6.heap.size]? = some (cmO awC6 (.slice a6 n6 q6)) := (hc.bel.block _ (lt_of_at _ ⟨_, X6⟩)).trans X6
        have q2 : w'.cell? ⟨W6.heap.size, 0, none⟩ = some (.string ⟨#[103, 101, 116]⟩) := (CmAt.of q1).c0
        simp [execOp, e0, hcst, go_sem, q2]
      | 3, _ =>
        simp only [List.getElem?_toArray, List.getElem?_cons_zero, List.getElem?_cons_succ, Option.some.injEq] at hi
        subst hi
        have e0 : ev (.tmp 53) = .string ⟨#[103, 101, 116]⟩ := hin 53 2 ⟨2, .data⟩ (by kernel_rfl) (by simp) rfl rfl (show (53 : Nat) < 111 by decide)
        refine ⟨fun mx hmx => absurd hmx (by simp [zpos]), fun _ => ?_⟩
        simp [execOp, e0, hcst, go_sem]
      | 4, _ =>
        simp only [List.getElem?_toArray, List.getElem?_cons_zero, List.getElem?_cons_succ, Option.some.injEq] at hi
        subst hi
        have ha1 : us.length ≤ 1 := haft 1 5 rfl (by kernel_rfl)
        refine ⟨fun mx hmx hus => ?_, fun hno => absurd hno (by decide)⟩
        obtain rfl : 0 = mx := Option.some.inj hmx
        refine .inl (.inl ⟨_, _, ?_, BxC.s1 hc hus⟩)
        simp [execOp, hcst, go_sem, cmZ]
      | 5, _ =>
        simp only [List.getElem?_toArray, List.getElem?_cons_zero, List.getElem?_cons_succ, Option.some.injEq] at hi
        subst hi
        have hb0 : 0 < us.length := hbef 0 4 rfl (by kernel_rfl)
        have e0 : ev (.tmp 14) = us.getD 0 undef := hin 14 4 ⟨4, .data⟩ (by kernel_rfl) (by simp) rfl rfl (show (14 : Nat) < 111 by decide)
        have e1 : ev (.tmp 51) = cmV awC6 (.slice a6 n6 q6) := hin 51 0 ⟨0, .data⟩ (by kernel_rfl) (by simp) rfl rfl (show (51 : Nat) < 111 by decide)
        refine ⟨fun mx hmx hus => ?_, fun hno => absurd hno (by decide)⟩
        obtain rfl : 1 = mx := Option.some.inj hmx
        obtain ⟨q, W', q3, q4, q5⟩ := BxC.s2 hc hus
        rw [q3] at e0
        refine .inr ⟨W', ?_, q5⟩
        simp only [execOp, e0, e1, Instr.storeAt, Instr.sureAddr, Sem.run_bind, Sem.run_pure, Result.andThen_ok, q4]
      | 6, _ =>
        simp only [List.getElem?_toArray, List.getElem?_cons_zero, List.getElem?_cons_succ, Option.some.injEq] at hi
        subst hi
        have hb0 : 0 < us.length := hbef 0 4 rfl (by kernel_rfl)
        have hb1 : 1 < us.length := hbef 1 5 rfl (by kernel_rfl)
        have e0 : ev (.tmp 54) = .bool true := hin 54 3 ⟨3, .data⟩ (by kernel_rfl) (by simp) rfl rfl (show (54 : Nat) < 111 by decide)
        refine ⟨fun mx hmx => absurd hmx (by simp [zpos]), fun _ => ?_⟩
        simp [execOp, e0, hcst, go_sem]
    · intro us Y7 husl hc
      obtain ⟨b7, u7, rfl, l7, X7, BX⟩ := BxC.done hc husl
      rw [lexF_same (V' := fun jx => ([cmV awC6 (.slice a6 n6 q6), .pointer (some ⟨W6.heap.size, 0, none⟩), .string ⟨#[103, 101, 116]⟩, .bool true, (.pointer (some ⟨b7, 0, none⟩)), u7, .bool true] : List Value).getD jx undef) _ 0 _ (fun jx _ hj => by
        have hlt : jx < 7 := by simpa using hj
        match jx, hlt with
        | 0, _ => rfl
        | 1, _ => rfl
        | 2, _ => rfl
        | 3, _ => rfl
        | 4, _ => rfl
        | 5, _ => rfl
        | 6, _ => rfl)]
      simp only [lexF, Act.put, List.setIfInBounds_toArray, List.set_cons_succ, List.set_cons_zero, List.getD_cons_succ, List.getD_cons_zero]
      clear hc husl
      obtain rfl : n1 = 1 := R1.at_.len
      obtain rfl : n2 = 1 := R2.at_.len
      obtain rfl : n3 = 0 := R3.at_.len
      obtain rfl : n6 = 2 := R6.at_.len
      obtain ⟨ba, oa, xa, rfl, hx, hxs, hbl, hcl⟩ := R1.at_.key 0 (by decide)
      obtain rfl := (Option.some.inj hx : (⟨#[97]⟩ : ByteArray) = xa)
      rw [Nat.add_zero] at hcl
      clear hx hxs
      replace X1 := (BX.block _ (lt_of_at _ ⟨_, X1⟩)).trans X1
      replace X2 := (BX.block _ (lt_of_at _ ⟨_, X2⟩)).trans X2
      replace X3 := (BX.block _ (lt_of_at _ ⟨_, X3⟩)).trans X3
      replace X5 := (BX.block _ (lt_of_at _ ⟨_, X5⟩)).trans X5
      replace R1 := R1.later BX
      replace R2 := R2.later BX
      replace R3 := R3.later BX
      replace P := P.later BX
      replace B := B.trans (BX.mono S)
      replace S : p ≤ Y7.heap.size := Nat.le_trans S BX.size
      replace hcl := (World.cell?_of_block (BX.block _ hbl)).trans hcl
      replace hbl := Nat.lt_of_lt_of_le hbl BX.size
      clear BX
      have f5 := (CmAt.of X5).c2
      have f7 := (CmAt.of X7).c2
      obtain ⟨g0, g1, g2, g3, g4, g5, g6, g7, g8, g9, g10, g11⟩ := CmAt.of X2
      go_wp2_with fail
      refine (cmd_any Y7 a2 1 q2 awC2 R2.at_ (by decide)).mono ?_
      rintro e Y8 ⟨ac, cc, rfl, RC, BX⟩
      clear g0 g1 g2 g3 g4 g5 g6 g7 g8 g9 g10 g11 f5 f7 X6 R6 X1 X2 R1 R2 X5
      replace X3 := (BX.block _ (lt_of_at _ ⟨_, X3⟩)).trans X3
      replace X7 := (BX.block _ (lt_of_at _ ⟨_, X7⟩)).trans X7
      replace R3 := R3.later BX
      replace P := P.later BX
      replace B := B.trans (BX.mono S)
      replace S : p ≤ Y8.heap.size := Nat.le_trans S BX.size
      clear BX hcl hbl
      go_wp2_with fail
      have BX := (Below.refl Y8.heap.size Y8).alloc (Nat.le_refl _) (.cells #[.string ⟨#[97]⟩] 9)
      have R9 := one_strs Y8 ⟨#[97]⟩ (by decide)
      refine (same_any (Y8.alloc (.cells #[.string ⟨#[97]⟩] 9)) awC2 ac (some ⟨Y8.heap.size, 0, none⟩) 1 cc 1 (RC.later BX) R9 (by decide)).mono ?_
      rintro e Y9 ⟨rfl, BY⟩
      replace BX := BX.trans (BY.mono BX.size)
      clear BY R9 RC
      replace X3 := (BX.block _ (lt_of_at _ ⟨_, X3⟩)).trans X3
      replace X7 := (BX.block _ (lt_of_at _ ⟨_, X7⟩)).trans X7
      replace R3 := R3.later BX
      replace P := P.later BX
      replace B := B.trans (BX.mono S)
      replace S : p ≤ Y9.heap.size := Nat.le_trans S BX.size
      clear BX
      obtain ⟨g0, g1, g2, g3, g4, g5, g6, g7, g8, g9, g10, g11⟩ := CmAt.of X3
      go_wp2_with fail
      refine (is_any Y9 ⟨#[69, 82, 82, 79, 82]⟩ a3 q3).mono ?_
      rintro e Z1 ⟨rfl, BX⟩
      clear g0 g1 g2 g3 g4 g5 g6 g7 g8 g9 g10 g11
      replace X7 := (BX.block _ (lt_of_at _ ⟨_, X7⟩)).trans X7
      replace P := P.later BX
      replace B := B.trans (BX.mono S)
      replace S : p ≤ Z1.heap.size := Nat.le_trans S BX.size
      clear BX X3 R3
      have f7 := (CmAt.of X7).c2
      go_wp2_with fail
      refine (waits_any Z1 p v4 _ 29 P.at_ (by decide)).mono ?_
      rintro e Z2 ⟨rfl, m, rfl⟩
      have B2 : Below w.heap.size w (Z1.drewN m) := by
        rw [← HP.out]
        exact B.trans (below_drewN _ _ _)
      clear B S P X7 f7
      go_wp2
      go_ret
      exact ⟨rfl, B2⟩
end Go.Proofs.Ytmfjaehajdephab
