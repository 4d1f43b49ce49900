/- The document's move and old. -/
import Derived.Test.YtkjfildnemgbiaaRf3
set_option linter.unusedVariables false
set_option linter.unusedSimpArgs false
set_option maxRecDepth 8000
namespace Go.Proofs.Ytkjfildnemgbiaa
open Go.RowKit Go.Deep Go.Shelf Math Tab Go.Sort

def rpush (nw : Ch) (k : List UInt8) : Ch := nw.set (hsh k % nw.length) (k :: nw.getD (hsh k % nw.length) [])
theorem rpush_len (nw : Ch) (k : List UInt8) : (rpush nw k).length = nw.length := by simp [rpush]
theorem rfold_len (c : List (List UInt8)) (nw : Ch) : (c.foldl rpush nw).length = nw.length := by
  induction c generalizing nw with
  | nil => rfl
  | cons e c ih => rw [List.foldl_cons, ih, rpush_len]
theorem rpush_flat (nw : Ch) (k : List UInt8) (h : 1 ≤ nw.length) : (rpush nw k).flatten.length = nw.flatten.length + 1 := by
  obtain ⟨R, h1, h2⟩ := flat_perm (getD_some (l := nw) (i := hsh k % nw.length) (Nat.mod_lt _ h))
  unfold rpush
  rw [(h2 _).length_eq, h1.length_eq]
  simp only [List.length_append, List.length_cons]
  omega
theorem mem_flat_le {nw : Ch} {ss : List (List UInt8)} (h : ss ∈ nw) : ss.length ≤ nw.flatten.length := by
  obtain ⟨i, hi⟩ := List.getElem?_of_mem h
  obtain ⟨R, h1, _⟩ := flat_perm hi
  rw [h1.length_eq, List.length_append]; omega
section
variable {B : Nat} {w w' : World} {f nb ob nx : Nat} {vN vO : List Value} {nw od : Ch} {kv vv : Value} {ks : List (List UInt8)} {vs : List Int} {key : List UInt8}
/-- The first old bucket that is left is let go. -/
theorem RfIn.pop {c : List (List UInt8)} {r : Ch} (h : RfIn B w f nb ob nx vN vO nw (c :: r) kv vv ks vs) {W : World} (hf : Blk W f [.slice (some ⟨nb, 0, none⟩) nw.length nw.length, sl2 ob (nx + 1 + r.length), .int .i64 ((nx + 1 : Nat) : Int), kv, vv] 43)
    (ho : Blk W ob (vO.set nx (.slice none 0 0)) 29) (oth : ∀ b, b ≠ f → b ≠ ob → W.heap[b]? = w.heap[b]?) : RfIn B W f nb ob (nx + 1) vN (vO.set nx (.slice none 0 0)) nw r kv vv ks vs := by
  have h0 : 0 < nx + (c :: r).length := by simp only [List.length_cons]; omega
  have hO := h.rO h0
  have ks2 : ∀ {v : Value} {ss : List (List UInt8)}, SR B v ss w → SR B v ss W := fun hS => hS.sameB (fun q hq => by
    obtain ⟨_, c, hc⟩ := own_ty hS.row hq
    exact oth q (fun e => h.own.not_ty (e ▸ hc) (by decide) rfl) (fun e => hO.not_ty (e ▸ hc) (by decide) rfl))
  have e1 : nx + 1 + r.length = nx + (c :: r).length := by simp; omega
  refine ⟨hf, h.rN.same (oth nb (h.rN.ty_ne h.own (by decide)) (h.ne h0)), h.lN, fun i ss hs => ?_, fun _ => ho, fun _ => h.ne h0, by rw [List.length_set, h.lO, e1], fun i hi => ?_, fun i ss hs => ?_, ks2 h.kk, h.kn.same (fun q hq => ?_), h.lf, h.lb, fun _ => h.lo h0⟩
  · obtain ⟨v, h1, h2, h3⟩ := h.eN i ss hs
    exact ⟨v, h1, ks2 h2, h3⟩
  · rw [List.getElem?_set]
    by_cases e : nx = i
    · rw [if_pos e, if_pos (by rw [h.lO]; simp only [List.length_cons]; omega)]
    · rw [if_neg e]; exact h.zO i (by omega)
  · obtain ⟨v, h1, h2, h3⟩ := h.eO (i + 1) ss (by simpa using hs)
    refine ⟨v, ?_, ks2 h2, h3⟩
    rw [List.getElem?_set, if_neg (by omega), show nx + 1 + i = nx + (i + 1) by omega]
    exact h1
  · obtain ⟨_, c, hc⟩ := own_ty h.kn.row hq
    exact oth q (fun e => h.own.not_ty (e ▸ hc) (by decide) rfl) (fun e => hO.not_ty (e ▸ hc) (by decide) rfl)
set_option maxHeartbeats 4000000 in
theorem rmove_any (h : RfIn B w f nb ob nx vN vO nw od kv vv ks vs) (hB : B ≤ w.heap.size) (n1 : 1 ≤ nw.length) (n9 : nw.length ≤ 131072) (m9 : nx + od.length ≤ 131072) (t9 : nw.flatten.length + od.flatten.length ≤ 1000) (hk : ∀ c ∈ od, ∀ k ∈ c, k.length ≤ maxLen) :
    Calls Try.prog 36 #[.pointer (some ⟨f, 0, none⟩)] w fun e w' => e = .returned (.tuple #[]) ∧
      ∃ vN' vO', RfIn B w' f nb ob (if od.length = 0 then nx else nx + 1) vN' vO' ((od.head?.getD []).foldl rpush nw) od.tail kv vv ks vs ∧ Keep [f, nb, ob] w w' := by
  cases od with
  | nil =>
    have c1 := h.own.cell (i := 1) rfl
    have c2 := h.own.cell (i := 2) rfl
    obtain ⟨a, ha⟩ := sl2_is ob (nx + ([] : Ch).length)
    rw [ha] at c1
    simp only [List.length_nil, Nat.add_zero] at c1
    have Hh := hide h
    simp only [List.length_nil, if_true, List.head?_nil, Option.getD_none, List.foldl_nil, List.tail_nil]
    have q1 : (nx : Int) ≤ (nx : Int) := Int.le_refl _
    clear h ha hk t9 hB n1 n9
    go_enter Try.func36, Try.ntmps36
    go_wp2
    go_quiet (fail)
    go_wp2
    (try simp only [Exit.inBlock, Exit.then])
    refine bodyPost_ret (results_none rfl _ _ _) rfl ?_
    exact ⟨rfl, vN, vO, Hh.out.drewN _, ⟨rfl, rfl, rfl, Nat.le_refl _, fun _ _ _ => rfl⟩⟩
  | cons c r =>
    have h0 : 0 < nx + (c :: r).length := by simp only [List.length_cons]; omega
    have c1 := h.own.cell (i := 1) rfl
    have c2 := h.own.cell (i := 2) rfl
    rw [sl2_pos _ _ h0] at c1
    obtain ⟨v, hv, hvS, hvX⟩ := h.eO 0 c rfl
    obtain ⟨va, vc, hvs⟩ := hvS.slice
    have hO := h.rO h0
    have co := hO.cell hv
    rw [Nat.add_zero] at co hv
    rw [hvs] at co hvS hvX
    obtain ⟨N, hN⟩ : ∃ N, N = nx + (c :: r).length := ⟨_, rfl⟩
    have hnx : nx < N := by rw [hN]; simp only [List.length_cons]; omega
    have HNX := hide hnx
    have nxl : ¬ (N : Int) ≤ (nx : Int) := by omega
    have nxl2 : (N ≤ nx) = False := eq_false (by omega)
    rw [← hN] at c1 m9
    have Hh := hide h
    have HvS := hide hvS
    have hfo : f ≠ ob := h.own.ty_ne hO (by decide)
    have htot : nw.flatten.length + c.length + r.flatten.length ≤ 1000 := by simp only [List.flatten_cons, List.length_append] at t9; omega
    have HT := hide htot
    have HKl : Hid (∀ k ∈ c, k.length ≤ maxLen) := hk c (by simp)
    have e1 : (if (c :: r).length = 0 then nx else nx + 1) = nx + 1 := by simp
    rw [e1]
    simp only [List.head?_cons, Option.getD_some, List.tail_cons]
    obtain ⟨m, hm⟩ : ∃ m, m = c.length := ⟨_, rfl⟩
    rw [← hm] at co HvS
    have HM := hide hm
    have m8 : m ≤ 1000 := by omega
    have HN := hide hN
    clear h hv hvS hvX hvs hO htot hk t9 hm hN e1
    go_enter Try.func36, Try.ntmps36
    go_wp2
    go_quiet (fail)
    have d1 : (w.drewN nq).cell? ⟨f, 1, none⟩ = some (.slice (some ⟨ob, 0, none⟩) N N) := by rw [World.cell?_drewN]; exact c1
    have d2 : (w.drewN nq).cell? ⟨f, 2, none⟩ = some (.int .i64 (nx : Int)) := by rw [World.cell?_drewN]; exact c2
    have d3 : (w.drewN nq).cell? ⟨ob, nx, none⟩ = some (.slice va m vc) := by rw [World.cell?_drewN]; exact co
    obtain ⟨W1, hW⟩ : ∃ W1, W1 = w.drewN nq := ⟨_, rfl⟩
    rw [← hW] at d1 d2 d3 ⊢
    have HW := hide hW
    clear hW
    go_wp2
    go_quiet (fail)
    have f1 : (W1.drewN nq).cell? ⟨f, 1, none⟩ = some (.slice (some ⟨ob, 0, none⟩) N N) := by rw [World.cell?_drewN]; exact d1
    have f2 : (W1.drewN nq).cell? ⟨f, 2, none⟩ = some (.int .i64 (nx : Int)) := by rw [World.cell?_drewN]; exact d2
    have f3 : (W1.drewN nq).cell? ⟨ob, nx, none⟩ = some (.slice va m vc) := by rw [World.cell?_drewN]; exact d3
    obtain ⟨W2, hW2⟩ : ∃ W2, W2 = W1.drewN nq := ⟨_, rfl⟩
    rw [← hW2] at f1 f2 f3 ⊢
    have b2 : Below w.heap.size w W2 := by rw [hW2, HW.out]; exact ⟨rfl, rfl, rfl, Nat.le_refl _, fun _ _ => rfl⟩
    clear hW2 d1 d2 d3 c1 c2 co
    go_wp2
    obtain ⟨A, hA⟩ : ∃ A, A = { W2 with drawn := W2.drawn + 1 } := ⟨_, rfl⟩
    have hAh : A.heap = W2.heap := by rw [hA]
    have bA : Below w.heap.size w A := by
      refine b2.trans ?_
      rw [hA]
      exact ⟨rfl, rfl, rfl, Nat.le_refl _, fun _ _ => rfl⟩
    have hh := Hh.out.below bA
    have g1 : A.cell? ⟨f, 1, none⟩ = some (.slice (some ⟨ob, 0, none⟩) N N) := by rw [hA]; exact f1
    have g2 : A.cell? ⟨f, 2, none⟩ = some (.int .i64 (nx : Int)) := by rw [hA]; exact f2
    have g3 : A.cell? ⟨ob, nx, none⟩ = some (.slice va m vc) := by rw [hA]; exact f3
    have HA : Hid (CC4 A (A.setCell ⟨ob, nx, none⟩ (.slice none 0 0)) A A 0 { W2 with drawn := W2.drawn + 1 }) := hA.symm
    have HF : Hid (∀ s W, s ≤ 0 → CC4 A (A.setCell ⟨ob, nx, none⟩ (.slice none 0 0)) A A s W → W.cell? ⟨f, 1, none⟩ = some (.slice (some ⟨ob, 0, none⟩) N N) ∧ W.cell? ⟨f, 2, none⟩ = some (.int .i64 (nx : Int))) := fun s W hs hc => by
      obtain rfl : s = 0 := by omega
      have hc : W = A := hc
      subst hc
      exact ⟨g1, g2⟩
    have HC2 : Hid (A.cell? ⟨ob, nx, none⟩ = some (.slice va m vc) ∧ A.frozen? ⟨ob, nx, none⟩ = false) := ⟨g3, (hh.rO h0).frozen nx⟩
    obtain ⟨D, hD⟩ : ∃ D, D = A.setCell ⟨ob, nx, none⟩ (.slice none 0 0) := ⟨_, rfl⟩
    have j2 : D.cell? ⟨f, 2, none⟩ = some (.int .i64 (nx : Int)) := by
      rw [hD, World.cell?_setCell_other _ _ _ _ (by intro e; injection e with e1; exact hfo (by first | exact e1 | exact e1.symm))]; exact g2
    have j3 : D.frozen? ⟨f, 2, none⟩ = false := by rw [hD, World.frozen?_setCell]; exact hh.own.frozen 2
    have ek : ((nx + 1 : Nat) : Int) = (nx : Int) + 1 := by omega
    have HP : Hid (RfIn B (D.setCell ⟨f, 2, none⟩ (.int .i64 ((nx : Int) + 1))) f nb ob (nx + 1) vN (vO.set nx (.slice none 0 0)) nw r kv vv ks vs ∧ SR B (.slice va m vc) c (D.setCell ⟨f, 2, none⟩ (.int .i64 ((nx : Int) + 1))) ∧ Keep [f, nb, ob] w (D.setCell ⟨f, 2, none⟩ (.int .i64 ((nx : Int) + 1)))) := by
      have oth : ∀ b, b ≠ f → b ≠ ob → (D.setCell ⟨f, 2, none⟩ (.int .i64 ((nx : Int) + 1))).heap[b]? = A.heap[b]? := fun b h1 h2 => by
        rw [blk_setCell_other _ _ _ _ h1, hD, blk_setCell_other _ _ _ _ h2]
      have hOA := hh.rO h0
      refine ⟨hh.pop ?_ ?_ oth, ?_, ?_⟩
      · have := (hh.own.other (a := ⟨ob, nx, none⟩) hfo (.slice none 0 0)).set 2 (.int .i64 ((nx : Int) + 1))
        rw [← hD] at this
        rw [ek, show nx + 1 + r.length = nx + (c :: r).length by simp; omega]
        exact this
      · have := (hOA.set nx (.slice none 0 0)).other (a := ⟨f, 2, none⟩) hfo.symm (.int .i64 ((nx : Int) + 1))
        rw [← hD] at this
        exact this
      · refine (HvS.out.below bA).sameB (fun q hq => ?_)
        obtain ⟨_, cc, hcc⟩ := own_ty (HvS.out.below bA).row hq
        exact oth q (fun e => hh.own.not_ty (e ▸ hcc) (by decide) rfl) (fun e => hOA.not_ty (e ▸ hcc) (by decide) rfl)
      · rw [hD]
        exact ((Keep.of_below (F := [f, nb, ob]) bA).setCell (.inl (by simp)) _).setCell (.inl (by simp)) _
    have hB9 : Hid (B ≤ w.heap.size) := hB
    clear hh g1 g2 g3 hAh bA b2 f1 f2 f3 hB
    refine wp_region_chainp (by kernel_rfl) (by kernel_rfl) (fun jx => ([.pointer (some ⟨f, 0, none⟩), .pointer (some ⟨f, 0, none⟩), .pointer (some ⟨f, 1, none⟩), .slice (some ⟨ob, 0, none⟩) N N, .pointer (some ⟨f, 0, none⟩), .pointer (some ⟨f, 0, none⟩), .pointer (some ⟨f, 2, none⟩), .int .i64 (nx : Int), .pointer (some ⟨ob, nx, none⟩), undef] : List Value).getD jx undef) [9] (by kernel_rfl) (CC4 A (A.setCell ⟨ob, nx, none⟩ (.slice none 0 0)) A A) (HA.out) ?_ ?_
    · intro jx ox hi sx w' ev hlm hks hc hin hout hold hcst hfn
      have hltx : jx < 10 := by
        have := (Array.getElem?_eq_some_iff.1 hi).1
        simpa using this
      match jx, hltx with
      | 0, _ =>
        simp only [List.getElem?_toArray, List.getElem?_cons_zero, List.getElem?_cons_succ, Option.some.injEq] at hi
        subst hi
        have e0 : ev (.tmp 0) = .pointer (some ⟨f, 0, none⟩) := hout 0 (by kernel_rfl) (show (0 : Nat) < 52 by decide)
        rw [if_neg (by decide)]
        refine .inl ⟨w', ?_, hc⟩
        show _ = Result.ok (Next.value (.pointer (some ⟨f, 0, none⟩))) w'
        simp [execOp, e0, hcst, go_sem]
      | 1, _ =>
        simp only [List.getElem?_toArray, List.getElem?_cons_zero, List.getElem?_cons_succ, Option.some.injEq] at hi
        subst hi
        have e0 : ev (.tmp 24) = .pointer (some ⟨f, 0, none⟩) := hin 24 0 ⟨0, .data⟩ (by kernel_rfl) (by simp) rfl rfl (show (24 : Nat) < 52 by decide)
        rw [if_neg (by decide)]
        refine .inl ⟨w', ?_, hc⟩
        show _ = Result.ok (Next.value (.pointer (some ⟨f, 0, none⟩))) w'
        simp [execOp, e0, hcst, go_sem]
      | 2, _ =>
        simp only [List.getElem?_toArray, List.getElem?_cons_zero, List.getElem?_cons_succ, Option.some.injEq] at hi
        subst hi
        have e0 : ev (.tmp 25) = .pointer (some ⟨f, 0, none⟩) := hin 25 1 ⟨1, .data⟩ (by kernel_rfl) (by simp) rfl rfl (show (25 : Nat) < 52 by decide)
        rw [if_neg (by decide)]
        refine .inl ⟨w', ?_, hc⟩
        show _ = Result.ok (Next.value (.pointer (some ⟨f, 1, none⟩))) w'
        simp [execOp, e0, hcst, go_sem]
      | 3, _ =>
        simp only [List.getElem?_toArray, List.getElem?_cons_zero, List.getElem?_cons_succ, Option.some.injEq] at hi
        subst hi
        have e0 : ev (.tmp 26) = .pointer (some ⟨f, 1, none⟩) := hin 26 2 ⟨2, .data⟩ (by kernel_rfl) (by simp) rfl rfl (show (26 : Nat) < 52 by decide)
        rw [if_neg (by decide)]
        refine .inl ⟨w', ?_, hc⟩
        show _ = Result.ok (Next.value (.slice (some ⟨ob, 0, none⟩) N N)) w'
        have hl2 : sx ≤ 0 := Nat.le_trans hlm (Nat.le_of_eq (by kernel_rfl))
        have q := HF.out sx w' (by omega) hc
        simp [execOp, e0, hcst, go_sem, q.1]
      | 4, _ =>
        simp only [List.getElem?_toArray, List.getElem?_cons_zero, List.getElem?_cons_succ, Option.some.injEq] at hi
        subst hi
        have e0 : ev (.tmp 0) = .pointer (some ⟨f, 0, none⟩) := hout 0 (by kernel_rfl) (show (0 : Nat) < 52 by decide)
        rw [if_neg (by decide)]
        refine .inl ⟨w', ?_, hc⟩
        show _ = Result.ok (Next.value (.pointer (some ⟨f, 0, none⟩))) w'
        simp [execOp, e0, hcst, go_sem]
      | 5, _ =>
        simp only [List.getElem?_toArray, List.getElem?_cons_zero, List.getElem?_cons_succ, Option.some.injEq] at hi
        subst hi
        have e0 : ev (.tmp 28) = .pointer (some ⟨f, 0, none⟩) := hin 28 4 ⟨4, .data⟩ (by kernel_rfl) (by simp) rfl rfl (show (28 : Nat) < 52 by decide)
        rw [if_neg (by decide)]
        refine .inl ⟨w', ?_, hc⟩
        show _ = Result.ok (Next.value (.pointer (some ⟨f, 0, none⟩))) w'
        simp [execOp, e0, hcst, go_sem]
      | 6, _ =>
        simp only [List.getElem?_toArray, List.getElem?_cons_zero, List.getElem?_cons_succ, Option.some.injEq] at hi
        subst hi
        have e0 : ev (.tmp 29) = .pointer (some ⟨f, 0, none⟩) := hin 29 5 ⟨5, .data⟩ (by kernel_rfl) (by simp) rfl rfl (show (29 : Nat) < 52 by decide)
        rw [if_neg (by decide)]
        refine .inl ⟨w', ?_, hc⟩
        show _ = Result.ok (Next.value (.pointer (some ⟨f, 2, none⟩))) w'
        simp [execOp, e0, hcst, go_sem]
      | 7, _ =>
        simp only [List.getElem?_toArray, List.getElem?_cons_zero, List.getElem?_cons_succ, Option.some.injEq] at hi
        subst hi
        have e0 : ev (.tmp 30) = .pointer (some ⟨f, 2, none⟩) := hin 30 6 ⟨6, .data⟩ (by kernel_rfl) (by simp) rfl rfl (show (30 : Nat) < 52 by decide)
        rw [if_neg (by decide)]
        refine .inl ⟨w', ?_, hc⟩
        show _ = Result.ok (Next.value (.int .i64 (nx : Int))) w'
        have hl2 : sx ≤ 0 := Nat.le_trans hlm (Nat.le_of_eq (by kernel_rfl))
        have q := HF.out sx w' (by omega) hc
        simp [execOp, e0, hcst, go_sem, q.2]
      | 8, _ =>
        simp only [List.getElem?_toArray, List.getElem?_cons_zero, List.getElem?_cons_succ, Option.some.injEq] at hi
        subst hi
        have e0 : ev (.tmp 27) = .slice (some ⟨ob, 0, none⟩) N N := hin 27 3 ⟨3, .data⟩ (by kernel_rfl) (by simp) rfl rfl (show (27 : Nat) < 52 by decide)
        have e1 : ev (.tmp 31) = .int .i64 (nx : Int) := hin 31 7 ⟨7, .data⟩ (by kernel_rfl) (by simp) rfl rfl (show (31 : Nat) < 52 by decide)
        rw [if_neg (by decide)]
        refine .inl ⟨w', ?_, hc⟩
        show _ = Result.ok (Next.value (.pointer (some ⟨ob, nx, none⟩))) w'
        have q := HNX.out
        simp [execOp, e0, e1, hcst, go_sem, q]
      | 9, _ =>
        simp only [List.getElem?_toArray, List.getElem?_cons_zero, List.getElem?_cons_succ, Option.some.injEq] at hi
        subst hi
        have e0 : ev (.tmp 32) = .pointer (some ⟨ob, nx, none⟩) := hin 32 8 ⟨8, .data⟩ (by kernel_rfl) (by simp) rfl rfl (show (32 : Nat) < 52 by decide)
        rw [if_pos (by decide)]
        have hsx : sx = 0 := hks 0 rfl
        subst hsx
        have hw : w' = A := hc
        subst hw
        refine .inr (.inl ⟨rfl, w'.setCell ⟨ob, nx, none⟩ (.slice none 0 0), ?_, rfl⟩)
        have q1 := HC2.out.1
        have q2 := HC2.out.2
        simp [execOp, e0, hcst, go_sem, q1, q2, Result.andThen]
    · intro w9 hc
      simp only [lexF, Act.put, List.setIfInBounds_toArray, List.set_cons_succ, List.set_cons_zero, List.getD_cons_succ, List.getD_cons_zero]
      have hw : w9 = D := by rw [hD]; exact hc
      subst hw
      clear hD hA HA HF HC2 hc
      go_wp2
      go_loopg [3] m (fun kx s3 wr => ∃ (i : Nat) (vNi : List Value) (nwi : Ch), s3 = .int .i64 i ∧ Hid (i ≤ m ∧ m - i ≤ kx ∧ RfIn B wr f nb ob (nx + 1) vNi (vO.set nx (.slice none 0 0)) nwi r kv vv ks vs ∧ SR B (.slice va m vc) c wr ∧ Keep [f, nb, ob] w wr ∧ nwi = (c.take i).foldl rpush nw ∧ nwi.flatten.length ≤ 1000))
      case atStart => exact ⟨0, vN, nw, rfl, Nat.zero_le _, Nat.le_refl _, HP.out.1, HP.out.2.1, HP.out.2.2, rfl, by have := HT.out; omega⟩
      case round =>
        obtain ⟨i, vNi, nwi, rfl, I⟩ := hrel
        by_cases hlt : i < m
        · have hlt2 : (i : Int) < (m : Int) := by omega
          obtain ⟨i1, i2, i3, i4, i5, i6, i7⟩ := I.out
          have g1 := List.getElem?_eq_getElem (l := c) (i := i) (by rw [← HM.out]; exact hlt)
          obtain ⟨x, hx⟩ : ∃ x, x = c[i]'(by rw [← HM.out]; exact hlt) := ⟨_, rfl⟩
          rw [← hx] at g1
          obtain ⟨b1, o1, hb1, k1⟩ := i4.rd i x g1
          subst hb1
          have hnl : nwi.length = nw.length := by rw [i6, rfold_len]
          have cP := hide (rput_any i3 (Nat.le_trans hB9.out i5.size) x (HKl.out x (List.mem_of_getElem? g1)) (by rw [hnl]; exact n1) (by rw [hnl]; exact n9) (fun ss hs => by have := mem_flat_le hs; omega))
          have HX : Hid (nwi.set (hsh x % nwi.length) (x :: nwi.getD (hsh x % nwi.length) []) = (c.take (i + 1)).foldl rpush nw) := by
            obtain ⟨h1, h2⟩ := List.getElem?_eq_some_iff.1 g1
            unfold Hid
            rw [List.take_succ_eq_append_getElem h1, h2, List.foldl_append, ← i6]
            rfl
          have HFl : Hid ((nwi.set (hsh x % nwi.length) (x :: nwi.getD (hsh x % nwi.length) [])).flatten.length ≤ 1000) := by
            have h1 : (nwi.set (hsh x % nwi.length) (x :: nwi.getD (hsh x % nwi.length) [])).flatten.length = nwi.flatten.length + 1 := rpush_flat nwi x (by rw [hnl]; exact n1)
            have h2 : ∀ j, ((c.take j).foldl rpush nw).flatten.length ≤ nw.flatten.length + j := fun j => by
              induction j with
              | zero => simp
              | succ j ih =>
                by_cases hj : j < c.length
                · rw [List.take_succ_eq_append_getElem hj, List.foldl_append]
                  have := rpush_flat ((c.take j).foldl rpush nw) (c[j]) (by rw [rfold_len]; exact n1)
                  simp only [List.foldl_cons, List.foldl_nil]
                  omega
                · rw [List.take_of_length_le (by omega)] at ih ⊢
                  omega
            have h3 := h2 i
            rw [← i6] at h3
            have := HT.out
            have := HM.out
            unfold Hid
            omega
          have HS : Hid (∀ W, Keep [nb] wr W → SR B (.slice (some ⟨b1, o1, none⟩) m vc) c W ∧ Keep [f, nb, ob] w W) := fun W hK => by
            refine ⟨i4.sameB (fun q hq => ?_), i5.trans hK (fun y hy => .inl (by simp at hy; simp [hy]))⟩
            obtain ⟨_, cc, hcc⟩ := own_ty i4.row hq
            exact hK.block q (Array.getElem?_eq_some_iff.1 hcc).1 (fun hm => by
              simp at hm
              exact i3.rN.not_ty (hm ▸ hcc) (by decide) rfl)
          have hrel_le := i2
          clear I i1 i2 i3 i4 i5 i6 i7 g1 hx hnl
          generalize nwi.set (hsh x % nwi.length) (x :: nwi.getD (hsh x % nwi.length) []) = nwj at *
          generalize txt x = tx at *
          go_wp2_with fail
          refine cP.out.mono ?_
          rintro e w3 ⟨rfl, vNj, h3, k3⟩
          have H3 := hide (And.intro h3 (HS.out w3 k3))
          clear cP h3 k3
          go_wp2
          go_roundg (m - (i + 1))
          case measure => have := hrel_le; omega
          case rel => exact ⟨i + 1, vNj, nwj, rfl, by omega, Nat.le_refl _, H3.out.1, H3.out.2.1, H3.out.2.2, HX.out, HFl.out⟩
        · have hlt2 : ¬ (i : Int) < (m : Int) := by omega
          obtain ⟨i1, i2, i3, i4, i5, i6, i7⟩ := I.out
          have HE : Hid (RfIn B wr f nb ob (nx + 1) vNi (vO.set nx (.slice none 0 0)) (c.foldl rpush nw) r kv vv ks vs ∧ Keep [f, nb, ob] w wr) := by
            rw [List.take_of_length_le (by have := HM.out; omega)] at i6
            rw [← i6]
            exact ⟨i3, i5⟩
          clear I i1 i2 i3 i4 i5 i6 i7
          go_wp2
          go_end0
          first | exact ⟨rfl, _, _, HE.out⟩ | exact ⟨rfl, ⟨_, _, HE.out.1⟩, HE.out.2⟩
end
end Go.Proofs.Ytkjfildnemgbiaa
