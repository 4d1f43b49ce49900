/- A slab in memory: pageFor, Take, Free. -/
import Derived.Test.YtdkiegkgnimapabDoorSl3
set_option linter.unusedVariables false
set_option linter.unusedSimpArgs false
set_option maxRecDepth 8000
namespace Go.Proofs.YtdkiegkgnimapabDoor.Slb
open Go.RowKit Go.Deep Go.Shelf Math

/-- A page as it may be: of none and free, or of a class, with none but the class's chunks taken. -/
def Pg.Ok (p : Pg) : Prop := (p.c = -1 ∧ p.t = 0) ∨ ∃ c : Nat, c < 6 ∧ p.c = (c : Int) ∧ p.t < 2 ^ many c
def Good (l : List Pg) : Prop := ∀ p ∈ l, p.Ok
theorem many_le (c : Nat) : many c ≤ 64 := Nat.div_le_self _ _
theorem many_pos (c : Nat) (h : c < 6) : 2 ≤ many c := by
  rcases (show c = 0 ∨ c = 1 ∨ c = 2 ∨ c = 3 ∨ c = 4 ∨ c = 5 by omega) with rfl | rfl | rfl | rfl | rfl | rfl <;> decide
theorem pow_many (c : Nat) : 2 ^ many c ≤ 18446744073709551616 := Nat.pow_le_pow_right (n := 2) (by decide) (many_le c)
theorem Pg.Ok.fit {p : Pg} (h : p.Ok) : p.t < 18446744073709551616 := by
  rcases h with ⟨_, h⟩ | ⟨c, _, _, h⟩
  · omega
  · have := pow_many c; omega
theorem Good.fit {l : List Pg} (h : Good l) : Fit l := fun p hp => (h p hp).fit
theorem Good.at {l : List Pg} (h : Good l) {i : Nat} {p : Pg} (hp : l[i]? = some p) : p.Ok := h p (List.mem_of_getElem? hp)
theorem Good.set {l : List Pg} (h : Good l) {i : Nat} {p : Pg} (hp : p.Ok) : Good (l.set i p) := fun q hq => by
  rcases List.mem_or_eq_of_mem_set hq with h1 | h1
  · exact h q h1
  · rw [h1]; exact hp

/-- The page on which the next chunk of a class is. -/
def pfor (cl : Nat) (l : List Pg) : Option Nat := (l.findIdx? (owns cl)).or ((l.findIdx? bare).or (l.findIdx? free))
theorem ixI_none {o : Option Nat} : o = none → ixI o = -1 := fun h => by rw [h]; rfl
set_option maxHeartbeats 2000000 in
theorem pageFor_any (f s : Nat) (l : List Pg) (cl : Nat) (hcl : cl < 6) (w : World) (h : SlIn w f s l) (hf : Fit l) (hT : Tab w) :
    Calls Tryd.prog 57 #[.pointer (some ⟨f, 0, none⟩), .int .i64 (cl : Int)] w fun e w' => e = .returned (.int .i64 (ixI (pfor cl l))) ∧ Below w.heap.size w w' := by
  have H := hide h
  have HF := hide hf
  have HT := hide hT
  have c0 := h.own.cell (i := 0) rfl
  obtain ⟨n, hn⟩ : ∃ n, n = l.length := ⟨_, rfl⟩
  rw [← hn] at c0
  have HN := hide hn
  obtain ⟨W1, hW1⟩ : ∃ W1, W1 = w.alloc (.cells #[.int .i64 (cl : Int)] 3) := ⟨_, rfl⟩
  have BW : Hid (Below w.heap.size w W1) := by show Below _ _ _; rw [hW1]; exact (Below.refl _ _).alloc (Nat.le_refl _) _
  have bx : Blk W1 w.heap.size [.int .i64 (cl : Int)] 3 := by rw [hW1]; exact Blk.new _ _ _
  have q1 : Hid (Calls Tryd.prog 74 #[.slice (some ⟨s, 0, none⟩) n n, .func (.func 75) #[] #[.pointer (some ⟨w.heap.size, 0, none⟩)]] W1 fun e w' => e = .returned (.int .i64 (ixI (l.findIdx? (owns cl)))) ∧ Below w.heap.size w w') := by
    have := index31 f s l (owns cl) w.heap.size W1 (h.below BW.out) hf (asks_own cl hcl w.heap.size W1 (hT.later BW.out) (bx.cell (i := 0) rfl))
    rw [← hn] at this
    refine this.mono ?_
    rintro e w2 ⟨rfl, b⟩
    exact ⟨rfl, BW.out.trans (b.mono BW.out.size)⟩
  have q2 : Hid (∀ W, Below w.heap.size w W → Calls Tryd.prog 74 #[.slice (some ⟨s, 0, none⟩) n n, .func (.func 76) #[] #[]] W fun e w' => e = .returned (.int .i64 (ixI (l.findIdx? bare))) ∧ Below w.heap.size w w') := fun W b => by
    have := index32 f s l bare W (h.below b) hf (asks_bare W)
    rw [← hn] at this
    refine this.mono ?_
    rintro e w2 ⟨rfl, b2⟩
    exact ⟨rfl, b.trans (b2.mono b.size)⟩
  have q3 : Hid (∀ W, Below w.heap.size w W → Calls Tryd.prog 74 #[.slice (some ⟨s, 0, none⟩) n n, .func (.func 77) #[] #[]] W fun e w' => e = .returned (.int .i64 (ixI (l.findIdx? free))) ∧ Below w.heap.size w w') := fun W b => by
    have := index33 f s l free W (h.below b) hf (asks_free W)
    rw [← hn] at this
    refine this.mono ?_
    rintro e w2 ⟨rfl, b2⟩
    exact ⟨rfl, b.trans (b2.mono b.size)⟩
  have RD : Hid (∀ W, Below w.heap.size w W → W.cell? ⟨f, 0, none⟩ = some (.slice (some ⟨s, 0, none⟩) n n)) := fun W b => (b.cell (p := ⟨f, 0, none⟩) h.own.lt).trans c0
  have HW1 := hide hW1
  have k1 := RD.out W1 BW.out
  clear hn h hf hT bx
  unfold pfor
  obtain ⟨o1, ho1⟩ : ∃ o, o = l.findIdx? (owns cl) := ⟨_, rfl⟩
  obtain ⟨o2, ho2⟩ : ∃ o, o = l.findIdx? bare := ⟨_, rfl⟩
  obtain ⟨o3, ho3⟩ : ∃ o, o = l.findIdx? free := ⟨_, rfl⟩
  rw [← ho1, ← ho2, ← ho3]
  rw [← ho1] at q1
  rw [← ho2] at q2
  rw [← ho3] at q3
  clear ho1 ho2 ho3 HW1 BW
  subst hW1
  cases o1 with
  | some i =>
    have hi : ((i : Int) == -1) = false := by simp
    have e1 : Hid (ixI ((some i).or (o2.or o3)) = (i : Int)) := rfl
    simp only [ixI] at q1
    go_enter Tryd.func57, Tryd.ntmps57
    go_wp2_with fail
    refine q1.out.mono ?_
    rintro e w2 ⟨rfl, b2⟩
    have B2 := hide b2
    clear q1 b2 q2 q3
    go_wp2
    go_ret
    exact ⟨ret_int e1.out.symm, B2.out⟩
  | none =>
    simp only [ixI] at q1
    cases o2 with
    | some i =>
      have hi : ((i : Int) == -1) = false := by simp
      have e1 : Hid (ixI ((none : Option Nat).or ((some i).or o3)) = (i : Int)) := rfl
      simp only [ixI] at q2
      go_enter Tryd.func57, Tryd.ntmps57
      go_wp2_with fail
      refine q1.out.mono ?_
      rintro e w2 ⟨rfl, b2⟩
      have Q2 := hide (q2.out w2 b2)
      have k2 := RD.out w2 b2
      clear q1 b2 q2 q3 k1
      go_wp2_with fail
      refine Q2.out.mono ?_
      rintro e w3 ⟨rfl, b3⟩
      have B3 := hide b3
      clear Q2 b3
      go_wp2
      go_ret
      exact ⟨ret_int e1.out.symm, B3.out⟩
    | none =>
      have e1 : Hid (ixI ((none : Option Nat).or ((none : Option Nat).or o3)) = ixI o3) := rfl
      simp only [ixI] at q2
      generalize ixI o3 = r at *
      go_enter Tryd.func57, Tryd.ntmps57
      go_wp2_with fail
      refine q1.out.mono ?_
      rintro e w2 ⟨rfl, b2⟩
      have Q2 := hide (q2.out w2 b2)
      have k2 := RD.out w2 b2
      clear q1 b2 q2 k1
      go_wp2_with fail
      refine Q2.out.mono ?_
      rintro e w3 ⟨rfl, b3⟩
      have Q3 := hide (q3.out w3 b3)
      have k3 := RD.out w3 b3
      clear Q2 b3 q3 k2
      go_wp2_with fail
      refine Q3.out.mono ?_
      rintro e w4 ⟨rfl, b4⟩
      have B4 := hide b4
      clear Q3 b4
      go_wp2
      go_ret
      exact ⟨ret_int e1.out.symm, B4.out⟩

/-! ### Take -/
set_option maxHeartbeats 1000000 in
theorem take_bad (f : Nat) (c : Int) (hc : c < 0 ∨ 5 < c) (w : World) :
    Calls Tryd.prog 37 #[.pointer (some ⟨f, 0, none⟩), .int .i64 c] w fun e w' => e = .returned (.tuple #[.int .i64 0, .int .i64 1]) ∧ w' = w := by
  have ci := hide (is_any c w)
  rw [decide_eq_false (show ¬ (0 ≤ c ∧ c < 6) by omega)] at ci
  go_enter Tryd.func37, Tryd.ntmps37
  go_wp2_with fail
  refine ci.out.mono ?_
  rintro e w2 ⟨rfl, h2⟩
  obtain rfl : w = w2 := h2.symm
  clear h2 ci
  go_wp2
  go_ret2
  exact ⟨rfl, rfl⟩
set_option maxHeartbeats 1000000 in
theorem take_full (f s : Nat) (l : List Pg) (cl : Nat) (hcl : cl < 6) (w : World) (h : SlIn w f s l) (hf : Fit l) (hT : Tab w) (hn : pfor cl l = none) :
    Calls Tryd.prog 37 #[.pointer (some ⟨f, 0, none⟩), .int .i64 (cl : Int)] w fun e w' => e = .returned (.tuple #[.int .i64 0, .int .i64 7]) ∧ Below w.heap.size w w' := by
  have ci := hide (is_any (cl : Int) w)
  rw [decide_eq_true (show 0 ≤ (cl : Int) ∧ (cl : Int) < 6 by omega)] at ci
  have cp := hide (pageFor_any f s l cl hcl w h hf hT)
  rw [hn] at cp
  simp only [ixI] at cp
  clear h hf hT hn
  go_enter Tryd.func37, Tryd.ntmps37
  go_wp2_with fail
  refine ci.out.mono ?_
  rintro e w2 ⟨rfl, h2⟩
  obtain rfl : w = w2 := h2.symm
  clear h2 ci
  go_wp2_with fail
  refine cp.out.mono ?_
  rintro e w2 ⟨rfl, h2⟩
  have B := hide h2
  clear h2 cp
  go_wp2
  go_ret2
  exact ⟨rfl, B.out⟩
/-- What Take leaves. -/
def tkn (cl a : Nat) (t : Nat) (l : List Pg) : List Pg := l.set a ⟨(cl : Int), t + 2 ^ lz 64 t⟩
set_option maxHeartbeats 4000000 in
theorem take_ok (f s : Nat) (l : List Pg) (cl : Nat) (hcl : cl < 6) (a : Nat) (p : Pg) (w : World) (h : SlIn w f s l) (hf : Fit l) (hT : Tab w) (hn : pfor cl l = some a) (hp : l[a]? = some p) (hlz : lz 64 p.t < 64) :
    Calls Tryd.prog 37 #[.pointer (some ⟨f, 0, none⟩), .int .i64 (cl : Int)] w fun e w' => e = .returned (.tuple #[.int .i64 ((64 * a + lz 64 p.t : Nat) : Int), .int .i64 0]) ∧ SlIn w' f s (tkn cl a p.t l) ∧ Keep [s] w w' := by
  have ci := hide (is_any (cl : Int) w)
  rw [decide_eq_true (show 0 ≤ (cl : Int) ∧ (cl : Int) < 6 by omega)] at ci
  have cp := hide (pageFor_any f s l cl hcl w h hf hT)
  rw [hn] at cp
  simp only [ixI] at cp
  have hal : a < l.length := (List.getElem?_eq_some_iff.1 hp).1
  have hn9 := h.n9
  have hi : ((a : Int) == -1) = false := by simp
  have ht := hf.at hp
  unfold tkn
  have hb := lz_bit hlz
  obtain ⟨j, hj⟩ : ∃ j, j = lz 64 p.t := ⟨_, rfl⟩
  have cl0 : Hid (∀ W, Tab W → Calls Tryd.prog 58 #[.agg #[.int .i64 (cl : Int), .int .u64 (p.t : Int)]] W fun e w' => e = .returned (.int .i64 (j : Int)) ∧ Below W.heap.size W w') := fun W b => by rw [hj]; exact least_any cl p.t ht W b
  rw [← hj] at hlz hb ⊢
  obtain ⟨D, hD⟩ : ∃ D, D = 2 ^ j := ⟨_, rfl⟩
  obtain ⟨U, hU⟩ : ∃ U, U = p.t + 2 ^ j := ⟨_, rfl⟩
  have HSL : Hid (∀ W, (binOp .shl 31 (.int .u64 1) (.int .i64 (j : Int))).run Tryd.prog W = .ok (.int .u64 (D : Int)) W) := fun W => by rw [hD]; exact run_shl j hlz W
  have HOR : Hid (∀ W, (binOp .or 31 (.int .u64 (p.t : Int)) (.int .u64 (D : Int))).run Tryd.prog W = .ok (.int .u64 (U : Int)) W) := fun W => by rw [hD, hU]; exact run_or p.t j ht hlz hb W
  rw [← hU]
  have HU := hide hU
  clear hD hU
  have HP := hide hp
  have H := hide h
  obtain ⟨n, hnl⟩ : ∃ n, n = l.length := ⟨_, rfl⟩
  have HN := hide hnl
  rw [← hnl] at hal hn9
  obtain ⟨c, t⟩ := p
  simp only at *
  have hT2 := hide hT
  clear h hf hT hn hp hj hb ht hnl
  go_enter Tryd.func37, Tryd.ntmps37
  go_wp2_with fail
  refine ci.out.mono ?_
  rintro e w2 ⟨rfl, h2⟩
  obtain rfl : w = w2 := h2.symm
  clear h2 ci
  go_wp2_with fail
  refine cp.out.mono ?_
  rintro e w3 ⟨rfl, h2⟩
  have B3 := hide h2
  have S3 := hide (H.out.below h2)
  clear h2 cp
  have c0 := S3.out.own.cell (i := 0) rfl
  rw [← HN.out] at c0
  have k0 := S3.out.cell0 HP.out
  have k1 := S3.out.cell1 HP.out
  have k2 := S3.out.row.frozen (a * 2)
  have hal2 : (a : Int) < (n : Int) := by omega
  have S4 := hide (S3.out.set0 HP.out (cl : Int))
  have hp4 : Hid ((l.set a ⟨(cl : Int), t⟩)[a]? = some ⟨(cl : Int), t⟩) := by show _ = _; rw [List.getElem?_set_self (by have := HN.out; omega)]
  have k4 := S4.out.cell0 hp4.out
  have k5 := S4.out.cell1 hp4.out
  have B4 : Hid (Keep [s] w (w3.setCell ⟨s, a * 2, none⟩ (.int .i64 (cl : Int)))) := (Keep.of_below B3.out).setCell (p := ⟨s, a * 2, none⟩) (.inl (by simp)) _
  have hs0 : Hid (s ≠ 0) := by
    obtain ⟨q, hq⟩ : ∃ q, l[0]? = some q := ⟨_, List.getElem?_eq_getElem (by have := HN.out; omega)⟩
    exact hT2.out.ne (H.out.cell0 hq)
  have C4 := hide (cl0.out _ (hT2.out.keep B4.out (by simpa using Ne.symm hs0.out)))
  clear cl0
  go_wp2_with fail
  refine C4.out.mono ?_
  rintro e w5 ⟨rfl, h5⟩
  obtain ⟨W6, hW6⟩ : ∃ W6, W6 = w5 := ⟨_, rfl⟩
  rw [← hW6] at h5 ⊢
  have B6 := hide (B4.out.trans (Keep.of_below (F := []) h5) (by simp))
  have S6 := hide (S4.out.below h5)
  clear h5 C4 S4 B4 k0 k1 k2 k4 k5 c0 hW6
  have g1 := S6.out.cell1 hp4.out
  have g2 := S6.out.row.frozen (a * 2 + 1)
  go_wp2_with fail
  refine wp_region_last (by kernel_rfl) (by kernel_rfl) (fun jx => ([.pointer (some ⟨s, a * 2, none⟩), .pointer (some ⟨s, a * 2, none⟩), .pointer (some ⟨s, a * 2 + 1, none⟩), .int .u64 (t : Int), .int .i64 (j : Int), .int .u64 (D : Int), .int .u64 (U : Int), .pointer (some ⟨s, a * 2, none⟩), .pointer (some ⟨s, a * 2 + 1, none⟩), undef] : List Value).getD jx undef) 9 (by decide) (by kernel_rfl) (fun w' => w' = W6.drew) (fun w' => w' = W6.drew.setCell ⟨s, a * 2 + 1, none⟩ (.int .u64 (U : Int))) (rfl) ?_ ?_
  · intro jx ox hi w' ev hc hin hout hcst hfn
    have hltx : jx < 10 := by
      have := (Array.getElem?_eq_some_iff.1 hi).1
      simpa using this
    match jx, hltx with
    | 0, _ =>
      simp only [List.getElem?_toArray, List.getElem?_cons_zero, List.getElem?_cons_succ, Option.some.injEq] at hi
      subst hi
      have e0 : ev (.tmp 7) = .pointer (some ⟨s, a * 2, none⟩) := hout 7 (by kernel_rfl) (show (7 : Nat) < 44 by decide)
      rw [if_neg (by decide)]
      refine .inl ⟨w', ?_, hc⟩
      show _ = Result.ok (Next.value (.pointer (some ⟨s, a * 2, none⟩))) w'
      simp [execOp, e0, hcst, go_sem]
    | 1, _ =>
      simp only [List.getElem?_toArray, List.getElem?_cons_zero, List.getElem?_cons_succ, Option.some.injEq] at hi
      subst hi
      have e0 : ev (.tmp 31) = .pointer (some ⟨s, a * 2, none⟩) := hin 31 0 ⟨0, .data⟩ (by kernel_rfl) (by simp) rfl rfl (show (31 : Nat) < 44 by decide)
      rw [if_neg (by decide)]
      refine .inl ⟨w', ?_, hc⟩
      show _ = Result.ok (Next.value (.pointer (some ⟨s, a * 2, none⟩))) w'
      simp [execOp, e0, hcst, go_sem]
    | 2, _ =>
      simp only [List.getElem?_toArray, List.getElem?_cons_zero, List.getElem?_cons_succ, Option.some.injEq] at hi
      subst hi
      have e0 : ev (.tmp 32) = .pointer (some ⟨s, a * 2, none⟩) := hin 32 1 ⟨1, .data⟩ (by kernel_rfl) (by simp) rfl rfl (show (32 : Nat) < 44 by decide)
      rw [if_neg (by decide)]
      refine .inl ⟨w', ?_, hc⟩
      show _ = Result.ok (Next.value (.pointer (some ⟨s, a * 2 + 1, none⟩))) w'
      simp [execOp, e0, hcst, go_sem]
    | 3, _ =>
      simp only [List.getElem?_toArray, List.getElem?_cons_zero, List.getElem?_cons_succ, Option.some.injEq] at hi
      subst hi
      have e0 : ev (.tmp 33) = .pointer (some ⟨s, a * 2 + 1, none⟩) := hin 33 2 ⟨2, .data⟩ (by kernel_rfl) (by simp) rfl rfl (show (33 : Nat) < 44 by decide)
      rw [if_neg (by decide)]
      refine .inl ⟨w', ?_, hc⟩
      show _ = Result.ok (Next.value (.int .u64 (t : Int))) w'
      subst hc
      simp [execOp, e0, g1, hcst, go_sem]
    | 4, _ =>
      simp only [List.getElem?_toArray, List.getElem?_cons_zero, List.getElem?_cons_succ, Option.some.injEq] at hi
      subst hi
      have e0 : ev (.tmp 8) = .int .i64 (j : Int) := hout 8 (by kernel_rfl) (show (8 : Nat) < 44 by decide)
      rw [if_neg (by decide)]
      refine .inl ⟨w', ?_, hc⟩
      show _ = Result.ok (Next.value (.int .i64 (j : Int))) w'
      simp [execOp, e0, hcst, go_sem]
    | 5, _ =>
      simp only [List.getElem?_toArray, List.getElem?_cons_zero, List.getElem?_cons_succ, Option.some.injEq] at hi
      subst hi
      have e0 : ev (.tmp 35) = .int .i64 (j : Int) := hin 35 4 ⟨4, .data⟩ (by kernel_rfl) (by simp) rfl rfl (show (35 : Nat) < 44 by decide)
      rw [if_neg (by decide)]
      refine .inl ⟨w', ?_, hc⟩
      show _ = Result.ok (Next.value (.int .u64 (D : Int))) w'
      have q := HSL.out w'
      simp [execOp, e0, hcst, eqGuard, q, Result.andThen, pure, Sem.run]
    | 6, _ =>
      simp only [List.getElem?_toArray, List.getElem?_cons_zero, List.getElem?_cons_succ, Option.some.injEq] at hi
      subst hi
      have e0 : ev (.tmp 34) = .int .u64 (t : Int) := hin 34 3 ⟨3, .data⟩ (by kernel_rfl) (by simp) rfl rfl (show (34 : Nat) < 44 by decide)
      have e1 : ev (.tmp 36) = .int .u64 (D : Int) := hin 36 5 ⟨5, .data⟩ (by kernel_rfl) (by simp) rfl rfl (show (36 : Nat) < 44 by decide)
      rw [if_neg (by decide)]
      refine .inl ⟨w', ?_, hc⟩
      show _ = Result.ok (Next.value (.int .u64 (U : Int))) w'
      have q := HOR.out w'
      simp [execOp, e0, e1, hcst, eqGuard, q, Result.andThen, pure, Sem.run]
    | 7, _ =>
      simp only [List.getElem?_toArray, List.getElem?_cons_zero, List.getElem?_cons_succ, Option.some.injEq] at hi
      subst hi
      have e0 : ev (.tmp 31) = .pointer (some ⟨s, a * 2, none⟩) := hin 31 0 ⟨0, .data⟩ (by kernel_rfl) (by simp) rfl rfl (show (31 : Nat) < 44 by decide)
      rw [if_neg (by decide)]
      refine .inl ⟨w', ?_, hc⟩
      show _ = Result.ok (Next.value (.pointer (some ⟨s, a * 2, none⟩))) w'
      simp [execOp, e0, hcst, go_sem]
    | 8, _ =>
      simp only [List.getElem?_toArray, List.getElem?_cons_zero, List.getElem?_cons_succ, Option.some.injEq] at hi
      subst hi
      have e0 : ev (.tmp 38) = .pointer (some ⟨s, a * 2, none⟩) := hin 38 7 ⟨7, .data⟩ (by kernel_rfl) (by simp) rfl rfl (show (38 : Nat) < 44 by decide)
      rw [if_neg (by decide)]
      refine .inl ⟨w', ?_, hc⟩
      show _ = Result.ok (Next.value (.pointer (some ⟨s, a * 2 + 1, none⟩))) w'
      simp [execOp, e0, hcst, go_sem]
    | 9, _ =>
      simp only [List.getElem?_toArray, List.getElem?_cons_zero, List.getElem?_cons_succ, Option.some.injEq] at hi
      subst hi
      have e0 : ev (.tmp 39) = .pointer (some ⟨s, a * 2 + 1, none⟩) := hin 39 8 ⟨8, .data⟩ (by kernel_rfl) (by simp) rfl rfl (show (39 : Nat) < 44 by decide)
      have e1 : ev (.tmp 37) = .int .u64 (U : Int) := hin 37 6 ⟨6, .data⟩ (by kernel_rfl) (by simp) rfl rfl (show (37 : Nat) < 44 by decide)
      rw [if_pos rfl]
      subst hc
      refine .inr (.inl ⟨rfl, _, ?_, rfl⟩)
      simp [execOp, e0, e1, hcst, g1, g2, go_sem]
  · intro w9 hc
    simp only [lexF, Act.put, List.setIfInBounds_toArray, List.set_cons_succ, List.set_cons_zero, List.getD_cons_succ, List.getD_cons_zero]
    subst hc
    have S7 := hide ((S6.out.drew).set1 hp4.out U)
    have B7 : Hid (Keep [s] w (W6.drew.setCell ⟨s, a * 2 + 1, none⟩ (.int .u64 (U : Int)))) := (B6.out.drew).setCell (p := ⟨s, a * 2 + 1, none⟩) (.inl (by simp)) _
    clear g1 g2 S6 B6
    go_wp2
    go_ret2
    refine ⟨?_, ?_, B7.out⟩
    · rfl
    · have := S7.out
      rw [List.set_set] at this
      exact this

/-! ### Free -/
set_option maxHeartbeats 1000000 in
theorem free_bad (f s : Nat) (l : List Pg) (k : Int) (w : World) (h : SlIn w f s l) (hk9 : k ≤ 9223372036854775807) (hk : k < 0 ∨ (64 * l.length : Nat) ≤ k) :
    Calls Tryd.prog 62 #[.pointer (some ⟨f, 0, none⟩), .int .i64 k] w fun e w' => e = .returned (.int .i64 5) ∧ w' = w := by
  have co := hide (of_bad f s l k w h hk9 hk)
  clear h hk
  go_enter Tryd.func62, Tryd.ntmps62
  go_wp2_with fail
  refine co.out.mono ?_
  rintro e w2 ⟨rfl, h2⟩
  obtain rfl : w = w2 := h2.symm
  clear h2 co
  go_wp2
  go_ret
  exact ⟨rfl, rfl⟩
set_option maxHeartbeats 1000000 in
theorem free_none (f s : Nat) (l : List Pg) (k : Int) (i j : Nat) (p : Pg) (w : World) (h : SlIn w f s l) (hf : Fit l) (h0 : 0 ≤ k) (hk9 : k ≤ 9223372036854775807) (hq : k / 64 = (i : Int)) (hr : k % 64 = (j : Int)) (hp : l[i]? = some p) (hb : p.t.testBit j = false) :
    Calls Tryd.prog 62 #[.pointer (some ⟨f, 0, none⟩), .int .i64 k] w fun e w' => e = .returned (.int .i64 5) ∧ Below w.heap.size w w' := by
  have co := hide (of_in f s l k i j p w h hf h0 hk9 hq hr hp)
  rw [if_neg (by simp [hb])] at co
  clear h hf hq hr hp hb
  go_enter Tryd.func62, Tryd.ntmps62
  go_wp2_with fail
  refine co.out.mono ?_
  rintro e w2 ⟨rfl, h2⟩
  have B := hide h2
  clear h2 co
  go_wp2
  go_ret
  exact ⟨rfl, B.out⟩
set_option maxHeartbeats 4000000 in
theorem free_ok (f s : Nat) (l : List Pg) (k : Int) (a j : Nat) (p : Pg) (w : World) (h : SlIn w f s l) (hf : Fit l) (h0 : 0 ≤ k) (hk9 : k ≤ 9223372036854775807) (hq : k / 64 = (a : Int)) (hr : k % 64 = (j : Int)) (hp : l[a]? = some p) (hb : p.t.testBit j = true) (hc : p.c ≠ -1) :
    Calls Tryd.prog 62 #[.pointer (some ⟨f, 0, none⟩), .int .i64 k] w fun e w' => e = .returned (.int .i64 0) ∧ SlIn w' f s (l.set a ⟨p.c, p.t - 2 ^ j⟩) ∧ Keep [s] w w' := by
  have co := hide (of_in f s l k a j p w h hf h0 hk9 hq hr hp)
  rw [if_pos hb] at co
  have hlz : j < 64 := by omega
  have ht := hf.at hp
  have HQ := hide (run_quo k a h0 hk9 hq)
  have HR := hide (run_rem k j h0 hk9 hr)
  have hal : a < l.length := (List.getElem?_eq_some_iff.1 hp).1
  have hi : (p.c == -1) = false := by simp [hc]
  obtain ⟨D, hD⟩ : ∃ D, D = 2 ^ j := ⟨_, rfl⟩
  obtain ⟨U, hU⟩ : ∃ U, U = p.t - 2 ^ j := ⟨_, rfl⟩
  have HSL : Hid (∀ W, (binOp .shl 31 (.int .u64 1) (.int .i64 (j : Int))).run Tryd.prog W = .ok (.int .u64 (D : Int)) W) := fun W => by rw [hD]; exact run_shl j hlz W
  have HAN : Hid (∀ W, (binOp .andNot 31 (.int .u64 (p.t : Int)) (.int .u64 (D : Int))).run Tryd.prog W = .ok (.int .u64 (U : Int)) W) := fun W => by rw [hD, hU]; exact run_not p.t j ht hlz hb W
  rw [← hU]
  have HP := hide hp
  have H := hide h
  obtain ⟨n, hnl⟩ : ∃ n, n = l.length := ⟨_, rfl⟩
  have HN := hide hnl
  rw [← hnl] at hal
  obtain ⟨c, t⟩ := p
  simp only at *
  clear h hf hp hb ht hnl hD hU hq hr hc
  go_enter Tryd.func62, Tryd.ntmps62
  go_wp2_with fail
  refine co.out.mono ?_
  rintro e w5 ⟨rfl, h5⟩
  obtain ⟨W6, hW6⟩ : ∃ W6, W6 = w5 := ⟨_, rfl⟩
  rw [← hW6] at h5 ⊢
  have B6 : Hid (Keep [s] w W6) := Keep.of_below h5
  have S6 := hide (H.out.below h5)
  clear h5 co hW6
  have g0 := S6.out.own.cell (i := 0) rfl
  rw [← HN.out] at g0
  have g1 := S6.out.cell1 HP.out
  have g2 := S6.out.row.frozen (a * 2 + 1)
  have hal2 : (a : Int) < (n : Int) := by omega
  go_wp2_with fail
  refine wp_region_last (by kernel_rfl) (by kernel_rfl) (fun jx => ([.pointer (some ⟨f, 0, none⟩), .pointer (some ⟨f, 0, none⟩), .pointer (some ⟨f, 0, none⟩), .slice (some ⟨s, 0, none⟩) n n, .int .i64 k, .int .i64 (a : Int), .pointer (some ⟨s, a * 2, none⟩), .pointer (some ⟨s, a * 2 + 1, none⟩), .int .u64 (t : Int), .int .i64 k, .int .i64 (j : Int), .int .u64 (D : Int), .int .u64 (U : Int), .pointer (some ⟨s, a * 2, none⟩), .pointer (some ⟨s, a * 2 + 1, none⟩), undef] : List Value).getD jx undef) 15 (by decide) (by kernel_rfl) (fun w' => w' = W6.drew) (fun w' => w' = W6.drew.setCell ⟨s, a * 2 + 1, none⟩ (.int .u64 (U : Int))) (rfl) ?_ ?_
  · intro jx ox hi w' ev hc hin hout hcst hfn
    have hltx : jx < 16 := by
      have := (Array.getElem?_eq_some_iff.1 hi).1
      simpa using this
    match jx, hltx with
    | 0, _ =>
      simp only [List.getElem?_toArray, List.getElem?_cons_zero, List.getElem?_cons_succ, Option.some.injEq] at hi
      subst hi
      have e0 : ev (.tmp 0) = .pointer (some ⟨f, 0, none⟩) := hout 0 (by kernel_rfl) (show (0 : Nat) < 24 by decide)
      rw [if_neg (by decide)]
      refine .inl ⟨w', ?_, hc⟩
      show _ = Result.ok (Next.value (.pointer (some ⟨f, 0, none⟩))) w'
      simp [execOp, e0, hcst, go_sem]
    | 1, _ =>
      simp only [List.getElem?_toArray, List.getElem?_cons_zero, List.getElem?_cons_succ, Option.some.injEq] at hi
      subst hi
      have e0 : ev (.tmp 9) = .pointer (some ⟨f, 0, none⟩) := hin 9 0 ⟨0, .data⟩ (by kernel_rfl) (by simp) rfl rfl (show (9 : Nat) < 24 by decide)
      rw [if_neg (by decide)]
      refine .inl ⟨w', ?_, hc⟩
      show _ = Result.ok (Next.value (.pointer (some ⟨f, 0, none⟩))) w'
      simp [execOp, e0, hcst, go_sem]
    | 2, _ =>
      simp only [List.getElem?_toArray, List.getElem?_cons_zero, List.getElem?_cons_succ, Option.some.injEq] at hi
      subst hi
      have e0 : ev (.tmp 10) = .pointer (some ⟨f, 0, none⟩) := hin 10 1 ⟨1, .data⟩ (by kernel_rfl) (by simp) rfl rfl (show (10 : Nat) < 24 by decide)
      rw [if_neg (by decide)]
      refine .inl ⟨w', ?_, hc⟩
      show _ = Result.ok (Next.value (.pointer (some ⟨f, 0, none⟩))) w'
      simp [execOp, e0, hcst, go_sem]
    | 3, _ =>
      simp only [List.getElem?_toArray, List.getElem?_cons_zero, List.getElem?_cons_succ, Option.some.injEq] at hi
      subst hi
      have e0 : ev (.tmp 11) = .pointer (some ⟨f, 0, none⟩) := hin 11 2 ⟨2, .data⟩ (by kernel_rfl) (by simp) rfl rfl (show (11 : Nat) < 24 by decide)
      rw [if_neg (by decide)]
      refine .inl ⟨w', ?_, hc⟩
      show _ = Result.ok (Next.value (.slice (some ⟨s, 0, none⟩) n n)) w'
      subst hc
      simp [execOp, e0, g0, hcst, go_sem]
    | 4, _ =>
      simp only [List.getElem?_toArray, List.getElem?_cons_zero, List.getElem?_cons_succ, Option.some.injEq] at hi
      subst hi
      have e0 : ev (.tmp 1) = .int .i64 k := hout 1 (by kernel_rfl) (show (1 : Nat) < 24 by decide)
      rw [if_neg (by decide)]
      refine .inl ⟨w', ?_, hc⟩
      show _ = Result.ok (Next.value (.int .i64 k)) w'
      simp [execOp, e0, hcst, go_sem]
    | 5, _ =>
      simp only [List.getElem?_toArray, List.getElem?_cons_zero, List.getElem?_cons_succ, Option.some.injEq] at hi
      subst hi
      have e0 : ev (.tmp 13) = .int .i64 k := hin 13 4 ⟨4, .data⟩ (by kernel_rfl) (by simp) rfl rfl (show (13 : Nat) < 24 by decide)
      rw [if_neg (by decide)]
      refine .inl ⟨w', ?_, hc⟩
      show _ = Result.ok (Next.value (.int .i64 (a : Int))) w'
      have q := HQ.out w'
      simp [execOp, e0, hcst, eqGuard, q, Result.andThen, pure, Sem.run]
    | 6, _ =>
      simp only [List.getElem?_toArray, List.getElem?_cons_zero, List.getElem?_cons_succ, Option.some.injEq] at hi
      subst hi
      have e0 : ev (.tmp 12) = .slice (some ⟨s, 0, none⟩) n n := hin 12 3 ⟨3, .data⟩ (by kernel_rfl) (by simp) rfl rfl (show (12 : Nat) < 24 by decide)
      have e1 : ev (.tmp 14) = .int .i64 (a : Int) := hin 14 5 ⟨5, .data⟩ (by kernel_rfl) (by simp) rfl rfl (show (14 : Nat) < 24 by decide)
      rw [if_neg (by decide)]
      refine .inl ⟨w', ?_, hc⟩
      show _ = Result.ok (Next.value (.pointer (some ⟨s, a * 2, none⟩))) w'
      simp only [execOp, e0, e1, hcst]
      go_simp
    | 7, _ =>
      simp only [List.getElem?_toArray, List.getElem?_cons_zero, List.getElem?_cons_succ, Option.some.injEq] at hi
      subst hi
      have e0 : ev (.tmp 15) = .pointer (some ⟨s, a * 2, none⟩) := hin 15 6 ⟨6, .data⟩ (by kernel_rfl) (by simp) rfl rfl (show (15 : Nat) < 24 by decide)
      rw [if_neg (by decide)]
      refine .inl ⟨w', ?_, hc⟩
      show _ = Result.ok (Next.value (.pointer (some ⟨s, a * 2 + 1, none⟩))) w'
      simp [execOp, e0, hcst, go_sem]
    | 8, _ =>
      simp only [List.getElem?_toArray, List.getElem?_cons_zero, List.getElem?_cons_succ, Option.some.injEq] at hi
      subst hi
      have e0 : ev (.tmp 16) = .pointer (some ⟨s, a * 2 + 1, none⟩) := hin 16 7 ⟨7, .data⟩ (by kernel_rfl) (by simp) rfl rfl (show (16 : Nat) < 24 by decide)
      rw [if_neg (by decide)]
      refine .inl ⟨w', ?_, hc⟩
      show _ = Result.ok (Next.value (.int .u64 (t : Int))) w'
      subst hc
      simp [execOp, e0, g1, hcst, go_sem]
    | 9, _ =>
      simp only [List.getElem?_toArray, List.getElem?_cons_zero, List.getElem?_cons_succ, Option.some.injEq] at hi
      subst hi
      have e0 : ev (.tmp 1) = .int .i64 k := hout 1 (by kernel_rfl) (show (1 : Nat) < 24 by decide)
      rw [if_neg (by decide)]
      refine .inl ⟨w', ?_, hc⟩
      show _ = Result.ok (Next.value (.int .i64 k)) w'
      simp [execOp, e0, hcst, go_sem]
    | 10, _ =>
      simp only [List.getElem?_toArray, List.getElem?_cons_zero, List.getElem?_cons_succ, Option.some.injEq] at hi
      subst hi
      have e0 : ev (.tmp 18) = .int .i64 k := hin 18 9 ⟨9, .data⟩ (by kernel_rfl) (by simp) rfl rfl (show (18 : Nat) < 24 by decide)
      rw [if_neg (by decide)]
      refine .inl ⟨w', ?_, hc⟩
      show _ = Result.ok (Next.value (.int .i64 (j : Int))) w'
      have q := HR.out w'
      simp [execOp, e0, hcst, eqGuard, q, Result.andThen, pure, Sem.run]
    | 11, _ =>
      simp only [List.getElem?_toArray, List.getElem?_cons_zero, List.getElem?_cons_succ, Option.some.injEq] at hi
      subst hi
      have e0 : ev (.tmp 19) = .int .i64 (j : Int) := hin 19 10 ⟨10, .data⟩ (by kernel_rfl) (by simp) rfl rfl (show (19 : Nat) < 24 by decide)
      rw [if_neg (by decide)]
      refine .inl ⟨w', ?_, hc⟩
      show _ = Result.ok (Next.value (.int .u64 (D : Int))) w'
      have q := HSL.out w'
      simp [execOp, e0, hcst, eqGuard, q, Result.andThen, pure, Sem.run]
    | 12, _ =>
      simp only [List.getElem?_toArray, List.getElem?_cons_zero, List.getElem?_cons_succ, Option.some.injEq] at hi
      subst hi
      have e0 : ev (.tmp 17) = .int .u64 (t : Int) := hin 17 8 ⟨8, .data⟩ (by kernel_rfl) (by simp) rfl rfl (show (17 : Nat) < 24 by decide)
      have e1 : ev (.tmp 20) = .int .u64 (D : Int) := hin 20 11 ⟨11, .data⟩ (by kernel_rfl) (by simp) rfl rfl (show (20 : Nat) < 24 by decide)
      rw [if_neg (by decide)]
      refine .inl ⟨w', ?_, hc⟩
      show _ = Result.ok (Next.value (.int .u64 (U : Int))) w'
      have q := HAN.out w'
      simp [execOp, e0, e1, hcst, eqGuard, q, Result.andThen, pure, Sem.run]
    | 13, _ =>
      simp only [List.getElem?_toArray, List.getElem?_cons_zero, List.getElem?_cons_succ, Option.some.injEq] at hi
      subst hi
      have e0 : ev (.tmp 12) = .slice (some ⟨s, 0, none⟩) n n := hin 12 3 ⟨3, .data⟩ (by kernel_rfl) (by simp) rfl rfl (show (12 : Nat) < 24 by decide)
      have e1 : ev (.tmp 14) = .int .i64 (a : Int) := hin 14 5 ⟨5, .data⟩ (by kernel_rfl) (by simp) rfl rfl (show (14 : Nat) < 24 by decide)
      rw [if_neg (by decide)]
      refine .inl ⟨w', ?_, hc⟩
      show _ = Result.ok (Next.value (.pointer (some ⟨s, a * 2, none⟩))) w'
      simp only [execOp, e0, e1, hcst]
      go_simp
    | 14, _ =>
      simp only [List.getElem?_toArray, List.getElem?_cons_zero, List.getElem?_cons_succ, Option.some.injEq] at hi
      subst hi
      have e0 : ev (.tmp 22) = .pointer (some ⟨s, a * 2, none⟩) := hin 22 13 ⟨13, .data⟩ (by kernel_rfl) (by simp) rfl rfl (show (22 : Nat) < 24 by decide)
      rw [if_neg (by decide)]
      refine .inl ⟨w', ?_, hc⟩
      show _ = Result.ok (Next.value (.pointer (some ⟨s, a * 2 + 1, none⟩))) w'
      simp [execOp, e0, hcst, go_sem]
    | 15, _ =>
      simp only [List.getElem?_toArray, List.getElem?_cons_zero, List.getElem?_cons_succ, Option.some.injEq] at hi
      subst hi
      have e0 : ev (.tmp 23) = .pointer (some ⟨s, a * 2 + 1, none⟩) := hin 23 14 ⟨14, .data⟩ (by kernel_rfl) (by simp) rfl rfl (show (23 : Nat) < 24 by decide)
      have e1 : ev (.tmp 21) = .int .u64 (U : Int) := hin 21 12 ⟨12, .data⟩ (by kernel_rfl) (by simp) rfl rfl (show (21 : Nat) < 24 by decide)
      rw [if_pos rfl]
      subst hc
      refine .inr (.inl ⟨rfl, _, ?_, rfl⟩)
      simp [execOp, e0, e1, hcst, g1, g2, go_sem]
  · intro w9 hc
    simp only [lexF, Act.put, List.setIfInBounds_toArray, List.set_cons_succ, List.set_cons_zero, List.getD_cons_succ, List.getD_cons_zero]
    subst hc
    have S7 := hide ((S6.out.drew).set1 HP.out U)
    have B7 : Hid (Keep [s] w (W6.drew.setCell ⟨s, a * 2 + 1, none⟩ (.int .u64 (U : Int)))) := (B6.out.drew).setCell (p := ⟨s, a * 2 + 1, none⟩) (.inl (by simp)) _
    clear g0 g1 g2 S6 B6
    go_wp2
    go_ret
    exact ⟨rfl, S7.out, B7.out⟩
end Go.Proofs.YtdkiegkgnimapabDoor.Slb
