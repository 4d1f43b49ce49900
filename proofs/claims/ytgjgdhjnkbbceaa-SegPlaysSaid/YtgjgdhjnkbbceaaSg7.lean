/- Rows of numbers compared; a row without a number. -/
import Derived.Test.YtgjgdhjnkbbceaaSg6
set_option linter.unusedVariables false
set_option linter.unusedSimpArgs false
set_option maxRecDepth 8000
namespace Go.Proofs.Ytgjgdhjnkbbceaa
open Go.RowKit Go.Deep Sgm

def RdI (W : World) (a : Option Addr) (xs : List Int) : Prop := ∀ i x, xs[i]? = some x → ∃ b o, a = some ⟨b, o, none⟩ ∧ W.cell? ⟨b, o + i, none⟩ = some (.int .i64 x)
theorem GR.rd {B : Nat} {W : World} {a : Option Addr} {n c : Nat} {xs : List Int} (h : GR intK B (.slice a n c) xs W) : RdI W a xs := fun i x hx => by
  obtain ⟨g, c', hv, hc, _⟩ := h.cell hx (r := 0) (u := .int .i64 x) rfl
  simp only [Value.slice.injEq] at hv
  refine ⟨g, 0, hv.1, ?_⟩
  have e : i * intK.sz + 0 = 0 + i := by show i * 1 + 0 = 0 + i; omega
  rw [e] at hc
  exact hc
theorem RdI.heap {W W' : World} {a : Option Addr} {ss : List Int} (h : RdI W a ss) (e : W'.heap = W.heap) : RdI W' a ss := fun i x hx => by
  obtain ⟨b, o, ha, hc⟩ := h i x hx
  exact ⟨b, o, ha, (World.cell?_of_block (by rw [e])).trans hc⟩
theorem ret_bool {a b : Bool} (h : a = b) : Ending.returned (.bool a) = .returned (.bool b) := by rw [h]
theorem take_eq_step {α : Type} {l m : List α} {i : Nat} {x y : α} (hx : l[i]? = some x) (hy : m[i]? = some y) (h : l.take i = m.take i) (e : x = y) : l.take (i + 1) = m.take (i + 1) := by
  obtain ⟨h1, h2⟩ := List.getElem?_eq_some_iff.1 hx
  obtain ⟨h3, h4⟩ := List.getElem?_eq_some_iff.1 hy
  rw [List.take_succ_eq_append_getElem h1, List.take_succ_eq_append_getElem h3, h, h2, h4, e]
theorem drewN_more {w W : World} {q : Nat} (h : W = w.drewN q) (n : Nat) : ∃ q', W.drewN n = w.drewN q' := by
  subst h
  refine ⟨q + n, ?_⟩
  simp [World.drewN, Nat.add_assoc]
set_option maxHeartbeats 1000000 in
theorem ints_any (a1 a2 : Option Addr) (c1 c2 : Nat) (s1 s2 : List Int) (w : World) (h1 : RdI w a1 s1) (h2 : RdI w a2 s2) (n1 : s1.length ≤ 1048576) :
    Calls Try.prog 21 #[.slice a1 s1.length c1, .slice a2 s2.length c2] w fun e w' => e = .returned (.bool (decide (s1 = s2))) ∧ ∃ q, w' = w.drewN q := by
  by_cases hl : s1.length = s2.length
  · rw [← hl]
    obtain ⟨n, hn⟩ : ∃ n, n = s1.length := ⟨_, rfl⟩
    rw [← hn] at n1 ⊢
    have H1 := hide h1
    have H2 := hide h2
    have HL := hide hl
    have HN := hide hn
    clear h1 h2 hl hn
    go_enter Try.func21, Try.ntmps21
    go_wp2
    go_loopg [5] n (fun kx s5 wr => ∃ (i q : Nat), s5 = .int .i64 i ∧ wr = w.drewN q ∧ Hid (i ≤ n ∧ n - i ≤ kx ∧ s1.take i = s2.take i))
    case atStart => exact ⟨0, 0, rfl, rfl, Nat.zero_le _, Nat.le_refl _, by simp⟩
    case round =>
      obtain ⟨i, q, rfl, hwr, I⟩ := hrel
      by_cases hlt : i < n
      · have hlt2 : (i : Int) < (n : Int) := by omega
        have g1 := List.getElem?_eq_getElem (l := s1) (i := i) (by rw [← HN.out]; exact hlt)
        have g2 := List.getElem?_eq_getElem (l := s2) (i := i) (by rw [← HL.out, ← HN.out]; exact hlt)
        obtain ⟨x, hx⟩ : ∃ x, x = s1[i]'(by rw [← HN.out]; exact hlt) := ⟨_, rfl⟩
        obtain ⟨y, hy⟩ : ∃ y, y = s2[i]'(by rw [← HL.out, ← HN.out]; exact hlt) := ⟨_, rfl⟩
        rw [← hx] at g1
        rw [← hy] at g2
        clear hx hy
        obtain ⟨b1, o1, rfl, k1⟩ := H1.out i x g1
        obtain ⟨b2, o2, rfl, k2⟩ := H2.out i y g2
        have k1' : wr.cell? ⟨b1, o1 + i, none⟩ = some (.int .i64 x) := by rw [hwr, World.cell?_drewN]; exact k1
        have k2' : wr.cell? ⟨b2, o2 + i, none⟩ = some (.int .i64 y) := by rw [hwr, World.cell?_drewN]; exact k2
        have HW := hide hwr
        have G1 := hide g1
        have G2 := hide g2
        clear k1 k2 hwr g1 g2
        by_cases hxy : x = y
        · have HXY := hide hxy
          subst hxy
          go_wp2
          go_quiet (fail)
          go_wp2
          go_roundg (n - (i + 1))
          case measure => have := I.out.2.1; omega
          case rel =>
            obtain ⟨q2, hq2⟩ := drewN_more HW.out _
            exact ⟨i + 1, q2, rfl, hq2, by omega, Nat.le_refl _, take_eq_step G1.out G2.out I.out.2.2 rfl⟩
        · have HXY := hide hxy
          have hb : (x != y) = true := by simpa using hxy
          have he : (x == y) = false := by simpa using hxy
          go_wp2
          go_quiet (fail)
          go_wp2
          go_ret
          refine ⟨ret_bool ?_, drewN_more HW.out _⟩
          rw [decide_eq_false]
          intro e
          have h1 := G1.out
          rw [e, G2.out] at h1
          exact HXY.out (Option.some.inj h1).symm
      · have hlt2 : ¬ (i : Int) < (n : Int) := by omega
        have HW := hide hwr
        clear hwr
        go_wp2
        go_ret
        refine ⟨ret_bool ?_, q, HW.out⟩
        have h3 := I.out.2.2
        rw [List.take_of_length_le (by have := HN.out; omega), List.take_of_length_le (by have := HN.out; have := HL.out; omega)] at h3
        rw [decide_eq_true h3]
  · rw [decide_eq_false (fun e => hl (by rw [e]))]
    have hl2 : ¬ (s1.length : Int) = (s2.length : Int) := by omega
    have hl3 : ((s1.length : Int) != (s2.length : Int)) = true := by simpa using hl2
    have hl4 : ((s1.length : Int) == (s2.length : Int)) = false := by simpa using hl2
    clear h1 h2
    generalize s1.length = n at *
    generalize s2.length = m at *
    go_enter Try.func21, Try.ntmps21
    go_wp2
    go_ret
    exact ⟨rfl, 0, rfl⟩

/-! ### out -/
def outL (i : Int) (xs : List Int) : List Int := xs.filter fun x => decide (x ≠ i)
theorem outL_snoc (i : Int) (xs : List Int) (x : Int) : outL i (xs ++ [x]) = if x = i then outL i xs else outL i xs ++ [x] := by
  unfold outL
  by_cases h : x = i <;> simp [List.filter_append, h]
def OutP (w : World) (B : Nat) (xs : List Int) (e : Ending) (w' : World) : Prop := ∃ va vc, e = .returned (.slice va xs.length vc) ∧ GR intK B (.slice va xs.length vc) xs w' ∧ Below w.heap.size w w'
set_option maxHeartbeats 2000000 in
theorem out_any (a : Option Addr) (c : Nat) (xs : List Int) (i : Int) (w : World) (h : RdI w a xs) (hlt : ∀ b o, a = some ⟨b, o, none⟩ → b < w.heap.size) (n1 : xs.length ≤ 100000) :
    Calls Try.prog 24 #[.slice a xs.length c, .int .i64 i] w (OutP w w.heap.size (outL i xs)) := by
  obtain ⟨n, hn⟩ : ∃ n, n = xs.length := ⟨_, rfl⟩
  rw [← hn] at n1 ⊢
  have H := hide h
  have HB := hide hlt
  have HN := hide hn
  clear h hn hlt
  go_enter Try.func24, Try.ntmps24
  go_wp2
  go_loopg [5, 6] n (fun kx s5 s6 wr => ∃ (j : Nat) (va : Option Addr) (p vc : Nat), s6 = .int .i64 (j : Int) ∧ s5 = .slice va p vc ∧ Hid (j ≤ n ∧ n - j ≤ kx ∧ p = (outL i (xs.take j)).length ∧ GR intK w.heap.size (.slice va p vc) (outL i (xs.take j)) wr ∧ Below w.heap.size w wr))
  case atStart => exact ⟨0, none, 0, 0, rfl, rfl, Nat.zero_le _, Nat.le_refl _, by simp [outL], by simpa [outL] using GR.nil intK _ _, Below.refl _ _⟩
  case round =>
    obtain ⟨j, va, p, vc, rfl, rfl, I⟩ := hrel
    by_cases hj : j < n
    · have hj2 : (j : Int) < (n : Int) := by omega
      have g1 := List.getElem?_eq_getElem (l := xs) (i := j) (by rw [← HN.out]; exact hj)
      obtain ⟨x, hx⟩ : ∃ x, x = xs[j]'(by rw [← HN.out]; exact hj) := ⟨_, rfl⟩
      rw [← hx] at g1
      obtain ⟨b1, o1, ha, k1⟩ := H.out j x g1
      have hbl := HB.out b1 o1 ha
      subst ha
      have k1' : wr.cell? ⟨b1, o1 + j, none⟩ = some (.int .i64 x) := (I.out.2.2.2.2.cell (p := ⟨b1, o1 + j, none⟩) hbl).trans k1
      have htk : xs.take (j + 1) = xs.take j ++ [x] := by
        rw [List.take_succ_eq_append_getElem (by rw [← HN.out]; exact hj), ← hx]
      obtain ⟨j1, hj1⟩ : ∃ j1, j1 = j + 1 := ⟨_, rfl⟩
      have e2 : (j : Int) + 1 = (j1 : Int) := by omega
      have HJ := hide hj1
      have Hj := hide hj
      by_cases hxi : x = i
      · have HS : Hid (j1 ≤ n ∧ n - j1 ≤ n - j1 ∧ p = (outL i (xs.take j1)).length ∧ GR intK w.heap.size (.slice va p vc) (outL i (xs.take j1)) wr ∧ Below w.heap.size w wr) := by
          rw [hj1, htk, outL_snoc, if_pos hxi]
          exact ⟨by omega, Nat.le_refl _, I.out.2.2.1, I.out.2.2.2.1, I.out.2.2.2.2⟩
        have HL := hide I.out.2.1
        subst hxi
        clear hx g1 k1 hbl htk hj1 I hj
        go_wp2
        go_roundg (n - j1)
        case measure => have := HL.out; have := HJ.out; have := Hj.out; omega
        case rel => exact ⟨j1, va, p, vc, rfl, rfl, HS.out⟩
      · have hb : (x != i) = true := by simpa using hxi
        have he : (x == i) = false := by simpa using hxi
        have hp : p = (outL i (xs.take j)).length := I.out.2.2.1
        have hp9 : p ≤ 100000 := by
          rw [hp]
          refine Nat.le_trans (List.length_filter_le _ _) ?_
          rw [List.length_take, ← HN.out]; omega
        obtain ⟨va2, vc2, W2, hrun, hS, hK, hO⟩ := snoc_g I.out.2.2.2.1 I.out.2.2.2.2.size x (by rw [← hp]; omega)
        rw [← hp] at hrun hS hO
        have hB2 : Below w.heap.size w W2 := I.out.2.2.2.2.trans (hK.below (fun q hq => (I.out.2.2.2.1.lt q hq).1) I.out.2.2.2.2.size)
        have HS : Hid (j1 ≤ n ∧ n - j1 ≤ n - j1 ∧ p + 1 = (outL i (xs.take j1)).length ∧ GR intK w.heap.size (.slice va2 (p + 1) vc2) (outL i (xs.take j1)) W2 ∧ Below w.heap.size w W2) := by
          rw [hj1, htk, outL_snoc, if_neg hxi]
          exact ⟨by omega, Nat.le_refl _, by rw [hp]; simp, hS, hB2⟩
        have HR : Hid (∀ ty, (Builtin.append_ #[36, 36] ty #[.slice va p vc, .slice (some ⟨wr.heap.size, 0, none⟩) 1 1]).run Try.prog (wr.alloc (.cells #[.int .i64 x] 3)) = .ok (.slice va2 (p + 1) vc2) W2) := hrun
        have HL := hide I.out.2.1
        clear hx g1 k1 hbl htk hj1 I hj hp hp9 hrun hS hK hO hB2 hxi
        go_wp2_with (at_builtin; refine Lib.wpList_append_run _ rfl _ _ _ _ rfl _ _ rfl rfl _ _ (HR.out _) ?_)
        go_roundg (n - j1)
        case measure => have := HL.out; have := HJ.out; have := Hj.out; omega
        case rel => exact ⟨j1, va2, p + 1, vc2, rfl, rfl, HS.out⟩
    · have hj2 : ¬ (j : Int) < (n : Int) := by omega
      have HE : Hid (OutP w w.heap.size (outL i xs) (.returned (.slice va p vc)) wr) := by
        obtain ⟨i1, i2, i3, i4, i5⟩ := I.out
        rw [List.take_of_length_le (by have := HN.out; omega)] at i3 i4
        subst i3
        exact ⟨va, vc, rfl, i4, i5⟩
      clear I hj
      go_wp2
      go_ret
      exact HE.out
end Go.Proofs.Ytgjgdhjnkbbceaa
