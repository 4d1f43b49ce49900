/- The document's Get and drop; a row without one of its elements. -/
import Derived.Test.YtkjfildnemgbiaaRf7
set_option linter.unusedVariables false
set_option linter.unusedSimpArgs false
set_option maxRecDepth 8000
namespace Go.Proofs.Ytkjfildnemgbiaa
open Go.RowKit Go.Deep Go.Shelf Math Tab Go.Sort
section
variable {B : Nat} {w w' : World} {f nb ob nx : Nat} {vN vO : List Value} {nw od : Ch} {kv vv : Value} {ks : List (List UInt8)} {vs : List Int} {key : List UInt8}
set_option maxHeartbeats 1000000 in
theorem rget_none (Z : RZ B f nx nw od ks vs w) (key : List UInt8) (hi : idx key ks = -1) (k9 : ks.length ≤ 1000) :
    Calls Try.prog 19 #[.pointer (some ⟨f, 0, none⟩), .string (txt key)] w fun e w' => e = .returned (.tuple #[.int .i64 0, .bool false]) ∧ w' = w := by
  obtain ⟨⟨nb, ob, vN, vO, kv, vv, h⟩, hB⟩ := Z
  have cF := hide (rfind_any h key (by omega))
  rw [hi] at cF
  clear h hB hi k9
  generalize txt key = tk at *
  go_enter Try.func19, Try.ntmps19
  go_wp2_with fail
  refine cF.out.mono ?_
  rintro e wx ⟨rfl, rfl⟩
  go_wp2
  go_ret2
  exact ⟨rfl, rfl⟩
set_option maxHeartbeats 1000000 in
theorem rget_hit (Z : RZ B f nx nw od ks vs w) (key : List UInt8) (i : Nat) (x : Int) (hi : idx key ks = (i : Int)) (hx : vs[i]? = some x) (k9 : ks.length ≤ 1000) (v9 : vs.length ≤ 1000) :
    Calls Try.prog 19 #[.pointer (some ⟨f, 0, none⟩), .string (txt key)] w fun e w' => e = .returned (.tuple #[.int .i64 x, .bool true]) ∧ w' = w := by
  obtain ⟨⟨nb, ob, vN, vO, kv, vv, h⟩, hB⟩ := Z
  have cF := hide (rfind_any h key (by omega))
  rw [hi] at cF
  have c4 := h.own.cell (i := 4) rfl
  obtain ⟨g, vc, hvv, kc, kf, kl, _⟩ := h.kn.cell hx
  rw [hvv] at c4
  have hiv := (List.getElem?_eq_some_iff.1 hx).1
  have hi2 : ¬ ((i : Int) < 0) := by omega
  have hi3 : (0 : Int) ≤ (i : Int) := by omega
  obtain ⟨m, hm⟩ : ∃ m, m = vs.length := ⟨_, rfl⟩
  rw [← hm] at c4 hiv v9
  clear h hB hi k9 hx hvv hm kf kl
  generalize txt key = tk at *
  go_enter Try.func19, Try.ntmps19
  go_wp2_with fail
  refine cF.out.mono ?_
  rintro e wx ⟨rfl, rfl⟩
  go_wp2
  go_ret2
  exact ⟨rfl, rfl⟩
end
theorem SR.lower {B C : Nat} {v : Value} {ss : List (List UInt8)} {W : World} (h : SR C v ss W) (hb : B ≤ C) : SR B v ss W := by
  refine ⟨h.row.1, ?_⟩
  rcases h.row.2 with h2 | ⟨g, cap, cur, hv, hg, r⟩
  · exact .inl h2
  · exact .inr ⟨g, cap, cur, hv, Nat.le_trans hb hg, r⟩
theorem RdA.below {W W' : World} {a : Option Addr} {ss : List (List UInt8)} (h : RdA W a ss) (b : Below W.heap.size W W') : RdA W' a ss := fun i x hx => by
  obtain ⟨g, o, h1, h2⟩ := h i x hx
  exact ⟨g, o, h1, (b.cell (p := ⟨g, o + i, none⟩) (block_lt_of_cell h2)).trans h2⟩
def dropK (key : List UInt8) (ss : List (List UInt8)) : List (List UInt8) := ss.filter (fun k => decide (k ≠ key))
set_option maxHeartbeats 2000000 in
theorem rdrop_any (a : Option Addr) (n c : Nat) (ss : List (List UInt8)) (key : List UInt8) (w : World) (h : RdA w a ss) (hn : n = ss.length) (n1 : n ≤ 1048576) :
    Calls Try.prog 41 #[.slice a n c, .string (txt key)] w fun e w' => ∃ va m vc, e = .returned (.slice va m vc) ∧ SR w.heap.size (.slice va m vc) (dropK key ss) w' ∧ Below w.heap.size w w' ∧ (dropK key ss = [] → Value.slice va m vc = .slice none 0 0) := by
  have HR : Hid (RdA w a ss) := h
  have HN := hide hn
  clear hn h
  go_enter Try.func41, Try.ntmps41
  go_wp2
  go_loopg [5, 6] n (fun kx s5 s6 wr => ∃ (i m : Nat) (va : Option Addr) (vc : Nat), s5 = .slice va m vc ∧ s6 = .int .i64 i ∧ Hid (i ≤ n ∧ n - i ≤ kx ∧ m = (dropK key (ss.take i)).length ∧ m ≤ i ∧ SR w.heap.size (.slice va m vc) (dropK key (ss.take i)) wr ∧ Below w.heap.size w wr ∧ (m = 0 → va = none ∧ vc = 0)))
  case atStart => exact ⟨0, 0, none, 0, rfl, rfl, Nat.zero_le _, Nat.le_refl _, by simp [dropK], Nat.le_refl _, by simpa [dropK] using SR.nil _ _, Below.refl _ _, fun _ => ⟨rfl, rfl⟩⟩
  case round =>
    obtain ⟨i, m, va, vc, rfl, rfl, I⟩ := hrel
    by_cases hlt : i < n
    · have hlt2 : (i : Int) < (n : Int) := by omega
      have g1 := List.getElem?_eq_getElem (l := ss) (i := i) (by rw [← HN.out]; exact hlt)
      obtain ⟨x, hx⟩ : ∃ x, x = ss[i]'(by rw [← HN.out]; exact hlt) := ⟨_, rfl⟩
      rw [← hx] at g1
      clear hx
      have hts : ss.take (i + 1) = ss.take i ++ [x] := by
        obtain ⟨h1, h2⟩ := List.getElem?_eq_some_iff.1 g1
        rw [List.take_succ_eq_append_getElem h1, h2]
      obtain ⟨b1, o1, rfl, k1⟩ := (HR.out.below I.out.2.2.2.2.2.1) i x g1
      have he := txt_eq x key
      have HT := hide hts
      clear hts g1
      by_cases hxy : x = key
      · rw [decide_eq_true hxy] at he
        have hd : dropK key (ss.take (i + 1)) = dropK key (ss.take i) := by rw [HT.out]; simp [dropK, hxy]
        have HD := hide hd
        clear hxy hd
        generalize txt x = tx at *
        generalize txt key = ty at *
        go_wp2
        go_roundg (n - (i + 1))
        case measure => have := I.out.2.1; omega
        case rel =>
          obtain ⟨i1, i2, i3, i4, i5, i6, i7⟩ := I.out
          exact ⟨i + 1, m, va, vc, rfl, rfl, by omega, Nat.le_refl _, by rw [HD.out]; exact i3, by omega, by rw [HD.out]; exact i5, i6, i7⟩
      · rw [decide_eq_false hxy] at he
        have hd : dropK key (ss.take (i + 1)) = dropK key (ss.take i) ++ [x] := by rw [HT.out]; simp [dropK, hxy]
        have HD := hide hd
        have hbr : w.heap.size ≤ wr.heap.size := I.out.2.2.2.2.2.1.size
        obtain ⟨va', vc', w2, hrun, hS, hK, hO⟩ := app_str I.out.2.2.2.2.1 hbr x (by rw [← I.out.2.2.1]; have := I.out.2.2.2.1; omega)
        rw [← I.out.2.2.1] at hrun hS hO
        have HS : Hid (SR w.heap.size (.slice va' (m + 1) vc') (dropK key (ss.take (i + 1))) w2 ∧ Below w.heap.size w w2) := ⟨by rw [HD.out]; exact hS, I.out.2.2.2.2.2.1.trans (hK.below (fun q hq => (own_ty I.out.2.2.2.2.1.row (mem_own.1 hq)).1) hbr)⟩
        have Hrun := hide hrun
        clear hxy hd hbr hS hK hO hrun
        generalize txt x = tx at *
        generalize txt key = ty at *
        go_wp2_with (at_builtin; refine Lib.wpList_append_run _ rfl _ _ _ _ rfl _ _ rfl rfl _ _ (Hrun.out _) ?_)
        go_roundg (n - (i + 1))
        case measure => have := I.out.2.1; omega
        case rel =>
          obtain ⟨i1, i2, i3, i4, i5, i6, i7⟩ := I.out
          exact ⟨i + 1, m + 1, va', vc', rfl, rfl, by omega, Nat.le_refl _, by rw [HD.out, List.length_append, ← i3]; rfl, by omega, HS.out.1, HS.out.2, fun h => by omega⟩
    · have hlt2 : ¬ (i : Int) < (n : Int) := by omega
      go_wp2
      go_ret
      obtain ⟨i1, i2, i3, i4, i5, i6, i7⟩ := I.out
      rw [List.take_of_length_le (by have := HN.out; omega)] at i5 i3
      refine ⟨va, m, vc, rfl, i5, i6, fun h0 => ?_⟩
      have hm0 : m = 0 := by rw [i3, h0]; rfl
      simp [(i7 hm0).1, (i7 hm0).2, hm0]
end Go.Proofs.Ytkjfildnemgbiaa
