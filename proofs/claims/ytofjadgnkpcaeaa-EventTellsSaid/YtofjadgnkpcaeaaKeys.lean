/-
  Keys of any command.
-/
import Derived.Test.YtofjadgnkpcaeaaGood
import Derived.Laws.OwnMore
namespace Go.Proofs.Ytofjadgnkpcaeaa
open Go.Shelf Go.RowKit Go.Deep
set_option linter.unusedVariables false
set_option linter.unusedSimpArgs false
set_option maxRecDepth 1000000

theorem strC_set {xs : List ByteArray} {k : Nat} {x : ByteArray} (h : xs[k]? = some x) : (strC xs).set k (.string x) = strC xs := by
  have hk := (List.getElem?_eq_some_iff.1 h)
  obtain ⟨hk, rfl⟩ := hk
  apply List.ext_getElem?
  intro i
  by_cases e : k = i
  · subst e
    simp [strC, hk]
  · rw [List.getElem?_set_ne e]
theorem keysP_len (c : Cm) (n : Nat) (h : c.keys.length ≤ n) (hn : 1 ≤ n) : (keysP c).length ≤ n := by
  unfold keysP
  repeat' split
  all_goals first | exact h | (simp; try omega)
theorem keysP_fits {w : World} {a : Option Addr} {n : Nat} (c : Cm) (h : StrsAt w a n c.keys) : ∀ x ∈ keysP c, x.size ≤ 140737488351232 := by
  unfold keysP
  repeat' split
  all_goals first | exact h.fits | exact hd_fits h | (intro x hx; cases hx)
theorem keys_any (w : World) (a : Option Addr) (n cap : Nat) (c : Cm) (h : StrsAt w a n c.keys) (hn : n ≤ 1000) :
    Calls Try.prog 11 #[cmV c (.slice a n cap)] w fun e w' => ∃ a' n' c', e = .returned (.slice a' n' c') ∧ w'.ownsRow w.heap.size 9 1 (.slice a' n' c') n' (strC (keysP c)) ∧ Below w.heap.size w w' := by
  have B := (Below.refl w.heap.size w).alloc (Nat.le_refl _) (.cells #[.string c.what, .string c.verb, .slice a n cap, .string c.data, .int .u32 c.fl, .int .i64 c.ex, .int .u64 c.cs, .int .u64 c.y, .bool c.wc, .bool c.wt, .bool c.dn, .bool c.q] 28)
  have H := h.later B
  have hf := keysP_fits c h
  have hl : Hid ((keysP c).length ≤ 1000) := keysP_len c 1000 (by rw [← h.len]; exact hn) (by omega)
  go_enter Try.func11, Try.ntmps11
  go_wp2_with fail
  refine (tn_any _ a n cap c H hn).mono ?_
  rintro e w1 ⟨v, rfl, k1, h2⟩
  go_wp2_with fail
  refine h2.mono ?_
  rintro e w2 ⟨a', n', c', rfl, ho, k2⟩
  replace ho := Joins.ownsRow_le ho B.size
  replace B := B.trans (k2.mono B.size)
  clear k1 h2 k2 H
  have hn' : n' ≤ 1000 := by
    have := ho.1
    have := hl.out
    simp [strC] at *
    omega
  have hx : Hid (n' = (keysP c).length) := by
    have := ho.1
    simp [strC] at this
    exact this.symm
  go_wp2
  go_loopw [11] (fun i wr => ∃ k : Nat, i = .int .i64 k ∧ k ≤ n' ∧ Below w.heap.size w wr ∧ wr.ownsRow w.heap.size 9 1 (.slice a' n' c') n' (strC (keysP c))) (fun i _ => n' - vi i)
  case atStart => exact ⟨0, rfl, by omega, B, ho⟩
  case round =>
    obtain ⟨k, rfl, hk, hb, O⟩ := hrel
    clear B ho
    by_cases hlt : k < n'
    · obtain ⟨g, cp, hv⟩ := Joins.ownsRow_form O (by omega)
      simp only [Value.slice.injEq] at hv
      obtain ⟨rfl, _, rfl⟩ := hv
      have hk' : k < (keysP c).length := by rw [← hx.out]; exact hlt
      obtain ⟨x, hxk⟩ : ∃ x, (keysP c)[k]? = some x := ⟨_, List.getElem?_eq_getElem hk'⟩
      have hc : wr.cell? ⟨g, k, none⟩ = some (.string x) := by
        rw [O.cellAt k (by omega)]
        simp [strC, hxk]
      have hs : x.size ≤ 140737488351232 := hf x (List.mem_of_getElem? hxk)
      have HX : Hid ((keysP c)[k]? = some x) := hxk
      clear hxk
      clear hk'
      go_wp2_with fail
      refine (clone_any x _ (by omega)).mono ?_
      rintro e w3 ⟨rfl, hb3⟩
      have O3 := own_later O hb3
      replace hb := hb.trans (hb3.mono hb.size)
      have hfz := O3.frozenAt k
      have hc3 : w3.cell? ⟨g, k, none⟩ = some (.string x) := by
        rw [O3.cellAt k (by omega)]
        simp [strC, HX.out]
      clear hc O
      obtain ⟨O4, G4⟩ := O3.stored k (.string x)
      rw [strC_set HX.out] at O4
      have B4 := hb.grown G4 hb.size (fun q hq => by cases hq; exact (O3.lt _ rfl).1)
      go_wp2
      go_roundw
      case rel => exact ⟨k + 1, by go_num, by omega, B4, O4⟩
      case measure => simp [vi]; omega
    · have e : k = n' := by omega
      subst e
      go_wp2
      go_ret
      exact ⟨_, _, _, rfl, O, hb⟩
end Go.Proofs.Ytofjadgnkpcaeaa
