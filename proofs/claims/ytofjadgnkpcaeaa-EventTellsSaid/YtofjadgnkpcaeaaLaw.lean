/-
  The calls with a command that is written out; what the laws ask first.
-/
import Derived.Test.YtofjadgnkpcaeaaKeys
import Derived.Test.YtofjadgnkpcaeaaName
import Derived.Test.YtofjadgnkpcaeaaQuiet
namespace Go.Proofs.Ytofjadgnkpcaeaa
open Go.Shelf Go.RowKit Go.Deep
set_option linter.unusedVariables false
set_option linter.unusedSimpArgs false
set_option maxRecDepth 1000000

theorem name_is (c : Cm) (v : ByteArray) (hv : nameP c = v) (a : Option Addr) (n cap : Nat) (w : World) (h : StrsAt w a n c.keys) (hn : n ≤ 1000) (hs : c.verb.size ≤ 140737488351232) :
    Calls Try.prog 9 #[cmV c (.slice a n cap)] w fun e w' => e = .returned (.string v) ∧ Below w.heap.size w w' := hv ▸ name_any w a n cap c h hn hs
theorem quiet_is (c : Cm) (v : Bool) (hv : quietP c = v) (a : Option Addr) (n cap : Nat) (w : World) (h : StrsAt w a n c.keys) (hn : n ≤ 1000) :
    Calls Try.prog 12 #[cmV c (.slice a n cap)] w fun e w' => e = .returned (.bool v) ∧ Below w.heap.size w w' := hv ▸ quiet_any w a n cap c h hn
theorem good_is (c : Cm) (v : Bool) (hv : goodP c = v) (a : Option Addr) (n cap : Nat) (w : World) (h : StrsAt w a n c.keys) (hn : n ≤ 1000) (hs : c.data.size ≤ 140737488351232) :
    Calls Try.prog 10 #[cmV c (.slice a n cap)] w fun e w' => e = .returned (.bool v) ∧ Below w.heap.size w w' := hv ▸ good_any w a n cap c h hn hs
theorem keys_is (c : Cm) (ks : List ByteArray) (hv : keysP c = ks) (a : Option Addr) (n cap : Nat) (w : World) (h : StrsAt w a n c.keys) (hn : n ≤ 1000) :
    Calls Try.prog 11 #[cmV c (.slice a n cap)] w fun e w' => ∃ a' c', e = .returned (.slice a' ks.length c') ∧ w'.ownsRow w.heap.size 9 1 (.slice a' ks.length c') ks.length (strC ks) ∧ Below w.heap.size w w' := by
  subst hv
  refine (keys_any w a n cap c h hn).mono ?_
  rintro e w' ⟨a', n', c', rfl, ho, hb⟩
  have := ho.1
  simp [strC] at this
  subst this
  exact ⟨a', c', rfl, ho, hb⟩
theorem one_strs (w : World) (k : ByteArray) (hk : k.size ≤ 140737488351232) : StrsAt (w.alloc (.cells #[.string k] 9)) (some ⟨w.heap.size, 0, none⟩) 1 [k] :=
  own_strs (own_one w k) (by intro x hx; simp only [List.mem_singleton] at hx; subst hx; exact hk)

theorem awake_any (w : World) : Calls Try.prog 8 #[] w fun e w' => e = .returned (.bool true) ∧ Below w.heap.size w w' := by
  have B := Below.refl w.heap.size w
  have B1 := B.alloc (Nat.le_refl _) (.cells #[.string ⟨#[97]⟩] 9)
  go_enter Try.func8, Try.ntmps8
  go_wp2_with fail
  refine (keys_is ⟨⟨#[116, 111, 117, 99, 104]⟩, ⟨#[]⟩, [⟨#[97]⟩], ⟨#[]⟩, 0, 0, 0, 0, false, false, false, false⟩ [⟨#[97]⟩] (by kernel_rfl) _ 1 1 _ (one_strs w ⟨#[97]⟩ (by decide)) (by omega)).mono ?_
  rintro e wj ⟨a', c', rfl, ho, hj⟩
  obtain ⟨g, cp, hv⟩ := Joins.ownsRow_form ho (by decide)
  simp only [Value.slice.injEq] at hv
  obtain ⟨rfl, _, rfl⟩ := hv
  have K := own_strs ho (by intro x hx; simp only [List.mem_singleton] at hx; subst hx; decide)
  replace B := B1.trans (hj.mono B1.size)
  clear hj ho B1
  go_wp2_with fail
  refine (name_is ⟨⟨#[103, 101, 116]⟩, ⟨#[]⟩, [], ⟨#[]⟩, 0, 0, 0, 0, true, false, false, false⟩ ⟨#[103, 101, 116, 115]⟩ (by kernel_rfl) none 0 0 _ StrsAt.nil (by omega) (by decide)).mono ?_
  rintro e wj ⟨rfl, hj⟩
  replace K := K.later hj
  replace B := B.trans (hj.mono B.size)
  clear hj
  go_wp2_with fail
  refine (name_is ⟨⟨#[]⟩, ⟨#[]⟩, [], ⟨#[]⟩, 0, 0, 0, 0, false, false, false, false⟩ ⟨#[]⟩ (by kernel_rfl) none 0 0 _ StrsAt.nil (by omega) (by decide)).mono ?_
  rintro e wj ⟨rfl, hj⟩
  replace K := K.later hj
  replace B := B.trans (hj.mono B.size)
  clear hj
  have hc : wj.cell? ⟨g, 0, none⟩ = some (.string ⟨#[97]⟩) := by
    obtain ⟨b, off, ha, _, hc⟩ := K.cell 0 _ rfl
    cases ha
    exact hc
  clear K
  go_wp2_with fail
  refine (quiet_is ⟨⟨#[102, 108, 117, 115, 104]⟩, ⟨#[]⟩, [], ⟨#[]⟩, 0, 0, 0, 0, false, false, false, true⟩ true (by kernel_rfl) none 0 0 _ StrsAt.nil (by omega)).mono ?_
  rintro e wj ⟨rfl, hj⟩
  replace B := B.trans (hj.mono B.size)
  clear hj
  go_wp2_with fail
  refine (good_is ⟨⟨#[119, 111, 114, 100]⟩, ⟨#[113, 117, 105, 116]⟩, [], ⟨#[]⟩, 0, 0, 0, 0, false, false, false, false⟩ true (by kernel_rfl) none 0 0 _ StrsAt.nil (by omega) (by decide)).mono ?_
  rintro e wj ⟨rfl, hj⟩
  replace B := B.trans (hj.mono B.size)
  clear hj
  go_wp2_with fail
  refine (good_is ⟨⟨#[103, 101, 116]⟩, ⟨#[]⟩, [], ⟨#[]⟩, 0, 0, 0, 0, false, false, false, false⟩ false (by kernel_rfl) none 0 0 _ StrsAt.nil (by omega) (by decide)).mono ?_
  rintro e wj ⟨rfl, hj⟩
  replace B := B.trans (hj.mono B.size)
  clear hj
  go_wp2
  go_ret
  exact ⟨rfl, B⟩
end Go.Proofs.Ytofjadgnkpcaeaa