/- A device in memory, and the small calls on it. -/
import Derived.Test.YtbccnfbombgdmaaChecked
import Derived.Test.YtbccnfbombgdmaaIdeal
import Derived.WalkSmall
import Derived.Deep.QuietTactic
import Derived.BigQuiet
set_option linter.unusedVariables false
set_option linter.unusedSimpArgs false
namespace Go.Proofs.Ytbccnfbombgdmaa
open Go.RowKit Go.Deep

def wtVal (wv : Value) : Prop := ∃ a n c, wv = .slice a n c

/-- The cells of a device's own block. -/
def dvCells (p : Nat) (pd : List Value) (wa : Option Addr) (wn wc : Nat) (S : Dv) : List Value :=
  [.slice (some ⟨p, 0, none⟩) S.cs.length (S.cs.length + pd.length / 2), .slice wa wn wc, .int .i64 S.armed, .bool S.off, .int .i64 S.losses, .int .i64 S.wr, .int .i64 S.fl, .int .i64 S.rd, .int .i64 S.cr]

/-- The device d: its own block, its pages' row p, the row of what waits. -/
structure DvIn (w : World) (d p : Nat) (pd : List Value) (wa : Option Addr) (wc : Nat) (S : Dv) : Prop where
  dev : Blk w d (dvCells p pd wa (wl 0 S.cs).length wc S) 62
  row : Blk w p (pgRow S.cs ++ pd) 92
  own : w.ownsRow 0 94 3 (.slice wa (wl 0 S.cs).length wc) (wl 0 S.cs).length (wtRow (wl 0 S.cs))
  dp : d ≠ p
  dq : ∀ a, wa = some a → a.block ≠ d ∧ a.block ≠ p
  good : S.good

def foot (d p : Nat) (wa : Option Addr) : List Nat := d :: p :: (wa.map (·.block)).toList

def DvAt (w : World) (d : Nat) (F : List Nat) (S : Dv) : Prop := ∃ p pd wa wc, F = foot d p wa ∧ DvIn w d p pd wa wc S

/-- A store into the device's own block alone. -/
theorem DvIn.turn {w w' : World} {d p : Nat} {pd : List Value} {wa : Option Addr} {wc : Nat} {S S' : Dv} (h : DvIn w d p pd wa wc S) (hk : Keep [d] w w')
    (hb : Blk w' d (dvCells p pd wa (wl 0 S.cs).length wc S') 62) (hcs : S'.cs = S.cs) (hg : S'.good) : DvIn w' d p pd wa wc S' := by
  refine ⟨by rw [hcs]; exact hb, by rw [hcs]; exact h.row.same (hk.block p h.row.lt (by simpa using Ne.symm h.dp)), ?_, h.dp, h.dq, hg⟩
  rw [hcs]
  obtain ⟨h1, h2⟩ := h.own
  refine ⟨h1, ?_⟩
  rcases h2 with h2 | ⟨g, cap, cur, hv, hg0, hh, r⟩
  · exact .inl h2
  · refine .inr ⟨g, cap, cur, hv, hg0, ?_, r⟩
    have hlt : g < w.heap.size := (Array.getElem?_eq_some_iff.1 hh).1
    simp only [Value.slice.injEq] at hv
    rw [hk.block g hlt (by simpa using (h.dq _ hv.1).1)]
    exact hh

theorem DvIn.same {w w' : World} {d p : Nat} {pd : List Value} {wa : Option Addr} {wc : Nat} {S : Dv} (h : DvIn w d p pd wa wc S) (hk : ∀ k ∈ foot d p wa, w'.heap[k]? = w.heap[k]?) : DvIn w' d p pd wa wc S := by
  refine ⟨h.dev.same (hk d (by simp [foot])), h.row.same (hk p (by simp [foot])), ?_, h.dp, h.dq, h.good⟩
  obtain ⟨h1, h2⟩ := h.own
  refine ⟨h1, ?_⟩
  rcases h2 with h2 | ⟨g, cap, cur, hv, hg0, hh, r⟩
  · exact .inl h2
  · refine .inr ⟨g, cap, cur, hv, hg0, ?_, r⟩
    simp only [Value.slice.injEq] at hv
    rw [hk g (by simp [foot, hv.1])]
    exact hh

theorem DvIn.lt {w : World} {d p : Nat} {pd : List Value} {wa : Option Addr} {wc : Nat} {S : Dv} (h : DvIn w d p pd wa wc S) : ∀ k ∈ foot d p wa, k < w.heap.size := by
  intro k hk
  simp only [foot, List.mem_cons] at hk
  rcases hk with rfl | rfl | hk
  · exact h.dev.lt
  · exact h.row.lt
  · cases wa with
    | none => simp at hk
    | some a =>
      simp at hk
      subst hk
      exact (h.own.lt a.block rfl).2

theorem DvAt.same {w w' : World} {d : Nat} {F : List Nat} {S : Dv} (h : DvAt w d F S) (hk : ∀ k ∈ F, w'.heap[k]? = w.heap[k]?) : DvAt w' d F S := by
  obtain ⟨p, pd, wa, wc, rfl, h⟩ := h
  exact ⟨p, pd, wa, wc, rfl, h.same hk⟩
theorem DvAt.lt {w : World} {d : Nat} {F : List Nat} {S : Dv} (h : DvAt w d F S) : ∀ k ∈ F, k < w.heap.size := by
  obtain ⟨p, pd, wa, wc, rfl, h⟩ := h
  exact h.lt
theorem DvAt.good {w : World} {d : Nat} {F : List Nat} {S : Dv} (h : DvAt w d F S) : S.good := by
  obtain ⟨p, pd, wa, wc, rfl, h⟩ := h
  exact h.good

set_option maxHeartbeats 400000 in
theorem gone_any (d p : Nat) (pd : List Value) (wa : Option Addr) (wc : Nat) (S : Dv) (w : World) (h : DvIn w d p pd wa wc S) :
    Calls Try.prog 40 #[.pointer (some ⟨d, 0, none⟩)] w fun e w' => e = .returned (.bool S.gone) ∧ DvIn w' d p pd wa wc S.used ∧ Keep [d] w w' := by
  have c2 := h.dev.cell (i := 2) rfl
  have c3 := h.dev.cell (i := 3) rfl
  have c4 := h.dev.cell (i := 4) rfl
  have f2 := h.dev.frozen 2
  have f3 := h.dev.frozen 3
  have f4 := h.dev.frozen 4
  have H : Hid (DvIn w d p pd wa wc S) := h
  have G : Hid _ := Dv.used_good h.good
  have A : Hid _ := h.good.armed
  clear h
  obtain ⟨cs, armed, off, losses, wr, fl, rd, cr⟩ := S
  simp only at c2 c3 c4
  cases off
  · by_cases h0 : armed = 0
    · subst h0
      go_enter Try.func40, Try.ntmps40
      go_wp2
      go_ret
      exact ⟨rfl, H.out, Keep.refl _ _⟩
    · by_cases h1 : armed = 1
      · subst h1
        go_enter Try.func40, Try.ntmps40
        go_wp2
        go_ret
        have K : Keep [d] w (((w.setCell ⟨d, 2, none⟩ (.int .i64 0)).setCell ⟨d, 3, none⟩ (.bool true)).setCell ⟨d, 4, none⟩ (.int .i64 (wrap64 (losses + 1)))) :=
          (((Keep.refl [d] w).setCell (.inl (by simp)) _).setCell (.inl (by simp)) _).setCell (.inl (by simp)) _
        refine ⟨rfl, H.out.turn K ?_ rfl G.out, K⟩
        exact ((H.out.dev.set 2 _).set 3 _).set 4 _
      · have a1 : (armed : Int) - 1 = ((armed - 1 : Nat) : Int) := by omega
        have a2 : ¬ ((armed : Int) - 1 = 0) := by omega
        have a3 : (armed : Int) ≤ 9223372036854775807 := by have := A.out; simp only at this; omega
        have a4 : ¬ ((armed : Int) = 0) := by omega
        have a5 : wrap64 ((armed : Int) - 1) = (armed : Int) - 1 := by unfold wrap64; omega
        have eg : Hid ((⟨cs, armed, false, losses, wr, fl, rd, cr⟩ : Dv).gone = false) := by simp [Hid, Dv.gone, h1]
        have eu : Hid ((⟨cs, armed, false, losses, wr, fl, rd, cr⟩ : Dv).used = ⟨cs, armed - 1, false, losses, wr, fl, rd, cr⟩) := by simp [Hid, Dv.used, h0, h1]
        have a1' : Hid _ := a1
        clear h0 h1 a1
        go_enter Try.func40, Try.ntmps40
        go_wp2
        go_ret
        rw [eu.out] at G
        rw [eg.out, eu.out]
        have K : Keep [d] w (w.setCell ⟨d, 2, none⟩ (.int .i64 ((armed : Int) - 1))) := (Keep.refl [d] w).setCell (.inl (by simp)) _
        refine ⟨rfl, H.out.turn K ?_ rfl G.out, K⟩
        rw [a1'.out]
        exact H.out.dev.set 2 _
  · go_enter Try.func40, Try.ntmps40
    go_wp2
    go_ret
    exact ⟨rfl, H.out, Keep.refl _ _⟩

def S39 (cs : List Cl) (armed : Nat) (off : Bool) (losses wr fl rd cr k : Int) : Bool := (⟨cs, armed, off, losses, wr, fl, rd, cr⟩ : Dv).has k

set_option maxHeartbeats 400000 in
theorem has_any (d p : Nat) (pd : List Value) (wa : Option Addr) (wc : Nat) (S : Dv) (w : World) (h : DvIn w d p pd wa wc S) (k : Int) :
    Calls Try.prog 54 #[.pointer (some ⟨d, 0, none⟩), .int .i64 k] w fun e w' => e = .returned (.bool (S.has k)) ∧ w' = w := by
  have c0 := h.dev.cell (i := 0) rfl
  clear h
  obtain ⟨cs, armed, off, losses, wr, fl, rd, cr⟩ := S
  simp only at c0
  by_cases h0 : 0 ≤ k
  · go_enter Try.func54, Try.ntmps54
    go_wp2
    go_ret
    exact ⟨by simp [Dv.has, h0], rfl⟩
  · have e : Hid (S39 cs armed off losses wr fl rd cr k = false) := by simp only [Hid, S39, Dv.has, decide_eq_false h0, Bool.false_and]
    unfold S39 at e
    go_enter Try.func54, Try.ntmps54
    go_wp2
    go_ret
    exact ⟨by rw [e.out]; rfl, rfl⟩

set_option maxHeartbeats 400000 in
theorem pages_any (d p : Nat) (pd : List Value) (wa : Option Addr) (wc : Nat) (S : Dv) (w : World) (h : DvIn w d p pd wa wc S) :
    Calls Try.prog 27 #[.pointer (some ⟨d, 0, none⟩)] w fun e w' => e = .returned (.int .i64 S.cs.length) ∧ w' = w := by
  have c0 := h.dev.cell (i := 0) rfl
  clear h
  go_enter Try.func27, Try.ntmps27
  go_wp2
  go_ret
  exact ⟨rfl, rfl⟩

set_option maxHeartbeats 400000 in
theorem losses_any (d p : Nat) (pd : List Value) (wa : Option Addr) (wc : Nat) (S : Dv) (w : World) (h : DvIn w d p pd wa wc S) :
    Calls Try.prog 28 #[.pointer (some ⟨d, 0, none⟩)] w fun e w' => e = .returned (.int .i64 S.losses) ∧ w' = w := by
  have c4 := h.dev.cell (i := 4) rfl
  clear h
  go_enter Try.func28, Try.ntmps28
  go_wp2
  go_ret
  exact ⟨rfl, rfl⟩

end Go.Proofs.Ytbccnfbombgdmaa
