/- The document's own device in memory, and the small calls on it. -/
import Derived.Test.YtcdefadeaiklbaaCopy
set_option linter.unusedVariables false
set_option linter.unusedSimpArgs false
set_option maxRecDepth 8000
namespace Go.Proofs.Ytcdefadeaiklbaa
open Go.RowKit Go.Deep

/-- Where its rows lie, and what lies behind each. -/
structure RLoc where
  last : Nat
  now : Nat
  waits : Nat
  pl : List Value
  pn : List Value
  pw : List Value

def rpg (p : Pg) : List Value := [.int .i64 p.kind, .string p.read]
def rRow (l : List Pg) : List Value := l.flatMap rpg
def nows (cs : List Cl) : List Pg := cs.map (·.now)
def lasts (cs : List Cl) : List Pg := cs.map fun c => c.last.getD c.now
def wRow (cs : List Cl) : List Value := cs.map fun c => .bool c.last.isSome

def rCells (L : RLoc) (S : Dv) : List Value :=
  [.slice (some ⟨L.last, 0, none⟩) S.cs.length (S.cs.length + L.pl.length / 2), .slice (some ⟨L.now, 0, none⟩) S.cs.length (S.cs.length + L.pn.length / 2), .slice (some ⟨L.waits, 0, none⟩) S.cs.length (S.cs.length + L.pw.length),
   .bool S.off, .int .i64 S.armed, .int .i64 S.losses, .int .i64 S.wr, .int .i64 S.fl, .int .i64 S.rd, .int .i64 S.cr]

structure RfIn (w : World) (r : Nat) (L : RLoc) (S : Dv) : Prop where
  dev : Blk w r (rCells L S) 83
  last : Blk w L.last (rRow (lasts S.cs) ++ L.pl) 88
  now : Blk w L.now (rRow (nows S.cs) ++ L.pn) 88
  waits : Blk w L.waits (wRow S.cs ++ L.pw) 4
  apart : [r, L.last, L.now, L.waits].Nodup
  good : S.good

def rfoot (r : Nat) (L : RLoc) : List Nat := [r, L.last, L.now, L.waits]
def RfAt (w : World) (r : Nat) (G : List Nat) (S : Dv) : Prop := ∃ L, G = rfoot r L ∧ RfIn w r L S

theorem RfIn.ne {w : World} {r : Nat} {L : RLoc} {S : Dv} (h : RfIn w r L S) : r ≠ L.last ∧ r ≠ L.now ∧ r ≠ L.waits ∧ L.last ≠ L.now ∧ L.last ≠ L.waits ∧ L.now ≠ L.waits := by
  have := h.apart
  simp only [List.nodup_cons, List.mem_cons, List.not_mem_nil, or_false, not_or] at this
  exact ⟨this.1.1, this.1.2.1, this.1.2.2, this.2.1.1, this.2.1.2, this.2.2.1⟩

theorem RfIn.same {w w' : World} {r : Nat} {L : RLoc} {S : Dv} (h : RfIn w r L S) (hk : ∀ k ∈ rfoot r L, w'.heap[k]? = w.heap[k]?) : RfIn w' r L S :=
  ⟨h.dev.same (hk _ (by simp [rfoot])), h.last.same (hk _ (by simp [rfoot])), h.now.same (hk _ (by simp [rfoot])), h.waits.same (hk _ (by simp [rfoot])), h.apart, h.good⟩
theorem RfIn.lt {w : World} {r : Nat} {L : RLoc} {S : Dv} (h : RfIn w r L S) : ∀ k ∈ rfoot r L, k < w.heap.size := by
  intro k hk
  simp only [rfoot, List.mem_cons, List.not_mem_nil, or_false] at hk
  rcases hk with rfl | rfl | rfl | rfl
  · exact h.dev.lt
  · exact h.last.lt
  · exact h.now.lt
  · exact h.waits.lt
theorem RfAt.same {w w' : World} {r : Nat} {G : List Nat} {S : Dv} (h : RfAt w r G S) (hk : ∀ k ∈ G, w'.heap[k]? = w.heap[k]?) : RfAt w' r G S := by
  obtain ⟨L, rfl, h⟩ := h
  exact ⟨L, rfl, h.same hk⟩
theorem RfAt.lt {w : World} {r : Nat} {G : List Nat} {S : Dv} (h : RfAt w r G S) : ∀ k ∈ G, k < w.heap.size := by
  obtain ⟨L, rfl, h⟩ := h
  exact h.lt
theorem RfAt.below {w w' : World} {r : Nat} {G : List Nat} {S : Dv} (h : RfAt w r G S) (b : Below w.heap.size w w') : RfAt w' r G S := h.same (fun k hk => b.block k (h.lt k hk))

/-- A store into its own block alone. -/
theorem RfIn.turn {w w' : World} {r : Nat} {L : RLoc} {S S' : Dv} (h : RfIn w r L S) (hk : Keep [r] w w') (hb : Blk w' r (rCells L S') 83) (hcs : S'.cs = S.cs) (hg : S'.good) : RfIn w' r L S' := by
  obtain ⟨n1, n2, n3, _⟩ := h.ne
  exact ⟨hb, by rw [hcs]; exact h.last.same (hk.block _ h.last.lt (by simpa using Ne.symm n1)), by rw [hcs]; exact h.now.same (hk.block _ h.now.lt (by simpa using Ne.symm n2)),
    by rw [hcs]; exact h.waits.same (hk.block _ h.waits.lt (by simpa using Ne.symm n3)), h.apart, hg⟩

theorem Keep.to_rfoot {w w' : World} {r : Nat} {L : RLoc} (h : Keep [r] w w') : Keep (rfoot r L) w w' := h.mono (fun k hk => .inl (by simp at hk; simp [rfoot, hk]))

set_option maxHeartbeats 400000 in
theorem rgone_any (r : Nat) (L : RLoc) (S : Dv) (w : World) (h : RfIn w r L S) :
    Calls Try.prog 54 #[.pointer (some ⟨r, 0, none⟩)] w fun e w' => e = .returned (.bool S.gone) ∧ RfIn w' r L S.used ∧ Keep [r] w w' := by
  have c3 := h.dev.cell (i := 3) rfl
  have c4 := h.dev.cell (i := 4) rfl
  have c5 := h.dev.cell (i := 5) rfl
  have f3 := h.dev.frozen 3
  have f4 := h.dev.frozen 4
  have f5 := h.dev.frozen 5
  have H : Hid (RfIn w r L S) := h
  have G := hide (Dv.used_good h.good)
  have A := hide h.good.armed
  clear h
  obtain ⟨cs, armed, off, losses, wr, fl, rd, cr⟩ := S
  simp only at c3 c4 c5
  cases off
  · by_cases h0 : armed = 0
    · subst h0
      go_enter Try.func54, Try.ntmps54
      go_wp2
      go_ret
      exact ⟨rfl, H.out, Keep.refl _ _⟩
    · by_cases h1 : armed = 1
      · subst h1
        go_enter Try.func54, Try.ntmps54
        go_wp2
        go_ret
        have K : Keep [r] w (((w.setCell ⟨r, 4, none⟩ (.int .i64 0)).setCell ⟨r, 3, none⟩ (.bool true)).setCell ⟨r, 5, none⟩ (.int .i64 (wrap64 (losses + 1)))) :=
          (((Keep.refl [r] w).setCell (.inl (by simp)) _).setCell (.inl (by simp)) _).setCell (.inl (by simp)) _
        refine ⟨rfl, H.out.turn K ?_ rfl G.out, K⟩
        exact ((H.out.dev.set 4 _).set 3 _).set 5 _
      · have a1 : (armed : Int) - 1 = ((armed - 1 : Nat) : Int) := by omega
        have a2 : ¬ ((armed : Int) - 1 = 0) := by omega
        have a3 : (armed : Int) ≤ 9223372036854775807 := by have := A.out; simp only at this; omega
        have a4 : (0 : Int) < (armed : Int) := by omega
        have a5 : wrap64 ((armed : Int) - 1) = (armed : Int) - 1 := by unfold wrap64; omega
        have eg : Hid ((⟨cs, armed, false, losses, wr, fl, rd, cr⟩ : Dv).gone = false) := by simp [Hid, Dv.gone, h1]
        have eu : Hid ((⟨cs, armed, false, losses, wr, fl, rd, cr⟩ : Dv).used = ⟨cs, armed - 1, false, losses, wr, fl, rd, cr⟩) := by simp [Hid, Dv.used, h0, h1]
        have a1' := hide a1
        clear h0 h1 a1
        go_enter Try.func54, Try.ntmps54
        go_wp2
        go_ret
        rw [eu.out] at G
        rw [eg.out, eu.out]
        have K : Keep [r] w (w.setCell ⟨r, 4, none⟩ (.int .i64 ((armed : Int) - 1))) := (Keep.refl [r] w).setCell (.inl (by simp)) _
        refine ⟨rfl, H.out.turn K ?_ rfl G.out, K⟩
        rw [a1'.out]
        exact H.out.dev.set 4 _
  · go_enter Try.func54, Try.ntmps54
    go_wp2
    go_ret
    exact ⟨rfl, H.out, Keep.refl _ _⟩

set_option maxHeartbeats 400000 in
theorem rarm_any (r : Nat) (L : RLoc) (S : Dv) (w : World) (h : RfIn w r L S) (k : Int) (hk : k ≤ 9223372036854775807) :
    Calls Try.prog 20 #[.pointer (some ⟨r, 0, none⟩), .int .i64 k] w fun e w' => e = .returned (.tuple #[]) ∧ RfIn w' r L (S.arm k) ∧ Keep [r] w w' := by
  have c4 := h.dev.cell (i := 4) rfl
  have f4 := h.dev.frozen 4
  have H : Hid (RfIn w r L S) := h
  have G := hide (Dv.arm_good h.good k hk)
  clear h
  by_cases hk1 : k < 1
  · have e : Hid (k.toNat = 0) := by show k.toNat = 0; omega
    go_enter Try.func20, Try.ntmps20
    go_wp2
    go_end0
    have K : Keep [r] w ((w.setCell ⟨r, 4, none⟩ (.int .i64 k)).setCell ⟨r, 4, none⟩ (.int .i64 0)) := ((Keep.refl [r] w).setCell (.inl (by simp)) _).setCell (.inl (by simp)) _
    refine ⟨rfl, H.out.turn K ?_ rfl G.out, K⟩
    have := (H.out.dev.set 4 (.int .i64 k)).set 4 (.int .i64 0)
    simp only [Dv.arm, rCells, e.out]
    exact this
  · have e : Hid ((k.toNat : Int) = k) := by show (k.toNat : Int) = k; omega
    go_enter Try.func20, Try.ntmps20
    go_wp2
    go_end0
    have K : Keep [r] w (w.setCell ⟨r, 4, none⟩ (.int .i64 k)) := (Keep.refl [r] w).setCell (.inl (by simp)) _
    refine ⟨rfl, H.out.turn K ?_ rfl G.out, K⟩
    have := H.out.dev.set 4 (.int .i64 k)
    simp only [Dv.arm, rCells, e.out]
    exact this
end Go.Proofs.Ytcdefadeaiklbaa
