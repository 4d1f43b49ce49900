/- Texts joined: RTakeE, RExt, Dev, Ins. -/
import Derived.Test.YtbccnfbombgdmaaGreatJ08
import Derived.Test.YtbccnfbombgdmaaGreatJ09
import Derived.Test.YtbccnfbombgdmaaGreatJ05
import Derived.Test.YtbccnfbombgdmaaGreatJ07
import Derived.Test.YtbccnfbombgdmaaGreatChecked
import Derived.Test.YtbccnfbombgdmaaGreatJ02
import Derived.WalkSmall
import Derived.Deep.QuietTactic
import Derived.BigQuiet
import Derived.Lib.AppendZerosOnto
import Derived.Lib.Overlaps
import Derived.Lib.SliceRun
import Derived.Lib.JoinLaws
import Derived.Lib.Walk
import Derived.Shelf.Spec.SlicesInsert
/- 'Take' of any bytes. -/
namespace Go.Proofs.YtbccnfbombgdmaaGreat
open Go.RowKit Go.Deep Math
theorem take_is : TakeIs := by
  intro a n cap l hcap w h
  cases hE : ended l with
  | true => rw [show take l = .none by simp [take, hE]]; exact take_none a n cap l w h hE
  | false =>
    cases hF : form1 l with
    | false => rw [show take l = .bad by simp [take, hE, hF]]; exact take_bad1 a n cap l hcap w h hE hF
    | true =>
      cases hG : form2 l with
      | false => rw [show take l = .bad by simp [take, hE, hF, hG]]; exact take_bad2 a n cap l hcap w h hE hF hG
      | true =>
        rw [show take l = .ok (tkItem l) (tkLen l) by simp [take, hE, hF, hG]]
        by_cases hc : cap = 32 + tkKey l
        · exact take_good2 a n cap l hcap w h hE hF hG hc
        · exact take_good1 a n cap l hcap w h hE hF hG hc
end Go.Proofs.YtbccnfbombgdmaaGreat

/- Buffers that are read; what a list of records can be. -/
set_option linter.unusedVariables false
set_option linter.unusedSimpArgs false
namespace Go.Proofs.YtbccnfbombgdmaaGreat
open Go.RowKit Go.Deep Math

theorem buf_full {w : World} {g r : Nat} {l : List UInt8} (h : Buf w g l r) : Buf w g (l ++ List.replicate r 0) 0 := by
  unfold Buf at *
  rw [bCells_append, show bCells (List.replicate r 0) = zc r by simp [bCells, zc], show zc 0 = [] from rfl, List.append_nil]
  exact h
theorem buf_bs {w : World} {g : Nat} {l : List UInt8} {n cap : Nat} (h : Buf w g l 0) (hn : n = l.length) (hc : n ≤ cap) : BS w (some ⟨g, 0, none⟩) n cap l :=
  BS.mk' hn hc (by have := h.reads 0; rwa [List.drop_zero] at this)
theorem lst_all : ∀ (n : Nat) (b : List UInt8) (xs : List It), b.length ≤ n → lst b = some xs → total xs ≤ b.length ∧ ∀ x ∈ xs, x.fits ∧ x.good = true := by
  intro n
  induction n with
  | zero =>
    intro b xs hb h
    have : b = [] := List.eq_nil_of_length_eq_zero (by omega)
    subst this
    rw [lst_none (by simp [take, ended])] at h
    simp at h
    subst h
    simp [total]
  | succ n ih =>
    intro b xs hb h
    cases hT : take b using Tk.elim3 with
    | none =>
      rw [lst_none hT] at h
      simp at h
      subst h
      simp [total]
    | bad => rw [lst_bad hT] at h; cases h
    | ok x k =>
      obtain ⟨t1, t2, t3, t4, t5⟩ := take_ok hT
      rw [lst_ok hT] at h
      cases hl : lst (b.drop k) with
      | none => rw [hl] at h; simp at h
      | some ys =>
        rw [hl] at h
        simp at h
        subst h
        have hp := x.size_pos
        obtain ⟨i1, i2⟩ := ih (b.drop k) ys (by rw [List.length_drop]; omega) hl
        rw [List.length_drop] at i1
        refine ⟨by simp only [total]; omega, fun y hy => ?_⟩
        rcases List.mem_cons.1 hy with rfl | hy
        · exact ⟨t1, t2⟩
        · exact i2 y hy
/-- The items of a page. -/
def lsO (b : List UInt8) : List It := (lst b).getD []
theorem lsO_all (b : List UInt8) : total (lsO b) ≤ b.length ∧ ∀ x ∈ lsO b, x.fits ∧ x.good = true := by
  unfold lsO
  cases h : lst b with
  | none => simp [total]
  | some xs => exact lst_all b.length b xs (Nat.le_refl _) h
theorem good_sizes {x : It} (h : x.good = true) : x.key.length ≤ 250 ∧ x.value.length ≤ 1024 := by
  have := (It.good_iff x).1 h
  exact ⟨this.2.1, this.2.2.1⟩
theorem total_len : ∀ xs : List It, xs.length * 32 ≤ total xs
  | [] => by simp [total]
  | x :: r => by have := total_len r; simp only [total, List.length_cons, It.size]; omega
end Go.Proofs.YtbccnfbombgdmaaGreat

/- A device in memory, and the small calls on it. -/
set_option linter.unusedVariables false
set_option linter.unusedSimpArgs false
namespace Go.Proofs.YtbccnfbombgdmaaGreat
open Go.RowKit Go.Deep

def wtVal (wv : Value) : Prop := ∃ a n c, wv = .slice a n c

/-- The cells of a device's own block. -/
def dvCells (p : Nat) (pd : List Value) (wa : Option Addr) (wn wc : Nat) (S : Dv) : List Value :=
  [.slice (some ⟨p, 0, none⟩) S.cs.length (S.cs.length + pd.length / 2), .slice wa wn wc, .int .i64 S.armed, .bool S.off, .int .i64 S.losses, .int .i64 S.wr, .int .i64 S.fl, .int .i64 S.rd, .int .i64 S.cr]

/-- The device d: its own block, its pages' row p, the row of what waits. -/
structure DvIn (w : World) (d p : Nat) (pd : List Value) (wa : Option Addr) (wc : Nat) (S : Dv) : Prop where
  dev : Blk w d (dvCells p pd wa (wl 0 S.cs).length wc S) 63
  row : Blk w p (pgRow S.cs ++ pd) 125
  own : w.ownsRow 0 137 3 (.slice wa (wl 0 S.cs).length wc) (wl 0 S.cs).length (wtRow (wl 0 S.cs))
  dp : d ≠ p
  dq : ∀ a, wa = some a → a.block ≠ d ∧ a.block ≠ p
  good : S.good

def foot (d p : Nat) (wa : Option Addr) : List Nat := d :: p :: (wa.map (·.block)).toList

def DvAt (w : World) (d : Nat) (F : List Nat) (S : Dv) : Prop := ∃ p pd wa wc, F = foot d p wa ∧ DvIn w d p pd wa wc S

/-- A store into the device's own block alone. -/
theorem DvIn.turn {w w' : World} {d p : Nat} {pd : List Value} {wa : Option Addr} {wc : Nat} {S S' : Dv} (h : DvIn w d p pd wa wc S) (hk : Keep [d] w w')
    (hb : Blk w' d (dvCells p pd wa (wl 0 S.cs).length wc S') 63) (hcs : S'.cs = S.cs) (hg : S'.good) : DvIn w' d p pd wa wc S' := by
  refine ⟨by rw [hcs]; exact hb, by rw [hcs]; exact h.row.same (hk.block p h.row.lt (by simpa using Ne.symm h.dp)), ?_, h.dp, h.dq, hg⟩
  rw [hcs]
  obtain ⟨h1, h2⟩ := h.own
  refine ⟨h1, ?_⟩
  rcases h2 with h2 | ⟨g, cap, cur, hv, hg0, hh, r⟩
  · exact .inl h2
  · refine .inr ⟨g, cap, cur, hv, hg0, ?_, r⟩
    have hlt : g < w.heap.size := (Array.getElem?_eq_some_iff.1 hh).1
    simp only [Value.slice.injEq] at hv
    rw [hk.block g hlt (by simpa using (h.dq _ hv.1).1)]
    exact hh

theorem DvIn.same {w w' : World} {d p : Nat} {pd : List Value} {wa : Option Addr} {wc : Nat} {S : Dv} (h : DvIn w d p pd wa wc S) (hk : ∀ k ∈ foot d p wa, w'.heap[k]? = w.heap[k]?) : DvIn w' d p pd wa wc S := by
  refine ⟨h.dev.same (hk d (by simp [foot])), h.row.same (hk p (by simp [foot])), ?_, h.dp, h.dq, h.good⟩
  obtain ⟨h1, h2⟩ := h.own
  refine ⟨h1, ?_⟩
  rcases h2 with h2 | ⟨g, cap, cur, hv, hg0, hh, r⟩
  · exact .inl h2
  · refine .inr ⟨g, cap, cur, hv, hg0, ?_, r⟩
    simp only [Value.slice.injEq] at hv
    rw [hk g (by simp [foot, hv.1])]
    exact hh

theorem DvIn.lt {w : World} {d p : Nat} {pd : List Value} {wa : Option Addr} {wc : Nat} {S : Dv} (h : DvIn w d p pd wa wc S) : ∀ k ∈ foot d p wa, k < w.heap.size := by
  intro k hk
  simp only [foot, List.mem_cons] at hk
  rcases hk with rfl | rfl | hk
  · exact h.dev.lt
  · exact h.row.lt
  · cases wa with
    | none => simp at hk
    | some a =>
      simp at hk
      subst hk
      exact (h.own.lt a.block rfl).2

theorem DvAt.same {w w' : World} {d : Nat} {F : List Nat} {S : Dv} (h : DvAt w d F S) (hk : ∀ k ∈ F, w'.heap[k]? = w.heap[k]?) : DvAt w' d F S := by
  obtain ⟨p, pd, wa, wc, rfl, h⟩ := h
  exact ⟨p, pd, wa, wc, rfl, h.same hk⟩
theorem DvAt.lt {w : World} {d : Nat} {F : List Nat} {S : Dv} (h : DvAt w d F S) : ∀ k ∈ F, k < w.heap.size := by
  obtain ⟨p, pd, wa, wc, rfl, h⟩ := h
  exact h.lt
theorem DvAt.good {w : World} {d : Nat} {F : List Nat} {S : Dv} (h : DvAt w d F S) : S.good := by
  obtain ⟨p, pd, wa, wc, rfl, h⟩ := h
  exact h.good

set_option maxHeartbeats 400000 in
theorem gone_any (d p : Nat) (pd : List Value) (wa : Option Addr) (wc : Nat) (S : Dv) (w : World) (h : DvIn w d p pd wa wc S) :
    Calls Tryz.prog 74 #[.pointer (some ⟨d, 0, none⟩)] w fun e w' => e = .returned (.bool S.gone) ∧ DvIn w' d p pd wa wc S.used ∧ Keep [d] w w' := by
  have c2 := h.dev.cell (i := 2) rfl
  have c3 := h.dev.cell (i := 3) rfl
  have c4 := h.dev.cell (i := 4) rfl
  have f2 := h.dev.frozen 2
  have f3 := h.dev.frozen 3
  have f4 := h.dev.frozen 4
  have H : Hid (DvIn w d p pd wa wc S) := h
  have G : Hid _ := Dv.used_good h.good
  have A : Hid _ := h.good.armed
  clear h
  obtain ⟨cs, armed, off, losses, wr, fl, rd, cr⟩ := S
  simp only at c2 c3 c4
  cases off
  · by_cases h0 : armed = 0
    · subst h0
      go_enter Tryz.func74, Tryz.ntmps74
      go_wp2
      go_ret
      exact ⟨rfl, H.out, Keep.refl _ _⟩
    · by_cases h1 : armed = 1
      · subst h1
        go_enter Tryz.func74, Tryz.ntmps74
        go_wp2
        go_ret
        have K : Keep [d] w (((w.setCell ⟨d, 2, none⟩ (.int .i64 0)).setCell ⟨d, 3, none⟩ (.bool true)).setCell ⟨d, 4, none⟩ (.int .i64 (wrap64 (losses + 1)))) :=
          (((Keep.refl [d] w).setCell (.inl (by simp)) _).setCell (.inl (by simp)) _).setCell (.inl (by simp)) _
        refine ⟨rfl, H.out.turn K ?_ rfl G.out, K⟩
        exact ((H.out.dev.set 2 _).set 3 _).set 4 _
      · have a1 : (armed : Int) - 1 = ((armed - 1 : Nat) : Int) := by omega
        have a2 : ¬ ((armed : Int) - 1 = 0) := by omega
        have a3 : (armed : Int) ≤ 9223372036854775807 := by have := A.out; simp only at this; omega
        have a4 : ¬ ((armed : Int) = 0) := by omega
        have a5 : wrap64 ((armed : Int) - 1) = (armed : Int) - 1 := by unfold wrap64; omega
        have eg : Hid ((⟨cs, armed, false, losses, wr, fl, rd, cr⟩ : Dv).gone = false) := by simp [Hid, Dv.gone, h1]
        have eu : Hid ((⟨cs, armed, false, losses, wr, fl, rd, cr⟩ : Dv).used = ⟨cs, armed - 1, false, losses, wr, fl, rd, cr⟩) := by simp [Hid, Dv.used, h0, h1]
        have a1' : Hid _ := a1
        clear h0 h1 a1
        go_enter Tryz.func74, Tryz.ntmps74
        go_wp2
        go_ret
        rw [eu.out] at G
        rw [eg.out, eu.out]
        have K : Keep [d] w (w.setCell ⟨d, 2, none⟩ (.int .i64 ((armed : Int) - 1))) := (Keep.refl [d] w).setCell (.inl (by simp)) _
        refine ⟨rfl, H.out.turn K ?_ rfl G.out, K⟩
        rw [a1'.out]
        exact H.out.dev.set 2 _
  · go_enter Tryz.func74, Tryz.ntmps74
    go_wp2
    go_ret
    exact ⟨rfl, H.out, Keep.refl _ _⟩

def S39 (cs : List Cl) (armed : Nat) (off : Bool) (losses wr fl rd cr k : Int) : Bool := (⟨cs, armed, off, losses, wr, fl, rd, cr⟩ : Dv).has k

set_option maxHeartbeats 400000 in
theorem has_any (d p : Nat) (pd : List Value) (wa : Option Addr) (wc : Nat) (S : Dv) (w : World) (h : DvIn w d p pd wa wc S) (k : Int) :
    Calls Tryz.prog 78 #[.pointer (some ⟨d, 0, none⟩), .int .i64 k] w fun e w' => e = .returned (.bool (S.has k)) ∧ w' = w := by
  have c0 := h.dev.cell (i := 0) rfl
  clear h
  obtain ⟨cs, armed, off, losses, wr, fl, rd, cr⟩ := S
  simp only at c0
  by_cases h0 : 0 ≤ k
  · go_enter Tryz.func78, Tryz.ntmps78
    go_wp2
    go_ret
    exact ⟨by simp [Dv.has, h0], rfl⟩
  · have e : Hid (S39 cs armed off losses wr fl rd cr k = false) := by simp only [Hid, S39, Dv.has, decide_eq_false h0, Bool.false_and]
    unfold S39 at e
    go_enter Tryz.func78, Tryz.ntmps78
    go_wp2
    go_ret
    exact ⟨by rw [e.out]; rfl, rfl⟩

set_option maxHeartbeats 400000 in
theorem pages_any (d p : Nat) (pd : List Value) (wa : Option Addr) (wc : Nat) (S : Dv) (w : World) (h : DvIn w d p pd wa wc S) :
    Calls Tryz.prog 23 #[.pointer (some ⟨d, 0, none⟩)] w fun e w' => e = .returned (.int .i64 S.cs.length) ∧ w' = w := by
  have c0 := h.dev.cell (i := 0) rfl
  clear h
  go_enter Tryz.func23, Tryz.ntmps23
  go_wp2
  go_ret
  exact ⟨rfl, rfl⟩

set_option maxHeartbeats 400000 in
theorem losses_any (d p : Nat) (pd : List Value) (wa : Option Addr) (wc : Nat) (S : Dv) (w : World) (h : DvIn w d p pd wa wc S) :
    Calls Tryz.prog 24 #[.pointer (some ⟨d, 0, none⟩)] w fun e w' => e = .returned (.int .i64 S.losses) ∧ w' = w := by
  have c4 := h.dev.cell (i := 4) rfl
  clear h
  go_enter Tryz.func24, Tryz.ntmps24
  go_wp2
  go_ret
  exact ⟨rfl, rfl⟩

end Go.Proofs.YtbccnfbombgdmaaGreat

/- slices.Insert of one element of three cells. -/
set_option linter.unusedVariables false
set_option linter.unusedSimpArgs false
set_option maxRecDepth 8000
namespace Go.Proofs.YtbccnfbombgdmaaGreat
open Go.RowKit Go.Deep

def zero73 : Value := .agg #[.int .i64 0, .int .u8 0, .string ⟨#[]⟩]
theorem info73 : (Tryz.prog.info? 137).map (fun i => (i.zero, i.size, i.bytes)) = some (some zero73, 3, 32) := by kernel_rfl
theorem info71 : (Tryz.prog.info? 125).map (fun i => (i.zero, i.size, i.bytes)) = some (some (.agg #[.int .u8 0, .string ⟨#[]⟩]), 2, 24) := by kernel_rfl

theorem run_copy_cellsK {P : Program} (w : World) (dT sT ty elem : TypeId) (b o dLen dCap : Nat) (a : Addr) (sLen sCap k : Nat) (cs : List Value)
    (hu : P.underlying dT = some (.slice elem)) (hs : (P.info? elem).map (·.size) = some k) (hk : 0 < k) (hn : cs.length = Nat.min sLen dLen * k)
    (hsrc : ∀ j v, cs[j]? = some v → w.cell? (a.add j) = some v) (hc : ∀ j, j < cs.length → (w.cell? ⟨b, o + j, none⟩).isSome = true) (hf : ∀ j, j < cs.length → w.frozen? ⟨b, o + j, none⟩ = false) (h1 : ∀ v ∈ cs, v.oneCell' = true) :
    (Builtin.copy_ #[dT, sT] ty #[.slice (some ⟨b, o, none⟩) dLen dCap, .slice (some a) sLen sCap]).run P w = .ok (goInt (Nat.min sLen dLen)) (w.setCells b o cs) := by
  have hl := run_loadCells_list (P := P) w a cs hsrc
  have hst := run_storeCells_cells (P := P) b o cs 0 w (by simpa using hc) (by simpa using hf) h1
  cases hq : P.info? elem with
  | none => simp [hq] at hs
  | some i =>
    have hi : i.size = k := by simpa [hq] using hs
    simp [Builtin.copy_, run_underlying hu, Builtin.lenOf, Builtin.firstCells, sizeOf, typeInfo, hq, hi, ← hn, hl, hst]

theorem one_of_wt (l : List (Nat × Pg)) : ∀ v ∈ wtRow l, v.oneCell' = true := by
  intro v hv
  obtain ⟨x, _, hx⟩ := List.mem_flatMap.1 hv
  simp only [wtCells, List.mem_cons, List.not_mem_nil, or_false] at hx
  rcases hx with rfl | rfl | rfl <;> rfl

theorem wtRow_length (l : List (Nat × Pg)) : (wtRow l).length = l.length * 3 := flat_length wtCells 3 (fun _ => rfl) l

theorem own_form {w : World} {wa : Option Addr} {n wc : Nat} {xs : List Value} (h : w.ownsRow 0 137 3 (.slice wa n wc) n xs) :
    (wa = none ∧ n = 0 ∧ wc = 0 ∧ xs = []) ∨ ∃ g pad, wa = some ⟨g, 0, none⟩ ∧ Blk w g (xs ++ pad) 137 ∧ n ≤ wc ∧ wc ≤ maxLen ∧ xs.length = n * 3 ∧ pad.length = (wc - n) * 3 := by
  obtain ⟨h1, h2⟩ := h
  rcases h2 with ⟨h2, h3⟩ | ⟨g, cap, cur, hv, _, hh, hn, hm, hs, ht⟩
  · simp only [Value.slice.injEq] at h2
    subst h3
    exact .inl ⟨h2.1, rfl, h2.2.2, List.eq_nil_of_length_eq_zero (by simpa using h1)⟩
  · simp only [Value.slice.injEq, true_and] at hv
    obtain ⟨rfl, rfl⟩ := hv
    refine .inr ⟨g, cur.toList.drop (n * 3), rfl, ?_, hn, hm, h1, ?_⟩
    · unfold Blk
      rw [← ht, List.take_append_drop, Array.toArray_toList]
      exact hh
    · rw [List.length_drop, Array.length_toList, hs, Nat.sub_mul]
theorem own_mk {w : World} {g n wc : Nat} {xs pad : List Value} (hb : Blk w g (xs ++ pad) 137) (hn : n ≤ wc) (hm : wc ≤ maxLen) (hx : xs.length = n * 3) (hp : pad.length = (wc - n) * 3) :
    w.ownsRow 0 137 3 (.slice (some ⟨g, 0, none⟩) n wc) n xs := by
  refine ⟨hx, .inr ⟨g, wc, (xs ++ pad).toArray, rfl, Nat.zero_le _, hb, hn, hm, ?_, ?_⟩⟩
  · rw [List.size_toArray, List.length_append, hx, hp, ← Nat.add_mul]
    congr 1
    omega
  · rw [← hx]
    simp

/-- At the end, and there is room. -/
theorem insert_end_room (g n wc : Nat) (xs pad vs : List Value) (vb : Nat) (w : World) (hb : Blk w g (xs ++ pad) 137) (hn : n + 1 ≤ wc) (hm : wc ≤ maxLen) (hl : n ≤ 100000) (hx : xs.length = n * 3) (hp : pad.length = (wc - n) * 3)
    (hv : Blk w vb vs 137) (hvl : vs.length = 3) (h1 : ∀ u ∈ vs, u.oneCell' = true) :
    Calls Tryz.prog 103 #[.slice (some ⟨g, 0, none⟩) n wc, .int .i64 n, .slice (some ⟨vb, 0, none⟩) 1 1] w fun e w' => e = .returned (.slice (some ⟨g, 0, none⟩) (n + 1) wc) ∧ w' = w.setCells g (n * 3) vs := by
  obtain ⟨i0, hi0, hp0⟩ := Option.map_eq_some_iff.1 info73
  simp only [Prod.mk.injEq] at hp0
  obtain ⟨hz0, hz1, hz2⟩ := hp0
  have hsrc : Src Tryz.prog i0.size 59 (.slice (some ⟨vb, 0, none⟩) 1 1) 1 vs w :=
    Src.ofSlice w Tryz.underlying59 ⟨vb, 0, none⟩ 1 1 vs (by rw [hz1]; omega) (fun j u hj => by rw [Addr.add_lit, Nat.zero_add]; exact hv.cell hj) h1
  have hrun : ∀ ty, (Builtin.append_ #[59, 59] ty #[.slice (some ⟨g, 0, none⟩) n wc, .slice (some ⟨vb, 0, none⟩) 1 1]).run Tryz.prog w = .ok (.slice (some ⟨g, 0, none⟩) (n + 1) wc) (w.setCells g (n * 3) vs) := fun ty => by
    have h := run_append_room_src w 59 59 ty 137 i0 Tryz.underlying59 hi0 g 0 n wc _ 1 vs hsrc hn (fun j hj => by
      have hlt : 0 + n * i0.size + j < (xs ++ pad).length := by rw [hz1, List.length_append, hx, hp]; omega
      rw [hb.cell (List.getElem?_eq_getElem hlt)]; rfl) (fun j hj => hb.frozen _)
    rw [hz1, Nat.zero_add] at h
    exact h
  have HR : Hid _ := hrun
  clear hrun hsrc hb hv hz0 hz1 hz2 hi0
  go_enter Tryz.func103, Tryz.ntmps103
  go_wp2_with (at_builtin; refine Lib.wpList_append_run _ rfl _ _ _ _ rfl _ _ rfl rfl _ _ (HR.out _) ?_)
  all_goals (go_ret; exact ⟨rfl, rfl⟩)

/-- At the end, and there is none. -/
theorem insert_end_grow (wa : Option Addr) (n wc : Nat) (xs vs : List Value) (vb : Nat) (w : World) (hn : wc < n + 1) (hnc : n ≤ wc) (hl : n ≤ 100000) (hx : xs.length = n * 3)
    (hold : ∀ a, wa = some a → ∀ j v, xs[j]? = some v → w.cell? (a.add j) = some v) (hnil : wa = none → n = 0)
    (hv : Blk w vb vs 137) (hvl : vs.length = 3) (h1 : ∀ u ∈ vs, u.oneCell' = true) :
    Calls Tryz.prog 103 #[.slice wa n wc, .int .i64 n, .slice (some ⟨vb, 0, none⟩) 1 1] w fun e w' => ∃ c', n + 1 ≤ c' ∧ c' ≤ maxLen ∧ e = .returned (.slice (some ⟨w.heap.size, 0, none⟩) (n + 1) c') ∧
      ∃ pad, pad.length = (c' - (n + 1)) * 3 ∧ w' = w.drew.alloc (.cells (xs ++ vs ++ pad).toArray 137) := by
  obtain ⟨i0, hi0, hp0⟩ := Option.map_eq_some_iff.1 info73
  simp only [Prod.mk.injEq] at hp0
  obtain ⟨hz0, hz1, hz2⟩ := hp0
  have hsrc : Src Tryz.prog i0.size 59 (.slice (some ⟨vb, 0, none⟩) 1 1) 1 vs w :=
    Src.ofSlice w Tryz.underlying59 ⟨vb, 0, none⟩ 1 1 vs (by rw [hz1]; omega) (fun j u hj => by rw [Addr.add_lit, Nat.zero_add]; exact hv.cell hj) h1
  have hfirst : (Builtin.firstCells i0.size n (.slice wa n wc)).run Tryz.prog w.drew = .ok xs.toArray w.drew := by
    cases wa with
    | none =>
      have h0 := hnil rfl
      subst h0
      obtain rfl : xs = [] := List.length_eq_zero_iff.1 (by simpa using hx)
      exact run_firstCells_none w.drew i0.size 0 0 wc
    | some a => exact run_firstCells_some w.drew i0.size n a n wc xs (by rw [hz1]; exact hx) (fun j v hj => hold a rfl j v hj)
  obtain ⟨c', hc'⟩ : ∃ c', c' = grownCap w (n + 1) wc 137 := ⟨_, rfl⟩
  obtain ⟨W1, hW1⟩ : ∃ W1, W1 = w.drew.alloc (.cells ((xs ++ vs).toArray ++ Builtin.zeroCells zero73.cells (c' - (n + 1))) 137) := ⟨_, rfl⟩
  have hrun : ∀ ty, (Builtin.append_ #[59, 59] ty #[.slice wa n wc, .slice (some ⟨vb, 0, none⟩) 1 1]).run Tryz.prog w = .ok (.slice (some ⟨w.heap.size, 0, none⟩) (n + 1) c') W1 := fun ty => by
    rw [hW1, hc']
    exact run_append_grow_src w 59 59 ty 137 i0 _ Tryz.underlying59 hi0 hz0 wa n wc xs hfirst _ 1 vs hsrc hn (by omega) (by rw [hz2]; exact growslice_fits hn (by omega))
  have hge : n + 1 ≤ c' := by rw [hc']; exact grownCap_ge w _ _ _
  have hle : c' ≤ maxLen := by rw [hc']; exact grownCap_le_maxLen w _ _ _ (by unfold maxLen; omega)
  have hfin : ∃ pad : List Value, pad.length = (c' - (n + 1)) * 3 ∧ W1 = w.drew.alloc (.cells (xs ++ vs ++ pad).toArray 137) := by
    refine ⟨(Builtin.zeroCells zero73.cells (c' - (n + 1))).toList, ?_, ?_⟩
    · rw [Array.length_toList, size_zeroCells]; rfl
    · rw [hW1]
      congr 2
      apply Array.ext'
      simp
  refine Calls.mono (R := fun e w' => e = .returned (.slice (some ⟨w.heap.size, 0, none⟩) (n + 1) c') ∧ w' = W1) ?_ (by rintro e w' ⟨rfl, rfl⟩; exact ⟨c', hge, hle, rfl, hfin⟩)
  have HR : Hid _ := hrun
  clear hrun hsrc hv hz0 hz1 hz2 hi0 hfirst hc' hge hle hfin hW1
  go_enter Tryz.func103, Tryz.ntmps103
  cases wa with
  | none =>
    have h0 := hnil rfl
    subst h0
    go_wp2_with (at_builtin; refine Lib.wpList_append_run _ rfl _ _ _ _ rfl _ _ rfl rfl _ _ (HR.out _) ?_)
    all_goals (go_ret; exact ⟨rfl, rfl⟩)
  | some a =>
    obtain ⟨ab, ao, asp⟩ := a
    go_wp2_with (at_builtin; refine Lib.wpList_append_run _ rfl _ _ _ _ rfl _ _ rfl rfl _ _ (HR.out _) ?_)
    all_goals (go_ret; exact ⟨rfl, rfl⟩)

/-- Ahead of the end, and there is no room. -/
theorem insert_mid_grow (g n wc i : Nat) (xs vs : List Value) (vb : Nat) (w : World) (hi : i < n) (hn : wc < n + 1) (hnc : n ≤ wc) (hl : n ≤ 100000) (hx : xs.length = n * 3)
    (hold : ∀ j v, xs[j]? = some v → w.cell? ⟨g, j, none⟩ = some v) (hx1 : ∀ u ∈ xs, u.oneCell' = true)
    (hv : Blk w vb vs 137) (hvl : vs.length = 3) (h1 : ∀ u ∈ vs, u.oneCell' = true) :
    Calls Tryz.prog 103 #[.slice (some ⟨g, 0, none⟩) n wc, .int .i64 i, .slice (some ⟨vb, 0, none⟩) 1 1] w fun e w' => ∃ c', n + 1 ≤ c' ∧ c' ≤ maxLen ∧ e = .returned (.slice (some ⟨w.heap.size, 0, none⟩) (n + 1) c') ∧
      ∃ M pad, M.length = (n + 1 - i) * 3 ∧ pad.length = (c' - (n + 1)) * 3 ∧
      w' = (((w.drew.alloc (.cells (xs.take (i * 3) ++ M ++ pad).toArray 137)).setCells w.heap.size (i * 3) vs).drew).setCells w.heap.size ((i + 1) * 3) (xs.drop (i * 3)) := by
  obtain ⟨i0, hi0, hp0⟩ := Option.map_eq_some_iff.1 info73
  simp only [Prod.mk.injEq] at hp0
  obtain ⟨hz0, hz1, hz2⟩ := hp0
  have hgw : g < w.heap.size := by
    have := hold 0 _ (List.getElem?_eq_getElem (by omega))
    exact block_lt_of_cell this
  have hsz : (Tryz.prog.info? 137).map (·.size) = some 3 := by rw [hi0]; simp [hz1]
  have hfirst : (Builtin.firstCells i0.size i (.slice (some ⟨g, 0, none⟩) i wc)).run Tryz.prog w.drew = .ok (xs.take (i * 3)).toArray w.drew := by
    rw [hz1]
    exact run_firstCells_some w.drew 3 i ⟨g, 0, none⟩ i wc (xs.take (i * 3)) (by rw [List.length_take]; omega) (fun j v hj => by
      rw [Addr.add_lit, Nat.zero_add]
      rw [List.getElem?_take] at hj
      split at hj
      · exact hold j v hj
      · cases hj)
  obtain ⟨c', hc'⟩ : ∃ c', c' = grownCap w (n + 1) wc 137 := ⟨_, rfl⟩
  have hge : n + 1 ≤ c' := by rw [hc']; exact grownCap_ge w _ _ _
  have hle : c' ≤ maxLen := by rw [hc']; exact grownCap_le_maxLen w _ _ _ (by unfold maxLen; omega)
  obtain ⟨M, hM⟩ : ∃ M : List Value, M = (Builtin.zeroCells zero73.cells (n + 1 - i)).toList := ⟨_, rfl⟩
  obtain ⟨pad, hpad⟩ : ∃ pad : List Value, pad = (Builtin.zeroCells zero73.cells (c' - (n + 1))).toList := ⟨_, rfl⟩
  have hMl : M.length = (n + 1 - i) * 3 := by rw [hM, Array.length_toList, size_zeroCells]; rfl
  have hpl : pad.length = (c' - (n + 1)) * 3 := by rw [hpad, Array.length_toList, size_zeroCells]; rfl
  obtain ⟨W1, hW1⟩ : ∃ W1, W1 = w.drew.alloc (.cells (xs.take (i * 3) ++ M ++ pad).toArray 137) := ⟨_, rfl⟩
  have hrz : ∀ ty, (Builtin.append_ #[59, 3] ty #[.slice (some ⟨g, 0, none⟩) i wc, .int .i64 ((n : Int) + 1 - (i : Int))]).run Tryz.prog w = .ok (.slice (some ⟨w.heap.size, 0, none⟩) (n + 1) c') W1 := fun ty => by
    have h := Lib.run_append_grow_zeros w 59 3 ty 137 i0 _ .i64 .i64 Tryz.underlying59 Tryz.underlying3 hi0 hz0 (some ⟨g, 0, none⟩) i wc (xs.take (i * 3)) hfirst (n + 1 - i) (by omega) (by omega) (by omega) (by omega) (by rw [hz2]; omega) (by rw [hz2, show i + (n + 1 - i) = n + 1 by omega]; exact growslice_fits hn (by omega))
    rw [show i + (n + 1 - i) = n + 1 by omega, ← hc'] at h
    rw [show (n : Int) + 1 - (i : Int) = ((n + 1 - i : Nat) : Int) by omega, h, hW1]
    congr 4
    apply Array.ext'
    simp [hM, hpad]
  have B1 : Blk W1 w.heap.size (xs.take (i * 3) ++ M ++ pad) 137 := by rw [hW1]; exact Blk.new w.drew _ 137
  have htl : (xs.take (i * 3)).length = i * 3 := by rw [List.length_take]; omega
  have hall : (xs.take (i * 3) ++ M ++ pad).length = c' * 3 := by simp only [List.length_append, htl, hMl, hpl]; omega
  have hsome : ∀ j, j < c' * 3 → (W1.cell? ⟨w.heap.size, j, none⟩).isSome = true := fun j hj => by
    rw [B1.cell (List.getElem?_eq_getElem (by omega : j < (xs.take (i * 3) ++ M ++ pad).length))]; rfl
  have hV1 : Blk W1 vb vs 137 := by rw [hW1]; exact Blk.alloc (w := w.drew) hv _
  obtain ⟨W2, hW2⟩ : ∃ W2, W2 = W1.setCells w.heap.size (i * 3) vs := ⟨_, rfl⟩
  have hcpA : ∀ ty dc, (Builtin.copy_ #[59, 59] ty #[.slice (some ⟨w.heap.size, i * 3, none⟩) (n + 1 - i) dc, .slice (some ⟨vb, 0, none⟩) 1 1]).run Tryz.prog W1 = .ok (goInt 1) W2 := fun ty dc => by
    rw [hW2]
    have := run_copy_cellsK W1 59 59 ty 137 w.heap.size (i * 3) (n + 1 - i) dc ⟨vb, 0, none⟩ 1 1 3 vs Tryz.underlying59 hsz (by decide) (by rw [hvl, show Nat.min 1 (n + 1 - i) = 1 by simp only [Nat.min_def]; split <;> omega])
      (fun j v hj => by rw [Addr.add_lit, Nat.zero_add]; exact hV1.cell hj) (fun j hj => hsome _ (by omega)) (fun j hj => B1.frozen _) h1
    rw [show Nat.min 1 (n + 1 - i) = 1 by simp only [Nat.min_def]; split <;> omega] at this
    exact this
  have hG2 : ∀ j v, xs[j]? = some v → W2.cell? ⟨g, j, none⟩ = some v := fun j v hj => by
    rw [hW2, World.cell?_setCells_out _ _ _ _ _ (fun h _ => absurd h (by simp; omega)), hW1, World.cell?_alloc_past (w := w.drew) _ g j hgw]
    exact hold j v hj
  obtain ⟨W3, hW3⟩ : ∃ W3, W3 = W2.drew.setCells w.heap.size ((i + 1) * 3) (xs.drop (i * 3)) := ⟨_, rfl⟩
  have hcpB : ∀ ty dc sc, (Builtin.copy_ #[59, 59] ty #[.slice (some ⟨w.heap.size, (i + 1) * 3, none⟩) (n + 1 - (i + 1)) dc, .slice (some ⟨g, i * 3, none⟩) (n - i) sc]).run Tryz.prog W2.drew = .ok (goInt (n - i : Nat)) W3 := fun ty dc sc => by
    rw [hW3]
    have hmn : Nat.min (n - i) (n + 1 - (i + 1)) = n - i := by simp only [Nat.min_def]; split <;> omega
    have := run_copy_cellsK W2.drew 59 59 ty 137 w.heap.size ((i + 1) * 3) (n + 1 - (i + 1)) dc ⟨g, i * 3, none⟩ (n - i) sc 3 (xs.drop (i * 3)) Tryz.underlying59 hsz (by decide) (by rw [List.length_drop, hx, hmn]; omega)
      (fun j v hj => by rw [Addr.add_lit]; rw [List.getElem?_drop] at hj; exact hG2 _ v hj)
      (fun j hj => by
        rw [List.length_drop, hx] at hj
        show (W2.cell? _).isSome = true
        rw [hW2]
        exact isSome_setCells _ _ _ _ (fun t ht => hsome _ (by omega)) _ (hsome _ (by omega)))
      (fun j hj => by show W2.frozen? _ = false; rw [hW2, World.frozen?_setCells]; exact B1.frozen _) (fun v hv => hx1 v (List.mem_of_mem_drop hv))
    rw [hmn] at this
    exact this
  refine Calls.mono (R := fun e w' => e = .returned (.slice (some ⟨w.heap.size, 0, none⟩) (n + 1) c') ∧ w' = W3) ?_ (by rintro e w' ⟨rfl, rfl⟩; exact ⟨c', hge, hle, rfl, M, pad, hMl, hpl, by rw [hW3, hW2, hW1]⟩)
  have hw1 : IntKind.i64.wrap ((i : Int) + 1) = (i : Int) + 1 := by rw [IntKind.wrap_i64]; omega
  have hb1 : (0 : Int) ≤ (i : Int) + 1 := by omega
  have hin1 : (i : Int) ≤ (n : Int) + 1 := by omega
  have htn : ((i : Int) + 1).toNat = i + 1 := by omega
  have hz2i : ¬ ((i : Int) = (n : Int)) := by omega
  have hz3 : (wc : Int) < (n : Int) + 1 := by omega
  have hb3 : (i : Int) ≤ (n : Int) := by omega
  have hcwc : (i : Int) ≤ (wc : Int) := by omega
  have HR : Hid _ := hrz
  have HB : Hid _ := hcpB
  have hc63 : (c' : Int) ≤ 9223372036854775807 := by unfold maxLen at hle; omega
  have hwc : ¬ wc = i := by omega
  have hcc : ¬ c' = i := by omega
  have hcc1 : ¬ c' = i + 1 := by omega
  have hcc2 : (i : Int) + 1 ≤ (n : Int) + 1 := by omega
  clear hrz hcpB hv hz0 hz1 hz2 hi0 hfirst hc' hge hle hW1 hW2 hW3 hG2 hV1 hsome hall htl B1 hpl hMl hM hpad hsz hold
  go_enter Tryz.func103, Tryz.ntmps103
  go_wp2_with (at_builtin; refine Lib.wpList_append_run _ rfl _ _ _ _ rfl _ _ rfl rfl _ _ (HR.out _) ?_)
  go_region_law (refine step_copy_runI rfl _ _ 59 59 rfl (.slice (some ⟨w.heap.size, (i + 1) * 3, none⟩) (n + 1 - (i + 1)) (c' - (i + 1))) (.slice (some ⟨g, i * 3, none⟩) (n - i) (wc - i)) (by simp [Act.eval, Act.put]) (by simp [Act.eval, Act.put]) (HB.out _ _ _) ?_)
  go_wp2
  go_ret
  exact ⟨rfl, rfl⟩

/-- Ahead of the end, and there is room. -/
theorem insert_mid_room (g n wc i : Nat) (xs pad vs : List Value) (vb : Nat) (w : World) (hi : i < n) (hb : Blk w g (xs ++ pad) 137) (hn : n + 1 ≤ wc) (hm : wc ≤ maxLen) (hl : n ≤ 100000) (hx : xs.length = n * 3) (hp : pad.length = (wc - n) * 3)
    (hx1 : ∀ u ∈ xs, u.oneCell' = true) (hvb : vb ≠ g) (hv : Blk w vb vs 137) (hvl : vs.length = 3) (h1 : ∀ u ∈ vs, u.oneCell' = true) :
    Calls Tryz.prog 103 #[.slice (some ⟨g, 0, none⟩) n wc, .int .i64 i, .slice (some ⟨vb, 0, none⟩) 1 1] w fun e w' => e = .returned (.slice (some ⟨g, 0, none⟩) (n + 1) wc) ∧
      w' = (w.drew.setCells g ((i + 1) * 3) (xs.drop (i * 3))).setCells g (i * 3) vs := by
  obtain ⟨i0, hi0, hp0⟩ := Option.map_eq_some_iff.1 info73
  simp only [Prod.mk.injEq] at hp0
  obtain ⟨hz0, hz1, hz2⟩ := hp0
  have hsz : (Tryz.prog.info? 137).map (·.size) = some 3 := by rw [hi0]; simp [hz1]
  have hall : (xs ++ pad).length = wc * 3 := by rw [List.length_append, hx, hp]; omega
  have hsome : ∀ j, j < wc * 3 → (w.cell? ⟨g, j, none⟩).isSome = true := fun j hj => by
    rw [hb.cell (List.getElem?_eq_getElem (by omega : j < (xs ++ pad).length))]; rfl
  have hov : ∀ lb cb, (callFunc 107 #[.slice (some ⟨vb, 0, none⟩) 1 1, .slice (some ⟨g, (i + 1) * 3, none⟩) lb cb]).run Tryz.prog w = .ok (.value (.bool false)) w := fun lb cb => by
    have hsa : w.shape? vb = some (137, vs.length) := by unfold Blk at hv; simp [World.shape?, hv]
    have hsb : w.shape? g = some (137, (xs ++ pad).length) := by unfold Blk at hb; simp [World.shape?, hb]
    rw [run_callFunc_extern Tryz.func107 (by kernel_rfl) (by kernel_rfl) (by kernel_rfl) (e := Extern.SlicesOverlaps.overlaps #[59, 59] #[4]) (by kernel_rfl),
      Lib.run_overlaps_apart w 59 4 137 Tryz.underlying59 3 (fun w => by simp [sizeOf, typeInfo, hi0, hz1]) ⟨vb, 0, none⟩ ⟨g, (i + 1) * 3, none⟩ 1 1 lb cb hvb 137 137 _ _ hsa hsb (by omega) (hv.frozen _) (hv.frozen _)]
    rfl
  obtain ⟨W1, hW1⟩ : ∃ W1, W1 = w.drew.setCells g ((i + 1) * 3) (xs.drop (i * 3)) := ⟨_, rfl⟩
  have hdl : (xs.drop (i * 3)).length = (n - i) * 3 := by rw [List.length_drop, hx]; omega
  have hcp1 : ∀ ty dc sc, (Builtin.copy_ #[59, 59] ty #[.slice (some ⟨g, (i + 1) * 3, none⟩) (n + 1 - (i + 1)) dc, .slice (some ⟨g, i * 3, none⟩) (n + 1 - i) sc]).run Tryz.prog w.drew = .ok (goInt (n - i : Nat)) W1 := fun ty dc sc => by
    rw [hW1]
    have hmn : Nat.min (n + 1 - i) (n + 1 - (i + 1)) = n - i := by simp only [Nat.min_def]; split <;> omega
    have := run_copy_cellsK w.drew 59 59 ty 137 g ((i + 1) * 3) (n + 1 - (i + 1)) dc ⟨g, i * 3, none⟩ (n + 1 - i) sc 3 (xs.drop (i * 3)) Tryz.underlying59 hsz (by decide) (by rw [hdl, hmn])
      (fun j v hj => by
        rw [Addr.add_lit]; rw [List.getElem?_drop] at hj
        exact Blk.cell (w := w.drew) hb (by rw [List.getElem?_append_left (List.getElem?_eq_some_iff.1 hj).1]; exact hj))
      (fun j hj => hsome _ (by omega)) (fun j hj => Blk.frozen (w := w.drew) hb _) (fun v hv => hx1 v (List.mem_of_mem_drop hv))
    rw [hmn] at this
    exact this
  obtain ⟨W2, hW2⟩ : ∃ W2, W2 = W1.setCells g (i * 3) vs := ⟨_, rfl⟩
  have hcp2 : ∀ ty dc, (Builtin.copy_ #[59, 59] ty #[.slice (some ⟨g, i * 3, none⟩) (n + 1 - i) dc, .slice (some ⟨vb, 0, none⟩) 1 1]).run Tryz.prog W1 = .ok (goInt 1) W2 := fun ty dc => by
    rw [hW2]
    have hmn : Nat.min 1 (n + 1 - i) = 1 := by simp only [Nat.min_def]; split <;> omega
    have := run_copy_cellsK W1 59 59 ty 137 g (i * 3) (n + 1 - i) dc ⟨vb, 0, none⟩ 1 1 3 vs Tryz.underlying59 hsz (by decide) (by rw [hvl, hmn])
      (fun j v hj => by rw [Addr.add_lit, Nat.zero_add, hW1, World.cell?_setCells_out _ _ _ _ _ (fun h _ => absurd h hvb)]; exact Blk.cell (w := w.drew) hv hj)
      (fun j hj => by rw [hW1]; exact isSome_setCells g (xs.drop (i * 3)) ((i + 1) * 3) w.drew (fun t ht => hsome _ (by omega)) _ (hsome _ (by omega)))
      (fun j hj => by rw [hW1, World.frozen?_setCells]; exact Blk.frozen (w := w.drew) hb _) h1
    rw [hmn] at this
    exact this
  refine Calls.mono (R := fun e w' => e = .returned (.slice (some ⟨g, 0, none⟩) (n + 1) wc) ∧ w' = W2) ?_ (by rintro e w' ⟨rfl, rfl⟩; exact ⟨rfl, by rw [hW2, hW1]⟩)
  have hw1 : IntKind.i64.wrap ((i : Int) + 1) = (i : Int) + 1 := by rw [IntKind.wrap_i64]; omega
  have hb1 : (0 : Int) ≤ (i : Int) + 1 := by omega
  have hin1 : (i : Int) ≤ (n : Int) + 1 := by omega
  have htn : ((i : Int) + 1).toNat = i + 1 := by omega
  have hz2i : ¬ ((i : Int) = (n : Int)) := by omega
  have hz3 : ¬ (wc : Int) < (n : Int) + 1 := by omega
  have hb3 : (i : Int) ≤ (n : Int) := by omega
  have hcwc : (i : Int) ≤ (wc : Int) := by omega
  have HA : Hid _ := hcp1
  have hc63 : (wc : Int) ≤ 9223372036854775807 := by unfold maxLen at hm; omega
  have hwc : ¬ wc = i := by omega
  have hwc1 : ¬ wc = i + 1 := by omega
  have hcc2 : (i : Int) + 1 ≤ (n : Int) + 1 := by omega
  clear hcp1 hv hb hz0 hz1 hz2 hi0 hW1 hW2 hsome hall hsz hdl
  go_enter Tryz.func103, Tryz.ntmps103
  go_wp2_with (simp only [hov])
  go_region_law (refine step_copy_runI rfl _ _ 59 59 rfl (.slice (some ⟨g, (i + 1) * 3, none⟩) (n + 1 - (i + 1)) (wc - (i + 1))) (.slice (some ⟨g, i * 3, none⟩) (n + 1 - i) (wc - i)) (by simp [Act.eval, Act.put]) (by simp [Act.eval, Act.put]) (HA.out _ _ _) ?_)
  go_wp2
  go_ret
  exact ⟨rfl, rfl⟩
end Go.Proofs.YtbccnfbombgdmaaGreat
