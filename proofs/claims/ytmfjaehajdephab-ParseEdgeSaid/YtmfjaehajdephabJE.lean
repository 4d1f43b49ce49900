/- Texts joined. -/
import Derived.Test.YtmfjaehajdephabJS
import Derived.Maps.AppendAt
import Derived.Test.YtmfjaehajdephabJR
/-
  A queue in memory: what is used up, what is added.
-/
namespace Go.Proofs.Ytmfjaehajdephab
open Go.Shelf Go.RowKit Go.Deep
set_option linter.unusedVariables false
set_option linter.unusedSimpArgs false
set_option maxRecDepth 1000000

/-- A queue at the head of block p: its bytes v (a row of the block's own, laid behind p), of which those from beg on wait: F. -/
structure QAt (w : World) (p : Nat) (v : Value) (beg : Nat) (R : List Value) (t : TypeId) (F : List UInt8) (N : Nat) : Prop where
  blk : Blk w p (v :: .int .i64 (beg : Int) :: R) t
  row : ∃ a n cap L, v = .slice a n cap ∧ w.ownsRow (p + 1) 5 1 v n (bC L) ∧ beg ≤ n ∧ n ≤ N ∧ L.drop beg = F
theorem QAt.cells {w : World} {p : Nat} {v : Value} {beg : Nat} {R : List Value} {t : TypeId} {F : List UInt8} {N : Nat} (h : QAt w p v beg R t F N) :
    w.cell? ⟨p, 0, none⟩ = some v ∧ w.cell? ⟨p, 1, none⟩ = some (.int .i64 (beg : Int)) ∧ w.frozen? ⟨p, 0, none⟩ = false ∧ w.frozen? ⟨p, 1, none⟩ = false :=
  ⟨h.blk.cell (i := 0) rfl, h.blk.cell (i := 1) rfl, h.blk.frozen 0, h.blk.frozen 1⟩
theorem own_same {w W : World} {base e k n : Nat} {v : Value} {xs : List Value} (h : w.ownsRow base e k v n xs) (hs : ∀ g, v.ownBlock = some g → W.heap[g]? = w.heap[g]?) : W.ownsRow base e k v n xs := by
  refine ⟨h.1, ?_⟩
  rcases h.2 with h0 | ⟨g, cap, cur, hv, hB, hg, rest⟩
  · exact .inl h0
  · exact .inr ⟨g, cap, cur, hv, hB, (hs g (by rw [hv]; rfl)).trans hg, rest⟩
theorem own_ge {w : World} {base e k n : Nat} {v : Value} {xs : List Value} (h : w.ownsRow base e k v n xs) : ∀ g, v.ownBlock = some g → base ≤ g ∧ g < w.heap.size ∧ ∃ cs fz, w.heap[g]? = some (.cells cs e fz) := fun g hg => by
  rcases h.2 with ⟨hv, _⟩ | ⟨g', cap, cur, hv, hB, hgg, rest⟩
  · rw [hv] at hg; cases hg
  · rw [hv] at hg
    cases hg
    exact ⟨hB, (Array.getElem?_eq_some_iff.1 hgg).1, _, _, hgg⟩
/-- Behind a use: the block p and rows of bytes that are new. -/
def UseQ (w : World) (p : Nat) (v : Value) (R : List Value) (t : TypeId) (F : List UInt8) (N : Nat) (e : Ending) (w' : World) : Prop :=
  e = .returned (.tuple #[]) ∧ ∃ v' beg', QAt w' p v' beg' R t F N ∧ Keep [p] w w' ∧ (∀ g, v'.ownBlock = some g → v.ownBlock = some g ∨ w.heap.size ≤ g)
theorem use_few (w : World) (p : Nat) (v : Value) (a : Option Addr) (n cap beg k : Nat) (hv : v = .slice a n cap) (c0 : w.cell? ⟨p, 0, none⟩ = some v) (c1 : w.cell? ⟨p, 1, none⟩ = some (.int .i64 (beg : Int))) (f1 : w.frozen? ⟨p, 1, none⟩ = false)
    (hk : beg + k ≤ n) (hN : n ≤ 1000000) (hs : ¬ n / 2 < beg + k) :
    Calls Try.prog 39 #[.pointer (some ⟨p, 0, none⟩), .int .i64 (k : Int)] w fun e w' => e = .returned (.tuple #[]) ∧ ∃ m, w' = (w.setCell ⟨p, 1, none⟩ (.int .i64 ((beg + k : Nat) : Int))).drewN m := by
  subst hv
  have hwr : IntKind.i64.wrap ((beg : Int) + (k : Int)) = ((beg + k : Nat) : Int) := by rw [IntKind.wrap_i64]; omega
  have hq : ((n : Int).tdiv 2) = ((n / 2 : Nat) : Int) := rfl
  obtain ⟨z, hz⟩ : ∃ z, z = beg + k := ⟨_, rfl⟩
  rw [← hz] at hwr hs ⊢
  have hlt : (((n / 2 : Nat) : Int) < (z : Int)) = False := by simp; omega
  have hz1 : z ≤ 1000000 := by omega
  clear hz hk
  go_enter Try.func39, Try.ntmps39
  go_wp2
  go_quiet (fail)
  go_wp2
  go_returns
  exact ⟨rfl, _, rfl⟩
theorem clone_bs (a : Option Addr) (n cap : Nat) (l : List UInt8) (w : World) (h : BS w a n cap l) (hn : n ≤ 1000000) :
    Calls Try.prog 60 #[.slice a n cap] w fun e w' => ∃ a' c', e = .returned (.slice a' n c') ∧ w'.ownsRow w.heap.size 5 1 (.slice a' n c') n (bC l) ∧ Below w.heap.size w w' := by
  have hl := h.len
  cases a with
  | none =>
    have h0 : n = 0 := by
      rcases Nat.eq_zero_or_pos n with h0 | h0
      · exact h0
      · obtain ⟨b, off, ha, _⟩ := h.cell 0 h0
        cases ha
    subst h0
    have e : l = [] := List.eq_nil_of_length_eq_zero hl.symm
    subst e
    refine (Try.bytes_Clone_nil 0 cap w).mono ?_
    rintro e w' ⟨rfl, rfl⟩
    exact ⟨none, 0, rfl, World.ownsRow_nil _ _ _ _, Below.refl _ _⟩
  | some x =>
    refine (Try.bytes_Clone_at x n cap (nums l) w (by rw [nums_len, hl]) (by omega) (fun i hi => ?_)).mono ?_
    · obtain ⟨b, off, ha, _, hc⟩ := h.cell i hi
      cases ha
      rw [Addr.add_lit, hc, nums_getD]
    · rintro e w' ⟨v', rfl, ho, hv, hb⟩
      have e1 : (nums l).map (Value.int .u8) = bC l := by simp [nums, bC]
      rw [e1] at ho
      rcases ho.2 with ⟨hv', _⟩ | ⟨g, c, cur, hv', _⟩
      · exact absurd hv' hv
      · subst hv'
        exact ⟨_, _, rfl, ho, hb⟩
theorem use_many (w : World) (p : Nat) (v : Value) (R : List Value) (t : TypeId) (a : Option Addr) (n cap beg k : Nat) (L : List UInt8) (hv : v = .slice a n cap) (hblk : Blk w p (v :: .int .i64 (beg : Int) :: R) t)
    (ho : w.ownsRow (p + 1) 5 1 v n (bC L)) (hk : beg + k ≤ n) (hN : n ≤ 1000000) (hs : n / 2 < beg + k) :
    Calls Try.prog 39 #[.pointer (some ⟨p, 0, none⟩), .int .i64 (k : Int)] w fun e w' => e = .returned (.tuple #[]) ∧ ∃ W a' c', w' = (W.setCell ⟨p, 0, none⟩ (.slice a' (n - (beg + k)) c')).setCell ⟨p, 1, none⟩ (.int .i64 0) ∧
      W.ownsRow w.heap.size 5 1 (.slice a' (n - (beg + k)) c') (n - (beg + k)) (bC (L.drop (beg + k))) ∧ Below w.heap.size (w.setCell ⟨p, 1, none⟩ (.int .i64 ((beg + k : Nat) : Int))) W := by
  subst hv
  have c0 : w.cell? ⟨p, 0, none⟩ = some (.slice a n cap) := hblk.cell (i := 0) rfl
  have c1 : w.cell? ⟨p, 1, none⟩ = some (.int .i64 (beg : Int)) := hblk.cell (i := 1) rfl
  have f0 := hblk.frozen 0
  have f1 := hblk.frozen 1
  have hwr : IntKind.i64.wrap ((beg : Int) + (k : Int)) = ((beg + k : Nat) : Int) := by rw [IntKind.wrap_i64]; omega
  have hq : ((n : Int).tdiv 2) = ((n / 2 : Nat) : Int) := rfl
  obtain ⟨z, hz⟩ : ∃ z, z = beg + k := ⟨_, rfl⟩
  rw [← hz] at hwr hs ⊢
  have hlt : (((n / 2 : Nat) : Int) < (z : Int)) = True := by simp; omega
  have hz1 : z ≤ 1000000 := by omega
  have hB1 := hblk.set 1 (.int .i64 (z : Int))
  have hsz1 : (w.setCell ⟨p, 1, none⟩ (.int .i64 (z : Int))).heap.size = w.heap.size := nblk_setCell _ _ _
  have ho1 : (w.setCell ⟨p, 1, none⟩ (.int .i64 (z : Int))).ownsRow (p + 1) 5 1 (.slice a n cap) n (bC L) := own_same ho (fun g hg => blk_setCell_other _ _ _ _ (by have := (own_ge ho g hg).1; show g ≠ p; omega))
  obtain ⟨a', c', hB, hA1, hA2, _, _, hA⟩ := all_any (w.setCell ⟨p, 1, none⟩ (.int .i64 (z : Int))) p (p + 1) a n cap z L ho1 (by omega)
  obtain ⟨W1, hW1⟩ : ∃ W1, W1 = w.setCell ⟨p, 1, none⟩ (.int .i64 (z : Int)) := ⟨_, rfl⟩
  rw [← hW1] at hB hsz1 hB1 ⊢
  have d0 : W1.cell? ⟨p, 0, none⟩ = some (.slice a n cap) := hB1.cell (i := 0) rfl
  have d1 : W1.cell? ⟨p, 1, none⟩ = some (.int .i64 (z : Int)) := hB1.cell (i := 1) rfl
  have HB1 := hide hB1
  have HW1 := hide hW1
  have HA := hide hA
  have HB := hide hB
  have HS1 := hide hsz1
  obtain ⟨n1, hn1⟩ : ∃ n1, n1 = n - z := ⟨_, rfl⟩
  rw [← hn1] at HA HB ⊢
  have hn1b : n1 ≤ 1000000 := by omega
  have hp1 : p < W1.heap.size := hB1.lt
  have HSs := hide hs
  clear hB1 hW1 hA hB hsz1 hn1 hz ho1 hA1 hA2 hk hs hblk ho
  go_enter Try.func39, Try.ntmps39
  go_wp2
  rw [← HW1.out]
  go_quiet (fail)
  go_wp2_with fail
  refine Calls.mono (HA.out _ ?_ ?_) ?_
  · exact d0
  · exact d1
  rintro e w2 ⟨rfl, m2, rfl⟩
  go_wp2_with fail
  refine Calls.mono (clone_bs a' n1 c' (L.drop z) _ ?_ hn1b) ?_
  · exact HB.out.heap rfl
  rintro e w3 ⟨a2, c2, rfl, ho3, hb⟩
  have hb1 : Below W1.heap.size W1 w3 := ⟨hb.os, hb.tape, hb.output, hb.size, hb.block⟩
  have B3 : Blk w3 p (.slice a n cap :: .int .i64 (z : Int) :: R) t := HB1.out.same (hb1.block p hp1)
  have e0 : w3.cell? ⟨p, 0, none⟩ = some (.slice a n cap) := B3.cell (i := 0) rfl
  have e1 : w3.cell? ⟨p, 1, none⟩ = some (.int .i64 (z : Int)) := B3.cell (i := 1) rfl
  have j0 := B3.frozen 0
  have j1 := B3.frozen 1
  have HO3 := hide ho3
  have HBB := hide hb1
  clear ho3 hb hb1 B3 d0 d1 c0 c1 f0 f1
  go_wp2
  go_returns
  exact ⟨rfl, w3, a2, c2, rfl, by have := HO3.out; rwa [show (W1.drewN _).heap.size = w.heap.size from HS1.out] at this, by have := HBB.out; rwa [HS1.out] at this⟩
  all_goals (exfalso; have := HSs.out; omega)
theorem use_any (w : World) (p : Nat) (v : Value) (beg k N : Nat) (R : List Value) (t : TypeId) (F : List UInt8) (h : QAt w p v beg R t F N) (ht : t ≠ 5) (hk : k ≤ F.length) (hN : N ≤ 1000000) :
    Calls Try.prog 39 #[.pointer (some ⟨p, 0, none⟩), .int .i64 (k : Int)] w (UseQ w p v R t (F.drop k) N) := by
  obtain ⟨a, n, cap, L, hv, ho, hb, hn, hF⟩ := h.row
  have hL : n = L.length := by have := ho.1; simp [bC] at this; omega
  have hkn : beg + k ≤ n := by rw [← hF, List.length_drop] at hk; omega
  have hp := h.blk.lt
  by_cases hs : n / 2 < beg + k
  · refine (use_many w p v R t a n cap beg k L hv h.blk ho hkn (by omega) hs).mono ?_
    rintro e w' ⟨rfl, W, a', c', rfl, ho', hb'⟩
    have hW : Blk W p (v :: .int .i64 ((beg + k : Nat) : Int) :: R) t := (h.blk.set 1 (.int .i64 ((beg + k : Nat) : Int))).same (hb'.block p hp)
    have hks : Keep [p] w W := by
      have h1 : Keep [p] w (w.setCell ⟨p, 1, none⟩ (.int .i64 ((beg + k : Nat) : Int))) := (Keep.refl _ _).setCell (.inl (by simp)) _
      have h2 : Keep ([] : List Nat) (w.setCell ⟨p, 1, none⟩ (.int .i64 ((beg + k : Nat) : Int))) W := Keep.of_below (by rw [nblk_setCell]; exact hb')
      exact h1.trans h2 (fun x hx => by cases hx)
    have hk2 : Keep [p] W ((W.setCell ⟨p, 0, none⟩ (.slice a' (n - (beg + k)) c')).setCell ⟨p, 1, none⟩ (.int .i64 0)) := ((Keep.refl _ _).setCell (.inl (by simp)) _).setCell (.inl (by simp)) _
    refine ⟨rfl, .slice a' (n - (beg + k)) c', 0, ⟨(hW.set 0 _).set 1 _, a', n - (beg + k), c', L.drop (beg + k), rfl, ?_, Nat.zero_le _, by omega, ?_⟩, hks.trans hk2 (fun x hx => .inl hx), fun g hg => .inr (own_ge ho' g hg).1⟩
    · have h3 := own_same ho' (W := (W.setCell ⟨p, 0, none⟩ (.slice a' (n - (beg + k)) c')).setCell ⟨p, 1, none⟩ (.int .i64 0)) (fun g hg => hk2.block g (own_ge ho' g hg).2.1 (by
        intro hgp
        simp only [List.mem_singleton] at hgp
        have := (own_ge ho' g hg).1
        omega))
      exact Joins.ownsRow_le h3 (by omega)
    · rw [List.drop_zero, ← hF, List.drop_drop]
  · have hc := h.cells
    refine (use_few w p v a n cap beg k hv hc.1 hc.2.1 hc.2.2.2 hkn (by omega) hs).mono ?_
    rintro e w' ⟨rfl, m, rfl⟩
    have hB := h.blk.set 1 (.int .i64 ((beg + k : Nat) : Int))
    refine ⟨rfl, v, beg + k, ⟨hB, a, n, cap, L, hv, own_same ho (fun g hg => blk_setCell_other _ _ _ _ (by have := (own_ge ho g hg).1; show g ≠ p; omega)), by omega, hn, ?_⟩, ?_, fun g hg => .inl hg⟩
    · rw [← hF, List.drop_drop]
    · have hk2 : Keep [p] w (w.setCell ⟨p, 1, none⟩ (.int .i64 ((beg + k : Nat) : Int))) := (Keep.refl _ _).setCell (.inl (by simp)) _
      exact ⟨hk2.os, hk2.tape, hk2.output, hk2.size, hk2.block⟩
theorem infoU8 : ∃ i0, Try.prog.info? 5 = some i0 ∧ i0.zero = some (.int .u8 0) ∧ i0.size = 1 ∧ i0.bytes = 1 := by
  obtain ⟨i, hi, he⟩ := Option.map_eq_some_iff.1 (show (Try.prog.info? 5).map (fun i => (i.zero, i.size, i.bytes)) = some (some (.int .u8 0), 1, 1) by kernel_rfl)
  simp only [Prod.mk.injEq] at he
  exact ⟨i, hi, he.1, he.2.1, he.2.2⟩
def AddQ (w : World) (p : Nat) (v : Value) (beg : Nat) (R : List Value) (t : TypeId) (F : List UInt8) (N : Nat) (e : Ending) (w' : World) : Prop :=
  e = .returned (.tuple #[]) ∧ ∃ v', QAt w' p v' beg R t F N ∧ Keep (p :: v.ownBlock.toList) w w' ∧ (∀ g, v'.ownBlock = some g → v.ownBlock = some g ∨ w.heap.size ≤ g)
theorem add_any (w : World) (p : Nat) (v : Value) (beg N : Nat) (R : List Value) (t : TypeId) (F : List UInt8) (h : QAt w p v beg R t F N) (x : Addr) (m cap : Nat) (l : List UInt8) (hb : BS w (some x) m cap l) (hN : N + m ≤ 1000000) :
    Calls Try.prog 18 #[.pointer (some ⟨p, 0, none⟩), .slice (some x) m cap] w (AddQ w p v beg R t (F ++ l) (N + m)) := by
  obtain ⟨a, n, c, L, hv, ho, hbn, hn, hF⟩ := h.row
  obtain ⟨i0, hi, hz0, hz1, hz2⟩ := infoU8
  have hp := h.blk.lt
  have hml := hb.len
  have hL : n = L.length := by have := ho.1; simp [bC] at this; omega
  have c0 := h.blk.cell (i := 0) rfl
  have f0 := h.blk.frozen 0
  subst hv
  have HBS := hide hb
  have HO := hide ho
  have HBK := hide h.blk
  have HF := hide hF
  have HLn := hide hL
  have HM := hide hml
  clear h hb ho hF hL hml
  go_enter Try.func18, Try.ntmps18
  go_wp2_with (at_builtin; refine wpList_append_own_at _ rfl _ _ 26 rfl (p + 1) 5 i0 (.int .u8 0) 1 1 Try.underlying26 hi hz0 hz1 hz2 rfl (by decide) _ _ _ rfl HO.out x m cap (bC l) rfl ?c0 ?c1 ?c2 ?c3 ?c4 ?c5 ?_)
  case c0 => simp [bC, HM.out]
  case c1 =>
    intro j u hj
    have hjm : j < l.length := by have := (List.getElem?_eq_some_iff.1 hj).1; simpa [bC] using this
    obtain ⟨b, off, ha, _, hc⟩ := HBS.out.cell j (by rw [HM.out]; exact hjm)
    cases ha
    rw [Addr.add_lit, hc]
    have e : (bC l)[j]? = some (.int .u8 ((l.getD j 0).toNat : Int)) := by simp [bC, List.getD_eq_getElem?_getD, List.getElem?_eq_getElem hjm]
    rw [e] at hj
    exact hj
  case c2 => intro u hu; obtain ⟨y, _, rfl⟩ := List.mem_map.1 hu; rfl
  case c3 => unfold maxLen; omega
  case c4 => omega
  case c5 => omega
  intro v' w1 hown' hgrow hnil hat
  have hlt : ∀ q, (Value.slice a n c).ownBlock = some q → p + 1 ≤ q := fun q hq => (own_ge HO.out q hq).1
  have B1 : Blk w1 p (.slice a n c :: .int .i64 (beg : Int) :: R) t := HBK.out.same (hgrow.block p hp (fun e => by have := hlt _ e.symm; omega))
  have d0 := B1.cell (i := 0) rfl
  have e0 := B1.frozen 0
  have hk1 : Keep (p :: (Value.slice a n c).ownBlock.toList) w w1 := (Keep.refl _ _).grown hgrow (fun q hq => .inl (by rw [hq]; simp))
  have hsl : ∃ a' c', v' = .slice a' (n + m) c' := by
    rcases hown'.2 with ⟨hv, h0⟩ | ⟨g, c', cur, hv, _⟩
    · exact ⟨none, 0, by rw [hv, h0]⟩
    · exact ⟨_, _, hv⟩
  obtain ⟨a', c', rfl⟩ := hsl
  have HB1 := hide B1
  have HK1 := hide hk1
  have HO1 := hide hown'
  have HG : Hid (∀ g, (Value.slice a' (n + m) c').ownBlock = some g → (Value.slice a n c).ownBlock = some g ∨ w.heap.size ≤ g) := fun g hg => by
    rcases hat with h | h
    · left; rw [← h]; exact hg
    · right; rw [h] at hg; cases hg; exact Nat.le_refl _
  clear hown' hgrow hnil B1 hk1 c0 f0 hlt hat
  go_wp2
  go_returns
  refine ⟨rfl, .slice a' (n + m) c', ⟨HB1.out.set 0 _, a', n + m, c', L ++ l, rfl, ?_, by omega, by omega, ?_⟩, HK1.out.trans (G := [p]) ((Keep.refl _ _).setCell (.inl (by simp)) _) (fun x hx => .inl (by simp at hx; simp [hx])), HG.out⟩
  · have h1 : bC L ++ bC l = bC (L ++ l) := by simp [bC]
    have h2 := HO1.out
    rw [h1] at h2
    exact own_same h2 (fun g hg => blk_setCell_other _ _ _ _ (by have := (own_ge h2 g hg).1; show g ≠ p; omega))
  · rw [List.drop_append_of_le_length (by rw [← HLn.out]; exact hbn), HF.out]
end Go.Proofs.Ytmfjaehajdephab

/-
  A parser in memory; pass, letGo.
-/
namespace Go.Proofs.Ytmfjaehajdephab
open Go.Shelf Go.RowKit Go.Deep
set_option linter.unusedVariables false
set_option linter.unusedSimpArgs false
set_option maxRecDepth 1000000

theorem QAt.later {w W : World} {p : Nat} {v : Value} {beg : Nat} {R : List Value} {t : TypeId} {F : List UInt8} {N : Nat} (h : QAt w p v beg R t F N) (k : Below w.heap.size w W) : QAt W p v beg R t F N := by
  obtain ⟨a, n, cap, L, hv, ho, r⟩ := h.row
  exact ⟨h.blk.same (k.block p h.blk.lt), a, n, cap, L, hv, own_same ho (fun g hg => k.block g (own_ge ho g hg).2.1), r⟩
theorem QAt.setR {w : World} {p : Nat} {v : Value} {beg : Nat} {R : List Value} {t : TypeId} {F : List UInt8} {N : Nat} (h : QAt w p v beg R t F N) (i : Nat) (u : Value) : QAt (w.setCell ⟨p, i + 2, none⟩ u) p v beg (R.set i u) t F N := by
  obtain ⟨a, n, cap, L, hv, ho, r⟩ := h.row
  exact ⟨h.blk.set (i + 2) u, a, n, cap, L, hv, own_same ho (fun g hg => blk_setCell_other _ _ _ _ (by have := (own_ge ho g hg).1; show g ≠ p; omega)), r⟩
theorem QAt.drewN {w : World} {p : Nat} {v : Value} {beg : Nat} {R : List Value} {t : TypeId} {F : List UInt8} {N : Nat} (h : QAt w p v beg R t F N) (m : Nat) : QAt (w.drewN m) p v beg R t F N := by
  obtain ⟨a, n, cap, L, hv, ho, r⟩ := h.row
  exact ⟨h.blk, a, n, cap, L, hv, ho, r⟩
theorem below_drewN (w : World) (m B : Nat) : Below B w (w.drewN m) := ⟨rfl, rfl, rfl, Nat.le_refl _, fun _ _ => rfl⟩
theorem QAt.cellR {w : World} {p : Nat} {v : Value} {beg : Nat} {R : List Value} {t : TypeId} {F : List UInt8} {N : Nat} (h : QAt w p v beg R t F N) (i : Nat) {u : Value} (hu : R[i]? = some u) : w.cell? ⟨p, i + 2, none⟩ = some u := h.blk.cell (i := i + 2) (by simpa using hu)
/-- All that waits, as 'all' tells it. -/
theorem QAt.all {w : World} {p : Nat} {v : Value} {beg : Nat} {R : List Value} {t : TypeId} {F : List UInt8} {N : Nat} (h : QAt w p v beg R t F N) :
    ∃ a c, BS w a F.length c F ∧ F.length ≤ N ∧ (∀ x, a = some x → p < x.block ∧ (v.ownBlock = some x.block)) ∧ (∀ x, a = some x → x.spot = none) ∧ (a = none → c = 0) ∧
      ∀ W : World, Blk W p (v :: .int .i64 (beg : Int) :: R) t → Calls Try.prog 33 #[.pointer (some ⟨p, 0, none⟩)] W fun e w' => e = .returned (.slice a F.length c) ∧ ∃ m, w' = W.drewN m := by
  obtain ⟨a0, n, cap, L, hv, ho, hb, hn, hF⟩ := h.row
  subst hv
  have hL : n = L.length := by have := ho.1; simp [bC] at this; omega
  obtain ⟨a, c, h1, h2, h3, h5, h6, h4⟩ := all_any w p (p + 1) a0 n cap beg L ho hb
  have hl : n - beg = F.length := by rw [← hF, List.length_drop, hL]
  rw [hl, hF] at h1
  rw [hl] at h4
  refine ⟨a, c, h1, by omega, fun x hx => ?_, h5, h6, fun W hW => h4 W (hW.cell (i := 0) rfl) (hW.cell (i := 1) rfl)⟩
  obtain ⟨y, hy, hxy⟩ := h2 x hx
  rcases ho.2 with ⟨hv, h0⟩ | ⟨g, c', cur, hv, hB, r⟩
  · simp only [Value.slice.injEq] at hv; rw [hv.1] at hy; cases hy
  · simp only [Value.slice.injEq] at hv
    rw [hv.1] at hy
    cases hy
    rw [hv.1]
    have e : x.block = g := hxy
    rw [e]
    exact ⟨by omega, rfl⟩
def pR (seen : Nat) (over : Bool) (c : Cm) (kv : Value) (left gone : Nat) : List Value := .int .i64 (seen : Int) :: .bool over :: (cmL c kv ++ [.int .i64 (left : Int), .int .i64 (gone : Int)])
def PM (w : World) (p : Nat) (v : Value) (beg seen : Nat) (over : Bool) (c : Cm) (kv : Value) (left gone : Nat) (F : List UInt8) (N : Nat) : Prop := QAt w p v beg (pR seen over c kv left gone) 51 F N
/-- What a call on a parser leaves: it, with all else as it was. -/
def PMv (w : World) (p : Nat) (v : Value) (v' : Value) (w' : World) : Prop := Keep [p] w w' ∧ (∀ g, v'.ownBlock = some g → v.ownBlock = some g ∨ w.heap.size ≤ g)
theorem pass_any (w : World) (p : Nat) (v : Value) (beg seen : Nat) (over : Bool) (c : Cm) (kv : Value) (left gone : Nat) (F : List UInt8) (N : Nat) (h : PM w p v beg seen over c kv left gone F N) (hN : N ≤ 1000000) :
    Calls Try.prog 21 #[.pointer (some ⟨p, 0, none⟩)] w fun e w' => e = .returned (.tuple #[]) ∧ ∃ v' beg', PM w' p v' beg' seen (decide (endP F = F.length)) c kv left gone (F.drop (min (endP F + 1) F.length)) N ∧ PMv w p v v' w' := by
  obtain ⟨a, ca, hB, hFN, hoff, _, _, hall⟩ := QAt.all h
  have HALL := hide hall
  have HBS := hide hB
  have HQ := hide h
  have hF : F.length ≤ 1000000 := by omega
  obtain ⟨n, hn⟩ : ∃ n, n = F.length := ⟨_, rfl⟩
  have hen := endP_le F
  obtain ⟨q, hq⟩ : ∃ q, q = endP F := ⟨_, rfl⟩
  rw [← hn] at HALL HBS hF hen ⊢
  rw [← hq] at hen ⊢
  obtain ⟨k, hk⟩ : ∃ k, k = min (q + 1) n := ⟨_, rfl⟩
  have hmin : min ((q : Int) + 1) (n : Int) = (k : Int) := by rw [hk]; omega
  have hkn : k ≤ n := by rw [hk]; omega
  have hwr : IntKind.i64.wrap ((q : Int) + 1) = (q : Int) + 1 := by rw [IntKind.wrap_i64]; omega
  have hHN := hide hn
  have hHQ := hide hq
  rw [← hk]
  have HD : Hid (((q : Int) == (n : Int)) = decide (q = n)) := by
    show ((q : Int) == (n : Int)) = decide (q = n)
    by_cases e : q = n
    · rw [decide_eq_true e]; simp; omega
    · rw [decide_eq_false e]; simp; omega
  have hpq := QAt.cells h
  have hlt := h.blk.lt
  clear h hall hB hn hq hk hoff
  have hd := HD.out
  go_enter Try.func21, Try.ntmps21
  go_wp2_with fail
  refine Calls.mono (HALL.out _ ?_) ?_
  · exact HQ.out.blk
  rintro e w1 ⟨rfl, m, rfl⟩
  go_wp2_with fail
  refine Calls.mono (ending_any a n ca F _ ?_ hF) ?_
  · exact HBS.out.heap rfl
  rintro e w2 ⟨rfl, hb⟩
  have hb' : Below w.heap.size w w2 := ⟨hb.os, hb.tape, hb.output, hb.size, hb.block⟩
  rw [← hHQ.out]
  have Q2 := HQ.out.later hb'
  have HQ2 := hide Q2
  have HB2 := hide hb'
  have c3 : w2.cell? ⟨p, 3, none⟩ = some (.bool over) := Q2.cellR 1 rfl
  have f3 : w2.frozen? ⟨p, 3, none⟩ = false := Q2.blk.frozen 3
  clear Q2 hb hb' hpq
  go_wp2_with fail
  have Q3 := HQ2.out.setR 1 (.bool (decide (q = n)))
  have Q3' : QAt (w2.setCell ⟨p, 3, none⟩ (.bool (decide (q = n)))) p v beg (pR seen (decide (q = n)) c kv left gone) 51 F N := Q3
  refine Calls.mono (use_any _ p v beg k N _ 51 F Q3' (by decide) (by rw [← hHN.out]; exact hkn) hN) ?_
  rintro e w4 ⟨rfl, v', beg', Q4, k4, o4⟩
  have HQ4 := hide Q4
  have HK : Hid (PMv w p v v' w4) := by
    have k2 : Keep [p] w (w2.setCell ⟨p, 3, none⟩ (.bool (decide (q = n)))) := (Keep.of_below HB2.out).setCell (F := [p]) (.inl (by simp)) _
    exact ⟨k2.trans k4 (fun x hx => .inl hx), fun g hg => (o4 g hg).imp id (fun h => by rw [nblk_setCell] at h; exact Nat.le_trans HB2.out.size h)⟩
  clear Q3 Q3' Q4 k4 o4 c3 f3
  go_wp2
  go_returns
  exact ⟨rfl, v', beg', HQ4.out, HK.out⟩
end Go.Proofs.Ytmfjaehajdephab

/-
  letGo.
-/
namespace Go.Proofs.Ytmfjaehajdephab
open Go.Shelf Go.RowKit Go.Deep
set_option linter.unusedVariables false
set_option linter.unusedSimpArgs false
set_option maxRecDepth 1000000

theorem letGo_no (w : World) (p : Nat) (v : Value) (beg seen : Nat) (over : Bool) (c : Cm) (kv : Value) (left gone : Nat) (F : List UInt8) (N : Nat) (h : PM w p v beg seen over c kv left gone F N) (hs : (c.what.toList == [115, 116, 111, 114, 101]) = true) :
    Calls Try.prog 41 #[.pointer (some ⟨p, 0, none⟩)] w fun e w' => e = .returned (.tuple #[]) ∧ w' = w := by
  have c4 : w.cell? ⟨p, 4, none⟩ = some (.string c.what) := QAt.cellR h 2 rfl
  clear h
  go_enter Try.func41, Try.ntmps41
  go_wp2
  go_returns
  exact ⟨rfl, rfl⟩
theorem letGo_yes (w : World) (p : Nat) (v : Value) (beg seen : Nat) (over : Bool) (c : Cm) (kv : Value) (left gone : Nat) (F : List UInt8) (N : Nat) (h : PM w p v beg seen over c kv left gone F N) (hN : N ≤ 1000000) (hs : (c.what.toList == [115, 116, 111, 114, 101]) = false) (hl : left ≤ 2147483647) (hg : gone ≤ 2147483647) :
    Calls Try.prog 41 #[.pointer (some ⟨p, 0, none⟩)] w fun e w' => e = .returned (.tuple #[]) ∧ ∃ v' beg', PM w' p v' beg' seen over c kv (left - min left F.length) (gone + min left F.length) (F.drop (min left F.length)) N ∧ PMv w p v v' w' := by
  obtain ⟨a, ca, hB, hFN, hoff, _, _, hall⟩ := QAt.all h
  have HALL := hide hall
  have HQ := hide h
  obtain ⟨n, hn⟩ : ∃ n, n = F.length := ⟨_, rfl⟩
  have hF : n ≤ 1000000 := by omega
  rw [← hn] at HALL ⊢
  obtain ⟨k, hk⟩ : ∃ k, k = min left n := ⟨_, rfl⟩
  have hmin : min (left : Int) (n : Int) = (k : Int) := by rw [hk]; omega
  have hkn : k ≤ n := by rw [hk]; omega
  have hkl : k ≤ left := by rw [hk]; omega
  rw [← hk]
  have hHN := hide hn
  have c4 : w.cell? ⟨p, 4, none⟩ = some (.string c.what) := QAt.cellR h 2 rfl
  have c16 : w.cell? ⟨p, 16, none⟩ = some (.int .i64 (left : Int)) := QAt.cellR h 14 rfl
  have hw1 : IntKind.i64.wrap ((left : Int) - (k : Int)) = ((left - k : Nat) : Int) := by rw [IntKind.wrap_i64]; omega
  have hw2 : IntKind.i64.wrap ((gone : Int) + (k : Int)) = ((gone + k : Nat) : Int) := by rw [IntKind.wrap_i64]; omega
  obtain ⟨l2, hl2⟩ : ∃ l2, l2 = left - k := ⟨_, rfl⟩
  obtain ⟨g2, hg2⟩ : ∃ g2, g2 = gone + k := ⟨_, rfl⟩
  rw [← hl2] at hw1 ⊢
  rw [← hg2] at hw2 ⊢
  clear h hall hB hn hk hoff hl2 hg2
  go_enter Try.func41, Try.ntmps41
  go_wp2_with fail
  go_quiet ((first | (go_at_call 33; exact Calls.quiet_of (HALL.out _ HQ.out.blk))))
  go_wp2_with fail
  have Q1 := HQ.out.drewN nq
  refine Calls.mono (use_any _ p v beg k N _ 51 F Q1 (by decide) (by rw [← hHN.out]; exact hkn) hN) ?_
  rintro e w2 ⟨rfl, v', beg', Q2, k2, o2⟩
  have d16 : w2.cell? ⟨p, 16, none⟩ = some (.int .i64 (left : Int)) := Q2.cellR 14 rfl
  have d17 : w2.cell? ⟨p, 17, none⟩ = some (.int .i64 (gone : Int)) := Q2.cellR 15 rfl
  have f16 : w2.frozen? ⟨p, 16, none⟩ = false := Q2.blk.frozen 16
  have f17 : w2.frozen? ⟨p, 17, none⟩ = false := Q2.blk.frozen 17
  have Q3 : QAt ((w2.setCell ⟨p, 16, none⟩ (.int .i64 (l2 : Int))).setCell ⟨p, 17, none⟩ (.int .i64 (g2 : Int))) p v' beg' (pR seen over c kv l2 g2) 51 (F.drop k) N := (Q2.setR 14 (.int .i64 (l2 : Int))).setR 15 (.int .i64 (g2 : Int))
  have HQ3 := hide Q3
  have HK : Hid (PMv w p v v' ((w2.setCell ⟨p, 16, none⟩ (.int .i64 (l2 : Int))).setCell ⟨p, 17, none⟩ (.int .i64 (g2 : Int)))) := by
    have k0 : Keep [p] w w2 := ⟨k2.os, k2.tape, k2.output, k2.size, k2.block⟩
    exact ⟨(k0.setCell (.inl (by simp)) _).setCell (.inl (by simp)) _, o2⟩
  clear Q1 Q2 k2 o2 Q3 c4 c16
  go_wp2
  go_returns
  exact ⟨rfl, v', beg', HQ3.out, HK.out⟩
end Go.Proofs.Ytmfjaehajdephab
