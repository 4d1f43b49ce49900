/- A row of numbers that is sorted in place: less, insertion. -/
import Derived.Test.YtghdkicijdfpcaaMarks
import Derived.Sort.AssemblyPlain
import Derived.Sort.Row
import Derived.BigQuiet
import Derived.BigRegion
set_option linter.unusedVariables false
set_option linter.unusedSimpArgs false
set_option maxRecDepth 8000
namespace Go.Proofs.Ytghdkicijdfpcaa
open Go.RowKit Go.Deep Go.Sort

def lt64 (x y : Nat) : Bool := decide (x < y)
set_option maxHeartbeats 400000 in
theorem nan_any (x : Nat) (w : World) : Calls Try.prog 88 #[.int .u64 (x : Int)] w fun e w' => e = .returned (.bool false) ∧ w' = w := by
  go_enter Try.func88, Try.ntmps88
  go_wp2
  go_ret
  exact ⟨rfl, rfl⟩
set_option maxHeartbeats 400000 in
theorem less_any (x y : Nat) (w : World) : Calls Try.prog 75 #[.int .u64 (x : Int), .int .u64 (y : Int)] w fun e w' => e = .returned (.bool (lt64 x y)) ∧ w' = w := by
  have c1 := hide' (nan_any x)
  go_enter Try.func75, Try.ntmps75
  go_wp2_with fail
  refine (c1.out _).mono ?_
  rintro r w1 ⟨rfl, h1⟩
  obtain rfl : w = w1 := h1.symm
  clear h1
  go_wp2
  go_ret
  exact ⟨rfl, rfl⟩

/-- The row holds d; nothing else is turned. -/
def Shp (w W : World) (blk : Nat) : Prop := ∀ cur t fz, w.heap[blk]? = some (.cells cur t fz) → ∃ cur', W.heap[blk]? = some (.cells cur' t fz) ∧ cur'.size = cur.size
structure SR (w W : World) (blk : Nat) (d : Array Nat) : Prop where
  holds : Holds encU W blk 0 d
  keep : Keep [blk] w W
  shape : Shp w W blk
theorem Shp.same {w W W' : World} {blk : Nat} (h : Shp w W blk) (e : W'.heap[blk]? = W.heap[blk]?) : Shp w W' blk := fun cur t fz hw => by rw [e]; exact h cur t fz hw
theorem SR.heap {w W W' : World} {blk : Nat} {d : Array Nat} (h : SR w W blk d) (e : W'.heap = W.heap) (eo : W'.os = W.os) (et : W'.tape = W.tape) (ep : W'.output = W.output) : SR w W' blk d :=
  ⟨fun t ht => by
    have := h.holds t ht
    unfold World.cell? World.frozen? at this ⊢
    rw [e]
    exact this, ⟨eo.trans h.keep.os, et.trans h.keep.tape, ep.trans h.keep.output, by rw [e]; exact h.keep.size, fun k hk hn => by rw [e]; exact h.keep.block k hk hn⟩, h.shape.same (by rw [e])⟩
theorem SR.drewN {w W : World} {blk : Nat} {d : Array Nat} (h : SR w W blk d) (q : Nat) : SR w (W.drewN q) blk d := h.heap rfl rfl rfl rfl
theorem SR.put {w W : World} {blk : Nat} {d d' : Array Nat} (h : SR w W blk d) (hs : d'.size = d.size) : SR w (putRow encU W blk 0 d') blk d' := by
  refine ⟨holds_putRow _ _ _ _ d _ h.holds hs, ⟨h.keep.os, h.keep.tape, h.keep.output, by rw [size_putRow]; exact h.keep.size, fun k hk hn => ?_⟩, fun cur t fz hw => ?_⟩
  · rw [← h.keep.block k hk hn]
    show (W.heap.modify blk _)[k]? = _
    rw [Array.getElem?_modify, if_neg (fun e => hn (by simp [e]))]
  · obtain ⟨c', h1, h2⟩ := h.shape cur t fz hw
    show ∃ cur', (W.heap.modify blk _)[blk]? = _ ∧ _
    rw [Array.getElem?_modify, if_pos rfl, h1]
    exact ⟨putCells encU 0 d' c', rfl, by unfold putCells; rw [Array.size_mapIdx]; exact h2⟩
theorem SR.swap {w W : World} {blk : Nat} {d : Array Nat} (h : SR w W blk d) (i j : Nat) (hi : i < d.size) (hj : j < d.size) :
    SR w ((W.setCell ⟨blk, i, none⟩ (encU d[j]!)).setCell ⟨blk, j, none⟩ (encU d[i]!)) blk (swp d i j) := by
  have h1 : putRow encU W blk 0 d = W := putRow_self _ _ _ _ _ h.holds
  have h2 := putRow_swp encU W blk 0 d i j hi hj
  rw [h1, Nat.zero_add, Nat.zero_add] at h2
  rw [h2]
  exact h.put (by simp [swp])
theorem SR.at {w W : World} {blk : Nat} {d : Array Nat} (h : SR w W blk d) : (∀ t, t < d.size → W.cell? ⟨blk, t, none⟩ = some (.int .u64 (d[t]! : Int))) ∧ ∀ t, t < d.size → W.frozen? ⟨blk, t, none⟩ = false :=
  ⟨fun t ht => by have := (h.holds t ht).1; rwa [Nat.zero_add] at this, fun t ht => by have := (h.holds t ht).2; rwa [Nat.zero_add] at this⟩
/-- The numbers as letters: what a walk reads and what it may store. -/
theorem SR.fam {w W : World} {blk : Nat} {d : Array Nat} (h : SR w W blk d) : ∃ G : Nat → Nat, (∀ t, G t = d[t]!) ∧ (∀ t, t < d.size → W.cell? ⟨blk, t, none⟩ = some (.int .u64 (G t : Int))) ∧ ∀ t, t < d.size → W.frozen? ⟨blk, t, none⟩ = false :=
  ⟨fun t => d[t]!, fun _ => rfl, h.at.1, h.at.2⟩
theorem ins_go (a j : Nat) (d : Array Nat) (hj : a < j) (hl : lt64 d[j]! d[j - 1]! = true) : insInner lt64 a j d = insInner lt64 a (j - 1) (swp d j (j - 1)) := by
  obtain ⟨p, rfl⟩ : ∃ p, j = p + 1 := ⟨j - 1, by omega⟩
  rw [insInner, if_pos]
  · rfl
  · simp only [Nat.add_sub_cancel] at hl
    simp [hl, hj]
theorem ins_stop (a j : Nat) (d : Array Nat) (h : j ≤ a ∨ lt64 d[j]! d[j - 1]! = false) : insInner lt64 a j d = d := by
  cases j with
  | zero => rfl
  | succ p =>
    rw [insInner, if_neg]
    simp only [Nat.add_sub_cancel] at h
    rcases h with h | h
    · have : ¬ a < p + 1 := by omega
      simp [this]
    · simp [h]
theorem out_go (a b i : Nat) (d : Array Nat) (h : i < b) : insOuter lt64 a b i d = insOuter lt64 a b (i + 1) (insInner lt64 a i d) := by rw [insOuter, if_pos h]
theorem out_stop (a b i : Nat) (d : Array Nat) (h : ¬ i < b) : insOuter lt64 a b i d = d := by rw [insOuter, if_neg h]
theorem swp_size (d : Array Nat) (i j : Nat) : (swp d i j).size = d.size := by simp [swp]
set_option maxHeartbeats 4000000 in
theorem ins_any (w0 : World) (blk N cap a b : Nat) (d : Array Nat) (W : World) (hN : d.size = N) (h : SR w0 W blk d) (hab : a ≤ b) (hb : b ≤ N) (hsz : N ≤ 1000000) :
    Calls Try.prog 69 #[.slice (some ⟨blk, 0, none⟩) N cap, .int .i64 a, .int .i64 b] W fun e W' => e = .returned (.tuple #[]) ∧ SR w0 W' blk (Sort.insertionSort lt64 d a b) := by
  have H := hide' h
  have HN := hide' hN
  clear h hN
  go_enter Try.func69, Try.ntmps69
  go_wp2_with fail
  go_loopg [6] (b + 1) (fun kx s6 wr => ∃ (i : Nat) (dk : Array Nat), s6 = .int .i64 i ∧ a < i ∧ i ≤ b + 1 ∧ b + 1 - i ≤ kx ∧ Hid (dk.size = N ∧ SR w0 wr blk dk ∧ insOuter lt64 a b i dk = insOuter lt64 a b (a + 1) d))
  case atStart => exact ⟨a + 1, d, by go_num, by omega, by omega, by omega, HN.out, H.out, rfl⟩
  case round =>
    obtain ⟨i, dk, rfl, hai, hib, hg, K⟩ := hrel
    by_cases hlt : i < b
    · have hlt2 : (i : Int) < (b : Int) := by omega
      go_wp2_with fail
      go_loopg [7] (i + 1) (fun kx s7 wr2 => ∃ (j : Nat) (dj : Array Nat), s7 = .int .i64 j ∧ a ≤ j ∧ j ≤ i ∧ j ≤ kx ∧ Hid (dj.size = N ∧ SR w0 wr2 blk dj ∧ insInner lt64 a j dj = insInner lt64 a i dk))
      case atStart => exact ⟨i, dk, rfl, by omega, Nat.le_refl _, by omega, K.out.1, K.out.2.1, rfl⟩
      case round =>
        obtain ⟨j, dj, rfl, haj, hji, hgj, K2⟩ := hrel
        have LEAVE : Hid (∀ (wx : World), wx.heap = wr.heap → wx.os = wr.os → wx.tape = wr.tape → wx.output = wr.output → (j ≤ a ∨ lt64 dj[j]! dj[j - 1]! = false) → Hid (dj.size = N ∧ SR w0 wx blk dj ∧ insOuter lt64 a b (i + 1) dj = insOuter lt64 a b (a + 1) d)) := fun wx e1 e2 e3 e4 hs =>
          ⟨K2.out.1, K2.out.2.1.heap e1 e2 e3 e4, by
            have h1 := K2.out.2.2
            rw [ins_stop _ _ _ hs] at h1
            rw [h1, ← out_go _ _ _ _ hlt]
            exact K.out.2.2⟩
        by_cases hja : a < j
        · have hja2 : (a : Int) < (j : Int) := by omega
          obtain ⟨p, hp⟩ : ∃ p, j = p + 1 := ⟨j - 1, by omega⟩
          have hsub : (j : Int) - 1 = (p : Int) := by omega
          have hjN : (j : Int) < (N : Int) := by omega
          have hpN : (p : Int) < (N : Int) := by omega
          obtain ⟨G, g1, g2, g3⟩ := K2.out.2.1.fam
          rw [K2.out.1] at g2 g3
          have HG := hide' g1
          have y0 := g2 j (by omega)
          have y1 := g2 p (by omega)
          have z0 := g3 j (by omega)
          have z1 := g3 p (by omega)
          have HP := hide' hp
          have cL : Hid (∀ W, Calls Try.prog 75 #[.int .u64 (G j : Int), .int .u64 (G p : Int)] W fun e w' => e = .returned (.bool (lt64 (G j) (G p))) ∧ w' = W) := fun W => less_any _ _ _
          clear g1 g2 g3 hp
          cases hl : lt64 (G j) (G p)
          · rw [hl] at cL
            go_wp2_with fail
            go_quiet (first | (go_at_call 75; refine Calls.quiet_of_same (cL.out _)))
            go_wp2
            go_roundg (b + 1 - (i + 1))
            case measure => omega
            case rel => exact ⟨i + 1, dj, by go_num, by omega, by omega, by omega, LEAVE.out _ rfl rfl rfl rfl (.inr (by rw [HP.out, Nat.add_sub_cancel, ← HG.out, ← HG.out, ← HP.out]; exact hl))⟩
          · rw [hl] at cL
            go_wp2_with fail
            go_quiet (first | (go_at_call 75; refine Calls.quiet_of_same (cL.out _)))
            go_wp2_with fail
            go_region
            all_goals go_wp2
            go_roundg p
            case measure => have := HP.out; omega
            case rel =>
              have hj1 : j - 1 = p := by have := HP.out; omega
              refine ⟨p, swp dj j p, rfl, by have := HP.out; omega, by have := HP.out; omega, Nat.le_refl _, by rw [swp_size]; exact K2.out.1, ?_, ?_⟩
              · have := (K2.out.2.1.drewN (nq + 1)).swap j p (by rw [K2.out.1]; omega) (by rw [K2.out.1]; omega)
                rw [HG.out, HG.out]
                exact this
              · have h1 := ins_go a j dj hja (by rw [hj1, ← HG.out, ← HG.out]; exact hl)
                rw [hj1] at h1
                rw [← h1]; exact K2.out.2.2
        · have hja2 : ¬ (a : Int) < (j : Int) := by omega
          have hja3 : decide ((a : Int) < (j : Int)) = false := decide_eq_false hja2
          go_wp2_with fail
          go_quiet (fail)
          go_wp2
          go_roundg (b + 1 - (i + 1))
          case measure => omega
          case rel => exact ⟨i + 1, dj, by go_num, by omega, by omega, by omega, LEAVE.out _ rfl rfl rfl rfl (.inl (by omega))⟩
    · have hlt2 : ¬ (i : Int) < (b : Int) := by omega
      go_wp2
      go_end0
      exact ⟨rfl, by unfold Sort.insertionSort; rw [← K.out.2.2, out_stop _ _ _ _ hlt]; exact K.out.2.1⟩
end Go.Proofs.Ytghdkicijdfpcaa
