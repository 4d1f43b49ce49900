/- 'alike': both devices read the same. -/
import Derived.Test.YtcdefadeaiklbaaPair
import Derived.Test.YtcdefadeaiklbaaRefMore
import Derived.Deep.RegionWith
set_option linter.unusedVariables false
set_option linter.unusedSimpArgs false
set_option maxRecDepth 8000
namespace Go.Proofs.Ytcdefadeaiklbaa
open Go.RowKit Go.Deep

theorem blk_slice {w : World} {g cap : Nat} {l : List UInt8} {pad : List Value} (h : Blk w g (bCells l ++ pad) 5) : BSlice w (some ⟨g, 0, none⟩) l g := by
  refine .inr ⟨h.lt, 0, rfl, fun j hj => ?_⟩
  rw [Nat.zero_add]
  refine h.cell ?_
  rw [List.getElem?_append_left (by simpa [bCells] using hj)]
  simp [bCells, hj]

/-- The first k pages are read. -/
def Dv.readN (S : Dv) : Nat → Dv
  | 0 => S
  | k + 1 => (S.readN k).readDo k

theorem Dv.readDo_rd (S : Dv) (p : Int) : ∃ x, S.readDo p = { S with rd := x } := by
  unfold Dv.readDo
  split
  · exact ⟨S.rd, rfl⟩
  · split
    · exact ⟨S.rd, rfl⟩
    · exact ⟨_, rfl⟩
theorem Dv.readN_rd (S : Dv) : ∀ k, ∃ x, S.readN k = { S with rd := x }
  | 0 => ⟨S.rd, rfl⟩
  | k + 1 => by
    obtain ⟨x, hx⟩ := Dv.readN_rd S k
    obtain ⟨y, hy⟩ := Dv.readDo_rd (S.readN k) k
    exact ⟨y, by show (S.readN k).readDo k = _; rw [hy, hx]⟩

set_option maxHeartbeats 1000000 in
theorem alike_at (d r : Nat) (F G : List Nat) (S : Dv) (w : World) (hP : Pair w d r F G S S) :
    Calls Try.prog 28 #[.pointer (some ⟨d, 0, none⟩), .pointer (some ⟨r, 0, none⟩)] w fun e w' => e = .returned (.bool true) ∧ Pair w' d r F G (S.readN S.cs.length) (S.readN S.cs.length) ∧ Moves (F ++ G) (F ++ G) w w' := by
  obtain ⟨n, hn⟩ : ∃ n, n = S.cs.length := ⟨_, rfl⟩
  have hnl : n ≤ 4096 := by rw [hn]; exact hP.dev.good.many
  have HN := hide hn
  have P0 := hide hP
  rw [← hn]
  clear hn hP
  go_enter Try.func28, Try.ntmps28
  go_wp2_with fail
  go_loopg [5] n (fun kx s5 wr => ∃ k : Nat, s5 = .int .i64 k ∧ k ≤ n ∧ n - k ≤ kx ∧ Hid (Pair wr d r F G (S.readN k) (S.readN k) ∧ Moves (F ++ G) (F ++ G) w wr))
  case atStart => exact ⟨0, rfl, Nat.zero_le _, by omega, P0.out, Moves.refl _ _⟩
  case round =>
    obtain ⟨k, rfl, hkn, hg, I⟩ := hrel
    have hlen : (S.readN k).cs.length = n := by
      obtain ⟨x, hx⟩ := S.readN_rd k
      rw [hx, HN.out]
    have cp := pages_at d F (S.readN k) wr I.out.1.dev
    rw [hlen] at cp
    have CP := hide cp
    clear cp hlen
    by_cases hlt : k < n
    · have hlt2 : (k : Int) < (n : Int) := by omega
      go_wp2_with (go_at_call 31; refine CP.out.mono ?_; rintro e w0 ⟨rfl, hw0⟩; obtain rfl : wr = w0 := hw0.symm)
      refine (read_at d F (S.readN k) k _ I.out.1.dev).mono ?_
      rintro e w1 ⟨v, rfl, hr, h1, k1⟩
      have p1 := I.out.1.step1 h1 (Moves.of_keep k1)
      obtain ⟨t, ht⟩ : ∃ t, t = (S.readN k).readText k := ⟨_, rfl⟩
      obtain ⟨er, her⟩ : ∃ er, er = (S.readN k).readErr k := ⟨_, rfl⟩
      rw [← ht, ← her] at hr
      rw [← her]
      have vs : ∃ a m c, v = .slice a m c ∧ ∀ W : World, Keep G w1 W → (convert 34 9 (.slice a m c)).run Try.prog W = .ok (.string t) W := by
        rcases hr with ⟨_, rfl, rfl⟩ | ⟨_, hsz, b, hb, rfl, hblk⟩
        · exact ⟨none, 0, 0, rfl, fun W _ => str_any (w := W) (a := none) (l := []) (b := 0) (.inl rfl) (fun _ => rfl) 0⟩
        · refine ⟨_, _, _, rfl, fun W hK => ?_⟩
          have hbG : b ∉ G := fun hf => by have := I.out.1.ref.lt b hf; omega
          have hb2 := hblk.same (hK.block b hblk.lt hbG)
          have h := str_any (w := W) (blk_slice (cap := 0) (pad := []) (by rw [List.append_nil]; exact hb2)) (fun h => by cases h) 384
          have hl : t.data.toList.length = 384 := by rw [Array.length_toList]; exact hsz
          rw [hl] at h
          rw [h]
      obtain ⟨a, m, c, rfl, hcv⟩ := vs
      have R1 := hide (rread_at r G (S.readN k) k w1 p1.ref)
      rw [← ht, ← her] at R1
      have P1 := hide p1
      have M1 := hide (I.out.2.trans (Moves.of_keep k1).left)
      have CV := hide hcv
      clear hr h1 k1 p1 hcv ht her
      go_wp2_with fail
      refine R1.out.mono ?_
      rintro e w2 ⟨rfl, h2, k2⟩
      have P2 := hide (P1.out.step2 h2 (Moves.of_keep k2))
      have M2 := hide (M1.out.trans (Moves.of_keep k2).right)
      have cv := CV.out w2 k2
      clear h2 k2
      go_wp2
      go_roundg (n - (k + 1))
      case measure => omega
      case rel => exact ⟨k + 1, rfl, by omega, by omega, P2.out, M2.out⟩
    · obtain rfl : k = n := by omega
      have hlt2 : ¬ (k : Int) < (k : Int) := by omega
      have cl := hide (fun W (h : W.heap = wr.heap) => losses_at d F (S.readN k) W (I.out.1.dev.same (fun _ _ => by rw [h])))
      have cw := hide (fun W (h : W.heap = wr.heap) => power_at d F (S.readN k) W (I.out.1.dev.same (fun _ _ => by rw [h])))
      obtain ⟨L, hL, hR⟩ := I.out.1.ref
      have c3 := hR.dev.cell (i := 3) rfl
      have c5 := hR.dev.cell (i := 5) rfl
      have hrr := hR.dev.lt
      clear hL hR
      generalize (S.readN k).losses = lo at cl c5
      generalize (S.readN k).off = of at cw c3
      cases of
      all_goals (
        simp only [Bool.not_false, Bool.not_true] at cw
        go_wp2_with (go_at_call 31; refine CP.out.mono ?_; rintro e w0 ⟨rfl, hw0⟩; obtain rfl : wr = w0 := hw0.symm)
        go_quiet (first
          | (go_at_call 47; refine Calls.quiet_of_same (cl.out _ ?_); rfl)
          | (go_at_call 22; refine Calls.quiet_of_same (cw.out _ ?_); rfl))
        go_wp2
        go_ret
        exact ⟨rfl, ⟨I.out.1.dev.same (fun _ _ => rfl), I.out.1.ref.same (fun _ _ => rfl), fun k hk => I.out.1.apart k hk⟩, ⟨I.out.2.keep.os, I.out.2.keep.tape, I.out.2.keep.output, I.out.2.keep.size, I.out.2.keep.block⟩, I.out.2.foot⟩)
end Go.Proofs.Ytcdefadeaiklbaa
