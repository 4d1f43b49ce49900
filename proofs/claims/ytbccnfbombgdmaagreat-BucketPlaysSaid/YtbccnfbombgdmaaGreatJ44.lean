/- Texts joined: Un4, Un5, Un6, Un7, Un8. -/
import Derived.Test.YtbccnfbombgdmaaGreatJ43
import Derived.Test.YtbccnfbombgdmaaGreatJ29
import Derived.Test.YtbccnfbombgdmaaGreatJ05
/- Both sides opened. -/
set_option linter.unusedVariables false
set_option linter.unusedSimpArgs false
set_option maxRecDepth 8000
namespace Go.Proofs.YtbccnfbombgdmaaGreat
open Go.RowKit Go.Deep Math
variable {w0 W W' : World} {d s : Nat} {F F' : List Nat} {S S' T T' : Dv} {L : Int} {first : Nat} {M M' : SM} {s' r : Nat} {G : List Nat} {tv : Value} {vs : List Value} {td : List (List (List UInt8))} {k : Nat} {ys : List It} {er : Int}

theorem open_bad2 (h : Law w0 d F S W) (a b : Int) (ha : -9223372036854775808 ≤ a ∧ a ≤ 9223372036854775807) (hb : -9223372036854775808 ≤ b ∧ b ≤ 9223372036854775807) (hx : a < 0 ∨ b < 1 ∨ 256 < b ∨ (S.cs.length : Int) - b < a) :
    Calls Tryz.prog 7 #[.pointer (some ⟨d, 0, none⟩), .int .i64 a, .int .i64 b] W fun e W' => e = .returned (.tuple #[.pointer none, .int .i64 1]) ∧ W' = W := by
  have cP : Hid (Calls Tryz.prog 23 #[.pointer (some ⟨d, 0, none⟩)] W fun e w' => e = .returned (.int .i64 (S.cs.length : Nat)) ∧ w' = W) := pages_at h.dev
  have hm := h.dev.good.many
  generalize S.cs.length = n at cP hx hm
  clear h
  by_cases x1 : a < 0
  · go_enter Tryz.func7, Tryz.ntmps7
    go_wp2
    go_ret2
    exact ⟨rfl, rfl⟩
  by_cases x2 : b < 1
  · go_enter Tryz.func7, Tryz.ntmps7
    go_wp2
    go_ret2
    exact ⟨rfl, rfl⟩
  by_cases x3 : 256 < b
  · go_enter Tryz.func7, Tryz.ntmps7
    go_wp2
    go_ret2
    exact ⟨rfl, rfl⟩
  have x4 : (n : Int) - b < a := by omega
  go_enter Tryz.func7, Tryz.ntmps7
  go_wp2_with (go_at_call 23; refine cP.out.mono ?_; rintro e w1 ⟨rfl, h1⟩; obtain rfl : W = w1 := h1.symm; clear h1)
  go_ret2
  exact ⟨rfl, rfl⟩

/-- Both devices, side by side. -/
structure Devs (w0 W : World) (d : Nat) (F : List Nat) (S : Dv) (r : Nat) (G : List Nat) (T : Dv) : Prop where
  p : Law w0 d F S W
  q : RfAt W r G T
  newG : ∀ b ∈ G, w0.heap.size ≤ b
  like : Like S T
  sep : ∀ b ∈ G, b ∉ F
theorem Devs.below (h : Devs w0 W d F S r G T) (b : Below W.heap.size W W') : Devs w0 W' d F S r G T := ⟨h.p.below b, h.q.below b, h.newG, h.like, h.sep⟩
theorem Two.devs (h : Two w0 W d F S s L first M s' r G T tv vs td) : Devs w0 W d F S r G T := ⟨h.p.law, h.q.dev, h.q.newG, h.like, fun b hb => (h.sep b (ftG hb)).1⟩
/-- What Open answers. -/
def AnsO (S : Dv) (a b : Int) (er : Int) : Prop :=
  ((a < 0 ∨ b < 1 ∨ 256 < b ∨ (S.cs.length : Int) - b < a) ∧ er = 1) ∨ (∃ f n : Nat, a = f ∧ b = n ∧ 1 ≤ n ∧ n ≤ 256 ∧ f + n ≤ S.cs.length ∧ ((S.off = true ∧ er = 4) ∨ (S.off = false ∧ er = 0)))
theorem ans_o (S : Dv) (a b : Int) : ∃ er, AnsO S a b er := by
  by_cases h : a < 0 ∨ b < 1 ∨ 256 < b ∨ (S.cs.length : Int) - b < a
  · exact ⟨1, .inl ⟨h, rfl⟩⟩
  · cases ho : S.off with
    | true => exact ⟨4, .inr ⟨a.toNat, b.toNat, by omega, by omega, by omega, by omega, by omega, .inl ⟨ho, rfl⟩⟩⟩
    | false => exact ⟨0, .inr ⟨a.toNat, b.toNat, by omega, by omega, by omega, by omega, by omega, .inr ⟨ho, rfl⟩⟩⟩
theorem AnsO.like {a b : Int} (h : AnsO S a b er) (hl : Like S T) : AnsO T a b er := by
  unfold AnsO
  rw [hl.cs, hl.off]
  exact h
/-- The program's side opened; the document's not yet. -/
def OpenQ (w0 W : World) (d : Nat) (F : List Nat) (S : Dv) (a b : Int) (r : Nat) (G : List Nat) (T : Dv) (er : Int) (v : Value) (W' : World) : Prop :=
  (er ≠ 0 ∧ v = .pointer none ∧ ∃ S', Devs w0 W' d F S' r G T ∧ Like S S') ∨
  (er = 0 ∧ ∃ (f n : Nat) (s : Nat) (M : SM) (S' : Dv), a = f ∧ b = n ∧ v = .pointer (some ⟨s, 0, none⟩) ∧ 1 ≤ n ∧ n ≤ 256 ∧ f + n ≤ S.cs.length ∧ S.off = false ∧ Bk w0 W' d F S' s S.losses f M ∧ Like S S' ∧ Told M (tdO S f n) ∧ M.fs.length = n ∧ RfAt W' r G T ∧ ∀ q ∈ M.foot s, W.heap.size ≤ q)
theorem Devs.open1 (h : Devs w0 W d F S r G T) (a b : Int) (ha : -9223372036854775808 ≤ a ∧ a ≤ 9223372036854775807) (hb : -9223372036854775808 ≤ b ∧ b ≤ 9223372036854775807) (hA : AnsO S a b er) :
    Calls Tryz.prog 7 #[.pointer (some ⟨d, 0, none⟩), .int .i64 a, .int .i64 b] W fun e W' => ∃ v, e = .returned (.tuple #[v, .int .i64 er]) ∧ OpenQ w0 W d F S a b r G T er v W' := by
  have hG : ∀ {W' : World}, Keep F W W' → RfAt W' r G T := fun hk => h.q.same (fun q hq => hk.block q (h.q.lt q hq) (h.sep q hq))
  rcases hA with ⟨h1, rfl⟩ | ⟨f, n, rfl, rfl, h1, h2, h3, h4⟩
  · refine (open_bad2 h.p a b ha hb h1).mono ?_
    rintro e W' ⟨rfl, rfl⟩
    exact ⟨_, rfl, .inl ⟨by decide, rfl, S, h, Like.refl S⟩⟩
  · rcases h4 with ⟨ho, rfl⟩ | ⟨ho, rfl⟩
    · refine (open_off h.p ho f n h1 h2 h3).mono ?_
      rintro e W' ⟨rfl, S1, h4, h5, h6⟩
      exact ⟨_, rfl, .inl ⟨by decide, rfl, S1, ⟨h4, hG h6, h.newG, h5.symm.trans h.like, h.sep⟩, h5⟩⟩
    · refine (open_ok h.p ho f n h1 h2 h3).mono ?_
      rintro e W' ⟨s, M, S1, rfl, h4, h5, h6, h7, h8⟩
      have hl : M.fs.length = n := by have := congrArg List.length h6; simpa using this
      exact ⟨_, rfl, .inr ⟨rfl, f, n, s, M, S1, rfl, rfl, rfl, h1, h2, h3, ho, h4, h5, Told.opened h6, hl, hG h7, h8⟩⟩
theorem OpenQ.below {W2 : World} {a b : Int} {v : Value} (h : OpenQ w0 W d F S a b r G T er v W') (b' : Below W'.heap.size W' W2) : OpenQ w0 W d F S a b r G T er v W2 := by
  rcases h with ⟨h1, h2, S1, h3, h4⟩ | ⟨h1, f, n, s, M, S1, h2, h3, h4, h5, h6, h7, h8, h9, h10, h11, h12, h13, h14⟩
  · exact .inl ⟨h1, h2, S1, h3.below b', h4⟩
  · exact .inr ⟨h1, f, n, s, M, S1, h2, h3, h4, h5, h6, h7, h8, h9.below b', h10, h11, h12, h13.below b', h14⟩
theorem OpenQ.open2 {a b : Int} {v : Value} (hD : Devs w0 W d F S r G T) (h : OpenQ w0 W d F S a b r G T er v W') (ha : -9223372036854775808 ≤ a ∧ a ≤ 9223372036854775807) (hb : -9223372036854775808 ≤ b ∧ b ≤ 9223372036854775807) (hA : AnsO S a b er) :
    Calls Tryz.prog 8 #[.pointer (some ⟨r, 0, none⟩), .int .i64 a, .int .i64 b] W' fun e W2 => ∃ u, e = .returned (.tuple #[u, .int .i64 er]) ∧
      ((er ≠ 0 ∧ v = .pointer none ∧ u = .pointer none ∧ ∃ S', Devs w0 W2 d F S' r G T ∧ Like S S') ∨
       (er = 0 ∧ ∃ (f n : Nat) (s s' : Nat) (M : SM) (S' T' : Dv) (tv : Value) (vs : List Value), v = .pointer (some ⟨s, 0, none⟩) ∧ u = .pointer (some ⟨s', 0, none⟩) ∧ Two w0 W2 d F S' s S.losses f M s' r G T' tv vs (tdO S f n) ∧ Like S S')) := by
  have hA' := hA.like hD.like
  rcases h with ⟨h1, h2, S1, h3, h4⟩ | ⟨h1, f, n, s, M, S1, rfl, rfl, h4, h5, h6, h7, h8, h9, h10, h11, h12, h13, h14⟩
  · rcases hA' with ⟨g1, rfl⟩ | ⟨f, n, rfl, rfl, g1, g2, g3, g4⟩
    · refine (ropen_bad r G T W' h3.q a b ha hb g1).mono ?_
      rintro e W2 ⟨rfl, rfl⟩
      exact ⟨_, rfl, .inl ⟨by decide, h2, rfl, S1, h3, h4⟩⟩
    · rcases g4 with ⟨ho, rfl⟩ | ⟨ho, rfl⟩
      · refine (ropen_off r G T W' h3.q ho f n g1 g2 g3).mono ?_
        rintro e W2 ⟨rfl, rfl⟩
        exact ⟨_, rfl, .inl ⟨by decide, h2, rfl, S1, h3, h4⟩⟩
      · exact absurd rfl h1
  · subst h1
    have hT : T.off = false := by rw [hD.like.off]; exact h8
    refine (ropen_ok h9.law.bel h13 hD.newG hT f n h5 h6 (by rw [hD.like.cs]; exact h7)).mono ?_
    rintro e W2 ⟨s', rfl, T2, tv, vs, g1, g2, g3, g4⟩
    have htd : tdO T f n = tdO S f n := by
      unfold tdO
      congr 1
      funext j
      rw [hD.like.its]
    rw [htd, hD.like.losses] at g1
    refine ⟨_, rfl, .inr ⟨rfl, f, n, s, s', M, S1, T2, tv, vs, h4, rfl, ⟨h9.keep g3 (fun q hq => ⟨hD.sep q hq, fun hm => by have := hD.q.lt q hq; have := h14 q hm; omega, hD.newG q hq⟩), by rw [h12]; exact g1, (h10.symm.trans hD.like).trans g2, h11, fun q hq => ?_, fun _ => by rw [h10.off]; exact h8⟩, h10⟩⟩
    rcases List.mem_cons.1 hq with rfl | hq
    · exact ⟨fun hf => by have := h9.law.dev.lt q hf; have := g4 q (by simp); omega, fun hf => by have := h9.st.lt q hf; have := g4 q (by simp); omega⟩
    · rcases List.mem_append.1 hq with h15 | h15
      · exact ⟨hD.sep q h15, fun hm => by have := hD.q.lt q h15; have := h14 q hm; omega⟩
      · have h16 := g4 q (List.mem_cons_of_mem _ h15)
        exact ⟨fun hf => by have := h9.law.dev.lt q hf; omega, fun hf => by have := h9.st.lt q hf; omega⟩
end Go.Proofs.YtbccnfbombgdmaaGreat

/- Do both devices read the same? They need not be one: it is enough that they are like each other. -/
set_option linter.unusedVariables false
set_option linter.unusedSimpArgs false
set_option maxRecDepth 8000
namespace Go.Proofs.YtbccnfbombgdmaaGreat
open Go.RowKit Go.Deep

theorem Like.readE {S T : Dv} (h : Like S T) (p : Int) : T.readErr p = S.readErr p := by
  unfold Dv.readErr Dv.has
  simp only [h.cs, h.off]
theorem Like.readT {S T : Dv} (h : Like S T) (p : Int) : T.readText p = S.readText p := by
  unfold Dv.readText Dv.has
  simp only [h.cs, h.off]
theorem Like.readD {S T : Dv} (h : Like S T) (p : Int) : Like (S.readDo p) (T.readDo p) :=
  ((Like.read S p).symm.trans h).trans (Like.read T p)
theorem Like.readN {S T : Dv} (h : Like S T) : ∀ k, Like (S.readN k) (T.readN k)
  | 0 => h
  | k + 1 => (Like.readN h k).readD k
theorem like_readN (S : Dv) : ∀ k, Like S (S.readN k)
  | 0 => Like.refl S
  | k + 1 => (like_readN S k).trans (Like.read _ _)
set_option maxHeartbeats 1000000 in
theorem alike_like (d r : Nat) (F G : List Nat) (S T : Dv) (hLK : Like S T) (w : World) (hP : Pair w d r F G S T) :
    Calls Tryz.prog 21 #[.pointer (some ⟨d, 0, none⟩), .pointer (some ⟨r, 0, none⟩)] w fun e w' => e = .returned (.bool true) ∧ Pair w' d r F G (S.readN S.cs.length) (T.readN S.cs.length) ∧ Moves (F ++ G) (F ++ G) w w' := by
  obtain ⟨n, hn⟩ : ∃ n, n = S.cs.length := ⟨_, rfl⟩
  have hnl : n ≤ 4096 := by rw [hn]; exact hP.dev.good.many
  have HN := hide hn
  have P0 := hide hP
  have HLK := hide hLK
  rw [← hn]
  clear hn hP hLK
  go_enter Tryz.func21, Tryz.ntmps21
  go_wp2_with fail
  go_loopg [5] n (fun kx s5 wr => ∃ k : Nat, s5 = .int .i64 k ∧ k ≤ n ∧ n - k ≤ kx ∧ Hid (Pair wr d r F G (S.readN k) (T.readN k) ∧ Moves (F ++ G) (F ++ G) w wr))
  case atStart => exact ⟨0, rfl, Nat.zero_le _, by omega, P0.out, Moves.refl _ _⟩
  case round =>
    obtain ⟨k, rfl, hkn, hg, I⟩ := hrel
    have hlen : (S.readN k).cs.length = n := by
      obtain ⟨x, hx⟩ := S.readN_rd k
      rw [hx, HN.out]
    have cp := pages_atF d F (S.readN k) wr I.out.1.dev
    rw [hlen] at cp
    have CP := hide cp
    clear cp hlen
    by_cases hlt : k < n
    · have hlt2 : (k : Int) < (n : Int) := by omega
      go_wp2_with (go_at_call 23; refine CP.out.mono ?_; rintro e w0 ⟨rfl, hw0⟩; obtain rfl : wr = w0 := hw0.symm)
      refine (read_at d F (S.readN k) k _ I.out.1.dev).mono ?_
      rintro e w1 ⟨v, rfl, hr, h1, k1⟩
      have p1 := I.out.1.step1 h1 (Moves.of_keep k1)
      obtain ⟨t, ht⟩ : ∃ t, t = (S.readN k).readText k := ⟨_, rfl⟩
      obtain ⟨er, her⟩ : ∃ er, er = (S.readN k).readErr k := ⟨_, rfl⟩
      rw [← ht, ← her] at hr
      rw [← her]
      have vs : ∃ a m c, v = .slice a m c ∧ ∀ W : World, Keep G w1 W → (convert 40 9 (.slice a m c)).run Tryz.prog W = .ok (.string t) W := by
        rcases hr with ⟨_, rfl, rfl⟩ | ⟨_, hsz, b, hb, rfl, hblk⟩
        · exact ⟨none, 0, 0, rfl, fun W _ => str_any (w := W) (a := none) (l := []) (b := 0) (.inl rfl) (fun _ => rfl) 0⟩
        · refine ⟨_, _, _, rfl, fun W hK => ?_⟩
          have hbG : b ∉ G := fun hf => by have := I.out.1.ref.lt b hf; omega
          have hb2 := hblk.same (hK.block b hblk.lt hbG)
          have h := str_any (w := W) (blk_slice (cap := 0) (pad := []) (by rw [List.append_nil]; exact hb2)) (fun h => by cases h) 384
          have hl : t.data.toList.length = 384 := by rw [Array.length_toList]; exact hsz
          rw [hl] at h
          rw [h]
      obtain ⟨a, m, c, rfl, hcv⟩ := vs
      have R1 := hide (rread_at r G (T.readN k) k w1 p1.ref)
      rw [(HLK.out.readN k).readT, (HLK.out.readN k).readE, ← ht, ← her] at R1
      have P1 := hide p1
      have M1 := hide (I.out.2.trans (Moves.of_keep k1).left)
      have CV := hide hcv
      clear hr h1 k1 p1 hcv ht her
      go_wp2_with fail
      refine R1.out.mono ?_
      rintro e w2 ⟨rfl, h2, k2⟩
      have P2 := hide (P1.out.step2 h2 (Moves.of_keep k2))
      have M2 := hide (M1.out.trans (Moves.of_keep k2).right)
      have cv := CV.out w2 k2
      clear h2 k2
      go_wp2
      go_roundg (n - (k + 1))
      case measure => omega
      case rel => exact ⟨k + 1, rfl, by omega, by omega, P2.out, M2.out⟩
    · obtain rfl : k = n := by omega
      have hlt2 : ¬ (k : Int) < (k : Int) := by omega
      have cl := hide (fun W (h : W.heap = wr.heap) => losses_atF d F (S.readN k) W (I.out.1.dev.same (fun _ _ => by rw [h])))
      have cw := hide (fun W (h : W.heap = wr.heap) => power_atF d F (S.readN k) W (I.out.1.dev.same (fun _ _ => by rw [h])))
      obtain ⟨L, hL, hR⟩ := I.out.1.ref
      have c3 := hR.dev.cell (i := 3) rfl
      have c5 := hR.dev.cell (i := 5) rfl
      have hrr := hR.dev.lt
      clear hL hR
      rw [(HLK.out.readN k).losses] at c5
      rw [(HLK.out.readN k).off] at c3
      generalize (S.readN k).losses = lo at cl c5
      generalize (S.readN k).off = of at cw c3
      cases of
      all_goals (
        simp only [Bool.not_false, Bool.not_true] at cw
        go_wp2_with (go_at_call 23; refine CP.out.mono ?_; rintro e w0 ⟨rfl, hw0⟩; obtain rfl : wr = w0 := hw0.symm)
        go_quiet (first
          | (go_at_call 24; refine Calls.quiet_of_same (cl.out _ ?_); rfl)
          | (go_at_call 59; refine Calls.quiet_of_same (cw.out _ ?_); rfl))
        go_wp2
        go_ret
        exact ⟨rfl, ⟨I.out.1.dev.same (fun _ _ => rfl), I.out.1.ref.same (fun _ _ => rfl), fun k hk => I.out.1.apart k hk⟩, ⟨I.out.2.keep.os, I.out.2.keep.tape, I.out.2.keep.output, I.out.2.keep.size, I.out.2.keep.block⟩, I.out.2.foot⟩)
end Go.Proofs.YtbccnfbombgdmaaGreat

/- A call of the device on both sides: what it leaves alike, and the stores beside it. -/
set_option linter.unusedVariables false
set_option linter.unusedSimpArgs false
set_option maxRecDepth 8000
namespace Go.Proofs.YtbccnfbombgdmaaGreat
open Go.RowKit Go.Deep Math

theorem Like.form {S T : Dv} (h : Like S T) : ∃ wr fl rd cr, T = { S with wr := wr, fl := fl, rd := rd, cr := cr } := by
  obtain ⟨h1, h2, h3, h4⟩ := h
  cases S; cases T
  simp only at h1 h2 h3 h4
  subst h1 h2 h3 h4
  exact ⟨_, _, _, _, rfl⟩
theorem Like.of {S T : Dv} (h1 : T.cs = S.cs) (h2 : T.off = S.off) (h3 : T.armed = S.armed) (h4 : T.losses = S.losses) : Like S T := ⟨h1, h2, h3, h4⟩
theorem Like.used {S T : Dv} (h : Like S T) : Like S.used T.used := by
  unfold Dv.used
  rw [h.off, h.armed]
  split
  · exact h
  · split
    · exact ⟨h.cs, rfl, rfl, by show wrap64 (T.losses + 1) = _; rw [h.losses]⟩
    · exact ⟨h.cs, rfl, rfl, h.losses⟩
theorem Like.gone {S T : Dv} (h : Like S T) : T.gone = S.gone := by unfold Dv.gone; rw [h.off, h.armed]
theorem Like.has {S T : Dv} (h : Like S T) (p : Int) : T.has p = S.has p := by unfold Dv.has; rw [h.cs]
theorem Like.putDo {S T : Dv} (h : Like S T) (p : Int) (g : Pg) : Like (S.putDo p g) (T.putDo p g) := by
  unfold Dv.putDo
  rw [h.has, h.gone]
  split
  · exact h
  · split
    · exact h.used
    · exact ⟨by show putAt T.cs _ _ = putAt S.cs _ _; rw [h.cs], h.used.off, h.used.armed, h.used.losses⟩
theorem Like.act {S T : Dv} (h : Like S T) (t : ActI) : Like (S.act t) (T.act t) := by
  unfold Dv.act
  split
  · unfold Dv.writeDo
    split
    · exact h
    · exact h.putDo _ _
  split
  · exact h.putDo _ _
  split
  · unfold Dv.flushDo
    rw [h.gone]
    split
    · exact h.used
    · exact ⟨by show T.cs.map _ = S.cs.map _; rw [h.cs], h.used.off, h.used.armed, h.used.losses⟩
  split
  · exact ⟨h.cs, h.off, rfl, h.losses⟩
  split
  · exact ⟨by show settle T.cs _ = settle S.cs _; rw [h.cs], rfl, h.armed, by show wrap64 (T.losses + 1) = wrap64 (S.losses + 1); rw [h.losses]⟩
  · exact ⟨by show settle T.cs _ = settle S.cs _; rw [h.cs], rfl, rfl, by show wrap64 (T.losses + 1) = wrap64 (S.losses + 1); rw [h.losses]⟩
theorem Like.ok {S T : Dv} (h : Like S T) (t : ActI) : bothOk S T t = true := by
  have e1 : ∀ p, T.putErr p = S.putErr p := fun p => by unfold Dv.putErr; rw [h.has, h.gone]
  unfold bothOk Dv.writeErr Dv.flushErr
  rw [e1, h.gone]
  split <;> (try split) <;> (try split) <;> simp
theorem used_live (S : Dv) : (S.used.losses = S.losses ∧ S.used.off = S.off) ∨ S.used.losses = wrap64 (S.losses + 1) := by
  unfold Dv.used
  split
  · exact .inl ⟨rfl, rfl⟩
  · split
    · exact .inr rfl
    · exact .inl ⟨rfl, rfl⟩
theorem putDo_live (S : Dv) (p : Int) (g : Pg) : ((S.putDo p g).losses = S.losses ∧ (S.putDo p g).off = S.off) ∨ (S.putDo p g).losses = wrap64 (S.losses + 1) := by
  unfold Dv.putDo
  split
  · exact .inl ⟨rfl, rfl⟩
  · split
    · exact used_live S
    · exact used_live S
theorem act_live (S : Dv) (t : ActI) : ((S.act t).losses = S.losses ∧ (S.act t).off = S.off) ∨ (S.act t).losses = wrap64 (S.losses + 1) := by
  unfold Dv.act
  split
  · unfold Dv.writeDo
    split
    · exact .inl ⟨rfl, rfl⟩
    · exact putDo_live _ _ _
  split
  · exact putDo_live _ _ _
  split
  · unfold Dv.flushDo
    split
    · exact used_live S
    · exact used_live S
  split
  · exact .inl ⟨rfl, rfl⟩
  split
  · exact .inr rfl
  · exact .inr rfl
theorem settle_len : ∀ (cs : List Cl) (ps : List UInt8), (settle cs ps).length = cs.length
  | [], _ => rfl
  | c :: r, ps => by
    unfold settle
    split
    · simp [settle_len r ps]
    · simp [settle_len r ps.tail]
theorem putDo_len (S : Dv) (p : Int) (g : Pg) : (S.putDo p g).cs.length = S.cs.length := by
  unfold Dv.putDo
  split
  · rfl
  · split
    · rw [S.used_cs]
    · show (putAt _ _ _).length = _; rw [putAt_length]
theorem act_len (S : Dv) (t : ActI) : (S.act t).cs.length = S.cs.length := by
  unfold Dv.act
  split
  · exact write_len _ _ _
  split
  · exact putDo_len _ _ _
  split
  · unfold Dv.flushDo
    split
    · rw [S.used_cs]
    · show (S.cs.map _).length = _; rw [List.length_map]
  split
  · rfl
  split
  · exact settle_len _ _
  · exact settle_len _ _
section
variable {w0 W W' : World} {d s : Nat} {F F' : List Nat} {S S' T T' : Dv} {L : Int} {first : Nat} {M M' : SM} {s' r : Nat} {G G' : List Nat} {tv : Value} {vs : List Value} {td : List (List (List UInt8))}
theorem Devs.pair (h : Devs w0 W d F S r G T) : Pair W d r F G S T := ⟨h.p.dev, h.q, fun k hk => ⟨h.q.lt k hk, h.sep k hk⟩⟩
theorem Devs.acted (h : Devs w0 W d F S r G T) (hP : Pair W' d r F' G' S' T') (m : Moves (F ++ G) (F' ++ G') W W') (hl : Like S' T') : Devs w0 W' d F' S' r G' T' := by
  have hlow : ∀ k ∈ F ++ G, w0.heap.size ≤ k := fun k hk => by
    rcases List.mem_append.1 hk with h1 | h1
    · exact h.p.low k h1
    · exact h.newG k h1
  have hnew : ∀ k ∈ F' ++ G', w0.heap.size ≤ k := fun k hk => by
    rcases m.foot k hk with h1 | h1
    · exact hlow k h1
    · have := h.p.bel.size; omega
  exact ⟨⟨hP.dev, fun k hk => hnew k (List.mem_append.2 (.inl hk)), h.p.bel.trans (m.keep.below hlow h.p.bel.size)⟩, hP.ref, fun k hk => hnew k (List.mem_append.2 (.inr hk)), hl, fun k hk => (hP.apart k hk).2⟩
theorem Two.acted (h : Two w0 W d F S s L first M s' r G T tv vs td) (hP : Pair W' d r F' G' S' T') (m : Moves (F ++ G) (F' ++ G') W W') (hl : Like S' T') (hc : S'.cs.length = S.cs.length) (hlive : L = S'.losses → S'.off = false) : Two w0 W' d F' S' s L first M s' r G' T' tv vs td := by
  have hD := h.devs.acted hP m hl
  have hmS : ∀ b ∈ M.foot s, b ∉ F ++ G := fun b hb hf => by
    rcases List.mem_append.1 hf with h1 | h1
    · exact h.p.off b hb h1
    · exact (h.sep b (ftG h1)).2 hb
  have hs : s' ∉ F ++ G := fun hf => by
    rcases List.mem_append.1 hf with h1 | h1
    · exact (h.sep s' (by simp [ftR])).1 h1
    · exact h.q.sG h1
  have ht : ∀ b ∈ tdF tv vs, b ∉ F ++ G := fun b hb hf => by
    rcases List.mem_append.1 hf with h1 | h1
    · exact (h.sep b (by simp [ftR, hb])).1 h1
    · exact h.q.tG b hb h1
  have hnF : ∀ b, b < W.heap.size → b ∉ F ++ G → b ∉ F' ++ G' := fun b hb hn hf => by
    rcases m.foot b hf with h1 | h1
    · exact hn h1
    · omega
  have sub : ∀ {b}, b ∈ F' → b ∈ F' ++ G' := fun h => List.mem_append.2 (.inl h)
  have sub2 : ∀ {b}, b ∈ G' → b ∈ F' ++ G' := fun h => List.mem_append.2 (.inr h)
  refine ⟨⟨hD.p, h.p.st.same (fun b hb => m.keep.block b (h.p.st.lt b hb) (hmS b hb)), h.p.new, fun b hb hf => hnF b (h.p.st.lt b hb) (hmS b hb) (sub hf)⟩,
    ⟨h.q.box.same (m.keep.block _ h.q.box.lt hs), hP.ref, h.q.told.same (fun b hb => m.keep.block b (h.q.told.lt b hb).2.1 (ht b hb)), h.q.len, h.q.n1, h.q.n2, by rw [hl.cs, hc, ← h.like.cs]; exact h.q.fit, hD.newG, h.q.newS, fun hf => hnF _ h.q.box.lt hs (sub2 hf), fun b hb hf => hnF b (h.q.told.lt b hb).2.1 (ht b hb) (sub2 hf), hD.p.bel, h.q.sml⟩,
    hl, h.told, fun b hb => ?_, hlive⟩
  rcases List.mem_cons.1 hb with rfl | hb
  · exact ⟨fun hf => hnF _ h.q.box.lt hs (sub hf), (h.sep _ (by simp [ftR])).2⟩
  · rcases List.mem_append.1 hb with h1 | h1
    · refine ⟨hD.sep b h1, fun hf => ?_⟩
      exact hnF b (h.p.st.lt b hf) (hmS b hf) (sub2 h1)
    · exact ⟨fun hf => hnF b (h.q.told.lt b h1).2.1 (ht b h1) (sub hf), (h.sep b (by simp [ftR, h1])).2⟩
end
end Go.Proofs.YtbccnfbombgdmaaGreat

/- The answers compared: Items on both sides, any two rows of the same items. -/
set_option linter.unusedVariables false
set_option linter.unusedSimpArgs false
set_option maxRecDepth 8000
namespace Go.Proofs.YtbccnfbombgdmaaGreat
open Go.RowKit Go.Deep Math
variable {w0 W W' : World} {d s : Nat} {F F' : List Nat} {S S' T T' : Dv} {L : Int} {first : Nat} {M M' : SM} {s' r : Nat} {G : List Nat} {tv : Value} {vs : List Value} {td : List (List (List UInt8))} {er : Int}

/-- The stores' own blocks and all others: what was before the call and is not the stores' stays. -/
theorem Row.still {W W' : World} {b : Nat} {v : Value} {xs : List It} (h : Row W b v xs) {H : List Nat} (k : Keep H W W') (hH : ∀ q ∈ H, q < b) : Row W' b v xs :=
  h.keep (fun q hq => k.block q (h.lt q hq).2 (fun hm => by have := hH q hm; have := (h.lt q hq).1; omega))
/-- What the first answered of its list stands while the second answers. -/
theorem AnsI.still {n b : Nat} {v : Value} (h : AnsI S L first n b v er W) {H : List Nat} (k : Keep H W W') (hH : ∀ q ∈ H, q < b) : AnsI S L first n b v er W' := by
  rcases h with h | ⟨h1, h2, h3⟩
  · exact .inl h
  · exact .inr ⟨h1, h2, h3.still k hH⟩
theorem AnsI.below {n b : Nat} {v : Value} (h : AnsI S L first n b v er W) (k : Below W.heap.size W W') : AnsI S L first n b v er W' := by
  rcases h with h | ⟨h1, h2, h3⟩
  · exact .inl h
  · exact .inr ⟨h1, h2, h3.below k⟩
theorem AnsI.err {n b b' : Nat} {v u : Value} {er' : Int} {W2 : World} (h : AnsI S L first n b v er W) (h' : AnsI S L first n b' u er' W2) : er' = er := by
  rcases h with ⟨h1, _, rfl⟩ | ⟨h1, rfl, _⟩ <;> rcases h' with ⟨h2, _, rfl⟩ | ⟨h2, rfl, _⟩ <;> first | rfl | exact absurd h2 h1 | exact absurd h1 h2
theorem AnsI.rows {n b b' : Nat} {v u : Value} {er' : Int} (h : AnsI S L first n b v er W) (h' : AnsI S L first n b' u er' W) (hg : S.good) : ∃ (xs : List It), Row W b v xs ∧ Row W b' u xs ∧ ∀ x ∈ xs, x.fits ∧ x.good = true := by
  have hx : ∀ x ∈ S.all first n, x.fits ∧ x.good = true := fun x hx => by
    unfold Dv.all at hx
    obtain ⟨k, _, hk⟩ := List.mem_flatMap.1 hx
    exact (Dv.its_all hg _).2 x hk
  rcases h with ⟨h1, rfl, rfl⟩ | ⟨h1, rfl, h2⟩
  · rcases h' with ⟨_, rfl, rfl⟩ | ⟨h3, _, _⟩
    · exact ⟨[], Row.nil _ _, Row.nil _ _, fun x hx => by cases hx⟩
    · exact absurd h3 h1
  · rcases h' with ⟨h3, _, _⟩ | ⟨h3, rfl, h4⟩
    · exact absurd h1 h3
    · exact ⟨_, h2, h4, hx⟩
theorem Two.good (h : Two w0 W d F S s L first M s' r G T tv vs td) : S.good := h.p.law.dev.good
end Go.Proofs.YtbccnfbombgdmaaGreat

/- Open anew beside the old stores; how long a store lives. -/
set_option linter.unusedVariables false
set_option linter.unusedSimpArgs false
set_option maxRecDepth 8000
namespace Go.Proofs.YtbccnfbombgdmaaGreat
open Go.RowKit Go.Deep Math
variable {w0 W W' : World} {d s : Nat} {F F' : List Nat} {S S' T T' : Dv} {L : Int} {first : Nat} {M M' : SM} {s' r : Nat} {G G' : List Nat} {tv : Value} {vs : List Value} {td : List (List (List UInt8))} {er : Int}

theorem wrap64_small {z : Int} (h0 : 0 ≤ z) (h1 : z ≤ 100000) : wrap64 (z + 1) = z + 1 := by unfold wrap64; omega
/-- Losses are counted: at least L, at most c. -/
def Cnt (L : Int) (S : Dv) (c : Int) : Prop := 0 ≤ L ∧ L ≤ S.losses ∧ S.losses ≤ c
theorem Cnt.like {c : Int} (h : Cnt L S c) (hl : Like S S') : Cnt L S' c := by unfold Cnt; rw [hl.losses]; exact h
theorem Cnt.more {c c' : Int} (h : Cnt L S c) (hc : c ≤ c') : Cnt L S c' := ⟨h.1, h.2.1, Int.le_trans h.2.2 hc⟩
theorem Cnt.act {c : Int} (h : Cnt L S c) (hc : c ≤ 100000) (t : ActI) : Cnt L (S.act t) (c + 1) := by
  obtain ⟨h1, h2, h3⟩ := h
  rcases act_live S t with ⟨h4, _⟩ | h4
  · exact ⟨h1, by rw [h4]; exact h2, by rw [h4]; omega⟩
  · rw [wrap64_small (by omega) (by omega)] at h4
    exact ⟨h1, by omega, by omega⟩
theorem Cnt.act_on {c : Int} (h : Cnt L S c) (hc : c ≤ 100000) (t : ActI) (hv : L = S.losses → S.off = false) : L = (S.act t).losses → (S.act t).off = false := fun e => by
  obtain ⟨h1, h2, h3⟩ := h
  rcases act_live S t with ⟨h4, h5⟩ | h4
  · rw [h5]; exact hv (by rw [← h4]; exact e)
  · rw [wrap64_small (by omega) (by omega)] at h4
    omega
theorem Cnt.wr {c : Int} {k : Nat} {ys : List It} (h : Cnt L S c) (hc : c ≤ 100000) (hw : WrD S S' k ys er) : Cnt L S' (c + 1) := by
  obtain ⟨h1, h2, h3⟩ := h
  rcases hw.live with ⟨_, _, h4⟩ | ⟨_, _, h4⟩
  · exact ⟨h1, by rw [h4]; exact h2, by rw [h4]; omega⟩
  · rw [wrap64_small (by omega) (by omega)] at h4
    exact ⟨h1, by omega, by omega⟩
/-- A call of the device beside both stores. -/
theorem Two.act (h : Two w0 W d F S s L first M s' r G T tv vs td) {c : Int} (hc : Cnt L S c) (hc2 : c ≤ 100000) (t : ActI) (hbs : BSlice W t.a t.l t.bb) (hnil : t.a = none → t.l = []) (hs : t.l.length ≤ 140737488351232) (hpg : t.page ≤ 9223372036854775807) (hbF : t.l ≠ [] → t.bb ∉ F) (hbG : t.l ≠ [] → t.bb ∉ G) :
    Calls Tryz.prog 18 #[.pointer (some ⟨d, 0, none⟩), .pointer (some ⟨r, 0, none⟩), .agg #[.int .i64 t.op, .int .i64 t.page, .slice t.a t.l.length t.cap]] W fun e W' =>
      e = .returned (.bool true) ∧ ∃ F' S' G' T', Two w0 W' d F' S' s L first M s' r G' T' tv vs td ∧ Cnt L S' (c + 1) := by
  refine (both_any d r F G S T t W h.devs.pair hbs hnil hs hpg hbF hbG).mono ?_
  rintro e W' ⟨rfl, F', G', hP, m⟩
  rw [h.like.ok t]
  exact ⟨rfl, F', _, G', _, h.acted hP m (h.like.act t) (act_len S t) (hc.act_on hc2 t h.live), hc.act hc2 t⟩
/-- Open anew where it fails: the old stores go on. -/
theorem Two.openN1 (h : Two w0 W d F S s L first M s' r G T tv vs td) (a b : Int) (ha : -9223372036854775808 ≤ a ∧ a ≤ 9223372036854775807) (hb : -9223372036854775808 ≤ b ∧ b ≤ 9223372036854775807) (hA : AnsO S a b er) (he : er ≠ 0) :
    Calls Tryz.prog 7 #[.pointer (some ⟨d, 0, none⟩), .int .i64 a, .int .i64 b] W fun e W' => e = .returned (.tuple #[.pointer none, .int .i64 er]) ∧ ∃ S', Two w0 W' d F S' s L first M s' r G T tv vs td ∧ Like S S' := by
  rcases hA with ⟨h1, rfl⟩ | ⟨f, n, rfl, rfl, h1, h2, h3, h4⟩
  · refine (open_bad2 h.p.law a b ha hb h1).mono ?_
    rintro e W' ⟨rfl, rfl⟩
    exact ⟨rfl, S, h, Like.refl S⟩
  · rcases h4 with ⟨ho, rfl⟩ | ⟨ho, rfl⟩
    · refine (open_off h.p.law ho f n h1 h2 h3).mono ?_
      rintro e W' ⟨rfl, S1, h4, h5, h6⟩
      exact ⟨rfl, S1, h.read1 ⟨h4, h.p.st.same (fun q hq => h6.block q (h.p.st.lt q hq) (h.p.off q hq)), h.p.new, h.p.off⟩ h5 h6, h5⟩
    · exact absurd rfl he
theorem Two.openN2 (h : Two w0 W d F S s L first M s' r G T tv vs td) (a b : Int) (ha : -9223372036854775808 ≤ a ∧ a ≤ 9223372036854775807) (hb : -9223372036854775808 ≤ b ∧ b ≤ 9223372036854775807) (hA : AnsO S a b er) (he : er ≠ 0) :
    Calls Tryz.prog 8 #[.pointer (some ⟨r, 0, none⟩), .int .i64 a, .int .i64 b] W fun e W' => e = .returned (.tuple #[.pointer none, .int .i64 er]) ∧ W' = W := by
  rcases hA.like h.like with ⟨g1, rfl⟩ | ⟨f, n, rfl, rfl, g1, g2, g3, g4⟩
  · exact ropen_bad r G T W h.q.dev a b ha hb g1
  · rcases g4 with ⟨ho, rfl⟩ | ⟨ho, rfl⟩
    · exact ropen_off r G T W h.q.dev ho f n g1 g2 g3
    · exact absurd rfl he
end Go.Proofs.YtbccnfbombgdmaaGreat
