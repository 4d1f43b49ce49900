/- sink, balance: lists are brought down to their shares. -/
import Derived.Test.YtgjgdhjnkbbceaaRg4
import Derived.Test.YtgjgdhjnkbbceaaMp
import Derived.Test.YtgjgdhjnkbbceaaMath
import Derived.Deep.LoopGhost
set_option linter.unusedVariables false
set_option linter.unusedSimpArgs false
set_option maxRecDepth 8000
namespace Go.Proofs.Ytgjgdhjnkbbceaa
open Go.RowKit Go.Deep Sgm

def kv (e : En) : Nd := (e.id, e.u)
def st (L : Nat → List En) : St := ⟨(L 0).map kv, (L 1).map kv, (L 2).map kv⟩
/-- A number stands in this block. -/
def AtB (L : Nat → List En) (i : Int) (b : Nat) : Prop := ∃ k, k < 3 ∧ ∃ e ∈ L k, e.id = i ∧ e.b = b
section
variable {w w' : World} {f m k j : Nat} {L L' : Nat → List En} {F : List Nat} {A B : List En} {x : En}
theorem st_row (hk : k < 3) : (st L).row k = (L k).map kv := by
  match k, hk with
  | 0, _ => rfl
  | 1, _ => rfl
  | 2, _ => rfl
theorem st_len (hk : k < 3) : ((st L).row k).length = (L k).length := by rw [st_row hk]; simp
def toK (k : Nat) (x : En) : Nat := if k = 2 then 1 else if x.u then 1 else 2
theorem toK_lt (k : Nat) (x : En) : toK k x < 3 := by
  unfold toK
  split
  · decide
  · split <;> decide
theorem st_mvd (hk : k < 3) (hs : L k = A ++ [x]) : st (mvd L k (toK k x) A [] x) = stp k (st L) := by
  match k, hk with
  | 0, _ =>
    have e : st L = ⟨A.map kv ++ [kv x], (L 1).map kv, (L 2).map kv⟩ := by simp [st, hs]
    rw [e, stp_h]
    cases hx : x.u <;> simp [st, mvd, upL, toK, kv, hx]
  | 1, _ =>
    have e : st L = ⟨(L 0).map kv, A.map kv ++ [kv x], (L 2).map kv⟩ := by simp [st, hs]
    rw [e, stp_w]
    cases hx : x.u <;> simp [st, mvd, upL, toK, kv, hx]
  | 2, _ =>
    have e : st L = ⟨(L 0).map kv, (L 1).map kv, A.map kv ++ [kv x]⟩ := by simp [st, hs]
    rw [e, stp_c]
    simp [st, mvd, upL, toK, kv]
theorem at_mvd {k' : Nat} (hk : k < 3) (hk' : k' < 3) (hs : L k = A ++ x :: B) (i : Int) (b : Nat) : AtB (mvd L k k' A B x) i b ↔ AtB L i b := by
  have sub : ∀ j e, e ∈ upL L k (A ++ B) j → e ∈ L j := fun j e he => by
    by_cases hjk : j = k
    · subst hjk; rw [upL_same] at he; rw [hs]; rcases List.mem_append.1 he with h1 | h1 <;> simp [h1]
    · rw [upL_other _ _ hjk] at he; exact he
  constructor
  · rintro ⟨j, hj, e, he, h1, h2⟩
    unfold mvd at he
    by_cases hjk : j = k'
    · subst hjk
      rw [upL_same] at he
      rcases List.mem_cons.1 he with rfl | he
      · exact ⟨k, hk, x, by rw [hs]; simp, h1, h2⟩
      · exact ⟨j, hj, e, sub j e he, h1, h2⟩
    · rw [upL_other _ _ hjk] at he
      exact ⟨j, hj, e, sub j e he, h1, h2⟩
  · rintro ⟨j, hj, e, he, h1, h2⟩
    have inn : ∀ j e, e ∈ upL L k (A ++ B) j → e ∈ mvd L k k' A B x j := fun j e he => by
      unfold mvd
      by_cases hjk : j = k'
      · subst hjk; rw [upL_same]; exact List.mem_cons_of_mem _ he
      · rw [upL_other _ _ hjk]; exact he
    by_cases hjk : j = k
    · subst hjk
      rw [hs] at he
      rcases List.mem_append.1 he with h3 | h3
      · exact ⟨j, hj, e, inn j e (by rw [upL_same]; simp [h3]), h1, h2⟩
      · rcases List.mem_cons.1 h3 with rfl | h3
        · exact ⟨k', hk', ⟨e.b, e.id, false⟩, by unfold mvd; rw [upL_same]; simp, h1, h2⟩
        · exact ⟨j, hj, e, inn j e (by rw [upL_same]; simp [h3]), h1, h2⟩
    · exact ⟨j, hj, e, inn j e (by rw [upL_other _ _ hjk]; exact he), h1, h2⟩
theorem row_le (hk : k < 3) : (L k).length ≤ (st L).all.length := by
  match k, hk with
  | 0, _ => simp [st, St.all]
  | 1, _ => simp [st, St.all]; omega
  | 2, _ => simp [st, St.all]; omega
theorem ids_len {s t : St} (h : (ids s.all).Perm (ids t.all)) : s.all.length = t.all.length := by
  have := h.length_eq
  simpa [ids] using this
theorem SgIn.lastp (h : SgIn w f m L F) (hk : k < 3) (hs : L k = A ++ [x]) : w.cell? ⟨f, 6 * k + 3, none⟩ = some (.pointer (some ⟨x.b, 0, none⟩)) := by
  have := (h.ring k hk).last.2
  rw [hs, List.map_append, List.map_cons, List.map_nil, prv_snoc] at this
  exact this
/-- What stands while a list is turned. -/
structure Sunk (w0 : World) (f m : Nat) (L0 : Nat → List En) (F : List Nat) (L : Nat → List En) (w : World) : Prop where
  sg : SgIn w f m L F
  keep : Keep F w0 w
  at_ : ∀ i b, AtB L i b ↔ AtB L0 i b
  perm : (ids (st L).all).Perm (ids (st L0).all)
theorem Sunk.refl (h : SgIn w f m L F) : Sunk w f m L F L w := ⟨h, Keep.refl _ _, fun _ _ => Iff.rfl, List.Perm.refl _⟩
theorem Sunk.len {w0 : World} {L0 : Nat → List En} (h : Sunk w0 f m L0 F L w) : (st L).all.length = (st L0).all.length := ids_len h.perm
theorem Sunk.mv {w0 w1 : World} {L0 : Nat → List En} (h : Sunk w0 f m L0 F L w) (hk : k < 3) (hs : L k = A ++ [x]) (h2 : SgIn w1 f m (mvd L k (toK k x) A [] x) F) (k2 : Keep F w w1) : Sunk w0 f m L0 F (mvd L k (toK k x) A [] x) w1 := by
  refine ⟨h2, h.keep.trans k2 (fun q hq => .inl hq), fun i b => (at_mvd hk (toK_lt k x) hs i b).trans (h.at_ i b), ?_⟩
  rw [st_mvd hk hs]
  exact (stp_perm hk (st L)).trans h.perm
theorem Sunk.trans {w0 w1 w2 : World} {L0 L1 L2 : Nat → List En} (h : Sunk w0 f m L0 F L1 w1) (g : Sunk w1 f m L1 F L2 w2) : Sunk w0 f m L0 F L2 w2 :=
  ⟨g.sg, h.keep.trans g.keep (fun q hq => .inl hq), fun i b => (g.at_ i b).trans (h.at_ i b), g.perm.trans h.perm⟩
set_option maxHeartbeats 2000000 in
theorem sink_any (h : SgIn w f m L F) (hk : k < 2) (most o : Nat) (ho : o = 6 * k) (hn : (st L).all.length ≤ 100000) (hm : most ≤ 1000000) :
    Calls Try.prog 35 #[.pointer (some ⟨f, 0, none⟩), .pointer (some ⟨f, o, none⟩), .int .i64 (most : Int)] w fun e w' => e = .returned (.tuple #[]) ∧ ∃ L', Sunk w f m L F L' w' ∧ st L' = snk k most (st L) := by
  have H := hide h
  have HO := hide ho
  have HK := hide hk
  have HN := hide hn
  clear h ho hk hn
  go_enter Try.func35, Try.ntmps35
  go_wp2
  go_loopg [6] (mu ((st L).row k)) (fun kx s6 wr => ∃ (L1 : Nat → List En), Hid (Sunk w f m L F L1 wr ∧ snk k most (st L1) = snk k most (st L) ∧ mu ((st L1).row k) ≤ kx))
  case atStart => exact ⟨L, Sunk.refl H.out, rfl, Nat.le_refl _⟩
  case round =>
    obtain ⟨L1, I⟩ := hrel
    have hk3 : k < 3 := Nat.lt_succ_of_lt HK.out
    have c5 : wr.cell? ⟨f, o + 5, none⟩ = some (.int .i64 ((L1 k).length : Int)) := by rw [HO.out]; exact I.out.1.sg.cnt k hk3
    have hl9 : (L1 k).length ≤ 100000 := Nat.le_trans (row_le hk3) (by rw [I.out.1.len]; exact HN.out)
    have HL9 := hide hl9
    by_cases hgt : most < (L1 k).length
    · have HG := hide hgt
      obtain ⟨A, y, hs⟩ := snoc_of (l := (st L1).row k) (by rw [st_len hk3]; omega)
      obtain ⟨A, x, hs⟩ : ∃ (A : List En) (x : En), L1 k = A ++ [x] := by
        rcases List.eq_nil_or_concat (L1 k) with e | ⟨A, x, e⟩
        · rw [e] at hgt; cases hgt
        · exact ⟨A, x, by rw [e]; simp⟩
      have HS := hide hs
      have c3 : wr.cell? ⟨f, o + 3, none⟩ = some (.pointer (some ⟨x.b, 0, none⟩)) := by rw [HO.out]; exact I.out.1.sg.lastp hk3 hs
      have CL := hide (last_raw f o (some ⟨x.b, 0, none⟩) wr c3)
      have c1 : wr.cell? ⟨x.b, 1, none⟩ = some (.bool x.u) := (I.out.1.sg.node k hk3 x (by rw [hs]; simp)).c1
      have hk2 : k ≠ 2 := by have := HK.out; omega
      have CM : Hid (Calls Try.prog 27 #[.pointer (some ⟨x.b, 0, none⟩), .pointer (some ⟨f, if x.u then 6 else 12, none⟩)] wr fun e w' => e = .returned (.tuple #[]) ∧ SgIn w' f m (mvd L1 k (toK k x) A [] x) F ∧ Keep F wr w') :=
        I.out.1.sg.moveTo hk3 (toK_lt k x) hs (fun j hj => Nat.le_trans (row_le hj) (by rw [I.out.1.len]; have := HN.out; omega)) _ (by unfold toK; rw [if_neg hk2]; split <;> rfl)
      have HNX : Hid (∀ w1, SgIn w1 f m (mvd L1 k (toK k x) A [] x) F ∧ Keep F wr w1 → (Sunk w f m L F (mvd L1 k (toK k x) A [] x) w1 ∧ snk k most (st (mvd L1 k (toK k x) A [] x)) = snk k most (st L)) ∧ mu ((st (mvd L1 k (toK k x) A [] x)).row k) + 1 ≤ mu ((st L1).row k)) := fun w1 hw => by
        have hr : most < ((st L1).row k).length := by rw [st_len hk3]; exact hgt
        refine ⟨⟨I.out.1.mv hk3 hs hw.1 hw.2, ?_⟩, ?_⟩
        · rw [st_mvd hk3 hs, ← snk_step hk3 hr]; exact I.out.2.1
        · rw [st_mvd hk3 hs]
          exact mu_stp hk3 (s := st L1) (by omega)
      have hgt2 : (most : Int) < ((L1 k).length : Int) := by omega
      obtain ⟨b, hb⟩ : ∃ b, b = x.b := ⟨_, rfl⟩
      obtain ⟨u, hu⟩ : ∃ u, u = x.u := ⟨_, rfl⟩
      rw [← hb] at CL CM c1
      rw [← hu] at CM c1
      generalize mvd L1 k (toK k x) A [] x = L2 at *
      generalize (L1 k).length = n1 at *
      clear hs hgt hk2 hb hu c3 hl9 HS hk3
      cases u with
      | true =>
        simp only [if_true] at CM
        go_wp2_with fail
        refine CL.out.mono ?_
        rintro e wx ⟨rfl, hx⟩
        obtain rfl : wr = wx := hx.symm
        clear hx CL
        go_wp2_with fail
        refine CM.out.mono ?_
        rintro e w2 ⟨rfl, h2⟩
        have N := hide (HNX.out w2 h2)
        clear h2 CM HNX c1 c5
        go_wp2
        go_roundg (mu ((st L2).row k))
        case measure => have := N.out.2; have := I.out.2.2; omega
        case rel => exact ⟨L2, N.out.1.1, N.out.1.2, Nat.le_refl _⟩
      | false =>
        simp only [Bool.false_eq_true, if_false] at CM
        go_wp2_with fail
        refine CL.out.mono ?_
        rintro e wx ⟨rfl, hx⟩
        obtain rfl : wr = wx := hx.symm
        clear hx CL
        go_wp2_with fail
        refine CM.out.mono ?_
        rintro e w2 ⟨rfl, h2⟩
        have N := hide (HNX.out w2 h2)
        clear h2 CM HNX c1 c5
        go_wp2
        go_roundg (mu ((st L2).row k))
        case measure => have := N.out.2; have := I.out.2.2; omega
        case rel => exact ⟨L2, N.out.1.1, N.out.1.2, Nat.le_refl _⟩
    · have hng : ¬ (most : Int) < ((L1 k).length : Int) := by omega
      have HE : Hid (∃ L', Sunk w f m L F L' wr ∧ st L' = snk k most (st L)) := ⟨L1, I.out.1, by rw [← I.out.2.1, snk_stop (by rw [st_len hk3]; exact hgt)]⟩
      clear hgt I hl9 hk3
      generalize (L1 k).length = n1 at *
      go_wp2
      go_end0
      exact ⟨rfl, HE.out⟩
end
end Go.Proofs.Ytgjgdhjnkbbceaa
