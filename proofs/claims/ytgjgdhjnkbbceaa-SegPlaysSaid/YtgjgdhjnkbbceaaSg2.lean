/- The three lists and the map; Len, balance, Add, Touch, Remove. -/
import Derived.Test.YtgjgdhjnkbbceaaSg1
set_option linter.unusedVariables false
set_option linter.unusedSimpArgs false
set_option maxRecDepth 8000
namespace Go.Proofs.Ytgjgdhjnkbbceaa
open Go.RowKit Go.Deep Sgm

def foot0 (f : Nat) (L : Nat → List En) : List Nat := f :: ((L 0).map En.b ++ (L 1).map En.b ++ (L 2).map En.b)
theorem mem_foot0 {f b : Nat} {L : Nat → List En} : b ∈ foot0 f L ↔ b = f ∨ ∃ k, k < 3 ∧ ∃ e ∈ L k, e.b = b := by
  unfold foot0
  simp only [List.mem_cons, List.mem_append, List.mem_map]
  constructor
  · rintro (h | (h | h) | h)
    · exact .inl h
    · exact .inr ⟨0, by decide, h⟩
    · exact .inr ⟨1, by decide, h⟩
    · exact .inr ⟨2, by decide, h⟩
  · rintro (h | ⟨k, hk, h⟩)
    · exact .inl h
    · match k, hk with
      | 0, _ => exact .inr (.inl (.inl h))
      | 1, _ => exact .inr (.inl (.inr h))
      | 2, _ => exact .inr (.inr h)
theorem foot0_at {f b : Nat} {L : Nat → List En} : b ∈ foot0 f L ↔ b = f ∨ ∃ i, AtB L i b := by
  rw [mem_foot0]
  constructor
  · rintro (h | ⟨k, hk, e, he, h⟩)
    · exact .inl h
    · exact .inr ⟨e.id, k, hk, e, he, rfl, h⟩
  · rintro (h | ⟨i, k, hk, e, he, _, h⟩)
    · exact .inl h
    · exact .inr ⟨k, hk, e, he, h⟩
section
variable {w w' : World} {f m n k j : Nat} {L L' : Nat → List En} {F : List Nat} {A B : List En} {x : En} {M : Int → Option Nat} {i : Int} {b : Nat}
theorem SgIn.reF {F' : List Nat} (h : SgIn w f m L F) (h1 : ∀ b ∈ foot0 f L, b ∈ F') : SgIn w f m L F' :=
  ⟨h.own, h.mp, h.cnt, h.ring, h.node, h.lin, h.nd, h.ap, h1 f (List.mem_cons_self ..), fun k hk e he => h1 _ (mem_foot0.2 (.inr ⟨k, hk, e, he, rfl⟩))⟩
/-- Lists and map agree. -/
structure SMx (w : World) (f m : Nat) (L : Nat → List En) (M : Int → Option Nat) : Prop where
  sg : SgIn w f m L (foot0 f L)
  mp : MapAt w m (st L).all.length M
  at_ : ∀ i b, M i = some b ↔ AtB L i b
  nd : (st L).Nd
  i64 : ∀ i ∈ ids (st L).all, I64 i
theorem mem_st {i : Int} : i ∈ ids (st L).all ↔ ∃ b, AtB L i b := by
  unfold ids St.all st
  simp only [List.mem_map, List.mem_append, kv]
  constructor
  · rintro ⟨a, ((⟨e, he, rfl⟩ | ⟨e, he, rfl⟩) | ⟨e, he, rfl⟩), rfl⟩
    · exact ⟨e.b, 0, by decide, e, he, rfl, rfl⟩
    · exact ⟨e.b, 1, by decide, e, he, rfl, rfl⟩
    · exact ⟨e.b, 2, by decide, e, he, rfl, rfl⟩
  · rintro ⟨b, k, hk, e, he, rfl, _⟩
    match k, hk with
    | 0, _ => exact ⟨_, .inl (.inl ⟨e, he, rfl⟩), rfl⟩
    | 1, _ => exact ⟨_, .inl (.inr ⟨e, he, rfl⟩), rfl⟩
    | 2, _ => exact ⟨_, .inr ⟨e, he, rfl⟩, rfl⟩
theorem SMx.has (h : SMx w f m L M) (i : Int) : (st L).has i = (M i).isSome := by
  unfold St.has
  rw [Bool.eq_iff_iff]
  rw [decide_eq_true_eq, mem_st]
  constructor
  · rintro ⟨b, hb⟩; rw [(h.at_ i b).2 hb]; rfl
  · intro hs
    obtain ⟨b, hb⟩ := Option.isSome_iff_exists.1 hs
    exact ⟨b, (h.at_ i b).1 hb⟩
theorem map_off {es : Array MapEntry} {c n : Nat} {t : TypeId} (hm : w.heap[m]? = some (.map es c)) (hs : Sh w b n t) : b ≠ m := fun e => by
  subst e
  obtain ⟨X, _, hb⟩ := hs
  unfold Blk at hb
  rw [hb] at hm
  cases hm
theorem SgIn.foot_off (h : SgIn w f m L F) {es : Array MapEntry} {c : Nat} {q : Nat} (hm : w.heap[q]? = some (.map es c)) : ∀ b ∈ foot0 f L, b ≠ q := fun b hb => by
  rcases mem_foot0.1 hb with rfl | ⟨k, hk, e, he, rfl⟩
  · exact map_off hm h.own
  · exact map_off hm (h.node k hk e he).sh
theorem SgIn.foot_lt (h : SgIn w f m L F) : ∀ b ∈ foot0 f L, b < w.heap.size := fun b hb => by
  rcases mem_foot0.1 hb with rfl | ⟨k, hk, e, he, rfl⟩
  · exact h.own.lt
  · exact (h.node k hk e he).sh.lt
theorem SgIn.sameF (h : SgIn w f m L F) (e : ∀ b ∈ foot0 f L, w'.heap[b]? = w.heap[b]?) : SgIn w' f m L F :=
  h.same (e f (List.mem_cons_self ..)) (fun k hk x hx => e _ (mem_foot0.2 (.inr ⟨k, hk, x, hx, rfl⟩)))
theorem foot_sub (h : ∀ i b, AtB L' i b → AtB L i b) : ∀ b ∈ foot0 f L', b ∈ foot0 f L := fun b hb => by
  rcases foot0_at.1 hb with h1 | ⟨i, h1⟩
  · exact foot0_at.2 (.inl h1)
  · exact foot0_at.2 (.inr ⟨i, h i b h1⟩)

/-! ### Len, balance -/
theorem len_x (h : SMx w f m L M) : Calls Try.prog 14 #[.pointer (some ⟨f, 0, none⟩)] w fun e w' => e = .returned (.int .i64 ((st L).all.length : Int)) ∧ w' = w := by
  have c18 : w.cell? ⟨f, 18, none⟩ = some (.map (some m)) := h.sg.mp
  have hl := h.mp.len
  generalize (st L).all.length = n at *
  clear h
  go_enter Try.func14, Try.ntmps14
  go_wp2
  go_ret
  exact ⟨rfl, rfl⟩
/-- The same lists, turned. -/
theorem SMx.sunk (h : SMx w f m L M) (g : Sunk w f m L (foot0 f L) L' w') : SMx w' f m L' M ∧ Keep (foot0 f L) w w' := by
  have hm := h.mp
  obtain ⟨es, c, hes⟩ := hm.isMap
  refine ⟨⟨g.sg.reF (fun b hb => hb), ?_, fun i b => (h.at_ i b).trans (g.at_ i b).symm, g.perm.nodup_iff.2 h.nd, fun i hi => h.i64 i (g.perm.mem_iff.1 hi)⟩, g.keep⟩
  rw [g.len]
  exact hm.same (g.keep.block m hm.lt (fun hb => h.sg.foot_off hes m hb rfl))
set_option maxHeartbeats 1000000 in
theorem balance_x (h : SMx w f m L M) (hn : (st L).all.length ≤ 100000) : Calls Try.prog 30 #[.pointer (some ⟨f, 0, none⟩)] w fun e w' => e = .returned (.tuple #[]) ∧
    ∃ L', SMx w' f m L' M ∧ st L' = balS (st L).all.length (st L) ∧ Keep (foot0 f L) w w' ∧ (∀ i b, AtB L' i b ↔ AtB L i b) := by
  have cN := hide (len_x h)
  obtain ⟨n, hN⟩ : ∃ n, n = (st L).all.length := ⟨_, rfl⟩
  rw [← hN] at cN hn ⊢
  have c1 := hide (sink_any h.sg (k := 0) (by decide) ((n + 4) / 5) 0 rfl (by omega) (by omega))
  have e1 : IntKind.i64.wrap ((n : Int) + 4) = (n : Int) + 4 := by rw [IntKind.wrap_i64]; omega
  have e2 : ((n : Int) + 4) / 5 = (((n + 4) / 5 : Nat) : Int) := by omega
  have e3 : 2 * (n : Int) / 5 = ((2 * n / 5 : Nat) : Int) := by omega
  have HN := hide hN
  have HH := hide h
  have Hn := hide hn
  obtain ⟨q1, hq1⟩ : ∃ q1, q1 = (n + 4) / 5 := ⟨_, rfl⟩
  obtain ⟨q2, hq2⟩ : ∃ q2, q2 = 2 * n / 5 := ⟨_, rfl⟩
  rw [← hq1] at c1 e2
  rw [← hq2] at e3
  have b1 : q1 ≤ 1000000 := by omega
  have b2 : q2 ≤ 1000000 := by omega
  have Hq1 := hide hq1
  have Hq2 := hide hq2
  have C2 : Hid (∀ L1 W, Sunk w f m L (foot0 f L) L1 W → Calls Try.prog 35 #[.pointer (some ⟨f, 0, none⟩), .pointer (some ⟨f, 6, none⟩), .int .i64 (q2 : Int)] W fun e w' => e = .returned (.tuple #[]) ∧ ∃ L', Sunk W f m L1 (foot0 f L) L' w' ∧ st L' = snk 1 q2 (st L1)) := fun L1 W g =>
    sink_any g.sg (k := 1) (by decide) q2 6 rfl (by rw [g.len, ← HN.out]; exact Hn.out) b2
  clear h hN hq1 hq2 b1 b2
  go_enter Try.func30, Try.ntmps30
  go_wp2_with fail
  refine cN.out.mono ?_
  rintro e wx ⟨rfl, hx⟩
  obtain rfl : w = wx := hx.symm
  clear hx cN
  go_wp2_with fail
  refine c1.out.mono ?_
  rintro e W1 ⟨rfl, L1, g1, s1⟩
  have c2 := hide (C2.out L1 W1 g1)
  have G1 := hide g1
  have S1 := hide s1
  clear c1 g1 s1 C2
  go_wp2_with fail
  refine c2.out.mono ?_
  rintro e W2 ⟨rfl, L2, g2, s2⟩
  have HE : Hid (∃ L', SMx W2 f m L' M ∧ st L' = balS n (st L) ∧ Keep (foot0 f L) w W2 ∧ (∀ i b, AtB L' i b ↔ AtB L i b)) := by
    have g := G1.out.trans g2
    obtain ⟨a1, a2⟩ := HH.out.sunk g
    refine ⟨L2, a1, ?_, a2, g.at_⟩
    rw [s2, S1.out, Hq1.out, Hq2.out]
    rfl
  clear c2 g2 s2
  go_wp2
  go_end0
  exact ⟨rfl, HE.out⟩
end
end Go.Proofs.Ytgjgdhjnkbbceaa
