/- Joined texts: Sg1, Sg2, Sg3. -/
import Derived.Test.YtdkiegkgnimapabDoorRg4
import Derived.Test.YtdkiegkgnimapabDoorSMp
import Derived.Test.YtdkiegkgnimapabDoorZs
import Derived.Deep.LoopGhost
/- sink, balance: lists are brought down to their shares. -/
set_option linter.unusedVariables false
set_option linter.unusedSimpArgs false
set_option maxRecDepth 8000
namespace Go.Proofs.YtdkiegkgnimapabDoor.Sgg
open Go.RowKit Go.Deep Sgm

def kv (e : En) : Nd := (e.id, e.u)
def st (L : Nat → List En) : St := ⟨(L 0).map kv, (L 1).map kv, (L 2).map kv⟩
/-- A number stands in this block. -/
def AtB (L : Nat → List En) (i : Int) (b : Nat) : Prop := ∃ k, k < 3 ∧ ∃ e ∈ L k, e.id = i ∧ e.b = b
section
variable {w w' : World} {f m k j : Nat} {L L' : Nat → List En} {F : List Nat} {A B : List En} {x : En}
theorem st_row (hk : k < 3) : (st L).row k = (L k).map kv := by
  match k, hk with
  | 0, _ => rfl
  | 1, _ => rfl
  | 2, _ => rfl
theorem st_len (hk : k < 3) : ((st L).row k).length = (L k).length := by rw [st_row hk]; simp
def toK (k : Nat) (x : En) : Nat := if k = 2 then 1 else if x.u then 1 else 2
theorem toK_lt (k : Nat) (x : En) : toK k x < 3 := by
  unfold toK
  split
  · decide
  · split <;> decide
theorem st_mvd (hk : k < 3) (hs : L k = A ++ [x]) : st (mvd L k (toK k x) A [] x) = stp k (st L) := by
  match k, hk with
  | 0, _ =>
    have e : st L = ⟨A.map kv ++ [kv x], (L 1).map kv, (L 2).map kv⟩ := by simp [st, hs]
    rw [e, stp_h]
    cases hx : x.u <;> simp [st, mvd, upL, toK, kv, hx]
  | 1, _ =>
    have e : st L = ⟨(L 0).map kv, A.map kv ++ [kv x], (L 2).map kv⟩ := by simp [st, hs]
    rw [e, stp_w]
    cases hx : x.u <;> simp [st, mvd, upL, toK, kv, hx]
  | 2, _ =>
    have e : st L = ⟨(L 0).map kv, (L 1).map kv, A.map kv ++ [kv x]⟩ := by simp [st, hs]
    rw [e, stp_c]
    simp [st, mvd, upL, toK, kv]
theorem at_mvd {k' : Nat} (hk : k < 3) (hk' : k' < 3) (hs : L k = A ++ x :: B) (i : Int) (b : Nat) : AtB (mvd L k k' A B x) i b ↔ AtB L i b := by
  have sub : ∀ j e, e ∈ upL L k (A ++ B) j → e ∈ L j := fun j e he => by
    by_cases hjk : j = k
    · subst hjk; rw [upL_same] at he; rw [hs]; rcases List.mem_append.1 he with h1 | h1 <;> simp [h1]
    · rw [upL_other _ _ hjk] at he; exact he
  constructor
  · rintro ⟨j, hj, e, he, h1, h2⟩
    unfold mvd at he
    by_cases hjk : j = k'
    · subst hjk
      rw [upL_same] at he
      rcases List.mem_cons.1 he with rfl | he
      · exact ⟨k, hk, x, by rw [hs]; simp, h1, h2⟩
      · exact ⟨j, hj, e, sub j e he, h1, h2⟩
    · rw [upL_other _ _ hjk] at he
      exact ⟨j, hj, e, sub j e he, h1, h2⟩
  · rintro ⟨j, hj, e, he, h1, h2⟩
    have inn : ∀ j e, e ∈ upL L k (A ++ B) j → e ∈ mvd L k k' A B x j := fun j e he => by
      unfold mvd
      by_cases hjk : j = k'
      · subst hjk; rw [upL_same]; exact List.mem_cons_of_mem _ he
      · rw [upL_other _ _ hjk]; exact he
    by_cases hjk : j = k
    · subst hjk
      rw [hs] at he
      rcases List.mem_append.1 he with h3 | h3
      · exact ⟨j, hj, e, inn j e (by rw [upL_same]; simp [h3]), h1, h2⟩
      · rcases List.mem_cons.1 h3 with rfl | h3
        · exact ⟨k', hk', ⟨e.b, e.id, false⟩, by unfold mvd; rw [upL_same]; simp, h1, h2⟩
        · exact ⟨j, hj, e, inn j e (by rw [upL_same]; simp [h3]), h1, h2⟩
    · exact ⟨j, hj, e, inn j e (by rw [upL_other _ _ hjk]; exact he), h1, h2⟩
theorem row_le (hk : k < 3) : (L k).length ≤ (st L).all.length := by
  match k, hk with
  | 0, _ => simp [st, St.all]
  | 1, _ => simp [st, St.all]; omega
  | 2, _ => simp [st, St.all]; omega
theorem ids_len {s t : St} (h : (ids s.all).Perm (ids t.all)) : s.all.length = t.all.length := by
  have := h.length_eq
  simpa [ids] using this
theorem SgIn.lastp (h : SgIn w f m L F) (hk : k < 3) (hs : L k = A ++ [x]) : w.cell? ⟨f, 6 * k + 3, none⟩ = some (.pointer (some ⟨x.b, 0, none⟩)) := by
  have := (h.ring k hk).last.2
  rw [hs, List.map_append, List.map_cons, List.map_nil, prv_snoc] at this
  exact this
/-- What stands while a list is turned. -/
structure Sunk (w0 : World) (f m : Nat) (L0 : Nat → List En) (F : List Nat) (L : Nat → List En) (w : World) : Prop where
  sg : SgIn w f m L F
  keep : Keep F w0 w
  at_ : ∀ i b, AtB L i b ↔ AtB L0 i b
  perm : (ids (st L).all).Perm (ids (st L0).all)
theorem Sunk.refl (h : SgIn w f m L F) : Sunk w f m L F L w := ⟨h, Keep.refl _ _, fun _ _ => Iff.rfl, List.Perm.refl _⟩
theorem Sunk.len {w0 : World} {L0 : Nat → List En} (h : Sunk w0 f m L0 F L w) : (st L).all.length = (st L0).all.length := ids_len h.perm
theorem Sunk.mv {w0 w1 : World} {L0 : Nat → List En} (h : Sunk w0 f m L0 F L w) (hk : k < 3) (hs : L k = A ++ [x]) (h2 : SgIn w1 f m (mvd L k (toK k x) A [] x) F) (k2 : Keep F w w1) : Sunk w0 f m L0 F (mvd L k (toK k x) A [] x) w1 := by
  refine ⟨h2, h.keep.trans k2 (fun q hq => .inl hq), fun i b => (at_mvd hk (toK_lt k x) hs i b).trans (h.at_ i b), ?_⟩
  rw [st_mvd hk hs]
  exact (stp_perm hk (st L)).trans h.perm
theorem Sunk.trans {w0 w1 w2 : World} {L0 L1 L2 : Nat → List En} (h : Sunk w0 f m L0 F L1 w1) (g : Sunk w1 f m L1 F L2 w2) : Sunk w0 f m L0 F L2 w2 :=
  ⟨g.sg, h.keep.trans g.keep (fun q hq => .inl hq), fun i b => (g.at_ i b).trans (h.at_ i b), g.perm.trans h.perm⟩
set_option maxHeartbeats 2000000 in
theorem sink_any (h : SgIn w f m L F) (hk : k < 2) (most o : Nat) (ho : o = 6 * k) (hn : (st L).all.length ≤ 100000) (hm : most ≤ 1000000) :
    Calls Tryd.prog 69 #[.pointer (some ⟨f, 0, none⟩), .pointer (some ⟨f, o, none⟩), .int .i64 (most : Int)] w fun e w' => e = .returned (.tuple #[]) ∧ ∃ L', Sunk w f m L F L' w' ∧ st L' = snk k most (st L) := by
  have H := hide h
  have HO := hide ho
  have HK := hide hk
  have HN := hide hn
  clear h ho hk hn
  go_enter Tryd.func69, Tryd.ntmps69
  go_wp2
  go_loopg [6] (mu ((st L).row k)) (fun kx s6 wr => ∃ (L1 : Nat → List En), Hid (Sunk w f m L F L1 wr ∧ snk k most (st L1) = snk k most (st L) ∧ mu ((st L1).row k) ≤ kx))
  case atStart => exact ⟨L, Sunk.refl H.out, rfl, Nat.le_refl _⟩
  case round =>
    obtain ⟨L1, I⟩ := hrel
    have hk3 : k < 3 := Nat.lt_succ_of_lt HK.out
    have c5 : wr.cell? ⟨f, o + 5, none⟩ = some (.int .i64 ((L1 k).length : Int)) := by rw [HO.out]; exact I.out.1.sg.cnt k hk3
    have hl9 : (L1 k).length ≤ 100000 := Nat.le_trans (row_le hk3) (by rw [I.out.1.len]; exact HN.out)
    have HL9 := hide hl9
    by_cases hgt : most < (L1 k).length
    · have HG := hide hgt
      obtain ⟨A, y, hs⟩ := snoc_of (l := (st L1).row k) (by rw [st_len hk3]; omega)
      obtain ⟨A, x, hs⟩ : ∃ (A : List En) (x : En), L1 k = A ++ [x] := by
        rcases List.eq_nil_or_concat (L1 k) with e | ⟨A, x, e⟩
        · rw [e] at hgt; cases hgt
        · exact ⟨A, x, by rw [e]; simp⟩
      have HS := hide hs
      have c3 : wr.cell? ⟨f, o + 3, none⟩ = some (.pointer (some ⟨x.b, 0, none⟩)) := by rw [HO.out]; exact I.out.1.sg.lastp hk3 hs
      have CL := hide (last_raw f o (some ⟨x.b, 0, none⟩) wr c3)
      have c1 : wr.cell? ⟨x.b, 1, none⟩ = some (.bool x.u) := (I.out.1.sg.node k hk3 x (by rw [hs]; simp)).c1
      have hk2 : k ≠ 2 := by have := HK.out; omega
      have CM : Hid (Calls Tryd.prog 61 #[.pointer (some ⟨x.b, 0, none⟩), .pointer (some ⟨f, if x.u then 6 else 12, none⟩)] wr fun e w' => e = .returned (.tuple #[]) ∧ SgIn w' f m (mvd L1 k (toK k x) A [] x) F ∧ Keep F wr w') :=
        I.out.1.sg.moveTo hk3 (toK_lt k x) hs (fun j hj => Nat.le_trans (row_le hj) (by rw [I.out.1.len]; have := HN.out; omega)) _ (by unfold toK; rw [if_neg hk2]; split <;> rfl)
      have HNX : Hid (∀ w1, SgIn w1 f m (mvd L1 k (toK k x) A [] x) F ∧ Keep F wr w1 → (Sunk w f m L F (mvd L1 k (toK k x) A [] x) w1 ∧ snk k most (st (mvd L1 k (toK k x) A [] x)) = snk k most (st L)) ∧ mu ((st (mvd L1 k (toK k x) A [] x)).row k) + 1 ≤ mu ((st L1).row k)) := fun w1 hw => by
        have hr : most < ((st L1).row k).length := by rw [st_len hk3]; exact hgt
        refine ⟨⟨I.out.1.mv hk3 hs hw.1 hw.2, ?_⟩, ?_⟩
        · rw [st_mvd hk3 hs, ← snk_step hk3 hr]; exact I.out.2.1
        · rw [st_mvd hk3 hs]
          exact mu_stp hk3 (s := st L1) (by omega)
      have hgt2 : (most : Int) < ((L1 k).length : Int) := by omega
      obtain ⟨b, hb⟩ : ∃ b, b = x.b := ⟨_, rfl⟩
      obtain ⟨u, hu⟩ : ∃ u, u = x.u := ⟨_, rfl⟩
      rw [← hb] at CL CM c1
      rw [← hu] at CM c1
      generalize mvd L1 k (toK k x) A [] x = L2 at *
      generalize (L1 k).length = n1 at *
      clear hs hgt hk2 hb hu c3 hl9 HS hk3
      cases u with
      | true =>
        simp only [if_true] at CM
        go_wp2_with fail
        refine CL.out.mono ?_
        rintro e wx ⟨rfl, hx⟩
        obtain rfl : wr = wx := hx.symm
        clear hx CL
        go_wp2_with fail
        refine CM.out.mono ?_
        rintro e w2 ⟨rfl, h2⟩
        have N := hide (HNX.out w2 h2)
        clear h2 CM HNX c1 c5
        go_wp2
        go_roundg (mu ((st L2).row k))
        case measure => have := N.out.2; have := I.out.2.2; omega
        case rel => exact ⟨L2, N.out.1.1, N.out.1.2, Nat.le_refl _⟩
      | false =>
        simp only [Bool.false_eq_true, if_false] at CM
        go_wp2_with fail
        refine CL.out.mono ?_
        rintro e wx ⟨rfl, hx⟩
        obtain rfl : wr = wx := hx.symm
        clear hx CL
        go_wp2_with fail
        refine CM.out.mono ?_
        rintro e w2 ⟨rfl, h2⟩
        have N := hide (HNX.out w2 h2)
        clear h2 CM HNX c1 c5
        go_wp2
        go_roundg (mu ((st L2).row k))
        case measure => have := N.out.2; have := I.out.2.2; omega
        case rel => exact ⟨L2, N.out.1.1, N.out.1.2, Nat.le_refl _⟩
    · have hng : ¬ (most : Int) < ((L1 k).length : Int) := by omega
      have HE : Hid (∃ L', Sunk w f m L F L' wr ∧ st L' = snk k most (st L)) := ⟨L1, I.out.1, by rw [← I.out.2.1, snk_stop (by rw [st_len hk3]; exact hgt)]⟩
      clear hgt I hl9 hk3
      generalize (L1 k).length = n1 at *
      go_wp2
      go_end0
      exact ⟨rfl, HE.out⟩
end
end Go.Proofs.YtdkiegkgnimapabDoor.Sgg

/- The three lists and the map; Len, balance, Add, Touch, Remove. -/
set_option linter.unusedVariables false
set_option linter.unusedSimpArgs false
set_option maxRecDepth 8000
namespace Go.Proofs.YtdkiegkgnimapabDoor.Sgg
open Go.RowKit Go.Deep Sgm

def foot0 (f : Nat) (L : Nat → List En) : List Nat := f :: ((L 0).map En.b ++ (L 1).map En.b ++ (L 2).map En.b)
theorem mem_foot0 {f b : Nat} {L : Nat → List En} : b ∈ foot0 f L ↔ b = f ∨ ∃ k, k < 3 ∧ ∃ e ∈ L k, e.b = b := by
  unfold foot0
  simp only [List.mem_cons, List.mem_append, List.mem_map]
  constructor
  · rintro (h | (h | h) | h)
    · exact .inl h
    · exact .inr ⟨0, by decide, h⟩
    · exact .inr ⟨1, by decide, h⟩
    · exact .inr ⟨2, by decide, h⟩
  · rintro (h | ⟨k, hk, h⟩)
    · exact .inl h
    · match k, hk with
      | 0, _ => exact .inr (.inl (.inl h))
      | 1, _ => exact .inr (.inl (.inr h))
      | 2, _ => exact .inr (.inr h)
theorem foot0_at {f b : Nat} {L : Nat → List En} : b ∈ foot0 f L ↔ b = f ∨ ∃ i, AtB L i b := by
  rw [mem_foot0]
  constructor
  · rintro (h | ⟨k, hk, e, he, h⟩)
    · exact .inl h
    · exact .inr ⟨e.id, k, hk, e, he, rfl, h⟩
  · rintro (h | ⟨i, k, hk, e, he, _, h⟩)
    · exact .inl h
    · exact .inr ⟨k, hk, e, he, h⟩
section
variable {w w' : World} {f m n k j : Nat} {L L' : Nat → List En} {F : List Nat} {A B : List En} {x : En} {M : Int → Option Nat} {i : Int} {b : Nat}
theorem SgIn.reF {F' : List Nat} (h : SgIn w f m L F) (h1 : ∀ b ∈ foot0 f L, b ∈ F') : SgIn w f m L F' :=
  ⟨h.own, h.mp, h.cnt, h.ring, h.node, h.lin, h.nd, h.ap, h1 f (List.mem_cons_self ..), fun k hk e he => h1 _ (mem_foot0.2 (.inr ⟨k, hk, e, he, rfl⟩))⟩
/-- Lists and map agree. -/
structure SMx (w : World) (f m : Nat) (L : Nat → List En) (M : Int → Option Nat) : Prop where
  sg : SgIn w f m L (foot0 f L)
  mp : MapAt w m (st L).all.length M
  at_ : ∀ i b, M i = some b ↔ AtB L i b
  nd : (st L).Nd
  i64 : ∀ i ∈ ids (st L).all, I64 i
theorem mem_st {i : Int} : i ∈ ids (st L).all ↔ ∃ b, AtB L i b := by
  unfold ids St.all st
  simp only [List.mem_map, List.mem_append, kv]
  constructor
  · rintro ⟨a, ((⟨e, he, rfl⟩ | ⟨e, he, rfl⟩) | ⟨e, he, rfl⟩), rfl⟩
    · exact ⟨e.b, 0, by decide, e, he, rfl, rfl⟩
    · exact ⟨e.b, 1, by decide, e, he, rfl, rfl⟩
    · exact ⟨e.b, 2, by decide, e, he, rfl, rfl⟩
  · rintro ⟨b, k, hk, e, he, rfl, _⟩
    match k, hk with
    | 0, _ => exact ⟨_, .inl (.inl ⟨e, he, rfl⟩), rfl⟩
    | 1, _ => exact ⟨_, .inl (.inr ⟨e, he, rfl⟩), rfl⟩
    | 2, _ => exact ⟨_, .inr ⟨e, he, rfl⟩, rfl⟩
theorem SMx.has (h : SMx w f m L M) (i : Int) : (st L).has i = (M i).isSome := by
  unfold St.has
  rw [Bool.eq_iff_iff]
  rw [decide_eq_true_eq, mem_st]
  constructor
  · rintro ⟨b, hb⟩; rw [(h.at_ i b).2 hb]; rfl
  · intro hs
    obtain ⟨b, hb⟩ := Option.isSome_iff_exists.1 hs
    exact ⟨b, (h.at_ i b).1 hb⟩
theorem map_off {es : Array MapEntry} {c n : Nat} {t : TypeId} (hm : w.heap[m]? = some (.map es c)) (hs : Sh w b n t) : b ≠ m := fun e => by
  subst e
  obtain ⟨X, _, hb⟩ := hs
  unfold Blk at hb
  rw [hb] at hm
  cases hm
theorem SgIn.foot_off (h : SgIn w f m L F) {es : Array MapEntry} {c : Nat} {q : Nat} (hm : w.heap[q]? = some (.map es c)) : ∀ b ∈ foot0 f L, b ≠ q := fun b hb => by
  rcases mem_foot0.1 hb with rfl | ⟨k, hk, e, he, rfl⟩
  · exact map_off hm h.own
  · exact map_off hm (h.node k hk e he).sh
theorem SgIn.foot_lt (h : SgIn w f m L F) : ∀ b ∈ foot0 f L, b < w.heap.size := fun b hb => by
  rcases mem_foot0.1 hb with rfl | ⟨k, hk, e, he, rfl⟩
  · exact h.own.lt
  · exact (h.node k hk e he).sh.lt
theorem SgIn.sameF (h : SgIn w f m L F) (e : ∀ b ∈ foot0 f L, w'.heap[b]? = w.heap[b]?) : SgIn w' f m L F :=
  h.same (e f (List.mem_cons_self ..)) (fun k hk x hx => e _ (mem_foot0.2 (.inr ⟨k, hk, x, hx, rfl⟩)))
theorem foot_sub (h : ∀ i b, AtB L' i b → AtB L i b) : ∀ b ∈ foot0 f L', b ∈ foot0 f L := fun b hb => by
  rcases foot0_at.1 hb with h1 | ⟨i, h1⟩
  · exact foot0_at.2 (.inl h1)
  · exact foot0_at.2 (.inr ⟨i, h i b h1⟩)

/-! ### Len, balance -/
theorem len_x (h : SMx w f m L M) : Calls Tryd.prog 59 #[.pointer (some ⟨f, 0, none⟩)] w fun e w' => e = .returned (.int .i64 ((st L).all.length : Int)) ∧ w' = w := by
  have c18 : w.cell? ⟨f, 18, none⟩ = some (.map (some m)) := h.sg.mp
  have hl := h.mp.len
  generalize (st L).all.length = n at *
  clear h
  go_enter Tryd.func59, Tryd.ntmps59
  go_wp2
  go_ret
  exact ⟨rfl, rfl⟩
/-- The same lists, turned. -/
theorem SMx.sunk (h : SMx w f m L M) (g : Sunk w f m L (foot0 f L) L' w') : SMx w' f m L' M ∧ Keep (foot0 f L) w w' := by
  have hm := h.mp
  obtain ⟨es, c, hes⟩ := hm.isMap
  refine ⟨⟨g.sg.reF (fun b hb => hb), ?_, fun i b => (h.at_ i b).trans (g.at_ i b).symm, g.perm.nodup_iff.2 h.nd, fun i hi => h.i64 i (g.perm.mem_iff.1 hi)⟩, g.keep⟩
  rw [g.len]
  exact hm.same (g.keep.block m hm.lt (fun hb => h.sg.foot_off hes m hb rfl))
set_option maxHeartbeats 1000000 in
theorem balance_x (h : SMx w f m L M) (hn : (st L).all.length ≤ 100000) : Calls Tryd.prog 49 #[.pointer (some ⟨f, 0, none⟩)] w fun e w' => e = .returned (.tuple #[]) ∧
    ∃ L', SMx w' f m L' M ∧ st L' = balS (st L).all.length (st L) ∧ Keep (foot0 f L) w w' ∧ (∀ i b, AtB L' i b ↔ AtB L i b) := by
  have cN := hide (len_x h)
  obtain ⟨n, hN⟩ : ∃ n, n = (st L).all.length := ⟨_, rfl⟩
  rw [← hN] at cN hn ⊢
  have c1 := hide (sink_any h.sg (k := 0) (by decide) ((n + 4) / 5) 0 rfl (by omega) (by omega))
  have e1 : IntKind.i64.wrap ((n : Int) + 4) = (n : Int) + 4 := by rw [IntKind.wrap_i64]; omega
  have e2 : ((n : Int) + 4) / 5 = (((n + 4) / 5 : Nat) : Int) := by omega
  have e3 : 2 * (n : Int) / 5 = ((2 * n / 5 : Nat) : Int) := by omega
  have HN := hide hN
  have HH := hide h
  have Hn := hide hn
  obtain ⟨q1, hq1⟩ : ∃ q1, q1 = (n + 4) / 5 := ⟨_, rfl⟩
  obtain ⟨q2, hq2⟩ : ∃ q2, q2 = 2 * n / 5 := ⟨_, rfl⟩
  rw [← hq1] at c1 e2
  rw [← hq2] at e3
  have b1 : q1 ≤ 1000000 := by omega
  have b2 : q2 ≤ 1000000 := by omega
  have Hq1 := hide hq1
  have Hq2 := hide hq2
  have C2 : Hid (∀ L1 W, Sunk w f m L (foot0 f L) L1 W → Calls Tryd.prog 69 #[.pointer (some ⟨f, 0, none⟩), .pointer (some ⟨f, 6, none⟩), .int .i64 (q2 : Int)] W fun e w' => e = .returned (.tuple #[]) ∧ ∃ L', Sunk W f m L1 (foot0 f L) L' w' ∧ st L' = snk 1 q2 (st L1)) := fun L1 W g =>
    sink_any g.sg (k := 1) (by decide) q2 6 rfl (by rw [g.len, ← HN.out]; exact Hn.out) b2
  clear h hN hq1 hq2 b1 b2
  go_enter Tryd.func49, Tryd.ntmps49
  go_wp2_with fail
  refine cN.out.mono ?_
  rintro e wx ⟨rfl, hx⟩
  obtain rfl : w = wx := hx.symm
  clear hx cN
  go_wp2_with fail
  refine c1.out.mono ?_
  rintro e W1 ⟨rfl, L1, g1, s1⟩
  have c2 := hide (C2.out L1 W1 g1)
  have G1 := hide g1
  have S1 := hide s1
  clear c1 g1 s1 C2
  go_wp2_with fail
  refine c2.out.mono ?_
  rintro e W2 ⟨rfl, L2, g2, s2⟩
  have HE : Hid (∃ L', SMx W2 f m L' M ∧ st L' = balS n (st L) ∧ Keep (foot0 f L) w W2 ∧ (∀ i b, AtB L' i b ↔ AtB L i b)) := by
    have g := G1.out.trans g2
    obtain ⟨a1, a2⟩ := HH.out.sunk g
    refine ⟨L2, a1, ?_, a2, g.at_⟩
    rw [s2, S1.out, Hq1.out, Hq2.out]
    rfl
  clear c2 g2 s2
  go_wp2
  go_end0
  exact ⟨rfl, HE.out⟩
end
end Go.Proofs.YtdkiegkgnimapabDoor.Sgg

/- New, Add, Touch, Remove. -/
set_option linter.unusedVariables false
set_option linter.unusedSimpArgs false
set_option maxRecDepth 8000
namespace Go.Proofs.YtdkiegkgnimapabDoor.Sgg
open Go.RowKit Go.Deep Sgm

def foot (f m : Nat) (L : Nat → List En) : List Nat := m :: foot0 f L
/-- A Seg in memory: its three lists, the blocks that are its own. -/
def SM (w : World) (f : Nat) (s : St) (F : List Nat) : Prop := ∃ m L M, SMx w f m L M ∧ st L = s ∧ F = foot f m L
section
variable {w w' : World} {f m n k j : Nat} {L L' : Nat → List En} {F : List Nat} {A B : List En} {x : En} {M : Int → Option Nat} {i : Int} {b : Nat} {s : St}
theorem SMx.same (h : SMx w f m L M) (e : ∀ b ∈ foot f m L, w'.heap[b]? = w.heap[b]?) : SMx w' f m L M :=
  ⟨h.sg.sameF (fun b hb => e b (List.mem_cons_of_mem _ hb)), h.mp.same (e m (List.mem_cons_self ..)), h.at_, h.nd, h.i64⟩
theorem SM.same (h : SM w f s F) (e : ∀ b ∈ F, w'.heap[b]? = w.heap[b]?) : SM w' f s F := by
  obtain ⟨m, L, M, h1, h2, rfl⟩ := h
  exact ⟨m, L, M, h1.same e, h2, rfl⟩
theorem SM.lt (h : SM w f s F) : ∀ b ∈ F, b < w.heap.size := by
  obtain ⟨m, L, M, h1, h2, rfl⟩ := h
  intro b hb
  rcases List.mem_cons.1 hb with rfl | hb
  · exact h1.mp.lt
  · exact h1.sg.foot_lt b hb
theorem SM.below (h : SM w f s F) (k : Below w.heap.size w w') : SM w' f s F := h.same (fun b hb => k.block b (h.lt b hb))
/-- The blocks of a Seg are of its own types. -/
theorem SM.ty (h : SM w f s F) : ∀ b ∈ F, ∀ c t, w.heap[b]? = some (.cells c t (0, 0)) → t = 91 ∨ t = 95 := by
  obtain ⟨m, L, M, h1, h2, rfl⟩ := h
  intro b hb c t hc
  rcases List.mem_cons.1 hb with rfl | hb
  · obtain ⟨es, q, he⟩ := h1.mp.isMap
    rw [he] at hc; cases hc
  · rcases mem_foot0.1 hb with rfl | ⟨k, hk, e, he, rfl⟩
    · obtain ⟨X, _, hX⟩ := h1.sg.own
      unfold Blk at hX
      rw [hX] at hc
      simp at hc
      exact .inr hc.2.symm
    · obtain ⟨X, _, hX⟩ := (h1.sg.node k hk e he).sh
      unfold Blk at hX
      rw [hX] at hc
      simp at hc
      exact .inl hc.2.symm
theorem SM.nd (h : SM w f s F) : s.Nd := by
  obtain ⟨m, L, M, h1, rfl, rfl⟩ := h
  exact h1.nd
theorem SM.i64 (h : SM w f s F) : ∀ i ∈ ids s.all, I64 i := by
  obtain ⟨m, L, M, h1, rfl, rfl⟩ := h
  exact h1.i64
theorem len_m (h : SM w f s F) : Calls Tryd.prog 59 #[.pointer (some ⟨f, 0, none⟩)] w fun e w' => e = .returned (.int .i64 (s.all.length : Int)) ∧ w' = w := by
  obtain ⟨m, L, M, h1, rfl, rfl⟩ := h
  exact len_x h1

/-! ### Touch -/
def tchE (i : Int) (e : En) : En := if e.id = i then ⟨e.b, e.id, true⟩ else e
theorem tchE_b (i : Int) (e : En) : (tchE i e).b = e.b := by unfold tchE; split <;> rfl
theorem tchE_id (i : Int) (e : En) : (tchE i e).id = e.id := by unfold tchE; split <;> rfl
theorem st_tch : st (fun k => (L k).map (tchE i)) = tchS i (st L) := by
  have key : ∀ l : List En, (l.map (tchE i)).map kv = setU i (l.map kv) := fun l => by
    unfold setU
    rw [List.map_map, List.map_map]
    apply List.map_congr_left
    intro e _
    simp only [Function.comp, kv, tchE]
    by_cases h : e.id = i <;> simp [h]
  simp [st, tchS, key]
theorem at_tch {i' : Int} : AtB (fun k => (L k).map (tchE i)) i' b ↔ AtB L i' b := by
  constructor
  · rintro ⟨k, hk, e, he, h1, h2⟩
    obtain ⟨e', he', rfl⟩ := List.mem_map.1 he
    exact ⟨k, hk, e', he', by rw [← h1, tchE_id], by rw [← h2, tchE_b]⟩
  · rintro ⟨k, hk, e, he, h1, h2⟩
    exact ⟨k, hk, tchE i e, List.mem_map.2 ⟨e, he, rfl⟩, by rw [tchE_id]; exact h1, by rw [tchE_b]; exact h2⟩
theorem nd_inj : ∀ {l : List En}, (l.map En.b).Nodup → ∀ {a c : En}, a ∈ l → c ∈ l → a.b = c.b → a = c
  | [], _, a, c, ha, _, _ => by cases ha
  | y :: l, h, a, c, ha, hc, e => by
    rw [List.map_cons, List.nodup_cons] at h
    rcases List.mem_cons.1 ha with h1 | h1 <;> rcases List.mem_cons.1 hc with h2 | h2
    · rw [h1, h2]
    · exact absurd (List.mem_map.2 ⟨c, h2, by rw [← e, h1]⟩) h.1
    · exact absurd (List.mem_map.2 ⟨a, h1, by rw [e, h2]⟩) h.1
    · exact nd_inj h.2 h1 h2 e
theorem SMx.one (h : SMx w f m L M) (hM : M i = some b) {j : Nat} (hj : j < 3) {e : En} (he : e ∈ L j) : e.id = i ↔ e.b = b := by
  constructor
  · intro h1
    have := (h.at_ i e.b).2 ⟨j, hj, e, he, h1, rfl⟩
    rw [hM] at this
    exact (Option.some.inj this).symm
  · intro h1
    obtain ⟨k, hk, e', he', h2, h3⟩ := (h.at_ i b).1 hM
    by_cases hjk : j = k
    · subst hjk
      have hn := h.sg.nd j hj
      have : e = e' := nd_inj hn he he' (h1.trans h3.symm)
      rw [this]; exact h2
    · exact absurd (h1.trans h3.symm) (h.sg.ap j k hj hk hjk e he e' he')
theorem SMx.touch (h : SMx w f m L M) (hM : M i = some b) : SMx (w.setCell ⟨b, 1, none⟩ (.bool true)) f m (fun k => (L k).map (tchE i)) M ∧ (∃ u, w.cell? ⟨b, 1, none⟩ = some (.bool u)) ∧ w.frozen? ⟨b, 1, none⟩ = false ∧ b ∈ foot0 f L := by
  obtain ⟨k0, hk0, e0, he0, h01, h02⟩ := (h.at_ i b).1 hM
  have n0 := h.sg.node k0 hk0 e0 he0
  rw [← h02] at hM ⊢
  have T : Tn [((e0.b, 0), 1)] w (w.setCell ⟨e0.b, 1, none⟩ (.bool true)) := (Tn.refl w).set (pl e0) 1 _ (six_pl e0) (by decide)
  have hp : ∀ k, ((L k).map (tchE i)).map pl = (L k).map pl := fun k => by
    rw [List.map_map]
    apply List.map_congr_left
    intro e _
    simp only [Function.comp, pl, tchE_b]
  have hb : ∀ k, ((L k).map (tchE i)).map En.b = (L k).map En.b := fun k => by
    rw [List.map_map]
    apply List.map_congr_left
    intro e _
    simp only [Function.comp, tchE_b]
  have nf : ∀ {q : Pl} {s : Nat}, s ≠ 1 → (q, s) ∉ [((e0.b, 0), 1)] := fun {q s} hs hm => by
    simp only [List.mem_singleton, Prod.mk.injEq] at hm
    exact hs hm.2
  have sz : (st (fun k => (L k).map (tchE i))).all.length = (st L).all.length := by
    have := tch_ids i (st L)
    rw [st_tch]
    have := congrArg List.length this
    simpa [ids] using this
  obtain ⟨es, c, hes⟩ := h.mp.isMap
  have f0 : e0.b ∈ foot0 f L := mem_foot0.2 (.inr ⟨k0, hk0, e0, he0, rfl⟩)
  refine ⟨⟨⟨T.sh _ _ _ h.sg.own, (T.fld (f, 18) 0 (six_18 f) (by decide) (nf (by decide))).trans h.sg.mp, fun k hk => ?_, fun k hk => ?_, fun k hk e he => ?_, fun k hk e he => ?_, fun k hk => ?_, fun j k hj hk hjk e he e' he' => ?_, List.mem_cons_self .., fun k hk e he => mem_foot0.2 (.inr ⟨k, hk, e, he, rfl⟩)⟩, ?_, fun i b => (h.at_ i b).trans at_tch.symm, ?_, fun i' hi' => ?_⟩, ⟨_, n0.c1⟩, n0.sh.frozen 1, f0⟩
  · rw [List.length_map]
    exact (T.fld _ 5 (six_P3 f k) (by decide) (nf (by decide))).trans (h.sg.cnt k hk)
  · rw [hp]
    exact (h.sg.ring k hk).same (fun q hq => T.fld q 4 (plc_six hq) (by decide) (nf (by decide))) (fun q hq => T.fld q 3 (by
      rcases List.mem_append.1 hq with e | e
      · obtain ⟨y, _, rfl⟩ := List.mem_map.1 e; exact six_pl y
      · rw [List.mem_singleton.1 e]; exact six_P3 f k) (by decide) (nf (by decide)))
  · obtain ⟨e', he', rfl⟩ := List.mem_map.1 he
    have n1 := h.sg.node k hk e' he'
    have ho := h.one hM hk he'
    refine ⟨by rw [tchE_b]; exact T.sh _ _ _ n1.sh, ?_, ?_⟩
    · rw [tchE_id, show pl (tchE i e') = pl e' by unfold pl; rw [tchE_b]]
      exact (T.fld _ 0 (six_pl e') (by decide) (nf (by decide))).trans n1.c0
    · rw [show pl (tchE i e') = pl e' by unfold pl; rw [tchE_b]]
      by_cases hid : e'.id = i
      · have hbb := ho.1 hid
        unfold tchE
        rw [if_pos hid]
        unfold pl
        rw [hbb]
        exact fc_same (p := pl e0) (r := 1) n0.sh (by simp [pl])
      · unfold tchE
        rw [if_neg hid]
        refine (T.fld _ 1 (six_pl e') (by decide) (fun hm => ?_)).trans n1.c1
        simp only [List.mem_singleton, Prod.mk.injEq, and_true, pl] at hm
        exact hid (ho.2 hm)
  · obtain ⟨e', he', rfl⟩ := List.mem_map.1 he
    rw [show pl (tchE i e') = pl e' by unfold pl; rw [tchE_b]]
    exact (T.fld _ 2 (six_pl e') (by decide) (nf (by decide))).trans (h.sg.lin k hk e' he')
  · rw [hb]; exact h.sg.nd k hk
  · obtain ⟨y, hy, rfl⟩ := List.mem_map.1 he
    obtain ⟨y', hy', rfl⟩ := List.mem_map.1 he'
    rw [tchE_b, tchE_b]
    exact h.sg.ap j k hj hk hjk y hy y' hy'
  · rw [sz]
    exact h.mp.same (blk_setCell_other _ _ _ _ (fun e => h.sg.foot_off hes e0.b f0 e.symm))
  · rw [st_tch]; exact tch_nd h.nd
  · rw [st_tch, tch_ids] at hi'; exact h.i64 i' hi'
theorem tch_same {s : St} (h : s.has i = false) : tchS i s = s := by
  have key : ∀ l : List Nd, (∀ x ∈ l, x ∈ s.all) → setU i l = l := fun l hl => by
    unfold setU
    conv => rhs; rw [← List.map_id l]
    apply List.map_congr_left
    intro x hx
    have : x.1 ≠ i := fun e => by
      have : s.has i = true := by
        unfold St.has
        rw [decide_eq_true_eq, ← e]
        exact List.mem_map.2 ⟨x, hl x hx, rfl⟩
      rw [h] at this; cases this
    rw [if_neg this]; rfl
  obtain ⟨sh, sw, sc⟩ := s
  simp only [tchS, St.mk.injEq]
  exact ⟨key sh (fun x hx => by simp [St.all, hx]), key sw (fun x hx => by simp [St.all, hx]), key sc (fun x hx => by simp [St.all, hx])⟩
theorem foot_of_at (f m : Nat) (h : ∀ i b, AtB L' i b ↔ AtB L i b) : ∀ b, b ∈ foot f m L' ↔ b ∈ foot f m L := fun b => by
  unfold foot
  rw [List.mem_cons, List.mem_cons, foot0_at, foot0_at]
  simp only [h]
set_option maxHeartbeats 1000000 in
theorem touch_m (h : SM w f s F) (hi : I64 i) : Calls Tryd.prog 29 #[.pointer (some ⟨f, 0, none⟩), .int .i64 i] w fun e w' => e = .returned (.bool (s.has i)) ∧ ∃ F', SM w' f (tchS i s) F' ∧ Moves F F' w w' := by
  obtain ⟨m, L, M, h1, rfl, rfl⟩ := h
  have c18 : w.cell? ⟨f, 18, none⟩ = some (.map (some m)) := h1.sg.mp
  have hl := h1.mp.look hi
  have hh := h1.has i
  cases hM : M i with
  | none =>
    rw [hM] at hl hh
    have HE : Hid (∃ F', SM w f (tchS i (st L)) F' ∧ Moves (foot f m L) F' w w) := ⟨_, ⟨m, L, M, h1, by rw [tch_same hh], rfl⟩, Moves.refl _ _⟩
    rw [hh]
    simp only [ptrV] at hl
    clear h1 hh hM
    go_enter Tryd.func29, Tryd.ntmps29
    go_wp2
    go_ret
    exact ⟨rfl, HE.out⟩
  | some b =>
    rw [hM] at hl hh
    obtain ⟨t1, ⟨u, t2⟩, t3, t4⟩ := h1.touch hM
    have HE : Hid (∃ F', SM (w.setCell ⟨b, 1, none⟩ (.bool true)) f (tchS i (st L)) F' ∧ Moves (foot f m L) F' w (w.setCell ⟨b, 1, none⟩ (.bool true))) := by
      refine ⟨_, ⟨m, _, M, t1, st_tch, rfl⟩, (Keep.refl _ w).setCell (.inl (List.mem_cons_of_mem _ t4)) _, fun q hq => .inl ?_⟩
      exact (foot_of_at f m (fun _ _ => at_tch) q).1 hq
    rw [hh]
    simp only [ptrV] at hl
    clear h1 hh hM t1 t4
    go_enter Tryd.func29, Tryd.ntmps29
    go_wp2
    go_ret
    exact ⟨rfl, HE.out⟩
end
end Go.Proofs.YtdkiegkgnimapabDoor.Sgg

