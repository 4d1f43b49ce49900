/- New, Evict. -/
import Derived.Test.YtdkiegkgnimapabDoorSg4
import Derived.Test.YtdkiegkgnimapabDoorChecked
import Derived.Carry
import Derived.Shelf.Abstract
import Derived.Deep.RegionHeld
set_option linter.unusedVariables false
set_option linter.unusedSimpArgs false
set_option maxRecDepth 8000
namespace Go.Proofs.YtdkiegkgnimapabDoor.Sgg
open Go.RowKit Go.Deep Sgm Go.Shelf
theorem enter26 (args : Array Value) (w : World) : (callFunc 60 args).run Tryd.prog w = .ok (.enter 60 args) w := enters_of Tryd.func60 (by kernel_rfl) rfl args w
theorem enter27 (args : Array Value) (w : World) : (callFunc 61 args).run Tryd.prog w = .ok (.enter 61 args) w := enters_of Tryd.func61 (by kernel_rfl) rfl args w
/-- A world, and what is known behind it. -/
def CX (A : World) (Q : World → Prop) (n : Nat) (W : World) : Prop := match n with
  | 0 => W = A
  | _ => Q W
section
variable {w w' : World} {f m n k j : Nat} {L L' : Nat → List En} {F : List Nat} {A B : List En} {x : En} {M : Int → Option Nat} {i : Int} {b : Nat} {s : St}
/-! ### New -/
theorem clear_k (hs : Sh w f 19 95) (hk : k < 3) (o : Nat) (ho : o = 6 * k) : Calls Tryd.prog 35 #[.pointer (some ⟨f, o, none⟩)] w fun e w' => e = .returned (.tuple #[]) ∧
    Sh w' f 19 95 ∧ Link w' (P3 f k) (P3 f k) ∧ fc w' (P3 f k) 5 = some (.int .i64 0) ∧ Tn [(P3 f k, 5), (P3 f k, 4), (P3 f k, 3)] w w' ∧ (Keep [f] w w' ∧ w'.heap.size = w.heap.size) := by
  subst ho
  refine (clear_raw f (6 * k) w (hs.wr (by omega)) (hs.wr (by omega)) (hs.wr (by omega))).mono ?_
  rintro e w' ⟨rfl, rfl⟩
  have h0 : Sh w.drew f 19 95 := hs
  have T := (((Tn.refl w).drew.set (P3 f k) 3 (ptr (P3 f k)) (six_P3 f k) (by decide)).set (P3 f k) 4 (ptr (P3 f k)) (six_P3 f k) (by decide)).set (P3 f k) 5 (.int .i64 0) (six_P3 f k) (by decide)
  have s3 : Sh (w.drew.setCell ⟨(P3 f k).1, (P3 f k).2 + 3, none⟩ (ptr (P3 f k))) (P3 f k).1 19 95 := h0.set _ _ _
  have s4 : Sh ((w.drew.setCell ⟨(P3 f k).1, (P3 f k).2 + 3, none⟩ (ptr (P3 f k))).setCell ⟨(P3 f k).1, (P3 f k).2 + 4, none⟩ (ptr (P3 f k))) (P3 f k).1 19 95 := s3.set _ _ _
  have l : ∀ r, r < 6 → (P3 f k).2 + r < 19 := fun r hr => by simp only [P3]; omega
  refine ⟨rfl, T.sh _ _ _ hs, ⟨?_, ?_⟩, ?_, T, ⟨(((Keep.refl [f] w).drew.setCell (.inl (by simp)) _).setCell (.inl (by simp)) _).setCell (.inl (by simp)) _, by rw [nblk_setCell, nblk_setCell, nblk_setCell]; rfl⟩⟩
  · exact (fc_other (six_P3 f k) (six_P3 f k) (by decide) (by decide) (.inr (by decide))).trans (fc_same (p := P3 f k) (r := 4) s3 (l 4 (by decide)))
  · exact (fc_other (six_P3 f k) (six_P3 f k) (by decide) (by decide) (.inr (by decide))).trans ((fc_other (six_P3 f k) (six_P3 f k) (by decide) (by decide) (.inr (by decide))).trans (fc_same (p := P3 f k) (r := 3) h0 (l 3 (by decide))))
  · exact fc_same (p := P3 f k) (r := 5) s4 (l 5 (by decide))
def zero6 : List Value := [.int .i64 0, .bool false, .pointer none, .pointer none, .pointer none, .int .i64 0]
set_option maxHeartbeats 2000000 in
theorem new_m (w : World) : Calls Tryd.prog 18 #[] w fun e w' => ∃ F, e = .returned (.pointer (some ⟨w.heap.size + 1, 0, none⟩)) ∧ SM w' (w.heap.size + 1) St0 F ∧ Below w.heap.size w w' ∧ (∀ b ∈ F, w.heap.size ≤ b) ∧ w'.heap.size = w.heap.size + 2 := by
  obtain ⟨g, hg⟩ : ∃ g, g = w.heap.size + 1 := ⟨_, rfl⟩
  obtain ⟨W0, hW0⟩ : ∃ W0, W0 = (w.alloc (.map #[] 0)).alloc (.cells #[.int .i64 0, .bool false, .pointer none, .pointer none, .pointer none, .int .i64 0, .int .i64 0, .bool false, .pointer none, .pointer none, .pointer none, .int .i64 0, .int .i64 0, .bool false, .pointer none, .pointer none, .pointer none, .int .i64 0, .map (some w.heap.size)] 95) := ⟨_, rfl⟩
  have hB : Blk W0 g (zero6 ++ zero6 ++ zero6 ++ [.map (some w.heap.size)]) 95 := by
    have := Blk.new (w.alloc (.map #[] 0)) (zero6 ++ zero6 ++ zero6 ++ [.map (some w.heap.size)]) 95
    rw [World.size_alloc, ← hg] at this
    rw [hW0]
    exact this
  have hmp : MapAt W0 w.heap.size 0 (fun _ => none) := by
    refine ⟨.map [], ?_, HasIs.empty, rfl⟩
    rw [hW0]
    exact (World.ownsMap_made w Tryd.prog 3 ptrElem).alloc _
  have b0 : Below w.heap.size w W0 := by rw [hW0]; exact ((Below.refl _ w).alloc (Nat.le_refl _) _).alloc (by simp) _
  have hs0 : Sh W0 g 19 95 := hB.sh
  have m0 : fc W0 (g, 18) 0 = some (.map (some w.heap.size)) := hB.cell rfl
  have c1 := hide (clear_k hs0 (k := 0) (by decide) 0 rfl)
  have HE : Hid (∀ W1, Sh W1 g 19 95 → Link W1 (P3 g 0) (P3 g 0) → fc W1 (P3 g 0) 5 = some (.int .i64 0) → Tn [(P3 g 0, 5), (P3 g 0, 4), (P3 g 0, 3)] W0 W1 → (Keep [g] W0 W1 ∧ W1.heap.size = W0.heap.size) →
      ∀ W2, Sh W2 g 19 95 → Link W2 (P3 g 1) (P3 g 1) → fc W2 (P3 g 1) 5 = some (.int .i64 0) → Tn [(P3 g 1, 5), (P3 g 1, 4), (P3 g 1, 3)] W1 W2 → (Keep [g] W1 W2 ∧ W2.heap.size = W1.heap.size) →
      ∀ W3, Sh W3 g 19 95 → Link W3 (P3 g 2) (P3 g 2) → fc W3 (P3 g 2) 5 = some (.int .i64 0) → Tn [(P3 g 2, 5), (P3 g 2, 4), (P3 g 2, 3)] W2 W3 → (Keep [g] W2 W3 ∧ W3.heap.size = W2.heap.size) →
      ∃ F, SM W3 g St0 F ∧ Below w.heap.size w W3 ∧ (∀ b ∈ F, w.heap.size ≤ b) ∧ W3.heap.size = w.heap.size + 2) := fun W1 s1 l1 n1 T1 ⟨K1, z1⟩ W2 s2 l2 n2 T2 ⟨K2, z2⟩ W3 s3 l3 n3 T3 ⟨K3, z3⟩ => by
    have hz0 : W0.heap.size = w.heap.size + 2 := by rw [hW0]; simp
    have K := (K1.trans K2 (fun q hq => .inl hq)).trans K3 (fun q hq => .inl hq)
    have gm : w.heap.size ≠ g := by omega
    have nf : ∀ {a c : Nat} {s : Nat}, a ≠ c → (P3 g a, s) ∉ [(P3 g c, 5), (P3 g c, 4), (P3 g c, 3)] := fun {a c s} hac hm => by
      simp only [List.mem_cons, Prod.mk.injEq, List.not_mem_nil, or_false] at hm
      rcases hm with ⟨e, _⟩ | ⟨e, _⟩ | ⟨e, _⟩ <;> exact hac (P3_inj e)
    have n8 : ∀ c, ((g, 18), 0) ∉ [(P3 g c, 5), (P3 g c, 4), (P3 g c, 3)] := fun c hm => by
      simp only [List.mem_cons, Prod.mk.injEq, List.not_mem_nil, or_false] at hm
      rcases hm with ⟨_, e⟩ | ⟨_, e⟩ | ⟨_, e⟩ <;> cases e
    have go : ∀ {a c : Nat} {U V : World}, a ≠ c → Tn [(P3 g c, 5), (P3 g c, 4), (P3 g c, 3)] U V → ∀ s, s < 6 → fc V (P3 g a) s = fc U (P3 g a) s := fun {a c U V} hac T s hs => T.fld _ s (six_P3 g a) hs (nf hac)
    have gl : ∀ {a c : Nat} {U V : World}, a ≠ c → Tn [(P3 g c, 5), (P3 g c, 4), (P3 g c, 3)] U V → Link U (P3 g a) (P3 g a) → Link V (P3 g a) (P3 g a) := fun {a c U V} hac T h => ⟨(go hac T 4 (by decide)).trans h.1, (go hac T 3 (by decide)).trans h.2⟩
    have a0 := gl (a := 0) (by decide) T3 (gl (a := 0) (by decide) T2 l1)
    have a1 := gl (a := 1) (by decide) T3 l2
    have e0 := (go (a := 0) (by decide) T3 5 (by decide)).trans ((go (a := 0) (by decide) T2 5 (by decide)).trans n1)
    have e1 := (go (a := 1) (by decide) T3 5 (by decide)).trans n2
    refine ⟨foot g w.heap.size (fun _ => []), ⟨w.heap.size, fun _ => [], fun _ => none, ⟨⟨s3, ?_, fun k hk => ?_, fun k hk => ?_, fun k hk e he => (by cases he), fun k hk e he => (by cases he), fun k hk => (by simp), fun j k _ _ _ e he => (by cases he), List.mem_cons_self .., fun k hk e he => (by cases he)⟩, ?_, fun i b => ⟨fun e => (by cases e), fun ⟨k, hk, e, he, _⟩ => (by cases he)⟩, (by simp [st, St.Nd, St.all, ids]), fun i hi => (by simp [st, St.all, ids] at hi)⟩, rfl, rfl⟩, b0.trans (K.below (fun q hq => (by rw [List.mem_singleton.1 hq]; omega)) b0.size), fun b hb => ?_, by omega⟩
    · exact (T3.fld _ 0 (six_18 g) (by decide) (n8 2)).trans ((T2.fld _ 0 (six_18 g) (by decide) (n8 1)).trans ((T1.fld _ 0 (six_18 g) (by decide) (n8 0)).trans m0))
    · match k, hk with
      | 0, _ => exact e0
      | 1, _ => exact e1
      | 2, _ => exact n3
    · match k, hk with
      | 0, _ => exact a0
      | 1, _ => exact a1
      | 2, _ => exact l3
    · exact hmp.same (K.block _ hmp.lt (fun q => gm (List.mem_singleton.1 q)))
    · simp [foot, foot0] at hb
      omega
  rw [← hg]
  have C2 : Hid (∀ W, Sh W g 19 95 → Calls Tryd.prog 35 #[.pointer (some ⟨g, 6, none⟩)] W fun e w' => e = .returned (.tuple #[]) ∧ Sh w' g 19 95 ∧ Link w' (P3 g 1) (P3 g 1) ∧ fc w' (P3 g 1) 5 = some (.int .i64 0) ∧ Tn [(P3 g 1, 5), (P3 g 1, 4), (P3 g 1, 3)] W w' ∧ (Keep [g] W w' ∧ w'.heap.size = W.heap.size)) := fun W h => clear_k h (k := 1) (by decide) 6 rfl
  have C3 : Hid (∀ W, Sh W g 19 95 → Calls Tryd.prog 35 #[.pointer (some ⟨g, 12, none⟩)] W fun e w' => e = .returned (.tuple #[]) ∧ Sh w' g 19 95 ∧ Link w' (P3 g 2) (P3 g 2) ∧ fc w' (P3 g 2) 5 = some (.int .i64 0) ∧ Tn [(P3 g 2, 5), (P3 g 2, 4), (P3 g 2, 3)] W w' ∧ (Keep [g] W w' ∧ w'.heap.size = W.heap.size)) := fun W h => clear_k h (k := 2) (by decide) 12 rfl
  clear hB hmp b0 hs0 m0
  rw [hW0] at c1
  rw [hg] at c1 C2 C3
  rw [hW0, hg] at HE
  clear hW0
  rw [hg]
  clear hg
  have hmk : (Instr.makeMap 87 none).run Tryd.prog w = .ok (.map (some w.heap.size)) (w.alloc (.map #[] 0)) := run_makeMap 87 w
  go_enter Tryd.func18, Tryd.ntmps18
  go_wp2_with fail
  refine c1.out.mono ?_
  rintro e W1 ⟨rfl, s1, l1, n1, T1, K1⟩
  have HE1 := hide (HE.out W1 s1 l1 n1 T1 K1)
  have c2 := hide (C2.out W1 s1)
  clear HE s1 l1 n1 T1 K1 c1 C2
  go_wp2_with fail
  refine c2.out.mono ?_
  rintro e W2 ⟨rfl, s1, l1, n1, T1, K1⟩
  have HE := hide (HE1.out W2 s1 l1 n1 T1 K1)
  have c3 := hide (C3.out W2 s1)
  clear HE1 s1 l1 n1 T1 K1 c2 C3
  go_wp2_with fail
  refine c3.out.mono ?_
  rintro e W3 ⟨rfl, s1, l1, n1, T1, K1⟩
  obtain ⟨F, h1, h2, h3, h4⟩ := HE.out W3 s1 l1 n1 T1 K1
  have H1 := hide h1
  have H2 := hide h2
  have H3 := hide (And.intro h3 h4)
  clear HE s1 l1 n1 T1 K1 c3 h1 h2 h3 h4
  go_wp2
  go_ret
  exact ⟨F, rfl, H1.out, H2.out, H3.out⟩

/-! ### Evict -/
theorem nxt_at (hk : k < 3) (hs : L k = A ++ [x]) (he : ∀ j, k < j → j < 3 → L j = []) : nxtG (st L) = some x.id := by
  unfold nxtG st
  match k, hk with
  | 0, _ => rw [hs, he 1 (by decide) (by decide), he 2 (by decide) (by decide)]; simp [kv]
  | 1, _ => rw [hs, he 2 (by decide) (by decide)]; simp [kv]
  | 2, _ => rw [hs]; simp [kv]
theorem nxt_no (he : ∀ j, j < 3 → L j = []) : nxtG (st L) = none := by
  unfold nxtG st
  rw [he 0 (by decide), he 1 (by decide), he 2 (by decide)]
  rfl
def ev3 (f : Nat) : List Value := [.pointer (some ⟨f, 12, none⟩), .pointer (some ⟨f, 6, none⟩), .pointer (some ⟨f, 0, none⟩)]
/-- What Evict leaves. -/
def EvP (w : World) (f : Nat) (s : St) (F : List Nat) (i : Int) (ok : Bool) (w' : World) : Prop := i = (evi s).getD 0 ∧ ok = (evi s).isSome ∧ ∃ F', SM w' f (eviS s) F' ∧ Moves F F' w w'
theorem ret_two {a c : Int} {o p : Bool} (h : a = c) (g : o = p) : Ending.returned (.tuple #[.int .i64 a, .bool o]) = .returned (.tuple #[.int .i64 c, .bool p]) := by rw [h, g]
set_option maxHeartbeats 8000000 in
theorem evict_m (h : SM w f s F) (hn : s.all.length ≤ 100000) : Calls Tryd.prog 39 #[.pointer (some ⟨f, 0, none⟩)] w fun e w' => e = .returned (.tuple #[.int .i64 ((evi s).getD 0), .bool (evi s).isSome]) ∧ ∃ F', SM w' f (eviS s) F' ∧ Moves F F' w w' := by
  obtain ⟨m, L, M, h1, rfl, rfl⟩ := h
  have H := hide h1
  have HN := hide hn
  clear h1 hn
  go_enter Tryd.func39, Tryd.ntmps39
  go_wp2
  go_loopg [21] (L 2).length (fun kx s21 wr => ∃ (L1 : Nat → List En), Hid (Sunk w f m L (foot0 f L) L1 wr ∧ spr (st L1) = spr (st L) ∧ (L1 2).length ≤ kx))
  case atStart => exact ⟨L, Sunk.refl H.out.sg, rfl, Nat.le_refl _⟩
  case round =>
    obtain ⟨L1, I⟩ := hrel
    have c5 : wr.cell? ⟨f, 17, none⟩ = some (.int .i64 ((L1 2).length : Int)) := I.out.1.sg.cnt 2 (by decide)
    have HS := hide (H.out.sunk I.out.1)
    have HSP : Hid (lastU (st L1).c = false → spr (st L) = st L1) := fun hu => by rw [← I.out.2.1, spr_stop hu]
    -- what is left once nothing is spared any more
    have HE : Hid (lastU (st L1).c = false → ∀ W, Below wr.heap.size wr W → SM W f (st L1) (foot f m L1) ∧ (∀ r, r < 3 → (W.cell? ⟨f, 6 * (2 - r) + 5, none⟩ = some (.int .i64 ((L1 (2 - r)).length : Int))) ∧
        (∀ A x, L1 (2 - r) = A ++ [x] → (∀ j, 2 - r < j → j < 3 → L1 j = []) → W.cell? ⟨f, 6 * (2 - r) + 3, none⟩ = some (.pointer (some ⟨x.b, 0, none⟩)) ∧ W.cell? ⟨x.b, 0, none⟩ = some (.int .i64 x.id) ∧
          Calls Tryd.prog 50 #[.pointer (some ⟨f, 0, none⟩), .int .i64 x.id] W fun e w' => e = .returned (.bool true) ∧ EvP w f (st L) (foot f m L) x.id true w')) ∧
        ((∀ j, j < 3 → L1 j = []) → EvP w f (st L) (foot f m L) 0 false W)) := fun hu W bW => by
      have hx := HS.out.1
      have hsp := HSP.out hu
      have e1 : SM wr f (st L1) (foot f m L1) := ⟨m, L1, M, hx, rfl, rfl⟩
      have e2 := e1.below bW
      have gW : SgIn W f m L1 (foot0 f L1) := hx.sg.sameF (fun q hq => bW.block q (hx.sg.foot_lt q hq))
      have K1 : Keep (foot f m L) w W := (HS.out.2.mono (fun q hq => .inl (List.mem_cons_of_mem _ hq))).trans (Keep.of_below (F := []) bW) (fun q hq => by cases hq)
      have ff := foot_of_at f m (fun i b => I.out.1.at_ i b)
      refine ⟨e2, fun r hr => ⟨gW.cnt (2 - r) (by omega), fun A x hs he => ⟨gW.lastp (by omega) hs, (gW.node (2 - r) (by omega) x (by rw [hs]; simp)).c0, ?_⟩⟩, fun he => ?_⟩
      · have hnx := nxt_at (by omega) hs he
        have hev : evi (st L) = some x.id := by unfold evi; rw [hsp]; exact hnx
        have hmem := nxtG_mem hnx
        have hl : (st L1).all.length ≤ 100000 := by rw [I.out.1.len]; exact HN.out
        refine (remove_m e2 (hx.i64 x.id hmem) hl).mono ?_
        rintro e w' ⟨rfl, F', g1, g2⟩
        have : (st L1).has x.id = true := by simpa [St.has] using hmem
        rw [this]
        refine ⟨rfl, by rw [hev]; rfl, by rw [hev]; rfl, F', ?_, ?_⟩
        · unfold eviS
          rw [hev, hsp]
          exact g1
        · refine ⟨K1.trans g2.keep (fun q hq => .inl ((ff q).1 hq)), fun q hq => ?_⟩
          rcases g2.foot q hq with h3 | h3
          · exact .inl ((ff q).1 h3)
          · exact .inr (Nat.le_trans K1.size h3)
      · have hev : evi (st L) = none := by unfold evi; rw [hsp]; exact nxt_no he
        refine ⟨by rw [hev]; rfl, by rw [hev]; rfl, foot f m L1, ?_, K1, fun q hq => .inl ((ff q).1 hq)⟩
        unfold eviS
        rw [hev, hsp]
        exact e2
    rcases List.eq_nil_or_concat (L1 2) with hnil | ⟨A0, x0, hs0⟩
    · have hu : lastU (st L1).c = false := by show lastU ((L1 2).map kv) = false; rw [hnil]; rfl
      have HF := hide (HE.out hu)
      have h0 : (L1 2).length = 0 := by rw [hnil]; rfl
      rw [h0] at c5
      clear HE HSP HS hu hnil h0 I
      go_wp2
      obtain ⟨A, hA⟩ : ∃ A, A = wr.drew := ⟨_, rfl⟩
      obtain ⟨N, hN⟩ : ∃ N, N = A.heap.size := ⟨_, rfl⟩
      have bA : Below wr.heap.size wr (A.alloc (.cells #[.pointer (some ⟨f, 12, none⟩), .pointer (some ⟨f, 6, none⟩), .pointer (some ⟨f, 0, none⟩)] 88)) := by rw [hA]; exact (show Below wr.heap.size wr wr.drew from ⟨rfl, rfl, rfl, Nat.le_refl _, fun _ _ => rfl⟩).alloc (Nat.le_refl _) _
      have HR : Hid (Blk (A.alloc (.cells #[.pointer (some ⟨f, 12, none⟩), .pointer (some ⟨f, 6, none⟩), .pointer (some ⟨f, 0, none⟩)] 88)) N (ev3 f) 88) := by rw [hN]; exact Blk.new A (ev3 f) 88
      have HF2 := hide (HF.out _ bA)
      have HA : Hid (CC4 A (A.alloc (.cells #[.pointer (some ⟨f, 12, none⟩), .pointer (some ⟨f, 6, none⟩), .pointer (some ⟨f, 0, none⟩)] 88)) A A 0 { wr with drawn := wr.drawn + 1 }) := hA.symm
      have HNN := hide hN
      clear hA hN bA HF
      refine wp_region_chain (by kernel_rfl) (by kernel_rfl) (fun jx => ([.pointer (some ⟨f, 0, none⟩), .pointer (some ⟨f, 0, none⟩), .pointer (some ⟨f, 12, none⟩), .pointer (some ⟨f, 0, none⟩), .pointer (some ⟨f, 0, none⟩), .pointer (some ⟨f, 6, none⟩), .pointer (some ⟨f, 0, none⟩), .pointer (some ⟨f, 0, none⟩), .pointer (some ⟨f, 0, none⟩), .slice (some ⟨N, 0, none⟩) 3 3, .int .i64 3, .int .i64 0] : List Value).getD jx undef) [9] (by kernel_rfl) (CC4 A (A.alloc (.cells #[.pointer (some ⟨f, 12, none⟩), .pointer (some ⟨f, 6, none⟩), .pointer (some ⟨f, 0, none⟩)] 88)) A A) (HA.out) ?_ ?_
      · intro jx ox hi sx w' ev hlm hks hc hin hout hcst hfn
        have hltx : jx < 12 := by
          have := (Array.getElem?_eq_some_iff.1 hi).1
          simpa using this
        match jx, hltx with
        | 0, _ =>
          simp only [List.getElem?_toArray, List.getElem?_cons_zero, List.getElem?_cons_succ, Option.some.injEq] at hi
          subst hi
          have e0 : ev (.tmp 0) = .pointer (some ⟨f, 0, none⟩) := hout 0 (by kernel_rfl) (show (0 : Nat) < 60 by decide)
          rw [if_neg (by decide)]
          refine .inl ⟨w', ?_, hc⟩
          show _ = Result.ok (Next.value (.pointer (some ⟨f, 0, none⟩))) w'
          simp [execOp, e0, hcst, go_sem]
        | 1, _ =>
          simp only [List.getElem?_toArray, List.getElem?_cons_zero, List.getElem?_cons_succ, Option.some.injEq] at hi
          subst hi
          have e0 : ev (.tmp 30) = .pointer (some ⟨f, 0, none⟩) := hin 30 0 ⟨0, .data⟩ (by kernel_rfl) (by simp) rfl rfl (show (30 : Nat) < 60 by decide)
          rw [if_neg (by decide)]
          refine .inl ⟨w', ?_, hc⟩
          show _ = Result.ok (Next.value (.pointer (some ⟨f, 0, none⟩))) w'
          simp [execOp, e0, hcst, go_sem]
        | 2, _ =>
          simp only [List.getElem?_toArray, List.getElem?_cons_zero, List.getElem?_cons_succ, Option.some.injEq] at hi
          subst hi
          have e0 : ev (.tmp 31) = .pointer (some ⟨f, 0, none⟩) := hin 31 1 ⟨1, .data⟩ (by kernel_rfl) (by simp) rfl rfl (show (31 : Nat) < 60 by decide)
          rw [if_neg (by decide)]
          refine .inl ⟨w', ?_, hc⟩
          show _ = Result.ok (Next.value (.pointer (some ⟨f, 12, none⟩))) w'
          simp [execOp, e0, hcst, go_sem]
        | 3, _ =>
          simp only [List.getElem?_toArray, List.getElem?_cons_zero, List.getElem?_cons_succ, Option.some.injEq] at hi
          subst hi
          have e0 : ev (.tmp 0) = .pointer (some ⟨f, 0, none⟩) := hout 0 (by kernel_rfl) (show (0 : Nat) < 60 by decide)
          rw [if_neg (by decide)]
          refine .inl ⟨w', ?_, hc⟩
          show _ = Result.ok (Next.value (.pointer (some ⟨f, 0, none⟩))) w'
          simp [execOp, e0, hcst, go_sem]
        | 4, _ =>
          simp only [List.getElem?_toArray, List.getElem?_cons_zero, List.getElem?_cons_succ, Option.some.injEq] at hi
          subst hi
          have e0 : ev (.tmp 33) = .pointer (some ⟨f, 0, none⟩) := hin 33 3 ⟨3, .data⟩ (by kernel_rfl) (by simp) rfl rfl (show (33 : Nat) < 60 by decide)
          rw [if_neg (by decide)]
          refine .inl ⟨w', ?_, hc⟩
          show _ = Result.ok (Next.value (.pointer (some ⟨f, 0, none⟩))) w'
          simp [execOp, e0, hcst, go_sem]
        | 5, _ =>
          simp only [List.getElem?_toArray, List.getElem?_cons_zero, List.getElem?_cons_succ, Option.some.injEq] at hi
          subst hi
          have e0 : ev (.tmp 34) = .pointer (some ⟨f, 0, none⟩) := hin 34 4 ⟨4, .data⟩ (by kernel_rfl) (by simp) rfl rfl (show (34 : Nat) < 60 by decide)
          rw [if_neg (by decide)]
          refine .inl ⟨w', ?_, hc⟩
          show _ = Result.ok (Next.value (.pointer (some ⟨f, 6, none⟩))) w'
          simp [execOp, e0, hcst, go_sem]
        | 6, _ =>
          simp only [List.getElem?_toArray, List.getElem?_cons_zero, List.getElem?_cons_succ, Option.some.injEq] at hi
          subst hi
          have e0 : ev (.tmp 0) = .pointer (some ⟨f, 0, none⟩) := hout 0 (by kernel_rfl) (show (0 : Nat) < 60 by decide)
          rw [if_neg (by decide)]
          refine .inl ⟨w', ?_, hc⟩
          show _ = Result.ok (Next.value (.pointer (some ⟨f, 0, none⟩))) w'
          simp [execOp, e0, hcst, go_sem]
        | 7, _ =>
          simp only [List.getElem?_toArray, List.getElem?_cons_zero, List.getElem?_cons_succ, Option.some.injEq] at hi
          subst hi
          have e0 : ev (.tmp 36) = .pointer (some ⟨f, 0, none⟩) := hin 36 6 ⟨6, .data⟩ (by kernel_rfl) (by simp) rfl rfl (show (36 : Nat) < 60 by decide)
          rw [if_neg (by decide)]
          refine .inl ⟨w', ?_, hc⟩
          show _ = Result.ok (Next.value (.pointer (some ⟨f, 0, none⟩))) w'
          simp [execOp, e0, hcst, go_sem]
        | 8, _ =>
          simp only [List.getElem?_toArray, List.getElem?_cons_zero, List.getElem?_cons_succ, Option.some.injEq] at hi
          subst hi
          have e0 : ev (.tmp 37) = .pointer (some ⟨f, 0, none⟩) := hin 37 7 ⟨7, .data⟩ (by kernel_rfl) (by simp) rfl rfl (show (37 : Nat) < 60 by decide)
          rw [if_neg (by decide)]
          refine .inl ⟨w', ?_, hc⟩
          show _ = Result.ok (Next.value (.pointer (some ⟨f, 0, none⟩))) w'
          simp [execOp, e0, hcst, go_sem]
        | 9, _ =>
          simp only [List.getElem?_toArray, List.getElem?_cons_zero, List.getElem?_cons_succ, Option.some.injEq] at hi
          subst hi
          have e0 : ev (.tmp 32) = .pointer (some ⟨f, 12, none⟩) := hin 32 2 ⟨2, .data⟩ (by kernel_rfl) (by simp) rfl rfl (show (32 : Nat) < 60 by decide)
          have e1 : ev (.tmp 35) = .pointer (some ⟨f, 6, none⟩) := hin 35 5 ⟨5, .data⟩ (by kernel_rfl) (by simp) rfl rfl (show (35 : Nat) < 60 by decide)
          have e2 : ev (.tmp 38) = .pointer (some ⟨f, 0, none⟩) := hin 38 8 ⟨8, .data⟩ (by kernel_rfl) (by simp) rfl rfl (show (38 : Nat) < 60 by decide)
          rw [if_pos (by decide)]
          have hsx : sx = 0 := hks 0 rfl
          subst hsx
          have hw : w' = A := hc
          subst hw
          have q := HNN.out
          refine .inl ⟨_, ?_, rfl⟩
          simp [execOp, e0, e1, e2, hcst, go_sem, q, Result.andThen]
        | 10, _ =>
          simp only [List.getElem?_toArray, List.getElem?_cons_zero, List.getElem?_cons_succ, Option.some.injEq] at hi
          subst hi
          have e0 : ev (.tmp 39) = .slice (some ⟨N, 0, none⟩) 3 3 := hin 39 9 ⟨9, .data⟩ (by kernel_rfl) (by simp) rfl rfl (show (39 : Nat) < 60 by decide)
          rw [if_neg (by decide)]
          refine .inl ⟨w', ?_, hc⟩
          show _ = Result.ok (Next.value (.int .i64 3)) w'
          simp [execOp, e0, hcst, resolve, invoke, builtin, Builtin.len_, Result.andThen, go_sem]
        | 11, _ =>
          simp only [List.getElem?_toArray, List.getElem?_cons_zero, List.getElem?_cons_succ, Option.some.injEq] at hi
          subst hi
          rw [if_neg (by decide)]
          refine .inl ⟨w', ?_, hc⟩
          show _ = Result.ok (Next.value (.int .i64 0)) w'
          simp [execOp, hcst, go_sem]
      · intro w9 hc
        simp only [lexF, Act.put, List.setIfInBounds_toArray, List.set_cons_succ, List.set_cons_zero, List.getD_cons_succ, List.getD_cons_zero]
        have hw : w9 = A.alloc (.cells #[.pointer (some ⟨f, 12, none⟩), .pointer (some ⟨f, 6, none⟩), .pointer (some ⟨f, 0, none⟩)] 88) := hc
        subst hw
        generalize A.alloc (.cells #[.pointer (some ⟨f, 12, none⟩), .pointer (some ⟨f, 6, none⟩), .pointer (some ⟨f, 0, none⟩)] 88) = W at *
        clear HA HNN
        go_wp2
        go_loopg [5, 6, 41] 3 (fun ky s5 s6 s41 wz => ∃ (r : Nat), s41 = .int .i64 (r : Int) ∧ wz = W ∧ Hid (r ≤ 3 ∧ 3 - r ≤ ky ∧ ∀ j, 2 < r + j → j < 3 → L1 j = []))
        case atStart => exact ⟨0, rfl, rfl, by decide, by decide, fun j h1 h2 => by omega⟩
        case round =>
          obtain ⟨r, rfl, rfl, J⟩ := hrel
          by_cases hr : r < 3
          · have hr2 : (r : Int) < 3 := by omega
            have cr : wr.cell? ⟨N, r, none⟩ = some (.pointer (some ⟨f, 6 * (2 - r), none⟩)) := HR.out.cell (by
              match r, hr with
              | 0, _ => rfl
              | 1, _ => rfl
              | 2, _ => rfl)
            obtain ⟨d5, d3⟩ := HF2.out.2.1 r hr
            obtain ⟨o, ho⟩ : ∃ o, o = 6 * (2 - r) := ⟨_, rfl⟩
            rw [← ho] at cr d5 d3
            have HO := hide ho
            clear ho
            rcases List.eq_nil_or_concat (L1 (2 - r)) with hnil | ⟨A1, x1, hs1⟩
            · have h0 : (L1 (2 - r)).length = 0 := by rw [hnil]; rfl
              rw [h0] at d5
              have J2 : Hid (∀ j, 2 < r + 1 + j → j < 3 → L1 j = []) := fun j q1 q2 => by
                by_cases e : j = 2 - r
                · rw [e]; exact hnil
                · exact J.out.2.2 j (by omega) q2
              obtain ⟨r1, hr1⟩ : ∃ r1, r1 = r + 1 := ⟨_, rfl⟩
              have e2 : (r : Int) + 1 = (r1 : Int) := by omega
              have Hr := hide hr
              have Hr1 := hide hr1
              rw [← hr1] at J2
              clear hnil h0 d3 hr1
              go_wp2
              go_roundg (3 - r1)
              case measure => have := J.out.2.1; have := Hr.out; have := Hr1.out; omega
              case rel => exact ⟨r1, rfl, rfl, by have := Hr.out; have := Hr1.out; omega, Nat.le_refl _, J2.out⟩
            · have hs : L1 (2 - r) = A1 ++ [x1] := by rw [hs1]; simp
              obtain ⟨p1, p2, p3⟩ := d3 A1 x1 hs (fun j q1 q2 => J.out.2.2 j (by omega) q2)
              have hpos2 : (0 : Int) < ((L1 (2 - r)).length : Int) := by rw [hs, List.length_append, List.length_singleton]; omega
              have CL3 := hide (last_raw f o (some ⟨x1.b, 0, none⟩) wr p1)
              have CR := hide p3
              obtain ⟨b1, hb1⟩ : ∃ b1, b1 = x1.b := ⟨_, rfl⟩
              obtain ⟨i1, hi1⟩ : ∃ i1, i1 = x1.id := ⟨_, rfl⟩
              rw [← hb1] at CL3 p2
              rw [← hi1] at CR p2
              obtain ⟨n2, hn2⟩ : ∃ n2, n2 = (L1 (2 - r)).length := ⟨_, rfl⟩
              rw [← hn2] at d5 hpos2
              clear hs hs1 p1 p3 d3 hb1 hi1 hn2
              go_wp2_with fail
              refine CL3.out.mono ?_
              rintro e wx ⟨rfl, hx⟩
              obtain rfl : wr = wx := hx.symm
              clear hx CL3
              go_wp2_with fail
              refine CR.out.mono ?_
              rintro e wq ⟨rfl, hq⟩
              have HQ := hide hq
              clear hq CR
              go_wp2
              go_ret2
              exact ⟨ret_two HQ.out.1 HQ.out.2.1, HQ.out.2.2⟩
          · have hr3 : r = 3 := by have := J.out.1; omega
            subst hr3
            have HQ := hide (HF2.out.2.2 (fun j hj => J.out.2.2 j (by omega) hj))
            clear hr
            go_wp2
            go_ret2
            exact ⟨ret_two HQ.out.1 HQ.out.2.1, HQ.out.2.2⟩
    · have hs : L1 2 = A0 ++ [x0] := by rw [hs0]; simp
      have hlu : lastU (st L1).c = x0.u := by
        show lastU ((L1 2).map kv) = _
        rw [hs, List.map_append, List.map_cons, List.map_nil, lastU_snoc]; rfl
      have hpos : (0 : Int) < ((L1 2).length : Int) := by rw [hs, List.length_append, List.length_singleton]; omega
      have c3 : wr.cell? ⟨f, 15, none⟩ = some (.pointer (some ⟨x0.b, 0, none⟩)) := I.out.1.sg.lastp (k := 2) (by decide) hs
      have CL := hide (last_raw f 12 (some ⟨x0.b, 0, none⟩) wr c3)
      have c1 : wr.cell? ⟨x0.b, 1, none⟩ = some (.bool x0.u) := (I.out.1.sg.node 2 (by decide) x0 (by rw [hs]; simp)).c1
      have hl9 : (L1 2).length ≤ 100000 := Nat.le_trans (row_le (by decide)) (by rw [I.out.1.len]; exact HN.out)
      cases hu : x0.u with
      | true =>
        rw [hu] at c1 hlu
        have CM : Hid (Calls Tryd.prog 61 #[.pointer (some ⟨x0.b, 0, none⟩), .pointer (some ⟨f, 6, none⟩)] wr.drew fun e w' => e = .returned (.tuple #[]) ∧ (Sunk w f m L (foot0 f L) (mvd L1 2 (toK 2 x0) A0 [] x0) w' ∧ spr (st (mvd L1 2 (toK 2 x0) A0 [] x0)) = spr (st L) ∧ (mvd L1 2 (toK 2 x0) A0 [] x0 2).length + 1 ≤ (L1 2).length)) := by
          refine ((I.out.1.sg.heap (w' := wr.drew) rfl).moveTo (k := 2) (k' := toK 2 x0) (by decide) (toK_lt 2 x0) hs (fun j hj => Nat.le_trans (row_le hj) (by rw [I.out.1.len]; have := HN.out; omega)) 6 rfl).mono ?_
          rintro e w' ⟨rfl, h5, h6⟩
          have K0 : Keep (foot0 f L) wr wr.drew := ⟨rfl, rfl, rfl, Nat.le_refl _, fun _ _ _ => rfl⟩
          refine ⟨rfl, I.out.1.mv (by decide) hs h5 (K0.trans h6 (fun q hq => .inl hq)), ?_, ?_⟩
          · rw [st_mvd (by decide) hs, ← spr_step hlu]; exact I.out.2.1
          · have := stp2_len hlu
            rw [← st_mvd (by decide) hs] at this
            have e1 : (st (mvd L1 2 (toK 2 x0) A0 [] x0)).c.length = (mvd L1 2 (toK 2 x0) A0 [] x0 2).length := by simp [st]
            have e2 : (st L1).c.length = (L1 2).length := by simp [st]
            omega
        have HI := hide I.out.2.2
        generalize mvd L1 2 (toK 2 x0) A0 [] x0 = L2 at *
        obtain ⟨b, hb⟩ : ∃ b, b = x0.b := ⟨_, rfl⟩
        rw [← hb] at CL CM c1 c3
        obtain ⟨n1, hn1⟩ : ∃ n1, n1 = (L1 2).length := ⟨_, rfl⟩
        rw [← hn1] at CM c5 hpos HI hl9
        clear hs hs0 hu hlu hb HE HSP HS I hn1
        go_wp2_with fail
        refine CL.out.mono ?_
        rintro e wx ⟨rfl, hx⟩
        obtain rfl : wr = wx := hx.symm
        clear hx
        go_wp2
        obtain ⟨A, hA⟩ : ∃ A, A = wr.drew := ⟨_, rfl⟩
        have CL2 : Hid (Calls Tryd.prog 60 #[.pointer (some ⟨f, 12, none⟩)] A fun e w' => e = .returned (.pointer (some ⟨b, 0, none⟩)) ∧ w' = A) := by rw [hA]; exact last_raw f 12 (some ⟨b, 0, none⟩) wr.drew c3
        have CM2 : Hid (Calls Tryd.prog 61 #[.pointer (some ⟨b, 0, none⟩), .pointer (some ⟨f, 6, none⟩)] A fun e w' => e = .returned (.tuple #[]) ∧ (Sunk w f m L (foot0 f L) L2 w' ∧ spr (st L2) = spr (st L) ∧ (L2 2).length + 1 ≤ n1)) := by rw [hA]; exact CM.out
        have HA : Hid (CX A (fun w' => Sunk w f m L (foot0 f L) L2 w' ∧ spr (st L2) = spr (st L) ∧ (L2 2).length + 1 ≤ n1) 0 { wr with drawn := wr.drawn + 1 }) := hA.symm
        clear hA CL CM c1 c3 c5
        refine wp_region_chain (by kernel_rfl) (by kernel_rfl) (fun jx => ([.pointer (some ⟨f, 0, none⟩), .pointer (some ⟨f, 0, none⟩), .pointer (some ⟨f, 12, none⟩), .pointer (some ⟨b, 0, none⟩), .pointer (some ⟨f, 0, none⟩), .pointer (some ⟨f, 0, none⟩), .pointer (some ⟨f, 6, none⟩), .tuple #[]] : List Value).getD jx undef) [7] (by kernel_rfl) (CX A (fun w' => Sunk w f m L (foot0 f L) L2 w' ∧ spr (st L2) = spr (st L) ∧ (L2 2).length + 1 ≤ n1)) (HA.out) ?_ ?_
        · intro jx ox hi sx w' ev hlm hks hc hin hout hcst hfn
          have hltx : jx < 8 := by
            have := (Array.getElem?_eq_some_iff.1 hi).1
            simpa using this
          match jx, hltx with
          | 0, _ =>
            simp only [List.getElem?_toArray, List.getElem?_cons_zero, List.getElem?_cons_succ, Option.some.injEq] at hi
            subst hi
            have e0 : ev (.tmp 0) = .pointer (some ⟨f, 0, none⟩) := hout 0 (by kernel_rfl) (show (0 : Nat) < 60 by decide)
            rw [if_neg (by decide)]
            refine .inl ⟨w', ?_, hc⟩
            show _ = Result.ok (Next.value (.pointer (some ⟨f, 0, none⟩))) w'
            simp [execOp, e0, hcst, go_sem]
          | 1, _ =>
            simp only [List.getElem?_toArray, List.getElem?_cons_zero, List.getElem?_cons_succ, Option.some.injEq] at hi
            subst hi
            have e0 : ev (.tmp 22) = .pointer (some ⟨f, 0, none⟩) := hin 22 0 ⟨0, .data⟩ (by kernel_rfl) (by simp) rfl rfl (show (22 : Nat) < 60 by decide)
            rw [if_neg (by decide)]
            refine .inl ⟨w', ?_, hc⟩
            show _ = Result.ok (Next.value (.pointer (some ⟨f, 0, none⟩))) w'
            simp [execOp, e0, hcst, go_sem]
          | 2, _ =>
            simp only [List.getElem?_toArray, List.getElem?_cons_zero, List.getElem?_cons_succ, Option.some.injEq] at hi
            subst hi
            have e0 : ev (.tmp 23) = .pointer (some ⟨f, 0, none⟩) := hin 23 1 ⟨1, .data⟩ (by kernel_rfl) (by simp) rfl rfl (show (23 : Nat) < 60 by decide)
            rw [if_neg (by decide)]
            refine .inl ⟨w', ?_, hc⟩
            show _ = Result.ok (Next.value (.pointer (some ⟨f, 12, none⟩))) w'
            simp [execOp, e0, hcst, go_sem]
          | 3, _ =>
            simp only [List.getElem?_toArray, List.getElem?_cons_zero, List.getElem?_cons_succ, Option.some.injEq] at hi
            subst hi
            have e0 : ev (.tmp 24) = .pointer (some ⟨f, 12, none⟩) := hin 24 2 ⟨2, .data⟩ (by kernel_rfl) (by simp) rfl rfl (show (24 : Nat) < 60 by decide)
            rw [if_neg (by decide)]
            refine .inr (.inr ⟨60, #[.pointer (some ⟨f, 12, none⟩)], ?_, ?_⟩)
            · have ef := hfn 60
              simp [execOp, resolve, invoke, ef, hcst, e0, Result.andThen]
              exact enter26 _ _
            · have hl2 : sx ≤ 0 := Nat.le_trans hlm (Nat.le_of_eq (by kernel_rfl))
              obtain rfl : sx = 0 := Nat.le_zero.1 hl2
              have hw : w' = A := hc
              subst hw
              refine CL2.out.mono ?_
              rintro e wq ⟨rfl, hq⟩
              exact ⟨rfl, hq⟩
          | 4, _ =>
            simp only [List.getElem?_toArray, List.getElem?_cons_zero, List.getElem?_cons_succ, Option.some.injEq] at hi
            subst hi
            have e0 : ev (.tmp 0) = .pointer (some ⟨f, 0, none⟩) := hout 0 (by kernel_rfl) (show (0 : Nat) < 60 by decide)
            rw [if_neg (by decide)]
            refine .inl ⟨w', ?_, hc⟩
            show _ = Result.ok (Next.value (.pointer (some ⟨f, 0, none⟩))) w'
            simp [execOp, e0, hcst, go_sem]
          | 5, _ =>
            simp only [List.getElem?_toArray, List.getElem?_cons_zero, List.getElem?_cons_succ, Option.some.injEq] at hi
            subst hi
            have e0 : ev (.tmp 26) = .pointer (some ⟨f, 0, none⟩) := hin 26 4 ⟨4, .data⟩ (by kernel_rfl) (by simp) rfl rfl (show (26 : Nat) < 60 by decide)
            rw [if_neg (by decide)]
            refine .inl ⟨w', ?_, hc⟩
            show _ = Result.ok (Next.value (.pointer (some ⟨f, 0, none⟩))) w'
            simp [execOp, e0, hcst, go_sem]
          | 6, _ =>
            simp only [List.getElem?_toArray, List.getElem?_cons_zero, List.getElem?_cons_succ, Option.some.injEq] at hi
            subst hi
            have e0 : ev (.tmp 27) = .pointer (some ⟨f, 0, none⟩) := hin 27 5 ⟨5, .data⟩ (by kernel_rfl) (by simp) rfl rfl (show (27 : Nat) < 60 by decide)
            rw [if_neg (by decide)]
            refine .inl ⟨w', ?_, hc⟩
            show _ = Result.ok (Next.value (.pointer (some ⟨f, 6, none⟩))) w'
            simp [execOp, e0, hcst, go_sem]
          | 7, _ =>
            simp only [List.getElem?_toArray, List.getElem?_cons_zero, List.getElem?_cons_succ, Option.some.injEq] at hi
            subst hi
            have e0 : ev (.tmp 25) = .pointer (some ⟨b, 0, none⟩) := hin 25 3 ⟨3, .data⟩ (by kernel_rfl) (by simp) rfl rfl (show (25 : Nat) < 60 by decide)
            have e1 : ev (.tmp 28) = .pointer (some ⟨f, 6, none⟩) := hin 28 6 ⟨6, .data⟩ (by kernel_rfl) (by simp) rfl rfl (show (28 : Nat) < 60 by decide)
            rw [if_pos (by decide)]
            have hsx : sx = 0 := hks 0 rfl
            subst hsx
            refine .inr (.inr ⟨61, #[.pointer (some ⟨b, 0, none⟩), .pointer (some ⟨f, 6, none⟩)], ?_, ?_⟩)
            · have ef := hfn 61
              simp [execOp, resolve, invoke, ef, hcst, e0, e1, Result.andThen]
              exact enter27 _ _
            · have hw : w' = A := hc
              subst hw
              refine CM2.out.mono ?_
              rintro e wq ⟨rfl, hq⟩
              exact ⟨rfl, hq⟩
        · intro w9 hc
          simp only [lexF, Act.put, List.setIfInBounds_toArray, List.set_cons_succ, List.set_cons_zero, List.getD_cons_succ, List.getD_cons_zero]
          have N := hide (show Sunk w f m L (foot0 f L) L2 w9 ∧ spr (st L2) = spr (st L) ∧ (L2 2).length + 1 ≤ n1 from hc)
          clear hc CL2 CM2 HA
          go_wp2
          go_roundg (L2 2).length
          case measure => have := N.out.2.2; have := HI.out; omega
          case rel => exact ⟨L2, N.out.1, N.out.2.1, Nat.le_refl _⟩
      | false =>
        rw [hu] at c1 hlu
        have HF := hide (HE.out hlu)
        obtain ⟨b, hb⟩ : ∃ b, b = x0.b := ⟨_, rfl⟩
        rw [← hb] at CL c1 c3
        have Hc5 : Hid True := trivial
        obtain ⟨n1, hn1⟩ : ∃ n1, n1 = (L1 2).length := ⟨_, rfl⟩
        rw [← hn1] at c5 hpos hl9
        clear hs hs0 hu hlu hb HE HSP HS I hn1
        go_wp2_with fail
        refine CL.out.mono ?_
        rintro e wx ⟨rfl, hx⟩
        obtain rfl : wr = wx := hx.symm
        clear hx CL c3
        go_wp2
        clear c1 c5 hpos hl9
        obtain ⟨A, hA⟩ : ∃ A, A = wr.drew := ⟨_, rfl⟩
        obtain ⟨N, hN⟩ : ∃ N, N = A.heap.size := ⟨_, rfl⟩
        have bA : Below wr.heap.size wr (A.alloc (.cells #[.pointer (some ⟨f, 12, none⟩), .pointer (some ⟨f, 6, none⟩), .pointer (some ⟨f, 0, none⟩)] 88)) := by rw [hA]; exact (show Below wr.heap.size wr wr.drew from ⟨rfl, rfl, rfl, Nat.le_refl _, fun _ _ => rfl⟩).alloc (Nat.le_refl _) _
        have HR : Hid (Blk (A.alloc (.cells #[.pointer (some ⟨f, 12, none⟩), .pointer (some ⟨f, 6, none⟩), .pointer (some ⟨f, 0, none⟩)] 88)) N (ev3 f) 88) := by rw [hN]; exact Blk.new A (ev3 f) 88
        have HF2 := hide (HF.out _ bA)
        have HA : Hid (CC4 A (A.alloc (.cells #[.pointer (some ⟨f, 12, none⟩), .pointer (some ⟨f, 6, none⟩), .pointer (some ⟨f, 0, none⟩)] 88)) A A 0 { wr with drawn := wr.drawn + 1 }) := hA.symm
        have HNN := hide hN
        clear hA hN bA HF
        refine wp_region_chain (by kernel_rfl) (by kernel_rfl) (fun jx => ([.pointer (some ⟨f, 0, none⟩), .pointer (some ⟨f, 0, none⟩), .pointer (some ⟨f, 12, none⟩), .pointer (some ⟨f, 0, none⟩), .pointer (some ⟨f, 0, none⟩), .pointer (some ⟨f, 6, none⟩), .pointer (some ⟨f, 0, none⟩), .pointer (some ⟨f, 0, none⟩), .pointer (some ⟨f, 0, none⟩), .slice (some ⟨N, 0, none⟩) 3 3, .int .i64 3, .int .i64 0] : List Value).getD jx undef) [9] (by kernel_rfl) (CC4 A (A.alloc (.cells #[.pointer (some ⟨f, 12, none⟩), .pointer (some ⟨f, 6, none⟩), .pointer (some ⟨f, 0, none⟩)] 88)) A A) (HA.out) ?_ ?_
        · intro jx ox hi sx w' ev hlm hks hc hin hout hcst hfn
          have hltx : jx < 12 := by
            have := (Array.getElem?_eq_some_iff.1 hi).1
            simpa using this
          match jx, hltx with
          | 0, _ =>
            simp only [List.getElem?_toArray, List.getElem?_cons_zero, List.getElem?_cons_succ, Option.some.injEq] at hi
            subst hi
            have e0 : ev (.tmp 0) = .pointer (some ⟨f, 0, none⟩) := hout 0 (by kernel_rfl) (show (0 : Nat) < 60 by decide)
            rw [if_neg (by decide)]
            refine .inl ⟨w', ?_, hc⟩
            show _ = Result.ok (Next.value (.pointer (some ⟨f, 0, none⟩))) w'
            simp [execOp, e0, hcst, go_sem]
          | 1, _ =>
            simp only [List.getElem?_toArray, List.getElem?_cons_zero, List.getElem?_cons_succ, Option.some.injEq] at hi
            subst hi
            have e0 : ev (.tmp 30) = .pointer (some ⟨f, 0, none⟩) := hin 30 0 ⟨0, .data⟩ (by kernel_rfl) (by simp) rfl rfl (show (30 : Nat) < 60 by decide)
            rw [if_neg (by decide)]
            refine .inl ⟨w', ?_, hc⟩
            show _ = Result.ok (Next.value (.pointer (some ⟨f, 0, none⟩))) w'
            simp [execOp, e0, hcst, go_sem]
          | 2, _ =>
            simp only [List.getElem?_toArray, List.getElem?_cons_zero, List.getElem?_cons_succ, Option.some.injEq] at hi
            subst hi
            have e0 : ev (.tmp 31) = .pointer (some ⟨f, 0, none⟩) := hin 31 1 ⟨1, .data⟩ (by kernel_rfl) (by simp) rfl rfl (show (31 : Nat) < 60 by decide)
            rw [if_neg (by decide)]
            refine .inl ⟨w', ?_, hc⟩
            show _ = Result.ok (Next.value (.pointer (some ⟨f, 12, none⟩))) w'
            simp [execOp, e0, hcst, go_sem]
          | 3, _ =>
            simp only [List.getElem?_toArray, List.getElem?_cons_zero, List.getElem?_cons_succ, Option.some.injEq] at hi
            subst hi
            have e0 : ev (.tmp 0) = .pointer (some ⟨f, 0, none⟩) := hout 0 (by kernel_rfl) (show (0 : Nat) < 60 by decide)
            rw [if_neg (by decide)]
            refine .inl ⟨w', ?_, hc⟩
            show _ = Result.ok (Next.value (.pointer (some ⟨f, 0, none⟩))) w'
            simp [execOp, e0, hcst, go_sem]
          | 4, _ =>
            simp only [List.getElem?_toArray, List.getElem?_cons_zero, List.getElem?_cons_succ, Option.some.injEq] at hi
            subst hi
            have e0 : ev (.tmp 33) = .pointer (some ⟨f, 0, none⟩) := hin 33 3 ⟨3, .data⟩ (by kernel_rfl) (by simp) rfl rfl (show (33 : Nat) < 60 by decide)
            rw [if_neg (by decide)]
            refine .inl ⟨w', ?_, hc⟩
            show _ = Result.ok (Next.value (.pointer (some ⟨f, 0, none⟩))) w'
            simp [execOp, e0, hcst, go_sem]
          | 5, _ =>
            simp only [List.getElem?_toArray, List.getElem?_cons_zero, List.getElem?_cons_succ, Option.some.injEq] at hi
            subst hi
            have e0 : ev (.tmp 34) = .pointer (some ⟨f, 0, none⟩) := hin 34 4 ⟨4, .data⟩ (by kernel_rfl) (by simp) rfl rfl (show (34 : Nat) < 60 by decide)
            rw [if_neg (by decide)]
            refine .inl ⟨w', ?_, hc⟩
            show _ = Result.ok (Next.value (.pointer (some ⟨f, 6, none⟩))) w'
            simp [execOp, e0, hcst, go_sem]
          | 6, _ =>
            simp only [List.getElem?_toArray, List.getElem?_cons_zero, List.getElem?_cons_succ, Option.some.injEq] at hi
            subst hi
            have e0 : ev (.tmp 0) = .pointer (some ⟨f, 0, none⟩) := hout 0 (by kernel_rfl) (show (0 : Nat) < 60 by decide)
            rw [if_neg (by decide)]
            refine .inl ⟨w', ?_, hc⟩
            show _ = Result.ok (Next.value (.pointer (some ⟨f, 0, none⟩))) w'
            simp [execOp, e0, hcst, go_sem]
          | 7, _ =>
            simp only [List.getElem?_toArray, List.getElem?_cons_zero, List.getElem?_cons_succ, Option.some.injEq] at hi
            subst hi
            have e0 : ev (.tmp 36) = .pointer (some ⟨f, 0, none⟩) := hin 36 6 ⟨6, .data⟩ (by kernel_rfl) (by simp) rfl rfl (show (36 : Nat) < 60 by decide)
            rw [if_neg (by decide)]
            refine .inl ⟨w', ?_, hc⟩
            show _ = Result.ok (Next.value (.pointer (some ⟨f, 0, none⟩))) w'
            simp [execOp, e0, hcst, go_sem]
          | 8, _ =>
            simp only [List.getElem?_toArray, List.getElem?_cons_zero, List.getElem?_cons_succ, Option.some.injEq] at hi
            subst hi
            have e0 : ev (.tmp 37) = .pointer (some ⟨f, 0, none⟩) := hin 37 7 ⟨7, .data⟩ (by kernel_rfl) (by simp) rfl rfl (show (37 : Nat) < 60 by decide)
            rw [if_neg (by decide)]
            refine .inl ⟨w', ?_, hc⟩
            show _ = Result.ok (Next.value (.pointer (some ⟨f, 0, none⟩))) w'
            simp [execOp, e0, hcst, go_sem]
          | 9, _ =>
            simp only [List.getElem?_toArray, List.getElem?_cons_zero, List.getElem?_cons_succ, Option.some.injEq] at hi
            subst hi
            have e0 : ev (.tmp 32) = .pointer (some ⟨f, 12, none⟩) := hin 32 2 ⟨2, .data⟩ (by kernel_rfl) (by simp) rfl rfl (show (32 : Nat) < 60 by decide)
            have e1 : ev (.tmp 35) = .pointer (some ⟨f, 6, none⟩) := hin 35 5 ⟨5, .data⟩ (by kernel_rfl) (by simp) rfl rfl (show (35 : Nat) < 60 by decide)
            have e2 : ev (.tmp 38) = .pointer (some ⟨f, 0, none⟩) := hin 38 8 ⟨8, .data⟩ (by kernel_rfl) (by simp) rfl rfl (show (38 : Nat) < 60 by decide)
            rw [if_pos (by decide)]
            have hsx : sx = 0 := hks 0 rfl
            subst hsx
            have hw : w' = A := hc
            subst hw
            have q := HNN.out
            refine .inl ⟨_, ?_, rfl⟩
            simp [execOp, e0, e1, e2, hcst, go_sem, q, Result.andThen]
          | 10, _ =>
            simp only [List.getElem?_toArray, List.getElem?_cons_zero, List.getElem?_cons_succ, Option.some.injEq] at hi
            subst hi
            have e0 : ev (.tmp 39) = .slice (some ⟨N, 0, none⟩) 3 3 := hin 39 9 ⟨9, .data⟩ (by kernel_rfl) (by simp) rfl rfl (show (39 : Nat) < 60 by decide)
            rw [if_neg (by decide)]
            refine .inl ⟨w', ?_, hc⟩
            show _ = Result.ok (Next.value (.int .i64 3)) w'
            simp [execOp, e0, hcst, resolve, invoke, builtin, Builtin.len_, Result.andThen, go_sem]
          | 11, _ =>
            simp only [List.getElem?_toArray, List.getElem?_cons_zero, List.getElem?_cons_succ, Option.some.injEq] at hi
            subst hi
            rw [if_neg (by decide)]
            refine .inl ⟨w', ?_, hc⟩
            show _ = Result.ok (Next.value (.int .i64 0)) w'
            simp [execOp, hcst, go_sem]
        · intro w9 hc
          simp only [lexF, Act.put, List.setIfInBounds_toArray, List.set_cons_succ, List.set_cons_zero, List.getD_cons_succ, List.getD_cons_zero]
          have hw : w9 = A.alloc (.cells #[.pointer (some ⟨f, 12, none⟩), .pointer (some ⟨f, 6, none⟩), .pointer (some ⟨f, 0, none⟩)] 88) := hc
          subst hw
          generalize A.alloc (.cells #[.pointer (some ⟨f, 12, none⟩), .pointer (some ⟨f, 6, none⟩), .pointer (some ⟨f, 0, none⟩)] 88) = W at *
          clear HA HNN
          go_wp2
          go_loopg [5, 6, 41] 3 (fun ky s5 s6 s41 wz => ∃ (r : Nat), s41 = .int .i64 (r : Int) ∧ wz = W ∧ Hid (r ≤ 3 ∧ 3 - r ≤ ky ∧ ∀ j, 2 < r + j → j < 3 → L1 j = []))
          case atStart => exact ⟨0, rfl, rfl, by decide, by decide, fun j h1 h2 => by omega⟩
          case round =>
            obtain ⟨r, rfl, rfl, J⟩ := hrel
            by_cases hr : r < 3
            · have hr2 : (r : Int) < 3 := by omega
              have cr : wr.cell? ⟨N, r, none⟩ = some (.pointer (some ⟨f, 6 * (2 - r), none⟩)) := HR.out.cell (by
                match r, hr with
                | 0, _ => rfl
                | 1, _ => rfl
                | 2, _ => rfl)
              obtain ⟨d5, d3⟩ := HF2.out.2.1 r hr
              obtain ⟨o, ho⟩ : ∃ o, o = 6 * (2 - r) := ⟨_, rfl⟩
              rw [← ho] at cr d5 d3
              have HO := hide ho
              clear ho
              rcases List.eq_nil_or_concat (L1 (2 - r)) with hnil | ⟨A1, x1, hs1⟩
              · have h0 : (L1 (2 - r)).length = 0 := by rw [hnil]; rfl
                rw [h0] at d5
                have J2 : Hid (∀ j, 2 < r + 1 + j → j < 3 → L1 j = []) := fun j q1 q2 => by
                  by_cases e : j = 2 - r
                  · rw [e]; exact hnil
                  · exact J.out.2.2 j (by omega) q2
                obtain ⟨r1, hr1⟩ : ∃ r1, r1 = r + 1 := ⟨_, rfl⟩
                have e2 : (r : Int) + 1 = (r1 : Int) := by omega
                have Hr := hide hr
                have Hr1 := hide hr1
                rw [← hr1] at J2
                clear hnil h0 d3 hr1
                go_wp2
                go_roundg (3 - r1)
                case measure => have := J.out.2.1; have := Hr.out; have := Hr1.out; omega
                case rel => exact ⟨r1, rfl, rfl, by have := Hr.out; have := Hr1.out; omega, Nat.le_refl _, J2.out⟩
              · have hs : L1 (2 - r) = A1 ++ [x1] := by rw [hs1]; simp
                obtain ⟨p1, p2, p3⟩ := d3 A1 x1 hs (fun j q1 q2 => J.out.2.2 j (by omega) q2)
                have hpos2 : (0 : Int) < ((L1 (2 - r)).length : Int) := by rw [hs, List.length_append, List.length_singleton]; omega
                have CL3 := hide (last_raw f o (some ⟨x1.b, 0, none⟩) wr p1)
                have CR := hide p3
                obtain ⟨b1, hb1⟩ : ∃ b1, b1 = x1.b := ⟨_, rfl⟩
                obtain ⟨i1, hi1⟩ : ∃ i1, i1 = x1.id := ⟨_, rfl⟩
                rw [← hb1] at CL3 p2
                rw [← hi1] at CR p2
                obtain ⟨n2, hn2⟩ : ∃ n2, n2 = (L1 (2 - r)).length := ⟨_, rfl⟩
                rw [← hn2] at d5 hpos2
                clear hs hs1 p1 p3 d3 hb1 hi1 hn2
                go_wp2_with fail
                refine CL3.out.mono ?_
                rintro e wx ⟨rfl, hx⟩
                obtain rfl : wr = wx := hx.symm
                clear hx CL3
                go_wp2_with fail
                refine CR.out.mono ?_
                rintro e wq ⟨rfl, hq⟩
                have HQ := hide hq
                clear hq CR
                go_wp2
                go_ret2
                exact ⟨ret_two HQ.out.1 HQ.out.2.1, HQ.out.2.2⟩
            · have hr3 : r = 3 := by have := J.out.1; omega
              subst hr3
              have HQ := hide (HF2.out.2.2 (fun j hj => J.out.2.2 j (by omega) hj))
              clear hr
              go_wp2
              go_ret2
              exact ⟨ret_two HQ.out.1 HQ.out.2.1, HQ.out.2.2⟩
end
end Go.Proofs.YtdkiegkgnimapabDoor.Sgg
