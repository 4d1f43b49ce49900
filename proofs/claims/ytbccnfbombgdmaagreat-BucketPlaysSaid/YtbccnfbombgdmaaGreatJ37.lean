/- Texts joined: Rk4. -/
import Derived.Test.YtbccnfbombgdmaaGreatJ36
/- The document's own buckets as a law holds them; Items. -/
set_option linter.unusedVariables false
set_option linter.unusedSimpArgs false
set_option maxRecDepth 8000
namespace Go.Proofs.YtbccnfbombgdmaaGreat
open Go.RowKit Go.Deep Math

def bxR (r first n : Nat) (tv : Value) (lo : Int) : List Value := [.pointer (some ⟨r, 0, none⟩), .int .i64 (first : Int), .int .i64 (n : Int), tv, .int .i64 lo]
structure BkR (w0 W : World) (s r : Nat) (G : List Nat) (S : Dv) (first n : Nat) (lo : Int) (tv : Value) (vs : List Value) (td : List (List (List UInt8))) : Prop where
  box : Blk W s (bxR r first n tv lo) 78
  dev : RfAt W r G S
  told : TdAt W w0.heap.size tv vs td
  len : td.length = n
  n1 : 0 < n
  n2 : n ≤ 256
  fit : first + n ≤ S.cs.length
  newG : ∀ q ∈ G, w0.heap.size ≤ q
  newS : w0.heap.size ≤ s
  sG : s ∉ G
  tG : ∀ q ∈ tdF tv vs, q ∉ G
  bel : Below w0.heap.size w0 W
  sml : ∀ t ∈ td, ∀ x ∈ t, x.length ≤ 1048000
section
variable {w0 W W' : World} {s r : Nat} {G : List Nat} {S S' : Dv} {first n : Nat} {lo : Int} {tv : Value} {vs : List Value} {td : List (List (List UInt8))}
theorem BkR.below (h : BkR w0 W s r G S first n lo tv vs td) (b : Below W.heap.size W W') : BkR w0 W' s r G S first n lo tv vs td :=
  ⟨h.box.same (b.block _ h.box.lt), h.dev.below b, h.told.same (fun q hq => b.block q (h.told.lt q hq).2.1), h.len, h.n1, h.n2, h.fit, h.newG, h.newS, h.sG, h.tG, h.bel.trans (b.mono h.bel.size), h.sml⟩
theorem BkR.read (h : BkR w0 W s r G S first n lo tv vs td) (hd : RfAt W' r G S') (hc : S'.cs.length = S.cs.length) (k : Keep G W W') : BkR w0 W' s r G S' first n lo tv vs td :=
  ⟨h.box.same (k.block _ h.box.lt h.sG), hd, h.told.same (fun q hq => k.block q (h.told.lt q hq).2.1 (h.tG q hq)), h.len, h.n1, h.n2, by rw [hc]; exact h.fit, h.newG, h.newS, h.sG, h.tG, h.bel.trans (k.below h.newG h.bel.size), h.sml⟩
theorem BkR.good (h : BkR w0 W s r G S first n lo tv vs td) : S.good := by obtain ⟨L, _, hI⟩ := h.dev; exact hI.good
theorem BkR.drew (h : BkR w0 W s r G S first n lo tv vs td) : BkR w0 W.drew s r G S first n lo tv vs td := h.below (Below.refl _ _).drew
theorem rdone_at (h : BkR w0 W s r G S first n lo tv vs td) : Calls Tryz.prog 38 #[.pointer (some ⟨s, 0, none⟩)] W fun e W' => e = .returned (.bool (S.losses != lo)) ∧ ∃ q, W' = W.drewN q := by
  obtain ⟨L, _, hI⟩ := h.dev
  exact rdone_any s r first n tv lo L S W h.box hI
theorem drewN_below (W : World) (q : Nat) : Below W.heap.size W (W.drewN q) := ⟨rfl, rfl, rfl, Nat.le_refl _, fun _ _ => rfl⟩

theorem two_of {l : List Value} (h : l.length = 2) : ∃ u v, l = [u, v] := by
  match l, h with
  | [u, v], _ => exact ⟨u, v, rfl⟩
theorem enter26 (args : Array Value) (w : World) : (callFunc 26 args).run Tryz.prog w = .ok (.enter 26 args) w := enters_of Tryz.func26 (by kernel_rfl) rfl args w
/-- All its blocks. -/
def ftR (s : Nat) (G : List Nat) (tv : Value) (vs : List Value) : List Nat := s :: (G ++ tdF tv vs)
theorem BkR.lt (h : BkR w0 W s r G S first n lo tv vs td) : ∀ q ∈ ftR s G tv vs, q < W.heap.size := fun q hq => by
  rcases List.mem_cons.1 hq with rfl | hq
  · exact h.box.lt
  · rcases List.mem_append.1 hq with hq | hq
    · exact h.dev.lt q hq
    · exact (h.told.lt q hq).2.1
theorem BkR.beside (h : BkR w0 W s r G S first n lo tv vs td) {F : List Nat} (k : Keep F W W') (hF : ∀ q ∈ F, w0.heap.size ≤ q ∧ q ∉ ftR s G tv vs) : BkR w0 W' s r G S first n lo tv vs td :=
  ⟨h.box.same (k.block _ h.box.lt (fun hf => (hF _ hf).2 (by simp [ftR]))), h.dev.same (fun q hq => k.block q (h.dev.lt q hq) (fun hf => (hF q hf).2 (by simp [ftR, hq]))), h.told.same (fun q hq => k.block q (h.told.lt q hq).2.1 (fun hf => (hF q hf).2 (by simp [ftR, hq]))), h.len, h.n1, h.n2, h.fit, h.newG, h.newS, h.sG, h.tG, h.bel.trans (k.below (fun q hq => (hF q hq).1) h.bel.size), h.sml⟩

theorem ritems_done (h : BkR w0 W s r G S first n lo tv vs td) (hL : S.losses ≠ lo) : Calls Tryz.prog 20 #[.pointer (some ⟨s, 0, none⟩)] W fun e W' => e = .returned (.tuple #[.slice none 0 0, .int .i64 4]) ∧ Below W.heap.size W W' := by
  have cD := hide (rdone_at h)
  have hne : (S.losses != lo) = true := by simpa using hL
  rw [hne] at cD
  clear h hne hL
  go_enter Tryz.func20, Tryz.ntmps20
  go_wp2_with (go_at_call 38; refine cD.out.mono ?_; rintro e w1 ⟨rfl, q, rfl⟩)
  go_ret2
  exact ⟨rfl, drewN_below _ _⟩

set_option maxHeartbeats 4000000 in
theorem ritems_ok (h : BkR w0 W s r G S first n lo tv vs td) (hL : S.losses = lo) (ho : S.off = false) : Calls Tryz.prog 20 #[.pointer (some ⟨s, 0, none⟩)] W fun e W' => ∃ v, e = .returned (.tuple #[v, .int .i64 0]) ∧ Row W' W.heap.size v (S.all first n) ∧ ∃ S', BkR w0 W' s r G S' first n lo tv vs td ∧ Like S S' ∧ Keep G W W' := by
  have cD := hide (rdone_at h)
  have hne : (S.losses != lo) = false := by simpa using hL
  rw [hne] at cD
  have H := hide h
  have HGD := hide h.good
  have HO := hide ho
  have hn2 := h.n2
  have hff : first ≤ 4096 := by have := h.fit; have := h.good.many; omega
  clear h hne hL ho
  go_enter Tryz.func20, Tryz.ntmps20
  go_wp2_with (go_at_call 38; refine cD.out.mono ?_; rintro e w1 ⟨rfl, q, rfl⟩)
  have H1 := hide (H.out.below (drewN_below W q))
  go_loopg [4, 5] n (fun kx s4 s5 wr => ∃ (k : Nat) (va : Option Addr) (vn vc : Nat), s4 = .slice va vn vc ∧ s5 = .int .i64 k ∧ k ≤ n ∧ n - k ≤ kx ∧ Hid (Row wr W.heap.size (.slice va vn vc) (S.all first k) ∧ ∃ S', BkR w0 wr s r G S' first n lo tv vs td ∧ Like S S' ∧ Keep G W wr))
  case atStart => exact ⟨0, none, 0, 0, rfl, rfl, Nat.zero_le _, by omega, Row.nil _ _, S, H1.out, Like.refl S, Keep.of_below (drewN_below W q)⟩
  case round =>
    obtain ⟨k, va, vn, vc, rfl, rfl, hkn, hkx, I⟩ := hrel
    obtain ⟨hrow, S1, hB, hlk, hK⟩ := I.out
    clear I
    have c0 := hB.box.cell (i := 0) rfl
    have c1 := hB.box.cell (i := 1) rfl
    have c2 := hB.box.cell (i := 2) rfl
    by_cases hlt : k < n
    · have hlt2 : (k : Int) < (n : Int) := by omega
      have hfk : ((first + k : Nat) : Int) = (first : Int) + (k : Int) := by omega
      have hfi : (first : Int) + (k : Int) ≤ 8192 := by omega
      have cL := hide (fun (V : World) (hV : RfAt V r G S1) => rlist_any r G S1 (first + k) (by have := hB.fit; omega) (by rw [hlk.off]; exact HO.out) V hV)
      have hwr : IntKind.i64.wrap ((first : Int) + (k : Int)) = (first : Int) + (k : Int) := by rw [IntKind.wrap_i64]; omega
      rw [hlk.its, hfk] at cL
      have HB := hide hB
      have HR := hide hrow
      have HLK := hide hlk
      have HK := hide hK
      clear hB hrow hlk hK hfk
      go_wp2_with fail
      obtain ⟨CI, hCI⟩ : ∃ CI : List Value → World → Prop, CI = fun us W' => match us with
        | [] => W' = wr.drew
        | [u] => Row W' wr.heap.size u (S.its (first + k)) ∧ ∃ S2, RfAt W' r G S2 ∧ Like S1 S2 ∧ Keep G wr W'
        | [u, v] => Row W' W.heap.size v (S.all first (k + 1)) ∧ ∃ S2, BkR w0 W' s r G S2 first n lo tv vs td ∧ Like S S2 ∧ Keep G W W'
        | [u, v, x] => x = v ∧ Row W' W.heap.size v (S.all first (k + 1)) ∧ ∃ S2, BkR w0 W' s r G S2 first n lo tv vs td ∧ Like S S2 ∧ Keep G W W'
        | _ => False := ⟨_, rfl⟩
      have HI0 : Hid (CI [] { wr with drawn := wr.drawn + 1 }) := by show CI [] _; rw [hCI]; rfl
      have HBX : Hid (∀ us w', CI us w' → Blk w' s (bxR r first n tv lo) 78) := fun us w' h => by
        rw [hCI] at h
        match us, h with
        | [], h => have h : w' = wr.drew := h; rw [h]; exact HB.out.drew.box
        | [u], h => obtain ⟨_, S2, h2, h3, h4⟩ := h; exact (HB.out.read h2 (by rw [h3.cs]) h4).box
        | [u, v], h => obtain ⟨_, S2, h2, _⟩ := h; exact h2.box
        | [u, v, x], h => obtain ⟨_, _, S2, h2, _⟩ := h; exact h2.box
      have HC0 : Hid (∀ us w', CI us w' → w'.cell? ⟨s, 0, none⟩ = some (.pointer (some ⟨r, 0, none⟩))) := fun us w' h => (HBX.out us w' h).cell (i := 0) rfl
      have HC1 : Hid (∀ us w', CI us w' → w'.cell? ⟨s, 1, none⟩ = some (.int .i64 (first : Int))) := fun us w' h => (HBX.out us w' h).cell (i := 1) rfl
      have HWR := hide hwr
      have HCL : Hid (∀ w', CI [] w' → Calls Tryz.prog 26 #[.pointer (some ⟨r, 0, none⟩), .int .i64 ((first : Int) + (k : Int))] w' fun e w2 => ∃ v, e = .returned v ∧ CI ([] ++ [v]) w2) := fun w' h => by
        rw [hCI] at h ⊢
        have h : w' = wr.drew := h
        subst h
        refine (cL.out _ HB.out.drew.dev).mono ?_
        rintro e w2 ⟨u, S2, rfl, h1, h2, h3, h4⟩
        exact ⟨u, rfl, h1, S2, h2, h3, (Keep.of_below (Below.refl _ wr).drew).trans h4 (fun x hx => .inl hx)⟩
      have HAP : Hid (∀ u w', CI [u] w' → ∃ v' w3, (Builtin.append_ #[45, 45] 45 #[.slice va vn vc, u]).run Tryz.prog w' = .ok v' w3 ∧ CI ([u] ++ [v']) w3) := fun u w' h => by
        rw [hCI] at h
        obtain ⟨h1, S2, h2, h3, h4⟩ := h
        have hBw : BkR w0 w' s r G S2 first n lo tv vs td := HB.out.read h2 (by rw [h3.cs]) h4
        have hR2 : Row w' W.heap.size (.slice va vn vc) (S.all first k) := HR.out.keep (fun q hq => h4.block q (HR.out.lt q hq).2 (fun hg => by have := (HR.out.lt q hq).1; have := H.out.dev.lt q hg; omega))
        have hits := Dv.its_all HGD.out (first + k)
        have hok : Oks (S.its (first + k)) := fun x hx => by
          have hg := (It.good_iff x).1 (hits.2 x hx).2
          exact ⟨(hits.2 x hx).1, by omega, by omega⟩
        have hle := all_len HGD.out first k
        have hl2 := its_len HGD.out (first + k)
        obtain ⟨v', w3, r1, r2, r3⟩ := run_app_row hR2 h1 hok (by omega) (Nat.le_trans HK.out.size h4.size)
        refine ⟨v', w3, r1, ?_⟩
        rw [hCI]
        have hk3 : Keep (Value.slice va vn vc).ownBlock.toList w' w3 := (Keep.refl _ w').grown r3 (fun q hq => .inl (by rw [hq]; simp))
        have off : ∀ q ∈ (Value.slice va vn vc).ownBlock.toList, W.heap.size ≤ q := fun q hq => (hR2.lt q (Option.mem_toList.1 hq)).1
        refine ⟨by rw [Dv.all_succ]; exact r2, S2, ?_, HLK.out.trans h3, (HK.out.trans h4 (fun x hx => .inl hx)).trans hk3 (fun x hx => .inr (off x hx))⟩
        refine hBw.beside hk3 (fun q hq => ⟨Nat.le_trans H.out.bel.size (off q hq), fun hf => ?_⟩)
        have h5 := H.out.lt q hf
        have h6 := off q hq
        omega
      have HFI : Hid (∀ u v w', CI [u, v] w' → CI ([u, v] ++ [v]) w') := fun u v w' h => by
        rw [hCI] at h ⊢
        exact ⟨rfl, h⟩
      have HEND : Hid (∀ us w', us.length = 3 → CI us w' → ∃ u v, us = [u, v, v] ∧ Row w' W.heap.size v (S.all first (k + 1)) ∧ ∃ S2, BkR w0 w' s r G S2 first n lo tv vs td ∧ Like S S2 ∧ Keep G W w') := fun us w' hl h => by
        match us, hl with
        | [u, v, x], _ =>
          rw [hCI] at h
          obtain ⟨rfl, h⟩ := h
          exact ⟨u, x, rfl, h⟩
      clear hCI
      refine wp_region_lin (by kernel_rfl) (by kernel_rfl) (fun jx => ([.slice va vn vc, .pointer (some ⟨s, 0, none⟩), .pointer (some ⟨s, 0, none⟩), .pointer (some ⟨s, 0, none⟩), .pointer (some ⟨r, 0, none⟩), .pointer (some ⟨s, 0, none⟩), .pointer (some ⟨s, 0, none⟩), .pointer (some ⟨s, 1, none⟩), .int .i64 (first : Int), .int .i64 (k : Int), .int .i64 ((first : Int) + (k : Int)), undef, undef, undef] : List Value).getD jx undef) [11, 12, 13] (by kernel_rfl) (by decide) (by decide) (CI) (HI0.out) ?_ ?_
      · intro jx ox hi us w' ev hc hul hbef haft hin hout hold hcst hfn
        have hltx : jx < 14 := by
          have := (Array.getElem?_eq_some_iff.1 hi).1
          simpa using this
        match jx, hltx with
        | 0, _ =>
          simp only [List.getElem?_toArray, List.getElem?_cons_zero, List.getElem?_cons_succ, Option.some.injEq] at hi
          subst hi
          have ha1 : us.length ≤ 1 := haft 1 12 rfl (by kernel_rfl)
          have ha2 : us.length ≤ 2 := haft 2 13 rfl (by kernel_rfl)
          have e0 : ev (.tmp 4) = .slice va vn vc := hold 4 13 (by kernel_rfl) (by kernel_rfl) (show (4 : Nat) < 30 by decide)
          refine ⟨fun mx hmx => absurd hmx (by simp [zpos]), fun _ => ?_⟩
          simp [execOp, e0, hcst, go_sem]
        | 1, _ =>
          simp only [List.getElem?_toArray, List.getElem?_cons_zero, List.getElem?_cons_succ, Option.some.injEq] at hi
          subst hi
          have ha2 : us.length ≤ 2 := haft 2 13 rfl (by kernel_rfl)
          have e0 : ev (.tmp 0) = .pointer (some ⟨s, 0, none⟩) := hout 0 (by kernel_rfl) (show (0 : Nat) < 30 by decide)
          refine ⟨fun mx hmx => absurd hmx (by simp [zpos]), fun _ => ?_⟩
          simp [execOp, e0, hcst, go_sem]
        | 2, _ =>
          simp only [List.getElem?_toArray, List.getElem?_cons_zero, List.getElem?_cons_succ, Option.some.injEq] at hi
          subst hi
          have ha2 : us.length ≤ 2 := haft 2 13 rfl (by kernel_rfl)
          have e0 : ev (.tmp 17) = .pointer (some ⟨s, 0, none⟩) := hin 17 1 ⟨1, .data⟩ (by kernel_rfl) (by simp) rfl rfl (show (17 : Nat) < 30 by decide)
          refine ⟨fun mx hmx => absurd hmx (by simp [zpos]), fun _ => ?_⟩
          simp [execOp, e0, hcst, go_sem]
        | 3, _ =>
          simp only [List.getElem?_toArray, List.getElem?_cons_zero, List.getElem?_cons_succ, Option.some.injEq] at hi
          subst hi
          have ha2 : us.length ≤ 2 := haft 2 13 rfl (by kernel_rfl)
          have e0 : ev (.tmp 18) = .pointer (some ⟨s, 0, none⟩) := hin 18 2 ⟨2, .data⟩ (by kernel_rfl) (by simp) rfl rfl (show (18 : Nat) < 30 by decide)
          refine ⟨fun mx hmx => absurd hmx (by simp [zpos]), fun _ => ?_⟩
          simp [execOp, e0, hcst, go_sem]
        | 4, _ =>
          simp only [List.getElem?_toArray, List.getElem?_cons_zero, List.getElem?_cons_succ, Option.some.injEq] at hi
          subst hi
          have ha0 : us.length ≤ 0 := haft 0 11 rfl (by kernel_rfl)
          have ha2 : us.length ≤ 2 := haft 2 13 rfl (by kernel_rfl)
          have e0 : ev (.tmp 19) = .pointer (some ⟨s, 0, none⟩) := hin 19 3 ⟨3, .data⟩ (by kernel_rfl) (by simp) rfl rfl (show (19 : Nat) < 30 by decide)
          refine ⟨fun mx hmx => absurd hmx (by simp [zpos]), fun _ => ?_⟩
          have q := HC0.out us w' hc
          simp [execOp, e0, hcst, go_sem, q]
        | 5, _ =>
          simp only [List.getElem?_toArray, List.getElem?_cons_zero, List.getElem?_cons_succ, Option.some.injEq] at hi
          subst hi
          have ha2 : us.length ≤ 2 := haft 2 13 rfl (by kernel_rfl)
          have e0 : ev (.tmp 0) = .pointer (some ⟨s, 0, none⟩) := hout 0 (by kernel_rfl) (show (0 : Nat) < 30 by decide)
          refine ⟨fun mx hmx => absurd hmx (by simp [zpos]), fun _ => ?_⟩
          simp [execOp, e0, hcst, go_sem]
        | 6, _ =>
          simp only [List.getElem?_toArray, List.getElem?_cons_zero, List.getElem?_cons_succ, Option.some.injEq] at hi
          subst hi
          have ha2 : us.length ≤ 2 := haft 2 13 rfl (by kernel_rfl)
          have e0 : ev (.tmp 21) = .pointer (some ⟨s, 0, none⟩) := hin 21 5 ⟨5, .data⟩ (by kernel_rfl) (by simp) rfl rfl (show (21 : Nat) < 30 by decide)
          refine ⟨fun mx hmx => absurd hmx (by simp [zpos]), fun _ => ?_⟩
          simp [execOp, e0, hcst, go_sem]
        | 7, _ =>
          simp only [List.getElem?_toArray, List.getElem?_cons_zero, List.getElem?_cons_succ, Option.some.injEq] at hi
          subst hi
          have ha2 : us.length ≤ 2 := haft 2 13 rfl (by kernel_rfl)
          have e0 : ev (.tmp 22) = .pointer (some ⟨s, 0, none⟩) := hin 22 6 ⟨6, .data⟩ (by kernel_rfl) (by simp) rfl rfl (show (22 : Nat) < 30 by decide)
          refine ⟨fun mx hmx => absurd hmx (by simp [zpos]), fun _ => ?_⟩
          simp [execOp, e0, hcst, go_sem]
        | 8, _ =>
          simp only [List.getElem?_toArray, List.getElem?_cons_zero, List.getElem?_cons_succ, Option.some.injEq] at hi
          subst hi
          have ha2 : us.length ≤ 2 := haft 2 13 rfl (by kernel_rfl)
          have e0 : ev (.tmp 23) = .pointer (some ⟨s, 1, none⟩) := hin 23 7 ⟨7, .data⟩ (by kernel_rfl) (by simp) rfl rfl (show (23 : Nat) < 30 by decide)
          refine ⟨fun mx hmx => absurd hmx (by simp [zpos]), fun _ => ?_⟩
          have q := HC1.out us w' hc
          simp [execOp, e0, hcst, go_sem, q]
        | 9, _ =>
          simp only [List.getElem?_toArray, List.getElem?_cons_zero, List.getElem?_cons_succ, Option.some.injEq] at hi
          subst hi
          have ha2 : us.length ≤ 2 := haft 2 13 rfl (by kernel_rfl)
          have e0 : ev (.tmp 5) = .int .i64 (k : Int) := hout 5 (by kernel_rfl) (show (5 : Nat) < 30 by decide)
          refine ⟨fun mx hmx => absurd hmx (by simp [zpos]), fun _ => ?_⟩
          simp [execOp, e0, hcst, go_sem]
        | 10, _ =>
          simp only [List.getElem?_toArray, List.getElem?_cons_zero, List.getElem?_cons_succ, Option.some.injEq] at hi
          subst hi
          have ha0 : us.length ≤ 0 := haft 0 11 rfl (by kernel_rfl)
          have ha2 : us.length ≤ 2 := haft 2 13 rfl (by kernel_rfl)
          have e0 : ev (.tmp 24) = .int .i64 (first : Int) := hin 24 8 ⟨8, .data⟩ (by kernel_rfl) (by simp) rfl rfl (show (24 : Nat) < 30 by decide)
          have e1 : ev (.tmp 25) = .int .i64 (k : Int) := hin 25 9 ⟨9, .data⟩ (by kernel_rfl) (by simp) rfl rfl (show (25 : Nat) < 30 by decide)
          refine ⟨fun mx hmx => absurd hmx (by simp [zpos]), fun _ => ?_⟩
          have q := HWR.out
          simp [execOp, e0, e1, hcst, go_sem, q]
        | 11, _ =>
          simp only [List.getElem?_toArray, List.getElem?_cons_zero, List.getElem?_cons_succ, Option.some.injEq] at hi
          subst hi
          have ha1 : us.length ≤ 1 := haft 1 12 rfl (by kernel_rfl)
          have ha2 : us.length ≤ 2 := haft 2 13 rfl (by kernel_rfl)
          have e0 : ev (.tmp 20) = .pointer (some ⟨r, 0, none⟩) := hin 20 4 ⟨4, .data⟩ (by kernel_rfl) (by simp) rfl rfl (show (20 : Nat) < 30 by decide)
          have e1 : ev (.tmp 26) = .int .i64 ((first : Int) + (k : Int)) := hin 26 10 ⟨10, .data⟩ (by kernel_rfl) (by simp) rfl rfl (show (26 : Nat) < 30 by decide)
          refine ⟨fun mx hmx hus => ?_, fun hno => absurd hno (by decide)⟩
          obtain rfl : 0 = mx := Option.some.inj hmx
          have h0 : us = [] := List.eq_nil_of_length_eq_zero hus
          subst h0
          refine .inr ⟨26, #[.pointer (some ⟨r, 0, none⟩), .int .i64 ((first : Int) + (k : Int))], ?_, HCL.out w' hc⟩
          have ef := hfn 26
          simp [execOp, resolve, invoke, ef, hcst, e0, e1, Result.andThen]
          exact enter26 _ _
        | 12, _ =>
          simp only [List.getElem?_toArray, List.getElem?_cons_zero, List.getElem?_cons_succ, Option.some.injEq] at hi
          subst hi
          have hb0 : 0 < us.length := hbef 0 11 rfl (by kernel_rfl)
          have ha2 : us.length ≤ 2 := haft 2 13 rfl (by kernel_rfl)
          have e0 : ev (.tmp 16) = .slice va vn vc := hin 16 0 ⟨0, .data⟩ (by kernel_rfl) (by simp) rfl rfl (show (16 : Nat) < 30 by decide)
          have e1 : ev (.tmp 27) = us.getD 0 undef := hin 27 11 ⟨11, .data⟩ (by kernel_rfl) (by simp) rfl rfl (show (27 : Nat) < 30 by decide)
          refine ⟨fun mx hmx hus => ?_, fun hno => absurd hno (by decide)⟩
          obtain rfl : 1 = mx := Option.some.inj hmx
          obtain ⟨u, rfl⟩ := List.length_eq_one_iff.1 hus
          obtain ⟨v', w3, hr, hq⟩ := HAP.out u w' hc
          refine .inl ⟨v', w3, ?_, hq⟩
          simp only [List.getD_cons_zero] at e1
          simp [execOp, e0, e1, hcst, resolve, invoke, builtin, hr, Result.andThen]
        | 13, _ =>
          simp only [List.getElem?_toArray, List.getElem?_cons_zero, List.getElem?_cons_succ, Option.some.injEq] at hi
          subst hi
          have hb0 : 0 < us.length := hbef 0 11 rfl (by kernel_rfl)
          have hb1 : 1 < us.length := hbef 1 12 rfl (by kernel_rfl)
          have e0 : ev (.tmp 28) = us.getD 1 undef := hin 28 12 ⟨12, .data⟩ (by kernel_rfl) (by simp) rfl rfl (show (28 : Nat) < 30 by decide)
          refine ⟨fun mx hmx hus => ?_, fun hno => absurd hno (by decide)⟩
          obtain rfl : 2 = mx := Option.some.inj hmx
          obtain ⟨u, v, rfl⟩ := two_of hus
          refine .inl ⟨v, w', ?_, HFI.out u v w' hc⟩
          simp only [List.getD_cons_succ, List.getD_cons_zero] at e0
          simp [execOp, e0, hcst, go_sem]
      · intro us w7 husl hc
        obtain ⟨u, v, rfl, h1, S2, h2, h3, h4⟩ := HEND.out us w7 husl hc
        obtain ⟨va', vc', rfl⟩ := h1.sl
        rw [lexF_same (V' := fun jx => ([.slice va vn vc, .pointer (some ⟨s, 0, none⟩), .pointer (some ⟨s, 0, none⟩), .pointer (some ⟨s, 0, none⟩), .pointer (some ⟨r, 0, none⟩), .pointer (some ⟨s, 0, none⟩), .pointer (some ⟨s, 0, none⟩), .pointer (some ⟨s, 1, none⟩), .int .i64 (first : Int), .int .i64 (k : Int), .int .i64 ((first : Int) + (k : Int)), u, (.slice va' (S.all first (k + 1)).length vc'), (.slice va' (S.all first (k + 1)).length vc')] : List Value).getD jx undef) _ 0 _ (fun jx _ hj => by
          have hlt : jx < 14 := by simpa using hj
          match jx, hlt with
          | 0, _ => rfl
          | 1, _ => rfl
          | 2, _ => rfl
          | 3, _ => rfl
          | 4, _ => rfl
          | 5, _ => rfl
          | 6, _ => rfl
          | 7, _ => rfl
          | 8, _ => rfl
          | 9, _ => rfl
          | 10, _ => rfl
          | 11, _ => rfl
          | 12, _ => rfl
          | 13, _ => rfl)]
        simp only [lexF, Act.put, List.setIfInBounds_toArray, List.set_cons_succ, List.set_cons_zero, List.getD_cons_succ, List.getD_cons_zero]
        have O1 := hide h1
        have O2 := hide h2
        have O3 := hide h3
        have O4 := hide h4
        clear h1 h2 h3 h4 hc
        go_wp2_with fail
        go_roundg (n - (k + 1))
        case measure => omega
        case rel => exact ⟨k + 1, va', _, vc', rfl, rfl, by omega, by omega, O1.out, S2, O2.out, O3.out, O4.out⟩
    · obtain rfl : k = n := by omega
      have hlt2 : ¬ (k : Int) < (k : Int) := by omega
      have HB := hide hB
      have HR := hide hrow
      have HLK := hide hlk
      have HK := hide hK
      clear hB hrow hlk hK
      go_wp2_with fail
      go_ret2
      exact ⟨_, rfl, HR.out, S1, HB.out, HLK.out, HK.out⟩
end
end Go.Proofs.YtbccnfbombgdmaaGreat
