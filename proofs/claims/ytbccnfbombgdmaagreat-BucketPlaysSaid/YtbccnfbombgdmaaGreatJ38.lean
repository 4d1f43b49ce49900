/- Texts joined: Rk5. -/
import Derived.Test.YtbccnfbombgdmaaGreatJ37
/- The document's own Drop. -/
set_option linter.unusedVariables false
set_option linter.unusedSimpArgs false
set_option maxRecDepth 8000
namespace Go.Proofs.YtbccnfbombgdmaaGreat
open Go.RowKit Go.Deep Math

theorem enter43 (args : Array Value) (w : World) : (callFunc 43 args).run Tryz.prog w = .ok (.enter 43 args) w := enters_of Tryz.func43 (by kernel_rfl) rfl args w
section
variable {w0 W W' : World} {s r : Nat} {G : List Nat} {S S' : Dv} {first n : Nat} {lo : Int} {tv : Value} {vs : List Value} {td : List (List (List UInt8))}
theorem rof_at (h : BkR w0 W s r G S first n lo tv vs td) (key : List UInt8) (hk : key.length ≤ maxLen) : Calls Tryz.prog 39 #[.pointer (some ⟨s, 0, none⟩), .string (txt key)] W fun e W' => e = .returned (.int .i64 (bkt key n : Nat)) ∧ ∃ q, W' = W.drewN q :=
  rof_any s r first n tv lo key hk h.n1 (by have := h.n2; omega) W h.box
theorem rdrop_done (h : BkR w0 W s r G S first n lo tv vs td) (hL : S.losses ≠ lo) (key : ByteArray) : Calls Tryz.prog 15 #[.pointer (some ⟨s, 0, none⟩), .string key] W fun e W' => e = .returned (.int .i64 4) ∧ Below W.heap.size W W' := by
  have cD := hide (rdone_at h)
  have hne : (S.losses != lo) = true := by simpa using hL
  rw [hne] at cD
  clear h hne hL
  go_enter Tryz.func15, Tryz.ntmps15
  go_wp2_with (go_at_call 38; refine cD.out.mono ?_; rintro e w1 ⟨rfl, q, rfl⟩)
  go_ret
  exact ⟨rfl, drewN_below _ _⟩
theorem its_oks (hg : S.good) (k : Nat) : Oks (S.its k) := fun x hx => by
  have hits := Dv.its_all hg k
  have h1 := (It.good_iff x).1 (hits.2 x hx).2
  exact ⟨(hits.2 x hx).1, by omega, by omega⟩
theorem Row.raw {w : World} {base : Nat} {v : Value} {xs : List It} (h : Row w base v xs) (ho : Oks xs) : ∃ a c, v = .slice a xs.length c ∧ RawAt w a xs.length xs ∧ ItsAt w a xs.length xs := by
  obtain ⟨a, c, hv, hI, _⟩ := h.its ho
  exact ⟨a, c, hv, ⟨hI.len, fun x hx => (hI.fits x hx).1, hI.cell⟩, hI⟩
def DropQ (w0 : World) (s r : Nat) (G : List Nat) (S : Dv) (first n : Nat) (lo : Int) (tv : Value) (vs : List Value) (td : List (List (List UInt8))) (key : List UInt8) (W : World) (e : Ending) (W' : World) : Prop :=
  ∃ S2, Like S S2 ∧ Keep G W W' ∧
    (((S.its (first + bkt key n)).filter (notKey key)).length = (S.its (first + bkt key n)).length → e = .returned (.int .i64 5) ∧ BkR w0 W' s r G S2 first n lo tv vs td) ∧
    (((S.its (first + bkt key n)).filter (notKey key)).length ≠ (S.its (first + bkt key n)).length → e = .returned (.int .i64 (S2.writeErr ((first + bkt key n : Nat) : Int) (pgB ((S.its (first + bkt key n)).filter (notKey key))))) ∧ BkR w0 W' s r G (S2.writeDo ((first + bkt key n : Nat) : Int) (pgB ((S.its (first + bkt key n)).filter (notKey key)))) first n lo tv vs td)
theorem write_len (S : Dv) (p : Int) (b : ByteArray) : (S.writeDo p b).cs.length = S.cs.length := by
  have hput : ∀ (p : Int) (g : Pg), (S.putDo p g).cs.length = S.cs.length := fun p g => by
    unfold Dv.putDo
    split
    · rfl
    · split
      · rw [S.used_cs]
      · show (putAt _ _ _).length = _; rw [putAt_length]
  unfold Dv.writeDo
  split
  · rfl
  · exact hput _ _
set_option maxHeartbeats 4000000 in
theorem rdrop_ok (h : BkR w0 W s r G S first n lo tv vs td) (hL : S.losses = lo) (ho : S.off = false) (key : List UInt8) (hk : key.length ≤ maxLen) :
    Calls Tryz.prog 15 #[.pointer (some ⟨s, 0, none⟩), .string (txt key)] W (DropQ w0 s r G S first n lo tv vs td key W) := by
  have cD := hide (rdone_at h)
  have hne : (S.losses != lo) = false := by simpa using hL
  rw [hne] at cD
  have H := hide h
  have HGD := hide h.good
  have hn2 := h.n2
  have hff : first ≤ 4096 := by have := h.fit; have := h.good.many; omega
  obtain ⟨b, hb⟩ : ∃ b, b = bkt key n := ⟨_, rfl⟩
  have hbn : b < n := by rw [hb]; exact bkt_lt key n h.n1
  have cO := hide (fun q => rof_at (h.below (drewN_below W q)) key hk)
  have cL := hide (fun (V : World) (hV : RfAt V r G S) => rlist_any r G S (first + b) (by have := h.fit; omega) ho V hV)
  have hfb : ((first + b : Nat) : Int) = (first : Int) + (b : Int) := by omega
  have hfi : (first : Int) + (b : Int) ≤ 8192 := by omega
  have hwr : IntKind.i64.wrap ((first : Int) + (b : Int)) = (first : Int) + (b : Int) := by rw [IntKind.wrap_i64]; omega
  unfold DropQ
  rw [← hb] at cO ⊢
  rw [hfb] at cL ⊢
  obtain ⟨ys, hys⟩ : ∃ ys, ys = (S.its (first + b)).filter (notKey key) := ⟨_, rfl⟩
  obtain ⟨xl, hxl⟩ : ∃ xl, xl = (S.its (first + b)).length := ⟨_, rfl⟩
  obtain ⟨tp, htp⟩ : ∃ tp, tp = pgB ys := ⟨_, rfl⟩
  rw [← hys, ← hxl, ← htp]
  have HYS := hide hys
  have HXL := hide hxl
  have HTP := hide htp
  have HWR := hide hwr
  have hits := Dv.its_all h.good (first + b)
  have hil := its_len h.good (first + b)
  have hoks := its_oks h.good (first + b)
  have HBK := hide hb
  clear h hne hL ho hwr hb hys hxl htp
  go_enter Tryz.func15, Tryz.ntmps15
  go_wp2_with (first
    | (go_at_call 38; refine cD.out.mono ?_; rintro e w1 ⟨rfl, q, rfl⟩)
    | (go_at_call 39; refine (cO.out _).mono ?_; rintro e w2 ⟨rfl, q2, rfl⟩))
  have hbw : Below W.heap.size W (W.drewN (q + q2)) := drewN_below _ _
  have HB := hide (H.out.below hbw)
  have HK0 := hide (Keep.of_below (F := G) hbw)
  generalize W.drewN (q + q2) = w1 at *
  obtain ⟨CI, hCI⟩ : ∃ CI : List Value → World → Prop, CI = fun us W' => match us with
    | [] => W' = w1.drew
    | [u] => Row W' w1.heap.size u (S.its (first + b)) ∧ ∃ S2, RfAt W' r G S2 ∧ Like S S2 ∧ Keep G w1 W'
    | [u, v] => v = u ∧ Row W' w1.heap.size u (S.its (first + b)) ∧ ∃ S2, RfAt W' r G S2 ∧ Like S S2 ∧ Keep G w1 W'
    | _ => False := ⟨_, rfl⟩
  have HI0 : Hid (CI [] { w1 with drawn := w1.drawn + 1 }) := by show CI [] _; rw [hCI]; rfl
  have HBX : Hid (∀ us w', CI us w' → Blk w' s (bxR r first n tv lo) 78) := fun us w' h => by
    rw [hCI] at h
    match us, h with
    | [], h => have h : w' = w1.drew := h; rw [h]; exact HB.out.drew.box
    | [u], h => obtain ⟨_, S2, h2, h3, h4⟩ := h; exact (HB.out.read h2 (by rw [h3.cs]) h4).box
    | [u, v], h => obtain ⟨_, _, S2, h2, h3, h4⟩ := h; exact (HB.out.read h2 (by rw [h3.cs]) h4).box
  have HCL : Hid (∀ w', CI [] w' → Calls Tryz.prog 26 #[.pointer (some ⟨r, 0, none⟩), .int .i64 ((first : Int) + (b : Int))] w' fun e w2 => ∃ v, e = .returned v ∧ CI ([] ++ [v]) w2) := fun w' h => by
    rw [hCI] at h ⊢
    have h : w' = w1.drew := h
    subst h
    refine (cL.out _ HB.out.drew.dev).mono ?_
    rintro e w2 ⟨u, S2, rfl, h1, h2, h3, h4⟩
    exact ⟨u, rfl, h1, S2, h2, h3, (Keep.of_below (Below.refl _ w1).drew).trans h4 (fun x hx => .inl hx)⟩
  have HFI : Hid (∀ u w', CI [u] w' → CI ([u] ++ [u]) w') := fun u w' h => by
    rw [hCI] at h ⊢
    exact ⟨rfl, h⟩
  have HEND : Hid (∀ us w', us.length = 2 → CI us w' → ∃ a c, us = [.slice a (S.its (first + b)).length c, .slice a (S.its (first + b)).length c] ∧ Row w' w1.heap.size (.slice a (S.its (first + b)).length c) (S.its (first + b)) ∧ ∃ S2, RfAt w' r G S2 ∧ Like S S2 ∧ Keep G w1 w') := fun us w' hl h => by
    match us, hl with
    | [u, v], _ =>
      rw [hCI] at h
      obtain ⟨rfl, h1, h⟩ := h
      obtain ⟨a, c, rfl⟩ := h1.sl
      exact ⟨a, c, rfl, h1, h⟩
  clear hCI
  refine wp_region_lin (by kernel_rfl) (by kernel_rfl) (fun jx => ([.pointer (some ⟨s, 0, none⟩), .pointer (some ⟨s, 0, none⟩), .pointer (some ⟨s, 0, none⟩), .pointer (some ⟨r, 0, none⟩), .pointer (some ⟨s, 0, none⟩), .pointer (some ⟨s, 0, none⟩), .pointer (some ⟨s, 1, none⟩), .int .i64 (first : Int), .int .i64 (b : Int), .int .i64 ((first : Int) + (b : Int)), undef, undef] : List Value).getD jx undef) [10, 11] (by kernel_rfl) (by decide) (by decide) (CI) (HI0.out) ?_ ?_
  · intro jx ox hi us w' ev hc hul hbef haft hin hout hold hcst hfn
    have hltx : jx < 12 := by
      have := (Array.getElem?_eq_some_iff.1 hi).1
      simpa using this
    match jx, hltx with
    | 0, _ =>
      simp only [List.getElem?_toArray, List.getElem?_cons_zero, List.getElem?_cons_succ, Option.some.injEq] at hi
      subst hi
      have ha1 : us.length ≤ 1 := haft 1 11 rfl (by kernel_rfl)
      have e0 : ev (.tmp 0) = .pointer (some ⟨s, 0, none⟩) := hout 0 (by kernel_rfl) (show (0 : Nat) < 51 by decide)
      refine ⟨fun mx hmx => absurd hmx (by simp [zpos]), fun _ => ?_⟩
      simp [execOp, e0, hcst, go_sem]
    | 1, _ =>
      simp only [List.getElem?_toArray, List.getElem?_cons_zero, List.getElem?_cons_succ, Option.some.injEq] at hi
      subst hi
      have ha1 : us.length ≤ 1 := haft 1 11 rfl (by kernel_rfl)
      have e0 : ev (.tmp 15) = .pointer (some ⟨s, 0, none⟩) := hin 15 0 ⟨0, .data⟩ (by kernel_rfl) (by simp) rfl rfl (show (15 : Nat) < 51 by decide)
      refine ⟨fun mx hmx => absurd hmx (by simp [zpos]), fun _ => ?_⟩
      simp [execOp, e0, hcst, go_sem]
    | 2, _ =>
      simp only [List.getElem?_toArray, List.getElem?_cons_zero, List.getElem?_cons_succ, Option.some.injEq] at hi
      subst hi
      have ha1 : us.length ≤ 1 := haft 1 11 rfl (by kernel_rfl)
      have e0 : ev (.tmp 16) = .pointer (some ⟨s, 0, none⟩) := hin 16 1 ⟨1, .data⟩ (by kernel_rfl) (by simp) rfl rfl (show (16 : Nat) < 51 by decide)
      refine ⟨fun mx hmx => absurd hmx (by simp [zpos]), fun _ => ?_⟩
      simp [execOp, e0, hcst, go_sem]
    | 3, _ =>
      simp only [List.getElem?_toArray, List.getElem?_cons_zero, List.getElem?_cons_succ, Option.some.injEq] at hi
      subst hi
      have ha0 : us.length ≤ 0 := haft 0 10 rfl (by kernel_rfl)
      have ha1 : us.length ≤ 1 := haft 1 11 rfl (by kernel_rfl)
      have e0 : ev (.tmp 17) = .pointer (some ⟨s, 0, none⟩) := hin 17 2 ⟨2, .data⟩ (by kernel_rfl) (by simp) rfl rfl (show (17 : Nat) < 51 by decide)
      refine ⟨fun mx hmx => absurd hmx (by simp [zpos]), fun _ => ?_⟩
      have q := (HBX.out us w' hc).cell (i := 0) rfl
      simp [execOp, e0, hcst, go_sem, q, bxR]
    | 4, _ =>
      simp only [List.getElem?_toArray, List.getElem?_cons_zero, List.getElem?_cons_succ, Option.some.injEq] at hi
      subst hi
      have ha1 : us.length ≤ 1 := haft 1 11 rfl (by kernel_rfl)
      have e0 : ev (.tmp 0) = .pointer (some ⟨s, 0, none⟩) := hout 0 (by kernel_rfl) (show (0 : Nat) < 51 by decide)
      refine ⟨fun mx hmx => absurd hmx (by simp [zpos]), fun _ => ?_⟩
      simp [execOp, e0, hcst, go_sem]
    | 5, _ =>
      simp only [List.getElem?_toArray, List.getElem?_cons_zero, List.getElem?_cons_succ, Option.some.injEq] at hi
      subst hi
      have ha1 : us.length ≤ 1 := haft 1 11 rfl (by kernel_rfl)
      have e0 : ev (.tmp 19) = .pointer (some ⟨s, 0, none⟩) := hin 19 4 ⟨4, .data⟩ (by kernel_rfl) (by simp) rfl rfl (show (19 : Nat) < 51 by decide)
      refine ⟨fun mx hmx => absurd hmx (by simp [zpos]), fun _ => ?_⟩
      simp [execOp, e0, hcst, go_sem]
    | 6, _ =>
      simp only [List.getElem?_toArray, List.getElem?_cons_zero, List.getElem?_cons_succ, Option.some.injEq] at hi
      subst hi
      have ha1 : us.length ≤ 1 := haft 1 11 rfl (by kernel_rfl)
      have e0 : ev (.tmp 20) = .pointer (some ⟨s, 0, none⟩) := hin 20 5 ⟨5, .data⟩ (by kernel_rfl) (by simp) rfl rfl (show (20 : Nat) < 51 by decide)
      refine ⟨fun mx hmx => absurd hmx (by simp [zpos]), fun _ => ?_⟩
      simp [execOp, e0, hcst, go_sem]
    | 7, _ =>
      simp only [List.getElem?_toArray, List.getElem?_cons_zero, List.getElem?_cons_succ, Option.some.injEq] at hi
      subst hi
      have ha1 : us.length ≤ 1 := haft 1 11 rfl (by kernel_rfl)
      have e0 : ev (.tmp 21) = .pointer (some ⟨s, 1, none⟩) := hin 21 6 ⟨6, .data⟩ (by kernel_rfl) (by simp) rfl rfl (show (21 : Nat) < 51 by decide)
      refine ⟨fun mx hmx => absurd hmx (by simp [zpos]), fun _ => ?_⟩
      have q := (HBX.out us w' hc).cell (i := 1) rfl
      simp [execOp, e0, hcst, go_sem, q, bxR]
    | 8, _ =>
      simp only [List.getElem?_toArray, List.getElem?_cons_zero, List.getElem?_cons_succ, Option.some.injEq] at hi
      subst hi
      have ha1 : us.length ≤ 1 := haft 1 11 rfl (by kernel_rfl)
      have e0 : ev (.tmp 5) = .int .i64 (b : Int) := hout 5 (by kernel_rfl) (show (5 : Nat) < 51 by decide)
      refine ⟨fun mx hmx => absurd hmx (by simp [zpos]), fun _ => ?_⟩
      simp [execOp, e0, hcst, go_sem]
    | 9, _ =>
      simp only [List.getElem?_toArray, List.getElem?_cons_zero, List.getElem?_cons_succ, Option.some.injEq] at hi
      subst hi
      have ha0 : us.length ≤ 0 := haft 0 10 rfl (by kernel_rfl)
      have ha1 : us.length ≤ 1 := haft 1 11 rfl (by kernel_rfl)
      have e0 : ev (.tmp 22) = .int .i64 (first : Int) := hin 22 7 ⟨7, .data⟩ (by kernel_rfl) (by simp) rfl rfl (show (22 : Nat) < 51 by decide)
      have e1 : ev (.tmp 23) = .int .i64 (b : Int) := hin 23 8 ⟨8, .data⟩ (by kernel_rfl) (by simp) rfl rfl (show (23 : Nat) < 51 by decide)
      refine ⟨fun mx hmx => absurd hmx (by simp [zpos]), fun _ => ?_⟩
      have q := HWR.out
      simp [execOp, e0, e1, hcst, go_sem, q]
    | 10, _ =>
      simp only [List.getElem?_toArray, List.getElem?_cons_zero, List.getElem?_cons_succ, Option.some.injEq] at hi
      subst hi
      have ha1 : us.length ≤ 1 := haft 1 11 rfl (by kernel_rfl)
      have e0 : ev (.tmp 18) = .pointer (some ⟨r, 0, none⟩) := hin 18 3 ⟨3, .data⟩ (by kernel_rfl) (by simp) rfl rfl (show (18 : Nat) < 51 by decide)
      have e1 : ev (.tmp 24) = .int .i64 ((first : Int) + (b : Int)) := hin 24 9 ⟨9, .data⟩ (by kernel_rfl) (by simp) rfl rfl (show (24 : Nat) < 51 by decide)
      refine ⟨fun mx hmx hus => ?_, fun hno => absurd hno (by decide)⟩
      obtain rfl : 0 = mx := Option.some.inj hmx
      have h0 : us = [] := List.eq_nil_of_length_eq_zero hus
      subst h0
      refine .inr ⟨26, #[.pointer (some ⟨r, 0, none⟩), .int .i64 ((first : Int) + (b : Int))], ?_, HCL.out w' hc⟩
      have ef := hfn 26
      simp [execOp, resolve, invoke, ef, hcst, e0, e1, Result.andThen]
      exact enter26 _ _
    | 11, _ =>
      simp only [List.getElem?_toArray, List.getElem?_cons_zero, List.getElem?_cons_succ, Option.some.injEq] at hi
      subst hi
      have hb0 : 0 < us.length := hbef 0 10 rfl (by kernel_rfl)
      have e0 : ev (.tmp 25) = us.getD 0 undef := hin 25 10 ⟨10, .data⟩ (by kernel_rfl) (by simp) rfl rfl (show (25 : Nat) < 51 by decide)
      refine ⟨fun mx hmx hus => ?_, fun hno => absurd hno (by decide)⟩
      obtain rfl : 1 = mx := Option.some.inj hmx
      obtain ⟨u, rfl⟩ := List.length_eq_one_iff.1 hus
      refine .inl ⟨u, w', ?_, HFI.out u w' hc⟩
      simp only [List.getD_cons_zero] at e0
      simp [execOp, e0, hcst, go_sem]
  · intro us w7 husl hc
    obtain ⟨a, c, rfl, h1, S2, h2, h3, h4⟩ := HEND.out us w7 husl hc
    rw [lexF_same (V' := fun jx => ([.pointer (some ⟨s, 0, none⟩), .pointer (some ⟨s, 0, none⟩), .pointer (some ⟨s, 0, none⟩), .pointer (some ⟨r, 0, none⟩), .pointer (some ⟨s, 0, none⟩), .pointer (some ⟨s, 0, none⟩), .pointer (some ⟨s, 1, none⟩), .int .i64 (first : Int), .int .i64 (b : Int), .int .i64 ((first : Int) + (b : Int)), (.slice a (S.its (first + b)).length c), (.slice a (S.its (first + b)).length c)] : List Value).getD jx undef) _ 0 _ (fun jx _ hj => by
      have hlt : jx < 12 := by simpa using hj
      match jx, hlt with
      | 0, _ => rfl
      | 1, _ => rfl
      | 2, _ => rfl
      | 3, _ => rfl
      | 4, _ => rfl
      | 5, _ => rfl
      | 6, _ => rfl
      | 7, _ => rfl
      | 8, _ => rfl
      | 9, _ => rfl
      | 10, _ => rfl
      | 11, _ => rfl)]
    simp only [lexF, Act.put, List.setIfInBounds_toArray, List.set_cons_succ, List.set_cons_zero, List.getD_cons_succ, List.getD_cons_zero]
    have hB7 := hide (HB.out.read h2 (by rw [h3.cs]) h4)
    obtain ⟨a', c', hav, _, hia⟩ := h1.raw hoks
    simp only [Value.slice.injEq] at hav
    obtain ⟨rfl, _, rfl⟩ := hav
    have cW := hide (without_any a (S.its (first + b)).length c (S.its (first + b)) key (by omega) w7 hia)
    have K7 := hide (HK0.out.trans h4 (fun x hx => .inl hx))
    have L7 := hide h3
    have hfl := List.length_filter_le (notKey key) (S.its (first + b))
    have hft : total ((S.its (first + b)).filter (notKey key)) ≤ 384 := Nat.le_trans (total_filter _ _) hits.1
    have hfg : ∀ x ∈ (S.its (first + b)).filter (notKey key), x.fits ∧ x.good = true := fun x hx => hits.2 x (List.mem_filter.1 hx).1
    have hfo : Oks ((S.its (first + b)).filter (notKey key)) := fun x hx => hoks x (List.mem_filter.1 hx).1
    rw [← HYS.out] at cW hfl hft hfg hfo
    rw [← HXL.out] at hil hfl cW ⊢
    clear h1 h2 h3 h4 hc hia HEND HFI HCL HBX hits hoks
    go_wp2_with fail
    refine cW.out.mono ?_
    rintro e w8 ⟨va, vn, vc, rfl, hvn, hrw, b8⟩
    subst hvn
    obtain ⟨a8, c8, hav8, hraw, _⟩ := hrw.raw hfo
    simp only [Value.slice.injEq] at hav8
    obtain ⟨rfl, _, rfl⟩ := hav8
    have B8 := hide (hB7.out.below b8)
    have K8 := hide (K7.out.trans (Keep.of_below b8) (fun x hx => .inl hx))
    have cY := hide (refLay_any va ys.length vc ys 384 (by omega) (by omega) (by omega) w8 hraw)
    have hlay : layS ys 384 = .tuple #[.string (pgB ys), .int .i64 0] := by
      have hgt : ys.all It.good = true := List.all_eq_true.2 (fun x hx => (hfg x hx).2)
      unfold layS
      rw [if_neg (by omega), if_neg (by rw [hgt]; decide), if_pos (by omega)]
      rfl
    rw [hlay, ← HTP.out] at cY
    clear hrw hraw hlay b8 cW hfg hft hfo
    by_cases hly : ys.length = xl
    · have hly2 : ((ys.length : Int) == (xl : Int)) = true := by simp [hly]
      have HLY := hide hly
      clear hly
      go_wp2_with fail
      go_ret
      exact ⟨S2, L7.out, K8.out, fun _ => ⟨rfl, B8.out⟩, fun h => absurd HLY.out h⟩
    · have hli : ¬ ((ys.length : Int) = (xl : Int)) := by omega
      have hly2 : ((ys.length : Int) == (xl : Int)) = false := beq_eq_false_iff_ne.2 hli
      have HLY := hide hly
      obtain ⟨we, hwe⟩ : ∃ we, we = S2.writeErr ((first : Int) + (b : Int)) tp := ⟨_, rfl⟩
      have HWE := hide hwe
      clear hly hwe
      go_wp2_with (go_at_call 42; refine cY.out.mono ?_; rintro e w9 ⟨rfl, b9⟩; have B9 := hide (B8.out.below b9); have K9 := hide (K8.out.trans (Keep.of_below b9) (fun x hx => .inl hx)); clear b9)
      obtain ⟨CJ, hCJ⟩ : ∃ CJ : List Value → World → Prop, CJ = fun us W' => match us with
        | [] => W' = w9.drew
        | [u] => u = .int .i64 we ∧ RfAt W' r G (S2.writeDo ((first : Int) + (b : Int)) tp) ∧ Keep G w9 W'
        | [u, v] => v = u ∧ u = .int .i64 we ∧ RfAt W' r G (S2.writeDo ((first : Int) + (b : Int)) tp) ∧ Keep G w9 W'
        | _ => False := ⟨_, rfl⟩
      have HJ0 : Hid (CJ [] { w9 with drawn := w9.drawn + 1 }) := by show CJ [] _; rw [hCJ]; rfl
      have HBY : Hid (∀ us w', CJ us w' → Blk w' s (bxR r first n tv lo) 78) := fun us w' h => by
        rw [hCJ] at h
        match us, h with
        | [], h => have h : w' = w9.drew := h; rw [h]; exact B9.out.drew.box
        | [u], h => obtain ⟨_, h2, h4⟩ := h; exact (B9.out.read h2 (write_len _ _ _) h4).box
        | [u, v], h => obtain ⟨_, _, h2, h4⟩ := h; exact (B9.out.read h2 (write_len _ _ _) h4).box
      have HDL : Hid (∀ w', CJ [] w' → Calls Tryz.prog 43 #[.pointer (some ⟨r, 0, none⟩), .int .i64 ((first : Int) + (b : Int)), .string tp] w' fun e w2 => ∃ v, e = .returned v ∧ CJ ([] ++ [v]) w2) := fun w' h => by
        rw [hCJ] at h ⊢
        have h : w' = w9.drew := h
        subst h
        refine (rwrite_at r G S2 ((first : Int) + (b : Int)) tp _ B9.out.drew.dev).mono ?_
        rintro e w2 ⟨rfl, h1, h2⟩
        exact ⟨_, rfl, by rw [HWE.out], h1, (Keep.of_below (Below.refl _ w9).drew).trans h2 (fun x hx => .inl hx)⟩
      have HGI : Hid (∀ u w', CJ [u] w' → CJ ([u] ++ [u]) w') := fun u w' h => by
        rw [hCJ] at h ⊢
        exact ⟨rfl, h⟩
      have HENE : Hid (∀ us w', us.length = 2 → CJ us w' → us = [.int .i64 we, .int .i64 we] ∧ RfAt w' r G (S2.writeDo ((first : Int) + (b : Int)) tp) ∧ Keep G w9 w') := fun us w' hl h => by
        match us, hl with
        | [u, v], _ =>
          rw [hCJ] at h
          obtain ⟨rfl, rfl, h1, h2⟩ := h
          exact ⟨rfl, h1, h2⟩
      clear hCJ
      refine wp_region_lin (by kernel_rfl) (by kernel_rfl) (fun jx => ([.pointer (some ⟨s, 0, none⟩), .pointer (some ⟨s, 0, none⟩), .pointer (some ⟨s, 0, none⟩), .pointer (some ⟨r, 0, none⟩), .pointer (some ⟨s, 0, none⟩), .pointer (some ⟨s, 0, none⟩), .pointer (some ⟨s, 1, none⟩), .int .i64 (first : Int), .int .i64 (b : Int), .int .i64 ((first : Int) + (b : Int)), .string tp, undef, undef] : List Value).getD jx undef) [11, 12] (by kernel_rfl) (by decide) (by decide) (CJ) (HJ0.out) ?_ ?_
      · intro jx ox hi us w' ev hc hul hbef haft hin hout hold hcst hfn
        have hltx : jx < 13 := by
          have := (Array.getElem?_eq_some_iff.1 hi).1
          simpa using this
        match jx, hltx with
        | 0, _ =>
          simp only [List.getElem?_toArray, List.getElem?_cons_zero, List.getElem?_cons_succ, Option.some.injEq] at hi
          subst hi
          have ha1 : us.length ≤ 1 := haft 1 12 rfl (by kernel_rfl)
          have e0 : ev (.tmp 0) = .pointer (some ⟨s, 0, none⟩) := hout 0 (by kernel_rfl) (show (0 : Nat) < 51 by decide)
          refine ⟨fun mx hmx => absurd hmx (by simp [zpos]), fun _ => ?_⟩
          simp [execOp, e0, hcst, go_sem]
        | 1, _ =>
          simp only [List.getElem?_toArray, List.getElem?_cons_zero, List.getElem?_cons_succ, Option.some.injEq] at hi
          subst hi
          have ha1 : us.length ≤ 1 := haft 1 12 rfl (by kernel_rfl)
          have e0 : ev (.tmp 39) = .pointer (some ⟨s, 0, none⟩) := hin 39 0 ⟨0, .data⟩ (by kernel_rfl) (by simp) rfl rfl (show (39 : Nat) < 51 by decide)
          refine ⟨fun mx hmx => absurd hmx (by simp [zpos]), fun _ => ?_⟩
          simp [execOp, e0, hcst, go_sem]
        | 2, _ =>
          simp only [List.getElem?_toArray, List.getElem?_cons_zero, List.getElem?_cons_succ, Option.some.injEq] at hi
          subst hi
          have ha1 : us.length ≤ 1 := haft 1 12 rfl (by kernel_rfl)
          have e0 : ev (.tmp 40) = .pointer (some ⟨s, 0, none⟩) := hin 40 1 ⟨1, .data⟩ (by kernel_rfl) (by simp) rfl rfl (show (40 : Nat) < 51 by decide)
          refine ⟨fun mx hmx => absurd hmx (by simp [zpos]), fun _ => ?_⟩
          simp [execOp, e0, hcst, go_sem]
        | 3, _ =>
          simp only [List.getElem?_toArray, List.getElem?_cons_zero, List.getElem?_cons_succ, Option.some.injEq] at hi
          subst hi
          have ha0 : us.length ≤ 0 := haft 0 11 rfl (by kernel_rfl)
          have ha1 : us.length ≤ 1 := haft 1 12 rfl (by kernel_rfl)
          have e0 : ev (.tmp 41) = .pointer (some ⟨s, 0, none⟩) := hin 41 2 ⟨2, .data⟩ (by kernel_rfl) (by simp) rfl rfl (show (41 : Nat) < 51 by decide)
          refine ⟨fun mx hmx => absurd hmx (by simp [zpos]), fun _ => ?_⟩
          have q := (HBY.out us w' hc).cell (i := 0) rfl
          simp [execOp, e0, hcst, go_sem, q, bxR]
        | 4, _ =>
          simp only [List.getElem?_toArray, List.getElem?_cons_zero, List.getElem?_cons_succ, Option.some.injEq] at hi
          subst hi
          have ha1 : us.length ≤ 1 := haft 1 12 rfl (by kernel_rfl)
          have e0 : ev (.tmp 0) = .pointer (some ⟨s, 0, none⟩) := hout 0 (by kernel_rfl) (show (0 : Nat) < 51 by decide)
          refine ⟨fun mx hmx => absurd hmx (by simp [zpos]), fun _ => ?_⟩
          simp [execOp, e0, hcst, go_sem]
        | 5, _ =>
          simp only [List.getElem?_toArray, List.getElem?_cons_zero, List.getElem?_cons_succ, Option.some.injEq] at hi
          subst hi
          have ha1 : us.length ≤ 1 := haft 1 12 rfl (by kernel_rfl)
          have e0 : ev (.tmp 43) = .pointer (some ⟨s, 0, none⟩) := hin 43 4 ⟨4, .data⟩ (by kernel_rfl) (by simp) rfl rfl (show (43 : Nat) < 51 by decide)
          refine ⟨fun mx hmx => absurd hmx (by simp [zpos]), fun _ => ?_⟩
          simp [execOp, e0, hcst, go_sem]
        | 6, _ =>
          simp only [List.getElem?_toArray, List.getElem?_cons_zero, List.getElem?_cons_succ, Option.some.injEq] at hi
          subst hi
          have ha1 : us.length ≤ 1 := haft 1 12 rfl (by kernel_rfl)
          have e0 : ev (.tmp 44) = .pointer (some ⟨s, 0, none⟩) := hin 44 5 ⟨5, .data⟩ (by kernel_rfl) (by simp) rfl rfl (show (44 : Nat) < 51 by decide)
          refine ⟨fun mx hmx => absurd hmx (by simp [zpos]), fun _ => ?_⟩
          simp [execOp, e0, hcst, go_sem]
        | 7, _ =>
          simp only [List.getElem?_toArray, List.getElem?_cons_zero, List.getElem?_cons_succ, Option.some.injEq] at hi
          subst hi
          have ha1 : us.length ≤ 1 := haft 1 12 rfl (by kernel_rfl)
          have e0 : ev (.tmp 45) = .pointer (some ⟨s, 1, none⟩) := hin 45 6 ⟨6, .data⟩ (by kernel_rfl) (by simp) rfl rfl (show (45 : Nat) < 51 by decide)
          refine ⟨fun mx hmx => absurd hmx (by simp [zpos]), fun _ => ?_⟩
          have q := (HBY.out us w' hc).cell (i := 1) rfl
          simp [execOp, e0, hcst, go_sem, q, bxR]
        | 8, _ =>
          simp only [List.getElem?_toArray, List.getElem?_cons_zero, List.getElem?_cons_succ, Option.some.injEq] at hi
          subst hi
          have ha1 : us.length ≤ 1 := haft 1 12 rfl (by kernel_rfl)
          have e0 : ev (.tmp 5) = .int .i64 (b : Int) := hout 5 (by kernel_rfl) (show (5 : Nat) < 51 by decide)
          refine ⟨fun mx hmx => absurd hmx (by simp [zpos]), fun _ => ?_⟩
          simp [execOp, e0, hcst, go_sem]
        | 9, _ =>
          simp only [List.getElem?_toArray, List.getElem?_cons_zero, List.getElem?_cons_succ, Option.some.injEq] at hi
          subst hi
          have ha0 : us.length ≤ 0 := haft 0 11 rfl (by kernel_rfl)
          have ha1 : us.length ≤ 1 := haft 1 12 rfl (by kernel_rfl)
          have e0 : ev (.tmp 46) = .int .i64 (first : Int) := hin 46 7 ⟨7, .data⟩ (by kernel_rfl) (by simp) rfl rfl (show (46 : Nat) < 51 by decide)
          have e1 : ev (.tmp 47) = .int .i64 (b : Int) := hin 47 8 ⟨8, .data⟩ (by kernel_rfl) (by simp) rfl rfl (show (47 : Nat) < 51 by decide)
          refine ⟨fun mx hmx => absurd hmx (by simp [zpos]), fun _ => ?_⟩
          have q := HWR.out
          simp [execOp, e0, e1, hcst, go_sem, q]
        | 10, _ =>
          simp only [List.getElem?_toArray, List.getElem?_cons_zero, List.getElem?_cons_succ, Option.some.injEq] at hi
          subst hi
          have ha0 : us.length ≤ 0 := haft 0 11 rfl (by kernel_rfl)
          have ha1 : us.length ≤ 1 := haft 1 12 rfl (by kernel_rfl)
          have e0 : ev (.tmp 8) = .string tp := hout 8 (by kernel_rfl) (show (8 : Nat) < 51 by decide)
          refine ⟨fun mx hmx => absurd hmx (by simp [zpos]), fun _ => ?_⟩
          simp [execOp, e0, hcst, go_sem]
        | 11, _ =>
          simp only [List.getElem?_toArray, List.getElem?_cons_zero, List.getElem?_cons_succ, Option.some.injEq] at hi
          subst hi
          have ha1 : us.length ≤ 1 := haft 1 12 rfl (by kernel_rfl)
          have e0 : ev (.tmp 42) = .pointer (some ⟨r, 0, none⟩) := hin 42 3 ⟨3, .data⟩ (by kernel_rfl) (by simp) rfl rfl (show (42 : Nat) < 51 by decide)
          have e1 : ev (.tmp 48) = .int .i64 ((first : Int) + (b : Int)) := hin 48 9 ⟨9, .data⟩ (by kernel_rfl) (by simp) rfl rfl (show (48 : Nat) < 51 by decide)
          have e2 : ev (.tmp 49) = .string tp := hin 49 10 ⟨10, .data⟩ (by kernel_rfl) (by simp) rfl rfl (show (49 : Nat) < 51 by decide)
          refine ⟨fun mx hmx hus => ?_, fun hno => absurd hno (by decide)⟩
          obtain rfl : 0 = mx := Option.some.inj hmx
          have h0 : us = [] := List.eq_nil_of_length_eq_zero hus
          subst h0
          refine .inr ⟨43, #[.pointer (some ⟨r, 0, none⟩), .int .i64 ((first : Int) + (b : Int)), .string tp], ?_, HDL.out w' hc⟩
          have ef := hfn 43
          simp [execOp, resolve, invoke, ef, hcst, e0, e1, e2, Result.andThen]
          exact enter43 _ _
        | 12, _ =>
          simp only [List.getElem?_toArray, List.getElem?_cons_zero, List.getElem?_cons_succ, Option.some.injEq] at hi
          subst hi
          have hb0 : 0 < us.length := hbef 0 11 rfl (by kernel_rfl)
          have e0 : ev (.tmp 50) = us.getD 0 undef := hin 50 11 ⟨11, .data⟩ (by kernel_rfl) (by simp) rfl rfl (show (50 : Nat) < 51 by decide)
          refine ⟨fun mx hmx hus => ?_, fun hno => absurd hno (by decide)⟩
          obtain rfl : 1 = mx := Option.some.inj hmx
          obtain ⟨u, rfl⟩ := List.length_eq_one_iff.1 hus
          refine .inl ⟨u, w', ?_, HGI.out u w' hc⟩
          simp only [List.getD_cons_zero] at e0
          simp [execOp, e0, hcst, go_sem]
      · intro us w8 husl hc
        obtain ⟨rfl, h1, h2⟩ := HENE.out us w8 husl hc
        rw [lexF_same (V' := fun jx => ([.pointer (some ⟨s, 0, none⟩), .pointer (some ⟨s, 0, none⟩), .pointer (some ⟨s, 0, none⟩), .pointer (some ⟨r, 0, none⟩), .pointer (some ⟨s, 0, none⟩), .pointer (some ⟨s, 0, none⟩), .pointer (some ⟨s, 1, none⟩), .int .i64 (first : Int), .int .i64 (b : Int), .int .i64 ((first : Int) + (b : Int)), .string tp, (.int .i64 we), (.int .i64 we)] : List Value).getD jx undef) _ 0 _ (fun jx _ hj => by
          have hlt : jx < 13 := by simpa using hj
          match jx, hlt with
          | 0, _ => rfl
          | 1, _ => rfl
          | 2, _ => rfl
          | 3, _ => rfl
          | 4, _ => rfl
          | 5, _ => rfl
          | 6, _ => rfl
          | 7, _ => rfl
          | 8, _ => rfl
          | 9, _ => rfl
          | 10, _ => rfl
          | 11, _ => rfl
          | 12, _ => rfl)]
        simp only [lexF, Act.put, List.setIfInBounds_toArray, List.set_cons_succ, List.set_cons_zero, List.getD_cons_succ, List.getD_cons_zero]
        have F1 := hide (B9.out.read h1 (write_len _ _ _) h2)
        have F2 := hide (K9.out.trans h2 (fun x hx => .inl hx))
        clear h1 h2 hc
        go_wp2_with fail
        go_ret
        exact ⟨S2, L7.out, F2.out, fun h => absurd h HLY.out, fun _ => ⟨by rw [← HWE.out]; rfl, F1.out⟩⟩
end
end Go.Proofs.YtbccnfbombgdmaaGreat
