/- 'lose', where a region stands in the place. -/
import Derived.Test.YtbjkahdlejaheabDel9
set_option linter.unusedVariables false
set_option linter.unusedSimpArgs false
set_option maxRecDepth 8000
namespace Go.Proofs.Ytbjkahdlejaheab
open Go.RowKit Go.Deep Math

theorem rg_form {w : World} {base n : Nat} {v : Value} {rs : List Rg} (h : w.ownsRow base 70 3 v n (rgRow rs)) (h0 : 0 < n) : ∃ g cap pad, v = .slice (some ⟨g, 0, none⟩) n cap ∧ base ≤ g ∧ Blk w g (rgRow rs ++ pad) 70 ∧ n ≤ cap ∧ cap ≤ maxLen ∧ (rgRow rs ++ pad).length = cap * 3 := by
  rcases h.2 with ⟨_, h1⟩ | ⟨g, cap, cur, hv, hb, hh, hc, hm, hs, ht⟩
  · omega
  · have e : rgRow rs ++ cur.toList.drop (n * 3) = cur.toList := by rw [← ht, List.take_append_drop]
    refine ⟨g, cap, cur.toList.drop (n * 3), hv, hb, ?_, hc, hm, by rw [e]; simpa using hs⟩
    unfold Blk
    rw [e]
    simpa using hh
theorem rg_of {w : World} {base g cap : Nat} {rs : List Rg} {pad : List Value} (hb : base ≤ g) (h : Blk w g (rgRow rs ++ pad) 70) (hc : rs.length ≤ cap) (hm : cap ≤ maxLen) (hl : (rgRow rs ++ pad).length = cap * 3) : w.ownsRow base 70 3 (.slice (some ⟨g, 0, none⟩) rs.length cap) rs.length (rgRow rs) := by
  refine ⟨rgRow_length rs, .inr ⟨g, cap, (rgRow rs ++ pad).toArray, rfl, hb, h, hc, hm, by simpa using hl, ?_⟩⟩
  rw [List.toList_toArray, ← rgRow_length rs]
  simp
theorem delKeys_some : ∀ (l : List It) (M : List UInt8 → Option (Nat × Nat)) (k : List UInt8) (p : Nat × Nat), delKeys M l k = some p → M k = some p ∧ ∀ x ∈ l, x.key ≠ k
  | [], M, k, p, h => ⟨h, fun x hx => by cases hx⟩
  | y :: l, M, k, p, h => by
    obtain ⟨h1, h2⟩ := delKeys_some l (updK M y.key none) k p h
    by_cases e : k = y.key
    · rw [e, updK_same] at h1; cases h1
    · rw [updK_other _ _ _ _ e] at h1
      exact ⟨h1, fun x hx => by
        rcases List.mem_cons.1 hx with rfl | hx
        · exact Ne.symm e
        · exact h2 x hx⟩
theorem delKeys_take (M : List UInt8 → Option (Nat × Nat)) (l : List It) (i : Nat) (x : It) (h : l[i]? = some x) : delKeys M (l.take (i + 1)) = updK (delKeys M (l.take i)) x.key none := by
  unfold delKeys
  rw [List.take_add_one, h]
  simp
/-- One region less. -/
theorem lose_state {W w5 w' : World} {l d m g n5 c5 : Nat} {v6 v7 : Value} {T1 : Lg} (h : LgIn W l d m (.slice (some ⟨g, 0, none⟩) n5 c5) v6 v7 T1) (rs : List Rg) (ho : w5.ownsRow 0 70 3 (.slice (some ⟨g, 0, none⟩) rs.length c5) rs.length (rgRow rs)) (hk : Keep [g] W w5)
    (hsub : ∀ r ∈ rs, r ∈ T1.regs) (hat : ∀ k p, T1.has k = some p → ∃ t ∈ rs.flatMap Rg.ths ++ T1.opn, t.pos = p ∧ t.it.key = k) (hw : w' = w5.setCell ⟨l, 5, none⟩ (.slice (some ⟨g, 0, none⟩) rs.length c5)) :
    LgIn w' l d m (.slice (some ⟨g, 0, none⟩) rs.length c5) v6 v7 { T1 with regs := rs } ∧ Keep [l, g] W w' := by
  have hown : ∀ {q : Nat} {c : Array Value} {e : TypeId}, W.heap[q]? = some (.cells c e (0, 0)) → e ≠ 70 → q ∉ [g] := fun {q c e} hq hne hm => by
    simp only [List.mem_singleton] at hm
    subst hm
    exact own_notin h.sld hq hne (by simp [own, Value.ownBlock])
  have hl : Blk w5 l (lgCells d m (.slice (some ⟨g, 0, none⟩) n5 c5) v6 v7 T1) 67 := h.box.same (hk.block l h.box.lt (hown h.box (by decide)))
  have hset : ∀ q, q ≠ l → w'.heap[q]? = w5.heap[q]? := fun q hq => by rw [hw]; exact blk_setCell_other _ ⟨l, 5, none⟩ _ q hq
  have sm : ∀ {q : Nat} {c : Array Value} {e : TypeId}, W.heap[q]? = some (.cells c e (0, 0)) → e ≠ 70 → e ≠ 67 → w'.heap[q]? = W.heap[q]? := fun {q c e} hq h1 h2 =>
    (hset q (ty_ne hq h.box h2)).trans (hk.block q (Array.getElem?_eq_some_iff.1 hq).1 (hown hq h1))
  have hall : ∀ t, t ∈ rs.flatMap Rg.ths ++ T1.opn → t ∈ T1.all := fun t ht => by
    rcases List.mem_append.1 ht with h1 | h1
    · obtain ⟨r, hr, ht⟩ := List.mem_flatMap.1 h1
      exact mem_all_regs (hsub r hr) ht
    · exact List.mem_append.2 (.inr h1)
  constructor
  · refine ⟨?_, ?_, fun x hx => ?_, own_same h.opn (fun q hq => ?_), own_same h.cont (fun q hq => ?_), h.map.same ?_, fun t ht => ?_, fun x hx q hq => h.apart x (hsub x hx) q hq, hat⟩
    · rw [hw]; exact hl.set 5 _
    · refine own_same ho (fun q hq => hset q ?_)
      obtain ⟨c, hc⟩ := own_ty ho hq
      exact ty_ne hc hl (by decide)
    · refine own_same (h.rows x (hsub x hx)) (fun q hq => ?_)
      obtain ⟨c, hc⟩ := own_ty (h.rows x (hsub x hx)) hq; exact sm hc (by decide) (by decide)
    · obtain ⟨c, hc⟩ := own_ty h.opn hq; exact sm hc (by decide) (by decide)
    · obtain ⟨c, hc⟩ := own_ty h.cont hq; exact sm hc (by decide) (by decide)
    · refine (hset m (Ne.symm (h.notM h.box))).trans (hk.block m h.map.lt (fun hm => ?_))
      simp only [List.mem_singleton] at hm
      obtain ⟨c, hc⟩ := own_ty h.sld (q := g) rfl
      exact h.notM hc hm.symm
    · have ht' := h.ths t (hall t ht)
      obtain ⟨c, hc⟩ := ht'.ty
      exact ht'.same (sm hc (by decide) (by decide))
  · rw [hw]
    exact (hk.mono (fun q hq => .inl (by simp only [List.mem_singleton] at hq; simp [hq]))).setCell (.inl (by simp)) _
section
variable {w : World} {l d m : Nat} {v5 v6 v7 : Value} {T : Lg}
set_option maxHeartbeats 8000000 in
theorem lose_at (h : LgIn w l d m v5 v6 v7 T) (P i : Nat) (hP : idxP P T.regs = some i) (hr : T.regs.length ≤ 100) (hbig : T.all.length ≤ 40000) :
    Calls Try.prog 33 #[.pointer (some ⟨l, 0, none⟩), .int .i64 (P : Int)] w (LosePost w l d m v5 v6 v7 T P) := by
  have hi : i < T.regs.length := by
    have := hP
    unfold idxP at this
    exact (List.findIdx?_eq_some_iff_getElem.1 this).1
  obtain ⟨r, hri⟩ : ∃ r, T.regs[i]? = some r := ⟨_, List.getElem?_eq_getElem hi⟩
  obtain ⟨A, C, hAC, hAi⟩ : ∃ A C, T.regs = A ++ r :: C ∧ A.length = i := by
    obtain ⟨hi, he⟩ := List.getElem?_eq_some_iff.1 hri
    refine ⟨T.regs.take i, T.regs.drop (i + 1), ?_, by simp; omega⟩
    rw [← he, ← List.drop_eq_getElem_cons hi, List.take_append_drop]
  have hmem := List.mem_of_getElem? hri
  have hlost : T.lost P = T.hadOf r.ths := by unfold Lg.lost; rw [hP]; simp [hri]
  have hlose : T.lose P = { T with regs := A ++ C, has := delKeys T.has (T.hadOf r.ths) } := by
    unfold Lg.lose
    rw [hP]
    simp only
    rw [hlost, hAC, ← hAi, List.eraseIdx_append_of_length_le (Nat.le_refl _)]
    simp
  have hA := h.alloc (.cells #[.int .i64 (P : Int)] 3)
  obtain ⟨g, c5, pad0, rfl, _, _, _, _, _⟩ := rg_form h.sld (by omega)
  have k5 := hA.box.cell (i := 5) rfl
  have hBx := (Blk.new w [.int .i64 (P : Int)] 3).cell (i := 0) rfl
  have cI := hide (index9 (some ⟨g, 0, none⟩) T.regs.length c5 T.regs P w.heap.size hr _ hA.sld hBx)
  obtain ⟨ra, rc, hrv⟩ := own_slice (h.rows r hmem)
  have hths : r.ths.length ≤ 40000 := by
    have h1 := flat_len T.regs hmem
    have : T.all.length = (T.regs.flatMap Rg.ths).length + T.opn.length := by unfold Lg.all; rw [List.length_append]
    omega
  have H := hide h
  have HA := hide hA
  have HP := hide hP
  have HRI := hide hri
  have HAC := hide hAC
  have HAI := hide hAi
  have HM := hide hmem
  have HLT := hide hlost
  have HLS := hide hlose
  have HRV := hide hrv
  have HTH := hide hths
  have HHL := hide (Nat.le_trans (hadOf_length T r.ths) hths)
  have HR := hide hr
  have HI := hide hi
  have B0 := hide ((Below.refl w.heap.size w).alloc (Nat.le_refl _) (.cells #[.int .i64 (P : Int)] 3))
  clear h hA hBx hP hri hAC hAi hmem hlost hlose hrv hths hbig
  obtain ⟨n5, hn5⟩ : ∃ n5, n5 = T.regs.length := ⟨_, rfl⟩
  rw [← hn5] at k5 cI hr hi
  have HN5 := hide hn5
  clear hn5
  go_enter Try.func33, Try.ntmps33
  go_wp2_with fail
  refine cI.out.mono ?_
  rintro e w2 ⟨⟨k, rfl, hk⟩, b2⟩
  have hL2 := HA.out.below b2
  have hBB := B0.out.trans (b2.mono (by rw [nblk_alloc]; omega))
  rcases hk with ⟨_, hk⟩ | ⟨i', rfl, hk⟩
  · rw [HP.out] at hk; cases hk
  obtain rfl : i' = i := by rw [HP.out] at hk; exact (Option.some.inj hk).symm
  obtain ⟨_, _, hv, k0, k1, k2, _, hnc⟩ := rg_cell hL2.sld HRI.out
  simp only [Value.slice.injEq, Option.some.injEq, Addr.mk.injEq, and_true, true_and] at hv
  obtain ⟨rfl, rfl⟩ := hv
  have j5 := hL2.box.cell (i := 5) rfl
  have hrow := hL2.rows r HM.out
  rw [HRV.out] at k2 hrow
  have cH := hide (had_any hL2 w.heap.size (fun q hq => H.out.lt q hq) hBB.size none 0 0 [] (Row.nil _ _) ra _ rc r.ths hrow (fun t ht => mem_all_regs HM.out ht) (fun q hq => List.mem_append.2 (.inr (List.mem_append.2 (.inl (List.mem_flatMap.2 ⟨r, HM.out, by rw [HRV.out]; exact hq⟩))))) (by have := HTH.out; simp; omega))
  rw [← HN5.out] at j5 hnc
  have L2 := hide hL2
  have BB := hide hBB
  have hi2 : (i' : Int) < (n5 : Int) := by omega
  have hi3 : (n5 : Int) ≤ 100 := by omega
  clear hk hL2 hBB hrow b2 cI k5
  generalize r.ths.length = rn at *
  generalize (r.place : Int) = rp at *
  generalize (r.num : Int) = rnum at *
  go_wp2_with fail
  refine cH.out.mono ?_
  rintro e w3 ⟨va, vn, vc, rfl, hrow3, hk3, _⟩
  rw [List.nil_append] at hrow3
  have hL3 : LgIn w3 l d m (.slice (some ⟨g, 0, none⟩) T.regs.length c5) v6 v7 T := L2.out.same (fun q hq => hk3.block q (L2.out.lt q hq) (by simp [own, Value.ownBlock]))
  have hK3 : Keep [m] w w3 := (Keep.of_below BB.out).trans hk3 (fun q hq => by simp [own, Value.ownBlock] at hq)
  obtain ⟨xs, hxs⟩ : ∃ xs, xs = T.hadOf r.ths := ⟨_, rfl⟩
  rw [← hxs] at hrow3
  have hvn : vn = xs.length := by obtain ⟨_, _, he⟩ := hrow3.sl; simp only [Value.slice.injEq] at he; exact he.2.1
  have hoks : Oks xs := fun x hx => by
    rw [hxs] at hx
    unfold Lg.hadOf at hx
    obtain ⟨t, ht, rfl⟩ := List.mem_map.1 hx
    have := L2.out.ths t (mem_all_regs HM.out (List.mem_filter.1 ht).1)
    exact ⟨this.fits, this.key, this.val⟩
  have hvn4 : vn ≤ 40000 := by
    have h1 := HHL.out
    rw [hvn, hxs]; exact h1
  have HXS := hide hxs
  have HVN := hide hvn
  have HOK := hide hoks
  have S3 := hide (And.intro hrow3 (And.intro hL3 hK3))
  clear hrow3 hL3 hK3 hk3 cH k0 k1 k2 j5 hxs hvn hoks
  go_wp2_with fail
  go_loopg [29] vn (fun kx s29 wr => ∃ j : Nat, s29 = .int .i64 j ∧ j ≤ vn ∧ vn - j ≤ kx ∧ Hid (Row wr w.heap.size (.slice va vn vc) xs ∧ LgIn wr l d m (.slice (some ⟨g, 0, none⟩) T.regs.length c5) v6 v7 { T with has := delKeys T.has (xs.take j) } ∧ Keep [m] w wr))
  case atStart => exact ⟨0, rfl, Nat.zero_le _, by omega, S3.out⟩
  case round =>
    obtain ⟨j, rfl, hjn, hg, I⟩ := hrel
    by_cases hlt : j < vn
    · have hlt2 : (j : Int) < (vn : Int) := by omega
      obtain ⟨x, hx⟩ : ∃ x, xs[j]? = some x := ⟨_, List.getElem?_eq_getElem (by rw [← HVN.out]; exact hlt)⟩
      obtain ⟨a0, cap0, he0, hI, _, hcap0, _⟩ := I.out.1.its HOK.out
      simp only [Value.slice.injEq] at he0
      obtain ⟨rfl, _, rfl⟩ := he0
      obtain ⟨gb, go, rfl, hgw, hc⟩ := hI.cell j x hx
      obtain ⟨c0, c1, c2, c3, c4⟩ := hc.vals
      have hok := HOK.out x (List.mem_of_getElem? hx)
      obtain ⟨W6, hW6⟩ : ∃ W6, W6 = wr.alloc (.cells #[.string (txt x.key), .string (txt x.value), .int .u32 x.flags, .int .i64 x.exp, .int .u64 x.ver] 36) := ⟨_, rfl⟩
      have b6 : Below wr.heap.size wr W6 := by rw [hW6]; exact (Below.refl _ _).alloc (Nat.le_refl _) _
      have hL6 := (I.out.2.1.below b6).heap (w' := W6.drew) rfl
      have bk6 : Blk W6 wr.heap.size [.string (txt x.key), .string (txt x.value), .int .u32 x.flags, .int .i64 x.exp, .int .u64 x.ver] 36 := by rw [hW6]; exact Blk.new wr _ 36
      obtain ⟨W7, hdel, hm7, hkp7, _⟩ := hL6.map.drop x.key (Nat.le_trans hok.2.1 (by decide)) 0
      have hL7 := hL6.mapTurn hm7 hkp7 (fun y p hy => by
        by_cases e : y = x.key
        · rw [e, updK_same] at hy; cases hy
        · rw [updK_other _ _ _ _ e] at hy; exact hL6.hasAt y p hy)
      have g8 : W6.drew.cell? ⟨l, 8, none⟩ = some (.map (some m)) := hL6.box.cell (i := 8) rfl
      have bx0 : W6.drew.cell? ⟨wr.heap.size, 0, none⟩ = some (.string (txt x.key)) := bk6.cell (i := 0) rfl
      have HW6D : Hid ((wr.alloc (.cells #[.string (txt x.key), .string (txt x.value), .int .u32 x.flags, .int .i64 x.exp, .int .u64 x.ver] 36)).drew = W6.drew) := by show _ = _; rw [hW6]
      have k6d : Keep [m] w W6.drew := (I.out.2.2.trans (Keep.of_below (F := []) b6) (fun q hq => by cases hq)).drew
      have hmlt : m < w.heap.size := H.out.map.lt
      have S7 : Hid (Row W7 w.heap.size (.slice (some ⟨gb, go, none⟩) vn vc) xs ∧ LgIn W7 l d m (.slice (some ⟨g, 0, none⟩) T.regs.length c5) v6 v7 { T with has := delKeys T.has (xs.take (j + 1)) } ∧ Keep [m] w W7) := by
        refine ⟨(I.out.1.below b6).keep (fun q hq => ?_), ?_, k6d.trans hkp7 (fun q hq => .inl hq)⟩
        · have h1 := (I.out.1.below b6).lt q hq
          exact hkp7.block q h1.2 (fun hm => by simp only [List.mem_singleton] at hm; omega)
        · rw [delKeys_take _ _ _ _ hx]; exact hL7
      clear hW6 b6 hL6 bk6 hm7 hkp7 hL7 k6d hI hc hx hok hcap0
      generalize txt x.key = kb at *
      generalize txt x.value = vb at *
      obtain ⟨CC, hCC⟩ : ∃ CC : Nat → World → Prop, CC = fun s w' => match s with
        | 0 => w' = W6.drew
        | _ => w' = W7 := ⟨_, rfl⟩
      have DR : Hid (CC 0 (wr.alloc (.cells #[.string kb, .string vb, .int .u32 x.flags, .int .i64 x.exp, .int .u64 x.ver] 36)).drew) := by show CC 0 _; rw [hCC]; exact HW6D.out
      have cS : Hid (∀ s w', CC s w' → s ≤ 0 → w'.cell? ⟨l, 8, none⟩ = some (.map (some m)) ∧ w'.cell? ⟨wr.heap.size, 0, none⟩ = some (.string kb)) := fun s w' hw hs => by
        rw [hCC] at hw
        match s, hs with
        | 0, _ => simp only at hw; subst hw; exact ⟨g8, bx0⟩
      have cX : Hid (∀ w', CC 0 w' → CC 1 W7 ∧ (Builtin.delete_ #[63, 9] 0 #[.map (some m), .string kb]).run Try.prog w' = .ok (.tuple #[]) W7) := fun w' hw => by
        rw [hCC] at hw ⊢
        simp only at hw ⊢
        subst hw
        refine ⟨?_, hdel⟩
        first | rfl | trivial
      have HE : Hid (∀ w', CC 1 w' → w' = W7) := fun w' hw => by rw [hCC] at hw; exact hw
      clear hCC HW6D g8 bx0 hdel
      go_wp2_with fail
      refine wp_region_chain (by kernel_rfl) (by kernel_rfl) (fun jx => ([.pointer (some ⟨l, 0, none⟩), .pointer (some ⟨l, 0, none⟩), .pointer (some ⟨l, 8, none⟩), .map (some m), .pointer (some ⟨wr.heap.size, 0, none⟩), .string kb, .tuple #[]] : List Value).getD jx undef) [6] (by kernel_rfl) (CC) (DR.out) ?_ ?_
      · intro jx ox hi sx w' ev hlm hks hc hin hout hcst hfn
        have hltx : jx < 7 := by
          have := (Array.getElem?_eq_some_iff.1 hi).1
          simpa using this
        match jx, hltx with
        | 0, _ =>
          simp only [List.getElem?_toArray, List.getElem?_cons_zero, List.getElem?_cons_succ, Option.some.injEq] at hi
          subst hi
          have e0 : ev (.tmp 0) = .pointer (some ⟨l, 0, none⟩) := hout 0 (by kernel_rfl) (show (0 : Nat) < 52 by decide)
          rw [if_neg (by decide)]
          refine .inl ⟨w', ?_, hc⟩
          show _ = Result.ok (Next.value (.pointer (some ⟨l, 0, none⟩))) w'
          simp [execOp, e0, hcst, go_sem]
        | 1, _ =>
          simp only [List.getElem?_toArray, List.getElem?_cons_zero, List.getElem?_cons_succ, Option.some.injEq] at hi
          subst hi
          have e0 : ev (.tmp 33) = .pointer (some ⟨l, 0, none⟩) := hin 33 0 ⟨0, .data⟩ (by kernel_rfl) (by simp) rfl rfl (show (33 : Nat) < 52 by decide)
          rw [if_neg (by decide)]
          refine .inl ⟨w', ?_, hc⟩
          show _ = Result.ok (Next.value (.pointer (some ⟨l, 0, none⟩))) w'
          simp [execOp, e0, hcst, go_sem]
        | 2, _ =>
          simp only [List.getElem?_toArray, List.getElem?_cons_zero, List.getElem?_cons_succ, Option.some.injEq] at hi
          subst hi
          have e0 : ev (.tmp 34) = .pointer (some ⟨l, 0, none⟩) := hin 34 1 ⟨1, .data⟩ (by kernel_rfl) (by simp) rfl rfl (show (34 : Nat) < 52 by decide)
          rw [if_neg (by decide)]
          refine .inl ⟨w', ?_, hc⟩
          show _ = Result.ok (Next.value (.pointer (some ⟨l, 8, none⟩))) w'
          simp [execOp, e0, hcst, go_sem]
        | 3, _ =>
          simp only [List.getElem?_toArray, List.getElem?_cons_zero, List.getElem?_cons_succ, Option.some.injEq] at hi
          subst hi
          have e0 : ev (.tmp 35) = .pointer (some ⟨l, 8, none⟩) := hin 35 2 ⟨2, .data⟩ (by kernel_rfl) (by simp) rfl rfl (show (35 : Nat) < 52 by decide)
          rw [if_neg (by decide)]
          refine .inl ⟨w', ?_, hc⟩
          show _ = Result.ok (Next.value (.map (some m))) w'
          have hl2 : sx ≤ 0 := Nat.le_trans hlm (Nat.le_of_eq (by kernel_rfl))
          have q := (cS.out sx w' hc (by omega)).1
          simp [execOp, e0, q, hcst, go_sem]
        | 4, _ =>
          simp only [List.getElem?_toArray, List.getElem?_cons_zero, List.getElem?_cons_succ, Option.some.injEq] at hi
          subst hi
          have e0 : ev (.tmp 8) = .pointer (some ⟨wr.heap.size, 0, none⟩) := hout 8 (by kernel_rfl) (show (8 : Nat) < 52 by decide)
          rw [if_neg (by decide)]
          refine .inl ⟨w', ?_, hc⟩
          show _ = Result.ok (Next.value (.pointer (some ⟨wr.heap.size, 0, none⟩))) w'
          simp [execOp, e0, hcst, go_sem]
        | 5, _ =>
          simp only [List.getElem?_toArray, List.getElem?_cons_zero, List.getElem?_cons_succ, Option.some.injEq] at hi
          subst hi
          have e0 : ev (.tmp 37) = .pointer (some ⟨wr.heap.size, 0, none⟩) := hin 37 4 ⟨4, .data⟩ (by kernel_rfl) (by simp) rfl rfl (show (37 : Nat) < 52 by decide)
          rw [if_neg (by decide)]
          refine .inl ⟨w', ?_, hc⟩
          show _ = Result.ok (Next.value (.string kb)) w'
          have hl2 : sx ≤ 0 := Nat.le_trans hlm (Nat.le_of_eq (by kernel_rfl))
          have q := (cS.out sx w' hc (by omega)).2
          simp [execOp, e0, q, hcst, go_sem]
        | 6, _ =>
          simp only [List.getElem?_toArray, List.getElem?_cons_zero, List.getElem?_cons_succ, Option.some.injEq] at hi
          subst hi
          have e0 : ev (.tmp 36) = .map (some m) := hin 36 3 ⟨3, .data⟩ (by kernel_rfl) (by simp) rfl rfl (show (36 : Nat) < 52 by decide)
          have e1 : ev (.tmp 38) = .string kb := hin 38 5 ⟨5, .data⟩ (by kernel_rfl) (by simp) rfl rfl (show (38 : Nat) < 52 by decide)
          rw [if_pos (by decide)]
          have hsx : sx = 0 := hks 0 rfl
          subst hsx
          have q := cX.out w' hc
          refine .inl ⟨W7, ?_, q.1⟩
          have hdl := q.2
          simp [execOp, e0, e1, hcst, resolve, invoke, builtin, hdl, Result.andThen]
      · intro w9 hc
        simp only [lexF, Act.put, List.setIfInBounds_toArray, List.set_cons_succ, List.set_cons_zero, List.getD_cons_succ, List.getD_cons_zero]
        obtain rfl := HE.out w9 hc
        clear hc DR cS cX HE c0 c1 c2 c3 c4
        go_wp2
        go_roundg (vn - (j + 1))
        case measure => omega
        case rel => exact ⟨j + 1, rfl, by omega, by omega, S7.out⟩
    · obtain rfl : j = vn := by omega
      have hlt2 : ¬ (j : Int) < (j : Int) := by omega
      have I' := I.out
      rw [HVN.out, List.take_length] at I'
      obtain ⟨hrow4, hL4, hK4⟩ := I'
      have j5 := hL4.box.cell (i := 5) rfl
      have hsl := hL4.sld
      obtain ⟨g', cap', pad, hv', _, hblk, hnc', hmx, hlen⟩ := rg_form hsl (show 0 < T.regs.length by have := HI.out; omega)
      simp only [Value.slice.injEq, Option.some.injEq, Addr.mk.injEq, and_true, true_and] at hv'
      obtain ⟨rfl, rfl⟩ := hv'
      have hblk' : Blk wr g (rgRow (A ++ r :: C) ++ pad) 70 := by have := hblk; rw [show ({ T with has := delKeys T.has xs } : Lg).regs = A ++ r :: C from HAC.out] at this; exact this
      have hlen' : (rgRow (A ++ r :: C) ++ pad).length = c5 * 3 := by have := hlen; rw [show ({ T with has := delKeys T.has xs } : Lg).regs = A ++ r :: C from HAC.out] at this; exact this
      have hnl : n5 = A.length + 1 + C.length := by rw [HN5.out, HAC.out]; simp; omega
      have cD := hide (delete_rg g n5 c5 i' (i' + 1) A C r pad hnl HAI.out.symm rfl hr (by rw [HN5.out]; exact hnc') (Nat.le_trans hmx (by decide)) (fun x hx => by
        obtain ⟨xa, xc, hxv⟩ := own_slice (hL4.rows x (show x ∈ T.regs by rw [HAC.out]; simp [hx]))
        rw [hxv]; rfl) wr hblk')
      rw [show ((i' + 1 : Nat) : Int) = (i' : Int) + 1 from rfl] at cD
      rw [← HN5.out] at j5
      have S4 := hide (And.intro hrow4 (And.intro hL4 (And.intro hK4 hlen')))
      have HNL := hide hnl
      have HMX := hide hmx
      clear hrow4 hL4 hK4 hsl hblk hblk' hlen hlen' hnl hmx I
      go_wp2_with fail
      refine cD.out.mono ?_
      rintro e w5 ⟨rfl, hb5, hk5⟩
      have e5 : n5 - 1 = (A ++ C).length := by have := HNL.out; rw [List.length_append]; omega
      have ho5 : w5.ownsRow 0 70 3 (.slice (some ⟨g, 0, none⟩) (A ++ C).length c5) (A ++ C).length (rgRow (A ++ C)) := by
        refine rg_of (Nat.zero_le _) hb5 (by omega) HMX.out ?_
        have h1 := S4.out.2.2.2
        rw [List.length_append, rgRow_length] at h1 ⊢
        simp [rg0] at h1 ⊢
        omega
      have hmA : ∀ x ∈ A ++ C, x ∈ T.regs := fun x hx => by rw [HAC.out]; rcases List.mem_append.1 hx with h1 | h1 <;> simp [h1]
      have hbl : Blk w5 l (lgCells d m (.slice (some ⟨g, 0, none⟩) T.regs.length c5) v6 v7 { T with has := delKeys T.has xs }) 67 := S4.out.2.1.box.same (hk5.block l S4.out.2.1.box.lt (fun hm => by
        simp only [List.mem_singleton] at hm
        exact own_notin S4.out.2.1.sld S4.out.2.1.box (by decide) (by rw [hm]; simp [own, Value.ownBlock])))
      have q5 := hbl.cell (i := 5) rfl
      have z5 := hbl.frozen 5
      obtain ⟨f1, f2⟩ := lose_state S4.out.2.1 (A ++ C) ho5 hk5 hmA (fun k p hkp => by
        obtain ⟨h1, h2⟩ := delKeys_some xs T.has k p hkp
        obtain ⟨t, ht, hp, hkey⟩ := H.out.hasAt k p h1
        refine ⟨t, ?_, hp, hkey⟩
        by_cases hin : t ∈ r.ths
        · exact absurd hkey (h2 t.it (by
            rw [HXS.out]
            exact List.mem_map.2 ⟨t, List.mem_filter.2 ⟨hin, by unfold Lg.cur; rw [hkey, h1, hp]; simp⟩, rfl⟩))
        · unfold Lg.all at ht
          rw [HAC.out] at ht
          simp only [List.flatMap_append, List.flatMap_cons, List.mem_append] at ht ⊢
          rcases ht with (h3 | h3 | h3) | h3
          · exact .inl (.inl h3)
          · exact absurd h3 hin
          · exact .inl (.inr h3)
          · exact .inr h3) (w' := w5.setCell ⟨l, 5, none⟩ (.slice (some ⟨g, 0, none⟩) (A ++ C).length c5)) rfl
      have TT : Hid (LosePost w l d m (.slice (some ⟨g, 0, none⟩) T.regs.length c5) v6 v7 T P (.returned (.slice va j vc)) (w5.setCell ⟨l, 5, none⟩ (.slice (some ⟨g, 0, none⟩) (n5 - 1) c5))) := by
        rw [e5]
        have hgl : g < w.heap.size := own_lt H.out.sld g (by simp [own, Value.ownBlock])
        have hll : l < w.heap.size := H.out.box.lt
        refine ⟨va, j, vc, .slice (some ⟨g, 0, none⟩) (A ++ C).length c5, rfl, by rw [HLT.out, ← HXS.out]; exact HVN.out, ?_, ?_, ?_, fun q hq => hq⟩
        · rw [HLT.out, ← HXS.out]
          have hrw := S4.out.1
          rw [← HVN.out] at hrw
          refine hrw.keep (fun q hq => f2.block q (hrw.lt q hq).2 (fun hm => ?_))
          have h1 := (hrw.lt q hq).1
          simp only [List.mem_cons, List.not_mem_nil, or_false] at hm
          rcases hm with rfl | rfl <;> omega
        · rw [HLS.out, ← HXS.out]; exact f1
        · refine (S4.out.2.2.1.mono (fun q hq => .inl ?_)).trans f2 (fun q hq => .inl ?_)
          · simp only [List.mem_singleton] at hq; simp [hq]
          · simp only [List.mem_cons, List.not_mem_nil, or_false] at hq
            rcases hq with rfl | rfl <;> simp [own, Value.ownBlock]
      rw [← HN5.out] at q5
      clear cD hb5 hk5 e5 ho5 hmA hbl f1 f2 S4
      go_wp2
      go_ret
      rw [HN5.out] at *
      exact TT.out
end
theorem lose_any {w : World} {l d m : Nat} {v5 v6 v7 : Value} {T : Lg} (h : LgIn w l d m v5 v6 v7 T) (P : Nat) (hr : T.regs.length ≤ 100) (hbig : T.all.length ≤ 40000) (q : Nat) :
    Calls Try.prog 33 #[.pointer (some ⟨l, 0, none⟩), .int .i64 (P : Int)] (w.drewN q) (LosePost w l d m v5 v6 v7 T P) := by
  cases hP : idxP P T.regs with
  | none => exact lose_idle h P hP hr q
  | some i => exact (lose_at (w := w.drewN q) (h.heap rfl) P i hP hr hbig).mono (fun e w' hp => hp.ofDrew)
end Go.Proofs.Ytbjkahdlejaheab
