/- The document's Sorted: the walk. -/
import Derived.Test.YtkjfildnemgbiaaRfD
set_option linter.unusedVariables false
set_option linter.unusedSimpArgs false
set_option maxRecDepth 8000
namespace Go.Proofs.Ytkjfildnemgbiaa
open Go.RowKit Go.Deep Go.Shelf Math Tab Go.Sort
theorem wp_region_j8 {Pr : Program} {ops : Array Oper} {Q : Exit → Act → World → Prop} {id : Nat} {a0 : Act} {w : World} (hm : Pr.follows .mixedOrders = true) (hp : plainRegion ops = true) (A : World) (val : Nat → Value) (x : List UInt8) (P R : List (List UInt8)) (hA : A = { w with drawn := w.drawn + 1 })
    (hops : ∀ i o, ops[i]? = some o → ∀ (listed : Array Bool) (V : Nat → Value) (w' : World) (ev : Operand → Value), listed.size = ops.size → J8 ops A val x P R (fun j => listed.getD j false) V w' → listed.getD i false = false → (∀ k, edgeOf ops i k = true → listed.getD k false = true) →
      (∀ t j e, ownOf ops t = some j → e ∈ o.after.toList → Region.binds .any e = true → e.on = j → t < a0.tmps.size → ev (.tmp t) = V j) →
      (∀ t, ownOf ops t = none → t < a0.tmps.size → ev (.tmp t) = a0.eval (.tmp t)) → (∀ t j, ownOf ops t = some j → listed.getD j false = false → t < a0.tmps.size → ev (.tmp t) = a0.eval (.tmp t)) → (∀ v, ev (.const v) = v) → (∀ f, ev (.func f) = .func (.func f) #[] #[]) →
      OpRunsY Pr ev o w' fun v w'' => J8 ops A val x P R (fun j => (listed.setIfInBounds i true).getD j false) (setV V i v) w'')
    (hend : ∀ V w', J8 ops A val x P R (fun j => (Array.replicate ops.size true).getD j false) V w' → Q .normal (lexF V 0 ops.toList a0) w') : (Code.region id ops true).wp Pr Q a0 w :=
  wp_region_ey hm hp (fun listed V W => J8 ops A val x P R (fun j => listed.getD j false) V W) (J8.start hA) hops hend
section
variable {B : Nat} {w w' : World} {f nb ob nx : Nat} {vN vO : List Value} {nw od : Ch} {kv vv : Value} {ks : List (List UInt8)} {vs : List Int} {key : List UInt8}
set_option maxHeartbeats 8000000 in
theorem rsorted_any (h : RfIn B w f nb ob nx vN vO nw od kv vv ks vs) (n1 : ks.length ≤ 1000) :
    Calls Try.prog 25 #[.pointer (some ⟨f, 0, none⟩)] w fun e w' => ∃ va m vc, e = .returned (.slice va m vc) ∧ m = ks.length ∧ SR w.heap.size (.slice va m vc) (sortK ks) w' ∧ Below w.heap.size w w' := by
  have c3 := h.own.cell (i := 3) rfl
  have hfl := h.own.lt
  obtain ⟨ka, kc, hkv⟩ := h.kk.slice
  rw [hkv] at c3
  have HR : Hid (RdA w ka ks ∧ f < w.heap.size) := ⟨by have := h.kk; rw [hkv] at this; exact this.rd, hfl⟩
  obtain ⟨n, hn⟩ : ∃ n, n = ks.length := ⟨_, rfl⟩
  rw [← hn] at c3 n1
  have HN := hide hn
  have HC3 : Hid (w.cell? ⟨f, 3, none⟩ = some (.slice ka n kc)) := c3
  have HN9 := hide n1
  clear h hkv hn hfl c3
  go_enter Try.func25, Try.ntmps25
  go_wp2
  go_loopg [3, 4] n (fun kx s3 s4 wr => ∃ (i m : Nat) (va : Option Addr) (vc : Nat), s3 = .slice va m vc ∧ s4 = .int .i64 i ∧ Hid (i ≤ n ∧ n - i ≤ kx ∧ m = i ∧ SR w.heap.size (.slice va m vc) (sortK (ks.take i)) wr ∧ Below w.heap.size w wr))
  case atStart => exact ⟨0, 0, none, 0, rfl, rfl, Nat.zero_le _, Nat.le_refl _, rfl, by simpa [sortK] using SR.nil _ _, Below.refl _ _⟩
  case round =>
    obtain ⟨i, m, va, vc, rfl, rfl, I⟩ := hrel
    have c3 := (I.out.2.2.2.2.cell (p := ⟨f, 3, none⟩) HR.out.2).trans HC3.out
    by_cases hlt : i < n
    · have hlt2 : (i : Int) < (n : Int) := by omega
      have g1 := List.getElem?_eq_getElem (l := ks) (i := i) (by rw [← HN.out]; exact hlt)
      obtain ⟨x, hx⟩ : ∃ x, x = ks[i]'(by rw [← HN.out]; exact hlt) := ⟨_, rfl⟩
      rw [← hx] at g1
      obtain ⟨g, o1, rfl, k1⟩ := (HR.out.1.below I.out.2.2.2.2) i x g1
      have HT : Hid (ks.take (i + 1) = ks.take i ++ [x]) := by
        obtain ⟨h1, h2⟩ := List.getElem?_eq_some_iff.1 g1
        exact (by rw [List.take_succ_eq_append_getElem h1, h2] : ks.take (i + 1) = ks.take i ++ [x])
      obtain ⟨ls, hls⟩ : ∃ ls, ls = sortK (ks.take i) := ⟨_, rfl⟩
      have HLS := hide hls
      have hsl : ls.length = i := by rw [hls, sortK_len2, List.length_take]; have := HN.out; omega
      have HSL := hide hsl
      obtain rfl : m = i := I.out.2.2.1
      have HS : Hid (SR w.heap.size (.slice va m vc) ls wr) := by rw [hls]; exact I.out.2.2.2.1
      have HI : Hid (n - m ≤ _ ∧ Below w.heap.size w wr) := ⟨I.out.2.1, I.out.2.2.2.2⟩
      obtain ⟨tx, htx⟩ : ∃ tx, tx = txt x := ⟨_, rfl⟩
      rw [← htx] at k1
      have HTX := hide htx
      clear I hx g1 hls hsl htx
      obtain ⟨wo, hwo⟩ : ∃ wo, wo = wr := ⟨_, rfl⟩
      subst hwo
      have HLT : Hid (m < n) := hlt
      have C3 := hide c3
      have K1 := hide k1
      clear k1
      go_wp2_with fail
      clear c3
      go_loopg [5] m (fun kx s5 wr => ∃ (k : Nat), s5 = .int .i64 k ∧ Hid (k ≤ m ∧ m - k ≤ kx ∧ (∃ q, wr = wo.drewN q) ∧ ∀ y ∈ ls.take k, y < x))
      case atStart => exact ⟨0, rfl, Nat.zero_le _, Nat.le_refl _, ⟨0, rfl⟩, by simp⟩
      case round =>
        obtain ⟨k, rfl, JJ⟩ := hrel
        have hm9 : m ≤ 1000 := by have := HN9.out; omega
        have hk9 := JJ.out.1
        have c3 : wr.cell? ⟨f, 3, none⟩ = some (.slice (some ⟨g, o1, none⟩) n kc) := by obtain ⟨q, hq⟩ := JJ.out.2.2.1; rw [hq]; exact C3.out
        have k1 : wr.cell? ⟨g, o1 + m, none⟩ = some (.string tx) := by obtain ⟨q, hq⟩ := JJ.out.2.2.1; rw [hq]; exact K1.out
        by_cases hkm : k < m
        · have hk2 : ((k : Int) < (m : Int)) = True := eq_true (by omega)
          have hk3 : (k < m) = True := eq_true hkm
          obtain ⟨y, hy⟩ : ∃ y, ls[k]? = some y := ⟨_, List.getElem?_eq_getElem (by rw [HSL.out]; exact hkm)⟩
          obtain ⟨gy, cy, hvy, ky, _, _⟩ := HS.out.cell hy
          simp only [Value.slice.injEq] at hvy
          obtain ⟨hva, -, -⟩ := hvy
          subst hva
          have ky2 : wr.cell? ⟨gy, k, none⟩ = some (.string (txt y)) := by obtain ⟨q, hq⟩ := JJ.out.2.2.1; rw [hq]; exact ky
          have hless : Op.bytesLess (txt y).toList tx.toList = decide (y < x) := by rw [HTX.out, txt_list, txt_list, bytesLess_eq]
          have HY := hide hy
          clear ky hy
          by_cases hyx : y < x
          · rw [decide_eq_true hyx] at hless
            have HYX := hide hyx
            clear hyx
            generalize txt y = ty at *
            go_wp2
            go_quiet (fail)
            go_wp2
            go_roundg (m - (k + 1))
            case measure => have := JJ.out.2.1; omega
            case rel =>
              obtain ⟨j1, j2, ⟨q, hq⟩, j4⟩ := JJ.out
              refine ⟨k + 1, rfl, by omega, Nat.le_refl _, ⟨q + nq, by rw [hq]; simp [World.drewN, Nat.add_assoc]⟩, fun z hz => ?_⟩
              obtain ⟨e1, e2⟩ := List.getElem?_eq_some_iff.1 HY.out
              rw [List.take_succ_eq_append_getElem e1, e2, List.mem_append] at hz
              rcases hz with hz | hz
              · exact j4 z hz
              · rw [List.mem_singleton.1 hz]; exact HYX.out
          · rw [decide_eq_false hyx] at hless
            have HNO : Hid (∀ z, ls[k]? = some z → ¬ z < x) := fun z hz => by rw [HY.out] at hz; obtain rfl := Option.some.inj hz; exact hyx
            clear hyx
            generalize txt y = ty at *
            have H0 := hide (And.intro c3 k1)
            go_wp2
            go_quiet (fail)
            go_wp2_with fail
            have JD : Hid (∃ q, wr.drewN nq = wo.drewN q) := by obtain ⟨q, hq⟩ := JJ.out.2.2.1; exact ⟨q + nq, by rw [hq]; simp [World.drewN, Nat.add_assoc]⟩
            obtain ⟨wz, hwz⟩ : ∃ wz, wz = wr.drewN nq := ⟨_, rfl⟩
            rw [← hwz] at JD ⊢
            clear hwz
            obtain ⟨A, hA⟩ : ∃ A, A = { wz with drawn := wz.drawn + 1 } := ⟨_, rfl⟩
            have bA : Below wo.heap.size wo A := by
              rw [hA]
              obtain ⟨q, hq⟩ := JD.out
              subst hq
              exact ⟨rfl, rfl, rfl, Nat.le_refl _, fun _ _ => rfl⟩
            have hAo : A.heap.size = wo.heap.size := by
              rw [hA]
              obtain ⟨q, hq⟩ := JD.out
              subst hq
              rfl
            obtain ⟨h3, h16, s3, t3, s16, t16⟩ := slices_any (HS.out.below bA) k (by rw [HSL.out]; exact JJ.out.1) (by rw [HSL.out]; have := HN9.out; omega)
            have HS3 := hide (And.intro s3 t3)
            have HS16 := hide (And.intro s16 t16)
            have hfo : f < wo.heap.size := Nat.lt_of_lt_of_le HR.out.2 HI.out.2.size
            have hgo : g < wo.heap.size := block_lt_of_cell K1.out
            have HC3' : Hid (A.cell? ⟨f, 3, none⟩ = some (.slice (some ⟨g, o1, none⟩) n kc)) := (bA.cell (p := ⟨f, 3, none⟩) hfo).trans C3.out
            have HCK : Hid (A.cell? ⟨g, o1 + m, none⟩ = some (.string tx)) := (bA.cell (p := ⟨g, o1 + m, none⟩) hgo).trans K1.out
            have HL : Hid (f < A.heap.size ∧ g < A.heap.size) := ⟨by rw [hAo]; exact hfo, by rw [hAo]; exact hgo⟩
            have HIN : Hid (m < n) := HLT.out
            have HLL : Hid (ls.length ≤ 1000) := hide (by rw [HSL.out]; have := HN9.out; have := HLT.out; omega)
            have HA : Hid (A = { wz with drawn := wz.drawn + 1 }) := hA
            have HE : Hid (∀ v W, GR strK A.heap.size v (ls.take k ++ [x] ++ ls.drop k) W → Below A.heap.size A W → ∃ (va : Option Addr) (vc : Nat), v = .slice va (m + 1) vc ∧ SR w.heap.size (.slice va (m + 1) vc) (sortK (ks.take (m + 1))) W ∧ Below w.heap.size w W) := fun v W hG hW => by
              have e := ins_sort (l := ks.take m) (x := x) (k := k) (by rw [← HLS.out]; exact JJ.out.2.2.2) (by rw [← HLS.out]; exact HNO.out)
              rw [← HLS.out, ← HT.out] at e
              rw [e] at hG
              obtain ⟨va, vc, hv⟩ := hG.slice
              have hl : (sortK (ks.take (m + 1))).length = m + 1 := by rw [sortK_len2, List.length_take]; have := HN.out; have := HIN.out; omega
              rw [hl] at hv
              subst hv
              exact ⟨va, vc, rfl, hG.sr.lower (by rw [hAo]; exact HI.out.2.size), HI.out.2.trans ((bA.trans (hW.mono (Nat.le_of_eq hAo.symm))).mono HI.out.2.size)⟩
            clear hA bA hAo s3 t3 s16 t16 hfo hgo JJ HNO
            refine wp_region_j8 (by kernel_rfl) (by kernel_rfl) A (fun jx => ([undef, .slice (some ⟨gy, 0, none⟩) m vc, .int .i64 (k : Int), h3, undef, .pointer (some ⟨f, 0, none⟩), .pointer (some ⟨f, 0, none⟩), .pointer (some ⟨f, 3, none⟩), .slice (some ⟨g, o1, none⟩) n kc, .int .i64 (m : Int), .pointer (some ⟨g, o1 + m, none⟩), .string tx, undef, undef, .slice (some ⟨gy, 0, none⟩) m vc, .int .i64 (k : Int), h16, undef, undef] : List Value).getD jx undef) x (ls.take k) (ls.drop k) HA.out ?_ ?_
            · intro jx ox hi listed V w' ev hsz hJ hff hdir hin hout hold hcst hfn
              have hltx : jx < 19 := by
                have := (Array.getElem?_eq_some_iff.1 hi).1
                simpa using this
              have hsz2 : jx < listed.size := by rw [hsz]; exact hltx
              match jx, hltx with
              | 0, _ =>
                simp only [List.getElem?_toArray, List.getElem?_cons_zero, List.getElem?_cons_succ, Option.some.injEq] at hi
                subst hi
                refine .inl ⟨_, _, ?_, J8.out hsz2 (hJ.z0 (by kernel_rfl) hff hdir)⟩
                have q := run_noneS w'
                simp [execOp, hcst, q, Result.andThen]
              | 1, _ =>
                simp only [List.getElem?_toArray, List.getElem?_cons_zero, List.getElem?_cons_succ, Option.some.injEq] at hi
                subst hi
                have h18 : listed.getD 18 false = false := by
                  cases hx : listed.getD 18 false with
                  | false => rfl
                  | true => exact absurd (hJ.cl 18 1 (by kernel_rfl) hx) (by rw [hff]; decide)
                have e0 : ev (.tmp 3) = .slice (some ⟨gy, 0, none⟩) m vc := hold 3 18 (by kernel_rfl) h18 (show (3 : Nat) < 54 by decide)
                refine .inl ⟨.slice (some ⟨gy, 0, none⟩) m vc, w', ?_, J8.out hsz2 (hJ.pure 1 (by decide) (by decide) (by decide) (by decide) (by decide) (by decide) hdir)⟩
                simp [execOp, e0, hcst, go_sem]
              | 2, _ =>
                simp only [List.getElem?_toArray, List.getElem?_cons_zero, List.getElem?_cons_succ, Option.some.injEq] at hi
                subst hi
                have e0 : ev (.tmp 5) = .int .i64 (k : Int) := hout 5 (by kernel_rfl) (show (5 : Nat) < 54 by decide)
                refine .inl ⟨.int .i64 (k : Int), w', ?_, J8.out hsz2 (hJ.pure 2 (by decide) (by decide) (by decide) (by decide) (by decide) (by decide) hdir)⟩
                simp [execOp, e0, hcst, go_sem]
              | 3, _ =>
                simp only [List.getElem?_toArray, List.getElem?_cons_zero, List.getElem?_cons_succ, Option.some.injEq] at hi
                subst hi
                have e0 : ev (.tmp 36) = .slice (some ⟨gy, 0, none⟩) m vc := (hin 36 1 ⟨1, .data⟩ (by kernel_rfl) (by simp) rfl rfl (show (36 : Nat) < 54 by decide)).trans (hJ.pu 1 (hdir 1 (by kernel_rfl)) (by decide) (by decide) (by decide) (by decide) (by decide) (by decide))
                have e1 : ev (.tmp 37) = .int .i64 (k : Int) := (hin 37 2 ⟨2, .data⟩ (by kernel_rfl) (by simp) rfl rfl (show (37 : Nat) < 54 by decide)).trans (hJ.pu 2 (hdir 2 (by kernel_rfl)) (by decide) (by decide) (by decide) (by decide) (by decide) (by decide))
                refine .inl ⟨h3, w', ?_, J8.out hsz2 (hJ.pure 3 (by decide) (by decide) (by decide) (by decide) (by decide) (by decide) hdir)⟩
                have q := HS3.out.1 w'
                simp [execOp, e0, e1, hcst, q, Result.andThen]
              | 4, _ =>
                simp only [List.getElem?_toArray, List.getElem?_cons_zero, List.getElem?_cons_succ, Option.some.injEq] at hi
                subst hi
                have e0 : ev (.tmp 35) = V 0 := hin 35 0 ⟨0, .data⟩ (by kernel_rfl) (by simp) rfl rfl (show (35 : Nat) < 54 by decide)
                have e1 : ev (.tmp 38) = h3 := (hin 38 3 ⟨3, .data⟩ (by kernel_rfl) (by simp) rfl rfl (show (38 : Nat) < 54 by decide)).trans (hJ.pu 3 (hdir 3 (by kernel_rfl)) (by decide) (by decide) (by decide) (by decide) (by decide) (by decide))
                obtain ⟨v9, W9, r9, g9, k9', o9⟩ := app_g (hJ.a0 (hdir 0 (by kernel_rfl)) hff) hJ.bel.size (HS3.out.2.below hJ.bel) (by simp; have := HLL.out; omega)
                refine .inl ⟨v9, W9, ?_, J8.out hsz2 (hJ.z4 (by kernel_rfl) hff hdir (hdir 0 (by kernel_rfl)) g9 k9' o9 (by kernel_rfl))⟩
                have q : ∀ ty, (Builtin.append_ #[29, 29] ty #[V 0, h3]).run Try.prog w' = .ok v9 W9 := r9
                simp [execOp, e0, e1, hcst, resolve, invoke, builtin, Result.andThen, q]
              | 5, _ =>
                simp only [List.getElem?_toArray, List.getElem?_cons_zero, List.getElem?_cons_succ, Option.some.injEq] at hi
                subst hi
                have e0 : ev (.tmp 0) = .pointer (some ⟨f, 0, none⟩) := hout 0 (by kernel_rfl) (show (0 : Nat) < 54 by decide)
                refine .inl ⟨.pointer (some ⟨f, 0, none⟩), w', ?_, J8.out hsz2 (hJ.pure 5 (by decide) (by decide) (by decide) (by decide) (by decide) (by decide) hdir)⟩
                simp [execOp, e0, hcst, go_sem]
              | 6, _ =>
                simp only [List.getElem?_toArray, List.getElem?_cons_zero, List.getElem?_cons_succ, Option.some.injEq] at hi
                subst hi
                have e0 : ev (.tmp 40) = .pointer (some ⟨f, 0, none⟩) := (hin 40 5 ⟨5, .data⟩ (by kernel_rfl) (by simp) rfl rfl (show (40 : Nat) < 54 by decide)).trans (hJ.pu 5 (hdir 5 (by kernel_rfl)) (by decide) (by decide) (by decide) (by decide) (by decide) (by decide))
                refine .inl ⟨.pointer (some ⟨f, 0, none⟩), w', ?_, J8.out hsz2 (hJ.pure 6 (by decide) (by decide) (by decide) (by decide) (by decide) (by decide) hdir)⟩
                simp [execOp, e0, hcst, go_sem]
              | 7, _ =>
                simp only [List.getElem?_toArray, List.getElem?_cons_zero, List.getElem?_cons_succ, Option.some.injEq] at hi
                subst hi
                have e0 : ev (.tmp 41) = .pointer (some ⟨f, 0, none⟩) := (hin 41 6 ⟨6, .data⟩ (by kernel_rfl) (by simp) rfl rfl (show (41 : Nat) < 54 by decide)).trans (hJ.pu 6 (hdir 6 (by kernel_rfl)) (by decide) (by decide) (by decide) (by decide) (by decide) (by decide))
                refine .inl ⟨.pointer (some ⟨f, 3, none⟩), w', ?_, J8.out hsz2 (hJ.pure 7 (by decide) (by decide) (by decide) (by decide) (by decide) (by decide) hdir)⟩
                simp [execOp, e0, hcst, go_sem]
              | 8, _ =>
                simp only [List.getElem?_toArray, List.getElem?_cons_zero, List.getElem?_cons_succ, Option.some.injEq] at hi
                subst hi
                have e0 : ev (.tmp 42) = .pointer (some ⟨f, 3, none⟩) := (hin 42 7 ⟨7, .data⟩ (by kernel_rfl) (by simp) rfl rfl (show (42 : Nat) < 54 by decide)).trans (hJ.pu 7 (hdir 7 (by kernel_rfl)) (by decide) (by decide) (by decide) (by decide) (by decide) (by decide))
                refine .inl ⟨.slice (some ⟨g, o1, none⟩) n kc, w', ?_, J8.out hsz2 (hJ.pure 8 (by decide) (by decide) (by decide) (by decide) (by decide) (by decide) hdir)⟩
                have q := (hJ.bel.cell (p := ⟨f, 3, none⟩) HL.out.1).trans HC3'.out
                simp [execOp, e0, hcst, go_sem, q]
              | 9, _ =>
                simp only [List.getElem?_toArray, List.getElem?_cons_zero, List.getElem?_cons_succ, Option.some.injEq] at hi
                subst hi
                have e0 : ev (.tmp 4) = .int .i64 (m : Int) := hout 4 (by kernel_rfl) (show (4 : Nat) < 54 by decide)
                refine .inl ⟨.int .i64 (m : Int), w', ?_, J8.out hsz2 (hJ.pure 9 (by decide) (by decide) (by decide) (by decide) (by decide) (by decide) hdir)⟩
                simp [execOp, e0, hcst, go_sem]
              | 10, _ =>
                simp only [List.getElem?_toArray, List.getElem?_cons_zero, List.getElem?_cons_succ, Option.some.injEq] at hi
                subst hi
                have e0 : ev (.tmp 43) = .slice (some ⟨g, o1, none⟩) n kc := (hin 43 8 ⟨8, .data⟩ (by kernel_rfl) (by simp) rfl rfl (show (43 : Nat) < 54 by decide)).trans (hJ.pu 8 (hdir 8 (by kernel_rfl)) (by decide) (by decide) (by decide) (by decide) (by decide) (by decide))
                have e1 : ev (.tmp 44) = .int .i64 (m : Int) := (hin 44 9 ⟨9, .data⟩ (by kernel_rfl) (by simp) rfl rfl (show (44 : Nat) < 54 by decide)).trans (hJ.pu 9 (hdir 9 (by kernel_rfl)) (by decide) (by decide) (by decide) (by decide) (by decide) (by decide))
                refine .inl ⟨.pointer (some ⟨g, o1 + m, none⟩), w', ?_, J8.out hsz2 (hJ.pure 10 (by decide) (by decide) (by decide) (by decide) (by decide) (by decide) hdir)⟩
                have q := HIN.out
                simp [execOp, e0, e1, hcst, go_sem, q]
              | 11, _ =>
                simp only [List.getElem?_toArray, List.getElem?_cons_zero, List.getElem?_cons_succ, Option.some.injEq] at hi
                subst hi
                have e0 : ev (.tmp 45) = .pointer (some ⟨g, o1 + m, none⟩) := (hin 45 10 ⟨10, .data⟩ (by kernel_rfl) (by simp) rfl rfl (show (45 : Nat) < 54 by decide)).trans (hJ.pu 10 (hdir 10 (by kernel_rfl)) (by decide) (by decide) (by decide) (by decide) (by decide) (by decide))
                refine .inl ⟨.string tx, w', ?_, J8.out hsz2 (hJ.pure 11 (by decide) (by decide) (by decide) (by decide) (by decide) (by decide) hdir)⟩
                have q := (hJ.bel.cell (p := ⟨g, o1 + m, none⟩) HL.out.2).trans HCK.out
                simp [execOp, e0, hcst, go_sem, q]
              | 12, _ =>
                simp only [List.getElem?_toArray, List.getElem?_cons_zero, List.getElem?_cons_succ, Option.some.injEq] at hi
                subst hi
                have e0 : ev (.tmp 46) = .string tx := (hin 46 11 ⟨11, .data⟩ (by kernel_rfl) (by simp) rfl rfl (show (46 : Nat) < 54 by decide)).trans (hJ.pu 11 (hdir 11 (by kernel_rfl)) (by decide) (by decide) (by decide) (by decide) (by decide) (by decide))
                refine .inl ⟨_, _, ?_, J8.out hsz2 (hJ.z12 (by kernel_rfl) hff hdir)⟩
                have hx := HTX.out
                subst hx
                simp [execOp, e0, hcst, go_sem, Result.andThen]
                try rfl
              | 13, _ =>
                simp only [List.getElem?_toArray, List.getElem?_cons_zero, List.getElem?_cons_succ, Option.some.injEq] at hi
                subst hi
                have e0 : ev (.tmp 39) = V 4 := hin 39 4 ⟨4, .data⟩ (by kernel_rfl) (by simp) rfl rfl (show (39 : Nat) < 54 by decide)
                have e1 : ev (.tmp 47) = V 12 := hin 47 12 ⟨12, .data⟩ (by kernel_rfl) (by simp) rfl rfl (show (47 : Nat) < 54 by decide)
                obtain ⟨v9, W9, r9, g9, k9', o9⟩ := app_g (hJ.a4 (hdir 4 (by kernel_rfl)) hff) hJ.bel.size ((hJ.a12 (hdir 12 (by kernel_rfl)) hff).1.src) (by simp; have := HLL.out; omega)
                refine .inl ⟨v9, W9, ?_, J8.out hsz2 (hJ.z13 (by kernel_rfl) hff hdir (hdir 4 (by kernel_rfl)) g9 k9')⟩
                have q : ∀ ty, (Builtin.append_ #[29, 29] ty #[V 4, V 12]).run Try.prog w' = .ok v9 W9 := r9
                simp [execOp, e0, e1, hcst, resolve, invoke, builtin, Result.andThen, q]
              | 14, _ =>
                simp only [List.getElem?_toArray, List.getElem?_cons_zero, List.getElem?_cons_succ, Option.some.injEq] at hi
                subst hi
                have h18 : listed.getD 18 false = false := by
                  cases hx : listed.getD 18 false with
                  | false => rfl
                  | true => exact absurd (hJ.cl 18 14 (by kernel_rfl) hx) (by rw [hff]; decide)
                have e0 : ev (.tmp 3) = .slice (some ⟨gy, 0, none⟩) m vc := hold 3 18 (by kernel_rfl) h18 (show (3 : Nat) < 54 by decide)
                refine .inl ⟨.slice (some ⟨gy, 0, none⟩) m vc, w', ?_, J8.out hsz2 (hJ.pure 14 (by decide) (by decide) (by decide) (by decide) (by decide) (by decide) hdir)⟩
                simp [execOp, e0, hcst, go_sem]
              | 15, _ =>
                simp only [List.getElem?_toArray, List.getElem?_cons_zero, List.getElem?_cons_succ, Option.some.injEq] at hi
                subst hi
                have e0 : ev (.tmp 5) = .int .i64 (k : Int) := hout 5 (by kernel_rfl) (show (5 : Nat) < 54 by decide)
                refine .inl ⟨.int .i64 (k : Int), w', ?_, J8.out hsz2 (hJ.pure 15 (by decide) (by decide) (by decide) (by decide) (by decide) (by decide) hdir)⟩
                simp [execOp, e0, hcst, go_sem]
              | 16, _ =>
                simp only [List.getElem?_toArray, List.getElem?_cons_zero, List.getElem?_cons_succ, Option.some.injEq] at hi
                subst hi
                have e0 : ev (.tmp 49) = .slice (some ⟨gy, 0, none⟩) m vc := (hin 49 14 ⟨14, .data⟩ (by kernel_rfl) (by simp) rfl rfl (show (49 : Nat) < 54 by decide)).trans (hJ.pu 14 (hdir 14 (by kernel_rfl)) (by decide) (by decide) (by decide) (by decide) (by decide) (by decide))
                have e1 : ev (.tmp 50) = .int .i64 (k : Int) := (hin 50 15 ⟨15, .data⟩ (by kernel_rfl) (by simp) rfl rfl (show (50 : Nat) < 54 by decide)).trans (hJ.pu 15 (hdir 15 (by kernel_rfl)) (by decide) (by decide) (by decide) (by decide) (by decide) (by decide))
                refine .inl ⟨h16, w', ?_, J8.out hsz2 (hJ.pure 16 (by decide) (by decide) (by decide) (by decide) (by decide) (by decide) hdir)⟩
                have q := HS16.out.1 w'
                simp [execOp, e0, e1, hcst, q, Result.andThen]
              | 17, _ =>
                simp only [List.getElem?_toArray, List.getElem?_cons_zero, List.getElem?_cons_succ, Option.some.injEq] at hi
                subst hi
                have e0 : ev (.tmp 48) = V 13 := hin 48 13 ⟨13, .data⟩ (by kernel_rfl) (by simp) rfl rfl (show (48 : Nat) < 54 by decide)
                have e1 : ev (.tmp 51) = h16 := (hin 51 16 ⟨16, .data⟩ (by kernel_rfl) (by simp) rfl rfl (show (51 : Nat) < 54 by decide)).trans (hJ.pu 16 (hdir 16 (by kernel_rfl)) (by decide) (by decide) (by decide) (by decide) (by decide) (by decide))
                obtain ⟨v9, W9, r9, g9, k9', o9⟩ := app_g (hJ.a13 (hdir 13 (by kernel_rfl)) hff) hJ.bel.size (HS16.out.2.below hJ.bel) (by simp; have := HLL.out; omega)
                refine .inl ⟨v9, W9, ?_, J8.out hsz2 (hJ.z17 (by kernel_rfl) (by kernel_rfl) hff hdir (hdir 13 (by kernel_rfl)) g9 k9')⟩
                have q : ∀ ty, (Builtin.append_ #[29, 29] ty #[V 13, h16]).run Try.prog w' = .ok v9 W9 := r9
                simp [execOp, e0, e1, hcst, resolve, invoke, builtin, Result.andThen, q]
              | 18, _ =>
                simp only [List.getElem?_toArray, List.getElem?_cons_zero, List.getElem?_cons_succ, Option.some.injEq] at hi
                subst hi
                have e0 : ev (.tmp 52) = V 17 := hin 52 17 ⟨17, .data⟩ (by kernel_rfl) (by simp) rfl rfl (show (52 : Nat) < 54 by decide)
                refine .inl ⟨V 17, w', ?_, J8.out hsz2 (hJ.z18 hdir)⟩
                simp [execOp, e0, hcst, go_sem]
            · intro V w9 hc
              simp only [lexF, Act.put, List.setIfInBounds_toArray, List.set_cons_succ, List.set_cons_zero, List.getD_cons_succ, List.getD_cons_zero]
              have hG := hc.a17 (by simp)
              have h18 := hc.a18 (by simp)
              obtain ⟨va', vc', hv, hS2, hB2⟩ := HE.out _ w9 hG hc.bel
              have HF := hide (And.intro hS2 hB2)
              rw [h18, hv]
              clear hc hG h18 hS2 hB2 HE HL HIN HLL HCK HC3' HS3 HS16 HA
              generalize V 0 = y0 at *
              generalize V 1 = y1 at *
              go_wp2
              go_roundg (n - (m + 1))
              case measure => have := HI.out.1; omega
              case rel => exact ⟨m + 1, m + 1, va', vc', rfl, rfl, by omega, Nat.le_refl _, rfl, HF.out.1, HF.out.2⟩
        · have hk2 : ((k : Int) < (m : Int)) = False := eq_false (by omega)
          have hk3 : (k < m) = False := eq_false hkm
          have HNO : Hid (∀ z, ls[k]? = some z → ¬ z < x) := fun z hz => by
            have := (List.getElem?_eq_some_iff.1 hz).1
            rw [HSL.out] at this
            exact absurd this hkm
          have H0 := hide (And.intro c3 k1)
          go_wp2
          go_quiet (fail)
          go_wp2_with fail
          have JD : Hid (∃ q, wr.drewN nq = wo.drewN q) := by obtain ⟨q, hq⟩ := JJ.out.2.2.1; exact ⟨q + nq, by rw [hq]; simp [World.drewN, Nat.add_assoc]⟩
          obtain ⟨wz, hwz⟩ : ∃ wz, wz = wr.drewN nq := ⟨_, rfl⟩
          rw [← hwz] at JD ⊢
          clear hwz
          obtain ⟨A, hA⟩ : ∃ A, A = { wz with drawn := wz.drawn + 1 } := ⟨_, rfl⟩
          have bA : Below wo.heap.size wo A := by
            rw [hA]
            obtain ⟨q, hq⟩ := JD.out
            subst hq
            exact ⟨rfl, rfl, rfl, Nat.le_refl _, fun _ _ => rfl⟩
          have hAo : A.heap.size = wo.heap.size := by
            rw [hA]
            obtain ⟨q, hq⟩ := JD.out
            subst hq
            rfl
          obtain ⟨h3, h16, s3, t3, s16, t16⟩ := slices_any (HS.out.below bA) k (by rw [HSL.out]; exact JJ.out.1) (by rw [HSL.out]; have := HN9.out; omega)
          have HS3 := hide (And.intro s3 t3)
          have HS16 := hide (And.intro s16 t16)
          have hfo : f < wo.heap.size := Nat.lt_of_lt_of_le HR.out.2 HI.out.2.size
          have hgo : g < wo.heap.size := block_lt_of_cell K1.out
          have HC3' : Hid (A.cell? ⟨f, 3, none⟩ = some (.slice (some ⟨g, o1, none⟩) n kc)) := (bA.cell (p := ⟨f, 3, none⟩) hfo).trans C3.out
          have HCK : Hid (A.cell? ⟨g, o1 + m, none⟩ = some (.string tx)) := (bA.cell (p := ⟨g, o1 + m, none⟩) hgo).trans K1.out
          have HL : Hid (f < A.heap.size ∧ g < A.heap.size) := ⟨by rw [hAo]; exact hfo, by rw [hAo]; exact hgo⟩
          have HIN : Hid (m < n) := HLT.out
          have HLL : Hid (ls.length ≤ 1000) := hide (by rw [HSL.out]; have := HN9.out; have := HLT.out; omega)
          have HA : Hid (A = { wz with drawn := wz.drawn + 1 }) := hA
          have HE : Hid (∀ v W, GR strK A.heap.size v (ls.take k ++ [x] ++ ls.drop k) W → Below A.heap.size A W → ∃ (va : Option Addr) (vc : Nat), v = .slice va (m + 1) vc ∧ SR w.heap.size (.slice va (m + 1) vc) (sortK (ks.take (m + 1))) W ∧ Below w.heap.size w W) := fun v W hG hW => by
            have e := ins_sort (l := ks.take m) (x := x) (k := k) (by rw [← HLS.out]; exact JJ.out.2.2.2) (by rw [← HLS.out]; exact HNO.out)
            rw [← HLS.out, ← HT.out] at e
            rw [e] at hG
            obtain ⟨va, vc, hv⟩ := hG.slice
            have hl : (sortK (ks.take (m + 1))).length = m + 1 := by rw [sortK_len2, List.length_take]; have := HN.out; have := HIN.out; omega
            rw [hl] at hv
            subst hv
            exact ⟨va, vc, rfl, hG.sr.lower (by rw [hAo]; exact HI.out.2.size), HI.out.2.trans ((bA.trans (hW.mono (Nat.le_of_eq hAo.symm))).mono HI.out.2.size)⟩
          clear hA bA hAo s3 t3 s16 t16 hfo hgo JJ HNO
          refine wp_region_j8 (by kernel_rfl) (by kernel_rfl) A (fun jx => ([undef, .slice va m vc, .int .i64 (k : Int), h3, undef, .pointer (some ⟨f, 0, none⟩), .pointer (some ⟨f, 0, none⟩), .pointer (some ⟨f, 3, none⟩), .slice (some ⟨g, o1, none⟩) n kc, .int .i64 (m : Int), .pointer (some ⟨g, o1 + m, none⟩), .string tx, undef, undef, .slice va m vc, .int .i64 (k : Int), h16, undef, undef] : List Value).getD jx undef) x (ls.take k) (ls.drop k) HA.out ?_ ?_
          · intro jx ox hi listed V w' ev hsz hJ hff hdir hin hout hold hcst hfn
            have hltx : jx < 19 := by
              have := (Array.getElem?_eq_some_iff.1 hi).1
              simpa using this
            have hsz2 : jx < listed.size := by rw [hsz]; exact hltx
            match jx, hltx with
            | 0, _ =>
              simp only [List.getElem?_toArray, List.getElem?_cons_zero, List.getElem?_cons_succ, Option.some.injEq] at hi
              subst hi
              refine .inl ⟨_, _, ?_, J8.out hsz2 (hJ.z0 (by kernel_rfl) hff hdir)⟩
              have q := run_noneS w'
              simp [execOp, hcst, q, Result.andThen]
            | 1, _ =>
              simp only [List.getElem?_toArray, List.getElem?_cons_zero, List.getElem?_cons_succ, Option.some.injEq] at hi
              subst hi
              have h18 : listed.getD 18 false = false := by
                cases hx : listed.getD 18 false with
                | false => rfl
                | true => exact absurd (hJ.cl 18 1 (by kernel_rfl) hx) (by rw [hff]; decide)
              have e0 : ev (.tmp 3) = .slice va m vc := hold 3 18 (by kernel_rfl) h18 (show (3 : Nat) < 54 by decide)
              refine .inl ⟨.slice va m vc, w', ?_, J8.out hsz2 (hJ.pure 1 (by decide) (by decide) (by decide) (by decide) (by decide) (by decide) hdir)⟩
              simp [execOp, e0, hcst, go_sem]
            | 2, _ =>
              simp only [List.getElem?_toArray, List.getElem?_cons_zero, List.getElem?_cons_succ, Option.some.injEq] at hi
              subst hi
              have e0 : ev (.tmp 5) = .int .i64 (k : Int) := hout 5 (by kernel_rfl) (show (5 : Nat) < 54 by decide)
              refine .inl ⟨.int .i64 (k : Int), w', ?_, J8.out hsz2 (hJ.pure 2 (by decide) (by decide) (by decide) (by decide) (by decide) (by decide) hdir)⟩
              simp [execOp, e0, hcst, go_sem]
            | 3, _ =>
              simp only [List.getElem?_toArray, List.getElem?_cons_zero, List.getElem?_cons_succ, Option.some.injEq] at hi
              subst hi
              have e0 : ev (.tmp 36) = .slice va m vc := (hin 36 1 ⟨1, .data⟩ (by kernel_rfl) (by simp) rfl rfl (show (36 : Nat) < 54 by decide)).trans (hJ.pu 1 (hdir 1 (by kernel_rfl)) (by decide) (by decide) (by decide) (by decide) (by decide) (by decide))
              have e1 : ev (.tmp 37) = .int .i64 (k : Int) := (hin 37 2 ⟨2, .data⟩ (by kernel_rfl) (by simp) rfl rfl (show (37 : Nat) < 54 by decide)).trans (hJ.pu 2 (hdir 2 (by kernel_rfl)) (by decide) (by decide) (by decide) (by decide) (by decide) (by decide))
              refine .inl ⟨h3, w', ?_, J8.out hsz2 (hJ.pure 3 (by decide) (by decide) (by decide) (by decide) (by decide) (by decide) hdir)⟩
              have q := HS3.out.1 w'
              simp [execOp, e0, e1, hcst, q, Result.andThen]
            | 4, _ =>
              simp only [List.getElem?_toArray, List.getElem?_cons_zero, List.getElem?_cons_succ, Option.some.injEq] at hi
              subst hi
              have e0 : ev (.tmp 35) = V 0 := hin 35 0 ⟨0, .data⟩ (by kernel_rfl) (by simp) rfl rfl (show (35 : Nat) < 54 by decide)
              have e1 : ev (.tmp 38) = h3 := (hin 38 3 ⟨3, .data⟩ (by kernel_rfl) (by simp) rfl rfl (show (38 : Nat) < 54 by decide)).trans (hJ.pu 3 (hdir 3 (by kernel_rfl)) (by decide) (by decide) (by decide) (by decide) (by decide) (by decide))
              obtain ⟨v9, W9, r9, g9, k9', o9⟩ := app_g (hJ.a0 (hdir 0 (by kernel_rfl)) hff) hJ.bel.size (HS3.out.2.below hJ.bel) (by simp; have := HLL.out; omega)
              refine .inl ⟨v9, W9, ?_, J8.out hsz2 (hJ.z4 (by kernel_rfl) hff hdir (hdir 0 (by kernel_rfl)) g9 k9' o9 (by kernel_rfl))⟩
              have q : ∀ ty, (Builtin.append_ #[29, 29] ty #[V 0, h3]).run Try.prog w' = .ok v9 W9 := r9
              simp [execOp, e0, e1, hcst, resolve, invoke, builtin, Result.andThen, q]
            | 5, _ =>
              simp only [List.getElem?_toArray, List.getElem?_cons_zero, List.getElem?_cons_succ, Option.some.injEq] at hi
              subst hi
              have e0 : ev (.tmp 0) = .pointer (some ⟨f, 0, none⟩) := hout 0 (by kernel_rfl) (show (0 : Nat) < 54 by decide)
              refine .inl ⟨.pointer (some ⟨f, 0, none⟩), w', ?_, J8.out hsz2 (hJ.pure 5 (by decide) (by decide) (by decide) (by decide) (by decide) (by decide) hdir)⟩
              simp [execOp, e0, hcst, go_sem]
            | 6, _ =>
              simp only [List.getElem?_toArray, List.getElem?_cons_zero, List.getElem?_cons_succ, Option.some.injEq] at hi
              subst hi
              have e0 : ev (.tmp 40) = .pointer (some ⟨f, 0, none⟩) := (hin 40 5 ⟨5, .data⟩ (by kernel_rfl) (by simp) rfl rfl (show (40 : Nat) < 54 by decide)).trans (hJ.pu 5 (hdir 5 (by kernel_rfl)) (by decide) (by decide) (by decide) (by decide) (by decide) (by decide))
              refine .inl ⟨.pointer (some ⟨f, 0, none⟩), w', ?_, J8.out hsz2 (hJ.pure 6 (by decide) (by decide) (by decide) (by decide) (by decide) (by decide) hdir)⟩
              simp [execOp, e0, hcst, go_sem]
            | 7, _ =>
              simp only [List.getElem?_toArray, List.getElem?_cons_zero, List.getElem?_cons_succ, Option.some.injEq] at hi
              subst hi
              have e0 : ev (.tmp 41) = .pointer (some ⟨f, 0, none⟩) := (hin 41 6 ⟨6, .data⟩ (by kernel_rfl) (by simp) rfl rfl (show (41 : Nat) < 54 by decide)).trans (hJ.pu 6 (hdir 6 (by kernel_rfl)) (by decide) (by decide) (by decide) (by decide) (by decide) (by decide))
              refine .inl ⟨.pointer (some ⟨f, 3, none⟩), w', ?_, J8.out hsz2 (hJ.pure 7 (by decide) (by decide) (by decide) (by decide) (by decide) (by decide) hdir)⟩
              simp [execOp, e0, hcst, go_sem]
            | 8, _ =>
              simp only [List.getElem?_toArray, List.getElem?_cons_zero, List.getElem?_cons_succ, Option.some.injEq] at hi
              subst hi
              have e0 : ev (.tmp 42) = .pointer (some ⟨f, 3, none⟩) := (hin 42 7 ⟨7, .data⟩ (by kernel_rfl) (by simp) rfl rfl (show (42 : Nat) < 54 by decide)).trans (hJ.pu 7 (hdir 7 (by kernel_rfl)) (by decide) (by decide) (by decide) (by decide) (by decide) (by decide))
              refine .inl ⟨.slice (some ⟨g, o1, none⟩) n kc, w', ?_, J8.out hsz2 (hJ.pure 8 (by decide) (by decide) (by decide) (by decide) (by decide) (by decide) hdir)⟩
              have q := (hJ.bel.cell (p := ⟨f, 3, none⟩) HL.out.1).trans HC3'.out
              simp [execOp, e0, hcst, go_sem, q]
            | 9, _ =>
              simp only [List.getElem?_toArray, List.getElem?_cons_zero, List.getElem?_cons_succ, Option.some.injEq] at hi
              subst hi
              have e0 : ev (.tmp 4) = .int .i64 (m : Int) := hout 4 (by kernel_rfl) (show (4 : Nat) < 54 by decide)
              refine .inl ⟨.int .i64 (m : Int), w', ?_, J8.out hsz2 (hJ.pure 9 (by decide) (by decide) (by decide) (by decide) (by decide) (by decide) hdir)⟩
              simp [execOp, e0, hcst, go_sem]
            | 10, _ =>
              simp only [List.getElem?_toArray, List.getElem?_cons_zero, List.getElem?_cons_succ, Option.some.injEq] at hi
              subst hi
              have e0 : ev (.tmp 43) = .slice (some ⟨g, o1, none⟩) n kc := (hin 43 8 ⟨8, .data⟩ (by kernel_rfl) (by simp) rfl rfl (show (43 : Nat) < 54 by decide)).trans (hJ.pu 8 (hdir 8 (by kernel_rfl)) (by decide) (by decide) (by decide) (by decide) (by decide) (by decide))
              have e1 : ev (.tmp 44) = .int .i64 (m : Int) := (hin 44 9 ⟨9, .data⟩ (by kernel_rfl) (by simp) rfl rfl (show (44 : Nat) < 54 by decide)).trans (hJ.pu 9 (hdir 9 (by kernel_rfl)) (by decide) (by decide) (by decide) (by decide) (by decide) (by decide))
              refine .inl ⟨.pointer (some ⟨g, o1 + m, none⟩), w', ?_, J8.out hsz2 (hJ.pure 10 (by decide) (by decide) (by decide) (by decide) (by decide) (by decide) hdir)⟩
              have q := HIN.out
              simp [execOp, e0, e1, hcst, go_sem, q]
            | 11, _ =>
              simp only [List.getElem?_toArray, List.getElem?_cons_zero, List.getElem?_cons_succ, Option.some.injEq] at hi
              subst hi
              have e0 : ev (.tmp 45) = .pointer (some ⟨g, o1 + m, none⟩) := (hin 45 10 ⟨10, .data⟩ (by kernel_rfl) (by simp) rfl rfl (show (45 : Nat) < 54 by decide)).trans (hJ.pu 10 (hdir 10 (by kernel_rfl)) (by decide) (by decide) (by decide) (by decide) (by decide) (by decide))
              refine .inl ⟨.string tx, w', ?_, J8.out hsz2 (hJ.pure 11 (by decide) (by decide) (by decide) (by decide) (by decide) (by decide) hdir)⟩
              have q := (hJ.bel.cell (p := ⟨g, o1 + m, none⟩) HL.out.2).trans HCK.out
              simp [execOp, e0, hcst, go_sem, q]
            | 12, _ =>
              simp only [List.getElem?_toArray, List.getElem?_cons_zero, List.getElem?_cons_succ, Option.some.injEq] at hi
              subst hi
              have e0 : ev (.tmp 46) = .string tx := (hin 46 11 ⟨11, .data⟩ (by kernel_rfl) (by simp) rfl rfl (show (46 : Nat) < 54 by decide)).trans (hJ.pu 11 (hdir 11 (by kernel_rfl)) (by decide) (by decide) (by decide) (by decide) (by decide) (by decide))
              refine .inl ⟨_, _, ?_, J8.out hsz2 (hJ.z12 (by kernel_rfl) hff hdir)⟩
              have hx := HTX.out
              subst hx
              simp [execOp, e0, hcst, go_sem, Result.andThen]
              try rfl
            | 13, _ =>
              simp only [List.getElem?_toArray, List.getElem?_cons_zero, List.getElem?_cons_succ, Option.some.injEq] at hi
              subst hi
              have e0 : ev (.tmp 39) = V 4 := hin 39 4 ⟨4, .data⟩ (by kernel_rfl) (by simp) rfl rfl (show (39 : Nat) < 54 by decide)
              have e1 : ev (.tmp 47) = V 12 := hin 47 12 ⟨12, .data⟩ (by kernel_rfl) (by simp) rfl rfl (show (47 : Nat) < 54 by decide)
              obtain ⟨v9, W9, r9, g9, k9', o9⟩ := app_g (hJ.a4 (hdir 4 (by kernel_rfl)) hff) hJ.bel.size ((hJ.a12 (hdir 12 (by kernel_rfl)) hff).1.src) (by simp; have := HLL.out; omega)
              refine .inl ⟨v9, W9, ?_, J8.out hsz2 (hJ.z13 (by kernel_rfl) hff hdir (hdir 4 (by kernel_rfl)) g9 k9')⟩
              have q : ∀ ty, (Builtin.append_ #[29, 29] ty #[V 4, V 12]).run Try.prog w' = .ok v9 W9 := r9
              simp [execOp, e0, e1, hcst, resolve, invoke, builtin, Result.andThen, q]
            | 14, _ =>
              simp only [List.getElem?_toArray, List.getElem?_cons_zero, List.getElem?_cons_succ, Option.some.injEq] at hi
              subst hi
              have h18 : listed.getD 18 false = false := by
                cases hx : listed.getD 18 false with
                | false => rfl
                | true => exact absurd (hJ.cl 18 14 (by kernel_rfl) hx) (by rw [hff]; decide)
              have e0 : ev (.tmp 3) = .slice va m vc := hold 3 18 (by kernel_rfl) h18 (show (3 : Nat) < 54 by decide)
              refine .inl ⟨.slice va m vc, w', ?_, J8.out hsz2 (hJ.pure 14 (by decide) (by decide) (by decide) (by decide) (by decide) (by decide) hdir)⟩
              simp [execOp, e0, hcst, go_sem]
            | 15, _ =>
              simp only [List.getElem?_toArray, List.getElem?_cons_zero, List.getElem?_cons_succ, Option.some.injEq] at hi
              subst hi
              have e0 : ev (.tmp 5) = .int .i64 (k : Int) := hout 5 (by kernel_rfl) (show (5 : Nat) < 54 by decide)
              refine .inl ⟨.int .i64 (k : Int), w', ?_, J8.out hsz2 (hJ.pure 15 (by decide) (by decide) (by decide) (by decide) (by decide) (by decide) hdir)⟩
              simp [execOp, e0, hcst, go_sem]
            | 16, _ =>
              simp only [List.getElem?_toArray, List.getElem?_cons_zero, List.getElem?_cons_succ, Option.some.injEq] at hi
              subst hi
              have e0 : ev (.tmp 49) = .slice va m vc := (hin 49 14 ⟨14, .data⟩ (by kernel_rfl) (by simp) rfl rfl (show (49 : Nat) < 54 by decide)).trans (hJ.pu 14 (hdir 14 (by kernel_rfl)) (by decide) (by decide) (by decide) (by decide) (by decide) (by decide))
              have e1 : ev (.tmp 50) = .int .i64 (k : Int) := (hin 50 15 ⟨15, .data⟩ (by kernel_rfl) (by simp) rfl rfl (show (50 : Nat) < 54 by decide)).trans (hJ.pu 15 (hdir 15 (by kernel_rfl)) (by decide) (by decide) (by decide) (by decide) (by decide) (by decide))
              refine .inl ⟨h16, w', ?_, J8.out hsz2 (hJ.pure 16 (by decide) (by decide) (by decide) (by decide) (by decide) (by decide) hdir)⟩
              have q := HS16.out.1 w'
              simp [execOp, e0, e1, hcst, q, Result.andThen]
            | 17, _ =>
              simp only [List.getElem?_toArray, List.getElem?_cons_zero, List.getElem?_cons_succ, Option.some.injEq] at hi
              subst hi
              have e0 : ev (.tmp 48) = V 13 := hin 48 13 ⟨13, .data⟩ (by kernel_rfl) (by simp) rfl rfl (show (48 : Nat) < 54 by decide)
              have e1 : ev (.tmp 51) = h16 := (hin 51 16 ⟨16, .data⟩ (by kernel_rfl) (by simp) rfl rfl (show (51 : Nat) < 54 by decide)).trans (hJ.pu 16 (hdir 16 (by kernel_rfl)) (by decide) (by decide) (by decide) (by decide) (by decide) (by decide))
              obtain ⟨v9, W9, r9, g9, k9', o9⟩ := app_g (hJ.a13 (hdir 13 (by kernel_rfl)) hff) hJ.bel.size (HS16.out.2.below hJ.bel) (by simp; have := HLL.out; omega)
              refine .inl ⟨v9, W9, ?_, J8.out hsz2 (hJ.z17 (by kernel_rfl) (by kernel_rfl) hff hdir (hdir 13 (by kernel_rfl)) g9 k9')⟩
              have q : ∀ ty, (Builtin.append_ #[29, 29] ty #[V 13, h16]).run Try.prog w' = .ok v9 W9 := r9
              simp [execOp, e0, e1, hcst, resolve, invoke, builtin, Result.andThen, q]
            | 18, _ =>
              simp only [List.getElem?_toArray, List.getElem?_cons_zero, List.getElem?_cons_succ, Option.some.injEq] at hi
              subst hi
              have e0 : ev (.tmp 52) = V 17 := hin 52 17 ⟨17, .data⟩ (by kernel_rfl) (by simp) rfl rfl (show (52 : Nat) < 54 by decide)
              refine .inl ⟨V 17, w', ?_, J8.out hsz2 (hJ.z18 hdir)⟩
              simp [execOp, e0, hcst, go_sem]
          · intro V w9 hc
            simp only [lexF, Act.put, List.setIfInBounds_toArray, List.set_cons_succ, List.set_cons_zero, List.getD_cons_succ, List.getD_cons_zero]
            have hG := hc.a17 (by simp)
            have h18 := hc.a18 (by simp)
            obtain ⟨va', vc', hv, hS2, hB2⟩ := HE.out _ w9 hG hc.bel
            have HF := hide (And.intro hS2 hB2)
            rw [h18, hv]
            clear hc hG h18 hS2 hB2 HE HL HIN HLL HCK HC3' HS3 HS16 HA
            generalize V 0 = y0 at *
            generalize V 1 = y1 at *
            go_wp2
            go_roundg (n - (m + 1))
            case measure => have := HI.out.1; omega
            case rel => exact ⟨m + 1, m + 1, va', vc', rfl, rfl, by omega, Nat.le_refl _, rfl, HF.out.1, HF.out.2⟩
    · have hlt2 : ¬ (i : Int) < (n : Int) := by omega
      obtain ⟨i1, i2, rfl, i4, i5⟩ := I.out
      rw [List.take_of_length_le (by have := HN.out; omega)] at i4
      have HZ : Hid (m = ks.length ∧ SR w.heap.size (.slice va m vc) (sortK ks) wr ∧ Below w.heap.size w wr) := ⟨by have := HN.out; omega, i4, i5⟩
      clear i1 i2 i4 i5 I
      go_wp2
      go_ret
      exact ⟨va, m, vc, rfl, HZ.out⟩
end
end Go.Proofs.Ytkjfildnemgbiaa
