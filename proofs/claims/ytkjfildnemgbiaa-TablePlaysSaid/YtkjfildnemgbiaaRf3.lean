/- The document's put. -/
import Derived.Test.YtkjfildnemgbiaaRf2
set_option linter.unusedVariables false
set_option linter.unusedSimpArgs false
set_option maxRecDepth 8000
namespace Go.Proofs.Ytkjfildnemgbiaa
open Go.RowKit Go.Deep Go.Shelf Math Tab Go.Sort

/-- The world as a region's operations turn it. -/
def CC4 (A B C D : World) (n : Nat) (W : World) : Prop := match n with
  | 0 => W = A
  | 1 => W = B
  | 2 => W = C
  | _ => W = D
section
variable {B : Nat} {w w' : World} {f nb ob nx : Nat} {vN vO : List Value} {nw od : Ch} {kv vv : Value} {ks : List (List UInt8)} {vs : List Int} {key : List UInt8}
/-- One new bucket is another row then. -/
theorem RfIn.setN (h : RfIn B w f nb ob nx vN vO nw od kv vv ks vs) {W : World} (b : Below w.heap.size w W) (hB : B ≤ w.heap.size) {i : Nat} (hi : i < nw.length) {v : Value} {ss : List (List UInt8)} (hS : SR B v ss W) (hq : ∀ q ∈ ownB v, w.heap.size ≤ q) :
    RfIn B (W.setCell ⟨nb, i, none⟩ v) f nb ob nx (vN.set i v) vO (nw.set i ss) od kv vv ks vs := by
  have hW := h.below b
  have oth : ∀ q, q ≠ nb → (W.setCell ⟨nb, i, none⟩ v).heap[q]? = W.heap[q]? := fun q hq => blk_setCell_other _ _ _ _ hq
  have ks2 : ∀ {v' : Value} {ss : List (List UInt8)}, SR B v' ss W → SR B v' ss (W.setCell ⟨nb, i, none⟩ v) := fun hS => hS.sameB (fun q hq => by
    obtain ⟨_, c, hc⟩ := own_ty hS.row hq
    exact oth q (fun e => hW.rN.not_ty (e ▸ hc) (by decide) rfl))
  have hkq : ∀ q ∈ ownB kv, q < w.heap.size := fun q hq => by
    obtain ⟨_, c, hc⟩ := own_ty h.kk.row (mem_own.1 hq)
    exact (Array.getElem?_eq_some_iff.1 hc).1
  refine ⟨?_, hW.rN.set i v, by simp [h.lN], fun j ss' hj => ?_, fun h0 => (hW.rO h0).same (oth ob (hW.ne h0).symm), h.ne, h.lO, h.zO, fun j ss' hj => ?_, ks2 hW.kk, hW.kn.same (fun q hq => ?_), h.lf, h.lb, h.lo⟩
  · rw [List.length_set]
    exact hW.own.same (oth f (hW.own.ty_ne hW.rN (by decide)))
  · rw [List.getElem?_set] at hj
    by_cases e : i = j
    · subst e
      rw [if_pos rfl, if_pos hi] at hj
      obtain rfl := Option.some.inj hj
      refine ⟨v, by rw [List.getElem?_set, if_pos rfl, if_pos (by rw [h.lN]; exact hi)], ks2 hS, fun q h1 h2 => ?_⟩
      have := hq q h1
      have := hkq q h2
      omega
    · rw [if_neg e] at hj
      obtain ⟨v', h1, h2, h3⟩ := hW.eN j ss' hj
      exact ⟨v', by rw [List.getElem?_set, if_neg e]; exact h1, ks2 h2, h3⟩
  · obtain ⟨v', h1, h2, h3⟩ := hW.eO j ss' hj
    exact ⟨v', h1, ks2 h2, h3⟩
  · obtain ⟨_, c, hc⟩ := own_ty hW.kn.row hq
    exact oth q (fun e => hW.rN.not_ty (e ▸ hc) (by decide) rfl)
theorem below_drawn (w : World) : Below w.heap.size w { w with drawn := w.drawn + 1 } := ⟨rfl, rfl, rfl, Nat.le_refl _, fun _ _ => rfl⟩
set_option maxHeartbeats 4000000 in
theorem rput_any (h : RfIn B w f nb ob nx vN vO nw od kv vv ks vs) (hB : B ≤ w.heap.size) (key : List UInt8) (hk : key.length ≤ maxLen) (n1 : 1 ≤ nw.length) (n9 : nw.length ≤ 131072) (m9 : ∀ ss ∈ nw, ss.length ≤ 100000) :
    Calls Try.prog 39 #[.pointer (some ⟨f, 0, none⟩), .string (txt key)] w fun e w' => e = .returned (.tuple #[]) ∧
      ∃ vN', RfIn B w' f nb ob nx vN' vO (nw.set (hsh key % nw.length) (key :: nw.getD (hsh key % nw.length) [])) od kv vv ks vs ∧ Keep [nb] w w' := by
  have Hh := hide h
  have c0 := h.own.cell (i := 0) rfl
  have cH := hide (fun W => refHash_txt key hk W)
  obtain ⟨b, hb⟩ : ∃ b, b = hsh key % nw.length := ⟨_, rfl⟩
  have hbn : b < nw.length := hb ▸ Nat.mod_lt _ n1
  have hbv := getD_some (l := nw) hbn
  obtain ⟨ss, hss⟩ : ∃ ss, ss = nw.getD b [] := ⟨_, rfl⟩
  rw [← hss] at hbv
  obtain ⟨v, hv, hvS, hvX⟩ := h.eN b ss hbv
  obtain ⟨va, vc, hvs⟩ := hvS.slice
  have cb := h.rN.cell hv
  rw [hvs] at cb
  obtain ⟨x, hx⟩ : ∃ x, x = hsh key := ⟨_, rfl⟩
  have hl := hsh_lt key
  rw [← hx] at cH hl
  have e1 : ((x : Nat) : Int).tmod (nw.length : Int) = (b : Int) := by
    rw [hb, hx, Int.tmod_eq_emod_of_nonneg (by omega)]; omega
  have e2 : IntKind.i64.wrap (b : Int) = (b : Int) := by rw [IntKind.wrap_i64]; omega
  have e3 : IntKind.u64.wrap (b : Int) = (b : Int) := by rw [IntKind.wrap_u64]; omega
  rw [← hb, ← hss]
  obtain ⟨m, hm⟩ : ∃ m, m = ss.length := ⟨_, rfl⟩
  rw [← hm] at cb hvs
  have mm : ss.length + 1 ≤ 1048576 := by have := m9 ss (List.mem_of_getElem? hbv); omega
  obtain ⟨n, hn⟩ : ∃ n, n = nw.length := ⟨_, rfl⟩
  rw [← hn] at c0 n1 n9 e1
  have HBN : Hid (b < n) := by rw [hn]; exact hbn
  have HM := hide hm
  have HV : Hid (SR B (.slice va m vc) ss w) := by rw [← hvs]; exact hvS
  have HN := hide hn
  have HBN2 := hide hbn
  obtain ⟨tk, htk⟩ : ∃ tk, tk = txt key := ⟨_, rfl⟩
  rw [← htk] at cH ⊢
  have HTK := hide htk
  clear h hb hbv hss hv hvS hvX hvs hx hm hn hbn m9 htk hk
  go_enter Try.func39, Try.ntmps39
  go_wp2
  go_quiet (first | (go_at_call 46; exact Calls.quiet_of_same (cH.out _)))
  have c0' : (w.drewN nq).cell? ⟨f, 0, none⟩ = some (.slice (some ⟨nb, 0, none⟩) n n) := by rw [World.cell?_drewN]; exact c0
  have cb' : (w.drewN nq).cell? ⟨nb, b, none⟩ = some (.slice va m vc) := by rw [World.cell?_drewN]; exact cb
  have Hh' := hide (Hh.out.drewN nq)
  have HV' : Hid (SR B (.slice va m vc) ss (w.drewN nq)) := HV.out.same rfl
  have HK0 : Hid (Keep [nb] w (w.drewN nq)) := ⟨rfl, rfl, rfl, Nat.le_refl _, fun _ _ _ => rfl⟩
  obtain ⟨W1, hW⟩ : ∃ W1, W1 = w.drewN nq := ⟨_, rfl⟩
  rw [← hW] at c0' cb' Hh' HV' HK0 ⊢
  have hB1 : B ≤ W1.heap.size := by rw [hW]; exact hB
  clear hW c0 cb Hh HV cH hB
  go_wp2
  obtain ⟨A, hA⟩ : ∃ A, A = { W1 with drawn := W1.drawn + 1 } := ⟨_, rfl⟩
  have bA : Below W1.heap.size W1 A := by rw [hA]; exact below_drawn W1
  have hAs : A.heap.size = W1.heap.size := by rw [hA]
  have hS : Src strK A (.slice va m vc) ss := (HV'.out.gr.below bA).src
  obtain ⟨va2, vc2, A2, hr, hG, hB2, hO⟩ := front_g strK (by rw [hAs]; exact hB1) key hS mm
  rw [← HM.out] at hr hG hO
  have e0 : strK.enc key = .string tk := by rw [HTK.out]; rfl
  rw [e0] at hr
  have HR : Hid (∀ ty, (Builtin.append_ #[29, 29] ty #[.slice (some ⟨A.heap.size, 0, none⟩) 1 1, .slice va m vc]).run Try.prog (A.alloc (.cells #[.string tk] 9)) = .ok (.slice va2 (m + 1) vc2) A2) := hr
  have bA2 : Below W1.heap.size W1 A2 := bA.trans (hB2.mono (by rw [hAs]; exact Nat.le_refl _))
  have bA1 : Below W1.heap.size W1 (A.alloc (.cells #[.string tk] 9)) := bA.alloc (by rw [hAs]; exact Nat.le_refl _) _
  have hfl := Hh'.out.own.lt
  have hnl := Hh'.out.rN.lt
  have HF : Hid (∀ s W, s ≤ 2 → CC4 A (A.alloc (.cells #[.string tk] 9)) A2 (A2.setCell ⟨nb, b, none⟩ (.slice va2 (m + 1) vc2)) s W → W.cell? ⟨f, 0, none⟩ = some (.slice (some ⟨nb, 0, none⟩) n n) ∧ (s ≤ 1 → W.cell? ⟨nb, b, none⟩ = some (.slice va m vc))) := fun s W hs hc => by
    have key2 : ∀ Z, Below W1.heap.size W1 Z → Z.cell? ⟨f, 0, none⟩ = some (.slice (some ⟨nb, 0, none⟩) n n) ∧ Z.cell? ⟨nb, b, none⟩ = some (.slice va m vc) := fun Z hZ => ⟨(hZ.cell (p := ⟨f, 0, none⟩) hfl).trans c0', (hZ.cell (p := ⟨nb, b, none⟩) hnl).trans cb'⟩
    match s, hs, hc with
    | 0, _, hc => have hc : W = A := hc; subst hc; exact ⟨(key2 _ bA).1, fun _ => (key2 _ bA).2⟩
    | 1, _, hc => have hc : W = _ := hc; subst hc; exact ⟨(key2 _ bA1).1, fun _ => (key2 _ bA1).2⟩
    | 2, _, hc => have hc : W = A2 := hc; subst hc; exact ⟨(key2 _ bA2).1, fun h => absurd h (by decide)⟩
  have HC2 : Hid (A2.cell? ⟨nb, b, none⟩ = some (.slice va m vc) ∧ A2.frozen? ⟨nb, b, none⟩ = false) := by
    have hr2 := Hh'.out.rN.same (bA2.block nb hnl)
    exact ⟨(bA2.cell (p := ⟨nb, b, none⟩) hnl).trans cb', hr2.frozen b⟩
  have HA : Hid (CC4 A (A.alloc (.cells #[.string tk] 9)) A2 (A2.setCell ⟨nb, b, none⟩ (.slice va2 (m + 1) vc2)) 0 { W1 with drawn := W1.drawn + 1 }) := hA.symm
  have HE : Hid (RfIn B (A2.setCell ⟨nb, b, none⟩ (.slice va2 (m + 1) vc2)) f nb ob nx (vN.set b (.slice va2 (m + 1) vc2)) vO (nw.set b (key :: ss)) od kv vv ks vs ∧ Keep [nb] w (A2.setCell ⟨nb, b, none⟩ (.slice va2 (m + 1) vc2))) := by
    refine ⟨Hh'.out.setN bA2 hB1 HBN2.out hG.sr (fun q hq => by have := hO q hq; rw [hAs] at this; exact this), ?_⟩
    exact (HK0.out.trans (Keep.of_below (F := []) bA2) (fun x hx => by cases hx)).setCell (.inl (by simp)) _
  clear hr hG hB2 hO hS bA bA1 bA2 hA hAs hfl hnl hB1
  refine wp_region_chainp (by kernel_rfl) (by kernel_rfl) (fun jx => ([.pointer (some ⟨f, 0, none⟩), .pointer (some ⟨f, 0, none⟩), .pointer (some ⟨f, 0, none⟩), .slice (some ⟨nb, 0, none⟩) n n, .int .i64 (b : Int), .string tk, .slice (some ⟨A.heap.size, 0, none⟩) 1 1, .pointer (some ⟨f, 0, none⟩), .pointer (some ⟨f, 0, none⟩), .pointer (some ⟨f, 0, none⟩), .slice (some ⟨nb, 0, none⟩) n n, .int .i64 (b : Int), .pointer (some ⟨nb, b, none⟩), .slice va m vc, .slice va2 (m + 1) vc2, .pointer (some ⟨nb, b, none⟩), undef] : List Value).getD jx undef) [6, 14, 16] (by kernel_rfl) (CC4 A (A.alloc (.cells #[.string tk] 9)) A2 (A2.setCell ⟨nb, b, none⟩ (.slice va2 (m + 1) vc2))) (HA.out) ?_ ?_
  · intro jx ox hi sx w' ev hlm hks hc hin hout hold hcst hfn
    have hltx : jx < 17 := by
      have := (Array.getElem?_eq_some_iff.1 hi).1
      simpa using this
    match jx, hltx with
    | 0, _ =>
      simp only [List.getElem?_toArray, List.getElem?_cons_zero, List.getElem?_cons_succ, Option.some.injEq] at hi
      subst hi
      have e0 : ev (.tmp 0) = .pointer (some ⟨f, 0, none⟩) := hout 0 (by kernel_rfl) (show (0 : Nat) < 31 by decide)
      rw [if_neg (by decide)]
      refine .inl ⟨w', ?_, hc⟩
      show _ = Result.ok (Next.value (.pointer (some ⟨f, 0, none⟩))) w'
      simp [execOp, e0, hcst, go_sem]
    | 1, _ =>
      simp only [List.getElem?_toArray, List.getElem?_cons_zero, List.getElem?_cons_succ, Option.some.injEq] at hi
      subst hi
      have e0 : ev (.tmp 15) = .pointer (some ⟨f, 0, none⟩) := hin 15 0 ⟨0, .data⟩ (by kernel_rfl) (by simp) rfl rfl (show (15 : Nat) < 31 by decide)
      rw [if_neg (by decide)]
      refine .inl ⟨w', ?_, hc⟩
      show _ = Result.ok (Next.value (.pointer (some ⟨f, 0, none⟩))) w'
      simp [execOp, e0, hcst, go_sem]
    | 2, _ =>
      simp only [List.getElem?_toArray, List.getElem?_cons_zero, List.getElem?_cons_succ, Option.some.injEq] at hi
      subst hi
      have e0 : ev (.tmp 16) = .pointer (some ⟨f, 0, none⟩) := hin 16 1 ⟨1, .data⟩ (by kernel_rfl) (by simp) rfl rfl (show (16 : Nat) < 31 by decide)
      rw [if_neg (by decide)]
      refine .inl ⟨w', ?_, hc⟩
      show _ = Result.ok (Next.value (.pointer (some ⟨f, 0, none⟩))) w'
      simp [execOp, e0, hcst, go_sem]
    | 3, _ =>
      simp only [List.getElem?_toArray, List.getElem?_cons_zero, List.getElem?_cons_succ, Option.some.injEq] at hi
      subst hi
      have e0 : ev (.tmp 17) = .pointer (some ⟨f, 0, none⟩) := hin 17 2 ⟨2, .data⟩ (by kernel_rfl) (by simp) rfl rfl (show (17 : Nat) < 31 by decide)
      rw [if_neg (by decide)]
      refine .inl ⟨w', ?_, hc⟩
      show _ = Result.ok (Next.value (.slice (some ⟨nb, 0, none⟩) n n)) w'
      have hl2 : sx ≤ 2 := Nat.le_trans hlm (Nat.le_of_eq (by kernel_rfl))
      have q := (HF.out sx w' hl2 hc).1
      simp [execOp, e0, hcst, go_sem, q]
    | 4, _ =>
      simp only [List.getElem?_toArray, List.getElem?_cons_zero, List.getElem?_cons_succ, Option.some.injEq] at hi
      subst hi
      have e0 : ev (.tmp 4) = .int .i64 (b : Int) := hout 4 (by kernel_rfl) (show (4 : Nat) < 31 by decide)
      rw [if_neg (by decide)]
      refine .inl ⟨w', ?_, hc⟩
      show _ = Result.ok (Next.value (.int .i64 (b : Int))) w'
      simp [execOp, e0, hcst, go_sem]
    | 5, _ =>
      simp only [List.getElem?_toArray, List.getElem?_cons_zero, List.getElem?_cons_succ, Option.some.injEq] at hi
      subst hi
      have e0 : ev (.tmp 1) = .string tk := hout 1 (by kernel_rfl) (show (1 : Nat) < 31 by decide)
      rw [if_neg (by decide)]
      refine .inl ⟨w', ?_, hc⟩
      show _ = Result.ok (Next.value (.string tk)) w'
      simp [execOp, e0, hcst, go_sem]
    | 6, _ =>
      simp only [List.getElem?_toArray, List.getElem?_cons_zero, List.getElem?_cons_succ, Option.some.injEq] at hi
      subst hi
      have e0 : ev (.tmp 20) = .string tk := hin 20 5 ⟨5, .data⟩ (by kernel_rfl) (by simp) rfl rfl (show (20 : Nat) < 31 by decide)
      rw [if_pos (by decide)]
      have hsx : sx = 0 := hks 0 rfl
      subst hsx
      have hw : w' = A := hc
      subst hw
      refine .inl ⟨w'.alloc (.cells #[.string tk] 9), ?_, rfl⟩
      simp [execOp, e0, hcst, go_sem, Result.andThen]
    | 7, _ =>
      simp only [List.getElem?_toArray, List.getElem?_cons_zero, List.getElem?_cons_succ, Option.some.injEq] at hi
      subst hi
      have e0 : ev (.tmp 0) = .pointer (some ⟨f, 0, none⟩) := hout 0 (by kernel_rfl) (show (0 : Nat) < 31 by decide)
      rw [if_neg (by decide)]
      refine .inl ⟨w', ?_, hc⟩
      show _ = Result.ok (Next.value (.pointer (some ⟨f, 0, none⟩))) w'
      simp [execOp, e0, hcst, go_sem]
    | 8, _ =>
      simp only [List.getElem?_toArray, List.getElem?_cons_zero, List.getElem?_cons_succ, Option.some.injEq] at hi
      subst hi
      have e0 : ev (.tmp 22) = .pointer (some ⟨f, 0, none⟩) := hin 22 7 ⟨7, .data⟩ (by kernel_rfl) (by simp) rfl rfl (show (22 : Nat) < 31 by decide)
      rw [if_neg (by decide)]
      refine .inl ⟨w', ?_, hc⟩
      show _ = Result.ok (Next.value (.pointer (some ⟨f, 0, none⟩))) w'
      simp [execOp, e0, hcst, go_sem]
    | 9, _ =>
      simp only [List.getElem?_toArray, List.getElem?_cons_zero, List.getElem?_cons_succ, Option.some.injEq] at hi
      subst hi
      have e0 : ev (.tmp 23) = .pointer (some ⟨f, 0, none⟩) := hin 23 8 ⟨8, .data⟩ (by kernel_rfl) (by simp) rfl rfl (show (23 : Nat) < 31 by decide)
      rw [if_neg (by decide)]
      refine .inl ⟨w', ?_, hc⟩
      show _ = Result.ok (Next.value (.pointer (some ⟨f, 0, none⟩))) w'
      simp [execOp, e0, hcst, go_sem]
    | 10, _ =>
      simp only [List.getElem?_toArray, List.getElem?_cons_zero, List.getElem?_cons_succ, Option.some.injEq] at hi
      subst hi
      have e0 : ev (.tmp 24) = .pointer (some ⟨f, 0, none⟩) := hin 24 9 ⟨9, .data⟩ (by kernel_rfl) (by simp) rfl rfl (show (24 : Nat) < 31 by decide)
      rw [if_neg (by decide)]
      refine .inl ⟨w', ?_, hc⟩
      show _ = Result.ok (Next.value (.slice (some ⟨nb, 0, none⟩) n n)) w'
      have hl2 : sx ≤ 2 := Nat.le_trans hlm (Nat.le_of_eq (by kernel_rfl))
      have q := (HF.out sx w' hl2 hc).1
      simp [execOp, e0, hcst, go_sem, q]
    | 11, _ =>
      simp only [List.getElem?_toArray, List.getElem?_cons_zero, List.getElem?_cons_succ, Option.some.injEq] at hi
      subst hi
      have e0 : ev (.tmp 4) = .int .i64 (b : Int) := hout 4 (by kernel_rfl) (show (4 : Nat) < 31 by decide)
      rw [if_neg (by decide)]
      refine .inl ⟨w', ?_, hc⟩
      show _ = Result.ok (Next.value (.int .i64 (b : Int))) w'
      simp [execOp, e0, hcst, go_sem]
    | 12, _ =>
      simp only [List.getElem?_toArray, List.getElem?_cons_zero, List.getElem?_cons_succ, Option.some.injEq] at hi
      subst hi
      have e0 : ev (.tmp 25) = .slice (some ⟨nb, 0, none⟩) n n := hin 25 10 ⟨10, .data⟩ (by kernel_rfl) (by simp) rfl rfl (show (25 : Nat) < 31 by decide)
      have e1 : ev (.tmp 26) = .int .i64 (b : Int) := hin 26 11 ⟨11, .data⟩ (by kernel_rfl) (by simp) rfl rfl (show (26 : Nat) < 31 by decide)
      rw [if_neg (by decide)]
      refine .inl ⟨w', ?_, hc⟩
      show _ = Result.ok (Next.value (.pointer (some ⟨nb, b, none⟩))) w'
      have q := HBN.out
      simp [execOp, e0, e1, hcst, go_sem, q]
    | 13, _ =>
      simp only [List.getElem?_toArray, List.getElem?_cons_zero, List.getElem?_cons_succ, Option.some.injEq] at hi
      subst hi
      have e0 : ev (.tmp 27) = .pointer (some ⟨nb, b, none⟩) := hin 27 12 ⟨12, .data⟩ (by kernel_rfl) (by simp) rfl rfl (show (27 : Nat) < 31 by decide)
      rw [if_neg (by decide)]
      refine .inl ⟨w', ?_, hc⟩
      show _ = Result.ok (Next.value (.slice va m vc)) w'
      have hl2 : sx ≤ 1 := Nat.le_trans hlm (Nat.le_of_eq (by kernel_rfl))
      have q := (HF.out sx w' (by omega) hc).2 (by omega)
      simp [execOp, e0, hcst, go_sem, q]
    | 14, _ =>
      simp only [List.getElem?_toArray, List.getElem?_cons_zero, List.getElem?_cons_succ, Option.some.injEq] at hi
      subst hi
      have e0 : ev (.tmp 21) = .slice (some ⟨A.heap.size, 0, none⟩) 1 1 := hin 21 6 ⟨6, .data⟩ (by kernel_rfl) (by simp) rfl rfl (show (21 : Nat) < 31 by decide)
      have e1 : ev (.tmp 28) = .slice va m vc := hin 28 13 ⟨13, .data⟩ (by kernel_rfl) (by simp) rfl rfl (show (28 : Nat) < 31 by decide)
      rw [if_pos (by decide)]
      have hsx : sx = 1 := hks 1 rfl
      subst hsx
      have hw : w' = A.alloc (.cells #[.string tk] 9) := hc
      subst hw
      refine .inl ⟨A2, ?_, rfl⟩
      have q := HR.out
      simp [execOp, e0, e1, hcst, resolve, invoke, builtin, Result.andThen, q]
    | 15, _ =>
      simp only [List.getElem?_toArray, List.getElem?_cons_zero, List.getElem?_cons_succ, Option.some.injEq] at hi
      subst hi
      have e0 : ev (.tmp 18) = .slice (some ⟨nb, 0, none⟩) n n := hin 18 3 ⟨3, .data⟩ (by kernel_rfl) (by simp) rfl rfl (show (18 : Nat) < 31 by decide)
      have e1 : ev (.tmp 19) = .int .i64 (b : Int) := hin 19 4 ⟨4, .data⟩ (by kernel_rfl) (by simp) rfl rfl (show (19 : Nat) < 31 by decide)
      rw [if_neg (by decide)]
      refine .inl ⟨w', ?_, hc⟩
      show _ = Result.ok (Next.value (.pointer (some ⟨nb, b, none⟩))) w'
      have q := HBN.out
      simp [execOp, e0, e1, hcst, go_sem, q]
    | 16, _ =>
      simp only [List.getElem?_toArray, List.getElem?_cons_zero, List.getElem?_cons_succ, Option.some.injEq] at hi
      subst hi
      have e0 : ev (.tmp 30) = .pointer (some ⟨nb, b, none⟩) := hin 30 15 ⟨15, .data⟩ (by kernel_rfl) (by simp) rfl rfl (show (30 : Nat) < 31 by decide)
      have e1 : ev (.tmp 29) = .slice va2 (m + 1) vc2 := hin 29 14 ⟨14, .data⟩ (by kernel_rfl) (by simp) rfl rfl (show (29 : Nat) < 31 by decide)
      rw [if_pos (by decide)]
      have hsx : sx = 2 := hks 2 rfl
      subst hsx
      have hw : w' = A2 := hc
      subst hw
      refine .inr (.inl ⟨rfl, w'.setCell ⟨nb, b, none⟩ (.slice va2 (m + 1) vc2), ?_, rfl⟩)
      have q1 := HC2.out.1
      have q2 := HC2.out.2
      simp [execOp, e0, e1, hcst, go_sem, q1, q2, Result.andThen]
  · intro w9 hc
    simp only [lexF, Act.put, List.setIfInBounds_toArray, List.set_cons_succ, List.set_cons_zero, List.getD_cons_succ, List.getD_cons_zero]
    have hw : w9 = A2.setCell ⟨nb, b, none⟩ (.slice va2 (m + 1) vc2) := hc
    subst hw
    go_wp2
    go_end0
    exact ⟨rfl, _, HE.out⟩
end
end Go.Proofs.Ytkjfildnemgbiaa
