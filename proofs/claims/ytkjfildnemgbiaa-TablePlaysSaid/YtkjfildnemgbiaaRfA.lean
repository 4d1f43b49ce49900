/- The document's Delete. -/
import Derived.Test.YtkjfildnemgbiaaRf9
import Derived.Test.YtkjfildnemgbiaaAnyC
set_option linter.unusedVariables false
set_option linter.unusedSimpArgs false
set_option maxRecDepth 8000
namespace Go.Proofs.Ytkjfildnemgbiaa
open Go.RowKit Go.Deep Go.Shelf Math Tab Go.Sort

theorem enter41 (args : Array Value) (w : World) : (callFunc 41 args).run Try.prog w = .ok (.enter 41 args) w := enters_of Try.func41 (by kernel_rfl) rfl args w
/-- The world as a region's operations turn it. -/
def CC5 (A B C D E : World) (n : Nat) (W : World) : Prop := match n with
  | 0 => W = A
  | 1 => W = B
  | 2 => W = C
  | 3 => W = D
  | _ => W = E
/-- What stands while drop is called, and behind the store of what came. -/
def DrC (W0 : World) (D : Value → World → Prop) (g b : Nat) (s : Nat) (u : Value) (W : World) : Prop := if s = 0 then W = W0 else if s = 1 then D u W else ∃ W1, D u W1 ∧ W = W1.setCell ⟨g, b, none⟩ u
theorem DrC.one {W0 W : World} {D : Value → World → Prop} {g b : Nat} {u : Value} (h : DrC W0 D g b 1 u W) : D u W := h
theorem DrC.two {W0 W : World} {D : Value → World → Prop} {g b : Nat} {u : Value} (h : DrC W0 D g b 2 u W) : ∃ W1, D u W1 ∧ W = W1.setCell ⟨g, b, none⟩ u := h
theorem DrC.mk2 {W0 W : World} {D : Value → World → Prop} {g b : Nat} {u : Value} (h : D u W) : DrC W0 D g b 2 u (W.setCell ⟨g, b, none⟩ u) := ⟨W, h, rfl⟩
section
variable {B : Nat} {w w' : World} {f nb ob nx : Nat} {vN vO : List Value} {nw od : Ch} {kv vv : Value} {ks : List (List UInt8)} {vs : List Int} {key : List UInt8}
theorem RfIn.cutK (h : RfIn B w f nb ob nx vN vO nw od kv vv ks vs) {W : World} (b : Below w.heap.size w W) {v : Value} {ks' : List (List UInt8)} (hS : SR B v ks' W) (hq : ∀ q ∈ ownB v, w.heap.size ≤ q) : RfIn B (W.setCell ⟨f, 3, none⟩ v) f nb ob nx vN vO nw od v vv ks' vs := by
  refine h.turnK ((h.own.same (b.block f h.own.lt)).set 3 v) (fun q h1 _ h3 => ?_) (hS.sameB (fun q hq => ?_)) (fun q h1 => .inr (hq q h1))
  · rw [blk_setCell_other _ _ _ _ h1, b.block q h3]
  · refine blk_setCell_other _ _ _ _ (fun e => ?_)
    obtain ⟨_, c, hc⟩ := own_ty hS.row hq
    exact ((h.own.same (b.block f h.own.lt)).not_ty (e ▸ hc) (by decide)) rfl
theorem RfIn.cutV (h : RfIn B w f nb ob nx vN vO nw od kv vv ks vs) {W : World} (b : Below w.heap.size w W) {v : Value} {vs' : List Int} (hS : NR B v vs' W) : RfIn B (W.setCell ⟨f, 4, none⟩ v) f nb ob nx vN vO nw od kv v ks vs' := by
  refine h.turnV ((h.own.same (b.block f h.own.lt)).set 4 v) (fun q h1 _ h3 => ?_) (hS.same (fun q hq => ?_))
  · rw [blk_setCell_other _ _ _ _ h1, b.block q h3]
  · refine blk_setCell_other _ _ _ _ (fun e => ?_)
    obtain ⟨_, c, hc⟩ := own_ty hS.row hq
    exact ((h.own.same (b.block f h.own.lt)).not_ty (e ▸ hc) (by decide)) rfl
set_option maxHeartbeats 1000000 in
theorem rdelete_none (Z : RZ B f nx nw od ks vs w) (D : RBd nx nw od) (key : List UInt8) (hi : idx key ks = -1) (k9 : ks.length ≤ 1000) :
    Calls Try.prog 18 #[.pointer (some ⟨f, 0, none⟩), .string (txt key)] w fun e w' => e = .returned (.bool false) ∧ RZ B f (mvNx nx od.length) (mvNw nw od) od.tail ks vs w' ∧ OffR B w w' := by
  have cM := hide (rmove_z Z D)
  clear Z D
  go_enter Try.func18, Try.ntmps18
  go_wp2_with fail
  refine cM.out.mono ?_
  rintro e W1 ⟨rfl, Z1, O1⟩
  have HE := hide (And.intro Z1 O1)
  obtain ⟨⟨nb, ob, vN, vO, kv, vv, h⟩, hB⟩ := Z1
  have cF := hide (rfind_any h key (by omega))
  rw [hi] at cF
  clear h hB hi cM O1 k9
  generalize txt key = tk at *
  go_wp2_with fail
  refine cF.out.mono ?_
  rintro e wx ⟨rfl, hx⟩
  obtain rfl : W1 = wx := hx.symm
  clear hx cF
  go_wp2
  go_ret
  exact ⟨rfl, HE.out⟩
set_option maxHeartbeats 8000000 in
theorem rdelete_hit (Z : RZ B f nx nw od ks vs w) (D : RBd nx nw od) (D1 : RBd (mvNx nx od.length) (mvNw nw od) od.tail) (key : List UInt8) (i : Nat) (hi : idx key ks = (i : Int)) (hik : i < ks.length) (hlv : vs.length = ks.length) (k9 : ks.length ≤ 1000) :
    Calls Try.prog 18 #[.pointer (some ⟨f, 0, none⟩), .string (txt key)] w fun e w' => e = .returned (.bool true) ∧ RZ B f (mvNx nx od.length) ((mvNw nw od).map (dropK key)) (od.tail.map (dropK key)) (ks.take i ++ ks.drop (i + 1)) (vs.take i ++ vs.drop (i + 1)) w' ∧ OffR B w w' := by
  have cM := hide (rmove_z Z D)
  have HD1 := hide D1
  clear Z D D1
  obtain ⟨tk, htk⟩ : ∃ tk, tk = txt key := ⟨_, rfl⟩
  rw [← htk]
  have HTK := hide htk
  generalize mvNx nx od.length = nx2 at *
  generalize mvNw nw od = nw2 at *
  generalize od.tail = od2 at *
  go_enter Try.func18, Try.ntmps18
  go_wp2_with fail
  refine cM.out.mono ?_
  rintro e W1 ⟨rfl, Z1, O1⟩
  obtain ⟨⟨nb, ob, vN, vO, kv, vv, h⟩, hB⟩ := Z1
  have cF := hide (rfind_any h key (by omega))
  rw [hi, ← htk] at cF
  have hi2 : ¬ ((i : Int) < 0) := by omega
  have Hh := hide h
  have HO1 := hide (And.intro O1 hB)
  have HSU : Hid (∀ X, (binOp .add 3 (.int .i64 (i : Int)) (.int .i64 1)).run Try.prog X = .ok (.int .i64 ((i + 1 : Nat) : Int)) X) := run_succ i (by omega)
  clear htk h hB O1 cM hi
  go_wp2_with fail
  refine cF.out.mono ?_
  rintro e wx ⟨rfl, hx⟩
  obtain rfl : W1 = wx := hx.symm
  clear hx cF
  go_wp2_with fail
  obtain ⟨A, hA⟩ : ∃ A, A = { W1 with drawn := W1.drawn + 1 } := ⟨_, rfl⟩
  have bA : Below W1.heap.size W1 A := by rw [hA]; exact below_drawn W1
  have hAs : A.heap.size = W1.heap.size := by rw [hA]
  have hhA := Hh.out.below bA
  obtain ⟨g, kc, hkv, _, _, hkc⟩ := hhA.kk.cell (List.getElem?_eq_getElem hik)
  obtain ⟨n, hn⟩ : ∃ n, n = ks.length := ⟨_, rfl⟩
  rw [← hn] at hkv hkc hik hlv k9
  have hGk : GR strK B (.slice (some ⟨g, 0, none⟩) n kc) ks A := by rw [← hkv]; exact hhA.kk.gr
  obtain ⟨to, tc, ht1, _, hto⟩ := run_tailS g n kc (i + 1) hik hkc
  have hBA : B ≤ A.heap.size := by rw [hAs]; exact HO1.out.2
  obtain ⟨ua, uc, W2, va, vc, W3, r2, r3, nG, b2, b3, oo⟩ := cut_g hGk hn hBA hik (by omega) to tc hto
  have hfl := hhA.own.lt
  have c3 := hhA.own.cell (i := 3) rfl
  rw [hkv] at c3
  have HFk : Hid (∀ s W, s ≤ 3 → CC5 A (A.alloc (.cells #[] 9)) W2 W3 (W3.setCell ⟨f, 3, none⟩ (.slice va (n - 1) vc)) s W → W.cell? ⟨f, 3, none⟩ = some (.slice (some ⟨g, 0, none⟩) n kc)) := fun s W hs hc => by
    have key2 : ∀ Z, Below A.heap.size A Z → Z.cell? ⟨f, 3, none⟩ = some (.slice (some ⟨g, 0, none⟩) n kc) := fun Z hZ => (hZ.cell (p := ⟨f, 3, none⟩) hfl).trans c3
    match s, hs, hc with
    | 0, _, hc => have hc : W = A := hc; subst hc; exact c3
    | 1, _, hc => have hc : W = _ := hc; subst hc; exact key2 _ ((Below.refl _ _).alloc (Nat.le_refl _) _)
    | 2, _, hc => have hc : W = W2 := hc; subst hc; exact key2 _ b2
    | 3, _, hc => have hc : W = W3 := hc; subst hc; exact key2 _ b3
  have HCk : Hid (W3.cell? ⟨f, 3, none⟩ = some (.slice (some ⟨g, 0, none⟩) n kc) ∧ W3.frozen? ⟨f, 3, none⟩ = false) := ⟨(b3.cell (p := ⟨f, 3, none⟩) hfl).trans c3, (hhA.own.same (b3.block f hfl)).frozen 3⟩
  have HAk : Hid (CC5 A (A.alloc (.cells #[] 9)) W2 W3 (W3.setCell ⟨f, 3, none⟩ (.slice va (n - 1) vc)) 0 { W1 with drawn := W1.drawn + 1 }) := hA.symm
  have HNOk : Hid (∀ X, (Instr.buildSlice 29 0 #[]).run Try.prog X = .ok (.slice (some ⟨X.heap.size, 0, none⟩) 0 0) (X.alloc (.cells #[] 9))) := run_noneS
  have HHDk : Hid (∀ X, (Instr.sliceAt 29 (.slice (some ⟨g, 0, none⟩) n kc) none (some (.int .i64 (i : Int))) none).run Try.prog X = .ok (.slice (some ⟨g, 0, none⟩) i kc) X) := run_headS g n kc i (by omega)
  have HTLk := hide ht1
  have HR2k : Hid (∀ ty, (Builtin.append_ #[29, 29] ty #[.slice (some ⟨A.heap.size, 0, none⟩) 0 0, .slice (some ⟨g, 0, none⟩) i kc]).run Try.prog (A.alloc (.cells #[] 9)) = .ok (.slice ua i uc) W2) := r2
  have HR3k : Hid (∀ ty, (Builtin.append_ #[29, 29] ty #[.slice ua i uc, .slice (some ⟨g, to, none⟩) (n - (i + 1)) tc]).run Try.prog W2 = .ok (.slice va (n - 1) vc) W3) := r3
  have H5 : Hid (RfIn B (W3.setCell ⟨f, 3, none⟩ (.slice va (n - 1) vc)) f nb ob nx2 vN vO nw2 od2 (.slice va (n - 1) vc) vv (ks.take i ++ ks.drop (i + 1)) vs ∧ OffR B w (W3.setCell ⟨f, 3, none⟩ (.slice va (n - 1) vc)) ∧ B ≤ (W3.setCell ⟨f, 3, none⟩ (.slice va (n - 1) vc)).heap.size) := by
    have bb := bA.trans (b3.mono (Nat.le_of_eq hAs.symm))
    refine ⟨hhA.cutK b3 nG.sr oo, HO1.out.1.trans ((OffR.below bb HO1.out.2).trans (OffR.setCell (hhA.own.same (b3.block f hfl)) hhA.lf (by simp) _)), ?_⟩
    rw [nblk_setCell]
    exact Nat.le_trans hBA b3.size
  have HN := hide hn
  obtain ⟨kv2, hkv2⟩ : ∃ x, x = Value.slice va (n - 1) vc := ⟨_, rfl⟩
  obtain ⟨W5, hW5⟩ : ∃ W5, W5 = W3.setCell ⟨f, 3, none⟩ (.slice va (n - 1) vc) := ⟨_, rfl⟩
  rw [← hW5, ← hkv2] at H5
  clear hAs bA hhA hkv hGk ht1 hto hBA r2 r3 nG b2 b3 oo hfl c3 HO1 Hh hn hA hkv2
  refine wp_region_chainp (by kernel_rfl) (by kernel_rfl) (fun jx => ([.pointer (some ⟨f, 0, none⟩), .slice (some ⟨A.heap.size, 0, none⟩) 0 0, .pointer (some ⟨f, 0, none⟩), .pointer (some ⟨f, 0, none⟩), .pointer (some ⟨f, 3, none⟩), .slice (some ⟨g, 0, none⟩) n kc, .int .i64 (i : Int), .slice (some ⟨g, 0, none⟩) i kc, .slice ua i uc, .pointer (some ⟨f, 0, none⟩), .pointer (some ⟨f, 0, none⟩), .pointer (some ⟨f, 3, none⟩), .slice (some ⟨g, 0, none⟩) n kc, .int .i64 (i : Int), .int .i64 ((i + 1 : Nat) : Int), .slice (some ⟨g, to, none⟩) (n - (i + 1)) tc, .slice va (n - 1) vc, .pointer (some ⟨f, 0, none⟩), .pointer (some ⟨f, 3, none⟩), undef] : List Value).getD jx undef) [1, 8, 16, 19] (by kernel_rfl) (CC5 A (A.alloc (.cells #[] 9)) W2 W3 (W3.setCell ⟨f, 3, none⟩ (.slice va (n - 1) vc))) (HAk.out) ?_ ?_
  · intro jx ox hi sx w' ev hlm hks hc hin hout hold hcst hfn
    have hltx : jx < 20 := by
      have := (Array.getElem?_eq_some_iff.1 hi).1
      simpa using this
    match jx, hltx with
    | 0, _ =>
      simp only [List.getElem?_toArray, List.getElem?_cons_zero, List.getElem?_cons_succ, Option.some.injEq] at hi
      subst hi
      have e0 : ev (.tmp 0) = .pointer (some ⟨f, 0, none⟩) := hout 0 (by kernel_rfl) (show (0 : Nat) < 101 by decide)
      rw [if_neg (by decide)]
      refine .inl ⟨w', ?_, hc⟩
      show _ = Result.ok (Next.value (.pointer (some ⟨f, 0, none⟩))) w'
      simp [execOp, e0, hcst, go_sem]
    | 1, _ =>
      simp only [List.getElem?_toArray, List.getElem?_cons_zero, List.getElem?_cons_succ, Option.some.injEq] at hi
      subst hi
      rw [if_pos (by decide)]
      have hsx : sx = 0 := hks 0 rfl
      subst hsx
      have hw : w' = A := hc
      subst hw
      refine .inl ⟨w'.alloc (.cells #[] 9), ?_, rfl⟩
      have q := HNOk.out w'
      simp [execOp, hcst, q, Result.andThen]
    | 2, _ =>
      simp only [List.getElem?_toArray, List.getElem?_cons_zero, List.getElem?_cons_succ, Option.some.injEq] at hi
      subst hi
      have e0 : ev (.tmp 0) = .pointer (some ⟨f, 0, none⟩) := hout 0 (by kernel_rfl) (show (0 : Nat) < 101 by decide)
      rw [if_neg (by decide)]
      refine .inl ⟨w', ?_, hc⟩
      show _ = Result.ok (Next.value (.pointer (some ⟨f, 0, none⟩))) w'
      simp [execOp, e0, hcst, go_sem]
    | 3, _ =>
      simp only [List.getElem?_toArray, List.getElem?_cons_zero, List.getElem?_cons_succ, Option.some.injEq] at hi
      subst hi
      have e0 : ev (.tmp 17) = .pointer (some ⟨f, 0, none⟩) := hin 17 2 ⟨2, .data⟩ (by kernel_rfl) (by simp) rfl rfl (show (17 : Nat) < 101 by decide)
      rw [if_neg (by decide)]
      refine .inl ⟨w', ?_, hc⟩
      show _ = Result.ok (Next.value (.pointer (some ⟨f, 0, none⟩))) w'
      simp [execOp, e0, hcst, go_sem]
    | 4, _ =>
      simp only [List.getElem?_toArray, List.getElem?_cons_zero, List.getElem?_cons_succ, Option.some.injEq] at hi
      subst hi
      have e0 : ev (.tmp 18) = .pointer (some ⟨f, 0, none⟩) := hin 18 3 ⟨3, .data⟩ (by kernel_rfl) (by simp) rfl rfl (show (18 : Nat) < 101 by decide)
      rw [if_neg (by decide)]
      refine .inl ⟨w', ?_, hc⟩
      show _ = Result.ok (Next.value (.pointer (some ⟨f, 3, none⟩))) w'
      simp [execOp, e0, hcst, go_sem]
    | 5, _ =>
      simp only [List.getElem?_toArray, List.getElem?_cons_zero, List.getElem?_cons_succ, Option.some.injEq] at hi
      subst hi
      have e0 : ev (.tmp 19) = .pointer (some ⟨f, 3, none⟩) := hin 19 4 ⟨4, .data⟩ (by kernel_rfl) (by simp) rfl rfl (show (19 : Nat) < 101 by decide)
      rw [if_neg (by decide)]
      refine .inl ⟨w', ?_, hc⟩
      show _ = Result.ok (Next.value (.slice (some ⟨g, 0, none⟩) n kc)) w'
      have hl2 : sx ≤ 1 := Nat.le_trans hlm (Nat.le_of_eq (by kernel_rfl))
      have q := HFk.out sx w' (by omega) hc
      simp [execOp, e0, hcst, go_sem, q]
    | 6, _ =>
      simp only [List.getElem?_toArray, List.getElem?_cons_zero, List.getElem?_cons_succ, Option.some.injEq] at hi
      subst hi
      have e0 : ev (.tmp 5) = .int .i64 (i : Int) := hout 5 (by kernel_rfl) (show (5 : Nat) < 101 by decide)
      rw [if_neg (by decide)]
      refine .inl ⟨w', ?_, hc⟩
      show _ = Result.ok (Next.value (.int .i64 (i : Int))) w'
      simp [execOp, e0, hcst, go_sem]
    | 7, _ =>
      simp only [List.getElem?_toArray, List.getElem?_cons_zero, List.getElem?_cons_succ, Option.some.injEq] at hi
      subst hi
      have e0 : ev (.tmp 20) = .slice (some ⟨g, 0, none⟩) n kc := hin 20 5 ⟨5, .data⟩ (by kernel_rfl) (by simp) rfl rfl (show (20 : Nat) < 101 by decide)
      have e1 : ev (.tmp 21) = .int .i64 (i : Int) := hin 21 6 ⟨6, .data⟩ (by kernel_rfl) (by simp) rfl rfl (show (21 : Nat) < 101 by decide)
      rw [if_neg (by decide)]
      refine .inl ⟨w', ?_, hc⟩
      show _ = Result.ok (Next.value (.slice (some ⟨g, 0, none⟩) i kc)) w'
      have q := HHDk.out w'
      simp [execOp, e0, e1, hcst, q, Result.andThen]
    | 8, _ =>
      simp only [List.getElem?_toArray, List.getElem?_cons_zero, List.getElem?_cons_succ, Option.some.injEq] at hi
      subst hi
      have e0 : ev (.tmp 16) = .slice (some ⟨A.heap.size, 0, none⟩) 0 0 := hin 16 1 ⟨1, .data⟩ (by kernel_rfl) (by simp) rfl rfl (show (16 : Nat) < 101 by decide)
      have e1 : ev (.tmp 22) = .slice (some ⟨g, 0, none⟩) i kc := hin 22 7 ⟨7, .data⟩ (by kernel_rfl) (by simp) rfl rfl (show (22 : Nat) < 101 by decide)
      rw [if_pos (by decide)]
      have hsx : sx = 1 := hks 1 rfl
      subst hsx
      have hw : w' = A.alloc (.cells #[] 9) := hc
      subst hw
      refine .inl ⟨W2, ?_, rfl⟩
      have q := HR2k.out
      simp [execOp, e0, e1, hcst, resolve, invoke, builtin, Result.andThen, q]
    | 9, _ =>
      simp only [List.getElem?_toArray, List.getElem?_cons_zero, List.getElem?_cons_succ, Option.some.injEq] at hi
      subst hi
      have e0 : ev (.tmp 0) = .pointer (some ⟨f, 0, none⟩) := hout 0 (by kernel_rfl) (show (0 : Nat) < 101 by decide)
      rw [if_neg (by decide)]
      refine .inl ⟨w', ?_, hc⟩
      show _ = Result.ok (Next.value (.pointer (some ⟨f, 0, none⟩))) w'
      simp [execOp, e0, hcst, go_sem]
    | 10, _ =>
      simp only [List.getElem?_toArray, List.getElem?_cons_zero, List.getElem?_cons_succ, Option.some.injEq] at hi
      subst hi
      have e0 : ev (.tmp 24) = .pointer (some ⟨f, 0, none⟩) := hin 24 9 ⟨9, .data⟩ (by kernel_rfl) (by simp) rfl rfl (show (24 : Nat) < 101 by decide)
      rw [if_neg (by decide)]
      refine .inl ⟨w', ?_, hc⟩
      show _ = Result.ok (Next.value (.pointer (some ⟨f, 0, none⟩))) w'
      simp [execOp, e0, hcst, go_sem]
    | 11, _ =>
      simp only [List.getElem?_toArray, List.getElem?_cons_zero, List.getElem?_cons_succ, Option.some.injEq] at hi
      subst hi
      have e0 : ev (.tmp 25) = .pointer (some ⟨f, 0, none⟩) := hin 25 10 ⟨10, .data⟩ (by kernel_rfl) (by simp) rfl rfl (show (25 : Nat) < 101 by decide)
      rw [if_neg (by decide)]
      refine .inl ⟨w', ?_, hc⟩
      show _ = Result.ok (Next.value (.pointer (some ⟨f, 3, none⟩))) w'
      simp [execOp, e0, hcst, go_sem]
    | 12, _ =>
      simp only [List.getElem?_toArray, List.getElem?_cons_zero, List.getElem?_cons_succ, Option.some.injEq] at hi
      subst hi
      have e0 : ev (.tmp 26) = .pointer (some ⟨f, 3, none⟩) := hin 26 11 ⟨11, .data⟩ (by kernel_rfl) (by simp) rfl rfl (show (26 : Nat) < 101 by decide)
      rw [if_neg (by decide)]
      refine .inl ⟨w', ?_, hc⟩
      show _ = Result.ok (Next.value (.slice (some ⟨g, 0, none⟩) n kc)) w'
      have hl2 : sx ≤ 2 := Nat.le_trans hlm (Nat.le_of_eq (by kernel_rfl))
      have q := HFk.out sx w' (by omega) hc
      simp [execOp, e0, hcst, go_sem, q]
    | 13, _ =>
      simp only [List.getElem?_toArray, List.getElem?_cons_zero, List.getElem?_cons_succ, Option.some.injEq] at hi
      subst hi
      have e0 : ev (.tmp 5) = .int .i64 (i : Int) := hout 5 (by kernel_rfl) (show (5 : Nat) < 101 by decide)
      rw [if_neg (by decide)]
      refine .inl ⟨w', ?_, hc⟩
      show _ = Result.ok (Next.value (.int .i64 (i : Int))) w'
      simp [execOp, e0, hcst, go_sem]
    | 14, _ =>
      simp only [List.getElem?_toArray, List.getElem?_cons_zero, List.getElem?_cons_succ, Option.some.injEq] at hi
      subst hi
      have e0 : ev (.tmp 28) = .int .i64 (i : Int) := hin 28 13 ⟨13, .data⟩ (by kernel_rfl) (by simp) rfl rfl (show (28 : Nat) < 101 by decide)
      rw [if_neg (by decide)]
      refine .inl ⟨w', ?_, hc⟩
      show _ = Result.ok (Next.value (.int .i64 ((i + 1 : Nat) : Int))) w'
      have q := HSU.out w'
      simp [execOp, e0, hcst, eqGuard, q, Result.andThen, pure, Sem.run]
    | 15, _ =>
      simp only [List.getElem?_toArray, List.getElem?_cons_zero, List.getElem?_cons_succ, Option.some.injEq] at hi
      subst hi
      have e0 : ev (.tmp 27) = .slice (some ⟨g, 0, none⟩) n kc := hin 27 12 ⟨12, .data⟩ (by kernel_rfl) (by simp) rfl rfl (show (27 : Nat) < 101 by decide)
      have e1 : ev (.tmp 29) = .int .i64 ((i + 1 : Nat) : Int) := hin 29 14 ⟨14, .data⟩ (by kernel_rfl) (by simp) rfl rfl (show (29 : Nat) < 101 by decide)
      rw [if_neg (by decide)]
      refine .inl ⟨w', ?_, hc⟩
      show _ = Result.ok (Next.value (.slice (some ⟨g, to, none⟩) (n - (i + 1)) tc)) w'
      have q := HTLk.out w'
      rw [show ((i + 1 : Nat) : Int) = (i : Int) + 1 by omega] at q
      simp [execOp, e0, e1, hcst, q, Result.andThen]
    | 16, _ =>
      simp only [List.getElem?_toArray, List.getElem?_cons_zero, List.getElem?_cons_succ, Option.some.injEq] at hi
      subst hi
      have e0 : ev (.tmp 23) = .slice ua i uc := hin 23 8 ⟨8, .data⟩ (by kernel_rfl) (by simp) rfl rfl (show (23 : Nat) < 101 by decide)
      have e1 : ev (.tmp 30) = .slice (some ⟨g, to, none⟩) (n - (i + 1)) tc := hin 30 15 ⟨15, .data⟩ (by kernel_rfl) (by simp) rfl rfl (show (30 : Nat) < 101 by decide)
      rw [if_pos (by decide)]
      have hsx : sx = 2 := hks 2 rfl
      subst hsx
      have hw : w' = W2 := hc
      subst hw
      refine .inl ⟨W3, ?_, rfl⟩
      have q := HR3k.out
      simp [execOp, e0, e1, hcst, resolve, invoke, builtin, Result.andThen, q]
    | 17, _ =>
      simp only [List.getElem?_toArray, List.getElem?_cons_zero, List.getElem?_cons_succ, Option.some.injEq] at hi
      subst hi
      have e0 : ev (.tmp 15) = .pointer (some ⟨f, 0, none⟩) := hin 15 0 ⟨0, .data⟩ (by kernel_rfl) (by simp) rfl rfl (show (15 : Nat) < 101 by decide)
      rw [if_neg (by decide)]
      refine .inl ⟨w', ?_, hc⟩
      show _ = Result.ok (Next.value (.pointer (some ⟨f, 0, none⟩))) w'
      simp [execOp, e0, hcst, go_sem]
    | 18, _ =>
      simp only [List.getElem?_toArray, List.getElem?_cons_zero, List.getElem?_cons_succ, Option.some.injEq] at hi
      subst hi
      have e0 : ev (.tmp 32) = .pointer (some ⟨f, 0, none⟩) := hin 32 17 ⟨17, .data⟩ (by kernel_rfl) (by simp) rfl rfl (show (32 : Nat) < 101 by decide)
      rw [if_neg (by decide)]
      refine .inl ⟨w', ?_, hc⟩
      show _ = Result.ok (Next.value (.pointer (some ⟨f, 3, none⟩))) w'
      simp [execOp, e0, hcst, go_sem]
    | 19, _ =>
      simp only [List.getElem?_toArray, List.getElem?_cons_zero, List.getElem?_cons_succ, Option.some.injEq] at hi
      subst hi
      have e0 : ev (.tmp 33) = .pointer (some ⟨f, 3, none⟩) := hin 33 18 ⟨18, .data⟩ (by kernel_rfl) (by simp) rfl rfl (show (33 : Nat) < 101 by decide)
      have e1 : ev (.tmp 31) = .slice va (n - 1) vc := hin 31 16 ⟨16, .data⟩ (by kernel_rfl) (by simp) rfl rfl (show (31 : Nat) < 101 by decide)
      rw [if_pos (by decide)]
      have hsx : sx = 3 := hks 3 rfl
      subst hsx
      have hw : w' = W3 := hc
      subst hw
      refine .inr (.inl ⟨rfl, w'.setCell ⟨f, 3, none⟩ (.slice va (n - 1) vc), ?_, rfl⟩)
      have q1 := HCk.out.1
      have q2 := HCk.out.2
      simp [execOp, e0, e1, hcst, go_sem, q1, q2, Result.andThen]
  · intro w9 hc
    simp only [lexF, Act.put, List.setIfInBounds_toArray, List.set_cons_succ, List.set_cons_zero, List.getD_cons_succ, List.getD_cons_zero]
    obtain rfl : W5 = w9 := by rw [hW5]; exact hc.symm
    clear hW5 HFk HCk HAk HNOk HHDk HTLk HR2k HR3k hc
    go_wp2_with fail
    obtain ⟨A, hA⟩ : ∃ A, A = { W5 with drawn := W5.drawn + 1 } := ⟨_, rfl⟩
    have bA : Below W5.heap.size W5 A := by rw [hA]; exact below_drawn W5
    have hAs : A.heap.size = W5.heap.size := by rw [hA]
    have hhA := H5.out.1.below bA
    obtain ⟨g2, kd, hvv, _, _, _, hkd⟩ := hhA.kn.cell (List.getElem?_eq_getElem (by rw [hlv]; exact hik))
    rw [hlv] at hvv hkd
    have hGv : GR intK B (.slice (some ⟨g2, 0, none⟩) n kd) vs A := by rw [← hvv]; exact hhA.kn.gr
    obtain ⟨to2, td, _, ht1, hto⟩ := run_tailS g2 n kd (i + 1) hik hkd
    have hBA : B ≤ A.heap.size := by rw [hAs]; exact H5.out.2.2
    obtain ⟨ub, ud, W6, vb, vd, W7, r2, r3, nG, b2, b3, oo⟩ := cut_g hGv hlv.symm hBA hik (by omega) to2 td hto
    have hfl := hhA.own.lt
    have c4 := hhA.own.cell (i := 4) rfl
    rw [hvv] at c4
    have HFv : Hid (∀ s W, s ≤ 3 → CC5 A (A.alloc (.cells #[] 3)) W6 W7 (W7.setCell ⟨f, 4, none⟩ (.slice vb (n - 1) vd)) s W → W.cell? ⟨f, 4, none⟩ = some (.slice (some ⟨g2, 0, none⟩) n kd)) := fun s W hs hc => by
      have key2 : ∀ Z, Below A.heap.size A Z → Z.cell? ⟨f, 4, none⟩ = some (.slice (some ⟨g2, 0, none⟩) n kd) := fun Z hZ => (hZ.cell (p := ⟨f, 4, none⟩) hfl).trans c4
      match s, hs, hc with
      | 0, _, hc => have hc : W = A := hc; subst hc; exact c4
      | 1, _, hc => have hc : W = _ := hc; subst hc; exact key2 _ ((Below.refl _ _).alloc (Nat.le_refl _) _)
      | 2, _, hc => have hc : W = W6 := hc; subst hc; exact key2 _ b2
      | 3, _, hc => have hc : W = W7 := hc; subst hc; exact key2 _ b3
    have HCv : Hid (W7.cell? ⟨f, 4, none⟩ = some (.slice (some ⟨g2, 0, none⟩) n kd) ∧ W7.frozen? ⟨f, 4, none⟩ = false) := ⟨(b3.cell (p := ⟨f, 4, none⟩) hfl).trans c4, (hhA.own.same (b3.block f hfl)).frozen 4⟩
    have HAv : Hid (CC5 A (A.alloc (.cells #[] 3)) W6 W7 (W7.setCell ⟨f, 4, none⟩ (.slice vb (n - 1) vd)) 0 { W5 with drawn := W5.drawn + 1 }) := hA.symm
    have HNOv : Hid (∀ X, (Instr.buildSlice 41 0 #[]).run Try.prog X = .ok (.slice (some ⟨X.heap.size, 0, none⟩) 0 0) (X.alloc (.cells #[] 3))) := run_noneI
    have HHDv : Hid (∀ X, (Instr.sliceAt 41 (.slice (some ⟨g2, 0, none⟩) n kd) none (some (.int .i64 (i : Int))) none).run Try.prog X = .ok (.slice (some ⟨g2, 0, none⟩) i kd) X) := run_headI g2 n kd i (by omega)
    have HTLv := hide ht1
    have HR2v : Hid (∀ ty, (Builtin.append_ #[41, 41] ty #[.slice (some ⟨A.heap.size, 0, none⟩) 0 0, .slice (some ⟨g2, 0, none⟩) i kd]).run Try.prog (A.alloc (.cells #[] 3)) = .ok (.slice ub i ud) W6) := r2
    have HR3v : Hid (∀ ty, (Builtin.append_ #[41, 41] ty #[.slice ub i ud, .slice (some ⟨g2, to2, none⟩) (n - (i + 1)) td]).run Try.prog W6 = .ok (.slice vb (n - 1) vd) W7) := r3
    have H8 : Hid (RfIn B (W7.setCell ⟨f, 4, none⟩ (.slice vb (n - 1) vd)) f nb ob nx2 vN vO nw2 od2 kv2 (.slice vb (n - 1) vd) (ks.take i ++ ks.drop (i + 1)) (vs.take i ++ vs.drop (i + 1)) ∧ OffR B w (W7.setCell ⟨f, 4, none⟩ (.slice vb (n - 1) vd)) ∧ B ≤ (W7.setCell ⟨f, 4, none⟩ (.slice vb (n - 1) vd)).heap.size) := by
      have bb := bA.trans (b3.mono (Nat.le_of_eq hAs.symm))
      refine ⟨hhA.cutV b3 nG.nr, H5.out.2.1.trans ((OffR.below bb H5.out.2.2).trans (OffR.setCell (hhA.own.same (b3.block f hfl)) hhA.lf (by simp) _)), ?_⟩
      rw [nblk_setCell]
      exact Nat.le_trans hBA b3.size
    obtain ⟨vv2, hvv2⟩ : ∃ x, x = Value.slice vb (n - 1) vd := ⟨_, rfl⟩
    obtain ⟨W8, hW8⟩ : ∃ W8, W8 = W7.setCell ⟨f, 4, none⟩ (.slice vb (n - 1) vd) := ⟨_, rfl⟩
    rw [← hW8, ← hvv2] at H8
    clear hAs bA hhA hvv hGv ht1 hto hBA r2 r3 nG b2 b3 oo hfl c4 H5 hA hvv2
    refine wp_region_chainp (by kernel_rfl) (by kernel_rfl) (fun jx => ([.pointer (some ⟨f, 0, none⟩), .slice (some ⟨A.heap.size, 0, none⟩) 0 0, .pointer (some ⟨f, 0, none⟩), .pointer (some ⟨f, 0, none⟩), .pointer (some ⟨f, 4, none⟩), .slice (some ⟨g2, 0, none⟩) n kd, .int .i64 (i : Int), .slice (some ⟨g2, 0, none⟩) i kd, .slice ub i ud, .pointer (some ⟨f, 0, none⟩), .pointer (some ⟨f, 0, none⟩), .pointer (some ⟨f, 4, none⟩), .slice (some ⟨g2, 0, none⟩) n kd, .int .i64 (i : Int), .int .i64 ((i + 1 : Nat) : Int), .slice (some ⟨g2, to2, none⟩) (n - (i + 1)) td, .slice vb (n - 1) vd, .pointer (some ⟨f, 0, none⟩), .pointer (some ⟨f, 4, none⟩), undef] : List Value).getD jx undef) [1, 8, 16, 19] (by kernel_rfl) (CC5 A (A.alloc (.cells #[] 3)) W6 W7 (W7.setCell ⟨f, 4, none⟩ (.slice vb (n - 1) vd))) (HAv.out) ?_ ?_
    · intro jx ox hi sx w' ev hlm hks hc hin hout hold hcst hfn
      have hltx : jx < 20 := by
        have := (Array.getElem?_eq_some_iff.1 hi).1
        simpa using this
      match jx, hltx with
      | 0, _ =>
        simp only [List.getElem?_toArray, List.getElem?_cons_zero, List.getElem?_cons_succ, Option.some.injEq] at hi
        subst hi
        have e0 : ev (.tmp 0) = .pointer (some ⟨f, 0, none⟩) := hout 0 (by kernel_rfl) (show (0 : Nat) < 101 by decide)
        rw [if_neg (by decide)]
        refine .inl ⟨w', ?_, hc⟩
        show _ = Result.ok (Next.value (.pointer (some ⟨f, 0, none⟩))) w'
        simp [execOp, e0, hcst, go_sem]
      | 1, _ =>
        simp only [List.getElem?_toArray, List.getElem?_cons_zero, List.getElem?_cons_succ, Option.some.injEq] at hi
        subst hi
        rw [if_pos (by decide)]
        have hsx : sx = 0 := hks 0 rfl
        subst hsx
        have hw : w' = A := hc
        subst hw
        refine .inl ⟨w'.alloc (.cells #[] 3), ?_, rfl⟩
        have q := HNOv.out w'
        simp [execOp, hcst, q, Result.andThen]
      | 2, _ =>
        simp only [List.getElem?_toArray, List.getElem?_cons_zero, List.getElem?_cons_succ, Option.some.injEq] at hi
        subst hi
        have e0 : ev (.tmp 0) = .pointer (some ⟨f, 0, none⟩) := hout 0 (by kernel_rfl) (show (0 : Nat) < 101 by decide)
        rw [if_neg (by decide)]
        refine .inl ⟨w', ?_, hc⟩
        show _ = Result.ok (Next.value (.pointer (some ⟨f, 0, none⟩))) w'
        simp [execOp, e0, hcst, go_sem]
      | 3, _ =>
        simp only [List.getElem?_toArray, List.getElem?_cons_zero, List.getElem?_cons_succ, Option.some.injEq] at hi
        subst hi
        have e0 : ev (.tmp 36) = .pointer (some ⟨f, 0, none⟩) := hin 36 2 ⟨2, .data⟩ (by kernel_rfl) (by simp) rfl rfl (show (36 : Nat) < 101 by decide)
        rw [if_neg (by decide)]
        refine .inl ⟨w', ?_, hc⟩
        show _ = Result.ok (Next.value (.pointer (some ⟨f, 0, none⟩))) w'
        simp [execOp, e0, hcst, go_sem]
      | 4, _ =>
        simp only [List.getElem?_toArray, List.getElem?_cons_zero, List.getElem?_cons_succ, Option.some.injEq] at hi
        subst hi
        have e0 : ev (.tmp 37) = .pointer (some ⟨f, 0, none⟩) := hin 37 3 ⟨3, .data⟩ (by kernel_rfl) (by simp) rfl rfl (show (37 : Nat) < 101 by decide)
        rw [if_neg (by decide)]
        refine .inl ⟨w', ?_, hc⟩
        show _ = Result.ok (Next.value (.pointer (some ⟨f, 4, none⟩))) w'
        simp [execOp, e0, hcst, go_sem]
      | 5, _ =>
        simp only [List.getElem?_toArray, List.getElem?_cons_zero, List.getElem?_cons_succ, Option.some.injEq] at hi
        subst hi
        have e0 : ev (.tmp 38) = .pointer (some ⟨f, 4, none⟩) := hin 38 4 ⟨4, .data⟩ (by kernel_rfl) (by simp) rfl rfl (show (38 : Nat) < 101 by decide)
        rw [if_neg (by decide)]
        refine .inl ⟨w', ?_, hc⟩
        show _ = Result.ok (Next.value (.slice (some ⟨g2, 0, none⟩) n kd)) w'
        have hl2 : sx ≤ 1 := Nat.le_trans hlm (Nat.le_of_eq (by kernel_rfl))
        have q := HFv.out sx w' (by omega) hc
        simp [execOp, e0, hcst, go_sem, q]
      | 6, _ =>
        simp only [List.getElem?_toArray, List.getElem?_cons_zero, List.getElem?_cons_succ, Option.some.injEq] at hi
        subst hi
        have e0 : ev (.tmp 5) = .int .i64 (i : Int) := hout 5 (by kernel_rfl) (show (5 : Nat) < 101 by decide)
        rw [if_neg (by decide)]
        refine .inl ⟨w', ?_, hc⟩
        show _ = Result.ok (Next.value (.int .i64 (i : Int))) w'
        simp [execOp, e0, hcst, go_sem]
      | 7, _ =>
        simp only [List.getElem?_toArray, List.getElem?_cons_zero, List.getElem?_cons_succ, Option.some.injEq] at hi
        subst hi
        have e0 : ev (.tmp 39) = .slice (some ⟨g2, 0, none⟩) n kd := hin 39 5 ⟨5, .data⟩ (by kernel_rfl) (by simp) rfl rfl (show (39 : Nat) < 101 by decide)
        have e1 : ev (.tmp 40) = .int .i64 (i : Int) := hin 40 6 ⟨6, .data⟩ (by kernel_rfl) (by simp) rfl rfl (show (40 : Nat) < 101 by decide)
        rw [if_neg (by decide)]
        refine .inl ⟨w', ?_, hc⟩
        show _ = Result.ok (Next.value (.slice (some ⟨g2, 0, none⟩) i kd)) w'
        have q := HHDv.out w'
        simp [execOp, e0, e1, hcst, q, Result.andThen]
      | 8, _ =>
        simp only [List.getElem?_toArray, List.getElem?_cons_zero, List.getElem?_cons_succ, Option.some.injEq] at hi
        subst hi
        have e0 : ev (.tmp 35) = .slice (some ⟨A.heap.size, 0, none⟩) 0 0 := hin 35 1 ⟨1, .data⟩ (by kernel_rfl) (by simp) rfl rfl (show (35 : Nat) < 101 by decide)
        have e1 : ev (.tmp 41) = .slice (some ⟨g2, 0, none⟩) i kd := hin 41 7 ⟨7, .data⟩ (by kernel_rfl) (by simp) rfl rfl (show (41 : Nat) < 101 by decide)
        rw [if_pos (by decide)]
        have hsx : sx = 1 := hks 1 rfl
        subst hsx
        have hw : w' = A.alloc (.cells #[] 3) := hc
        subst hw
        refine .inl ⟨W6, ?_, rfl⟩
        have q := HR2v.out
        simp [execOp, e0, e1, hcst, resolve, invoke, builtin, Result.andThen, q]
      | 9, _ =>
        simp only [List.getElem?_toArray, List.getElem?_cons_zero, List.getElem?_cons_succ, Option.some.injEq] at hi
        subst hi
        have e0 : ev (.tmp 0) = .pointer (some ⟨f, 0, none⟩) := hout 0 (by kernel_rfl) (show (0 : Nat) < 101 by decide)
        rw [if_neg (by decide)]
        refine .inl ⟨w', ?_, hc⟩
        show _ = Result.ok (Next.value (.pointer (some ⟨f, 0, none⟩))) w'
        simp [execOp, e0, hcst, go_sem]
      | 10, _ =>
        simp only [List.getElem?_toArray, List.getElem?_cons_zero, List.getElem?_cons_succ, Option.some.injEq] at hi
        subst hi
        have e0 : ev (.tmp 43) = .pointer (some ⟨f, 0, none⟩) := hin 43 9 ⟨9, .data⟩ (by kernel_rfl) (by simp) rfl rfl (show (43 : Nat) < 101 by decide)
        rw [if_neg (by decide)]
        refine .inl ⟨w', ?_, hc⟩
        show _ = Result.ok (Next.value (.pointer (some ⟨f, 0, none⟩))) w'
        simp [execOp, e0, hcst, go_sem]
      | 11, _ =>
        simp only [List.getElem?_toArray, List.getElem?_cons_zero, List.getElem?_cons_succ, Option.some.injEq] at hi
        subst hi
        have e0 : ev (.tmp 44) = .pointer (some ⟨f, 0, none⟩) := hin 44 10 ⟨10, .data⟩ (by kernel_rfl) (by simp) rfl rfl (show (44 : Nat) < 101 by decide)
        rw [if_neg (by decide)]
        refine .inl ⟨w', ?_, hc⟩
        show _ = Result.ok (Next.value (.pointer (some ⟨f, 4, none⟩))) w'
        simp [execOp, e0, hcst, go_sem]
      | 12, _ =>
        simp only [List.getElem?_toArray, List.getElem?_cons_zero, List.getElem?_cons_succ, Option.some.injEq] at hi
        subst hi
        have e0 : ev (.tmp 45) = .pointer (some ⟨f, 4, none⟩) := hin 45 11 ⟨11, .data⟩ (by kernel_rfl) (by simp) rfl rfl (show (45 : Nat) < 101 by decide)
        rw [if_neg (by decide)]
        refine .inl ⟨w', ?_, hc⟩
        show _ = Result.ok (Next.value (.slice (some ⟨g2, 0, none⟩) n kd)) w'
        have hl2 : sx ≤ 2 := Nat.le_trans hlm (Nat.le_of_eq (by kernel_rfl))
        have q := HFv.out sx w' (by omega) hc
        simp [execOp, e0, hcst, go_sem, q]
      | 13, _ =>
        simp only [List.getElem?_toArray, List.getElem?_cons_zero, List.getElem?_cons_succ, Option.some.injEq] at hi
        subst hi
        have e0 : ev (.tmp 5) = .int .i64 (i : Int) := hout 5 (by kernel_rfl) (show (5 : Nat) < 101 by decide)
        rw [if_neg (by decide)]
        refine .inl ⟨w', ?_, hc⟩
        show _ = Result.ok (Next.value (.int .i64 (i : Int))) w'
        simp [execOp, e0, hcst, go_sem]
      | 14, _ =>
        simp only [List.getElem?_toArray, List.getElem?_cons_zero, List.getElem?_cons_succ, Option.some.injEq] at hi
        subst hi
        have e0 : ev (.tmp 47) = .int .i64 (i : Int) := hin 47 13 ⟨13, .data⟩ (by kernel_rfl) (by simp) rfl rfl (show (47 : Nat) < 101 by decide)
        rw [if_neg (by decide)]
        refine .inl ⟨w', ?_, hc⟩
        show _ = Result.ok (Next.value (.int .i64 ((i + 1 : Nat) : Int))) w'
        have q := HSU.out w'
        simp [execOp, e0, hcst, eqGuard, q, Result.andThen, pure, Sem.run]
      | 15, _ =>
        simp only [List.getElem?_toArray, List.getElem?_cons_zero, List.getElem?_cons_succ, Option.some.injEq] at hi
        subst hi
        have e0 : ev (.tmp 46) = .slice (some ⟨g2, 0, none⟩) n kd := hin 46 12 ⟨12, .data⟩ (by kernel_rfl) (by simp) rfl rfl (show (46 : Nat) < 101 by decide)
        have e1 : ev (.tmp 48) = .int .i64 ((i + 1 : Nat) : Int) := hin 48 14 ⟨14, .data⟩ (by kernel_rfl) (by simp) rfl rfl (show (48 : Nat) < 101 by decide)
        rw [if_neg (by decide)]
        refine .inl ⟨w', ?_, hc⟩
        show _ = Result.ok (Next.value (.slice (some ⟨g2, to2, none⟩) (n - (i + 1)) td)) w'
        have q := HTLv.out w'
        rw [show ((i + 1 : Nat) : Int) = (i : Int) + 1 by omega] at q
        simp [execOp, e0, e1, hcst, q, Result.andThen]
      | 16, _ =>
        simp only [List.getElem?_toArray, List.getElem?_cons_zero, List.getElem?_cons_succ, Option.some.injEq] at hi
        subst hi
        have e0 : ev (.tmp 42) = .slice ub i ud := hin 42 8 ⟨8, .data⟩ (by kernel_rfl) (by simp) rfl rfl (show (42 : Nat) < 101 by decide)
        have e1 : ev (.tmp 49) = .slice (some ⟨g2, to2, none⟩) (n - (i + 1)) td := hin 49 15 ⟨15, .data⟩ (by kernel_rfl) (by simp) rfl rfl (show (49 : Nat) < 101 by decide)
        rw [if_pos (by decide)]
        have hsx : sx = 2 := hks 2 rfl
        subst hsx
        have hw : w' = W6 := hc
        subst hw
        refine .inl ⟨W7, ?_, rfl⟩
        have q := HR3v.out
        simp [execOp, e0, e1, hcst, resolve, invoke, builtin, Result.andThen, q]
      | 17, _ =>
        simp only [List.getElem?_toArray, List.getElem?_cons_zero, List.getElem?_cons_succ, Option.some.injEq] at hi
        subst hi
        have e0 : ev (.tmp 34) = .pointer (some ⟨f, 0, none⟩) := hin 34 0 ⟨0, .data⟩ (by kernel_rfl) (by simp) rfl rfl (show (34 : Nat) < 101 by decide)
        rw [if_neg (by decide)]
        refine .inl ⟨w', ?_, hc⟩
        show _ = Result.ok (Next.value (.pointer (some ⟨f, 0, none⟩))) w'
        simp [execOp, e0, hcst, go_sem]
      | 18, _ =>
        simp only [List.getElem?_toArray, List.getElem?_cons_zero, List.getElem?_cons_succ, Option.some.injEq] at hi
        subst hi
        have e0 : ev (.tmp 51) = .pointer (some ⟨f, 0, none⟩) := hin 51 17 ⟨17, .data⟩ (by kernel_rfl) (by simp) rfl rfl (show (51 : Nat) < 101 by decide)
        rw [if_neg (by decide)]
        refine .inl ⟨w', ?_, hc⟩
        show _ = Result.ok (Next.value (.pointer (some ⟨f, 4, none⟩))) w'
        simp [execOp, e0, hcst, go_sem]
      | 19, _ =>
        simp only [List.getElem?_toArray, List.getElem?_cons_zero, List.getElem?_cons_succ, Option.some.injEq] at hi
        subst hi
        have e0 : ev (.tmp 52) = .pointer (some ⟨f, 4, none⟩) := hin 52 18 ⟨18, .data⟩ (by kernel_rfl) (by simp) rfl rfl (show (52 : Nat) < 101 by decide)
        have e1 : ev (.tmp 50) = .slice vb (n - 1) vd := hin 50 16 ⟨16, .data⟩ (by kernel_rfl) (by simp) rfl rfl (show (50 : Nat) < 101 by decide)
        rw [if_pos (by decide)]
        have hsx : sx = 3 := hks 3 rfl
        subst hsx
        have hw : w' = W7 := hc
        subst hw
        refine .inr (.inl ⟨rfl, w'.setCell ⟨f, 4, none⟩ (.slice vb (n - 1) vd), ?_, rfl⟩)
        have q1 := HCv.out.1
        have q2 := HCv.out.2
        simp [execOp, e0, e1, hcst, go_sem, q1, q2, Result.andThen]
    · intro w9 hc
      simp only [lexF, Act.put, List.setIfInBounds_toArray, List.set_cons_succ, List.set_cons_zero, List.getD_cons_succ, List.getD_cons_zero]
      obtain rfl : W8 = w9 := by rw [hW8]; exact hc.symm
      clear hW8 HFv HCv HAv HNOv HHDv HTLv HR2v HR3v hc HSU
      obtain ⟨N, hN⟩ : ∃ N, N = nw2.length := ⟨_, rfl⟩
      have HNN := hide hN
      have N9 : N ≤ 131072 := by rw [hN]; exact HD1.out.n9
      clear hN
      go_wp2_with fail
      go_loopg [6] N (fun kx s6 wr => ∃ (b : Nat), s6 = .int .i64 b ∧ Hid (b ≤ N ∧ N - b ≤ kx ∧ (∃ vN', RfIn B wr f nb ob nx2 vN' vO (partM (dropK key) b nw2) od2 kv2 vv2 (ks.take i ++ ks.drop (i + 1)) (vs.take i ++ vs.drop (i + 1))) ∧ OffR B w wr ∧ B ≤ wr.heap.size))
      case atStart => exact ⟨0, rfl, Nat.zero_le _, Nat.le_refl _, ⟨vN, by rw [partM_zero]; exact H8.out.1⟩, H8.out.2.1, H8.out.2.2⟩
      case round =>
        obtain ⟨b, rfl, I⟩ := hrel
        obtain ⟨i1, i2, ⟨vN', h⟩, i4, i5⟩ := I.out
        have c0 := h.own.cell (i := 0) rfl
        rw [partM_len, ← HNN.out] at c0
        by_cases hlt : b < N
        · have hlt2 : (b : Int) < (N : Int) := by omega
          obtain ⟨v, ss, hv, hS, hmem, hstep⟩ := h.dropN (key := key) i5 (by rw [← HNN.out]; exact hlt)
          have cb := h.rN.cell hv
          obtain ⟨xa, xc, rfl⟩ := hS.slice
          have hss : ss.length ≤ 1000 := by have h1 := mem_flat_le hmem; have h2 := HD1.out.t9; omega
          obtain ⟨m, hm⟩ : ∃ m, m = ss.length := ⟨_, rfl⟩
          rw [← hm] at cb hS
          have HI := hide i2
          have HBN : Hid (b < N) := hlt
          have Hh := hide h
          have HST := hide hstep
          have H45 := hide (And.intro i4 i5)
          have Hm := hide (And.intro hm hss)
          have HS := hide hS
          clear h hv hmem hstep i1 i2 i4 i5 I hm hss hS
          go_wp2_with fail
          obtain ⟨A, hA⟩ : ∃ A, A = { wr with drawn := wr.drawn + 1 } := ⟨_, rfl⟩
          have bA : Below wr.heap.size wr A := by rw [hA]; exact below_drawn wr
          have hAs : A.heap.size = wr.heap.size := by rw [hA]
          have hfl := Hh.out.own.lt
          have hnl := Hh.out.rN.lt
          obtain ⟨DD, hDD⟩ : ∃ DD : Value → World → Prop, DD = fun u W => (∃ va m vc, u = .slice va m vc) ∧ SR A.heap.size u (dropK key ss) W ∧ Below A.heap.size A W := ⟨_, rfl⟩
          have HU : Hid (∀ u W, DD u W → ∃ ya ym yc, u = .slice ya ym yc) := fun u W h => by rw [hDD] at h; exact h.1
          have HF : Hid (∀ s u W, s ≤ 1 → DrC A DD nb b s u W → W.cell? ⟨f, 0, none⟩ = some (.slice (some ⟨nb, 0, none⟩) N N) ∧ W.cell? ⟨nb, b, none⟩ = some (.slice xa m xc) ∧ W.frozen? ⟨nb, b, none⟩ = false) := fun s u W hs hc => by
            have key2 : ∀ Z, Below wr.heap.size wr Z → Z.cell? ⟨f, 0, none⟩ = some (.slice (some ⟨nb, 0, none⟩) N N) ∧ Z.cell? ⟨nb, b, none⟩ = some (.slice xa m xc) ∧ Z.frozen? ⟨nb, b, none⟩ = false := fun Z hZ => ⟨(hZ.cell (p := ⟨f, 0, none⟩) hfl).trans c0, (hZ.cell (p := ⟨nb, b, none⟩) hnl).trans cb, (Hh.out.rN.same (hZ.block nb hnl)).frozen b⟩
            match s, hs, hc with
            | 0, _, hc => have hc : W = A := hc; subst hc; exact key2 _ bA
            | 1, _, hc => have hc : DD u W := hc; rw [hDD] at hc; exact key2 _ (bA.trans (hc.2.2.mono (Nat.le_of_eq hAs.symm)))
          have CP : Hid (∀ W', DrC A DD nb b 0 undef W' → Calls Try.prog 41 #[.slice xa m xc, .string tk] W' fun e w' => ∃ u, e = .returned u ∧ DrC A DD nb b 1 u w') := fun W' hW => by
            cases (show W' = A from hW)
            rw [HTK.out]
            refine (rdrop_any xa m xc ss key A (RdA.below HS.out.rd bA) Hm.out.1 (by have := Hm.out; omega)).mono ?_
            rintro e w' ⟨va, m', vc, rfl, h1, h2, h3⟩
            refine ⟨_, rfl, ?_⟩
            show DD _ _
            rw [hDD]
            exact ⟨⟨_, _, _, rfl⟩, h1, h2⟩
          have HA : Hid (DrC A DD nb b 0 undef { wr with drawn := wr.drawn + 1 }) := hA.symm
          have HE : Hid (∀ u W, DD u W → (∃ vN', RfIn B (W.setCell ⟨nb, b, none⟩ u) f nb ob nx2 vN' vO (partM (dropK key) (b + 1) nw2) od2 kv2 vv2 (ks.take i ++ ks.drop (i + 1)) (vs.take i ++ vs.drop (i + 1))) ∧ OffR B w (W.setCell ⟨nb, b, none⟩ u) ∧ B ≤ (W.setCell ⟨nb, b, none⟩ u).heap.size) := fun u W hD => by
            rw [hDD] at hD
            obtain ⟨_, h1, h2⟩ := hD
            have bb := bA.trans (h2.mono (Nat.le_of_eq hAs.symm))
            refine ⟨HST.out W u bb (by rw [← hAs]; exact h1) (by rw [← hAs]; exact h1.ge), H45.out.1.trans ((OffR.below bb H45.out.2).trans (OffR.setCell (Hh.out.rN.same (bb.block nb hnl)) Hh.out.lb (by simp) _)), ?_⟩
            rw [nblk_setCell]
            exact Nat.le_trans H45.out.2 bb.size
          clear hDD hAs bA hfl hnl Hh HST H45 Hm HS hA
          refine wp_region_cx (by kernel_rfl) (by kernel_rfl) (fun u jx => ([.pointer (some ⟨f, 0, none⟩), .pointer (some ⟨f, 0, none⟩), .pointer (some ⟨f, 0, none⟩), .slice (some ⟨nb, 0, none⟩) N N, .int .i64 (b : Int), .pointer (some ⟨f, 0, none⟩), .pointer (some ⟨f, 0, none⟩), .pointer (some ⟨f, 0, none⟩), .slice (some ⟨nb, 0, none⟩) N N, .int .i64 (b : Int), .pointer (some ⟨nb, b, none⟩), .slice xa m xc, .string tk, u, .pointer (some ⟨nb, b, none⟩), undef] : List Value).getD jx undef) 13 [13, 15] [15] (by kernel_rfl) (by kernel_rfl) rfl (fun _ => rfl) (fun v v' jx h1 h2 => by match jx with | 0 => rfl | 1 => rfl | 2 => rfl | 3 => rfl | 4 => rfl | 5 => rfl | 6 => rfl | 7 => rfl | 8 => rfl | 9 => rfl | 10 => rfl | 11 => rfl | 12 => rfl | 13 => exact absurd rfl h2 | 14 => rfl | 15 => exact absurd (by decide) h1 | _ + 16 => rfl) (DrC A DD nb b) (HA.out) ?_ ?_
          · intro jx ox hi sx u w' ev hlm hks hdp hc hin hout hcst hfn
            have hltx : jx < 16 := by
              have := (Array.getElem?_eq_some_iff.1 hi).1
              simpa using this
            match jx, hltx with
            | 0, _ =>
              simp only [List.getElem?_toArray, List.getElem?_cons_zero, List.getElem?_cons_succ, Option.some.injEq] at hi
              subst hi
              have e0 : ev (.tmp 0) = .pointer (some ⟨f, 0, none⟩) := hout 0 (by kernel_rfl) (show (0 : Nat) < 101 by decide)
              refine .inl ⟨.pointer (some ⟨f, 0, none⟩), w', ?_, by show ite _ _ _; rw [if_neg (by decide), if_neg (by decide)]; exact ⟨rfl, hc⟩⟩
              simp [execOp, e0, hcst, go_sem]
            | 1, _ =>
              simp only [List.getElem?_toArray, List.getElem?_cons_zero, List.getElem?_cons_succ, Option.some.injEq] at hi
              subst hi
              have e0 : ev (.tmp 62) = .pointer (some ⟨f, 0, none⟩) := hin 62 0 ⟨0, .data⟩ (by kernel_rfl) (by simp) rfl rfl (show (62 : Nat) < 101 by decide)
              refine .inl ⟨.pointer (some ⟨f, 0, none⟩), w', ?_, by show ite _ _ _; rw [if_neg (by decide), if_neg (by decide)]; exact ⟨rfl, hc⟩⟩
              simp [execOp, e0, hcst, go_sem]
            | 2, _ =>
              simp only [List.getElem?_toArray, List.getElem?_cons_zero, List.getElem?_cons_succ, Option.some.injEq] at hi
              subst hi
              have e0 : ev (.tmp 63) = .pointer (some ⟨f, 0, none⟩) := hin 63 1 ⟨1, .data⟩ (by kernel_rfl) (by simp) rfl rfl (show (63 : Nat) < 101 by decide)
              refine .inl ⟨.pointer (some ⟨f, 0, none⟩), w', ?_, by show ite _ _ _; rw [if_neg (by decide), if_neg (by decide)]; exact ⟨rfl, hc⟩⟩
              simp [execOp, e0, hcst, go_sem]
            | 3, _ =>
              simp only [List.getElem?_toArray, List.getElem?_cons_zero, List.getElem?_cons_succ, Option.some.injEq] at hi
              subst hi
              have e0 : ev (.tmp 64) = .pointer (some ⟨f, 0, none⟩) := hin 64 2 ⟨2, .data⟩ (by kernel_rfl) (by simp) rfl rfl (show (64 : Nat) < 101 by decide)
              refine .inl ⟨.slice (some ⟨nb, 0, none⟩) N N, w', ?_, by show ite _ _ _; rw [if_neg (by decide), if_neg (by decide)]; exact ⟨rfl, hc⟩⟩
              have hl2 : sx ≤ 1 := Nat.le_trans hlm (Nat.le_of_eq (by kernel_rfl))
              have q := (HF.out sx u w' (by omega) hc).1
              simp [execOp, e0, hcst, go_sem, q]
            | 4, _ =>
              simp only [List.getElem?_toArray, List.getElem?_cons_zero, List.getElem?_cons_succ, Option.some.injEq] at hi
              subst hi
              have e0 : ev (.tmp 6) = .int .i64 (b : Int) := hout 6 (by kernel_rfl) (show (6 : Nat) < 101 by decide)
              refine .inl ⟨.int .i64 (b : Int), w', ?_, by show ite _ _ _; rw [if_neg (by decide), if_neg (by decide)]; exact ⟨rfl, hc⟩⟩
              simp [execOp, e0, hcst, go_sem]
            | 5, _ =>
              simp only [List.getElem?_toArray, List.getElem?_cons_zero, List.getElem?_cons_succ, Option.some.injEq] at hi
              subst hi
              have e0 : ev (.tmp 0) = .pointer (some ⟨f, 0, none⟩) := hout 0 (by kernel_rfl) (show (0 : Nat) < 101 by decide)
              refine .inl ⟨.pointer (some ⟨f, 0, none⟩), w', ?_, by show ite _ _ _; rw [if_neg (by decide), if_neg (by decide)]; exact ⟨rfl, hc⟩⟩
              simp [execOp, e0, hcst, go_sem]
            | 6, _ =>
              simp only [List.getElem?_toArray, List.getElem?_cons_zero, List.getElem?_cons_succ, Option.some.injEq] at hi
              subst hi
              have e0 : ev (.tmp 67) = .pointer (some ⟨f, 0, none⟩) := hin 67 5 ⟨5, .data⟩ (by kernel_rfl) (by simp) rfl rfl (show (67 : Nat) < 101 by decide)
              refine .inl ⟨.pointer (some ⟨f, 0, none⟩), w', ?_, by show ite _ _ _; rw [if_neg (by decide), if_neg (by decide)]; exact ⟨rfl, hc⟩⟩
              simp [execOp, e0, hcst, go_sem]
            | 7, _ =>
              simp only [List.getElem?_toArray, List.getElem?_cons_zero, List.getElem?_cons_succ, Option.some.injEq] at hi
              subst hi
              have e0 : ev (.tmp 68) = .pointer (some ⟨f, 0, none⟩) := hin 68 6 ⟨6, .data⟩ (by kernel_rfl) (by simp) rfl rfl (show (68 : Nat) < 101 by decide)
              refine .inl ⟨.pointer (some ⟨f, 0, none⟩), w', ?_, by show ite _ _ _; rw [if_neg (by decide), if_neg (by decide)]; exact ⟨rfl, hc⟩⟩
              simp [execOp, e0, hcst, go_sem]
            | 8, _ =>
              simp only [List.getElem?_toArray, List.getElem?_cons_zero, List.getElem?_cons_succ, Option.some.injEq] at hi
              subst hi
              have e0 : ev (.tmp 69) = .pointer (some ⟨f, 0, none⟩) := hin 69 7 ⟨7, .data⟩ (by kernel_rfl) (by simp) rfl rfl (show (69 : Nat) < 101 by decide)
              refine .inl ⟨.slice (some ⟨nb, 0, none⟩) N N, w', ?_, by show ite _ _ _; rw [if_neg (by decide), if_neg (by decide)]; exact ⟨rfl, hc⟩⟩
              have hl2 : sx ≤ 1 := Nat.le_trans hlm (Nat.le_of_eq (by kernel_rfl))
              have q := (HF.out sx u w' (by omega) hc).1
              simp [execOp, e0, hcst, go_sem, q]
            | 9, _ =>
              simp only [List.getElem?_toArray, List.getElem?_cons_zero, List.getElem?_cons_succ, Option.some.injEq] at hi
              subst hi
              have e0 : ev (.tmp 6) = .int .i64 (b : Int) := hout 6 (by kernel_rfl) (show (6 : Nat) < 101 by decide)
              refine .inl ⟨.int .i64 (b : Int), w', ?_, by show ite _ _ _; rw [if_neg (by decide), if_neg (by decide)]; exact ⟨rfl, hc⟩⟩
              simp [execOp, e0, hcst, go_sem]
            | 10, _ =>
              simp only [List.getElem?_toArray, List.getElem?_cons_zero, List.getElem?_cons_succ, Option.some.injEq] at hi
              subst hi
              have e0 : ev (.tmp 70) = .slice (some ⟨nb, 0, none⟩) N N := hin 70 8 ⟨8, .data⟩ (by kernel_rfl) (by simp) rfl rfl (show (70 : Nat) < 101 by decide)
              have e1 : ev (.tmp 71) = .int .i64 (b : Int) := hin 71 9 ⟨9, .data⟩ (by kernel_rfl) (by simp) rfl rfl (show (71 : Nat) < 101 by decide)
              refine .inl ⟨.pointer (some ⟨nb, b, none⟩), w', ?_, by show ite _ _ _; rw [if_neg (by decide), if_neg (by decide)]; exact ⟨rfl, hc⟩⟩
              have q := HBN.out
              simp [execOp, e0, e1, hcst, go_sem, q]
            | 11, _ =>
              simp only [List.getElem?_toArray, List.getElem?_cons_zero, List.getElem?_cons_succ, Option.some.injEq] at hi
              subst hi
              have e0 : ev (.tmp 72) = .pointer (some ⟨nb, b, none⟩) := hin 72 10 ⟨10, .data⟩ (by kernel_rfl) (by simp) rfl rfl (show (72 : Nat) < 101 by decide)
              refine .inl ⟨.slice xa m xc, w', ?_, by show ite _ _ _; rw [if_neg (by decide), if_neg (by decide)]; exact ⟨rfl, hc⟩⟩
              have hl2 : sx ≤ 0 := Nat.le_trans hlm (Nat.le_of_eq (by kernel_rfl))
              have q := (HF.out sx u w' (by omega) hc).2.1
              simp [execOp, e0, hcst, go_sem, q]
            | 12, _ =>
              simp only [List.getElem?_toArray, List.getElem?_cons_zero, List.getElem?_cons_succ, Option.some.injEq] at hi
              subst hi
              have e0 : ev (.tmp 1) = .string tk := hout 1 (by kernel_rfl) (show (1 : Nat) < 101 by decide)
              refine .inl ⟨.string tk, w', ?_, by show ite _ _ _; rw [if_neg (by decide), if_neg (by decide)]; exact ⟨rfl, hc⟩⟩
              simp [execOp, e0, hcst, go_sem]
            | 13, _ =>
              simp only [List.getElem?_toArray, List.getElem?_cons_zero, List.getElem?_cons_succ, Option.some.injEq] at hi
              subst hi
              have e0 : ev (.tmp 73) = .slice xa m xc := hin 73 11 ⟨11, .data⟩ (by kernel_rfl) (by simp) rfl rfl (show (73 : Nat) < 101 by decide)
              have e1 : ev (.tmp 74) = .string tk := hin 74 12 ⟨12, .data⟩ (by kernel_rfl) (by simp) rfl rfl (show (74 : Nat) < 101 by decide)
              have hsx : sx = 0 := hks 0 rfl
              subst hsx
              refine .inr (.inr ⟨41, #[.slice xa m xc, .string tk], ?_, ?_⟩)
              · have ef := hfn 41
                simp [execOp, resolve, invoke, ef, hcst, e0, e1, Result.andThen]
                exact enter41 _ _
              · refine Calls.mono (P := Try.prog) (R := fun e w2 => ∃ v, e = .returned v ∧ (DrC A DD nb b) 1 v w2) ?_ ?_
                · exact CP.out w' hc
                · rintro e w2 ⟨v, rfl, hv⟩
                  exact ⟨v, rfl, by first | exact hv | (rw [if_pos rfl]; exact hv) | (show ite _ _ _; rw [if_pos rfl]; exact hv)⟩
            | 14, _ =>
              simp only [List.getElem?_toArray, List.getElem?_cons_zero, List.getElem?_cons_succ, Option.some.injEq] at hi
              subst hi
              have e0 : ev (.tmp 65) = .slice (some ⟨nb, 0, none⟩) N N := hin 65 3 ⟨3, .data⟩ (by kernel_rfl) (by simp) rfl rfl (show (65 : Nat) < 101 by decide)
              have e1 : ev (.tmp 66) = .int .i64 (b : Int) := hin 66 4 ⟨4, .data⟩ (by kernel_rfl) (by simp) rfl rfl (show (66 : Nat) < 101 by decide)
              refine .inl ⟨.pointer (some ⟨nb, b, none⟩), w', ?_, by show ite _ _ _; rw [if_neg (by decide), if_neg (by decide)]; exact ⟨rfl, hc⟩⟩
              have q := HBN.out
              simp [execOp, e0, e1, hcst, go_sem, q]
            | 15, _ =>
              simp only [List.getElem?_toArray, List.getElem?_cons_zero, List.getElem?_cons_succ, Option.some.injEq] at hi
              subst hi
              have e0 : ev (.tmp 76) = .pointer (some ⟨nb, b, none⟩) := hin 76 14 ⟨14, .data⟩ (by kernel_rfl) (by simp) rfl rfl (show (76 : Nat) < 101 by decide)
              have e1 : ev (.tmp 75) = u := hin 75 13 ⟨13, .data⟩ (by kernel_rfl) (by simp) rfl rfl (show (75 : Nat) < 101 by decide)
              have hd : 0 < sx := hdp (by decide)
              have hsx : sx = 1 := hks 1 rfl
              subst hsx
              have hq := HF.out 1 u w' (by omega) hc
              have hD := DrC.one hc
              obtain ⟨ya, ym, yc, rfl⟩ := HU.out u w' hD
              refine .inr (.inl ⟨w'.setCell ⟨nb, b, none⟩ (.slice ya ym yc), ?_, by show ite _ _ _; rw [if_neg (by decide), if_pos (by decide)]; exact ⟨rfl, DrC.mk2 hD⟩⟩)
              have q1 := hq.2.1
              have q2 := hq.2.2
              simp [execOp, e0, e1, hcst, go_sem, q1, q2, Result.andThen]
          · intro u w9 hc
            simp only [lexF, Act.put, List.setIfInBounds_toArray, List.set_cons_succ, List.set_cons_zero, List.getD_cons_succ, List.getD_cons_zero]
            obtain ⟨W9, hD, rfl⟩ := DrC.two hc
            have HD := hide hD
            clear hD hc HF CP HA HU c0 cb
            go_wp2
            go_roundg (N - (b + 1))
            case measure => have := HI.out; omega
            case rel =>
              obtain ⟨h1, h2, h3⟩ := HE.out u W9 HD.out
              exact ⟨b + 1, rfl, by omega, Nat.le_refl _, h1, h2, h3⟩
        · have hlt2 : ¬ (b : Int) < (N : Int) := by omega
          rw [partM_all _ _ (by rw [← HNN.out]; omega)] at h
          have H9 := hide (And.intro h (And.intro i4 i5))
          obtain ⟨wo, hwo⟩ : ∃ wo, wo = wr := ⟨_, rfl⟩
          subst hwo
          clear h i1 i2 i4 i5 I H8
          obtain ⟨M, hM⟩ : ∃ M, M = nx2 + od2.length := ⟨_, rfl⟩
          have HM := hide hM
          have M9 : M ≤ 131072 := by rw [hM]; exact HD1.out.m9
          clear hM
          go_wp2_with fail
          clear c0
          go_loopg [7] M (fun kx s7 wr => ∃ (b : Nat), s7 = .int .i64 b ∧ Hid (b ≤ M ∧ M - b ≤ kx ∧ (∃ vO', RfIn B wr f nb ob nx2 vN' vO' (nw2.map (dropK key)) (partM (dropK key) (b - nx2) od2) kv2 vv2 (ks.take i ++ ks.drop (i + 1)) (vs.take i ++ vs.drop (i + 1))) ∧ OffR B w wr ∧ B ≤ wr.heap.size))
          case atStart => exact ⟨0, rfl, Nat.zero_le _, Nat.le_refl _, ⟨vO, by rw [Nat.zero_sub, partM_zero]; exact H9.out.1⟩, H9.out.2.1, H9.out.2.2⟩
          case round =>
            obtain ⟨b, rfl, I⟩ := hrel
            obtain ⟨i1, i2, ⟨vO', h⟩, i4, i5⟩ := I.out
            have c1 := h.own.cell (i := 1) rfl
            rw [partM_len, ← HM.out] at c1
            by_cases hlt : b < M
            · have hlt2 : (b : Int) < (M : Int) := by omega
              rw [sl2_pos _ _ (by omega)] at c1
              obtain ⟨v, ss, hv, hS, hmem, hstep⟩ := h.dropO (key := key) i5 (by rw [← HM.out]; exact hlt)
              have hrO := h.rO (by rw [partM_len]; have := HM.out; omega)
              have hlo := h.lo (by rw [partM_len]; have := HM.out; omega)
              have cb := hrO.cell hv
              obtain ⟨xa, xc, rfl⟩ := hS.slice
              have hss : ss.length ≤ 1000 := by
                rcases hmem with rfl | hmem
                · simp
                · have h1 := mem_flat_le hmem; have h2 := HD1.out.t9; omega
              obtain ⟨m, hm⟩ : ∃ m, m = ss.length := ⟨_, rfl⟩
              rw [← hm] at cb hS
              have HI := hide i2
              have HBN : Hid (b < M) := hlt
              have Hh := hide h
              have HST := hide hstep
              have HrO := hide (And.intro hrO hlo)
              have H45 := hide (And.intro i4 i5)
              have Hm := hide (And.intro hm hss)
              have HS := hide hS
              clear h hv hmem hstep i1 i2 i4 i5 I hm hss hS hrO hlo
              go_wp2_with fail
              obtain ⟨A, hA⟩ : ∃ A, A = { wr with drawn := wr.drawn + 1 } := ⟨_, rfl⟩
              have bA : Below wr.heap.size wr A := by rw [hA]; exact below_drawn wr
              have hAs : A.heap.size = wr.heap.size := by rw [hA]
              have hfl := Hh.out.own.lt
              have hnl := HrO.out.1.lt
              obtain ⟨DD, hDD⟩ : ∃ DD : Value → World → Prop, DD = fun u W => (∃ va m vc, u = .slice va m vc) ∧ SR A.heap.size u (dropK key ss) W ∧ Below A.heap.size A W ∧ (dropK key ss = [] → u = .slice none 0 0) := ⟨_, rfl⟩
              have HU : Hid (∀ u W, DD u W → ∃ ya ym yc, u = .slice ya ym yc) := fun u W h => by rw [hDD] at h; exact h.1
              have HF : Hid (∀ s u W, s ≤ 1 → DrC A DD ob b s u W → W.cell? ⟨f, 1, none⟩ = some (.slice (some ⟨ob, 0, none⟩) M M) ∧ W.cell? ⟨ob, b, none⟩ = some (.slice xa m xc) ∧ W.frozen? ⟨ob, b, none⟩ = false) := fun s u W hs hc => by
                have key2 : ∀ Z, Below wr.heap.size wr Z → Z.cell? ⟨f, 1, none⟩ = some (.slice (some ⟨ob, 0, none⟩) M M) ∧ Z.cell? ⟨ob, b, none⟩ = some (.slice xa m xc) ∧ Z.frozen? ⟨ob, b, none⟩ = false := fun Z hZ => ⟨(hZ.cell (p := ⟨f, 1, none⟩) hfl).trans c1, (hZ.cell (p := ⟨ob, b, none⟩) hnl).trans cb, (HrO.out.1.same (hZ.block ob hnl)).frozen b⟩
                match s, hs, hc with
                | 0, _, hc => have hc : W = A := hc; subst hc; exact key2 _ bA
                | 1, _, hc => have hc : DD u W := hc; rw [hDD] at hc; exact key2 _ (bA.trans (hc.2.2.1.mono (Nat.le_of_eq hAs.symm)))
              have CP : Hid (∀ W', DrC A DD ob b 0 undef W' → Calls Try.prog 41 #[.slice xa m xc, .string tk] W' fun e w' => ∃ u, e = .returned u ∧ DrC A DD ob b 1 u w') := fun W' hW => by
                cases (show W' = A from hW)
                rw [HTK.out]
                refine (rdrop_any xa m xc ss key A (RdA.below HS.out.rd bA) Hm.out.1 (by have := Hm.out; omega)).mono ?_
                rintro e w' ⟨va, m', vc, rfl, h1, h2, h3⟩
                refine ⟨_, rfl, ?_⟩
                show DD _ _
                rw [hDD]
                exact ⟨⟨_, _, _, rfl⟩, h1, h2, h3⟩
              have HA : Hid (DrC A DD ob b 0 undef { wr with drawn := wr.drawn + 1 }) := hA.symm
              have HE : Hid (∀ u W, DD u W → (∃ vO', RfIn B (W.setCell ⟨ob, b, none⟩ u) f nb ob nx2 vN' vO' (nw2.map (dropK key)) (partM (dropK key) (b + 1 - nx2) od2) kv2 vv2 (ks.take i ++ ks.drop (i + 1)) (vs.take i ++ vs.drop (i + 1))) ∧ OffR B w (W.setCell ⟨ob, b, none⟩ u) ∧ B ≤ (W.setCell ⟨ob, b, none⟩ u).heap.size) := fun u W hD => by
                rw [hDD] at hD
                obtain ⟨_, h1, h2, h3⟩ := hD
                have bb := bA.trans (h2.mono (Nat.le_of_eq hAs.symm))
                refine ⟨HST.out W u bb (by rw [← hAs]; exact h1) h3 (by rw [← hAs]; exact h1.ge), H45.out.1.trans ((OffR.below bb H45.out.2).trans (OffR.setCell (HrO.out.1.same (bb.block ob hnl)) HrO.out.2 (by simp) _)), ?_⟩
                rw [nblk_setCell]
                exact Nat.le_trans H45.out.2 bb.size
              clear hDD hAs bA hfl hnl Hh HST H45 Hm HS hA HrO
              refine wp_region_cx (by kernel_rfl) (by kernel_rfl) (fun u jx => ([.pointer (some ⟨f, 0, none⟩), .pointer (some ⟨f, 0, none⟩), .pointer (some ⟨f, 1, none⟩), .slice (some ⟨ob, 0, none⟩) M M, .int .i64 (b : Int), .pointer (some ⟨f, 0, none⟩), .pointer (some ⟨f, 0, none⟩), .pointer (some ⟨f, 1, none⟩), .slice (some ⟨ob, 0, none⟩) M M, .int .i64 (b : Int), .pointer (some ⟨ob, b, none⟩), .slice xa m xc, .string tk, u, .pointer (some ⟨ob, b, none⟩), undef] : List Value).getD jx undef) 13 [13, 15] [15] (by kernel_rfl) (by kernel_rfl) rfl (fun _ => rfl) (fun v v' jx h1 h2 => by match jx with | 0 => rfl | 1 => rfl | 2 => rfl | 3 => rfl | 4 => rfl | 5 => rfl | 6 => rfl | 7 => rfl | 8 => rfl | 9 => rfl | 10 => rfl | 11 => rfl | 12 => rfl | 13 => exact absurd rfl h2 | 14 => rfl | 15 => exact absurd (by decide) h1 | _ + 16 => rfl) (DrC A DD ob b) (HA.out) ?_ ?_
              · intro jx ox hi sx u w' ev hlm hks hdp hc hin hout hcst hfn
                have hltx : jx < 16 := by
                  have := (Array.getElem?_eq_some_iff.1 hi).1
                  simpa using this
                match jx, hltx with
                | 0, _ =>
                  simp only [List.getElem?_toArray, List.getElem?_cons_zero, List.getElem?_cons_succ, Option.some.injEq] at hi
                  subst hi
                  have e0 : ev (.tmp 0) = .pointer (some ⟨f, 0, none⟩) := hout 0 (by kernel_rfl) (show (0 : Nat) < 101 by decide)
                  refine .inl ⟨.pointer (some ⟨f, 0, none⟩), w', ?_, by show ite _ _ _; rw [if_neg (by decide), if_neg (by decide)]; exact ⟨rfl, hc⟩⟩
                  simp [execOp, e0, hcst, go_sem]
                | 1, _ =>
                  simp only [List.getElem?_toArray, List.getElem?_cons_zero, List.getElem?_cons_succ, Option.some.injEq] at hi
                  subst hi
                  have e0 : ev (.tmp 86) = .pointer (some ⟨f, 0, none⟩) := hin 86 0 ⟨0, .data⟩ (by kernel_rfl) (by simp) rfl rfl (show (86 : Nat) < 101 by decide)
                  refine .inl ⟨.pointer (some ⟨f, 0, none⟩), w', ?_, by show ite _ _ _; rw [if_neg (by decide), if_neg (by decide)]; exact ⟨rfl, hc⟩⟩
                  simp [execOp, e0, hcst, go_sem]
                | 2, _ =>
                  simp only [List.getElem?_toArray, List.getElem?_cons_zero, List.getElem?_cons_succ, Option.some.injEq] at hi
                  subst hi
                  have e0 : ev (.tmp 87) = .pointer (some ⟨f, 0, none⟩) := hin 87 1 ⟨1, .data⟩ (by kernel_rfl) (by simp) rfl rfl (show (87 : Nat) < 101 by decide)
                  refine .inl ⟨.pointer (some ⟨f, 1, none⟩), w', ?_, by show ite _ _ _; rw [if_neg (by decide), if_neg (by decide)]; exact ⟨rfl, hc⟩⟩
                  simp [execOp, e0, hcst, go_sem]
                | 3, _ =>
                  simp only [List.getElem?_toArray, List.getElem?_cons_zero, List.getElem?_cons_succ, Option.some.injEq] at hi
                  subst hi
                  have e0 : ev (.tmp 88) = .pointer (some ⟨f, 1, none⟩) := hin 88 2 ⟨2, .data⟩ (by kernel_rfl) (by simp) rfl rfl (show (88 : Nat) < 101 by decide)
                  refine .inl ⟨.slice (some ⟨ob, 0, none⟩) M M, w', ?_, by show ite _ _ _; rw [if_neg (by decide), if_neg (by decide)]; exact ⟨rfl, hc⟩⟩
                  have hl2 : sx ≤ 1 := Nat.le_trans hlm (Nat.le_of_eq (by kernel_rfl))
                  have q := (HF.out sx u w' (by omega) hc).1
                  simp [execOp, e0, hcst, go_sem, q]
                | 4, _ =>
                  simp only [List.getElem?_toArray, List.getElem?_cons_zero, List.getElem?_cons_succ, Option.some.injEq] at hi
                  subst hi
                  have e0 : ev (.tmp 7) = .int .i64 (b : Int) := hout 7 (by kernel_rfl) (show (7 : Nat) < 101 by decide)
                  refine .inl ⟨.int .i64 (b : Int), w', ?_, by show ite _ _ _; rw [if_neg (by decide), if_neg (by decide)]; exact ⟨rfl, hc⟩⟩
                  simp [execOp, e0, hcst, go_sem]
                | 5, _ =>
                  simp only [List.getElem?_toArray, List.getElem?_cons_zero, List.getElem?_cons_succ, Option.some.injEq] at hi
                  subst hi
                  have e0 : ev (.tmp 0) = .pointer (some ⟨f, 0, none⟩) := hout 0 (by kernel_rfl) (show (0 : Nat) < 101 by decide)
                  refine .inl ⟨.pointer (some ⟨f, 0, none⟩), w', ?_, by show ite _ _ _; rw [if_neg (by decide), if_neg (by decide)]; exact ⟨rfl, hc⟩⟩
                  simp [execOp, e0, hcst, go_sem]
                | 6, _ =>
                  simp only [List.getElem?_toArray, List.getElem?_cons_zero, List.getElem?_cons_succ, Option.some.injEq] at hi
                  subst hi
                  have e0 : ev (.tmp 91) = .pointer (some ⟨f, 0, none⟩) := hin 91 5 ⟨5, .data⟩ (by kernel_rfl) (by simp) rfl rfl (show (91 : Nat) < 101 by decide)
                  refine .inl ⟨.pointer (some ⟨f, 0, none⟩), w', ?_, by show ite _ _ _; rw [if_neg (by decide), if_neg (by decide)]; exact ⟨rfl, hc⟩⟩
                  simp [execOp, e0, hcst, go_sem]
                | 7, _ =>
                  simp only [List.getElem?_toArray, List.getElem?_cons_zero, List.getElem?_cons_succ, Option.some.injEq] at hi
                  subst hi
                  have e0 : ev (.tmp 92) = .pointer (some ⟨f, 0, none⟩) := hin 92 6 ⟨6, .data⟩ (by kernel_rfl) (by simp) rfl rfl (show (92 : Nat) < 101 by decide)
                  refine .inl ⟨.pointer (some ⟨f, 1, none⟩), w', ?_, by show ite _ _ _; rw [if_neg (by decide), if_neg (by decide)]; exact ⟨rfl, hc⟩⟩
                  simp [execOp, e0, hcst, go_sem]
                | 8, _ =>
                  simp only [List.getElem?_toArray, List.getElem?_cons_zero, List.getElem?_cons_succ, Option.some.injEq] at hi
                  subst hi
                  have e0 : ev (.tmp 93) = .pointer (some ⟨f, 1, none⟩) := hin 93 7 ⟨7, .data⟩ (by kernel_rfl) (by simp) rfl rfl (show (93 : Nat) < 101 by decide)
                  refine .inl ⟨.slice (some ⟨ob, 0, none⟩) M M, w', ?_, by show ite _ _ _; rw [if_neg (by decide), if_neg (by decide)]; exact ⟨rfl, hc⟩⟩
                  have hl2 : sx ≤ 1 := Nat.le_trans hlm (Nat.le_of_eq (by kernel_rfl))
                  have q := (HF.out sx u w' (by omega) hc).1
                  simp [execOp, e0, hcst, go_sem, q]
                | 9, _ =>
                  simp only [List.getElem?_toArray, List.getElem?_cons_zero, List.getElem?_cons_succ, Option.some.injEq] at hi
                  subst hi
                  have e0 : ev (.tmp 7) = .int .i64 (b : Int) := hout 7 (by kernel_rfl) (show (7 : Nat) < 101 by decide)
                  refine .inl ⟨.int .i64 (b : Int), w', ?_, by show ite _ _ _; rw [if_neg (by decide), if_neg (by decide)]; exact ⟨rfl, hc⟩⟩
                  simp [execOp, e0, hcst, go_sem]
                | 10, _ =>
                  simp only [List.getElem?_toArray, List.getElem?_cons_zero, List.getElem?_cons_succ, Option.some.injEq] at hi
                  subst hi
                  have e0 : ev (.tmp 94) = .slice (some ⟨ob, 0, none⟩) M M := hin 94 8 ⟨8, .data⟩ (by kernel_rfl) (by simp) rfl rfl (show (94 : Nat) < 101 by decide)
                  have e1 : ev (.tmp 95) = .int .i64 (b : Int) := hin 95 9 ⟨9, .data⟩ (by kernel_rfl) (by simp) rfl rfl (show (95 : Nat) < 101 by decide)
                  refine .inl ⟨.pointer (some ⟨ob, b, none⟩), w', ?_, by show ite _ _ _; rw [if_neg (by decide), if_neg (by decide)]; exact ⟨rfl, hc⟩⟩
                  have q := HBN.out
                  simp [execOp, e0, e1, hcst, go_sem, q]
                | 11, _ =>
                  simp only [List.getElem?_toArray, List.getElem?_cons_zero, List.getElem?_cons_succ, Option.some.injEq] at hi
                  subst hi
                  have e0 : ev (.tmp 96) = .pointer (some ⟨ob, b, none⟩) := hin 96 10 ⟨10, .data⟩ (by kernel_rfl) (by simp) rfl rfl (show (96 : Nat) < 101 by decide)
                  refine .inl ⟨.slice xa m xc, w', ?_, by show ite _ _ _; rw [if_neg (by decide), if_neg (by decide)]; exact ⟨rfl, hc⟩⟩
                  have hl2 : sx ≤ 0 := Nat.le_trans hlm (Nat.le_of_eq (by kernel_rfl))
                  have q := (HF.out sx u w' (by omega) hc).2.1
                  simp [execOp, e0, hcst, go_sem, q]
                | 12, _ =>
                  simp only [List.getElem?_toArray, List.getElem?_cons_zero, List.getElem?_cons_succ, Option.some.injEq] at hi
                  subst hi
                  have e0 : ev (.tmp 1) = .string tk := hout 1 (by kernel_rfl) (show (1 : Nat) < 101 by decide)
                  refine .inl ⟨.string tk, w', ?_, by show ite _ _ _; rw [if_neg (by decide), if_neg (by decide)]; exact ⟨rfl, hc⟩⟩
                  simp [execOp, e0, hcst, go_sem]
                | 13, _ =>
                  simp only [List.getElem?_toArray, List.getElem?_cons_zero, List.getElem?_cons_succ, Option.some.injEq] at hi
                  subst hi
                  have e0 : ev (.tmp 97) = .slice xa m xc := hin 97 11 ⟨11, .data⟩ (by kernel_rfl) (by simp) rfl rfl (show (97 : Nat) < 101 by decide)
                  have e1 : ev (.tmp 98) = .string tk := hin 98 12 ⟨12, .data⟩ (by kernel_rfl) (by simp) rfl rfl (show (98 : Nat) < 101 by decide)
                  have hsx : sx = 0 := hks 0 rfl
                  subst hsx
                  refine .inr (.inr ⟨41, #[.slice xa m xc, .string tk], ?_, ?_⟩)
                  · have ef := hfn 41
                    simp [execOp, resolve, invoke, ef, hcst, e0, e1, Result.andThen]
                    exact enter41 _ _
                  · refine Calls.mono (P := Try.prog) (R := fun e w2 => ∃ v, e = .returned v ∧ (DrC A DD ob b) 1 v w2) ?_ ?_
                    · exact CP.out w' hc
                    · rintro e w2 ⟨v, rfl, hv⟩
                      exact ⟨v, rfl, by first | exact hv | (rw [if_pos rfl]; exact hv) | (show ite _ _ _; rw [if_pos rfl]; exact hv)⟩
                | 14, _ =>
                  simp only [List.getElem?_toArray, List.getElem?_cons_zero, List.getElem?_cons_succ, Option.some.injEq] at hi
                  subst hi
                  have e0 : ev (.tmp 89) = .slice (some ⟨ob, 0, none⟩) M M := hin 89 3 ⟨3, .data⟩ (by kernel_rfl) (by simp) rfl rfl (show (89 : Nat) < 101 by decide)
                  have e1 : ev (.tmp 90) = .int .i64 (b : Int) := hin 90 4 ⟨4, .data⟩ (by kernel_rfl) (by simp) rfl rfl (show (90 : Nat) < 101 by decide)
                  refine .inl ⟨.pointer (some ⟨ob, b, none⟩), w', ?_, by show ite _ _ _; rw [if_neg (by decide), if_neg (by decide)]; exact ⟨rfl, hc⟩⟩
                  have q := HBN.out
                  simp [execOp, e0, e1, hcst, go_sem, q]
                | 15, _ =>
                  simp only [List.getElem?_toArray, List.getElem?_cons_zero, List.getElem?_cons_succ, Option.some.injEq] at hi
                  subst hi
                  have e0 : ev (.tmp 100) = .pointer (some ⟨ob, b, none⟩) := hin 100 14 ⟨14, .data⟩ (by kernel_rfl) (by simp) rfl rfl (show (100 : Nat) < 101 by decide)
                  have e1 : ev (.tmp 99) = u := hin 99 13 ⟨13, .data⟩ (by kernel_rfl) (by simp) rfl rfl (show (99 : Nat) < 101 by decide)
                  have hd : 0 < sx := hdp (by decide)
                  have hsx : sx = 1 := hks 1 rfl
                  subst hsx
                  have hq := HF.out 1 u w' (by omega) hc
                  have hD := DrC.one hc
                  obtain ⟨ya, ym, yc, rfl⟩ := HU.out u w' hD
                  refine .inr (.inl ⟨w'.setCell ⟨ob, b, none⟩ (.slice ya ym yc), ?_, by show ite _ _ _; rw [if_neg (by decide), if_pos (by decide)]; exact ⟨rfl, DrC.mk2 hD⟩⟩)
                  have q1 := hq.2.1
                  have q2 := hq.2.2
                  simp [execOp, e0, e1, hcst, go_sem, q1, q2, Result.andThen]
              · intro u w9 hc
                simp only [lexF, Act.put, List.setIfInBounds_toArray, List.set_cons_succ, List.set_cons_zero, List.getD_cons_succ, List.getD_cons_zero]
                obtain ⟨W9, hD, rfl⟩ := DrC.two hc
                have HD := hide hD
                clear hD hc HF CP HA HU c1 cb
                go_wp2
                go_roundg (M - (b + 1))
                case measure => have := HI.out; omega
                case rel =>
                  obtain ⟨h1, h2, h3⟩ := HE.out u W9 HD.out
                  exact ⟨b + 1, rfl, by omega, Nat.le_refl _, h1, h2, h3⟩
            · have hlt2 : ¬ (b : Int) < (M : Int) := by omega
              obtain ⟨sa, hsa⟩ := sl2_is ob M
              rw [hsa] at c1
              rw [partM_all _ _ (by have := HM.out; omega)] at h
              have HZ := hide (And.intro h (And.intro i4 i5))
              clear h i1 i2 i4 i5 I hsa
              go_wp2
              go_ret
              exact ⟨rfl, ⟨⟨_, _, _, _, _, _, HZ.out.1⟩, HZ.out.2.2⟩, HZ.out.2.1⟩
end
end Go.Proofs.Ytkjfildnemgbiaa
