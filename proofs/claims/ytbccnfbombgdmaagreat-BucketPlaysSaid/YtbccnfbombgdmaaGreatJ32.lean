/- Texts joined: BkI, BkJ, Rk1, Up. -/
import Derived.Test.YtbccnfbombgdmaaGreatJ31
import Derived.Test.YtbccnfbombgdmaaGreatJ24
import Derived.Test.YtbccnfbombgdmaaGreatJ03
/- Drop and Get behind a loss of power; Get of a key that the filter does not know. -/
set_option linter.unusedVariables false
set_option linter.unusedSimpArgs false
set_option maxRecDepth 8000
namespace Go.Proofs.YtbccnfbombgdmaaGreat
open Go.RowKit Go.Deep Math
variable {w0 W W' : World} {d s : Nat} {F F' : List Nat} {S S' : Dv} {L : Int} {first : Nat} {M : SM}

set_option maxHeartbeats 2000000 in
theorem drop_done (h : Bk w0 W d F S s L first M) (hL : S.losses ≠ L) (hn1 : 0 < M.fs.length) (hn2 : M.fs.length ≤ 256) (key : List UInt8) (hk : key.length ≤ maxLen) :
    Calls Tryz.prog 14 #[.pointer (some ⟨s, 0, none⟩), .string (txt key)] W fun e W' => e = .returned (.int .i64 4) ∧ Below W.heap.size W W' := by
  have cB := hide (bucket_any h.st key hk hn1 (by omega))
  have hbkl := bkt_lt key M.fs.length hn1
  obtain ⟨bk, hbk⟩ : ∃ bk, bk = bkt key M.fs.length := ⟨_, rfl⟩
  rw [← hbk] at cB hbkl
  have H := hide h
  have HL := hide hL
  have hbk6 : bk ≤ 256 := by omega
  clear h hL hk hbk hbkl hn1 hn2
  go_enter Tryz.func14, Tryz.ntmps14
  go_wp2_with fail
  refine cB.out.mono ?_
  rintro e w3 ⟨rfl, q3, rfl⟩
  have H3 := hide (H.out.below (below_q2 W q3))
  have cT := hide (list_done H3.out HL.out (bk : Int))
  clear cB
  go_wp2_with fail
  refine cT.out.mono ?_
  rintro e w4 ⟨rfl, b4⟩
  have B4 := hide ((below_drew (Below.refl W.heap.size W) q3).trans (b4.mono (Nat.le_refl _)))
  clear b4 cT
  go_wp2
  go_ret
  exact ⟨rfl, B4.out⟩

/-- A key that the filter does not know: whatever became of the power. -/
theorem get_no (h : Bk w0 W d F S s L first M) (key : List UInt8) (hk : key.length ≤ maxLen) (x : FB) (hx : M.fs[bkt key M.fs.length]? = some x) (hn2 : M.fs.length ≤ 256) (hm : Bl.mayB x.l (Bl.plc (txt key) 256 3) = false) :
    Calls Tryz.prog 12 #[.pointer (some ⟨s, 0, none⟩), .string (txt key)] W fun e W' => e = .returned (getV none) ∧ Bk w0 W' d F S s L first M ∧ Keep F W W' := by
  have hbx : Blk (W.alloc (.cells #[.string ⟨#[]⟩, .string ⟨#[]⟩, .int .u32 0, .int .i64 0, .int .u64 0] 39)) W.heap.size [.string ⟨#[]⟩, .string ⟨#[]⟩, .int .u32 0, .int .i64 0, .int .u64 0] 39 := Blk.new W _ 39
  have hbe : Below W.heap.size W (W.alloc (.cells #[.string ⟨#[]⟩, .string ⟨#[]⟩, .int .u32 0, .int .i64 0, .int .u64 0] 39)) := (Below.refl _ _).alloc (Nat.le_refl _) _
  have cM := hide (may_ok (h.below hbe) key hk x hx (by omega))
  obtain ⟨N, hN⟩ : ∃ N, N = W.heap.size := ⟨_, rfl⟩
  have HNF : Hid (N ∉ F ∧ N ∉ M.foot s ∧ w0.heap.size ≤ N) := ⟨by rw [hN]; exact h.law.dev.new _ (Nat.le_refl _), fun hf => by have := h.st.lt N hf; omega, by rw [hN]; exact h.law.bel.size⟩
  have HNN := hide hN
  rw [← hN] at hbx
  have HBX := hide hbx
  have KA : Hid (Keep F W (W.alloc (.cells #[.string ⟨#[]⟩, .string ⟨#[]⟩, .int .u32 0, .int .i64 0, .int .u64 0] 39))) := Keep.of_below hbe
  have HA := hide (h.below hbe)
  rw [hm] at cM
  clear h hk hx hN hbx hbe hm
  go_enter Tryz.func12, Tryz.ntmps12
  go_wp2_with fail
  refine cM.out.mono ?_
  rintro e w1 ⟨rfl, b1⟩
  have X1 := hide (HBX.out.same (b1.block N HBX.out.lt))
  have H1 := hide (HA.out.below b1)
  have K1 := hide (KA.out.trans (Keep.of_below (F := []) b1) (by simp))
  clear b1 cM
  have e0 := X1.out.cell (i := 0) rfl
  have e1 := X1.out.cell (i := 1) rfl
  have e2 := X1.out.cell (i := 2) rfl
  have e3 := X1.out.cell (i := 3) rfl
  have e4 := X1.out.cell (i := 4) rfl
  have f0 := X1.out.frozen 0
  have f1 := X1.out.frozen 1
  have f2 := X1.out.frozen 2
  have f3 := X1.out.frozen 3
  have f4 := X1.out.frozen 4
  rw [HNN.out] at e0 e1 e2 e3 e4 f0 f1 f2 f3 f4
  go_wp2
  have E := box_end H1.out K1.out HNF.out (by rw [HNN.out]; exact Nat.le_refl _) (.string ⟨#[]⟩) (.string ⟨#[]⟩) (.int .u32 0) (.int .i64 0) (.int .u64 0)
  rw [HNN.out] at E
  exact bodyPost_ret (v := getV none) (by simp [results, Tryz.results12, go_sem, getV, e0, e1, e2, e3, e4]) rfl ⟨rfl, E.1, E.2⟩

set_option maxHeartbeats 2000000 in
/-- A key that the filter may know, behind a loss of power. -/
theorem get_done (h : Bk w0 W d F S s L first M) (hL : S.losses ≠ L) (key : List UInt8) (hk : key.length ≤ maxLen) (x : FB) (hx : M.fs[bkt key M.fs.length]? = some x) (hn2 : M.fs.length ≤ 256) (hm : Bl.mayB x.l (Bl.plc (txt key) 256 3) = true) :
    Calls Tryz.prog 12 #[.pointer (some ⟨s, 0, none⟩), .string (txt key)] W fun e W' => e = .returned (.tuple #[.agg #[.string ⟨#[]⟩, .string ⟨#[]⟩, .int .u32 0, .int .i64 0, .int .u64 0], .int .i64 4]) ∧ Bk w0 W' d F S s L first M ∧ Keep F W W' := by
  have hbx : Blk (W.alloc (.cells #[.string ⟨#[]⟩, .string ⟨#[]⟩, .int .u32 0, .int .i64 0, .int .u64 0] 39)) W.heap.size [.string ⟨#[]⟩, .string ⟨#[]⟩, .int .u32 0, .int .i64 0, .int .u64 0] 39 := Blk.new W _ 39
  have hbe : Below W.heap.size W (W.alloc (.cells #[.string ⟨#[]⟩, .string ⟨#[]⟩, .int .u32 0, .int .i64 0, .int .u64 0] 39)) := (Below.refl _ _).alloc (Nat.le_refl _) _
  have cM := hide (may_ok (h.below hbe) key hk x hx (by omega))
  obtain ⟨N, hN⟩ : ∃ N, N = W.heap.size := ⟨_, rfl⟩
  have HNF : Hid (N ∉ F ∧ N ∉ M.foot s ∧ w0.heap.size ≤ N) := ⟨by rw [hN]; exact h.law.dev.new _ (Nat.le_refl _), fun hf => by have := h.st.lt N hf; omega, by rw [hN]; exact h.law.bel.size⟩
  have hkn := (List.getElem?_eq_some_iff.1 hx).1
  have HKL := hide hk
  have HL := hide hL
  obtain ⟨bk, hbk⟩ : ∃ bk, bk = bkt key M.fs.length := ⟨_, rfl⟩
  rw [← hbk] at hkn
  have HBK := hide hbk
  have hb256 : bk ≤ 256 := by omega
  have HKN := hide hkn
  have HNN := hide hN
  rw [← hN] at hbx
  have HBX := hide hbx
  have KA : Hid (Keep F W (W.alloc (.cells #[.string ⟨#[]⟩, .string ⟨#[]⟩, .int .u32 0, .int .i64 0, .int .u64 0] 39))) := Keep.of_below hbe
  have HA := hide (h.below hbe)
  rw [hm] at cM
  clear h hL hk hx hkn hbk hN hbx hbe hm
  go_enter Tryz.func12, Tryz.ntmps12
  go_wp2_with fail
  refine cM.out.mono ?_
  rintro e w1 ⟨rfl, b1⟩
  have X1 := hide (HBX.out.same (b1.block N HBX.out.lt))
  have H1 := hide (HA.out.below b1)
  have K1 := hide (KA.out.trans (Keep.of_below (F := []) b1) (by simp))
  clear b1 cM
  have cB := hide (bucket_any H1.out.st key HKL.out (by have := HKN.out; omega) (by omega))
  rw [← HBK.out] at cB
  go_wp2_with fail
  refine cB.out.mono ?_
  rintro e w2 ⟨rfl, q2, rfl⟩
  have H2 := hide (H1.out.below (below_q2 w1 q2))
  have X2 := hide (X1.out.same (w' := w1.drewN q2) rfl)
  have K2 := hide (K1.out.trans (keep_q (F := []) w1 q2) (by simp))
  have cT := hide (list_done H2.out HL.out (bk : Int))
  clear cB
  go_wp2_with fail
  refine cT.out.mono ?_
  rintro e w3 ⟨rfl, b3⟩
  have X3 := hide (X2.out.same (b3.block N X2.out.lt))
  have H3 := hide (H2.out.below b3)
  have K3 := hide (K2.out.trans (Keep.of_below (F := []) b3) (by simp))
  clear b3 cT
  have e0 := X3.out.cell (i := 0) rfl
  have e1 := X3.out.cell (i := 1) rfl
  have e2 := X3.out.cell (i := 2) rfl
  have e3 := X3.out.cell (i := 3) rfl
  have e4 := X3.out.cell (i := 4) rfl
  have f0 := X3.out.frozen 0
  have f1 := X3.out.frozen 1
  have f2 := X3.out.frozen 2
  have f3 := X3.out.frozen 3
  have f4 := X3.out.frozen 4
  rw [HNN.out] at e0 e1 e2 e3 e4 f0 f1 f2 f3 f4
  go_wp2
  have E := box_end H3.out K3.out HNF.out (by rw [HNN.out]; exact Nat.le_refl _) (.string ⟨#[]⟩) (.string ⟨#[]⟩) (.int .u32 0) (.int .i64 0) (.int .u64 0)
  rw [HNN.out] at E
  exact bodyPost_ret (v := .tuple #[.agg #[.string ⟨#[]⟩, .string ⟨#[]⟩, .int .u32 0, .int .i64 0, .int .u64 0], .int .i64 4]) (by simp [results, Tryz.results12, go_sem, e0, e1, e2, e3, e4]) rfl ⟨rfl, E.1, E.2⟩
end Go.Proofs.YtbccnfbombgdmaaGreat

/- A page's list, its filter, and Open while the power is off. -/
set_option linter.unusedVariables false
set_option linter.unusedSimpArgs false
set_option maxRecDepth 8000
namespace Go.Proofs.YtbccnfbombgdmaaGreat
open Go.RowKit Go.Deep Math
variable {w0 W W' : World} {d s : Nat} {F F' : List Nat} {S S' : Dv} {L : Int} {first : Nat} {M : SM}

set_option maxHeartbeats 4000000 in
theorem list_off (h : Bk w0 W d F S s L first M) (hL : L = S.losses) (hoff : S.off = true) (at0 : Nat) (c : Cl) (hk : S.cs[first + at0]? = some c) :
    Calls Tryz.prog 30 #[.pointer (some ⟨s, 0, none⟩), .int .i64 at0] W fun e W' => e = .returned (.tuple #[.slice none 0 0, .int .i64 4]) ∧ ∃ S', Bk w0 W' d F S' s L first M ∧ Like S S' ∧ Keep F W W' := by
  have c0 := h.st.box.cell (i := 0) rfl
  have c1 := h.st.box.cell (i := 1) rfl
  have hm := h.law.dev.good.many
  have hlt := (List.getElem?_eq_some_iff.1 hk).1
  have cL : Hid (∀ V : World, V.heap = W.heap → Calls Tryz.prog 24 #[.pointer (some ⟨d, 0, none⟩)] V fun e w' => e = .returned (.int .i64 L) ∧ w' = V) := fun V hV => by
    rw [hL]; exact losses_at (h.law.dev.same (fun _ _ => by rw [hV]))
  have H := hide h
  have hkb : first + at0 ≤ 4096 := by omega
  obtain ⟨k, hkk⟩ : ∃ k, k = first + at0 := ⟨_, rfl⟩
  have e1 : (first : Int) + (at0 : Int) = (k : Int) := by omega
  rw [← hkk] at hk hkb
  have hx1 : first ≤ 4096 := by omega
  have hwr : IntKind.i64.wrap ((first : Int) + (at0 : Int)) = (k : Int) := by rw [IntKind.wrap_i64, e1]; omega
  have hx2 : at0 ≤ 4096 := by omega
  have HX : Hid (∀ (P : World → Prop) (w' : World), DvAt w' d F (S.readDo (k : Nat)) → Keep F W w' → Bk w0 w' d F (S.readDo (k : Nat)) s L first M) := fun P w' h1 h2 => H.out.move h1 (Moves.of_keep h2)
  obtain ⟨rv, er, X, cR, hcs⟩ : ∃ (rv : Value) (er : Int) (X : World → Prop), Hid (∀ q, Calls Tryz.prog 57 #[.pointer (some ⟨d, 0, none⟩), .int .i64 (k : Nat)] (W.drewN q) fun e w' => e = .returned (.tuple #[rv, .int .i64 er]) ∧ DvAt w' d F (S.readDo (k : Nat)) ∧ Keep F W w' ∧ X w') ∧ (er = 4 ∧ rv = .slice none 0 0) := by
    have hdv : ∀ q, DvAt (W.drewN q) d F S := fun q => h.law.dev.same (fun _ _ => rfl)
    have hre : S.readErr (k : Nat) = 4 := by
      unfold Dv.readErr
      rw [has_nat (by rw [hkk]; exact hlt)]
      simp [hoff]
    refine ⟨_, 4, fun _ => True, fun q => (read_at d F S (k : Nat) (W.drewN q) (hdv q)).mono ?_, rfl, rfl⟩
    rintro e w2 ⟨v, rfl, hr, h2, k2⟩
    rw [hre] at hr ⊢
    rcases hr with ⟨_, rfl, _⟩ | ⟨h0, _⟩
    · exact ⟨rfl, h2, (keep_q (F := F) W q).trans k2 (fun x hx => .inl hx), trivial⟩
    · exact absurd h0 (by decide)
  have HCS := hide hcs
  clear h hlt hm hkk hL hk hoff hcs
  go_enter Tryz.func30, Tryz.ntmps30
  go_wp2_with fail
  go_quiet (first | (go_at_call 24; refine Calls.quiet_of_same (cL.out _ ?_); rfl))
  go_wp2_with fail
  obtain ⟨CC, hCC⟩ : ∃ CC : Bool → World → Prop, CC = fun f w' => match f with
      | false => w' = W.drewN (nq + 1)
      | true => DvAt w' d F (S.readDo (k : Nat)) ∧ Keep F W w' ∧ X w' := ⟨_, rfl⟩
  have DR : Hid (CC false { W.drewN nq with drawn := (W.drewN nq).drawn + 1 }) := by show CC false _; rw [hCC]; rfl
  have cC : Hid (∀ w', CC false w' → Calls Tryz.prog 57 #[.pointer (some ⟨d, 0, none⟩), .int .i64 (k : Nat)] w' fun e w' => e = .returned (.tuple #[rv, .int .i64 er]) ∧ CC true w') := fun w' hw => by
    rw [hCC] at hw ⊢
    simp only at hw
    subst hw
    exact cR.out _
  have cells : Hid (∀ f w', CC f w' → w'.cell? ⟨s, 0, none⟩ = some (.pointer (some ⟨d, 0, none⟩)) ∧ w'.cell? ⟨s, 2, none⟩ = some (.int .i64 (first : Int))) := fun f w' hw => by
    rw [hCC] at hw
    cases f with
    | false =>
      simp only at hw
      subst hw
      exact ⟨H.out.st.box.cell (i := 0) rfl, H.out.st.box.cell (i := 2) rfl⟩
    | true =>
      have := (HX.out X w' hw.1 hw.2.1).st.box
      exact ⟨this.cell (i := 0) rfl, this.cell (i := 2) rfl⟩
  have HE : Hid (∀ w', CC true w' → DvAt w' d F (S.readDo (k : Nat)) ∧ Keep F W w' ∧ X w') := fun w' hw => by rw [hCC] at hw; exact hw
  clear hCC c0 c1 cL cR
  refine wp_region_turn (by kernel_rfl) (by kernel_rfl) (fun i => ([.pointer (some ⟨s, 0, none⟩), .pointer (some ⟨s, 0, none⟩), .pointer (some ⟨s, 0, none⟩), .pointer (some ⟨d, 0, none⟩), .pointer (some ⟨s, 0, none⟩), .pointer (some ⟨s, 0, none⟩), .pointer (some ⟨s, 2, none⟩), .int .i64 (first : Int), .int .i64 (at0 : Int), .int .i64 (k : Int), .tuple #[rv, .int .i64 er], .tuple #[rv, .int .i64 er], rv, .int .i64 er, rv, .int .i64 er] : List Value).getD i undef) 10 (by decide) (CC) (DR.out) ?_ ?_
  · intro i o hi f w' ev hc hz hin hout hcst hfn
    have hlt : i < 16 := by
      have := (Array.getElem?_eq_some_iff.1 hi).1
      simpa using this
    match i, hlt with
    | 0, _ =>
      simp only [List.getElem?_toArray, List.getElem?_cons_zero, List.getElem?_cons_succ, Option.some.injEq] at hi
      subst hi
      have e0 : ev (.tmp 0) = .pointer (some ⟨s, 0, none⟩) := hout 0 (by kernel_rfl) (show (0 : Nat) < 50 by decide)
      rw [if_neg (by decide)]
      refine .inl ⟨w', ?_, hc⟩
      show _ = Result.ok (Next.value (.pointer (some ⟨s, 0, none⟩))) w'
      simp [execOp, e0, hcst, go_sem]
    | 1, _ =>
      simp only [List.getElem?_toArray, List.getElem?_cons_zero, List.getElem?_cons_succ, Option.some.injEq] at hi
      subst hi
      have e0 : ev (.tmp 20) = .pointer (some ⟨s, 0, none⟩) := hin 20 0 ⟨0, .data⟩ (by kernel_rfl) (by simp) rfl rfl (show (20 : Nat) < 50 by decide)
      rw [if_neg (by decide)]
      refine .inl ⟨w', ?_, hc⟩
      show _ = Result.ok (Next.value (.pointer (some ⟨s, 0, none⟩))) w'
      simp [execOp, e0, hcst, go_sem]
    | 2, _ =>
      simp only [List.getElem?_toArray, List.getElem?_cons_zero, List.getElem?_cons_succ, Option.some.injEq] at hi
      subst hi
      have e0 : ev (.tmp 21) = .pointer (some ⟨s, 0, none⟩) := hin 21 1 ⟨1, .data⟩ (by kernel_rfl) (by simp) rfl rfl (show (21 : Nat) < 50 by decide)
      rw [if_neg (by decide)]
      refine .inl ⟨w', ?_, hc⟩
      show _ = Result.ok (Next.value (.pointer (some ⟨s, 0, none⟩))) w'
      simp [execOp, e0, hcst, go_sem]
    | 3, _ =>
      simp only [List.getElem?_toArray, List.getElem?_cons_zero, List.getElem?_cons_succ, Option.some.injEq] at hi
      subst hi
      have e0 : ev (.tmp 22) = .pointer (some ⟨s, 0, none⟩) := hin 22 2 ⟨2, .data⟩ (by kernel_rfl) (by simp) rfl rfl (show (22 : Nat) < 50 by decide)
      rw [if_neg (by decide)]
      refine .inl ⟨w', ?_, hc⟩
      show _ = Result.ok (Next.value (.pointer (some ⟨d, 0, none⟩))) w'
      have q := (cells.out f w' hc).1
      simp [execOp, e0, q, hcst, go_sem]
    | 4, _ =>
      simp only [List.getElem?_toArray, List.getElem?_cons_zero, List.getElem?_cons_succ, Option.some.injEq] at hi
      subst hi
      have e0 : ev (.tmp 0) = .pointer (some ⟨s, 0, none⟩) := hout 0 (by kernel_rfl) (show (0 : Nat) < 50 by decide)
      rw [if_neg (by decide)]
      refine .inl ⟨w', ?_, hc⟩
      show _ = Result.ok (Next.value (.pointer (some ⟨s, 0, none⟩))) w'
      simp [execOp, e0, hcst, go_sem]
    | 5, _ =>
      simp only [List.getElem?_toArray, List.getElem?_cons_zero, List.getElem?_cons_succ, Option.some.injEq] at hi
      subst hi
      have e0 : ev (.tmp 24) = .pointer (some ⟨s, 0, none⟩) := hin 24 4 ⟨4, .data⟩ (by kernel_rfl) (by simp) rfl rfl (show (24 : Nat) < 50 by decide)
      rw [if_neg (by decide)]
      refine .inl ⟨w', ?_, hc⟩
      show _ = Result.ok (Next.value (.pointer (some ⟨s, 0, none⟩))) w'
      simp [execOp, e0, hcst, go_sem]
    | 6, _ =>
      simp only [List.getElem?_toArray, List.getElem?_cons_zero, List.getElem?_cons_succ, Option.some.injEq] at hi
      subst hi
      have e0 : ev (.tmp 25) = .pointer (some ⟨s, 0, none⟩) := hin 25 5 ⟨5, .data⟩ (by kernel_rfl) (by simp) rfl rfl (show (25 : Nat) < 50 by decide)
      rw [if_neg (by decide)]
      refine .inl ⟨w', ?_, hc⟩
      show _ = Result.ok (Next.value (.pointer (some ⟨s, 2, none⟩))) w'
      simp [execOp, e0, hcst, go_sem]
    | 7, _ =>
      simp only [List.getElem?_toArray, List.getElem?_cons_zero, List.getElem?_cons_succ, Option.some.injEq] at hi
      subst hi
      have e0 : ev (.tmp 26) = .pointer (some ⟨s, 2, none⟩) := hin 26 6 ⟨6, .data⟩ (by kernel_rfl) (by simp) rfl rfl (show (26 : Nat) < 50 by decide)
      rw [if_neg (by decide)]
      refine .inl ⟨w', ?_, hc⟩
      show _ = Result.ok (Next.value (.int .i64 (first : Int))) w'
      have q := (cells.out f w' hc).2
      simp [execOp, e0, q, hcst, go_sem]
    | 8, _ =>
      simp only [List.getElem?_toArray, List.getElem?_cons_zero, List.getElem?_cons_succ, Option.some.injEq] at hi
      subst hi
      have e0 : ev (.tmp 1) = .int .i64 (at0 : Int) := hout 1 (by kernel_rfl) (show (1 : Nat) < 50 by decide)
      rw [if_neg (by decide)]
      refine .inl ⟨w', ?_, hc⟩
      show _ = Result.ok (Next.value (.int .i64 (at0 : Int))) w'
      simp [execOp, e0, hcst, go_sem]
    | 9, _ =>
      simp only [List.getElem?_toArray, List.getElem?_cons_zero, List.getElem?_cons_succ, Option.some.injEq] at hi
      subst hi
      have e0 : ev (.tmp 27) = .int .i64 (first : Int) := hin 27 7 ⟨7, .data⟩ (by kernel_rfl) (by simp) rfl rfl (show (27 : Nat) < 50 by decide)
      have e1 : ev (.tmp 28) = .int .i64 (at0 : Int) := hin 28 8 ⟨8, .data⟩ (by kernel_rfl) (by simp) rfl rfl (show (28 : Nat) < 50 by decide)
      rw [if_neg (by decide)]
      refine .inl ⟨w', ?_, hc⟩
      show _ = Result.ok (Next.value (.int .i64 (k : Int))) w'
      simp [execOp, e0, e1, hcst, go_sem, hwr]
    | 10, _ =>
      simp only [List.getElem?_toArray, List.getElem?_cons_zero, List.getElem?_cons_succ, Option.some.injEq] at hi
      subst hi
      have e0 : ev (.tmp 23) = .pointer (some ⟨d, 0, none⟩) := hin 23 3 ⟨3, .data⟩ (by kernel_rfl) (by simp) rfl rfl (show (23 : Nat) < 50 by decide)
      have e1 : ev (.tmp 29) = .int .i64 (k : Int) := hin 29 9 ⟨9, .data⟩ (by kernel_rfl) (by simp) rfl rfl (show (29 : Nat) < 50 by decide)
      rw [if_pos rfl]
      refine .inr (.inr ⟨57, #[.pointer (some ⟨d, 0, none⟩), .int .i64 (k : Int)], ?_, ?_⟩)
      · have ef := hfn 57
        simp [execOp, resolve, invoke, ef, hcst, e0, e1, Result.andThen]
        exact enter46 _ _
      · rw [hz rfl] at hc
        refine (cC.out w' hc).mono ?_
        rintro e w2 ⟨rfl, h2⟩
        exact ⟨rfl, h2⟩
    | 11, _ =>
      simp only [List.getElem?_toArray, List.getElem?_cons_zero, List.getElem?_cons_succ, Option.some.injEq] at hi
      subst hi
      have e0 : ev (.tmp 30) = .tuple #[rv, .int .i64 er] := hin 30 10 ⟨10, .data⟩ (by kernel_rfl) (by simp) rfl rfl (show (30 : Nat) < 50 by decide)
      rw [if_neg (by decide)]
      refine .inl ⟨w', ?_, hc⟩
      show _ = Result.ok (Next.value (.tuple #[rv, .int .i64 er])) w'
      simp [execOp, e0, hcst, go_sem]
    | 12, _ =>
      simp only [List.getElem?_toArray, List.getElem?_cons_zero, List.getElem?_cons_succ, Option.some.injEq] at hi
      subst hi
      have e0 : ev (.tmp 19) = .tuple #[rv, .int .i64 er] := hin 19 11 ⟨11, .data⟩ (by kernel_rfl) (by simp) rfl rfl (show (19 : Nat) < 50 by decide)
      rw [if_neg (by decide)]
      refine .inl ⟨w', ?_, hc⟩
      show _ = Result.ok (Next.value (rv)) w'
      simp [execOp, e0, hcst, go_sem]
    | 13, _ =>
      simp only [List.getElem?_toArray, List.getElem?_cons_zero, List.getElem?_cons_succ, Option.some.injEq] at hi
      subst hi
      have e0 : ev (.tmp 19) = .tuple #[rv, .int .i64 er] := hin 19 11 ⟨11, .data⟩ (by kernel_rfl) (by simp) rfl rfl (show (19 : Nat) < 50 by decide)
      rw [if_neg (by decide)]
      refine .inl ⟨w', ?_, hc⟩
      show _ = Result.ok (Next.value (.int .i64 er)) w'
      simp [execOp, e0, hcst, go_sem]
    | 14, _ =>
      simp only [List.getElem?_toArray, List.getElem?_cons_zero, List.getElem?_cons_succ, Option.some.injEq] at hi
      subst hi
      have e0 : ev (.tmp 31) = rv := hin 31 12 ⟨12, .data⟩ (by kernel_rfl) (by simp) rfl rfl (show (31 : Nat) < 50 by decide)
      rw [if_neg (by decide)]
      refine .inl ⟨w', ?_, hc⟩
      show _ = Result.ok (Next.value (rv)) w'
      simp [execOp, e0, hcst, go_sem]
    | 15, _ =>
      simp only [List.getElem?_toArray, List.getElem?_cons_zero, List.getElem?_cons_succ, Option.some.injEq] at hi
      subst hi
      have e0 : ev (.tmp 32) = .int .i64 er := hin 32 13 ⟨13, .data⟩ (by kernel_rfl) (by simp) rfl rfl (show (32 : Nat) < 50 by decide)
      rw [if_neg (by decide)]
      refine .inl ⟨w', ?_, hc⟩
      show _ = Result.ok (Next.value (.int .i64 er)) w'
      simp [execOp, e0, hcst, go_sem]
  · intro w7 hc
    simp only [lexF, Act.put, List.setIfInBounds_toArray, List.set_cons_succ, List.set_cons_zero, List.getD_cons_succ, List.getD_cons_zero]
    have T := hide (HE.out w7 hc)
    clear hwr
    clear hc cC cells DR HE
    obtain ⟨rfl, rfl⟩ := HCS.out
    go_wp2
    go_ret2
    exact ⟨rfl, _, HX.out X _ T.out.1 T.out.2.1, Like.read _ _, T.out.2.1⟩

set_option maxHeartbeats 4000000 in
theorem filter_off (h : Bk w0 W d F S s L first M) (hL : L = S.losses) (hoff : S.off = true) (at0 : Nat) (c : Cl) (hk : S.cs[first + at0]? = some c) :
    Calls Tryz.prog 25 #[.pointer (some ⟨s, 0, none⟩), .int .i64 at0] W fun e W' => ∃ v, e = .returned (.tuple #[v, .int .i64 4]) ∧ ∃ S', Bk w0 W' d F S' s L first M ∧ Like S S' ∧ Keep F W W' := by
  have cN := hide (Bl.new_ok 256 3 W (by omega) (by omega) (by omega) (by omega))
  have H := hide h
  have HL := hide hL
  have HO := hide hoff
  have HK := hide hk
  obtain ⟨N, hN⟩ : ∃ N, N = W.heap.size := ⟨_, rfl⟩
  rw [← hN] at cN
  have HNN := hide hN
  clear h hL hoff hk hN
  go_enter Tryz.func25, Tryz.ntmps25
  go_wp2_with fail
  refine cN.out.mono ?_
  rintro e w1 ⟨rfl, hf, b1⟩
  rw [HNN.out] at b1
  have H1 := hide (H.out.below b1)
  have K1 : Hid (Keep F W w1) := Keep.of_below b1
  have cT := hide (list_off H1.out HL.out HO.out at0 c HK.out)
  clear hf b1 cN
  go_wp2_with fail
  refine cT.out.mono ?_
  rintro e w2 ⟨rfl, S2, hb2, hl2, k2⟩
  have H2 := hide hb2
  have L2 := hide hl2
  have K2 := hide (K1.out.trans k2 (fun q hq => .inl hq))
  clear hb2 hl2 k2 cT
  go_wp2_with fail
  go_loopg [26] 1 (fun kx s26 wr => s26 = .int .i64 0 ∧ Hid (wr = w2))
  case atStart => exact ⟨rfl, rfl⟩
  case round =>
    obtain ⟨rfl, I⟩ := hrel
    have HW2 := I.out
    obtain rfl : wr = w2 := HW2
    clear I
    go_wp2
    go_ret2
    exact ⟨_, rfl, S2, H2.out, L2.out, K2.out⟩

set_option maxHeartbeats 4000000 in
theorem open_off (h : Law w0 d F S W) (hoff : S.off = true) (first pages : Nat) (h1 : 1 ≤ pages) (h2 : pages ≤ 256) (h3 : first + pages ≤ S.cs.length) :
    Calls Tryz.prog 7 #[.pointer (some ⟨d, 0, none⟩), .int .i64 first, .int .i64 pages] W fun e W' => e = .returned (.tuple #[.pointer none, .int .i64 4]) ∧ ∃ S', Law w0 d F S' W' ∧ Like S S' ∧ Keep F W W' := by
  have cP : Hid (Calls Tryz.prog 23 #[.pointer (some ⟨d, 0, none⟩)] W fun e w' => e = .returned (.int .i64 (S.cs.length : Nat)) ∧ w' = W) := pages_at h.dev
  have cL : Hid (Calls Tryz.prog 24 #[.pointer (some ⟨d, 0, none⟩)] W fun e w' => e = .returned (.int .i64 S.losses) ∧ w' = W) := losses_at h.dev
  have hm := h.dev.good.many
  obtain ⟨n, hn⟩ : ∃ n, n = S.cs.length := ⟨_, rfl⟩
  rw [← hn] at cP h3 hm
  obtain ⟨Ls, hLs⟩ : ∃ l, l = S.losses := ⟨_, rfl⟩
  rw [← hLs] at cL
  have H := hide h
  have HN := hide hn
  have HO := hide hoff
  have HLS := hide hLs
  have x1 : ¬ (first : Int) < 0 := by omega
  have x2 : ¬ (pages : Int) < 1 := by omega
  have x3 : ¬ (256 : Int) < (pages : Int) := by omega
  have x4 : ¬ (n : Int) - (pages : Int) < (first : Int) := by omega
  clear h hn hoff hLs
  go_enter Tryz.func7, Tryz.ntmps7
  go_wp2_with (first
    | (go_at_call 23; refine cP.out.mono ?_; rintro e w1 ⟨rfl, h1'⟩; obtain rfl : W = w1 := h1'.symm; clear h1')
    | (go_at_call 24; refine cL.out.mono ?_; rintro e w1 ⟨rfl, h1'⟩; obtain rfl : W = w1 := h1'.symm; clear h1'))
  have hs0 : Blk (W.alloc (.cells #[.pointer (some ⟨d, 0, none⟩), .int .i64 Ls, .int .i64 (first : Int), .slice none 0 0] 72)) W.heap.size [.pointer (some ⟨d, 0, none⟩), .int .i64 Ls, .int .i64 (first : Int), .slice none 0 0] 72 := Blk.new W _ 72
  have K0 : Hid (Bk w0 (W.alloc (.cells #[.pointer (some ⟨d, 0, none⟩), .int .i64 Ls, .int .i64 (first : Int), .slice none 0 0] 72)) d F S W.heap.size Ls first ⟨none, 0, []⟩) :=
    ⟨H.out.alloc _, ⟨hs0, ⟨rfl, .inl ⟨rfl, rfl⟩⟩, by simp, by simp⟩, fun b hb => by simp [SM.foot] at hb; subst hb; exact H.out.bel.size, fun b hb => by simp [SM.foot] at hb; subst hb; exact H.out.dev.new _ (Nat.le_refl _)⟩
  have KW : Hid (Keep F W (W.alloc (.cells #[.pointer (some ⟨d, 0, none⟩), .int .i64 Ls, .int .i64 (first : Int), .slice none 0 0] 72))) := (Keep.refl F W).alloc _
  obtain ⟨s, hs⟩ : ∃ s, s = W.heap.size := ⟨_, rfl⟩
  rw [← hs] at K0 ⊢
  generalize W.alloc (.cells #[.pointer (some ⟨d, 0, none⟩), .int .i64 Ls, .int .i64 (first : Int), .slice none 0 0] 72) = wA at K0 KW ⊢
  clear hs0 hs cP cL
  go_loopg [37] 1 (fun kx s37 wr => s37 = .int .i64 0 ∧ Hid (wr = wA))
  case atStart => exact ⟨rfl, rfl⟩
  case round =>
    obtain ⟨rfl, I⟩ := hrel
    have HWA := I.out
    obtain rfl : wr = wA := HWA
    clear I
    have hlt2 : (0 : Int) < (pages : Int) := by omega
    obtain ⟨c, hc⟩ : ∃ c, S.cs[first + 0]? = some c := ⟨_, List.getElem?_eq_getElem (by rw [← HN.out]; omega)⟩
    have cF := hide (filter_off K0.out HLS.out HO.out 0 c hc)
    clear hc
    go_wp2_with fail
    refine cF.out.mono ?_
    rintro e w2 ⟨v, rfl, S2, hb2, hl2, k2⟩
    have LW := hide hb2.law
    have L2 := hide hl2
    have K2 := hide (KW.out.trans k2 (fun q hq => .inl hq))
    clear hb2 hl2 k2 cF
    go_wp2
    go_ret2
    exact ⟨rfl, S2, LW.out, L2.out, K2.out⟩
end Go.Proofs.YtbccnfbombgdmaaGreat

/- The document's own Bit, Of, Done. -/
set_option linter.unusedVariables false
set_option linter.unusedSimpArgs false
set_option maxRecDepth 8000
namespace Go.Proofs.YtbccnfbombgdmaaGreat
open Go.RowKit Go.Deep Math

set_option maxHeartbeats 400000 in
theorem refSecond_any (s : ByteArray) (w : World) (hs : s.size ≤ 1048576) :
    Calls Tryz.prog 72 #[.string s] w fun e w' => e = .returned (.int .u64 (Math.hash Math.second0 s.data.toList)) ∧ w' = w := by
  go_enter Tryz.func72, Tryz.ntmps72
  go_wp2_with fail
  refine (Bl.refTurn_any _ _ _ (by rw [ByteArray.size_append]; have : (ByteArray.mk #[0]).size = 1 := rfl; unfold maxLen; omega)).mono ?_
  rintro e w' ⟨rfl, rfl⟩
  go_wp2_with fail
  go_ret
  exact ⟨Bl.ret_int (by rw [← Math.hash_second]), rfl⟩

/-- A key's place. -/
def bitK (key : List UInt8) (k : Nat) : Nat := Bl.pl (Bl.hashK (txt key)) (Bl.stepK (txt key)) 256 k
set_option maxHeartbeats 1000000 in
theorem rbit_any (key : List UInt8) (hk : key.length ≤ 1048000) (k : Nat) (hk3 : k < 3) (w : World) :
    Calls Tryz.prog 45 #[.string (txt key), .int .i64 (k : Int), .int .i64 256] w fun e w' => e = .returned (.int .i64 (bitK key k : Int)) ∧ w' = w := by
  have hsz : (txt key).size ≤ 1048576 := by rw [txt_size]; omega
  have c1 := hide (fun V => Bl.refHash_any (txt key) V (by unfold maxLen; omega))
  have c2 := hide (fun V => refSecond_any (txt key) V hsz)
  have HR := Bl.hashK_range (txt key)
  unfold Bl.hashK at HR
  have e2 : bits .or .u64 (Math.hash Math.second0 (txt key).data.toList) 1 = Bl.stepK (txt key) := rfl
  have e3 : Math.hash Math.offset (txt key).data.toList = Bl.hashK (txt key) := rfl
  have e4 : (Bl.at64 (Bl.hashK (txt key)) (Bl.stepK (txt key)) k).tmod 256 = (bitK key k : Int) := Bl.pl_int _ _ 256 k (by omega)
  have hb9 : bitK key k < 256 := Bl.pl_lt _ _ 256 k (by omega)
  have e5 : ∀ H S : Int, IntKind.u64.wrap (H + IntKind.u64.wrap ((k : Int) * S)) = Bl.at64 H S k := fun H S => by
    rw [IntKind.wrap_u64, IntKind.wrap_u64]; unfold Bl.at64; generalize (k : Int) * S = z; omega
  have e6 := e5 (Bl.hashK (txt key)) (Bl.stepK (txt key))
  have e7 : IntKind.u64.wrap (k : Int) = (k : Int) := by rw [IntKind.wrap_u64]; omega
  have e8 : IntKind.i64.wrap (bitK key k : Int) = (bitK key k : Int) := by rw [IntKind.wrap_i64]; omega
  rw [e3] at c1
  generalize Math.hash Math.second0 (txt key).data.toList = h2 at *
  generalize Bl.hashK (txt key) = H at *
  generalize Bl.stepK (txt key) = S at *
  generalize Bl.at64 H S k = z64 at *
  generalize bitK key k = res at *
  generalize txt key = tk at *
  clear HR hsz e3 e5 hk
  go_enter Tryz.func45, Tryz.ntmps45
  go_wp2_with (first
    | (go_at_call 69; refine (c1.out _).mono ?_; rintro e w' ⟨rfl, hw⟩; obtain rfl : w = w' := hw.symm; clear hw)
    | (go_at_call 72; refine (c2.out _).mono ?_; rintro e w' ⟨rfl, hw⟩; obtain rfl : w = w' := hw.symm; clear hw))
  go_ret
  exact ⟨rfl, rfl⟩
set_option maxHeartbeats 400000 in
theorem rof_any (s r : Nat) (first n : Nat) (tv : Value) (lo : Int) (key : List UInt8) (hk : key.length ≤ maxLen) (h1 : 0 < n) (h2 : n ≤ 1000) (W : World) (hb : Blk W s [.pointer (some ⟨r, 0, none⟩), .int .i64 (first : Int), .int .i64 (n : Int), tv, .int .i64 lo] 78) :
    Calls Tryz.prog 39 #[.pointer (some ⟨s, 0, none⟩), .string (txt key)] W fun e W' => e = .returned (.int .i64 (bkt key n : Nat)) ∧ ∃ q, W' = W.drewN q := by
  have c2 := hb.cell (i := 2) rfl
  have cH : Hid (∀ V : World, Calls Tryz.prog 69 #[.string (txt key)] V fun e w' => e = .returned (.int .u64 (Bl.hashK (txt key))) ∧ w' = V) := fun V => Bl.refHash_any (txt key) V (by rw [txt_size]; exact hk)
  obtain ⟨H, hH⟩ : ∃ H, H = Bl.hashK (txt key) := ⟨_, rfl⟩
  have hr := Bl.hashK_range (txt key)
  have hb2 : (bkt key n : Int) = H % (n : Int) := by
    rw [hH]
    unfold bkt
    have := Int.emod_nonneg (Bl.hashK (txt key)) (show (n : Int) ≠ 0 by omega)
    omega
  have hbl := bkt_lt key n h1
  rw [← hH] at cH hr
  have HB : Hid (wrap64 (H % (n : Int)) = (bkt key n : Int)) := by show _ = _; rw [← hb2]; unfold wrap64; omega
  have hn0 : ¬ ((n : Int) = 0) := by omega
  have hr0 := hr.1
  have hr1 := hr.2
  have hw1 : IntKind.u64.wrap (n : Int) = (n : Int) := by rw [IntKind.wrap_u64]; omega
  clear hb2 hr hb hH hk
  go_enter Tryz.func39, Tryz.ntmps39
  go_wp2_with fail
  go_quiet (first | (go_at_call 69; refine Calls.quiet_of_same (cH.out _)))
  go_wp2
  go_ret
  exact ⟨congrArg (fun z => Ending.returned (.int .i64 z)) HB.out, _, rfl⟩
set_option maxHeartbeats 400000 in
theorem rdone_any (s r : Nat) (first n : Nat) (tv : Value) (lo : Int) (L : RLoc) (S : Dv) (W : World) (hb : Blk W s [.pointer (some ⟨r, 0, none⟩), .int .i64 (first : Int), .int .i64 (n : Int), tv, .int .i64 lo] 78) (hR : RfIn W r L S) :
    Calls Tryz.prog 38 #[.pointer (some ⟨s, 0, none⟩)] W fun e W' => e = .returned (.bool (S.losses != lo)) ∧ ∃ q, W' = W.drewN q := by
  have c0 := hb.cell (i := 0) rfl
  have c4 := hb.cell (i := 4) rfl
  have d5 := hR.dev.cell (i := 5) rfl
  clear hb hR
  generalize S.losses = a at *
  go_enter Tryz.func38, Tryz.ntmps38
  go_wp2_with fail
  go_quiet (fail)
  go_wp2
  go_ret
  exact ⟨rfl, _, rfl⟩
end Go.Proofs.YtbccnfbombgdmaaGreat

/- 'Up' of the reckoning side. -/
set_option linter.unusedVariables false
set_option linter.unusedSimpArgs false
namespace Go.Proofs.YtbccnfbombgdmaaGreat
open Go.RowKit Go.Deep Math

theorem up_cons_drop (l : List UInt8) (k : Nat) (h : k < l.length) : up (l.drop k) = (l.getD k 0).toNat + 256 * up (l.drop (k + 1)) := by
  rw [List.drop_eq_getElem_cons h, List.getD_eq_getElem?_getD, List.getElem?_eq_getElem h]
  rfl

theorem or_up (x m : Nat) (hx : x < 256) (hm : m * 256 + x < 18446744073709551616) : bits .or .u64 (IntKind.u64.wrap ((m : Int) * 256)) (IntKind.u64.wrap (x : Int)) = ((x + 256 * m : Nat) : Int) := by
  have h1 : m * 256 < 18446744073709551616 := Nat.lt_of_le_of_lt (Nat.le_add_right _ _) hm
  have h2 : x < 18446744073709551616 := by omega
  have hx8 : x < 2 ^ 8 := hx
  have h3 := Nat.shiftLeft_add_eq_or_of_lt (i := 8) hx8 m
  rw [Nat.shiftLeft_eq] at h3
  have e3 : m * 2 ^ 8 = m * 256 := rfl
  rw [e3] at h3
  have e4 : x + 256 * m = m * 256 + x := by omega
  have e0 : (m : Int) * 256 = ((m * 256 : Nat) : Int) := by omega
  have e1 : IntKind.u64.wrap ((m : Int) * 256) = ((m * 256 : Nat) : Int) := by rw [e0, IntKind.wrap_u64]; omega
  have e2 : IntKind.u64.wrap (x : Int) = ((x : Nat) : Int) := by rw [IntKind.wrap_u64]; omega
  rw [e1, e2, u64_or_nat _ _ h1 h2, ← h3, e4]
theorem txt_get (l : List UInt8) (j : Nat) (h : j < l.length) (h' : j < (txt l).size) : (txt l)[j]'h' = l.getD j 0 := by
  rw [List.getD_eq_getElem?_getD, List.getElem?_eq_getElem h]
  rfl
theorem up_drop_lt (l : List UInt8) (j : Nat) (h8 : l.length ≤ 8) : up (l.drop j) < 18446744073709551616 := by
  have h1 := up_lt (l.drop j)
  have : (256 : Nat) ^ (l.drop j).length ≤ 256 ^ 8 := Nat.pow_le_pow_right (by decide) (by simp; omega)
  have e : (256 : Nat) ^ 8 = 18446744073709551616 := by decide
  omega

set_option maxHeartbeats 1000000 in
theorem up_any (l : List UInt8) (h8 : l.length ≤ 8) (w : World) :
    Calls Tryz.prog 93 #[.string (txt l)] w fun e w' => e = .returned (.int .u64 (up l : Int)) ∧ w' = w := by
  have hs : (txt l).size = l.length := txt_size l
  go_enter Tryz.func93, Tryz.ntmps93
  go_wp2
  go_loop [3, 4] (fun t i => ∃ k m : Nat, k ≤ l.length ∧ i = .int .i64 ((k : Int) - 1) ∧ t = .int .u64 m ∧ Hid (m = up (l.drop k))) (fun _ i => (intOf i + 1).toNat)
  case atStart => exact ⟨l.length, 0, Nat.le_refl _, rfl, rfl, by show 0 = _; rw [List.drop_length]; rfl⟩
  case round =>
    obtain ⟨k, m, hk, rfl, rfl, hm⟩ := hrel
    by_cases hlt : 0 < k
    · obtain ⟨j, rfl⟩ : ∃ j, k = j + 1 := ⟨k - 1, by omega⟩
      have hx := (l.getD j 0).toNat_lt
      have hge : (0 : Int) ≤ ((j + 1 : Nat) : Int) - 1 := by omega
      have U := hide (up_cons_drop l j (by omega))
      go_wp2
      refine ⟨⟨j, up (l.drop j), by omega, rfl, ?_, rfl⟩, by simp [intOf]⟩
      rw [txt_get l j (by omega), hm.out]
      have hd := up_drop_lt l j h8
      rw [U.out] at hd ⊢
      rw [or_up _ _ (by omega) (by omega)]
    · obtain rfl : k = 0 := by omega
      go_wp2
      go_ret
      exact ⟨ret_int (by rw [hm.out]; rfl), rfl⟩
end Go.Proofs.YtbccnfbombgdmaaGreat
