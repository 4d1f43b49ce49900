/- Texts joined: Bk8, Bk9, AnyX, BkB. -/
import Derived.Test.YtbccnfbombgdmaaGreatJ19
import Derived.Test.YtbccnfbombgdmaaGreatJ17
/- Items. -/
set_option linter.unusedVariables false
set_option linter.unusedSimpArgs false
set_option maxRecDepth 8000
namespace Go.Proofs.YtbccnfbombgdmaaGreat
open Go.RowKit Go.Deep Math
variable {w0 W W' : World} {d s : Nat} {F F' : List Nat} {S S' : Dv} {L : Int} {first : Nat} {M : SM}

/-- 'append' of no items. -/
theorem run_app_nil {w : World} {base : Nat} {v : Value} {xs : List It} (h : Row w base v xs) (ty : TypeId) :
    (Builtin.append_ #[45, 45] ty #[v, .slice none 0 0]).run Tryz.prog w = .ok v w := by
  obtain ⟨i0, hi0, hp0⟩ := Option.map_eq_some_iff.1 info30
  simp only [Prod.mk.injEq] at hp0
  obtain ⟨hz0, hz1, hz2⟩ := hp0
  rcases h.form with ⟨rfl, rfl⟩ | ⟨g, cap, pad, rfl, hb, hh, hc, hm, hl⟩
  · simp [Builtin.append_, run_underlying Tryz.underlying45, Builtin.lenOf, Builtin.firstCells]
  · simp [Builtin.append_, run_underlying Tryz.underlying45, Builtin.lenOf, Builtin.firstCells, hc, storeCells]
/-- 'append' of a row's items to another row. -/
theorem run_app_row {w : World} {base b2 : Nat} {v u : Value} {xs ys : List It} (h : Row w base v xs) (hy : Row w b2 u ys) (ho : Oks ys) (hn : xs.length + ys.length ≤ 1048576) (hb : base ≤ w.heap.size) :
    ∃ v' w', (Builtin.append_ #[45, 45] 45 #[v, u]).run Tryz.prog w = .ok v' w' ∧ Row w' base v' (xs ++ ys) ∧ w.grownBy w' v.ownBlock := by
  rcases hy.form with ⟨rfl, rfl⟩ | ⟨g, cap, pad, rfl, _, hh, hc, hm, hl⟩
  · exact ⟨v, w, run_app_nil h 45, by rw [List.append_nil]; exact h, rfl, rfl, rfl, Nat.le_refl _, fun _ _ _ => rfl⟩
  · obtain ⟨v', w', h1, h2, h3, _⟩ := run_app (c := cap) h (its_blk hh rfl ho) hn hb
    exact ⟨v', w', h1 45, h2, h3⟩
/-- All items, bucket by bucket. -/
def Dv.all (S : Dv) (first n : Nat) : List It := (List.range n).flatMap fun k => S.its (first + k)
theorem Dv.all_succ (S : Dv) (first n : Nat) : S.all first (n + 1) = S.all first n ++ S.its (first + n) := by simp [Dv.all, List.range_succ]
theorem its_len {S : Dv} (hg : S.good) (k : Nat) : (S.its k).length ≤ 12 := by have h1 := (Dv.its_all hg k).1; have h2 := total_len (S.its k); omega
theorem all_len {S : Dv} (hg : S.good) (first : Nat) : ∀ n, (S.all first n).length ≤ 12 * n
  | 0 => by simp [Dv.all]
  | n + 1 => by rw [Dv.all_succ, List.length_append]; have := all_len hg first n; have := its_len hg (first + n); omega

set_option maxHeartbeats 2000000 in
theorem items_ok (h : Bk w0 W d F S s L first M) (hL : L = S.losses) (hoff : S.off = false) (hn2 : M.fs.length ≤ 256) (hfit : first + M.fs.length ≤ S.cs.length) :
    Calls Tryz.prog 19 #[.pointer (some ⟨s, 0, none⟩)] W fun e W' => ∃ v S', e = .returned (.tuple #[v, .int .i64 0]) ∧ Row W' W.heap.size v (S.all first M.fs.length) ∧ Bk w0 W' d F S' s L first M ∧ Like S S' ∧ Keep F W W' := by
  have c3 := h.st.box.cell (i := 3) rfl
  have H := hide h
  have HL := hide hL
  have HO := hide hoff
  have hgd := hide h.law.dev.good
  obtain ⟨n, hn⟩ : ∃ n, n = M.fs.length := ⟨_, rfl⟩
  rw [← hn] at c3 hn2 hfit ⊢
  have HF := hide hfit
  have hFlt : Hid (∀ q, W.heap.size ≤ q → q ∉ F) := fun q hq => h.law.dev.new q hq
  clear h hL hoff hn hfit
  go_enter Tryz.func19, Tryz.ntmps19
  go_wp2_with fail
  go_loopg [4, 13] n (fun kx s4 s13 wr => ∃ (i : Nat) (va : Option Addr) (vk vc : Nat) (S' : Dv), s4 = .slice va vk vc ∧ s13 = .int .i64 i ∧ i ≤ n ∧ n - i ≤ kx ∧ Hid (Row wr W.heap.size (.slice va vk vc) (S.all first i) ∧ Bk w0 wr d F S' s L first M ∧ Like S S' ∧ Keep F W wr))
  case atStart => exact ⟨0, none, 0, 0, S, rfl, rfl, Nat.zero_le _, by omega, Row.nil _ _, H.out, Like.refl _, Keep.refl _ _⟩
  case round =>
    obtain ⟨i, va, vk, vc, S1, rfl, rfl, hin, hg, I⟩ := hrel
    by_cases hlt : i < n
    · have hlt2 : (i : Int) < (n : Int) := by omega
      obtain ⟨c, hc⟩ : ∃ c, S.cs[first + i]? = some c := ⟨_, List.getElem?_eq_getElem (by have := HF.out; omega)⟩
      have cT := hide (list_ok I.out.2.1 (by rw [HL.out, I.out.2.2.1.losses]) (by rw [I.out.2.2.1.off]; exact HO.out) i c (by rw [I.out.2.2.1.cs]; exact hc))
      have EI := hide (Dv.its_of hc)
      clear hc
      go_wp2_with fail
      refine cT.out.mono ?_
      rintro e w1 ⟨u, rfl, hr, hb1, k1⟩
      rw [← EI.out] at hr
      obtain ⟨ua, uc, rfl, _, _, _, _⟩ := hr.its (Oks.of_good (Dv.its_all hgd.out (first + i)).2)
      obtain ⟨un, hun⟩ : ∃ un, un = (S.its (first + i)).length := ⟨_, rfl⟩
      rw [← hun] at hr ⊢
      have hv1 : Row w1 W.heap.size (.slice va vk vc) (S.all first i) := I.out.1.keep (fun q hq => k1.block q (I.out.1.lt q hq).2 (hFlt.out q (I.out.1.lt q hq).1))
      have hlen := all_len hgd.out first (i + 1)
      rw [Dv.all_succ, List.length_append] at hlen
      obtain ⟨v', w2, hrun, hrow, hgr⟩ := run_app_row hv1 hr (Oks.of_good (Dv.its_all hgd.out (first + i)).2) (by omega) (Nat.le_trans I.out.2.2.2.size k1.size)
      obtain ⟨a', c', rfl, _, _, _, _⟩ := hrow.its (by
        rw [← Dv.all_succ]
        intro x hx
        simp only [Dv.all, List.mem_flatMap] at hx
        obtain ⟨k, _, hx⟩ := hx
        exact Oks.of_good (Dv.its_all hgd.out (first + k)).2 x hx)
      obtain ⟨nn, hnn⟩ : ∃ nn, nn = (S.all first i ++ S.its (first + i)).length := ⟨_, rfl⟩
      rw [← hnn] at hrun hrow
      have HR := hide hrun
      have hk2 : Keep (Value.slice va vk vc).ownBlock.toList w1 w2 := ⟨hgr.os, hgr.tape, hgr.output, hgr.size, fun q hq hn => hgr.block q hq (fun e => hn (by rw [← e]; simp))⟩
      have B2 := hide (hb1.keep hk2 (fun q hq => by
        have hq' : (Value.slice va vk vc).ownBlock = some q := by simpa using hq
        have h1 := (I.out.1.lt q hq').1
        refine ⟨hFlt.out q h1, fun hf => ?_, Nat.le_trans H.out.law.bel.size h1⟩
        have := H.out.st.lt q hf
        omega))
      have HROW : Hid (Row w2 W.heap.size (.slice a' nn c') (S.all first (i + 1))) := by show Row _ _ _ _; rw [Dv.all_succ]; exact hrow
      have KK := hide ((I.out.2.2.2.trans k1 (fun q hq => .inl hq)).trans hk2 (fun q hq => .inr (I.out.1.lt q (by simpa using hq)).1))
      clear hr hb1 k1 hv1 hlen hrun hrow hgr hk2 cT hun hnn
      go_wp2_with (at_builtin; refine Lib.wpList_append_run _ rfl _ _ _ _ rfl _ _ rfl rfl _ _ HR.out ?_)
      go_roundg (n - (i + 1))
      case measure => omega
      case rel => exact ⟨i + 1, a', nn, c', _, rfl, rfl, by omega, by omega, HROW.out, B2.out, I.out.2.2.1.trans (Like.read _ _), KK.out⟩
    · obtain rfl : i = n := by omega
      have hlt2 : ¬ (i : Int) < (i : Int) := by omega
      go_wp2
      go_ret2
      exact ⟨_, rfl, I.out.1, S1, I.out.2.1, I.out.2.2.1, I.out.2.2.2⟩
end Go.Proofs.YtbccnfbombgdmaaGreat

/- Get. -/
set_option linter.unusedVariables false
set_option linter.unusedSimpArgs false
set_option maxRecDepth 8000
namespace Go.Proofs.YtbccnfbombgdmaaGreat
open Go.RowKit Go.Deep Math
variable {w0 W W' : World} {d s : Nat} {F F' : List Nat} {S S' : Dv} {L : Int} {first : Nat} {M : SM}

/-- What Get tells. -/
def getV (o : Option It) : Value := match o with
  | some x => .tuple #[.agg #[.string (txt x.key), .string (txt x.value), .int .u32 x.flags, .int .i64 x.exp, .int .u64 x.ver], .int .i64 0]
  | none => .tuple #[.agg #[.string ⟨#[]⟩, .string ⟨#[]⟩, .int .u32 0, .int .i64 0, .int .u64 0], .int .i64 5]
def isKey (key : List UInt8) (x : It) : Bool := decide (x.key = key)
/-- A box that holds an item. -/
theorem five_set {V : World} {N : Nat} {L0 : List Value} (h : Blk V N L0 39) (hl : L0.length = 5) (p0 p1 p2 p3 p4 : Value) :
    Blk (((((V.setCell ⟨N, 0, none⟩ p0).setCell ⟨N, 1, none⟩ p1).setCell ⟨N, 2, none⟩ p2).setCell ⟨N, 3, none⟩ p3).setCell ⟨N, 4, none⟩ p4) N [p0, p1, p2, p3, p4] 39 := by
  match L0, hl with
  | [a, b, c, d, e], _ => exact Blk.sets [p0, p1, p2, p3, p4] [] [a, b, c, d, e] [] V rfl (by simpa using h)

theorem box_end {V : World} (h : Bk w0 V d F S s L first M) (hK : Keep F W V) {N : Nat} (hN : N ∉ F ∧ N ∉ M.foot s ∧ w0.heap.size ≤ N) (hW : W.heap.size ≤ N) (p0 p1 p2 p3 p4 : Value) :
    Bk w0 (((((V.setCell ⟨N, 0, none⟩ p0).setCell ⟨N, 1, none⟩ p1).setCell ⟨N, 2, none⟩ p2).setCell ⟨N, 3, none⟩ p3).setCell ⟨N, 4, none⟩ p4) d F S s L first M ∧ Keep F W (((((V.setCell ⟨N, 0, none⟩ p0).setCell ⟨N, 1, none⟩ p1).setCell ⟨N, 2, none⟩ p2).setCell ⟨N, 3, none⟩ p3).setCell ⟨N, 4, none⟩ p4) := by
  refine ⟨h.keep (G := [N]) ((((((Keep.refl [N] V).setCell (.inl (by simp)) _).setCell (.inl (by simp)) _).setCell (.inl (by simp)) _).setCell (.inl (by simp)) _).setCell (.inl (by simp)) _) (fun b hb => by simp at hb; subst hb; exact hN), ?_⟩
  exact (((((hK.setCell (.inr hW) _).setCell (.inr hW) _).setCell (.inr hW) _).setCell (.inr hW) _).setCell (.inr hW) _)
set_option maxHeartbeats 4000000 in
theorem get_ok (h : Bk w0 W d F S s L first M) (hL : L = S.losses) (hoff : S.off = false) (key : List UInt8) (hk : key.length ≤ maxLen) (x : FB) (hx : M.fs[bkt key M.fs.length]? = some x) (hn2 : M.fs.length ≤ 256) (hfit : first + M.fs.length ≤ S.cs.length) (o : Option It)
    (ho : o = if Bl.mayB x.l (Bl.plc (txt key) 256 3) = true then (S.its (first + bkt key M.fs.length)).find? (isKey key) else none) :
    Calls Tryz.prog 12 #[.pointer (some ⟨s, 0, none⟩), .string (txt key)] W fun e W' => ∃ S', e = .returned (getV o) ∧ Bk w0 W' d F S' s L first M ∧ Like S S' ∧ Keep F W W' := by
  have hbx : Blk (W.alloc (.cells #[.string ⟨#[]⟩, .string ⟨#[]⟩, .int .u32 0, .int .i64 0, .int .u64 0] 39)) W.heap.size [.string ⟨#[]⟩, .string ⟨#[]⟩, .int .u32 0, .int .i64 0, .int .u64 0] 39 := Blk.new W _ 39
  have hbe : Below W.heap.size W (W.alloc (.cells #[.string ⟨#[]⟩, .string ⟨#[]⟩, .int .u32 0, .int .i64 0, .int .u64 0] 39)) := (Below.refl _ _).alloc (Nat.le_refl _) _
  have cM := hide (may_ok (h.below hbe) key hk x hx (by omega))
  obtain ⟨N, hN⟩ : ∃ N, N = W.heap.size := ⟨_, rfl⟩
  have HNF : Hid (N ∉ F ∧ N ∉ M.foot s ∧ w0.heap.size ≤ N) := ⟨by rw [hN]; exact h.law.dev.new _ (Nat.le_refl _), fun hf => by have := h.st.lt N hf; omega, by rw [hN]; exact h.law.bel.size⟩
  have H := hide h
  have HL := hide hL
  have HO := hide hoff
  have HFIT := hide hfit
  have hkn := (List.getElem?_eq_some_iff.1 hx).1
  have HKL := hide hk
  obtain ⟨bk, hbk⟩ : ∃ bk, bk = bkt key M.fs.length := ⟨_, rfl⟩
  rw [← hbk] at hkn ho
  have HBK := hide hbk
  have HNN := hide hN
  rw [← hN] at hbx
  have HBX := hide hbx
  have KA : Hid (Keep F W (W.alloc (.cells #[.string ⟨#[]⟩, .string ⟨#[]⟩, .int .u32 0, .int .i64 0, .int .u64 0] 39))) := Keep.of_below hbe
  have HA := hide (h.below hbe)
  have hb256 : bk ≤ 256 := by omega
  have HKN := hide hkn
  cases hm : Bl.mayB x.l (Bl.plc (txt key) 256 3) with
  | false =>
    rw [hm] at cM ho
    simp only [Bool.false_eq_true, if_false] at ho
    subst ho
    clear h hL hoff hk hx hfit hkn hbk hN hbx hbe hm
    go_enter Tryz.func12, Tryz.ntmps12
    go_wp2_with fail
    refine cM.out.mono ?_
    rintro e w1 ⟨rfl, b1⟩
    have X1 := hide (HBX.out.same (b1.block N HBX.out.lt))
    have H1 := hide (HA.out.below b1)
    have K1 := hide (KA.out.trans (Keep.of_below (F := []) b1) (by simp))
    clear b1 cM
    have e0 := X1.out.cell (i := 0) rfl
    have e1 := X1.out.cell (i := 1) rfl
    have e2 := X1.out.cell (i := 2) rfl
    have e3 := X1.out.cell (i := 3) rfl
    have e4 := X1.out.cell (i := 4) rfl
    have f0 := X1.out.frozen 0
    have f1 := X1.out.frozen 1
    have f2 := X1.out.frozen 2
    have f3 := X1.out.frozen 3
    have f4 := X1.out.frozen 4
    rw [HNN.out] at e0 e1 e2 e3 e4 f0 f1 f2 f3 f4
    go_wp2
    have E := box_end H1.out K1.out HNF.out (by rw [HNN.out]; exact Nat.le_refl _) (.string ⟨#[]⟩) (.string ⟨#[]⟩) (.int .u32 0) (.int .i64 0) (.int .u64 0)
    rw [HNN.out] at E
    exact bodyPost_ret (v := getV none) (by simp [results, Tryz.results12, go_sem, getV, e0, e1, e2, e3, e4]) rfl ⟨S, rfl, E.1, Like.refl _, E.2⟩
  | true =>
    rw [hm] at cM ho
    simp only [if_true] at ho
    obtain ⟨c, hc⟩ : ∃ c, S.cs[first + bk]? = some c := ⟨_, List.getElem?_eq_getElem (by omega)⟩
    have EI := hide (Dv.its_of hc)
    obtain ⟨xs, hxs⟩ : ∃ xs, xs = S.its (first + bk) := ⟨_, rfl⟩
    rw [← hxs] at ho
    have HXG : Hid (∀ y ∈ xs, y.fits ∧ y.good = true) := by rw [hxs]; exact (Dv.its_all h.law.dev.good _).2
    have hxl : xs.length ≤ 12 := by rw [hxs]; exact its_len h.law.dev.good _
    have HXS := hide hxs
    have HOO := hide ho
    have HCC := hide hc
    clear h hL hoff hk hx hfit hkn hbk hN hbx hbe hm ho hc hxs
    go_enter Tryz.func12, Tryz.ntmps12
    go_wp2_with fail
    refine cM.out.mono ?_
    rintro e w1 ⟨rfl, b1⟩
    have X1 := hide (HBX.out.same (b1.block N HBX.out.lt))
    have H1 := hide (HA.out.below b1)
    have K1 := hide (KA.out.trans (Keep.of_below (F := []) b1) (by simp))
    clear b1 cM
    have cB := hide (bucket_any H1.out.st key HKL.out (by have := HKN.out; omega) (by omega))
    rw [← HBK.out] at cB
    go_wp2_with fail
    refine cB.out.mono ?_
    rintro e w2 ⟨rfl, q2, rfl⟩
    have H2 := hide (H1.out.below (below_q2 w1 q2))
    have X2 := hide (X1.out.same (w' := w1.drewN q2) rfl)
    have K2 := hide (K1.out.trans (keep_q (F := []) w1 q2) (by simp))
    have cT := hide (list_ok H2.out HL.out HO.out bk c HCC.out)
    clear cB
    go_wp2_with fail
    refine cT.out.mono ?_
    rintro e w3 ⟨v, rfl, hr, hb3, k3⟩
    rw [← EI.out, ← HXS.out] at hr
    obtain ⟨a, cap, rfl, hI, hq, _, _⟩ := hr.its (Oks.of_good HXG.out)
    have HQ : Hid (∀ b o, a = some ⟨b, o, none⟩ → b ≠ N) := fun b o hab => by
      have h1 := (hr.lt b (by rw [hab]; rfl)).1
      have h2 := X1.out.lt
      have h3 : (w1.drewN q2).heap.size = w1.heap.size := rfl
      omega
    have X3 := hide (X2.out.same (k3.block N X2.out.lt HNF.out.1))
    have H3 := hide hb3
    have K3 := hide (K2.out.trans k3 (fun q hq => .inl hq))
    have HI := hide hI
    obtain ⟨n, hn⟩ : ∃ n, n = xs.length := ⟨_, rfl⟩
    rw [← hn] at HI hxl ⊢
    have HN2 := hide hn
    have hLk : Hid (Like S (S.readDo (first + bk : Nat))) := Like.read _ _
    clear hr hb3 k3 cT hI hq hn
    go_wp2_with fail
    go_loopg [29] n (fun kx s29 wr => ∃ i : Nat, s29 = .int .i64 i ∧ i ≤ n ∧ n - i ≤ kx ∧ Hid ((∀ y ∈ xs.take i, y.key ≠ key) ∧ Below w3.heap.size w3 wr))
    case atStart => exact ⟨0, rfl, Nat.zero_le _, by omega, by simp, Below.refl _ _⟩
    case round =>
      obtain ⟨i, rfl, hin, hg, I⟩ := hrel
      have XR := hide (X3.out.same (I.out.2.block N X3.out.lt))
      have HR := hide (H3.out.below I.out.2)
      have KR := hide (K3.out.trans (Keep.of_below (F := []) I.out.2) (by simp))
      by_cases hlt : i < n
      · have hlt2 : (i : Int) < (n : Int) := by omega
        obtain ⟨y, hy⟩ : ∃ y, xs[i]? = some y := ⟨_, List.getElem?_eq_getElem (by rw [← HN2.out]; exact hlt)⟩
        obtain ⟨b, o2, rfl, hb, hc⟩ := HI.out.cell i y hy
        obtain ⟨c0, c1, c2, c3, c4⟩ := (hc.below I.out.2 hb).vals
        have hbw : b < wr.heap.size := Nat.lt_of_lt_of_le hb I.out.2.size
        have HY := hide hy
        have hNw : N < wr.heap.size := XR.out.lt
        clear hc hy
        have he : ((txt y.key).toList == (txt key).toList) = decide (y.key = key) := by rw [txt_list, txt_list]; by_cases h : y.key = key <;> simp [h]
        by_cases hk : y.key = key
        · rw [decide_eq_true hk] at he
          have HO2 : Hid (o = some y) := by
            show _ = _
            rw [HOO.out]
            have e1 : xs = xs.take i ++ y :: xs.drop (i + 1) := by
              obtain ⟨h1, h2⟩ := List.getElem?_eq_some_iff.1 HY.out
              rw [← h2, ← List.drop_eq_getElem_cons h1, List.take_append_drop]
            rw [e1, List.find?_append]
            have e2 : (xs.take i).find? (isKey key) = none := by
              rw [List.find?_eq_none]
              intro z hz
              simp [isKey, I.out.1 z hz]
            rw [e2]
            simp [isKey, hk]
          clear hk
          have XA := hide (XR.out.alloc (.cells #[.string (txt y.key), .string (txt y.value), .int .u32 y.flags, .int .i64 y.exp, .int .u64 y.ver] 39))
          have e0 := XR.out.cell (i := 0) rfl
          have e1 := XR.out.cell (i := 1) rfl
          have e2 := XR.out.cell (i := 2) rfl
          have e3 := XR.out.cell (i := 3) rfl
          have e4 := XR.out.cell (i := 4) rfl
          have f0 := XR.out.frozen 0
          have f1 := XR.out.frozen 1
          have f2 := XR.out.frozen 2
          have f3 := XR.out.frozen 3
          have f4 := XR.out.frozen 4
          rw [HNN.out] at e0 e1 e2 e3 e4 f0 f1 f2 f3 f4 hNw
          go_wp2
          have E := box_end HR.out KR.out HNF.out (by rw [HNN.out]; exact Nat.le_refl _) (.string (txt y.key)) (.string (txt y.value)) (.int .u32 y.flags) (.int .i64 y.exp) (.int .u64 y.ver)
          have Q := (five_set XR.out rfl (.string (txt y.key)) (.string (txt y.value)) (.int .u32 y.flags) (.int .i64 y.exp) (.int .u64 y.ver)).alloc (.cells #[.string (txt y.key), .string (txt y.value), .int .u32 y.flags, .int .i64 y.exp, .int .u64 y.ver] 39)
          rw [HNN.out] at E Q
          have q0 := Q.cell (i := 0) rfl
          have q1 := Q.cell (i := 1) rfl
          have q2' := Q.cell (i := 2) rfl
          have q3 := Q.cell (i := 3) rfl
          have q4 := Q.cell (i := 4) rfl
          rw [HO2.out]
          generalize ((((wr.setCell ⟨W.heap.size, 0, none⟩ (.string (txt y.key))).setCell ⟨W.heap.size, 1, none⟩ (.string (txt y.value))).setCell ⟨W.heap.size, 2, none⟩ (.int .u32 y.flags)).setCell ⟨W.heap.size, 3, none⟩ (.int .i64 y.exp)).setCell ⟨W.heap.size, 4, none⟩ (.int .u64 y.ver) = WC at E q0 q1 q2' q3 q4 ⊢
          have E1 := E.1.below ((Below.refl _ _).alloc (Nat.le_refl _) (.cells #[.string (txt y.key), .string (txt y.value), .int .u32 y.flags, .int .i64 y.exp, .int .u64 y.ver] 39))
          have E2 := E.2.alloc (.cells #[.string (txt y.key), .string (txt y.value), .int .u32 y.flags, .int .i64 y.exp, .int .u64 y.ver] 39)
          generalize WC.alloc (.cells #[.string (txt y.key), .string (txt y.value), .int .u32 y.flags, .int .i64 y.exp, .int .u64 y.ver] 39) = WD at E1 E2 q0 q1 q2' q3 q4 ⊢
          exact bodyPost_ret (v := getV (some y)) (by simp [results, Tryz.results12, go_sem, getV, q0, q1, q2', q3, q4]) rfl ⟨_, rfl, E1, hLk.out, E2⟩
        · rw [decide_eq_false hk] at he
          have HK := hide hk
          clear hk
          go_wp2
          go_roundg (n - (i + 1))
          case measure => omega
          case rel =>
            refine ⟨i + 1, rfl, by omega, by omega, fun z hz => ?_, I.out.2.alloc I.out.2.size _⟩
            rw [List.take_add_one, HY.out] at hz
            simp only [List.mem_append, Option.toList_some, List.mem_singleton] at hz
            rcases hz with hz | rfl
            · exact I.out.1 z hz
            · exact HK.out
      · obtain rfl : i = n := by omega
        have hlt2 : ¬ (i : Int) < (i : Int) := by omega
        have HO2 : Hid (o = none) := by
          show _ = _
          rw [HOO.out, List.find?_eq_none]
          intro z hz
          have := I.out.1 z (by rw [HN2.out, List.take_length]; exact hz)
          simp [isKey, this]
        have e0 := XR.out.cell (i := 0) rfl
        have e1 := XR.out.cell (i := 1) rfl
        have e2 := XR.out.cell (i := 2) rfl
        have e3 := XR.out.cell (i := 3) rfl
        have e4 := XR.out.cell (i := 4) rfl
        have f0 := XR.out.frozen 0
        have f1 := XR.out.frozen 1
        have f2 := XR.out.frozen 2
        have f3 := XR.out.frozen 3
        have f4 := XR.out.frozen 4
        rw [HNN.out] at e0 e1 e2 e3 e4 f0 f1 f2 f3 f4
        go_wp2
        have E := box_end HR.out KR.out HNF.out (by rw [HNN.out]; exact Nat.le_refl _) (.string ⟨#[]⟩) (.string ⟨#[]⟩) (.int .u32 0) (.int .i64 0) (.int .u64 0)
        rw [HNN.out] at E
        rw [HO2.out]
        exact bodyPost_ret (v := getV none) (by simp [results, Tryz.results12, go_sem, getV, e0, e1, e2, e3, e4]) rfl (by first | exact ⟨_, rfl, E.1, hLk.out, E.2⟩ | exact ⟨rfl, _, E.1, hLk.out, E.2⟩)
end Go.Proofs.YtbccnfbombgdmaaGreat

/- A region some of whose values are known only when they come up. -/
set_option linter.unusedVariables false
set_option linter.unusedSimpArgs false
namespace Go.Proofs.YtbccnfbombgdmaaGreat
open Go.RowKit
variable {P : Program} {ops : Array Oper} {Q : Exit → Act → World → Prop}

theorem upd_congr {own : Nat → Option Nat} {V V' : Nat → Value} {listed : Array Bool} (h : ∀ i, listed.getD i false = true → V i = V' i) : ∀ (l : List Value) (t : Nat), upd own V listed t l = upd own V' listed t l
  | [], _ => rfl
  | v :: r, t => by
    simp only [upd]
    rw [upd_congr h r]
    congr 1
    unfold pickSlot
    cases own t with
    | none => rfl
    | some i =>
      simp only
      split
      · rename_i hi; exact h i hi
      · rfl
theorem frame_congr {own : Nat → Option Nat} {V V' : Nat → Value} {a0 : Act} {listed : Array Bool} (h : ∀ i, listed.getD i false = true → V i = V' i) : frameOf own V a0 listed = frameOf own V' a0 listed := by
  unfold frameOf
  rw [upd_congr h]
def setV (V : Nat → Value) (i : Nat) (v : Value) : Nat → Value := fun j => if j = i then v else V j
theorem setV_same (V : Nat → Value) (i : Nat) (v : Value) : setV V i v i = v := by simp [setV]
theorem setV_other (V : Nat → Value) (i j : Nat) (v : Value) (h : j ≠ i) : setV V i v j = V j := by simp [setV, h]
/-- What an operation yields, whatever value it is. -/
def OpRunsX (P : Program) (ev : Operand → Value) (o : Oper) (w : World) (C : Value → World → Prop) : Prop :=
  (∃ v w', (execOp ev o).run P w = .ok (.value v) w' ∧ C v w') ∨
  (∃ f args, (execOp ev o).run P w = .ok (.enter f args) w ∧ Calls P f args w fun e w' => ∃ v, e = .returned v ∧ C v w')
theorem wp_region_ex {id : Nat} {a0 : Act} {w : World} (hm : P.follows .mixedOrders = true) (hp : plainRegion ops = true) (J : Array Bool → (Nat → Value) → World → Prop)
    (hJ0 : J (Array.replicate ops.size false) (fun _ => undef) { w with drawn := w.drawn + 1 })
    (hops : ∀ i o, ops[i]? = some o → ∀ (listed : Array Bool) (V : Nat → Value) (w' : World) (ev : Operand → Value), listed.size = ops.size → J listed V w' → listed.getD i false = false → (∀ k, edgeOf ops i k = true → listed.getD k false = true) →
      (∀ t j e, ownOf ops t = some j → e ∈ o.after.toList → Region.binds .any e = true → e.on = j → t < a0.tmps.size → ev (.tmp t) = V j) →
      (∀ t, ownOf ops t = none → t < a0.tmps.size → ev (.tmp t) = a0.eval (.tmp t)) → (∀ t j, ownOf ops t = some j → listed.getD j false = false → t < a0.tmps.size → ev (.tmp t) = a0.eval (.tmp t)) → (∀ v, ev (.const v) = v) → (∀ f, ev (.func f) = .func (.func f) #[] #[]) →
      OpRunsX P ev o w' fun v w'' => J (listed.setIfInBounds i true) (setV V i v) w'')
    (hend : ∀ V w', J (Array.replicate ops.size true) V w' → Q .normal (lexF V 0 ops.toList a0) w') : (Code.region id ops true).wp P Q a0 w := by
  refine wp_region_any hm ?_
  refine wpAny_by (fun listed a w' => listed.size = ops.size ∧ ∃ V, a = frameOf (ownOf ops) V a0 listed ∧ J listed V w') ?_ ?_ _ _ _ _ ⟨by simp, _, (frame_none _ _ _ _).symm, hJ0⟩ ?_
  · rintro listed a w' ⟨hs, V, rfl, hc⟩ hr
    have := all_listed hs hp hr
    subst this
    rw [frame_lex hp]
    exact hend V w' hc
  · rintro listed a w' ⟨hs, V, rfl, hc⟩ i hi
    obtain ⟨hlt, hfree, haft⟩ := ready_free hi
    have ho : ops[i]? = some ops[i] := Array.getElem?_eq_getElem hlt
    have hpi := List.all_eq_true.1 hp i (List.mem_range.2 hlt)
    rw [ho] at hpi
    simp only [Bool.and_eq_true] at hpi
    rw [ho] at haft
    simp only [Option.map_some, Option.getD_some] at haft
    have hbind : ∀ e ∈ (ops[i]).after.toList, Region.binds .any e = true → listed.getD e.on false = true := by
      intro e he hb
      obtain ⟨j, hj, hje⟩ := List.getElem_of_mem he
      have hx := (Array.all_eq_true.1 haft) j (by simpa using hj)
      have hje' : (ops[i]).after[j]'(by simpa using hj) = e := by simpa using hje
      rw [hje', hb] at hx
      simpa using hx
    have hdir : ∀ k, edgeOf ops i k = true → listed.getD k false = true := by
      intro k hk
      unfold edgeOf at hk
      rw [ho] at hk
      obtain ⟨x, hx, hxe⟩ := Array.any_eq_true.1 hk
      simp only [Bool.and_eq_true, beq_iff_eq] at hxe
      have := hbind ((ops[i]).after[x]) (by simp) hxe.2
      rw [hxe.1] at this
      exact this
    have hfr : listed.getD i false = false := by
      simp only [Array.getD_eq_getD_getElem?] at hfree ⊢
      rw [Array.getElem?_eq_getElem (by omega)] at hfree ⊢
      simpa using hfree
    have hrun := hops i ops[i] ho listed V w' (frameOf (ownOf ops) V a0 listed).eval hs hc hfr hdir
      (fun t j e hown he hb hej ht => by rw [frame_eval _ _ _ _ _ ht]; unfold pickSlot; rw [hown]; simp only; rw [if_pos (hej ▸ hbind e he hb)])
      (fun t hown ht => by rw [frame_eval _ _ _ _ _ ht]; unfold pickSlot; rw [hown]) (fun t j hown hj ht => by rw [frame_eval _ _ _ _ _ ht]; unfold pickSlot; rw [hown]; simp only; rw [if_neg (by rw [hj]; decide)]) (fun v => rfl) (fun f => rfl)
    have hw : Region.wanted ops[i] (yielded ops (frameOf (ownOf ops) V a0 listed).tmps) = true := by
      have hg : ops[i].guard = none := by simpa using hpi.1.2
      simp [Region.wanted, hg]
    have hput : ∀ v, (frameOf (ownOf ops) V a0 listed).put ops[i].dst v = frameOf (ownOf ops) (setV V i v) a0 (listed.setIfInBounds i true) := fun v => by
      have e : frameOf (ownOf ops) V a0 listed = frameOf (ownOf ops) (setV V i v) a0 listed := frame_congr (fun j hj => by
        rw [setV_other]
        rintro rfl
        rw [hfr] at hj; cases hj)
      rw [e]
      have := frame_step (V := setV V i v) (a0 := a0) hp hs ho
      rw [setV_same] at this
      exact this
    unfold wpOp
    rw [ho]
    simp only [hw, if_true]
    left
    unfold Oper.wp
    rcases hrun with ⟨v, w2, hr, hc2⟩ | ⟨f, args, hr, hcalls⟩
    · rw [hr]
      exact ⟨by simpa using hs, _, hput v, hc2⟩
    · rw [hr]
      refine hcalls.mono ?_
      rintro e w2 ⟨v, rfl, hc2⟩
      exact ⟨by simpa using hs, _, hput v, hc2⟩
  · unfold todo
    simp
end Go.Proofs.YtbccnfbombgdmaaGreat

/- What Put does to a list. -/
set_option linter.unusedVariables false
set_option linter.unusedSimpArgs false
set_option maxRecDepth 8000
namespace Go.Proofs.YtbccnfbombgdmaaGreat
open Go.RowKit Go.Deep Math
variable {w0 W W' : World} {d s : Nat} {F F' : List Nat} {S S' : Dv} {L : Int} {first : Nat} {M : SM}

theorem enter34 (args : Array Value) (w : World) : (callFunc 31 args).run Tryz.prog w = .ok (.enter 31 args) w := enters_of Tryz.func31 (by kernel_rfl) rfl args w
/-- What is known while a list is made: 'append(without(l, x.Key), x)'. -/
structure PJ (W4 : World) (B : Nat) (v0 : Value) (xs : List It) (x : It) (xb : Nat) (listed : Array Bool) (V : Nat → Value) (w' : World) : Prop where
  keep : Keep v0.ownBlock.toList W4 w'
  u0 : listed.getD 0 false = true → V 0 = v0
  u1 : listed.getD 1 false = true → V 1 = .pointer (some ⟨xb, 0, none⟩)
  u2 : listed.getD 2 false = true → V 2 = .string (txt x.key)
  u4 : listed.getD 4 false = true → V 4 = .agg #[.string (txt x.key), .string (txt x.value), .int .u32 x.flags, .int .i64 x.exp, .int .u64 x.ver]
  r0 : listed.getD 3 false = false → Row w' B v0 xs
  r3 : listed.getD 3 false = true → listed.getD 6 false = false → Row w' B (V 3) (xs.filter (notKey x.key)) ∧ (V 3).ownBlock = v0.ownBlock
  r5 : listed.getD 5 false = true → listed.getD 6 false = false → ∃ b, V 5 = .slice (some ⟨b, 0, none⟩) 1 1 ∧ Blk w' b (itCells x) 39 ∧ W4.heap.size ≤ b
  r6 : listed.getD 6 false = true → Row w' B (V 6) (xs.filter (notKey x.key) ++ [x])
  u7 : listed.getD 7 false = true → V 7 = V 6
  c6 : listed.getD 6 false = true → listed.getD 3 false = true ∧ listed.getD 5 false = true
  c7 : listed.getD 7 false = true → listed.getD 6 false = true ∧ listed.getD 0 false = true
theorem repl_getD (n j : Nat) : (Array.replicate n false).getD j false = false := by
  simp only [Array.getD_eq_getD_getElem?, Array.getElem?_replicate]
  split <;> rfl
theorem PJ.start {W4 : World} {B : Nat} {v0 : Value} {xs : List It} {x : It} {xb n : Nat} (h : Row W4 B v0 xs) : PJ W4 B v0 xs x xb (Array.replicate n false) (fun _ => undef) { W4 with drawn := W4.drawn + 1 } := by
  have no : ∀ {p : Prop} j, (Array.replicate n false).getD j false = true → p := fun j hj => by rw [repl_getD] at hj; cases hj
  exact ⟨⟨rfl, rfl, rfl, Nat.le_refl _, fun _ _ _ => rfl⟩, no 0, no 1, no 2, no 4, fun _ => h.keep (fun _ _ => rfl), fun h => no 3 h, fun h => no 5 h, no 6, no 7, no 6, no 7⟩

end Go.Proofs.YtbccnfbombgdmaaGreat
