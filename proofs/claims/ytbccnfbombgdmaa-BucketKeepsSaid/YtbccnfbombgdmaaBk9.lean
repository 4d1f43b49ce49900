/- Get. -/
import Derived.Test.YtbccnfbombgdmaaBk8
set_option linter.unusedVariables false
set_option linter.unusedSimpArgs false
set_option maxRecDepth 8000
namespace Go.Proofs.Ytbccnfbombgdmaa
open Go.RowKit Go.Deep Math
variable {w0 W W' : World} {d s : Nat} {F F' : List Nat} {S S' : Dv} {L : Int} {first : Nat} {M : SM}

/-- What Get tells. -/
def getV (o : Option It) : Value := match o with
  | some x => .tuple #[.agg #[.string (txt x.key), .string (txt x.value), .int .u32 x.flags, .int .i64 x.exp, .int .u64 x.ver], .int .i64 0]
  | none => .tuple #[.agg #[.string ⟨#[]⟩, .string ⟨#[]⟩, .int .u32 0, .int .i64 0, .int .u64 0], .int .i64 5]
def isKey (key : List UInt8) (x : It) : Bool := decide (x.key = key)
/-- A box that holds an item. -/
theorem five_set {V : World} {N : Nat} {L0 : List Value} (h : Blk V N L0 36) (hl : L0.length = 5) (p0 p1 p2 p3 p4 : Value) :
    Blk (((((V.setCell ⟨N, 0, none⟩ p0).setCell ⟨N, 1, none⟩ p1).setCell ⟨N, 2, none⟩ p2).setCell ⟨N, 3, none⟩ p3).setCell ⟨N, 4, none⟩ p4) N [p0, p1, p2, p3, p4] 36 := by
  match L0, hl with
  | [a, b, c, d, e], _ => exact Blk.sets [p0, p1, p2, p3, p4] [] [a, b, c, d, e] [] V rfl (by simpa using h)

theorem box_end {V : World} (h : Bk w0 V d F S s L first M) (hK : Keep F W V) {N : Nat} (hN : N ∉ F ∧ N ∉ M.foot s ∧ w0.heap.size ≤ N) (hW : W.heap.size ≤ N) (p0 p1 p2 p3 p4 : Value) :
    Bk w0 (((((V.setCell ⟨N, 0, none⟩ p0).setCell ⟨N, 1, none⟩ p1).setCell ⟨N, 2, none⟩ p2).setCell ⟨N, 3, none⟩ p3).setCell ⟨N, 4, none⟩ p4) d F S s L first M ∧ Keep F W (((((V.setCell ⟨N, 0, none⟩ p0).setCell ⟨N, 1, none⟩ p1).setCell ⟨N, 2, none⟩ p2).setCell ⟨N, 3, none⟩ p3).setCell ⟨N, 4, none⟩ p4) := by
  refine ⟨h.keep (G := [N]) ((((((Keep.refl [N] V).setCell (.inl (by simp)) _).setCell (.inl (by simp)) _).setCell (.inl (by simp)) _).setCell (.inl (by simp)) _).setCell (.inl (by simp)) _) (fun b hb => by simp at hb; subst hb; exact hN), ?_⟩
  exact (((((hK.setCell (.inr hW) _).setCell (.inr hW) _).setCell (.inr hW) _).setCell (.inr hW) _).setCell (.inr hW) _)
set_option maxHeartbeats 4000000 in
theorem get_ok (h : Bk w0 W d F S s L first M) (hL : L = S.losses) (hoff : S.off = false) (key : List UInt8) (hk : key.length ≤ maxLen) (x : FB) (hx : M.fs[bkt key M.fs.length]? = some x) (hn2 : M.fs.length ≤ 256) (hfit : first + M.fs.length ≤ S.cs.length) (o : Option It)
    (ho : o = if Bl.mayB x.l (Bl.plc (txt key) 256 3) = true then (S.its (first + bkt key M.fs.length)).find? (isKey key) else none) :
    Calls Try.prog 16 #[.pointer (some ⟨s, 0, none⟩), .string (txt key)] W fun e W' => ∃ S', e = .returned (getV o) ∧ Bk w0 W' d F S' s L first M ∧ Like S S' ∧ Keep F W W' := by
  have hbx : Blk (W.alloc (.cells #[.string ⟨#[]⟩, .string ⟨#[]⟩, .int .u32 0, .int .i64 0, .int .u64 0] 36)) W.heap.size [.string ⟨#[]⟩, .string ⟨#[]⟩, .int .u32 0, .int .i64 0, .int .u64 0] 36 := Blk.new W _ 36
  have hbe : Below W.heap.size W (W.alloc (.cells #[.string ⟨#[]⟩, .string ⟨#[]⟩, .int .u32 0, .int .i64 0, .int .u64 0] 36)) := (Below.refl _ _).alloc (Nat.le_refl _) _
  have cM := hide (may_ok (h.below hbe) key hk x hx (by omega))
  obtain ⟨N, hN⟩ : ∃ N, N = W.heap.size := ⟨_, rfl⟩
  have HNF : Hid (N ∉ F ∧ N ∉ M.foot s ∧ w0.heap.size ≤ N) := ⟨by rw [hN]; exact h.law.dev.new _ (Nat.le_refl _), fun hf => by have := h.st.lt N hf; omega, by rw [hN]; exact h.law.bel.size⟩
  have H := hide h
  have HL := hide hL
  have HO := hide hoff
  have HFIT := hide hfit
  have hkn := (List.getElem?_eq_some_iff.1 hx).1
  have HKL := hide hk
  obtain ⟨bk, hbk⟩ : ∃ bk, bk = bkt key M.fs.length := ⟨_, rfl⟩
  rw [← hbk] at hkn ho
  have HBK := hide hbk
  have HNN := hide hN
  rw [← hN] at hbx
  have HBX := hide hbx
  have KA : Hid (Keep F W (W.alloc (.cells #[.string ⟨#[]⟩, .string ⟨#[]⟩, .int .u32 0, .int .i64 0, .int .u64 0] 36))) := Keep.of_below hbe
  have HA := hide (h.below hbe)
  have hb256 : bk ≤ 256 := by omega
  have HKN := hide hkn
  cases hm : Bl.mayB x.l (Bl.plc (txt key) 256 3) with
  | false =>
    rw [hm] at cM ho
    simp only [Bool.false_eq_true, if_false] at ho
    subst ho
    clear h hL hoff hk hx hfit hkn hbk hN hbx hbe hm
    go_enter Try.func16, Try.ntmps16
    go_wp2_with fail
    refine cM.out.mono ?_
    rintro e w1 ⟨rfl, b1⟩
    have X1 := hide (HBX.out.same (b1.block N HBX.out.lt))
    have H1 := hide (HA.out.below b1)
    have K1 := hide (KA.out.trans (Keep.of_below (F := []) b1) (by simp))
    clear b1 cM
    have e0 := X1.out.cell (i := 0) rfl
    have e1 := X1.out.cell (i := 1) rfl
    have e2 := X1.out.cell (i := 2) rfl
    have e3 := X1.out.cell (i := 3) rfl
    have e4 := X1.out.cell (i := 4) rfl
    have f0 := X1.out.frozen 0
    have f1 := X1.out.frozen 1
    have f2 := X1.out.frozen 2
    have f3 := X1.out.frozen 3
    have f4 := X1.out.frozen 4
    rw [HNN.out] at e0 e1 e2 e3 e4 f0 f1 f2 f3 f4
    go_wp2
    have E := box_end H1.out K1.out HNF.out (by rw [HNN.out]; exact Nat.le_refl _) (.string ⟨#[]⟩) (.string ⟨#[]⟩) (.int .u32 0) (.int .i64 0) (.int .u64 0)
    rw [HNN.out] at E
    exact bodyPost_ret (v := getV none) (by simp [results, Try.results16, go_sem, getV, e0, e1, e2, e3, e4]) rfl ⟨S, rfl, E.1, Like.refl _, E.2⟩
  | true =>
    rw [hm] at cM ho
    simp only [if_true] at ho
    obtain ⟨c, hc⟩ : ∃ c, S.cs[first + bk]? = some c := ⟨_, List.getElem?_eq_getElem (by omega)⟩
    have EI := hide (Dv.its_of hc)
    obtain ⟨xs, hxs⟩ : ∃ xs, xs = S.its (first + bk) := ⟨_, rfl⟩
    rw [← hxs] at ho
    have HXG : Hid (∀ y ∈ xs, y.fits ∧ y.good = true) := by rw [hxs]; exact (Dv.its_all h.law.dev.good _).2
    have hxl : xs.length ≤ 12 := by rw [hxs]; exact its_len h.law.dev.good _
    have HXS := hide hxs
    have HOO := hide ho
    have HCC := hide hc
    clear h hL hoff hk hx hfit hkn hbk hN hbx hbe hm ho hc hxs
    go_enter Try.func16, Try.ntmps16
    go_wp2_with fail
    refine cM.out.mono ?_
    rintro e w1 ⟨rfl, b1⟩
    have X1 := hide (HBX.out.same (b1.block N HBX.out.lt))
    have H1 := hide (HA.out.below b1)
    have K1 := hide (KA.out.trans (Keep.of_below (F := []) b1) (by simp))
    clear b1 cM
    have cB := hide (bucket_any H1.out.st key HKL.out (by have := HKN.out; omega) (by omega))
    rw [← HBK.out] at cB
    go_wp2_with fail
    refine cB.out.mono ?_
    rintro e w2 ⟨rfl, q2, rfl⟩
    have H2 := hide (H1.out.below (below_q2 w1 q2))
    have X2 := hide (X1.out.same (w' := w1.drewN q2) rfl)
    have K2 := hide (K1.out.trans (keep_q (F := []) w1 q2) (by simp))
    have cT := hide (list_ok H2.out HL.out HO.out bk c HCC.out)
    clear cB
    go_wp2_with fail
    refine cT.out.mono ?_
    rintro e w3 ⟨v, rfl, hr, hb3, k3⟩
    rw [← EI.out, ← HXS.out] at hr
    obtain ⟨a, cap, rfl, hI, hq, _, _⟩ := hr.its (Oks.of_good HXG.out)
    have HQ : Hid (∀ b o, a = some ⟨b, o, none⟩ → b ≠ N) := fun b o hab => by
      have h1 := (hr.lt b (by rw [hab]; rfl)).1
      have h2 := X1.out.lt
      have h3 : (w1.drewN q2).heap.size = w1.heap.size := rfl
      omega
    have X3 := hide (X2.out.same (k3.block N X2.out.lt HNF.out.1))
    have H3 := hide hb3
    have K3 := hide (K2.out.trans k3 (fun q hq => .inl hq))
    have HI := hide hI
    obtain ⟨n, hn⟩ : ∃ n, n = xs.length := ⟨_, rfl⟩
    rw [← hn] at HI hxl ⊢
    have HN2 := hide hn
    have hLk : Hid (Like S (S.readDo (first + bk : Nat))) := Like.read _ _
    clear hr hb3 k3 cT hI hq hn
    go_wp2_with fail
    go_loopg [29] n (fun kx s29 wr => ∃ i : Nat, s29 = .int .i64 i ∧ i ≤ n ∧ n - i ≤ kx ∧ Hid ((∀ y ∈ xs.take i, y.key ≠ key) ∧ Below w3.heap.size w3 wr))
    case atStart => exact ⟨0, rfl, Nat.zero_le _, by omega, by simp, Below.refl _ _⟩
    case round =>
      obtain ⟨i, rfl, hin, hg, I⟩ := hrel
      have XR := hide (X3.out.same (I.out.2.block N X3.out.lt))
      have HR := hide (H3.out.below I.out.2)
      have KR := hide (K3.out.trans (Keep.of_below (F := []) I.out.2) (by simp))
      by_cases hlt : i < n
      · have hlt2 : (i : Int) < (n : Int) := by omega
        obtain ⟨y, hy⟩ : ∃ y, xs[i]? = some y := ⟨_, List.getElem?_eq_getElem (by rw [← HN2.out]; exact hlt)⟩
        obtain ⟨b, o2, rfl, hb, hc⟩ := HI.out.cell i y hy
        obtain ⟨c0, c1, c2, c3, c4⟩ := (hc.below I.out.2 hb).vals
        have hbw : b < wr.heap.size := Nat.lt_of_lt_of_le hb I.out.2.size
        have HY := hide hy
        have hNw : N < wr.heap.size := XR.out.lt
        clear hc hy
        have he : ((txt y.key).toList == (txt key).toList) = decide (y.key = key) := by rw [txt_list, txt_list]; by_cases h : y.key = key <;> simp [h]
        by_cases hk : y.key = key
        · rw [decide_eq_true hk] at he
          have HO2 : Hid (o = some y) := by
            show _ = _
            rw [HOO.out]
            have e1 : xs = xs.take i ++ y :: xs.drop (i + 1) := by
              obtain ⟨h1, h2⟩ := List.getElem?_eq_some_iff.1 HY.out
              rw [← h2, ← List.drop_eq_getElem_cons h1, List.take_append_drop]
            rw [e1, List.find?_append]
            have e2 : (xs.take i).find? (isKey key) = none := by
              rw [List.find?_eq_none]
              intro z hz
              simp [isKey, I.out.1 z hz]
            rw [e2]
            simp [isKey, hk]
          clear hk
          have XA := hide (XR.out.alloc (.cells #[.string (txt y.key), .string (txt y.value), .int .u32 y.flags, .int .i64 y.exp, .int .u64 y.ver] 36))
          have e0 := XR.out.cell (i := 0) rfl
          have e1 := XR.out.cell (i := 1) rfl
          have e2 := XR.out.cell (i := 2) rfl
          have e3 := XR.out.cell (i := 3) rfl
          have e4 := XR.out.cell (i := 4) rfl
          have f0 := XR.out.frozen 0
          have f1 := XR.out.frozen 1
          have f2 := XR.out.frozen 2
          have f3 := XR.out.frozen 3
          have f4 := XR.out.frozen 4
          rw [HNN.out] at e0 e1 e2 e3 e4 f0 f1 f2 f3 f4 hNw
          go_wp2
          have E := box_end HR.out KR.out HNF.out (by rw [HNN.out]; exact Nat.le_refl _) (.string (txt y.key)) (.string (txt y.value)) (.int .u32 y.flags) (.int .i64 y.exp) (.int .u64 y.ver)
          have Q := (five_set XR.out rfl (.string (txt y.key)) (.string (txt y.value)) (.int .u32 y.flags) (.int .i64 y.exp) (.int .u64 y.ver)).alloc (.cells #[.string (txt y.key), .string (txt y.value), .int .u32 y.flags, .int .i64 y.exp, .int .u64 y.ver] 36)
          rw [HNN.out] at E Q
          have q0 := Q.cell (i := 0) rfl
          have q1 := Q.cell (i := 1) rfl
          have q2' := Q.cell (i := 2) rfl
          have q3 := Q.cell (i := 3) rfl
          have q4 := Q.cell (i := 4) rfl
          rw [HO2.out]
          generalize ((((wr.setCell ⟨W.heap.size, 0, none⟩ (.string (txt y.key))).setCell ⟨W.heap.size, 1, none⟩ (.string (txt y.value))).setCell ⟨W.heap.size, 2, none⟩ (.int .u32 y.flags)).setCell ⟨W.heap.size, 3, none⟩ (.int .i64 y.exp)).setCell ⟨W.heap.size, 4, none⟩ (.int .u64 y.ver) = WC at E q0 q1 q2' q3 q4 ⊢
          have E1 := E.1.below ((Below.refl _ _).alloc (Nat.le_refl _) (.cells #[.string (txt y.key), .string (txt y.value), .int .u32 y.flags, .int .i64 y.exp, .int .u64 y.ver] 36))
          have E2 := E.2.alloc (.cells #[.string (txt y.key), .string (txt y.value), .int .u32 y.flags, .int .i64 y.exp, .int .u64 y.ver] 36)
          generalize WC.alloc (.cells #[.string (txt y.key), .string (txt y.value), .int .u32 y.flags, .int .i64 y.exp, .int .u64 y.ver] 36) = WD at E1 E2 q0 q1 q2' q3 q4 ⊢
          exact bodyPost_ret (v := getV (some y)) (by simp [results, Try.results16, go_sem, getV, q0, q1, q2', q3, q4]) rfl ⟨_, rfl, E1, hLk.out, E2⟩
        · rw [decide_eq_false hk] at he
          have HK := hide hk
          clear hk
          go_wp2
          go_roundg (n - (i + 1))
          case measure => omega
          case rel =>
            refine ⟨i + 1, rfl, by omega, by omega, fun z hz => ?_, I.out.2.alloc I.out.2.size _⟩
            rw [List.take_add_one, HY.out] at hz
            simp only [List.mem_append, Option.toList_some, List.mem_singleton] at hz
            rcases hz with hz | rfl
            · exact I.out.1 z hz
            · exact HK.out
      · obtain rfl : i = n := by omega
        have hlt2 : ¬ (i : Int) < (i : Int) := by omega
        have HO2 : Hid (o = none) := by
          show _ = _
          rw [HOO.out, List.find?_eq_none]
          intro z hz
          have := I.out.1 z (by rw [HN2.out, List.take_length]; exact hz)
          simp [isKey, this]
        have e0 := XR.out.cell (i := 0) rfl
        have e1 := XR.out.cell (i := 1) rfl
        have e2 := XR.out.cell (i := 2) rfl
        have e3 := XR.out.cell (i := 3) rfl
        have e4 := XR.out.cell (i := 4) rfl
        have f0 := XR.out.frozen 0
        have f1 := XR.out.frozen 1
        have f2 := XR.out.frozen 2
        have f3 := XR.out.frozen 3
        have f4 := XR.out.frozen 4
        rw [HNN.out] at e0 e1 e2 e3 e4 f0 f1 f2 f3 f4
        go_wp2
        have E := box_end HR.out KR.out HNF.out (by rw [HNN.out]; exact Nat.le_refl _) (.string ⟨#[]⟩) (.string ⟨#[]⟩) (.int .u32 0) (.int .i64 0) (.int .u64 0)
        rw [HNN.out] at E
        rw [HO2.out]
        exact bodyPost_ret (v := getV none) (by simp [results, Try.results16, go_sem, getV, e0, e1, e2, e3, e4]) rfl (by first | exact ⟨_, rfl, E.1, hLk.out, E.2⟩ | exact ⟨rfl, _, E.1, hLk.out, E.2⟩)
end Go.Proofs.Ytbccnfbombgdmaa
