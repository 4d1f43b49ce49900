/- Texts joined: Rk2, Rk3, AnyL. -/
import Derived.Test.YtbccnfbombgdmaaGreatJ32
import Derived.Test.YtbccnfbombgdmaaGreatJ35
import Derived.Test.YtbccnfbombgdmaaGreatJ27
import Derived.Test.YtbccnfbombgdmaaGreatJ20
/- The document's own list of a page, and the size of a list. -/
set_option linter.unusedVariables false
set_option linter.unusedSimpArgs false
set_option maxRecDepth 8000
namespace Go.Proofs.YtbccnfbombgdmaaGreat
open Go.RowKit Go.Deep Math

theorem its_read {S : Dv} {k : Nat} (hk : k < S.cs.length) (ho : S.off = false) : (S.readErr (k : Int) = 0 ∧ (S.readText (k : Int)).size = (S.readText (k : Int)).size ∧ S.its k = lsO (S.readText (k : Int)).data.toList) ∨ (S.readErr (k : Int) ≠ 0 ∧ S.its k = []) := by
  obtain ⟨c, hc⟩ : ∃ c, S.cs[k]? = some c := ⟨_, List.getElem?_eq_getElem hk⟩
  obtain ⟨h1, h2⟩ := read_facts hc ho
  rw [h1, h2, Dv.its_of hc]
  obtain ⟨cn, cl⟩ := c
  cases cn using Pg.elim3 with
  | blank => exact .inr ⟨by simp [Pg.err], rfl⟩
  | torn => exact .inr ⟨by simp [Pg.err], rfl⟩
  | whole b => exact .inl ⟨rfl, rfl, rfl⟩

set_option maxHeartbeats 2000000 in
theorem rlist_any (r : Nat) (G : List Nat) (S : Dv) (k : Nat) (hk : k < S.cs.length) (ho : S.off = false) (W : World) (hR : RfAt W r G S) :
    Calls Tryz.prog 26 #[.pointer (some ⟨r, 0, none⟩), .int .i64 (k : Int)] W fun e W' => ∃ v S', e = .returned v ∧ Row W' W.heap.size v (S.its k) ∧ RfAt W' r G S' ∧ Like S S' ∧ Keep G W W' := by
  have cr := hide (rread_at r G S (k : Int) W hR)
  have hlk := hide (Like.read S (k : Int))
  have hgd : S.good := by obtain ⟨L, _, hI⟩ := hR; exact hI.good
  have hit := its_read hk ho
  have hsz : (S.readText (k : Int)).size ≤ 384 := by
    obtain ⟨c, hc⟩ : ∃ c, S.cs[k]? = some c := ⟨_, List.getElem?_eq_getElem hk⟩
    have hf := (hgd.fits c (List.mem_of_getElem? hc)).1
    rw [(read_facts hc ho).2]
    obtain ⟨cn, cl⟩ := c
    cases cn using Pg.elim3 with
    | blank => show (0 : Nat) ≤ 384; omega
    | torn => show (0 : Nat) ≤ 384; omega
    | whole b => exact Nat.le_of_eq (full_size b hf)
  generalize S.readErr (k : Int) = er at *
  generalize S.readText (k : Int) = rt at *
  generalize S.readDo (k : Int) = S2 at *
  generalize S.its k = its at *
  obtain ⟨l, rfl⟩ : ∃ l, rt = txt l := ⟨rt.data.toList, by unfold txt; rw [Array.toArray_toList]⟩
  have hll : l.length ≤ 384 := by rw [← txt_size l]; exact hsz
  have hdl : (txt l).data.toList = l := by unfold txt; simp
  rw [hdl] at hit
  clear hR hgd hk ho hsz hdl
  rcases hit with ⟨rfl, _, rfl⟩ | ⟨he, rfl⟩
  · have cl := hide (refList_any l (by omega))
    unfold RListPost at cl
    generalize txt l = tl at *
    have HL : Hid (lsO l = (lst l).getD []) := rfl
    cases hT : lst l with
    | none =>
      rw [hT] at cl HL
      clear hT hll
      go_enter Tryz.func26, Tryz.ntmps26
      go_wp2_with (first
        | (go_at_call 58; refine cr.out.mono ?_; rintro e w1 ⟨rfl, h1, k1⟩; have H1 := hide h1; have K1 := hide k1; clear h1 k1)
        | (go_at_call 61; refine (cl.out _).mono ?_; rintro e w2 ⟨b2, rfl⟩; have B2 := hide b2; clear b2))
      go_ret
      rw [HL.out]
      exact ⟨_, S2, rfl, Row.nil _ _, H1.out.below B2.out, hlk.out, K1.out.trans (Keep.of_below B2.out) (fun x hx => .inl hx)⟩
    | some xs =>
      rw [hT] at cl HL
      clear hT hll
      go_enter Tryz.func26, Tryz.ntmps26
      go_wp2_with (first
        | (go_at_call 58; refine cr.out.mono ?_; rintro e w1 ⟨rfl, h1, k1⟩; have H1 := hide h1; have K1 := hide k1; clear h1 k1)
        | (go_at_call 61; refine (cl.out _).mono ?_; rintro e w2 ⟨b2, v, rfl, o2⟩; have B2 := hide b2; have O2 := hide o2; clear b2 o2))
      go_ret
      rw [HL.out]
      exact ⟨v, S2, rfl, Row.mono O2.out K1.out.size, H1.out.below B2.out, hlk.out, K1.out.trans (Keep.of_below B2.out) (fun x hx => .inl hx)⟩
  · have he2 : (er != 0) = true := by simpa using he
    generalize txt l = tl at *
    clear hll he
    go_enter Tryz.func26, Tryz.ntmps26
    go_wp2_with (go_at_call 58; refine cr.out.mono ?_; rintro e w1 ⟨rfl, h1, k1⟩; have H1 := hide h1; have K1 := hide k1; clear h1 k1)
    go_ret
    exact ⟨_, S2, rfl, Row.nil _ _, H1.out, hlk.out, K1.out⟩

set_option maxHeartbeats 1000000 in
theorem rsize_any (a : Option Addr) (n cap : Nat) (xs : List It) (hn : n ≤ 1000) (hg : Oks xs) (hsm : ∀ x ∈ xs, x.size ≤ 1000000) (w : World) (h : ItsAt w a n xs) :
    Calls Tryz.prog 41 #[.slice a n cap] w fun e w' => e = .returned (.int .i64 (total xs : Int)) ∧ Below w.heap.size w w' := by
  have H := hide h
  have HL := hide h.len
  clear h
  go_enter Tryz.func41, Tryz.ntmps41
  go_wp2_with fail
  go_loopg [3, 4] n (fun kx s3 s4 wr => ∃ (i t : Nat), s3 = .int .i64 t ∧ s4 = .int .i64 i ∧ i ≤ n ∧ n - i ≤ kx ∧ t ≤ 1000000 * i ∧ Hid (t = total (xs.take i) ∧ Below w.heap.size w wr))
  case atStart => exact ⟨0, 0, rfl, rfl, Nat.zero_le _, by omega, by omega, by simp [total], Below.refl _ _⟩
  case round =>
    obtain ⟨i, t, rfl, rfl, hin, hg2, ht, I⟩ := hrel
    by_cases hlt : i < n
    · have hlt2 : (i : Int) < (n : Int) := by omega
      obtain ⟨x, hx⟩ : ∃ x, xs[i]? = some x := ⟨_, List.getElem?_eq_getElem (by rw [← HL.out]; exact hlt)⟩
      obtain ⟨b, o, rfl, hb, hc⟩ := (H.out.below I.out.2).cell i x hx
      obtain ⟨c0, c1, c2, c3, c4⟩ := hc.vals
      have hgx := hg x (List.mem_of_getElem? hx)
      have cS := hide (refSize_any (txt x.key) (txt x.value) x.flags x.exp x.ver (by rw [txt_size]; exact hgx.2.1) (by rw [txt_size]; exact hgx.2.2))
      have es : 32 + (txt x.key).size + (txt x.value).size = x.size := by rw [txt_size, txt_size]; rfl
      rw [es] at cS
      unfold itV at cS
      have E := hide (total_take_succ xs i x hx)
      have IE := hide I.out.1
      have IB := hide I.out.2
      have hxs := hsm x (List.mem_of_getElem? hx)
      have hti : (t : Int) ≤ 1000000000 := by omega
      have hzi : (x.size : Int) ≤ 1000000 := by omega
      have hz0 : (0 : Int) ≤ (x.size : Int) := by omega
      have HXS := hide hxs
      generalize x.size = sz at *
      clear hx hc hgx es hxs I
      go_wp2_with (go_at_call 37; refine (cS.out _).mono ?_; rintro e w2 ⟨rfl, b2⟩; have B2 := hide b2; clear b2)
      go_roundg (n - (i + 1))
      case measure => omega
      case rel => exact ⟨i + 1, t + sz, rfl, rfl, by omega, by omega, by have := HXS.out; omega, by rw [E.out, IE.out], IB.out.trans (B2.out.mono IB.out.size)⟩
    · obtain rfl : i = n := by omega
      have hlt2 : ¬ (i : Int) < (i : Int) := by omega
      have E : Hid (t = total xs) := by show _ = _; rw [I.out.1, HL.out, List.take_length]
      go_wp2
      go_ret
      exact ⟨by rw [E.out]; rfl, I.out.2⟩
end Go.Proofs.YtbccnfbombgdmaaGreat

/- The keys that each bucket was told, in memory; the document's own May. -/
set_option linter.unusedVariables false
set_option linter.unusedSimpArgs false
set_option maxRecDepth 8000
namespace Go.Proofs.YtbccnfbombgdmaaGreat
open Go.RowKit Go.Deep Math

def kV (t : List (List UInt8)) : List Value := t.map fun s => .string (txt s)
/-- What each bucket was told: a row of rows. -/
structure TdAt (W : World) (B : Nat) (tv : Value) (vs : List Value) (td : List (List (List UInt8))) : Prop where
  row : W.ownsRow B 80 1 tv vs.length vs
  len : vs.length = td.length
  inn : ∀ (k : Nat) (v : Value) (t : List (List UInt8)), vs[k]? = some v → td[k]? = some t → W.ownsRow B 9 1 v t.length (kV t)
  ap : ∀ (j k : Nat) (v u : Value), j ≠ k → vs[j]? = some v → vs[k]? = some u → ∀ q, v.ownBlock = some q → u.ownBlock ≠ some q
def tdF (tv : Value) (vs : List Value) : List Nat := tv.ownBlock.toList ++ vs.flatMap fun v => v.ownBlock.toList
theorem own_blk1 {W : World} {B n : Nat} {e : TypeId} {v : Value} {xs : List Value} (h : W.ownsRow B e 1 v n xs) {q : Nat} (hq : v.ownBlock = some q) : B ≤ q ∧ q < W.heap.size ∧ ∃ c, W.heap[q]? = some (.cells c e (0, 0)) := by
  rcases h.2 with ⟨rfl, _⟩ | ⟨g, cap, cur, rfl, hB, hh, _⟩
  · cases hq
  · cases hq
    exact ⟨hB, (Array.getElem?_eq_some_iff.1 hh).1, cur, hh⟩
theorem own_same1 {W W' : World} {B n : Nat} {e : TypeId} {v : Value} {xs : List Value} (h : W.ownsRow B e 1 v n xs) (k : ∀ q, v.ownBlock = some q → W'.heap[q]? = W.heap[q]?) : W'.ownsRow B e 1 v n xs := by
  refine ⟨h.1, ?_⟩
  rcases h.2 with ⟨rfl, h0⟩ | ⟨g, cap, cur, rfl, hB, hh, r⟩
  · exact .inl ⟨rfl, h0⟩
  · exact .inr ⟨g, cap, cur, rfl, hB, by rw [k g rfl]; exact hh, r⟩
theorem own_cell1 {W : World} {B n : Nat} {e : TypeId} {v : Value} {xs : List Value} (h : W.ownsRow B e 1 v n xs) {i : Nat} {u : Value} (hu : xs[i]? = some u) : ∃ g c, v = .slice (some ⟨g, 0, none⟩) n c ∧ W.cell? ⟨g, i, none⟩ = some u ∧ n ≤ c := by
  have hi := (List.getElem?_eq_some_iff.1 hu).1
  rcases h.2 with ⟨rfl, h0⟩ | ⟨g, cap, cur, rfl, hB, hh, hc, _, _, ht⟩
  · have := h.1; omega
  · refine ⟨g, cap, rfl, ?_, hc⟩
    rw [← ht, List.getElem?_take] at hu
    split at hu
    · simp [World.cell?, hh, ← Array.getElem?_toList, hu]
    · cases hu
theorem own_sl1 {W : World} {B n : Nat} {e : TypeId} {v : Value} {xs : List Value} (h : W.ownsRow B e 1 v n xs) : ∃ a c, v = .slice a n c := by
  rcases h.2 with ⟨rfl, h0⟩ | ⟨g, cap, cur, rfl, _⟩
  · exact ⟨none, 0, by rw [h0]⟩
  · exact ⟨_, _, rfl⟩
theorem TdAt.lt {W : World} {B : Nat} {tv : Value} {vs : List Value} {td : List (List (List UInt8))} (h : TdAt W B tv vs td) : ∀ q ∈ tdF tv vs, B ≤ q ∧ q < W.heap.size ∧ ∃ c t, W.heap[q]? = some (.cells c t (0, 0)) ∧ (t = 80 ∨ t = 9) := by
  intro q hq
  rcases List.mem_append.1 hq with h1 | h1
  · obtain ⟨h2, h3, c, hc⟩ := own_blk1 h.row (by simpa using h1)
    exact ⟨h2, h3, c, 80, hc, .inl rfl⟩
  · obtain ⟨v, hv, hq2⟩ := List.mem_flatMap.1 h1
    obtain ⟨k, hk, rfl⟩ := List.getElem_of_mem hv
    have hk2 : k < td.length := by rw [← h.len]; exact hk
    obtain ⟨h2, h3, c, hc⟩ := own_blk1 (h.inn k _ _ (List.getElem?_eq_getElem hk) (List.getElem?_eq_getElem hk2)) (by simpa using hq2)
    exact ⟨h2, h3, c, 9, hc, .inr rfl⟩
theorem TdAt.same {W W' : World} {B : Nat} {tv : Value} {vs : List Value} {td : List (List (List UInt8))} (h : TdAt W B tv vs td) (k : ∀ q ∈ tdF tv vs, W'.heap[q]? = W.heap[q]?) : TdAt W' B tv vs td :=
  ⟨own_same1 h.row (fun q hq => k q (List.mem_append.2 (.inl (by simp [hq])))), h.len, fun j v t hv ht => own_same1 (h.inn j v t hv ht) (fun q hq => k q (List.mem_append.2 (.inr (List.mem_flatMap.2 ⟨v, List.mem_of_getElem? hv, by simp [hq]⟩)))), h.ap⟩

/-! ### May -/
def hit1 (s key : List UInt8) (k n : Nat) : Bool := (List.range n).any fun m => decide (bitK s m = bitK key k)
def hitA (t : List (List UInt8)) (key : List UInt8) (k : Nat) : Bool := t.any fun s => hit1 s key k 3
def mayR (t : List (List UInt8)) (key : List UInt8) : Bool := (List.range 3).all fun k => hitA t key k
theorem hit1_succ (s key : List UInt8) (k n : Nat) : hit1 s key k (n + 1) = (hit1 s key k n || decide (bitK s n = bitK key k)) := by simp [hit1, List.range_succ]
theorem hitA_take (t : List (List UInt8)) (key : List UInt8) (k i : Nat) (s : List UInt8) (h : t[i]? = some s) : hitA (t.take (i + 1)) key k = (hitA (t.take i) key k || hit1 s key k 3) := by
  rw [List.take_add_one, h]; simp [hitA]
theorem mayR_all {t : List (List UInt8)} {key : List UInt8} (h : ∀ j, j < 3 → hitA t key j = true) : mayR t key = true := by
  unfold mayR; rw [List.all_eq_true]; intro j hj; exact h j (by simpa using hj)
theorem mayR_no {t : List (List UInt8)} {key : List UInt8} {k : Nat} (hk : k < 3) (h : hitA t key k = false) : mayR t key = false := by
  unfold mayR; rw [List.all_eq_false]; exact ⟨k, by simpa using hk, by rw [h]; decide⟩

set_option maxHeartbeats 4000000 in
theorem rmay_any (s r : Nat) (first n : Nat) (tv : Value) (lo : Int) (key : List UInt8) (hk : key.length ≤ 1048000) (h1 : 0 < n) (h2 : n ≤ 1000) (W : World) (hb : Blk W s [.pointer (some ⟨r, 0, none⟩), .int .i64 (first : Int), .int .i64 (n : Int), tv, .int .i64 lo] 78)
    (B : Nat) (vs : List Value) (td : List (List (List UInt8))) (hT : TdAt W B tv vs td) (hn : td.length = n) (t : List (List UInt8)) (ht : td[bkt key n]? = some t) (hs : ∀ x ∈ t, x.length ≤ 1048000) (htl : t.length ≤ 100000) :
    Calls Tryz.prog 17 #[.pointer (some ⟨s, 0, none⟩), .string (txt key)] W fun e W' => e = .returned (.bool (mayR t key)) ∧ ∃ q, W' = W.drewN q := by
  have c3 := hb.cell (i := 3) rfl
  have cO := hide (fun (V : World) (hV : Blk V s [.pointer (some ⟨r, 0, none⟩), .int .i64 (first : Int), .int .i64 (n : Int), tv, .int .i64 lo] 78) => rof_any s r first n tv lo key (by unfold maxLen; omega) h1 h2 V hV)
  have hkn := bkt_lt key n h1
  obtain ⟨v, hv⟩ : ∃ v, vs[bkt key n]? = some v := ⟨_, List.getElem?_eq_getElem (by rw [hT.len, hn]; exact hkn)⟩
  obtain ⟨g, c, rfl, hcg, hc⟩ := own_cell1 hT.row hv
  have hin := hT.inn _ _ _ hv ht
  obtain ⟨ta, tc, rfl⟩ := own_sl1 hin
  have HB := hide hb
  have HIN := hide hin
  have HS := hide hs
  have hg := block_lt_of_cell hcg
  obtain ⟨bk, hbk⟩ : ∃ bk, bk = bkt key n := ⟨_, rfl⟩
  rw [← hbk] at cO hcg hkn
  obtain ⟨vn, hvn⟩ : ∃ vn, vn = vs.length := ⟨_, rfl⟩
  have hvl : vn = n := by rw [hvn, hT.len, hn]
  rw [← hvn] at c3 hc
  subst hvl
  have hbn : (bk : Int) < (vn : Int) := by omega
  obtain ⟨tl, htl2⟩ : ∃ tl, tl = t.length := ⟨_, rfl⟩
  rw [← htl2] at hcg htl
  have HTL := hide htl2
  have cK := hide (fun (k : Nat) (hk3 : k < 3) (V : World) => rbit_any key hk k hk3 V)
  have hbs := block_lt_of_cell c3
  clear hb hT hv ht hin hn hs hvn hbk htl2 h1 hk
  have HV : Hid (∀ V : World, V.heap = W.heap → V.cell? ⟨s, 3, none⟩ = some (.slice (some ⟨g, 0, none⟩) vn c) ∧ V.cell? ⟨g, bk, none⟩ = some (.slice ta tl tc)) := fun V hV => by
    unfold World.cell? at c3 hcg ⊢
    rw [hV]; exact ⟨c3, hcg⟩
  go_enter Tryz.func17, Tryz.ntmps17
  go_wp2_with fail
  go_region_with (go_at_call 39; refine (cO.out _ ?_).mono ?_; exact HB.out.same rfl; rintro e w1 ⟨rfl, q, hq⟩; obtain ⟨y3, y4⟩ := HV.out w1 (by rw [hq]; rfl); have HQ := hide (show ∃ q, w1 = W.drewN q from ⟨1 + q, by rw [hq]; show (W.drewN 1).drewN q = _; rw [World.drewN_drewN]⟩); clear hq)
  all_goals (
    go_wp2_with fail
    go_loopg [6] 3 (fun kx s6 wr => ∃ k : Nat, s6 = .int .i64 k ∧ k ≤ 3 ∧ 3 - k ≤ kx ∧ Hid (wr = w1 ∧ ∀ j, j < k → hitA t key j = true))
    case atStart => exact ⟨0, rfl, by omega, by omega, rfl, fun j hj => absurd hj (by omega)⟩
    case round =>
      obtain ⟨k, rfl, hk3, hkx, I⟩ := hrel
      have I1 := hide I.out.2
      obtain rfl : w1 = wr := I.out.1.symm
      clear I
      by_cases hlt : k < 3
      · have hlt2 : (k : Int) < 3 := by omega
        go_wp2_with fail
        go_loopg [7, 8] tl (fun ky s7 s8 wr2 => ∃ i : Nat, s7 = .bool (hitA (t.take i) key k) ∧ s8 = .int .i64 i ∧ i ≤ tl ∧ tl - i ≤ ky ∧ Hid (wr2 = w1))
        case atStart => exact ⟨0, rfl, rfl, Nat.zero_le _, by omega, rfl⟩
        case round =>
          obtain ⟨i, rfl, rfl, hin, hix, J⟩ := hrel
          obtain rfl : w1 = wr := J.out.symm
          clear J
          by_cases hi : i < tl
          · have hi2 : (i : Int) < (tl : Int) := by omega
            have hi9 : (i : Int) ≤ 100000 := by omega
            obtain ⟨x, hx⟩ : ∃ x, t[i]? = some x := ⟨_, List.getElem?_eq_getElem (by rw [← HTL.out]; exact hi)⟩
            have hxv : (kV t)[i]? = some (.string (txt x)) := by unfold kV; rw [List.getElem?_map, hx]; rfl
            obtain ⟨g2, c2, hgv, hc2, _⟩ := own_cell1 HIN.out hxv
            simp only [Value.slice.injEq] at hgv
            obtain ⟨rfl, _, rfl⟩ := hgv
            have hwh : w1.heap = W.heap := by obtain ⟨q, hq⟩ := HQ.out; rw [hq]; rfl
            have hc3 : w1.cell? ⟨g2, i, none⟩ = some (.string (txt x)) := by unfold World.cell? at hc2 ⊢; rw [hwh]; exact hc2
            have hg2 := block_lt_of_cell hc3
            have hxl := HS.out x (List.mem_of_getElem? hx)
            have cX := hide (fun (m : Nat) (hm3 : m < 3) (V : World) => rbit_any x hxl m hm3 V)
            have HX := hide (hitA_take t key k i x hx)
            obtain ⟨b0, hb0⟩ : ∃ b0, b0 = hitA (t.take i) key k := ⟨_, rfl⟩
            rw [← hb0] at HX ⊢
            generalize txt x = tx at *
            clear hx hxv hc2 hb0 hwh
            go_wp2_with fail
            go_loopg [7, 9] 3 (fun kz s7 s9 wr3 => ∃ m : Nat, s7 = .bool (b0 || hit1 x key k m) ∧ s9 = .int .i64 m ∧ m ≤ 3 ∧ 3 - m ≤ kz ∧ Hid (wr3 = w1))
            case atStart => exact ⟨0, by simp [hit1], rfl, by omega, by omega, rfl⟩
            case round =>
              obtain ⟨m, rfl, rfl, hm3, hmx, J⟩ := hrel
              obtain rfl : w1 = wr := J.out.symm
              clear J
              by_cases hm : m < 3
              · have hm2 : (m : Int) < 3 := by omega
                have HM := hide (hit1_succ x key k m)
                have c45a := hide (cX.out m hm)
                have c45b := hide (cK.out k hlt)
                generalize bitK x m = p1 at *
                generalize bitK key k = p2 at *
                cases hb1 : (b0 || hit1 x key k m) with
                | true =>
                  have E : Hid ((b0 || hit1 x key k (m + 1)) = true) := by show _ = _; rw [HM.out, ← Bool.or_assoc, hb1]; rfl
                  clear hb1
                  go_wp2_with fail
                  go_roundg (3 - (m + 1))
                  case measure => omega
                  case rel => exact ⟨m + 1, by rw [E.out], rfl, by omega, by omega, rfl⟩
                | false =>
                  have E : Hid ((b0 || hit1 x key k (m + 1)) = decide (p1 = p2)) := by show _ = _; rw [HM.out, ← Bool.or_assoc, hb1]; rfl
                  clear hb1
                  by_cases hpp : p1 = p2
                  · subst hpp
                    rw [decide_eq_true rfl] at E
                    go_wp2_with (first
                      | (go_at_call 45; refine (c45a.out _).mono ?_; clear c45a; rintro e w' ⟨rfl, hw⟩; obtain rfl : w1 = w' := hw.symm; clear hw)
                      | (go_at_call 45; refine (c45b.out _).mono ?_; clear c45b; rintro e w' ⟨rfl, hw⟩; obtain rfl : w1 = w' := hw.symm; clear hw))
                    go_roundg (3 - (m + 1))
                    case measure => omega
                    case rel => exact ⟨m + 1, by rw [E.out], rfl, by omega, by omega, rfl⟩
                  · rw [decide_eq_false hpp] at E
                    have hppi : ¬ ((p1 : Int) = (p2 : Int)) := by omega
                    have hpp2 : ((p1 : Int) == (p2 : Int)) = false := beq_eq_false_iff_ne.2 hppi
                    have hpp3 : ((p1 : Int) = (p2 : Int)) = False := eq_false (by omega)
                    go_wp2_with (first
                      | (go_at_call 45; refine (c45a.out _).mono ?_; clear c45a; rintro e w' ⟨rfl, hw⟩; obtain rfl : w1 = w' := hw.symm; clear hw)
                      | (go_at_call 45; refine (c45b.out _).mono ?_; clear c45b; rintro e w' ⟨rfl, hw⟩; obtain rfl : w1 = w' := hw.symm; clear hw))
                    go_roundg (3 - (m + 1))
                    case measure => omega
                    case rel => exact ⟨m + 1, by rw [E.out], rfl, by omega, by omega, rfl⟩
              · obtain rfl : m = 3 := by omega
                have hm2 : ¬ ((3 : Nat) : Int) < 3 := by omega
                have HX2 : Hid ((b0 || hit1 x key k 3) = hitA (t.take (i + 1)) key k) := HX.out.symm
                go_wp2_with fail
                go_roundg (tl - (i + 1))
                case measure => omega
                case rel => exact ⟨i + 1, by rw [HX2.out], rfl, by omega, by omega, rfl⟩
          · obtain rfl : i = tl := by omega
            have hi2 : ¬ (i : Int) < (i : Int) := by omega
            have ET : t.take i = t := List.take_of_length_le (by rw [← HTL.out]; omega)
            rw [ET]
            cases hh : hitA t key k with
            | true =>
              have E : Hid (∀ j, j < k + 1 → hitA t key j = true) := fun j hj => by
                rcases Nat.lt_or_eq_of_le (Nat.le_of_lt_succ hj) with h | h
                · exact I1.out j h
                · rw [h]; exact hh
              clear hh
              go_wp2_with fail
              go_roundg (3 - (k + 1))
              case measure => omega
              case rel => exact ⟨k + 1, rfl, by omega, by omega, rfl, E.out⟩
            | false =>
              have E := hide (mayR_no hlt hh)
              clear hh
              go_wp2_with fail
              go_ret
              exact ⟨by rw [E.out]; rfl, HQ.out⟩
      · obtain rfl : k = 3 := by omega
        have hlt2 : ¬ ((3 : Nat) : Int) < 3 := by omega
        have E := hide (mayR_all I1.out)
        go_wp2_with fail
        go_ret
        exact ⟨by rw [E.out]; rfl, HQ.out⟩)
end Go.Proofs.YtbccnfbombgdmaaGreat

/- A drawn region in which some operations turn the world, one behind the other, and yield what is known only then. -/
set_option linter.unusedVariables false
set_option linter.unusedSimpArgs false
namespace Go.Proofs.YtbccnfbombgdmaaGreat
open Go.RowKit
variable {P : Program} {ops : Array Oper} {Q : Exit → Act → World → Prop}

def zpos : List Nat → Nat → Option Nat
  | [], _ => none
  | z :: r, j => if z = j then some 0 else (zpos r j).map (· + 1)
theorem zpos_get : ∀ {zs : List Nat} {j m : Nat}, zpos zs j = some m → zs[m]? = some j
  | [], _, _, h => by cases h
  | z :: r, j, m, h => by
    unfold zpos at h
    split at h
    · rename_i e
      cases h
      simp [e]
    · obtain ⟨m', hm, rfl⟩ := Option.map_eq_some_iff.1 h
      simpa using zpos_get hm
theorem zpos_of : ∀ {zs : List Nat} {j m : Nat}, zs.Nodup → zs[m]? = some j → zpos zs j = some m
  | [], _, _, _, h => by simp at h
  | z :: r, j, 0, _, h => by
    simp only [List.getElem?_cons_zero, Option.some.injEq] at h
    simp [zpos, h]
  | z :: r, j, m + 1, hn, h => by
    rw [List.getElem?_cons_succ] at h
    have hj : j ∈ r := List.mem_of_getElem? h
    rw [List.nodup_cons] at hn
    have hne : z ≠ j := fun e => hn.1 (e ▸ hj)
    simp [zpos, hne, zpos_of hn.2 h]
/-- What an operation has yielded: one of the turning ones by their row, any other what is known ahead. -/
def linV (vals : Nat → Value) (zs : List Nat) (us : List Value) (j : Nat) : Value := match zpos zs j with
  | some m => us.getD m undef
  | none => vals j
/-- The turning ones hang on one another. -/
def linOk (ops : Array Oper) (zs : List Nat) : Bool := (List.range zs.length).all fun m => decide (m = 0) || edgeOf ops (zs.getD m 0) (zs.getD (m - 1) 0)
theorem lexF_same {V V' : Nat → Value} : ∀ (l : List Oper) (k : Nat) (a : Act), (∀ j, k ≤ j → j < k + l.length → V j = V' j) → lexF V k l a = lexF V' k l a
  | [], _, _, _ => rfl
  | o :: r, k, a, h => by
    simp only [lexF]
    rw [h k (Nat.le_refl _) (by simp), lexF_same r (k + 1) _ (fun j h1 h2 => h j (by omega) (by simp at h2 ⊢; omega))]

theorem wp_region_lin {id : Nat} {a0 : Act} {w : World} (hm : P.follows .mixedOrders = true) (hp : plainRegion ops = true) (vals : Nat → Value) (zs : List Nat) (hz : linOk ops zs = true) (hzn : zs.Nodup)
    (hzs : ∀ z ∈ zs, z < ops.size) (C : List Value → World → Prop) (hC0 : C [] { w with drawn := w.drawn + 1 })
    (hops : ∀ i o, ops[i]? = some o → ∀ (us : List Value) (w' : World) (ev : Operand → Value), C us w' → us.length ≤ zs.length →
      (∀ m j, zs[m]? = some j → edgeOf ops i j = true → m < us.length) → (∀ m j, zs[m]? = some j → edgeOf ops j i = true → us.length ≤ m) →
      (∀ t j e, ownOf ops t = some j → e ∈ o.after.toList → Region.binds .any e = true → e.on = j → t < a0.tmps.size → ev (.tmp t) = linV vals zs us j) →
      (∀ t, ownOf ops t = none → t < a0.tmps.size → ev (.tmp t) = a0.eval (.tmp t)) → (∀ t j, ownOf ops t = some j → edgeOf ops j i = true → t < a0.tmps.size → ev (.tmp t) = a0.eval (.tmp t)) → (∀ v, ev (.const v) = v) → (∀ f, ev (.func f) = .func (.func f) #[] #[]) →
      (∀ m, zpos zs i = some m → us.length = m → OpRunsX P ev o w' fun v w'' => C (us ++ [v]) w'') ∧ (zpos zs i = none → (execOp ev o).run P w' = .ok (.value (vals i)) w'))
    (hend : ∀ us w', us.length = zs.length → C us w' → Q .normal (lexF (linV vals zs us) 0 ops.toList a0) w') : (Code.region id ops true).wp P Q a0 w := by
  have gall : ∀ (n j : Nat), (Array.replicate n false).getD j false = false := fun n j => by
    simp only [Array.getD_eq_getD_getElem?, Array.getElem?_replicate]; split <;> rfl
  refine wp_region_ex hm hp (fun listed V w' => ∃ us, us.length ≤ zs.length ∧ C us w' ∧ (∀ j, listed.getD j false = true → V j = linV vals zs us j) ∧ (∀ m j, zs[m]? = some j → (listed.getD j false = true ↔ m < us.length)) ∧ (∀ j k, edgeOf ops j k = true → listed.getD j false = true → listed.getD k false = true)) ?_ ?_ ?_
  · refine ⟨[], by simp, hC0, fun j hj => ?_, fun m j _ => ?_, fun j k _ hj => ?_⟩
    · rw [gall] at hj; cases hj
    · rw [gall]; simp
    · rw [gall] at hj; cases hj
  · intro i o hi listed V w' ev hs hJ hfr hdir hin hout hold hcst hfn
    obtain ⟨us, hul, hC, hV, hL, hcl⟩ := hJ
    have his : i < listed.size := by rw [hs]; exact (Array.getElem?_eq_some_iff.1 hi).1
    have H := hops i o hi us w' ev hC hul
      (fun m j hj he => (hL m j hj).1 (hdir j he))
      (fun m j hj he => Nat.le_of_not_lt (fun hlt => by have := hcl j i he ((hL m j hj).2 hlt); rw [hfr] at this; cases this))
      (fun t j e h1 h2 h3 h4 h5 => by
        have hj : listed.getD j false = true := hdir j (by
          unfold edgeOf
          rw [hi]
          obtain ⟨q, hq, hqe⟩ := List.getElem_of_mem h2
          exact Array.any_eq_true.2 ⟨q, by simpa using hq, by
            have : o.after[q]'(by simpa using hq) = e := by simpa using hqe
            rw [this, h4, h3]; simp⟩)
        rw [hin t j e h1 h2 h3 h4 h5, hV j hj])
      hout
      (fun t j h1 h2 h3 => hold t j h1 (by
        cases hj : listed.getD j false with
        | false => rfl
        | true => have := hcl j i h2 hj; rw [hfr] at this; cases this) h3) hcst hfn
    cases hzi : zpos zs i with
    | some m =>
      have hgm := zpos_get hzi
      have hmz := (List.getElem?_eq_some_iff.1 hgm).1
      have hle : us.length ≤ m := Nat.le_of_not_lt (fun hlt => by have := (hL m i hgm).2 hlt; rw [hfr] at this; cases this)
      have hum : us.length = m := by
        rcases Nat.lt_or_ge us.length m with hlt | hge
        · exfalso
          have h1 := List.all_eq_true.1 hz m (by simpa using hmz)
          have h0 : m ≠ 0 := by omega
          simp only [h0, decide_false, Bool.false_or] at h1
          have h2 : zs.getD m 0 = i := by rw [List.getD_eq_getElem?_getD, hgm]; rfl
          have h3 : zs[m - 1]? = some (zs.getD (m - 1) 0) := by rw [List.getD_eq_getElem?_getD, List.getElem?_eq_getElem (by omega)]; rfl
          rw [h2] at h1
          have := (hL (m - 1) _ h3).1 (hdir _ h1)
          omega
        · omega
      have R := H.1 m hzi hum
      have key : ∀ v w'', C (us ++ [v]) w'' → ∃ us', us'.length ≤ zs.length ∧ C us' w'' ∧ (∀ j, (listed.setIfInBounds i true).getD j false = true → setV V i v j = linV vals zs us' j) ∧ (∀ m j, zs[m]? = some j → ((listed.setIfInBounds i true).getD j false = true ↔ m < us'.length)) ∧ (∀ j k, edgeOf ops j k = true → (listed.setIfInBounds i true).getD j false = true → (listed.setIfInBounds i true).getD k false = true) := fun v w'' hc => by
        refine ⟨us ++ [v], by simp; omega, hc, fun j hj => ?_, fun m' j hj => ?_, fun j k he hj => ?_⟩
        · rw [getD_set listed i j his] at hj
          by_cases hji : j = i
          · subst hji
            rw [setV_same]
            unfold linV
            rw [hzi]
            simp [List.getD_eq_getElem?_getD, ← hum]
          · rw [if_neg hji] at hj
            rw [setV_other _ _ _ _ hji, hV j hj]
            unfold linV
            cases hzj : zpos zs j with
            | none => rfl
            | some m2 =>
              have := (hL m2 j (zpos_get hzj)).1 hj
              simp only [List.getD_eq_getElem?_getD]
              rw [List.getElem?_append_left this]
        · rw [getD_set listed i j his]
          by_cases hji : j = i
          · subst hji
            have := zpos_of hzn hj
            rw [hzi] at this
            simp only [Option.some.injEq] at this
            simp; omega
          · rw [if_neg hji, hL m' j hj]
            have : m' ≠ m := fun e => hji (by rw [e, hgm] at hj; exact (Option.some.inj hj).symm)
            simp; omega
        · rw [getD_set listed i j his] at hj
          rw [getD_set listed i k his]
          by_cases hki : k = i
          · rw [if_pos hki]
          · rw [if_neg hki]
            by_cases hji : j = i
            · subst hji; exact hdir k he
            · rw [if_neg hji] at hj; exact hcl j k he hj
      rcases R with ⟨v, w2, hr, hc⟩ | ⟨f, args, hr, hcalls⟩
      · exact .inl ⟨v, w2, hr, key v w2 hc⟩
      · exact .inr ⟨f, args, hr, hcalls.mono (by rintro e w2 ⟨v, rfl, hc⟩; exact ⟨v, rfl, key v w2 hc⟩)⟩
    | none =>
      refine .inl ⟨vals i, w', H.2 hzi, us, hul, hC, fun j hj => ?_, fun m' j hj => ?_, fun j k he hj => ?_⟩
      · rw [getD_set listed i j his] at hj
        by_cases hji : j = i
        · subst hji
          rw [setV_same]; unfold linV; rw [hzi]
        · rw [if_neg hji] at hj
          rw [setV_other _ _ _ _ hji, hV j hj]
      · rw [getD_set listed i j his]
        by_cases hji : j = i
        · subst hji
          have := zpos_of hzn hj
          rw [hzi] at this; cases this
        · rw [if_neg hji, hL m' j hj]
      · rw [getD_set listed i j his] at hj
        rw [getD_set listed i k his]
        by_cases hki : k = i
        · rw [if_pos hki]
        · rw [if_neg hki]
          by_cases hji : j = i
          · subst hji; exact hdir k he
          · rw [if_neg hji] at hj; exact hcl j k he hj
  · rintro V w' ⟨us, hul, hC, hV, hL, hcl⟩
    have gt : ∀ j, j < ops.size → (Array.replicate ops.size true).getD j false = true := fun j hj => by simp [Array.getD_eq_getD_getElem?, Array.getElem?_replicate, hj]
    have hlen : us.length = zs.length := by
      rcases Nat.lt_or_ge us.length zs.length with hlt | hge
      · exfalso
        have h1 : zs[us.length]? = some (zs[us.length]'hlt) := List.getElem?_eq_getElem hlt
        have := (hL _ _ h1).1 (gt _ (hzs _ (List.getElem_mem hlt)))
        omega
      · omega
    rw [lexF_same (V := V) (V' := linV vals zs us) ops.toList 0 a0 (fun j _ hj => hV j (gt j (by simpa using hj)))]
    exact hend us w' hlen hC
end Go.Proofs.YtbccnfbombgdmaaGreat
