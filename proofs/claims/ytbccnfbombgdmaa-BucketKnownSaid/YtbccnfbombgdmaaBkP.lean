/- Joined texts: Bk1, Bk2, Bk3. -/
import Derived.Test.YtbccnfbombgdmaaDelA
import Derived.Test.YtbccnfbombgdmaaPage
import Derived.Test.YtbccnfbombgdmaaBAll
import Derived.Test.YtbccnfbombgdmaaAny
import Derived.Test.YtbccnfbombgdmaaAnyB
/- Rows of items that are owned; 'without', 'over', slices.Clone. -/
set_option linter.unusedVariables false
set_option linter.unusedSimpArgs false
set_option maxRecDepth 8000
namespace Go.Proofs.Ytbccnfbombgdmaa
open Go.RowKit Go.Deep Math

/-- Items that stay within bounds. -/
def Oks (xs : List It) : Prop := ∀ x ∈ xs, x.fits ∧ x.key.length ≤ 140737488351232 ∧ x.value.length ≤ 140737488351232
/-- A row of items, at or above base. -/
def Row (w : World) (base : Nat) (v : Value) (xs : List It) : Prop := w.ownsRow base 36 5 v xs.length (itsCells xs)
theorem Row.nil (w : World) (base : Nat) : Row w base (.slice none 0 0) [] := World.ownsRow_nil _ _ _ _
theorem Row.form {w : World} {base : Nat} {v : Value} {xs : List It} (h : Row w base v xs) : (v = .slice none 0 0 ∧ xs = []) ∨ ∃ g cap pad, v = .slice (some ⟨g, 0, none⟩) xs.length cap ∧ base ≤ g ∧ Blk w g (itsCells xs ++ pad) 36 ∧ xs.length ≤ cap ∧ cap ≤ maxLen ∧ (itsCells xs ++ pad).length = cap * 5 := by
  rcases h.2 with ⟨hv, h0⟩ | ⟨g, cap, cur, hv, hb, hh, hc, hm, hs, ht⟩
  · exact .inl ⟨hv, List.eq_nil_of_length_eq_zero h0⟩
  · have e : itsCells xs ++ cur.toList.drop (xs.length * 5) = cur.toList := by rw [← ht, List.take_append_drop]
    refine .inr ⟨g, cap, cur.toList.drop (xs.length * 5), hv, hb, ?_, hc, hm, by rw [e]; simpa using hs⟩
    unfold Blk
    rw [e]
    simpa using hh
theorem Row.of {w : World} {base g cap : Nat} {xs : List It} {pad : List Value} (hb : base ≤ g) (h : Blk w g (itsCells xs ++ pad) 36) (hc : xs.length ≤ cap) (hm : cap ≤ maxLen) (hl : (itsCells xs ++ pad).length = cap * 5) : Row w base (.slice (some ⟨g, 0, none⟩) xs.length cap) xs := by
  refine ⟨itsCells_length xs, .inr ⟨g, cap, (itsCells xs ++ pad).toArray, rfl, hb, h, hc, hm, by simpa using hl, ?_⟩⟩
  rw [List.toList_toArray, ← itsCells_length xs]
  simp
theorem Row.its {w : World} {base : Nat} {v : Value} {xs : List It} (h : Row w base v xs) (ho : Oks xs) : ∃ a cap, v = .slice a xs.length cap ∧ ItsAt w a xs.length xs ∧ (∀ q, v.ownBlock = some q → a = some ⟨q, 0, none⟩) ∧ xs.length ≤ cap ∧ cap ≤ maxLen := by
  rcases h.form with ⟨rfl, rfl⟩ | ⟨g, cap, pad, rfl, hb, hh, hc, hm, hl⟩
  · exact ⟨none, 0, rfl, ⟨rfl, ho, fun i x hx => by simp at hx⟩, fun q hq => by simp [Value.ownBlock] at hq, by simp, by simp⟩
  · exact ⟨_, cap, rfl, its_blk hh rfl ho, fun q hq => by simp [Value.ownBlock] at hq; rw [hq], hc, hm⟩
theorem Row.keep {w w' : World} {base : Nat} {v : Value} {xs : List It} (h : Row w base v xs) (k : ∀ q, v.ownBlock = some q → w'.heap[q]? = w.heap[q]?) : Row w' base v xs := by
  refine ⟨h.1, ?_⟩
  rcases h.2 with h2 | ⟨g, cap, cur, hv, hg, hh, r⟩
  · exact .inl h2
  · exact .inr ⟨g, cap, cur, hv, hg, by rw [k g (by rw [hv]; rfl)]; exact hh, r⟩
theorem Row.lt {w : World} {base : Nat} {v : Value} {xs : List It} (h : Row w base v xs) : ∀ q, v.ownBlock = some q → base ≤ q ∧ q < w.heap.size := by
  intro q hq
  rcases h.form with ⟨rfl, rfl⟩ | ⟨g, cap, pad, rfl, hb, hh, hc, hm, hl⟩
  · simp [Value.ownBlock] at hq
  · simp [Value.ownBlock] at hq; subst hq; exact ⟨hb, hh.lt⟩
theorem Row.below {w w' : World} {base : Nat} {v : Value} {xs : List It} (h : Row w base v xs) (b : Below w.heap.size w w') : Row w' base v xs := h.keep (fun q hq => b.block q (h.lt q hq).2)
theorem Row.mono {w : World} {base base' : Nat} {v : Value} {xs : List It} (h : Row w base v xs) (hb : base' ≤ base) : Row w base' v xs := by
  refine ⟨h.1, ?_⟩
  rcases h.2 with h2 | ⟨g, cap, cur, hv, hg, r⟩
  · exact .inl h2
  · exact .inr ⟨g, cap, cur, hv, Nat.le_trans hb hg, r⟩
theorem itsCells_append (xs ys : List It) : itsCells xs ++ itsCells ys = itsCells (xs ++ ys) := by simp [itsCells]
theorem its_one (xs : List It) : ∀ u ∈ itsCells xs, u.oneCell' = true := by
  intro u hu
  simp only [itsCells, List.mem_flatMap] at hu
  obtain ⟨x, _, hu⟩ := hu
  simp only [itCells, List.mem_cons, List.not_mem_nil, or_false] at hu
  rcases hu with rfl | rfl | rfl | rfl | rfl <;> rfl
theorem its_news {W : World} {b o len : Nat} {xs : List It} (h : ItsAt W (some ⟨b, o, none⟩) len xs) : ∀ (t : Nat) (u : Value), (itsCells xs)[t]? = some u → W.cell? ((⟨b, o, none⟩ : Addr).add t) = some u := by
  intro t u hu
  have ht : t < xs.length * 5 := by rw [← itsCells_length]; exact (List.getElem?_eq_some_iff.1 hu).1
  have hi : t / 5 < xs.length := by omega
  obtain ⟨x, hx⟩ : ∃ x, xs[t / 5]? = some x := ⟨_, List.getElem?_eq_getElem hi⟩
  obtain ⟨_, _, he, _, hc⟩ := h.cell (t / 5) x hx
  cases he
  obtain ⟨A, B, e, hA⟩ : ∃ A B, xs = A ++ x :: B ∧ A.length = t / 5 := by
    obtain ⟨hi, he⟩ := List.getElem?_eq_some_iff.1 hx
    refine ⟨xs.take (t / 5), xs.drop (t / 5 + 1), ?_, by simp; omega⟩
    rw [← he, ← List.drop_eq_getElem_cons hi, List.take_append_drop]
  have h5 : t % 5 < 5 := Nat.mod_lt _ (by decide)
  have et : t = A.length * 5 + t % 5 := by rw [hA]; omega
  have hv : (itCells x)[t % 5]? = some u := by
    rw [← hu, e, et]
    have := flat_get itCells 5 (fun _ => rfl) A x B (t % 5) h5
    rw [show (A.length * 5 + t % 5) % 5 = t % 5 by omega]
    exact this.symm
  rw [Addr.add_lit, show o + t = o + t / 5 * 5 + t % 5 by omega]
  generalize t % 5 = k at hv h5
  match k, h5 with
  | 0, _ => simp [itCells] at hv; rw [← hv]; exact hc.c0
  | 1, _ => simp [itCells] at hv; rw [← hv]; exact hc.c1
  | 2, _ => simp [itCells] at hv; rw [← hv]; exact hc.c2
  | 3, _ => simp [itCells] at hv; rw [← hv]; exact hc.c3
  | 4, _ => simp [itCells] at hv; rw [← hv]; exact hc.c4
/-- 'append' of items to an owned row. -/
theorem run_app {w : World} {base : Nat} {v : Value} {xs : List It} (h : Row w base v xs) {b o c : Nat} {ys : List It} (hy : ItsAt w (some ⟨b, o, none⟩) ys.length ys) (hn : xs.length + ys.length ≤ 1048576) (hb : base ≤ w.heap.size) :
    ∃ v' w', (∀ ty, (Builtin.append_ #[30, 30] ty #[v, .slice (some ⟨b, o, none⟩) ys.length c]).run Try.prog w = .ok v' w') ∧ Row w' base v' (xs ++ ys) ∧ w.grownBy w' v.ownBlock ∧ (v' = .slice none 0 0 ↔ v = .slice none 0 0 ∧ ys.length = 0) := by
  obtain ⟨i0, hi0, hp0⟩ := Option.map_eq_some_iff.1 info30
  simp only [Prod.mk.injEq] at hp0
  obtain ⟨hz0, hz1, hz2⟩ := hp0
  obtain ⟨v', w', h1, h2, h3, h4⟩ := run_append_own (P := Try.prog) w base 30 0 36 i0 _ 5 56 Try.underlying30 hi0 hz0 hz1 hz2 rfl (by decide) v xs.length (itsCells xs) h ⟨b, o, none⟩ ys.length c (itsCells ys) (itsCells_length ys) (its_news hy) (its_one ys) (by unfold maxLen; omega) (by omega) hb
  refine ⟨v', w', fun ty => h1, ?_, h3, h4⟩
  unfold Row
  rw [← itsCells_append, List.length_append]
  exact h2

set_option maxHeartbeats 1000000 in
theorem delf_nil (key : List UInt8) (B : Nat) (w : World) (hB : w.cell? ⟨B, 0, none⟩ = some (.string (txt key))) :
    Calls Try.prog 48 #[.slice none 0 0, .func (.func 49) #[] #[.pointer (some ⟨B, 0, none⟩)]] w fun e w' => e = .returned (.slice none 0 0) ∧ Below w.heap.size w w' := by
  have cI := hide (idx_any none 0 0 [] key B (by omega) w ⟨rfl, fun x hx => by simp at hx, fun i x hx => by simp at hx⟩ hB)
  clear hB
  go_enter Try.func48, Try.ntmps48
  go_wp2_with fail
  refine cI.out.mono ?_
  rintro e w1 ⟨⟨k, rfl, hk⟩, b1⟩
  have hk1 : k = -1 := by
    rcases hk with ⟨h, _⟩ | ⟨i, x, _, h, _⟩
    · exact h
    · simp at h
  subst hk1
  have B1 := hide b1
  clear b1 cI hk
  go_wp2
  go_ret
  exact ⟨rfl, B1.out⟩

theorem Oks.sub {xs ys : List It} (h : Oks xs) (hs : ∀ y ∈ ys, y ∈ xs) : Oks ys := fun y hy => h y (hs y hy)
set_option maxHeartbeats 1000000 in
theorem wo_any (base : Nat) (v : Value) (xs : List It) (key : List UInt8) (w : World) (h : Row w base v xs) (ho : Oks xs) (hn : xs.length ≤ 1048576) :
    Calls Try.prog 34 #[v, .string (txt key)] w fun e w' => ∃ v', e = .returned v' ∧ Row w' base v' (xs.filter (notKey key)) ∧ Keep v.ownBlock.toList w w' ∧ v'.ownBlock = v.ownBlock := by
  have hbx : (w.alloc (.cells #[.string (txt key)] 9)).cell? ⟨w.heap.size, 0, none⟩ = some (.string (txt key)) := (Blk.new w [.string (txt key)] 9).cell rfl
  rcases h.form with ⟨rfl, rfl⟩ | ⟨g, cap, pad, rfl, hb, hh, hc, hm, hl⟩
  · have cD := hide (delf_nil key w.heap.size _ hbx)
    clear h ho hbx
    go_enter Try.func34, Try.ntmps34
    go_wp2_with fail
    refine cD.out.mono ?_
    rintro e w1 ⟨rfl, b1⟩
    have B1 := hide b1
    clear b1 cD
    go_wp2
    go_ret
    exact ⟨.slice none 0 0, rfl, Row.nil _ _, Keep.trans ((Keep.refl _ w).alloc _) (Keep.of_below (F := []) B1.out) (by simp), rfl⟩
  · obtain ⟨n, hn0⟩ : ∃ n, n = xs.length := ⟨_, rfl⟩
    have hgl := hh.lt
    have cD := hide (delf_any g n cap xs pad key w.heap.size hn0 (by omega) (w.alloc (.cells #[.string (txt key)] 9)) ho (hh.alloc _) (by omega) (by omega) (by unfold maxLen at hm; omega) hbx)
    have HH := hide (And.intro hb (And.intro hm hl))
    have HC := hide (show n ≤ cap by omega)
    rw [← hn0]
    have HN := hide hn0
    clear h ho hbx hh hc hm hl hb hn0 hn
    go_enter Try.func34, Try.ntmps34
    go_wp2_with fail
    refine cD.out.mono ?_
    rintro e w1 ⟨pad', rfl, hb', hl', hk⟩
    have T := hide (And.intro hb' (And.intro hl' hk))
    clear hb' hl' hk cD
    go_wp2
    go_ret
    refine ⟨_, rfl, Row.of HH.out.1 T.out.1 (by have := List.length_filter_le (notKey key) xs; have := HN.out; have := HC.out; omega) HH.out.2.1 (T.out.2.1.trans HH.out.2.2), ?_, rfl⟩
    exact ((Keep.refl _ w).alloc _).trans T.out.2.2 (by simp [Value.ownBlock])

/-- How many of the first ones must go. -/
def ovr : List It → Nat
  | [] => 0
  | x :: r => if 384 < total (x :: r) then ovr r + 1 else 0
theorem ovr_le : ∀ xs, ovr xs ≤ xs.length
  | [] => Nat.le_refl _
  | x :: r => by
    unfold ovr
    split
    · have := ovr_le r; simp; omega
    · omega
theorem ovr_fit : ∀ xs : List It, total (xs.drop (ovr xs)) ≤ 384
  | [] => by simp [total]
  | x :: r => by
    unfold ovr
    split
    · exact ovr_fit r
    · simp only [List.drop_zero]; omega
theorem ovr_go (xs : List It) (k : Nat) (h : 384 < total (xs.drop k)) : ∃ x, xs[k]? = some x ∧ xs.drop k = x :: xs.drop (k + 1) ∧ ovr (xs.drop k) = ovr (xs.drop (k + 1)) + 1 ∧ total (xs.drop k) = x.size + total (xs.drop (k + 1)) := by
  cases hd : xs.drop k with
  | nil => rw [hd] at h; simp [total] at h
  | cons x r =>
    have hk : k < xs.length := by
      rcases Nat.lt_or_ge k xs.length with h1 | h1
      · exact h1
      · rw [List.drop_eq_nil_of_le h1] at hd; cases hd
    have e := List.drop_eq_getElem_cons hk
    rw [hd] at e
    injection e with e1 e2
    subst e2
    refine ⟨x, by rw [List.getElem?_eq_getElem hk, e1], rfl, ?_, rfl⟩
    rw [hd] at h
    rw [ovr, if_pos h]
theorem size_one (x : It) : (txt x.key).size = x.key.length ∧ (txt x.value).size = x.value.length := ⟨txt_size _, txt_size _⟩
theorem size_it (x : It) (hk : x.key.length ≤ 140737488351232) (hv : x.value.length ≤ 140737488351232) (w : World) : Calls Try.prog 31 #[.agg #[.string (txt x.key), .string (txt x.value), .int .u32 x.flags, .int .i64 x.exp, .int .u64 x.ver]] w fun r w' => r = .returned (.int .i64 (x.size : Nat)) ∧ Below w.heap.size w w' := by
  have := size_any (txt x.key) (txt x.value) x.flags x.exp x.ver (by rw [txt_size]; exact hk) (by rw [txt_size]; exact hv) w
  rw [txt_size, txt_size] at this
  exact this

set_option maxHeartbeats 2000000 in
theorem over_any (a : Option Addr) (n cap : Nat) (xs : List It) (hn63 : n ≤ 1048576) (ht : total xs ≤ 1000000) (w : World) (h : ItsAt w a n xs) :
    Calls Try.prog 35 #[.slice a n cap] w fun e w' => e = .returned (.int .i64 (ovr xs : Nat)) ∧ Below w.heap.size w w' := by
  have H := hide h
  have HT := hide ht
  have cS : Hid (∀ x ∈ xs, ∀ W, Calls Try.prog 31 #[.agg #[.string (txt x.key), .string (txt x.value), .int .u32 x.flags, .int .i64 x.exp, .int .u64 x.ver]] W fun r w' => r = .returned (.int .i64 (x.size : Nat)) ∧ Below W.heap.size W w') := fun x hx W => size_it x (h.fits x hx).2.1 (h.fits x hx).2.2 W
  clear h ht
  go_enter Try.func35, Try.ntmps35
  go_wp2_with fail
  go_loopg [3, 9] n (fun kx s3 s9 wr => ∃ i m : Nat, s3 = .int .i64 m ∧ s9 = .int .i64 i ∧ i ≤ n ∧ n - i ≤ kx ∧ m ≤ 1000000 ∧ Hid (m = total (xs.take i) ∧ Below w.heap.size w wr))
  case atStart => exact ⟨0, 0, rfl, rfl, Nat.zero_le _, by omega, by omega, by simp [total], Below.refl _ _⟩
  case round =>
    obtain ⟨i, m, rfl, rfl, hin, hg, hm, I⟩ := hrel
    by_cases hlt : i < n
    · have hlt2 : (i : Int) < (n : Int) := by omega
      obtain ⟨x, hx⟩ : ∃ x, xs[i]? = some x := ⟨_, List.getElem?_eq_getElem (by rw [← H.out.len]; exact hlt)⟩
      obtain ⟨b, o, rfl, hb, hc⟩ := H.out.cell i x hx
      obtain ⟨c0, c1, c2, c3, c4⟩ := (hc.below I.out.2 hb).vals
      have hbw : b < wr.heap.size := Nat.lt_of_lt_of_le hb I.out.2.size
      have cs := hide (cS.out x (List.mem_of_getElem? hx))
      have TT := hide (total_take_succ xs i x hx)
      have hsz : m + x.size ≤ 1000000 := by have h1 := TT.out; have h2 := I.out.1; have h3 := total_take_le xs (i + 1); have := HT.out; omega
      generalize x.size = sz at cs TT hsz
      clear hc hx
      go_wp2_with fail
      refine (cs.out _).mono ?_
      rintro r w1 ⟨rfl, b1⟩
      have B1 := hide ((I.out.2.alloc I.out.2.size (.cells #[.string (txt x.key), .string (txt x.value), .int .u32 x.flags, .int .i64 x.exp, .int .u64 x.ver] 36)).trans (b1.mono (by rw [nblk_alloc]; have := I.out.2.size; omega)))
      clear b1
      go_wp2
      go_roundg (n - (i + 1))
      case measure => omega
      case rel => exact ⟨i + 1, m + sz, by go_num, rfl, by omega, by omega, hsz, by rw [TT.out, I.out.1], B1.out⟩
    · obtain rfl : i = n := by omega
      have hlt2 : ¬ (i : Int) < (i : Int) := by omega
      have T0 : Hid (m = total xs) := by
        show _ = _
        have := I.out.1
        rw [H.out.len, List.take_length] at this
        exact this
      go_wp2_with fail
      go_loopg [3, 6] i (fun kx s3 s6 wv => ∃ k m : Nat, s3 = .int .i64 m ∧ s6 = .int .i64 k ∧ k ≤ i ∧ i - k ≤ kx ∧ m ≤ 1000000 ∧ Hid (m = total (xs.drop k) ∧ ovr xs = k + ovr (xs.drop k) ∧ Below w.heap.size w wv))
      case atStart => exact ⟨0, m, rfl, rfl, Nat.zero_le _, by omega, hm, by simpa using T0.out, by simp, I.out.2⟩
      case round =>
        obtain ⟨k, m', rfl, rfl, hki, hgk, hm', J⟩ := hrel
        by_cases hov : 384 < m'
        · have hov2 : (384 : Int) < (m' : Int) := by omega
          obtain ⟨x, hx, hd, ho, htt⟩ := ovr_go xs k (by rw [← J.out.1]; exact hov)
          obtain ⟨b, o, rfl, hb, hc⟩ := H.out.cell k x hx
          obtain ⟨c0, c1, c2, c3, c4⟩ := (hc.below J.out.2.2 hb).vals
          have hbw : b < wr.heap.size := Nat.lt_of_lt_of_le hb J.out.2.2.size
          have cs := hide (cS.out x (List.mem_of_getElem? hx))
          have hkn : k < i := by rw [H.out.len]; exact (List.getElem?_eq_some_iff.1 hx).1
          have hkn2 : (k : Int) < (i : Int) := by omega
          have TT : Hid (ovr (xs.drop k) = ovr (xs.drop (k + 1)) + 1) := ho
          have hms : m' = x.size + total (xs.drop (k + 1)) := by rw [← htt]; exact J.out.1
          obtain ⟨r, hr⟩ : ∃ r, r = total (xs.drop (k + 1)) := ⟨_, rfl⟩
          rw [← hr] at hms
          have HR := hide hr
          generalize x.size = sz at cs hms
          have hsub : (m' : Int) - (sz : Int) = (r : Int) := by omega
          have hr6 : r ≤ 1000000 := by omega
          clear hc hx hd ho htt hr hms
          go_wp2_with fail
          refine (cs.out _).mono ?_
          rintro e w1 ⟨rfl, b1⟩
          have B1 := hide (J.out.2.2.trans (b1.mono J.out.2.2.size))
          clear b1
          go_wp2
          go_roundg (i - (k + 1))
          case measure => omega
          case rel => exact ⟨k + 1, r, by first | rfl | go_num, by go_num, by omega, by omega, hr6, HR.out, by have h1 := J.out.2.1; have h2 := TT.out; omega, B1.out⟩
        · have hov2 : ¬ (384 : Int) < (m' : Int) := by omega
          have E : Hid (ovr xs = k) := by
            show _ = _
            have h1 := J.out.2.1
            have h2 : ovr (xs.drop k) = 0 := by
              cases hd : xs.drop k with
              | nil => rfl
              | cons x r => rw [ovr, if_neg (by rw [← hd, ← J.out.1]; exact hov)]
            omega
          go_wp2
          go_ret
          exact ⟨by rw [E.out]; rfl, J.out.2.2⟩

set_option maxHeartbeats 1000000 in
/-- slices.Clone of a slice that is there. -/
theorem clone_any (b o n cap : Nat) (xs : List It) (hn : n = xs.length) (hn63 : n ≤ 1048576) (w : World) (h : ItsAt w (some ⟨b, o, none⟩) n xs) :
    Calls Try.prog 38 #[.slice (some ⟨b, o, none⟩) n cap] w fun e w' => ∃ v, e = .returned v ∧ Row w' w.heap.size v xs ∧ Below w.heap.size w w' := by
  have hq : ∀ W : World, (binOp .eql 30 (.slice (some ⟨b, o, none⟩) n cap) (.slice none 0 0)).run Try.prog W = .ok (.bool false) W := fun W => Lib.run_eql_slice_nil W 30 36 _ n cap 0 0 Try.underlying30
  have hR : Row (w.alloc (.cells #[] 36)) w.heap.size (.slice (some ⟨w.heap.size, 0, none⟩) 0 0) [] := Row.of (pad := []) (Nat.le_refl _) (Blk.new w [] 36) (Nat.le_refl _) (Nat.zero_le _) rfl
  have hI : ItsAt (w.alloc (.cells #[] 36)) (some ⟨b, o, none⟩) xs.length xs := by
    have := h.below ((Below.refl _ w).alloc (Nat.le_refl _) (.cells #[] 36))
    rw [hn] at this
    exact this
  obtain ⟨v', w', h1, h2, h3, h4⟩ := run_app (c := cap) hR hI (by simp; omega) (by simp)
  rw [← hn] at h1
  have T := hide (And.intro h2 h3)
  have HA := hide (h1 30)
  clear h hn hR hI h1 h2 h3 h4
  go_enter Try.func38, Try.ntmps38
  go_wp2_with (at_builtin; refine Lib.wpList_append_run _ rfl _ _ _ _ rfl _ _ rfl rfl _ _ HA.out ?_)
  go_ret
  refine ⟨v', rfl, by simpa using T.out.1, ?_⟩
  have k := T.out.2
  refine ⟨k.os, k.tape, k.output, ?_, fun q hq => ?_⟩
  · have := k.size; simp at this; omega
  · rw [k.block q (by simp; omega) (by simp [Value.ownBlock]; omega)]
    exact Below.heap_alloc w _ q hq
end Go.Proofs.Ytbccnfbombgdmaa

/- A store of small items as it lies; 'list', 'bucket', 'write'. -/
set_option linter.unusedVariables false
set_option linter.unusedSimpArgs false
set_option maxRecDepth 8000
namespace Go.Proofs.Ytbccnfbombgdmaa
open Go.RowKit Go.Deep Math

/-- A filter: its box, its bits' block, its bits. -/
structure FB where
  f : Nat
  s : Nat
  l : List Bool
/-- Where a store's filters lie. -/
structure SM where
  a : Option Addr
  cap : Nat
  fs : List FB
def SM.foot (M : SM) (s : Nat) : List Nat := s :: ((M.a.map (·.block)).toList ++ M.fs.flatMap (fun x => [x.f, x.s]))
def SM.ptrs (M : SM) : List Value := M.fs.map fun x => .pointer (some ⟨x.f, 0, none⟩)
structure StIn (W : World) (s d : Nat) (L : Int) (first : Nat) (M : SM) : Prop where
  box : Blk W s [.pointer (some ⟨d, 0, none⟩), .int .i64 L, .int .i64 (first : Int), .slice M.a M.fs.length M.cap] 66
  row : W.ownsRow 0 67 1 (.slice M.a M.fs.length M.cap) M.fs.length M.ptrs
  flt : ∀ x ∈ M.fs, Bl.FltIn W x.f x.s x.l 3 ∧ x.l.length = 256
  nd : (M.fs.map (·.s)).Nodup
theorem SM.mem_f {M : SM} {s : Nat} {x : FB} (h : x ∈ M.fs) : x.f ∈ M.foot s ∧ x.s ∈ M.foot s := by
  unfold SM.foot
  simp only [List.mem_cons, List.mem_append, List.mem_flatMap]
  exact ⟨.inr (.inr ⟨x, h, by simp⟩), .inr (.inr ⟨x, h, by simp⟩)⟩
theorem SM.mem_s {M : SM} {s : Nat} : s ∈ M.foot s := by simp [SM.foot]
theorem SM.mem_a {M : SM} {s : Nat} {a : Addr} (h : M.a = some a) : a.block ∈ M.foot s := by simp [SM.foot, h]
theorem SM.foot_inv {M : SM} {s b : Nat} (h : b ∈ M.foot s) : b = s ∨ (∃ a, M.a = some a ∧ b = a.block) ∨ ∃ x ∈ M.fs, b = x.f ∨ b = x.s := by
  unfold SM.foot at h
  simp only [List.mem_cons, List.mem_append, List.mem_flatMap] at h
  rcases h with h | h | ⟨x, hx, h⟩
  · exact .inl h
  · cases ha : M.a with
    | none => rw [ha] at h; simp at h
    | some a => rw [ha] at h; simp at h; exact .inr (.inl ⟨a, rfl, h⟩)
  · simp at h; exact .inr (.inr ⟨x, hx, h⟩)
theorem StIn.form {W : World} {s d : Nat} {L : Int} {first : Nat} {M : SM} (h : StIn W s d L first M) : (M.a = none ∧ M.fs = []) ∨ ∃ q cur, M.a = some ⟨q, 0, none⟩ ∧ W.heap[q]? = some (.cells cur 67 (0, 0)) ∧ M.fs.length ≤ M.cap ∧ cur.toList.take M.fs.length = M.ptrs := by
  rcases h.row.2 with ⟨hv, h0⟩ | ⟨g, cap, cur, hv, hb, hh, hc, hm, hs, ht⟩
  · simp at hv; exact .inl ⟨hv.1, List.eq_nil_of_length_eq_zero h0⟩
  · simp only [Value.slice.injEq] at hv
    obtain ⟨h1, _, h3⟩ := hv
    subst h3
    exact .inr ⟨g, cur, h1, hh, hc, by simpa using ht⟩
theorem StIn.lt {W : World} {s d : Nat} {L : Int} {first : Nat} {M : SM} (h : StIn W s d L first M) : ∀ b ∈ M.foot s, b < W.heap.size := by
  intro b hb
  rcases SM.foot_inv hb with rfl | ⟨a, ha, rfl⟩ | ⟨x, hx, rfl | rfl⟩
  · exact h.box.lt
  · rcases h.form with ⟨h1, _⟩ | ⟨q, cur, h1, h2, _⟩
    · rw [h1] at ha; cases ha
    · rw [h1] at ha; cases ha; exact (Array.getElem?_eq_some_iff.1 h2).1
  · exact (h.flt x hx).1.own.lt
  · exact (h.flt x hx).1.row.lt
theorem row67_keep {W W' : World} {base : Nat} {e : TypeId} {size : Nat} {v : Value} {n : Nat} {xs : List Value} (h : W.ownsRow base e size v n xs) (k : ∀ q, v.ownBlock = some q → W'.heap[q]? = W.heap[q]?) : W'.ownsRow base e size v n xs := by
  refine ⟨h.1, ?_⟩
  rcases h.2 with h2 | ⟨g, cap, cur, hv, hg, hh, r⟩
  · exact .inl h2
  · exact .inr ⟨g, cap, cur, hv, hg, by rw [k g (by rw [hv]; rfl)]; exact hh, r⟩
theorem StIn.same {W W' : World} {s d : Nat} {L : Int} {first : Nat} {M : SM} (h : StIn W s d L first M) (k : ∀ b ∈ M.foot s, W'.heap[b]? = W.heap[b]?) : StIn W' s d L first M :=
  ⟨h.box.same (k s SM.mem_s), row67_keep h.row (fun q hq => by
    cases ha : M.a with
    | none => rw [ha] at hq; simp [Value.ownBlock] at hq
    | some a => rw [ha] at hq; simp [Value.ownBlock] at hq; rw [← hq]; exact k _ (SM.mem_a ha)), fun x hx => ⟨(h.flt x hx).1.same (k _ (SM.mem_f hx).1) (k _ (SM.mem_f hx).2), (h.flt x hx).2⟩, h.nd⟩
/-- A device and a store on it. -/
structure Bk (w0 W : World) (d : Nat) (F : List Nat) (S : Dv) (s : Nat) (L : Int) (first : Nat) (M : SM) : Prop where
  law : Law w0 d F S W
  st : StIn W s d L first M
  new : ∀ b ∈ M.foot s, w0.heap.size ≤ b
  off : ∀ b ∈ M.foot s, b ∉ F
variable {w0 W W' : World} {d s : Nat} {F F' : List Nat} {S S' : Dv} {L : Int} {first : Nat} {M : SM}
theorem Bk.move (h : Bk w0 W d F S s L first M) (hd : DvAt W' d F' S') (m : Moves F F' W W') : Bk w0 W' d F' S' s L first M :=
  ⟨h.law.move hd m, h.st.same (fun b hb => m.keep.block b (h.st.lt b hb) (h.off b hb)), h.new, fun b hb hf => by
    rcases m.foot b hf with h1 | h1
    · exact h.off b hb h1
    · have := h.st.lt b hb; omega⟩
theorem Bk.below (h : Bk w0 W d F S s L first M) (b : Below W.heap.size W W') : Bk w0 W' d F S s L first M := h.move (h.law.dev.below b) (Moves.of_keep (Keep.of_below b))
theorem Bk.keep (h : Bk w0 W d F S s L first M) {G : List Nat} (k : Keep G W W') (hF : ∀ b ∈ G, b ∉ F ∧ b ∉ M.foot s ∧ w0.heap.size ≤ b) : Bk w0 W' d F S s L first M :=
  ⟨⟨h.law.dev.same (fun b hb => k.block b (h.law.dev.lt b hb) (fun hg => (hF b hg).1 hb)), h.law.low, h.law.bel.trans (k.below (fun b hb => (hF b hb).2.2) h.law.bel.size)⟩, h.st.same (fun b hb => k.block b (h.st.lt b hb) (fun hg => (hF b hg).2.1 hb)), h.new, h.off⟩

theorem losses_at {w : World} (h : DvAt w d F S) : Calls Try.prog 28 #[.pointer (some ⟨d, 0, none⟩)] w fun e w' => e = .returned (.int .i64 S.losses) ∧ w' = w := by
  obtain ⟨p, pd, wa, wc, _, hd⟩ := h
  exact losses_any d p pd wa wc S w hd
theorem pages_at {w : World} (h : DvAt w d F S) : Calls Try.prog 27 #[.pointer (some ⟨d, 0, none⟩)] w fun e w' => e = .returned (.int .i64 (S.cs.length : Nat)) ∧ w' = w := by
  obtain ⟨p, pd, wa, wc, _, hd⟩ := h
  exact pages_any d p pd wa wc S w hd
def Pg.its : Pg → List It
  | ⟨some (some b)⟩ => lsO (full b).data.toList
  | _ => []
theorem Pg.its_all (p : Pg) (hp : p.fits) : total p.its ≤ 384 ∧ ∀ x ∈ p.its, x.fits ∧ x.good = true := by
  cases p using Pg.elim3 with
  | whole b =>
    have := lsO_all (full b).data.toList
    have h2 : (full b).data.toList.length = 384 := by rw [Array.length_toList]; exact full_size b hp
    rw [h2] at this
    exact this
  | blank => simp [Pg.its, total]
  | torn => simp [Pg.its, total]

theorem below_q2 (W : World) (n : Nat) : Below W.heap.size W (W.drewN n) := ⟨rfl, rfl, rfl, Nat.le_refl _, fun _ _ => rfl⟩
theorem keep_q {F : List Nat} (W : World) (n : Nat) : Keep F W (W.drewN n) := Keep.of_below (below_q2 W n)
theorem enter46 (args : Array Value) (w : World) : (callFunc 46 args).run Try.prog w = .ok (.enter 46 args) w := enters_of Try.func46 (by kernel_rfl) rfl args w
set_option maxHeartbeats 2000000 in
theorem list_ok (h : Bk w0 W d F S s L first M) (hL : L = S.losses) (hoff : S.off = false) (at0 : Nat) (c : Cl) (hk : S.cs[first + at0]? = some c) :
    Calls Try.prog 33 #[.pointer (some ⟨s, 0, none⟩), .int .i64 at0] W fun e W' => ∃ v, e = .returned (.tuple #[v, .int .i64 0]) ∧ Row W' W.heap.size v c.now.its ∧ Bk w0 W' d F (S.readDo (first + at0 : Nat)) s L first M ∧ Keep F W W' := by
  have c0 := h.st.box.cell (i := 0) rfl
  have c1 := h.st.box.cell (i := 1) rfl
  have hm := h.law.dev.good.many
  have hlt := (List.getElem?_eq_some_iff.1 hk).1
  have cL : Hid (∀ V : World, V.heap = W.heap → Calls Try.prog 28 #[.pointer (some ⟨d, 0, none⟩)] V fun e w' => e = .returned (.int .i64 L) ∧ w' = V) := fun V hV => by
    rw [hL]; exact losses_at (h.law.dev.same (fun _ _ => by rw [hV]))
  have H := hide h
  have hkb : first + at0 ≤ 4096 := by omega
  obtain ⟨k, hkk⟩ : ∃ k, k = first + at0 := ⟨_, rfl⟩
  have e1 : (first : Int) + (at0 : Int) = (k : Int) := by omega
  rw [← hkk] at hk hkb ⊢
  have hx1 : first ≤ 4096 := by omega
  have hwr : IntKind.i64.wrap ((first : Int) + (at0 : Int)) = (k : Int) := by rw [IntKind.wrap_i64, e1]; omega
  have hx2 : at0 ≤ 4096 := by omega
  have HX : Hid (∀ (P : World → Prop) (w' : World), DvAt w' d F (S.readDo (k : Nat)) → Keep F W w' → Bk w0 w' d F (S.readDo (k : Nat)) s L first M) := fun P w' h1 h2 => H.out.move h1 (Moves.of_keep h2)
  obtain ⟨rv, er, X, cR, hcs⟩ : ∃ (rv : Value) (er : Int) (X : World → Prop), Hid (∀ q, Calls Try.prog 46 #[.pointer (some ⟨d, 0, none⟩), .int .i64 (k : Nat)] (W.drewN q) fun e w' => e = .returned (.tuple #[rv, .int .i64 er]) ∧ DvAt w' d F (S.readDo (k : Nat)) ∧ Keep F W w' ∧ X w') ∧
      (((er = 5 ∨ er = 6) ∧ rv = .slice none 0 0 ∧ c.now.its = []) ∨ ∃ g lb, er = 0 ∧ rv = .slice (some ⟨g, 0, none⟩) 384 384 ∧ c.now.its = lsO lb ∧ ∀ w', X w' → BS w' (some ⟨g, 0, none⟩) 384 384 lb) := by
    have hdv : ∀ q, DvAt (W.drewN q) d F S := fun q => h.law.dev.same (fun _ _ => rfl)
    cases hp : c.now using Pg.elim3 with
    | blank =>
      refine ⟨_, 5, fun _ => True, fun q => (read_bare hk hoff hp (e0 := 5) rfl (by omega) (W.drewN q) (hdv q)).mono ?_, .inl ⟨.inl rfl, rfl, rfl⟩⟩
      rintro e w2 ⟨rfl, h2, k2⟩
      exact ⟨rfl, h2, (keep_q (F := F) W q).trans k2 (fun x hx => .inl hx), trivial⟩
    | torn =>
      refine ⟨_, 6, fun _ => True, fun q => (read_bare hk hoff hp (e0 := 6) rfl (by omega) (W.drewN q) (hdv q)).mono ?_, .inl ⟨.inr rfl, rfl, rfl⟩⟩
      rintro e w2 ⟨rfl, h2, k2⟩
      exact ⟨rfl, h2, (keep_q (F := F) W q).trans k2 (fun x hx => .inl hx), trivial⟩
    | whole b =>
      refine ⟨_, 0, fun w' => BS w' (some ⟨W.heap.size + 1, 0, none⟩) 384 384 (full b).data.toList, fun q => (read_whole hk hoff hp (W.drewN q) (hdv q)).mono ?_, .inr ⟨W.heap.size + 1, _, rfl, rfl, rfl, fun w' h => h⟩⟩
      rintro e w2 ⟨rfl, hb, h2, k2⟩
      exact ⟨rfl, h2, (keep_q (F := F) W q).trans k2 (fun x hx => .inl hx), hb⟩
  have HCS := hide hcs
  clear h hlt hm hkk hL hk hoff hcs
  go_enter Try.func33, Try.ntmps33
  go_wp2_with fail
  go_quiet (first | (go_at_call 28; refine Calls.quiet_of_same (cL.out _ ?_); rfl))
  go_wp2_with fail
  obtain ⟨CC, hCC⟩ : ∃ CC : Bool → World → Prop, CC = fun f w' => match f with
      | false => w' = W.drewN (nq + 1)
      | true => DvAt w' d F (S.readDo (k : Nat)) ∧ Keep F W w' ∧ X w' := ⟨_, rfl⟩
  have DR : Hid (CC false { W.drewN nq with drawn := (W.drewN nq).drawn + 1 }) := by show CC false _; rw [hCC]; rfl
  have cC : Hid (∀ w', CC false w' → Calls Try.prog 46 #[.pointer (some ⟨d, 0, none⟩), .int .i64 (k : Nat)] w' fun e w' => e = .returned (.tuple #[rv, .int .i64 er]) ∧ CC true w') := fun w' hw => by
    rw [hCC] at hw ⊢
    simp only at hw
    subst hw
    exact cR.out _
  have cells : Hid (∀ f w', CC f w' → w'.cell? ⟨s, 0, none⟩ = some (.pointer (some ⟨d, 0, none⟩)) ∧ w'.cell? ⟨s, 2, none⟩ = some (.int .i64 (first : Int))) := fun f w' hw => by
    rw [hCC] at hw
    cases f with
    | false =>
      simp only at hw
      subst hw
      exact ⟨H.out.st.box.cell (i := 0) rfl, H.out.st.box.cell (i := 2) rfl⟩
    | true =>
      have := (HX.out X w' hw.1 hw.2.1).st.box
      exact ⟨this.cell (i := 0) rfl, this.cell (i := 2) rfl⟩
  have HE : Hid (∀ w', CC true w' → DvAt w' d F (S.readDo (k : Nat)) ∧ Keep F W w' ∧ X w') := fun w' hw => by rw [hCC] at hw; exact hw
  clear hCC c0 c1 cL cR
  refine wp_region_turn (by kernel_rfl) (by kernel_rfl) (fun i => ([.pointer (some ⟨s, 0, none⟩), .pointer (some ⟨s, 0, none⟩), .pointer (some ⟨s, 0, none⟩), .pointer (some ⟨d, 0, none⟩), .pointer (some ⟨s, 0, none⟩), .pointer (some ⟨s, 0, none⟩), .pointer (some ⟨s, 2, none⟩), .int .i64 (first : Int), .int .i64 (at0 : Int), .int .i64 (k : Int), .tuple #[rv, .int .i64 er], .tuple #[rv, .int .i64 er], rv, .int .i64 er, rv, .int .i64 er] : List Value).getD i undef) 10 (by decide) (CC) (DR.out) ?_ ?_
  · intro i o hi f w' ev hc hz hin hout hcst hfn
    have hlt : i < 16 := by
      have := (Array.getElem?_eq_some_iff.1 hi).1
      simpa using this
    match i, hlt with
    | 0, _ =>
      simp only [List.getElem?_toArray, List.getElem?_cons_zero, List.getElem?_cons_succ, Option.some.injEq] at hi
      subst hi
      have e0 : ev (.tmp 0) = .pointer (some ⟨s, 0, none⟩) := hout 0 (by kernel_rfl) (show (0 : Nat) < 50 by decide)
      rw [if_neg (by decide)]
      refine .inl ⟨w', ?_, hc⟩
      show _ = Result.ok (Next.value (.pointer (some ⟨s, 0, none⟩))) w'
      simp [execOp, e0, hcst, go_sem]
    | 1, _ =>
      simp only [List.getElem?_toArray, List.getElem?_cons_zero, List.getElem?_cons_succ, Option.some.injEq] at hi
      subst hi
      have e0 : ev (.tmp 20) = .pointer (some ⟨s, 0, none⟩) := hin 20 0 ⟨0, .data⟩ (by kernel_rfl) (by simp) rfl rfl (show (20 : Nat) < 50 by decide)
      rw [if_neg (by decide)]
      refine .inl ⟨w', ?_, hc⟩
      show _ = Result.ok (Next.value (.pointer (some ⟨s, 0, none⟩))) w'
      simp [execOp, e0, hcst, go_sem]
    | 2, _ =>
      simp only [List.getElem?_toArray, List.getElem?_cons_zero, List.getElem?_cons_succ, Option.some.injEq] at hi
      subst hi
      have e0 : ev (.tmp 21) = .pointer (some ⟨s, 0, none⟩) := hin 21 1 ⟨1, .data⟩ (by kernel_rfl) (by simp) rfl rfl (show (21 : Nat) < 50 by decide)
      rw [if_neg (by decide)]
      refine .inl ⟨w', ?_, hc⟩
      show _ = Result.ok (Next.value (.pointer (some ⟨s, 0, none⟩))) w'
      simp [execOp, e0, hcst, go_sem]
    | 3, _ =>
      simp only [List.getElem?_toArray, List.getElem?_cons_zero, List.getElem?_cons_succ, Option.some.injEq] at hi
      subst hi
      have e0 : ev (.tmp 22) = .pointer (some ⟨s, 0, none⟩) := hin 22 2 ⟨2, .data⟩ (by kernel_rfl) (by simp) rfl rfl (show (22 : Nat) < 50 by decide)
      rw [if_neg (by decide)]
      refine .inl ⟨w', ?_, hc⟩
      show _ = Result.ok (Next.value (.pointer (some ⟨d, 0, none⟩))) w'
      have q := (cells.out f w' hc).1
      simp [execOp, e0, q, hcst, go_sem]
    | 4, _ =>
      simp only [List.getElem?_toArray, List.getElem?_cons_zero, List.getElem?_cons_succ, Option.some.injEq] at hi
      subst hi
      have e0 : ev (.tmp 0) = .pointer (some ⟨s, 0, none⟩) := hout 0 (by kernel_rfl) (show (0 : Nat) < 50 by decide)
      rw [if_neg (by decide)]
      refine .inl ⟨w', ?_, hc⟩
      show _ = Result.ok (Next.value (.pointer (some ⟨s, 0, none⟩))) w'
      simp [execOp, e0, hcst, go_sem]
    | 5, _ =>
      simp only [List.getElem?_toArray, List.getElem?_cons_zero, List.getElem?_cons_succ, Option.some.injEq] at hi
      subst hi
      have e0 : ev (.tmp 24) = .pointer (some ⟨s, 0, none⟩) := hin 24 4 ⟨4, .data⟩ (by kernel_rfl) (by simp) rfl rfl (show (24 : Nat) < 50 by decide)
      rw [if_neg (by decide)]
      refine .inl ⟨w', ?_, hc⟩
      show _ = Result.ok (Next.value (.pointer (some ⟨s, 0, none⟩))) w'
      simp [execOp, e0, hcst, go_sem]
    | 6, _ =>
      simp only [List.getElem?_toArray, List.getElem?_cons_zero, List.getElem?_cons_succ, Option.some.injEq] at hi
      subst hi
      have e0 : ev (.tmp 25) = .pointer (some ⟨s, 0, none⟩) := hin 25 5 ⟨5, .data⟩ (by kernel_rfl) (by simp) rfl rfl (show (25 : Nat) < 50 by decide)
      rw [if_neg (by decide)]
      refine .inl ⟨w', ?_, hc⟩
      show _ = Result.ok (Next.value (.pointer (some ⟨s, 2, none⟩))) w'
      simp [execOp, e0, hcst, go_sem]
    | 7, _ =>
      simp only [List.getElem?_toArray, List.getElem?_cons_zero, List.getElem?_cons_succ, Option.some.injEq] at hi
      subst hi
      have e0 : ev (.tmp 26) = .pointer (some ⟨s, 2, none⟩) := hin 26 6 ⟨6, .data⟩ (by kernel_rfl) (by simp) rfl rfl (show (26 : Nat) < 50 by decide)
      rw [if_neg (by decide)]
      refine .inl ⟨w', ?_, hc⟩
      show _ = Result.ok (Next.value (.int .i64 (first : Int))) w'
      have q := (cells.out f w' hc).2
      simp [execOp, e0, q, hcst, go_sem]
    | 8, _ =>
      simp only [List.getElem?_toArray, List.getElem?_cons_zero, List.getElem?_cons_succ, Option.some.injEq] at hi
      subst hi
      have e0 : ev (.tmp 1) = .int .i64 (at0 : Int) := hout 1 (by kernel_rfl) (show (1 : Nat) < 50 by decide)
      rw [if_neg (by decide)]
      refine .inl ⟨w', ?_, hc⟩
      show _ = Result.ok (Next.value (.int .i64 (at0 : Int))) w'
      simp [execOp, e0, hcst, go_sem]
    | 9, _ =>
      simp only [List.getElem?_toArray, List.getElem?_cons_zero, List.getElem?_cons_succ, Option.some.injEq] at hi
      subst hi
      have e0 : ev (.tmp 27) = .int .i64 (first : Int) := hin 27 7 ⟨7, .data⟩ (by kernel_rfl) (by simp) rfl rfl (show (27 : Nat) < 50 by decide)
      have e1 : ev (.tmp 28) = .int .i64 (at0 : Int) := hin 28 8 ⟨8, .data⟩ (by kernel_rfl) (by simp) rfl rfl (show (28 : Nat) < 50 by decide)
      rw [if_neg (by decide)]
      refine .inl ⟨w', ?_, hc⟩
      show _ = Result.ok (Next.value (.int .i64 (k : Int))) w'
      simp [execOp, e0, e1, hcst, go_sem, hwr]
    | 10, _ =>
      simp only [List.getElem?_toArray, List.getElem?_cons_zero, List.getElem?_cons_succ, Option.some.injEq] at hi
      subst hi
      have e0 : ev (.tmp 23) = .pointer (some ⟨d, 0, none⟩) := hin 23 3 ⟨3, .data⟩ (by kernel_rfl) (by simp) rfl rfl (show (23 : Nat) < 50 by decide)
      have e1 : ev (.tmp 29) = .int .i64 (k : Int) := hin 29 9 ⟨9, .data⟩ (by kernel_rfl) (by simp) rfl rfl (show (29 : Nat) < 50 by decide)
      rw [if_pos rfl]
      refine .inr (.inr ⟨46, #[.pointer (some ⟨d, 0, none⟩), .int .i64 (k : Int)], ?_, ?_⟩)
      · have ef := hfn 46
        simp [execOp, resolve, invoke, ef, hcst, e0, e1, Result.andThen]
        exact enter46 _ _
      · rw [hz rfl] at hc
        refine (cC.out w' hc).mono ?_
        rintro e w2 ⟨rfl, h2⟩
        exact ⟨rfl, h2⟩
    | 11, _ =>
      simp only [List.getElem?_toArray, List.getElem?_cons_zero, List.getElem?_cons_succ, Option.some.injEq] at hi
      subst hi
      have e0 : ev (.tmp 30) = .tuple #[rv, .int .i64 er] := hin 30 10 ⟨10, .data⟩ (by kernel_rfl) (by simp) rfl rfl (show (30 : Nat) < 50 by decide)
      rw [if_neg (by decide)]
      refine .inl ⟨w', ?_, hc⟩
      show _ = Result.ok (Next.value (.tuple #[rv, .int .i64 er])) w'
      simp [execOp, e0, hcst, go_sem]
    | 12, _ =>
      simp only [List.getElem?_toArray, List.getElem?_cons_zero, List.getElem?_cons_succ, Option.some.injEq] at hi
      subst hi
      have e0 : ev (.tmp 19) = .tuple #[rv, .int .i64 er] := hin 19 11 ⟨11, .data⟩ (by kernel_rfl) (by simp) rfl rfl (show (19 : Nat) < 50 by decide)
      rw [if_neg (by decide)]
      refine .inl ⟨w', ?_, hc⟩
      show _ = Result.ok (Next.value (rv)) w'
      simp [execOp, e0, hcst, go_sem]
    | 13, _ =>
      simp only [List.getElem?_toArray, List.getElem?_cons_zero, List.getElem?_cons_succ, Option.some.injEq] at hi
      subst hi
      have e0 : ev (.tmp 19) = .tuple #[rv, .int .i64 er] := hin 19 11 ⟨11, .data⟩ (by kernel_rfl) (by simp) rfl rfl (show (19 : Nat) < 50 by decide)
      rw [if_neg (by decide)]
      refine .inl ⟨w', ?_, hc⟩
      show _ = Result.ok (Next.value (.int .i64 er)) w'
      simp [execOp, e0, hcst, go_sem]
    | 14, _ =>
      simp only [List.getElem?_toArray, List.getElem?_cons_zero, List.getElem?_cons_succ, Option.some.injEq] at hi
      subst hi
      have e0 : ev (.tmp 31) = rv := hin 31 12 ⟨12, .data⟩ (by kernel_rfl) (by simp) rfl rfl (show (31 : Nat) < 50 by decide)
      rw [if_neg (by decide)]
      refine .inl ⟨w', ?_, hc⟩
      show _ = Result.ok (Next.value (rv)) w'
      simp [execOp, e0, hcst, go_sem]
    | 15, _ =>
      simp only [List.getElem?_toArray, List.getElem?_cons_zero, List.getElem?_cons_succ, Option.some.injEq] at hi
      subst hi
      have e0 : ev (.tmp 32) = .int .i64 er := hin 32 13 ⟨13, .data⟩ (by kernel_rfl) (by simp) rfl rfl (show (32 : Nat) < 50 by decide)
      rw [if_neg (by decide)]
      refine .inl ⟨w', ?_, hc⟩
      show _ = Result.ok (Next.value (.int .i64 er)) w'
      simp [execOp, e0, hcst, go_sem]
  · intro w7 hc
    simp only [lexF, Act.put, List.setIfInBounds_toArray, List.set_cons_succ, List.set_cons_zero, List.getD_cons_succ, List.getD_cons_zero]
    have T := hide (HE.out w7 hc)
    clear hwr
    clear hc cC cells DR HE
    rcases HCS.out with ⟨he, rfl, hi⟩ | ⟨g, lb, rfl, rfl, hi, hX⟩
    · have HI := hide hi
      clear hi
      rcases he with rfl | rfl
      · go_wp2
        go_ret2
        exact ⟨_, rfl, by rw [HI.out]; exact Row.nil _ _, HX.out X _ T.out.1 T.out.2.1, T.out.2.1⟩
      · go_wp2
        go_ret2
        exact ⟨_, rfl, by rw [HI.out]; exact Row.nil _ _, HX.out X _ T.out.1 T.out.2.1, T.out.2.1⟩
    · have EP := hide hi
      have cT := hide (list_cap take_is (some ⟨g, 0, none⟩) 384 384 lb (by omega) (by omega) w7 (hX w7 T.out.2.2))
      clear hi hX
      go_wp2_with fail
      refine cT.out.mono ?_
      rintro e w3 ⟨b3, hp3⟩
      have B3 := hide b3
      clear b3 cT
      cases hl : lst lb with
      | none =>
        rw [hl] at hp3
        simp only at hp3
        subst hp3
        have E : Hid (lsO lb = []) := by show _ = _; simp [lsO, hl]
        clear hl
        go_wp2
        go_ret2
        refine ⟨_, rfl, ?_, (HX.out X _ T.out.1 T.out.2.1).below B3.out, T.out.2.1.trans (Keep.of_below (F := []) B3.out) (by simp)⟩
        rw [EP.out, E.out]
        exact Row.nil _ _
      | some xs =>
        rw [hl] at hp3
        simp only at hp3
        obtain ⟨v, rfl, hv⟩ := hp3
        have E : Hid (lsO lb = xs) := by show _ = _; simp [lsO, hl]
        have HV := hide hv
        clear hl hv
        go_wp2
        go_ret2
        refine ⟨v, rfl, ?_, (HX.out X _ T.out.1 T.out.2.1).below B3.out, T.out.2.1.trans (Keep.of_below (F := []) B3.out) (by simp)⟩
        rw [EP.out, E.out]
        exact Row.mono (base := w7.heap.size) HV.out T.out.2.1.size
end Go.Proofs.Ytbccnfbombgdmaa

/- A key's bucket; a page is written; a store that is done. -/
set_option linter.unusedVariables false
set_option linter.unusedSimpArgs false
set_option maxRecDepth 8000
namespace Go.Proofs.Ytbccnfbombgdmaa
open Go.RowKit Go.Deep Math
variable {w0 W W' : World} {d s : Nat} {F F' : List Nat} {S S' : Dv} {L : Int} {first : Nat} {M : SM}

set_option maxHeartbeats 1000000 in
/-- Behind a loss of power. -/
theorem list_done (h : Bk w0 W d F S s L first M) (hL : S.losses ≠ L) (at0 : Int) :
    Calls Try.prog 33 #[.pointer (some ⟨s, 0, none⟩), .int .i64 at0] W fun e W' => e = .returned (.tuple #[.slice none 0 0, .int .i64 4]) ∧ Below W.heap.size W W' := by
  have c0 := h.st.box.cell (i := 0) rfl
  have c1 := h.st.box.cell (i := 1) rfl
  have hne : (S.losses != L) = true := by simpa using hL
  have cL : Hid (∀ V : World, V.heap = W.heap → Calls Try.prog 28 #[.pointer (some ⟨d, 0, none⟩)] V fun e w' => e = .returned (.int .i64 S.losses) ∧ w' = V) := fun V hV => losses_at (h.law.dev.same (fun _ _ => by rw [hV]))
  clear h
  go_enter Try.func33, Try.ntmps33
  go_wp2_with fail
  go_quiet (first | (go_at_call 28; refine Calls.quiet_of_same (cL.out _ ?_); rfl))
  go_wp2
  go_ret2
  exact ⟨rfl, below_q2 W nq⟩

/-- Which of the pages is a key's. -/
def bkt (key : List UInt8) (n : Nat) : Nat := (Bl.hashK (txt key) % (n : Int)).toNat
theorem bkt_lt (key : List UInt8) (n : Nat) (hn : 0 < n) : bkt key n < n := by
  unfold bkt
  have h1 := Int.emod_nonneg (Bl.hashK (txt key)) (show (n : Int) ≠ 0 by omega)
  have h2 := Int.emod_lt_of_pos (Bl.hashK (txt key)) (show (0 : Int) < n by omega)
  omega
set_option maxHeartbeats 1000000 in
theorem bucket_any (h : StIn W s d L first M) (key : List UInt8) (hk : key.length ≤ maxLen) (h1 : 0 < M.fs.length) (h2 : M.fs.length ≤ 1000) :
    Calls Try.prog 32 #[.pointer (some ⟨s, 0, none⟩), .string (txt key)] W fun e W' => e = .returned (.int .i64 (bkt key M.fs.length : Nat)) ∧ ∃ q, W' = W.drewN q := by
  have c3 := h.box.cell (i := 3) rfl
  obtain ⟨n, hn⟩ : ∃ n, n = M.fs.length := ⟨_, rfl⟩
  rw [← hn] at c3 h1 h2 ⊢
  have cH : Hid (∀ V : World, Calls Try.prog 45 #[.string (txt key)] V fun e w' => e = .returned (.int .u64 (Bl.hashK (txt key))) ∧ w' = V) := fun V => Bl.hash_any (txt key) V (by rw [txt_size]; exact hk)
  obtain ⟨H, hH⟩ : ∃ H, H = Bl.hashK (txt key) := ⟨_, rfl⟩
  have hr := Bl.hashK_range (txt key)
  have hb : (bkt key n : Int) = H % (n : Int) := by
    rw [hH]
    unfold bkt
    have := Int.emod_nonneg (Bl.hashK (txt key)) (show (n : Int) ≠ 0 by omega)
    omega
  have hbl := bkt_lt key n h1
  rw [← hH] at cH hr
  have HB : Hid (wrap64 (H % (n : Int)) = (bkt key n : Int)) := by show _ = _; rw [← hb]; unfold wrap64; omega
  have hn0 : ¬ ((n : Int) = 0) := by omega
  have hr0 := hr.1
  have hr1 := hr.2
  have hw1 : IntKind.u64.wrap (n : Int) = (n : Int) := by rw [IntKind.wrap_u64]; omega
  clear hb hr h hn hH hk
  go_enter Try.func32, Try.ntmps32
  go_wp2_with fail
  go_quiet (first | (go_at_call 45; refine Calls.quiet_of_same (cH.out _)))
  go_wp2
  go_ret
  exact ⟨congrArg (fun z => Ending.returned (.int .i64 z)) HB.out, _, rfl⟩
end Go.Proofs.Ytbccnfbombgdmaa

