/- Texts joined: Bk1, RListC, RTakeS. -/
import Derived.Test.YtbccnfbombgdmaaGreatJ06
import Derived.Test.YtbccnfbombgdmaaGreatJ05
import Derived.Test.YtbccnfbombgdmaaGreatJ04
import Derived.Deep.RegionHeld
/- Rows of items that are owned; 'without', 'over', slices.Clone. -/
set_option linter.unusedVariables false
set_option linter.unusedSimpArgs false
set_option maxRecDepth 8000
namespace Go.Proofs.YtbccnfbombgdmaaGreat
open Go.RowKit Go.Deep Math

/-- Items that stay within bounds. -/
def Oks (xs : List It) : Prop := ∀ x ∈ xs, x.fits ∧ x.key.length ≤ 140737488351232 ∧ x.value.length ≤ 140737488351232
/-- A row of items, at or above base. -/
def Row (w : World) (base : Nat) (v : Value) (xs : List It) : Prop := w.ownsRow base 39 5 v xs.length (itsCells xs)
theorem Row.nil (w : World) (base : Nat) : Row w base (.slice none 0 0) [] := World.ownsRow_nil _ _ _ _
theorem Row.form {w : World} {base : Nat} {v : Value} {xs : List It} (h : Row w base v xs) : (v = .slice none 0 0 ∧ xs = []) ∨ ∃ g cap pad, v = .slice (some ⟨g, 0, none⟩) xs.length cap ∧ base ≤ g ∧ Blk w g (itsCells xs ++ pad) 39 ∧ xs.length ≤ cap ∧ cap ≤ maxLen ∧ (itsCells xs ++ pad).length = cap * 5 := by
  rcases h.2 with ⟨hv, h0⟩ | ⟨g, cap, cur, hv, hb, hh, hc, hm, hs, ht⟩
  · exact .inl ⟨hv, List.eq_nil_of_length_eq_zero h0⟩
  · have e : itsCells xs ++ cur.toList.drop (xs.length * 5) = cur.toList := by rw [← ht, List.take_append_drop]
    refine .inr ⟨g, cap, cur.toList.drop (xs.length * 5), hv, hb, ?_, hc, hm, by rw [e]; simpa using hs⟩
    unfold Blk
    rw [e]
    simpa using hh
theorem Row.of {w : World} {base g cap : Nat} {xs : List It} {pad : List Value} (hb : base ≤ g) (h : Blk w g (itsCells xs ++ pad) 39) (hc : xs.length ≤ cap) (hm : cap ≤ maxLen) (hl : (itsCells xs ++ pad).length = cap * 5) : Row w base (.slice (some ⟨g, 0, none⟩) xs.length cap) xs := by
  refine ⟨itsCells_length xs, .inr ⟨g, cap, (itsCells xs ++ pad).toArray, rfl, hb, h, hc, hm, by simpa using hl, ?_⟩⟩
  rw [List.toList_toArray, ← itsCells_length xs]
  simp
theorem Row.its {w : World} {base : Nat} {v : Value} {xs : List It} (h : Row w base v xs) (ho : Oks xs) : ∃ a cap, v = .slice a xs.length cap ∧ ItsAt w a xs.length xs ∧ (∀ q, v.ownBlock = some q → a = some ⟨q, 0, none⟩) ∧ xs.length ≤ cap ∧ cap ≤ maxLen := by
  rcases h.form with ⟨rfl, rfl⟩ | ⟨g, cap, pad, rfl, hb, hh, hc, hm, hl⟩
  · exact ⟨none, 0, rfl, ⟨rfl, ho, fun i x hx => by simp at hx⟩, fun q hq => by simp [Value.ownBlock] at hq, by simp, by simp⟩
  · exact ⟨_, cap, rfl, its_blk hh rfl ho, fun q hq => by simp [Value.ownBlock] at hq; rw [hq], hc, hm⟩
theorem Row.keep {w w' : World} {base : Nat} {v : Value} {xs : List It} (h : Row w base v xs) (k : ∀ q, v.ownBlock = some q → w'.heap[q]? = w.heap[q]?) : Row w' base v xs := by
  refine ⟨h.1, ?_⟩
  rcases h.2 with h2 | ⟨g, cap, cur, hv, hg, hh, r⟩
  · exact .inl h2
  · exact .inr ⟨g, cap, cur, hv, hg, by rw [k g (by rw [hv]; rfl)]; exact hh, r⟩
theorem Row.lt {w : World} {base : Nat} {v : Value} {xs : List It} (h : Row w base v xs) : ∀ q, v.ownBlock = some q → base ≤ q ∧ q < w.heap.size := by
  intro q hq
  rcases h.form with ⟨rfl, rfl⟩ | ⟨g, cap, pad, rfl, hb, hh, hc, hm, hl⟩
  · simp [Value.ownBlock] at hq
  · simp [Value.ownBlock] at hq; subst hq; exact ⟨hb, hh.lt⟩
theorem Row.below {w w' : World} {base : Nat} {v : Value} {xs : List It} (h : Row w base v xs) (b : Below w.heap.size w w') : Row w' base v xs := h.keep (fun q hq => b.block q (h.lt q hq).2)
theorem Row.mono {w : World} {base base' : Nat} {v : Value} {xs : List It} (h : Row w base v xs) (hb : base' ≤ base) : Row w base' v xs := by
  refine ⟨h.1, ?_⟩
  rcases h.2 with h2 | ⟨g, cap, cur, hv, hg, r⟩
  · exact .inl h2
  · exact .inr ⟨g, cap, cur, hv, Nat.le_trans hb hg, r⟩
theorem itsCells_append (xs ys : List It) : itsCells xs ++ itsCells ys = itsCells (xs ++ ys) := by simp [itsCells]
theorem its_one (xs : List It) : ∀ u ∈ itsCells xs, u.oneCell' = true := by
  intro u hu
  simp only [itsCells, List.mem_flatMap] at hu
  obtain ⟨x, _, hu⟩ := hu
  simp only [itCells, List.mem_cons, List.not_mem_nil, or_false] at hu
  rcases hu with rfl | rfl | rfl | rfl | rfl <;> rfl
theorem its_news {W : World} {b o len : Nat} {xs : List It} (h : ItsAt W (some ⟨b, o, none⟩) len xs) : ∀ (t : Nat) (u : Value), (itsCells xs)[t]? = some u → W.cell? ((⟨b, o, none⟩ : Addr).add t) = some u := by
  intro t u hu
  have ht : t < xs.length * 5 := by rw [← itsCells_length]; exact (List.getElem?_eq_some_iff.1 hu).1
  have hi : t / 5 < xs.length := by omega
  obtain ⟨x, hx⟩ : ∃ x, xs[t / 5]? = some x := ⟨_, List.getElem?_eq_getElem hi⟩
  obtain ⟨_, _, he, _, hc⟩ := h.cell (t / 5) x hx
  cases he
  obtain ⟨A, B, e, hA⟩ : ∃ A B, xs = A ++ x :: B ∧ A.length = t / 5 := by
    obtain ⟨hi, he⟩ := List.getElem?_eq_some_iff.1 hx
    refine ⟨xs.take (t / 5), xs.drop (t / 5 + 1), ?_, by simp; omega⟩
    rw [← he, ← List.drop_eq_getElem_cons hi, List.take_append_drop]
  have h5 : t % 5 < 5 := Nat.mod_lt _ (by decide)
  have et : t = A.length * 5 + t % 5 := by rw [hA]; omega
  have hv : (itCells x)[t % 5]? = some u := by
    rw [← hu, e, et]
    have := flat_get itCells 5 (fun _ => rfl) A x B (t % 5) h5
    rw [show (A.length * 5 + t % 5) % 5 = t % 5 by omega]
    exact this.symm
  rw [Addr.add_lit, show o + t = o + t / 5 * 5 + t % 5 by omega]
  generalize t % 5 = k at hv h5
  match k, h5 with
  | 0, _ => simp [itCells] at hv; rw [← hv]; exact hc.c0
  | 1, _ => simp [itCells] at hv; rw [← hv]; exact hc.c1
  | 2, _ => simp [itCells] at hv; rw [← hv]; exact hc.c2
  | 3, _ => simp [itCells] at hv; rw [← hv]; exact hc.c3
  | 4, _ => simp [itCells] at hv; rw [← hv]; exact hc.c4
/-- 'append' of items to an owned row. -/
theorem run_app {w : World} {base : Nat} {v : Value} {xs : List It} (h : Row w base v xs) {b o c : Nat} {ys : List It} (hy : ItsAt w (some ⟨b, o, none⟩) ys.length ys) (hn : xs.length + ys.length ≤ 1048576) (hb : base ≤ w.heap.size) :
    ∃ v' w', (∀ ty, (Builtin.append_ #[45, 45] ty #[v, .slice (some ⟨b, o, none⟩) ys.length c]).run Tryz.prog w = .ok v' w') ∧ Row w' base v' (xs ++ ys) ∧ w.grownBy w' v.ownBlock ∧ (v' = .slice none 0 0 ↔ v = .slice none 0 0 ∧ ys.length = 0) := by
  obtain ⟨i0, hi0, hp0⟩ := Option.map_eq_some_iff.1 info30
  simp only [Prod.mk.injEq] at hp0
  obtain ⟨hz0, hz1, hz2⟩ := hp0
  obtain ⟨v', w', h1, h2, h3, h4⟩ := run_append_own (P := Tryz.prog) w base 45 0 39 i0 _ 5 56 Tryz.underlying45 hi0 hz0 hz1 hz2 rfl (by decide) v xs.length (itsCells xs) h ⟨b, o, none⟩ ys.length c (itsCells ys) (itsCells_length ys) (its_news hy) (its_one ys) (by unfold maxLen; omega) (by omega) hb
  refine ⟨v', w', fun ty => h1, ?_, h3, h4⟩
  unfold Row
  rw [← itsCells_append, List.length_append]
  exact h2

set_option maxHeartbeats 1000000 in
theorem delf_nil (key : List UInt8) (B : Nat) (w : World) (hB : w.cell? ⟨B, 0, none⟩ = some (.string (txt key))) :
    Calls Tryz.prog 65 #[.slice none 0 0, .func (.func 66) #[] #[.pointer (some ⟨B, 0, none⟩)]] w fun e w' => e = .returned (.slice none 0 0) ∧ Below w.heap.size w w' := by
  have cI := hide (idx_any none 0 0 [] key B (by omega) w ⟨rfl, fun x hx => by simp at hx, fun i x hx => by simp at hx⟩ hB)
  clear hB
  go_enter Tryz.func65, Tryz.ntmps65
  go_wp2_with fail
  refine cI.out.mono ?_
  rintro e w1 ⟨⟨k, rfl, hk⟩, b1⟩
  have hk1 : k = -1 := by
    rcases hk with ⟨h, _⟩ | ⟨i, x, _, h, _⟩
    · exact h
    · simp at h
  subst hk1
  have B1 := hide b1
  clear b1 cI hk
  go_wp2
  go_ret
  exact ⟨rfl, B1.out⟩

theorem Oks.sub {xs ys : List It} (h : Oks xs) (hs : ∀ y ∈ ys, y ∈ xs) : Oks ys := fun y hy => h y (hs y hy)
set_option maxHeartbeats 1000000 in
theorem wo_any (base : Nat) (v : Value) (xs : List It) (key : List UInt8) (w : World) (h : Row w base v xs) (ho : Oks xs) (hn : xs.length ≤ 1048576) :
    Calls Tryz.prog 31 #[v, .string (txt key)] w fun e w' => ∃ v', e = .returned v' ∧ Row w' base v' (xs.filter (notKey key)) ∧ Keep v.ownBlock.toList w w' ∧ v'.ownBlock = v.ownBlock := by
  have hbx : (w.alloc (.cells #[.string (txt key)] 9)).cell? ⟨w.heap.size, 0, none⟩ = some (.string (txt key)) := (Blk.new w [.string (txt key)] 9).cell rfl
  rcases h.form with ⟨rfl, rfl⟩ | ⟨g, cap, pad, rfl, hb, hh, hc, hm, hl⟩
  · have cD := hide (delf_nil key w.heap.size _ hbx)
    clear h ho hbx
    go_enter Tryz.func31, Tryz.ntmps31
    go_wp2_with fail
    refine cD.out.mono ?_
    rintro e w1 ⟨rfl, b1⟩
    have B1 := hide b1
    clear b1 cD
    go_wp2
    go_ret
    exact ⟨.slice none 0 0, rfl, Row.nil _ _, Keep.trans ((Keep.refl _ w).alloc _) (Keep.of_below (F := []) B1.out) (by simp), rfl⟩
  · obtain ⟨n, hn0⟩ : ∃ n, n = xs.length := ⟨_, rfl⟩
    have hgl := hh.lt
    have cD := hide (delf_any g n cap xs pad key w.heap.size hn0 (by omega) (w.alloc (.cells #[.string (txt key)] 9)) ho (hh.alloc _) (by omega) (by omega) (by unfold maxLen at hm; omega) hbx)
    have HH := hide (And.intro hb (And.intro hm hl))
    have HC := hide (show n ≤ cap by omega)
    rw [← hn0]
    have HN := hide hn0
    clear h ho hbx hh hc hm hl hb hn0 hn
    go_enter Tryz.func31, Tryz.ntmps31
    go_wp2_with fail
    refine cD.out.mono ?_
    rintro e w1 ⟨pad', rfl, hb', hl', hk⟩
    have T := hide (And.intro hb' (And.intro hl' hk))
    clear hb' hl' hk cD
    go_wp2
    go_ret
    refine ⟨_, rfl, Row.of HH.out.1 T.out.1 (by have := List.length_filter_le (notKey key) xs; have := HN.out; have := HC.out; omega) HH.out.2.1 (T.out.2.1.trans HH.out.2.2), ?_, rfl⟩
    exact ((Keep.refl _ w).alloc _).trans T.out.2.2 (by simp [Value.ownBlock])

/-- How many of the first ones must go. -/
def ovr : List It → Nat
  | [] => 0
  | x :: r => if 384 < total (x :: r) then ovr r + 1 else 0
theorem ovr_le : ∀ xs, ovr xs ≤ xs.length
  | [] => Nat.le_refl _
  | x :: r => by
    unfold ovr
    split
    · have := ovr_le r; simp; omega
    · omega
theorem ovr_fit : ∀ xs : List It, total (xs.drop (ovr xs)) ≤ 384
  | [] => by simp [total]
  | x :: r => by
    unfold ovr
    split
    · exact ovr_fit r
    · simp only [List.drop_zero]; omega
theorem ovr_go (xs : List It) (k : Nat) (h : 384 < total (xs.drop k)) : ∃ x, xs[k]? = some x ∧ xs.drop k = x :: xs.drop (k + 1) ∧ ovr (xs.drop k) = ovr (xs.drop (k + 1)) + 1 ∧ total (xs.drop k) = x.size + total (xs.drop (k + 1)) := by
  cases hd : xs.drop k with
  | nil => rw [hd] at h; simp [total] at h
  | cons x r =>
    have hk : k < xs.length := by
      rcases Nat.lt_or_ge k xs.length with h1 | h1
      · exact h1
      · rw [List.drop_eq_nil_of_le h1] at hd; cases hd
    have e := List.drop_eq_getElem_cons hk
    rw [hd] at e
    injection e with e1 e2
    subst e2
    refine ⟨x, by rw [List.getElem?_eq_getElem hk, e1], rfl, ?_, rfl⟩
    rw [hd] at h
    rw [ovr, if_pos h]
theorem size_one (x : It) : (txt x.key).size = x.key.length ∧ (txt x.value).size = x.value.length := ⟨txt_size _, txt_size _⟩
theorem size_it (x : It) (hk : x.key.length ≤ 140737488351232) (hv : x.value.length ≤ 140737488351232) (w : World) : Calls Tryz.prog 28 #[.agg #[.string (txt x.key), .string (txt x.value), .int .u32 x.flags, .int .i64 x.exp, .int .u64 x.ver]] w fun r w' => r = .returned (.int .i64 (x.size : Nat)) ∧ Below w.heap.size w w' := by
  have := size_any (txt x.key) (txt x.value) x.flags x.exp x.ver (by rw [txt_size]; exact hk) (by rw [txt_size]; exact hv) w
  rw [txt_size, txt_size] at this
  exact this

set_option maxHeartbeats 2000000 in
theorem over_any (a : Option Addr) (n cap : Nat) (xs : List It) (hn63 : n ≤ 1048576) (ht : total xs ≤ 1000000) (w : World) (h : ItsAt w a n xs) :
    Calls Tryz.prog 32 #[.slice a n cap] w fun e w' => e = .returned (.int .i64 (ovr xs : Nat)) ∧ Below w.heap.size w w' := by
  have H := hide h
  have HT := hide ht
  have cS : Hid (∀ x ∈ xs, ∀ W, Calls Tryz.prog 28 #[.agg #[.string (txt x.key), .string (txt x.value), .int .u32 x.flags, .int .i64 x.exp, .int .u64 x.ver]] W fun r w' => r = .returned (.int .i64 (x.size : Nat)) ∧ Below W.heap.size W w') := fun x hx W => size_it x (h.fits x hx).2.1 (h.fits x hx).2.2 W
  clear h ht
  go_enter Tryz.func32, Tryz.ntmps32
  go_wp2_with fail
  go_loopg [3, 9] n (fun kx s3 s9 wr => ∃ i m : Nat, s3 = .int .i64 m ∧ s9 = .int .i64 i ∧ i ≤ n ∧ n - i ≤ kx ∧ m ≤ 1000000 ∧ Hid (m = total (xs.take i) ∧ Below w.heap.size w wr))
  case atStart => exact ⟨0, 0, rfl, rfl, Nat.zero_le _, by omega, by omega, by simp [total], Below.refl _ _⟩
  case round =>
    obtain ⟨i, m, rfl, rfl, hin, hg, hm, I⟩ := hrel
    by_cases hlt : i < n
    · have hlt2 : (i : Int) < (n : Int) := by omega
      obtain ⟨x, hx⟩ : ∃ x, xs[i]? = some x := ⟨_, List.getElem?_eq_getElem (by rw [← H.out.len]; exact hlt)⟩
      obtain ⟨b, o, rfl, hb, hc⟩ := H.out.cell i x hx
      obtain ⟨c0, c1, c2, c3, c4⟩ := (hc.below I.out.2 hb).vals
      have hbw : b < wr.heap.size := Nat.lt_of_lt_of_le hb I.out.2.size
      have cs := hide (cS.out x (List.mem_of_getElem? hx))
      have TT := hide (total_take_succ xs i x hx)
      have hsz : m + x.size ≤ 1000000 := by have h1 := TT.out; have h2 := I.out.1; have h3 := total_take_le xs (i + 1); have := HT.out; omega
      generalize x.size = sz at cs TT hsz
      clear hc hx
      go_wp2_with fail
      refine (cs.out _).mono ?_
      rintro r w1 ⟨rfl, b1⟩
      have B1 := hide ((I.out.2.alloc I.out.2.size (.cells #[.string (txt x.key), .string (txt x.value), .int .u32 x.flags, .int .i64 x.exp, .int .u64 x.ver] 39)).trans (b1.mono (by rw [nblk_alloc]; have := I.out.2.size; omega)))
      clear b1
      go_wp2
      go_roundg (n - (i + 1))
      case measure => omega
      case rel => exact ⟨i + 1, m + sz, by go_num, rfl, by omega, by omega, hsz, by rw [TT.out, I.out.1], B1.out⟩
    · obtain rfl : i = n := by omega
      have hlt2 : ¬ (i : Int) < (i : Int) := by omega
      have T0 : Hid (m = total xs) := by
        show _ = _
        have := I.out.1
        rw [H.out.len, List.take_length] at this
        exact this
      go_wp2_with fail
      go_loopg [3, 6] i (fun kx s3 s6 wv => ∃ k m : Nat, s3 = .int .i64 m ∧ s6 = .int .i64 k ∧ k ≤ i ∧ i - k ≤ kx ∧ m ≤ 1000000 ∧ Hid (m = total (xs.drop k) ∧ ovr xs = k + ovr (xs.drop k) ∧ Below w.heap.size w wv))
      case atStart => exact ⟨0, m, rfl, rfl, Nat.zero_le _, by omega, hm, by simpa using T0.out, by simp, I.out.2⟩
      case round =>
        obtain ⟨k, m', rfl, rfl, hki, hgk, hm', J⟩ := hrel
        by_cases hov : 384 < m'
        · have hov2 : (384 : Int) < (m' : Int) := by omega
          obtain ⟨x, hx, hd, ho, htt⟩ := ovr_go xs k (by rw [← J.out.1]; exact hov)
          obtain ⟨b, o, rfl, hb, hc⟩ := H.out.cell k x hx
          obtain ⟨c0, c1, c2, c3, c4⟩ := (hc.below J.out.2.2 hb).vals
          have hbw : b < wr.heap.size := Nat.lt_of_lt_of_le hb J.out.2.2.size
          have cs := hide (cS.out x (List.mem_of_getElem? hx))
          have hkn : k < i := by rw [H.out.len]; exact (List.getElem?_eq_some_iff.1 hx).1
          have hkn2 : (k : Int) < (i : Int) := by omega
          have TT : Hid (ovr (xs.drop k) = ovr (xs.drop (k + 1)) + 1) := ho
          have hms : m' = x.size + total (xs.drop (k + 1)) := by rw [← htt]; exact J.out.1
          obtain ⟨r, hr⟩ : ∃ r, r = total (xs.drop (k + 1)) := ⟨_, rfl⟩
          rw [← hr] at hms
          have HR := hide hr
          generalize x.size = sz at cs hms
          have hsub : (m' : Int) - (sz : Int) = (r : Int) := by omega
          have hr6 : r ≤ 1000000 := by omega
          clear hc hx hd ho htt hr hms
          go_wp2_with fail
          refine (cs.out _).mono ?_
          rintro e w1 ⟨rfl, b1⟩
          have B1 := hide (J.out.2.2.trans (b1.mono J.out.2.2.size))
          clear b1
          go_wp2
          go_roundg (i - (k + 1))
          case measure => omega
          case rel => exact ⟨k + 1, r, by first | rfl | go_num, by go_num, by omega, by omega, hr6, HR.out, by have h1 := J.out.2.1; have h2 := TT.out; omega, B1.out⟩
        · have hov2 : ¬ (384 : Int) < (m' : Int) := by omega
          have E : Hid (ovr xs = k) := by
            show _ = _
            have h1 := J.out.2.1
            have h2 : ovr (xs.drop k) = 0 := by
              cases hd : xs.drop k with
              | nil => rfl
              | cons x r => rw [ovr, if_neg (by rw [← hd, ← J.out.1]; exact hov)]
            omega
          go_wp2
          go_ret
          exact ⟨by rw [E.out]; rfl, J.out.2.2⟩

set_option maxHeartbeats 1000000 in
/-- slices.Clone of a slice that is there. -/
theorem clone_any (b o n cap : Nat) (xs : List It) (hn : n = xs.length) (hn63 : n ≤ 1048576) (w : World) (h : ItsAt w (some ⟨b, o, none⟩) n xs) :
    Calls Tryz.prog 35 #[.slice (some ⟨b, o, none⟩) n cap] w fun e w' => ∃ v, e = .returned v ∧ Row w' w.heap.size v xs ∧ Below w.heap.size w w' := by
  have hq : ∀ W : World, (binOp .eql 45 (.slice (some ⟨b, o, none⟩) n cap) (.slice none 0 0)).run Tryz.prog W = .ok (.bool false) W := fun W => Lib.run_eql_slice_nil W 45 39 _ n cap 0 0 Tryz.underlying45
  have hR : Row (w.alloc (.cells #[] 39)) w.heap.size (.slice (some ⟨w.heap.size, 0, none⟩) 0 0) [] := Row.of (pad := []) (Nat.le_refl _) (Blk.new w [] 39) (Nat.le_refl _) (Nat.zero_le _) rfl
  have hI : ItsAt (w.alloc (.cells #[] 39)) (some ⟨b, o, none⟩) xs.length xs := by
    have := h.below ((Below.refl _ w).alloc (Nat.le_refl _) (.cells #[] 39))
    rw [hn] at this
    exact this
  obtain ⟨v', w', h1, h2, h3, h4⟩ := run_app (c := cap) hR hI (by simp; omega) (by simp)
  rw [← hn] at h1
  have T := hide (And.intro h2 h3)
  have HA := hide (h1 45)
  clear h hn hR hI h1 h2 h3 h4
  go_enter Tryz.func35, Tryz.ntmps35
  go_wp2_with (at_builtin; refine Lib.wpList_append_run _ rfl _ _ _ _ rfl _ _ rfl rfl _ _ HA.out ?_)
  go_ret
  refine ⟨v', rfl, by simpa using T.out.1, ?_⟩
  have k := T.out.2
  refine ⟨k.os, k.tape, k.output, ?_, fun q hq => ?_⟩
  · have := k.size; simp at this; omega
  · rw [k.block q (by simp; omega) (by simp [Value.ownBlock]; omega)]
    exact Below.heap_alloc w _ q hq
end Go.Proofs.YtbccnfbombgdmaaGreat

/- 'List' of a slice with whatever room behind it. -/
set_option linter.unusedVariables false
set_option linter.unusedSimpArgs false
namespace Go.Proofs.YtbccnfbombgdmaaGreat
open Go.RowKit Go.Deep Math

set_option maxHeartbeats 1000000 in
theorem list_cap (ht : TakeIs) (a : Option Addr) (n cap : Nat) (l : List UInt8) (hcap : cap ≤ 9223372036854775807) (hn20 : n ≤ 1048576) (w : World) (h : BS w a n cap l) :
    Calls Tryz.prog 64 #[.slice a n cap] w (ListPost w (lst l)) := by
  have H := hide h
  clear h
  go_enter Tryz.func64, Tryz.ntmps64
  go_wp2_with fail
  obtain ⟨i0, hi0, hp0⟩ := Option.map_eq_some_iff.1 info30
  simp only [Prod.mk.injEq] at hp0
  obtain ⟨hz0, hz1, hz2⟩ := hp0
  have hn : n ≤ cap := H.out.cap
  go_loopg [0, 4] n (fun kx s0 s4 wr => ∃ (a' : Option Addr) (n' c' : Nat) (va : Option Addr) (vk vc : Nat), s0 = .slice a' n' c' ∧ s4 = .slice va vk vc ∧ n' ≤ kx ∧ n' ≤ c' ∧ c' ≤ 9223372036854775807 ∧ ∃ (acc : List It) (r : List UInt8), Hid (BS w a' n' c' r ∧ wr.ownsRow w.heap.size 39 5 (.slice va vk vc) acc.length (itsCells acc) ∧ lst l = (lst r).map (acc ++ ·) ∧ Below w.heap.size w wr ∧ acc.length + n' ≤ n))
  case atStart => exact ⟨a, n, cap, none, 0, 0, rfl, rfl, Nat.le_refl _, hn, hcap, [], l, H.out, World.ownsRow_nil _ _ _ _, by cases lst l <;> simp, Below.refl _ _, by simp⟩
  case round =>
    obtain ⟨a', n', c', va, vk, vc, rfl, rfl, hk, hnc, hc20, acc, r, I⟩ := hrel
    have ce := hide (ended_any a' n' c' r wr (I.out.1.later I.out.2.2.2.1))
    cases hE : ended r with
    | true =>
      rw [hE] at ce
      have E : Hid (lst l = some acc) := by
        show _ = _
        rw [I.out.2.2.1, lst_none (by simp [take, hE])]
        simp
      clear hE
      go_wp2_with (go_at_call 81; refine ce.out.mono ?_; rintro r1 w1 ⟨rfl, h1⟩; obtain rfl : wr = w1 := h1.symm; clear h1)
      go_ret2
      rw [E.out]
      exact ⟨I.out.2.2.2.1, _, rfl, I.out.2.1⟩
    | false =>
      rw [hE] at ce
      have ct := hide (ht a' n' c' r (by omega) wr (I.out.1.later I.out.2.2.2.1))
      have hpos : 0 < n' := by
        rcases Nat.eq_zero_or_pos n' with h0 | h0
        · have := I.out.1.len
          rw [h0] at this
          have h2 : r = [] := List.eq_nil_of_length_eq_zero this.symm
          rw [h2] at hE
          simp [ended] at hE
        · exact h0
      obtain ⟨b, off, rfl, _, _⟩ := I.out.1.cell 0 hpos
      cases hT : take r using Tk.elim3 with
      | none => simp [take, hE] at hT; split at hT <;> (try split at hT) <;> simp at hT
      | bad =>
        rw [hT] at ct
        have E : Hid (lst l = none) := by
          show _ = _
          rw [I.out.2.2.1, lst_bad hT]
          rfl
        have etk : tkV Tk.bad = .tuple #[.agg #[.string (txt []), .string (txt []), .int .u32 0, .int .i64 0, .int .u64 0], .int .i64 0, .int .i64 3] := rfl
        rw [etk] at ct
        clear hE hT etk
        generalize txt [] = nb at ct
        go_wp2_with (first
          | (go_at_call 81; refine ce.out.mono ?_; rintro r1 w1 ⟨rfl, h1⟩; obtain rfl : wr = w1 := h1.symm; clear h1)
          | (go_at_call 82; refine ct.out.mono ?_; rintro r1 w1 ⟨rfl, b1⟩; have B1 := hide b1; clear b1))
        go_ret2
        rw [E.out]
        exact ⟨((I.out.2.2.2.1.trans (B1.out.mono I.out.2.2.2.1.size)).alloc (Nat.le_trans I.out.2.2.2.1.size B1.out.size) _), rfl⟩
      | ok x sz =>
        obtain ⟨t1, t2, t3, t4, t5⟩ := take_ok hT
        rw [hT] at ct
        have E : Hid (lst l = (lst (r.drop sz)).map ((acc ++ [x]) ++ ·)) := by
          show _ = _
          rw [I.out.2.2.1, lst_ok hT]
          cases lst (r.drop sz) <;> simp
        have etk : tkV (Tk.ok x sz) = .tuple #[.agg #[.string (txt x.key), .string (txt x.value), .int .u32 x.flags, .int .i64 x.exp, .int .u64 x.ver], .int .i64 sz, .int .i64 0] := rfl
        rw [etk] at ct
        have hsz : sz ≤ n' := by rw [I.out.1.len]; exact t4
        have hsp : 0 < sz := by rw [t3]; exact x.size_pos
        have hszi : (sz : Int) ≤ (n' : Int) := by omega
        have SP := hide hsp
        have SZ := hide hsz
        clear hE hT etk t1 t2 t3 t4 t5 hsp hsz
        have hac : acc.length ≤ 1048576 := by have := I.out.2.2.2.2; omega
        go_wp2_with (first
          | (go_at_call 81; refine ce.out.mono ?_; rintro r1 w1 ⟨rfl, h1⟩; obtain rfl : wr = w1 := h1.symm; clear h1)
          | (go_at_call 82; refine ct.out.mono ?_; rintro r1 w1 ⟨rfl, b1⟩; have B1 := hide b1; clear b1)
          | (at_builtin; refine wpList_append_own _ rfl _ _ 45 rfl w.heap.size 39 i0 _ 5 56 Tryz.underlying45 hi0 hz0 hz1 hz2 rfl (by decide) _ _ _ rfl (((rown_below I.out.2.1 B1.out).alloc _).alloc _) ⟨w1.heap.size + 1, 0, none⟩ 1 1 (itCells x) rfl ?qc1 ?qc2 ?qc3 ?qc4 ?qc5 ?qc6 ?_))
        case qc1 => rfl
        case qc2 =>
          intro j u hj
          rw [Addr.add_lit, Nat.zero_add]
          have hh := (Blk.new (w1.alloc (.cells #[.string (txt x.key), .string (txt x.value), .int .u32 x.flags, .int .i64 x.exp, .int .u64 x.ver] 39)) (itCells x) 39).cell hj
          rw [nblk_alloc] at hh
          exact hh
        case qc3 => intro u hu; simp [itCells] at hu; rcases hu with rfl | rfl | rfl | rfl | rfl <;> rfl
        case qc4 => unfold maxLen; omega
        case qc5 => omega
        case qc6 => have := I.out.2.2.2.1.size; have := B1.out.size; simp; omega
        intro v' w2 hown hgrow hnil
        obtain ⟨g2, cp2, rfl⟩ : ∃ g2 cp2, v' = .slice (some ⟨g2, 0, none⟩) (acc.length + 1) cp2 := by
          rcases hown.2 with ⟨_, h0⟩ | ⟨g2, cp2, _, hv, _⟩
          · omega
          · exact ⟨g2, cp2, hv⟩
        have hB2 : Below w.heap.size w w2 := by
          have h1 := I.out.2.2.2.1.trans (B1.out.mono I.out.2.2.2.1.size)
          have h2 := (h1.alloc h1.size (.cells #[.string (txt x.key), .string (txt x.value), .int .u32 x.flags, .int .i64 x.exp, .int .u64 x.ver] 39))
          have h3 := (h2.alloc h2.size (.cells #[.string (txt x.key), .string (txt x.value), .int .u32 x.flags, .int .i64 x.exp, .int .u64 x.ver] 39))
          exact h3.grown hgrow h3.size (fun k hk => (I.out.2.1.lt k hk).1)
        rw [itsCells_snoc] at hown
        have FO := hide hown
        have FB := hide hB2
        clear hown hgrow hnil hB2
        have hl : Hid (acc.length + 1 = (acc ++ [x]).length) := by show _ = _; simp
        have szl : Hid (n' - sz = (r.drop sz).length) := by show _ = _; rw [List.length_drop, ← I.out.1.len]
        by_cases hce : c' = sz
        · have hc2 : (c' = sz) = True := eq_true hce
          have HCE := hide hce
          clear hce
          go_wp2
          go_roundg (n' - sz)
          case measure => have := SP.out; omega
          case rel =>
            refine ⟨_, n' - sz, c' - sz, _, _, _, rfl, rfl, Nat.le_refl _, by omega, by omega, acc ++ [x], r.drop sz, ?_, ?_, E.out, FB.out, ?_⟩
            · have h0 : r.drop sz = [] := List.eq_nil_of_length_eq_zero (by have := szl.out; have := HCE.out; omega)
              rw [h0]
              have := HCE.out
              exact ⟨by simp; omega, by omega, Reads.nil _ _, fun i hi => absurd hi (by omega)⟩
            · rw [← hl.out]; exact FO.out
            · rw [← hl.out]; have := I.out.2.2.2.2; have := SP.out; have := SZ.out; omega
        · go_wp2
          go_roundg (n' - sz)
          case measure => have := SP.out; omega
          case rel =>
            refine ⟨_, n' - sz, c' - sz, _, _, _, rfl, rfl, Nat.le_refl _, by omega, by omega, acc ++ [x], r.drop sz, ?_, ?_, E.out, FB.out, ?_⟩
            · have h0 := I.out.1.sub sz n' (off + sz) (n' - sz) (c' - sz) rfl SZ.out (Nat.le_refl _) rfl (by omega)
              rw [show sl r sz n' = r.drop sz by unfold sl; rw [I.out.1.len, List.take_length]] at h0
              exact h0
            · rw [← hl.out]; exact FO.out
            · rw [← hl.out]; have := I.out.2.2.2.2; have := SP.out; have := SZ.out; omega
end Go.Proofs.YtbccnfbombgdmaaGreat

/- 'Take', of what has the form. -/
set_option linter.unusedVariables false
set_option linter.unusedSimpArgs false
namespace Go.Proofs.YtbccnfbombgdmaaGreat
open Go.RowKit Go.Deep Math

/-- 'string(b)'. -/
theorem str_bs {w : World} {a : Option Addr} {n cap : Nat} {l : List UInt8} (h : BS w a n cap l) (hnil : a = none → l = []) : (convert 40 9 (.slice a n cap)).run Tryz.prog w = .ok (.string (txt l)) w := by
  have hn := h.len
  subst hn
  cases a with
  | none =>
    rw [hnil rfl, run_convert_bytes_string w 40 9 5 none _ cap Tryz.underlying40 Tryz.underlying5 Tryz.underlying9]
    unfold Conv.bytesToString
    simp [Sem.run_bind, Result.andThen]
    rfl
  | some x =>
    refine run_convert_bytes_back w 40 9 5 x cap l Tryz.underlying40 Tryz.underlying5 Tryz.underlying9 (fun j hj => ?_)
    obtain ⟨b, off, ha, _, hc⟩ := h.cell j hj
    cases ha
    rw [Addr.add_lit, hc]
    simp [List.getD_eq_getElem?_getD, List.getElem?_eq_getElem hj]

theorem bs_box {w V : World} {b off n cap : Nat} {l : List UInt8} (h : BS V (some ⟨b, off, none⟩) n cap l) (hne : b ≠ w.heap.size) (p1 p2 p3 p4 p5 : Value) :
    BS (((((V.setCell ⟨w.heap.size, 0, none⟩ p1).setCell ⟨w.heap.size, 1, none⟩ p2).setCell ⟨w.heap.size, 2, none⟩ p3).setCell ⟨w.heap.size, 3, none⟩ p4).setCell ⟨w.heap.size, 4, none⟩ p5).drew (some ⟨b, off, none⟩) n cap l := by
  obtain ⟨X, hX⟩ : ∃ X, X = (((((V.setCell ⟨w.heap.size, 0, none⟩ p1).setCell ⟨w.heap.size, 1, none⟩ p2).setCell ⟨w.heap.size, 2, none⟩ p3).setCell ⟨w.heap.size, 3, none⟩ p4).setCell ⟨w.heap.size, 4, none⟩ p5) := ⟨_, rfl⟩
  have e : X.heap[b]? = V.heap[b]? := by
    rw [hX]
    exact ((((blk_setCell_other _ _ _ _ hne).trans (blk_setCell_other _ _ _ _ hne)).trans (blk_setCell_other _ _ _ _ hne)).trans (blk_setCell_other _ _ _ _ hne)).trans (blk_setCell_other _ _ _ _ hne)
  rw [← hX]
  refine BS.mk' h.len h.cap ⟨fun i hi => ?_, h.reads.2⟩
  obtain ⟨b', off', ha, hc⟩ := h.reads.1 i hi
  simp only [Option.some.injEq, Addr.mk.injEq, and_true] at ha
  obtain ⟨rfl, rfl⟩ := ha
  exact ⟨b, off, rfl, (World.cell?_of_block (a := ⟨b, off + i, none⟩) (show X.drew.heap[b]? = V.heap[b]? from e)).trans hc⟩
end Go.Proofs.YtbccnfbombgdmaaGreat
