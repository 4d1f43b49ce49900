/- What the laws say of a table: rows of texts, calls as they come in, the table as the world goes on. -/
import Derived.Test.YtkjfildnemgbiaaTb9
import Derived.ChangeSlices
import Derived.ChangeMaps
import Derived.SliceStrings
import Derived.Deep.Slices
import Derived.SizedLaws
set_option linter.unusedVariables false
set_option linter.unusedSimpArgs false
set_option maxRecDepth 8000
namespace Go.Proofs.Ytkjfildnemgbiaa
open Go.RowKit Go.Deep Go.Shelf Go.ChangeShapes Go.WideShapes Math Tab Go.Sort

/-! ### Rows that are read -/
def RdA (W : World) (a : Option Addr) (ss : List (List UInt8)) : Prop := ∀ i x, ss[i]? = some x → ∃ b o, a = some ⟨b, o, none⟩ ∧ W.cell? ⟨b, o + i, none⟩ = some (.string (txt x))
theorem SR.rd {B : Nat} {W : World} {a : Option Addr} {n c : Nat} {ss : List (List UInt8)} (h : SR B (.slice a n c) ss W) : RdA W a ss := fun i x hx => by
  obtain ⟨g, c', hv, hc, _⟩ := h.cell hx
  simp only [Value.slice.injEq] at hv
  exact ⟨g, 0, hv.1, by rw [Nat.zero_add]; exact hc⟩
theorem RdA.same {W W' : World} {a : Option Addr} {ss : List (List UInt8)} (h : RdA W a ss) (e : W'.heap = W.heap) : RdA W' a ss := fun i x hx => by
  obtain ⟨b, o, ha, hc⟩ := h i x hx
  exact ⟨b, o, ha, (World.cell?_of_block (by rw [e])).trans hc⟩
theorem txt_ne (a b : List UInt8) : ((txt a).toList != (txt b).toList) = !decide (a = b) := by
  rw [bne, txt_eq]
theorem ret_bool {a b : Bool} (h : a = b) : Ending.returned (.bool a) = .returned (.bool b) := by rw [h]
theorem take_eq_step {α : Type} {l m : List α} {i : Nat} {x y : α} (hx : l[i]? = some x) (hy : m[i]? = some y) (h : l.take i = m.take i) (e : x = y) : l.take (i + 1) = m.take (i + 1) := by
  obtain ⟨h1, h2⟩ := List.getElem?_eq_some_iff.1 hx
  obtain ⟨h3, h4⟩ := List.getElem?_eq_some_iff.1 hy
  rw [List.take_succ_eq_append_getElem h1, List.take_succ_eq_append_getElem h3, h, h2, h4, e]
set_option maxHeartbeats 1000000 in
theorem texts_any (a1 a2 : Option Addr) (c1 c2 : Nat) (s1 s2 : List (List UInt8)) (w : World) (h1 : RdA w a1 s1) (h2 : RdA w a2 s2) (n1 : s1.length ≤ 1048576) :
    Calls Try.prog 24 #[.slice a1 s1.length c1, .slice a2 s2.length c2] w fun e w' => e = .returned (.bool (decide (s1 = s2))) ∧ ∃ q, w' = w.drewN q := by
  by_cases hl : s1.length = s2.length
  · rw [← hl]
    obtain ⟨n, hn⟩ : ∃ n, n = s1.length := ⟨_, rfl⟩
    rw [← hn] at n1 ⊢
    have H1 := hide h1
    have H2 := hide h2
    have HL := hide hl
    have HN := hide hn
    clear h1 h2 hl hn
    go_enter Try.func24, Try.ntmps24
    go_wp2
    go_loopg [5] n (fun kx s5 wr => ∃ (i q : Nat), s5 = .int .i64 i ∧ wr = w.drewN q ∧ Hid (i ≤ n ∧ n - i ≤ kx ∧ s1.take i = s2.take i))
    case atStart => exact ⟨0, 0, rfl, rfl, Nat.zero_le _, Nat.le_refl _, by simp⟩
    case round =>
      obtain ⟨i, q, rfl, hwr, I⟩ := hrel
      by_cases hlt : i < n
      · have hlt2 : (i : Int) < (n : Int) := by omega
        have g1 := List.getElem?_eq_getElem (l := s1) (i := i) (by rw [← HN.out]; exact hlt)
        have g2 := List.getElem?_eq_getElem (l := s2) (i := i) (by rw [← HL.out, ← HN.out]; exact hlt)
        obtain ⟨x, hx⟩ : ∃ x, x = s1[i]'(by rw [← HN.out]; exact hlt) := ⟨_, rfl⟩
        obtain ⟨y, hy⟩ : ∃ y, y = s2[i]'(by rw [← HL.out, ← HN.out]; exact hlt) := ⟨_, rfl⟩
        rw [← hx] at g1
        rw [← hy] at g2
        clear hx hy
        obtain ⟨b1, o1, rfl, k1⟩ := H1.out i x g1
        obtain ⟨b2, o2, rfl, k2⟩ := H2.out i y g2
        have k1' : wr.cell? ⟨b1, o1 + i, none⟩ = some (.string (txt x)) := by rw [hwr, World.cell?_drewN]; exact k1
        have k2' : wr.cell? ⟨b2, o2 + i, none⟩ = some (.string (txt y)) := by rw [hwr, World.cell?_drewN]; exact k2
        have he := txt_eq x y
        have hb := txt_ne x y
        have HW := hide hwr
        have G1 := hide g1
        have G2 := hide g2
        clear k1 k2 hwr g1 g2
        by_cases hxy : x = y
        · rw [decide_eq_true hxy] at he hb
          have HXY := hide hxy
          clear hxy
          generalize txt x = tx at *
          generalize txt y = ty at *
          go_wp2
          go_quiet (fail)
          go_wp2
          go_roundg (n - (i + 1))
          case measure => have := I.out.2.1; omega
          case rel =>
            obtain ⟨q2, hq2⟩ := drewN_more HW.out _
            exact ⟨i + 1, q2, rfl, hq2, by omega, Nat.le_refl _, take_eq_step G1.out G2.out I.out.2.2 HXY.out⟩
        · rw [decide_eq_false hxy] at he hb
          have HXY := hide hxy
          clear hxy
          generalize txt x = tx at *
          generalize txt y = ty at *
          go_wp2
          go_quiet (fail)
          go_wp2
          go_ret
          refine ⟨ret_bool ?_, drewN_more HW.out _⟩
          rw [decide_eq_false]
          intro e
          have h1 := G1.out
          rw [e, G2.out] at h1
          exact HXY.out (Option.some.inj h1).symm
      · have hlt2 : ¬ (i : Int) < (n : Int) := by omega
        have HW := hide hwr
        clear hwr
        go_wp2
        go_ret
        refine ⟨ret_bool ?_, q, HW.out⟩
        have h3 := I.out.2.2
        rw [List.take_of_length_le (by have := HN.out; omega), List.take_of_length_le (by have := HN.out; have := HL.out; omega)] at h3
        rw [decide_eq_true h3]
  · rw [decide_eq_false (fun e => hl (by rw [e]))]
    have hl2 : ¬ (s1.length : Int) = (s2.length : Int) := by omega
    have hl3 : ((s1.length : Int) != (s2.length : Int)) = true := by simpa using hl2
    have hl4 : ((s1.length : Int) == (s2.length : Int)) = false := by simpa using hl2
    clear h1 h2
    generalize s1.length = n at *
    generalize s2.length = m at *
    go_enter Try.func24, Try.ntmps24
    go_wp2
    go_ret
    exact ⟨rfl, 0, rfl⟩
set_option maxHeartbeats 1000000 in
theorem holds_any (a : Option Addr) (c : Nat) (ss : List (List UInt8)) (s : List UInt8) (w : World) (h : RdA w a ss) (n1 : ss.length ≤ 1048576) :
    Calls Try.prog 26 #[.slice a ss.length c, .string (txt s)] w fun e w' => e = .returned (.bool (decide (s ∈ ss))) ∧ w' = w := by
  obtain ⟨n, hn⟩ : ∃ n, n = ss.length := ⟨_, rfl⟩
  rw [← hn] at n1 ⊢
  have H1 := hide h
  have HN := hide hn
  clear h hn
  go_enter Try.func26, Try.ntmps26
  go_wp2
  go_loopg [5] n (fun kx s5 wr => ∃ (i : Nat), s5 = .int .i64 i ∧ wr = w ∧ Hid (i ≤ n ∧ n - i ≤ kx ∧ s ∉ ss.take i))
  case atStart => exact ⟨0, rfl, rfl, Nat.zero_le _, Nat.le_refl _, by simp⟩
  case round =>
    obtain ⟨i, rfl, rfl, I⟩ := hrel
    by_cases hlt : i < n
    · have hlt2 : (i : Int) < (n : Int) := by omega
      have g1 := List.getElem?_eq_getElem (l := ss) (i := i) (by rw [← HN.out]; exact hlt)
      obtain ⟨x, hx⟩ : ∃ x, x = ss[i]'(by rw [← HN.out]; exact hlt) := ⟨_, rfl⟩
      rw [← hx] at g1
      clear hx
      obtain ⟨b1, o1, rfl, k1⟩ := H1.out i x g1
      have he := txt_eq x s
      have G1 := hide g1
      clear g1
      by_cases hxy : x = s
      · rw [decide_eq_true hxy] at he
        have HXY := hide hxy
        clear hxy
        generalize txt x = tx at *
        generalize txt s = ty at *
        go_wp2
        go_ret
        refine ⟨ret_bool ?_, rfl⟩
        rw [decide_eq_true]
        rw [← HXY.out]
        exact List.mem_of_getElem? G1.out
      · rw [decide_eq_false hxy] at he
        have HXY := hide hxy
        clear hxy
        generalize txt x = tx at *
        generalize txt s = ty at *
        go_wp2
        go_roundg (n - (i + 1))
        case measure => have := I.out.2.1; omega
        case rel =>
          refine ⟨i + 1, rfl, rfl, by omega, Nat.le_refl _, fun hm => ?_⟩
          obtain ⟨h1, h2⟩ := List.getElem?_eq_some_iff.1 G1.out
          rw [List.take_succ_eq_append_getElem h1, List.mem_append] at hm
          rcases hm with hm | hm
          · exact I.out.2.2 hm
          · rw [h2] at hm
            simp at hm
            exact HXY.out hm.symm
    · have hlt2 : ¬ (i : Int) < (n : Int) := by omega
      go_wp2
      go_ret
      refine ⟨ret_bool ?_, rfl⟩
      have h3 := I.out.2.2
      rw [List.take_of_length_le (by have := HN.out; omega)] at h3
      rw [decide_eq_false h3]

/-! ### The table as the world goes on -/
structure TL (w0 : World) (f : Nat) (t : Tb) (W : World) : Prop where
  tm : ∃ F, TM f t F W ∧ ∀ b ∈ F, w0.heap.size ≤ b
  bel : Below w0.heap.size w0 W
section
variable {w0 W W' : World} {f : Nat} {t : Tb}
theorem TL.good (h : TL w0 f t W) : Tab.Good hsh t := by obtain ⟨F, T, _⟩ := h.tm; exact T.good
theorem TL.on (h : TL w0 f t W) (b : Below W.heap.size W W') : TL w0 f t W' := by
  obtain ⟨F, T, hF⟩ := h.tm
  exact ⟨⟨F, T.below b, hF⟩, h.bel.trans (b.mono h.bel.size)⟩
theorem TL.drewN (h : TL w0 f t W) (q : Nat) : TL w0 f t (W.drewN q) := by
  obtain ⟨F, T, hF⟩ := h.tm
  exact ⟨⟨F, T.drewN q, hF⟩, ⟨h.bel.os, h.bel.tape, h.bel.output, h.bel.size, h.bel.block⟩⟩
theorem TL.moves {F F' : List Nat} {t' : Tb} (h : TL w0 f t W) (hF : ∀ b ∈ F, w0.heap.size ≤ b) (T : TM f t' F' W') (M : Moves F F' W W') : TL w0 f t' W' :=
  ⟨⟨F', T, fun b hb => by
    rcases M.foot b hb with h1 | h1
    · exact hF b h1
    · exact Nat.le_trans h.bel.size h1⟩, h.bel.trans (M.keep.below hF h.bel.size)⟩
theorem new_l (b : Below w0.heap.size w0 W) (n : Nat) (h : pw (n : Int) = true) :
    Calls Try.prog 10 #[.int .i64 (n : Int)] W fun e W' => ∃ f, e = .returned (.tuple #[.pointer (some ⟨f, 0, none⟩), .int .i64 0]) ∧ TL w0 f (Tb.mk0 n) W' := by
  refine (new_any n W h).mono ?_
  rintro e W' ⟨rfl, T, B⟩
  refine ⟨_, rfl, ⟨_, T, fun x hx => ?_⟩, b.trans (B.mono b.size)⟩
  have := b.size
  simp at hx
  omega
theorem set_l (h : TL w0 f t W) (key : List UInt8) (hk : key.length ≤ 281474976710656) (v : Int) (hc : t.all.length ≤ 100000) :
    Calls Try.prog 15 #[.pointer (some ⟨f, 0, none⟩), .string (txt key), .int .i64 v] W fun e W' => e = .returned (.bool (t.isNew hsh key)) ∧ TL w0 f (t.setT hsh key v) W' := by
  obtain ⟨F, T, hF⟩ := h.tm
  refine (set_any T key hk v hc).mono ?_
  rintro e W' ⟨rfl, F', T', M⟩
  exact ⟨rfl, h.moves hF T' M⟩
theorem delete_l (h : TL w0 f t W) (key : List UInt8) (hk : key.length ≤ 281474976710656) (hc : t.all.length ≤ 100000) :
    Calls Try.prog 17 #[.pointer (some ⟨f, 0, none⟩), .string (txt key)] W fun e W' => e = .returned (.bool (fnd key t.all).isSome) ∧ TL w0 f (t.delT hsh key) W' := by
  obtain ⟨F, T, hF⟩ := h.tm
  refine (delete_any T key (by unfold maxLen; omega) hc).mono ?_
  rintro e W' ⟨rfl, F', T', M⟩
  exact ⟨rfl, h.moves hF T' M⟩
theorem get_l (h : TL w0 f t W) (key : List UInt8) (hk : key.length ≤ 281474976710656) :
    Calls Try.prog 11 #[.pointer (some ⟨f, 0, none⟩), .string (txt key)] W fun e W' => e = .returned (.tuple #[.int .i64 ((fnd key t.all).getD 0), .bool (fnd key t.all).isSome]) ∧ TL w0 f t W' := by
  obtain ⟨F, T, hF⟩ := h.tm
  refine (get_tm T key (by unfold maxLen; omega)).mono ?_
  rintro e W' ⟨rfl, q, rfl⟩
  exact ⟨rfl, h.drewN q⟩
theorem len_l (h : TL w0 f t W) : Calls Try.prog 20 #[.pointer (some ⟨f, 0, none⟩)] W fun e W' => e = .returned (.int .i64 (t.all.length : Int)) ∧ W' = W := by
  obtain ⟨F, T, hF⟩ := h.tm
  exact len_tm T
theorem buckets_l (h : TL w0 f t W) : Calls Try.prog 21 #[.pointer (some ⟨f, 0, none⟩)] W fun e W' => e = .returned (.int .i64 (t.nw.length : Int)) ∧ W' = W := by
  obtain ⟨F, T, hF⟩ := h.tm
  exact buckets_tm T
theorem left_l (h : TL w0 f t W) : Calls Try.prog 22 #[.pointer (some ⟨f, 0, none⟩)] W fun e W' => e = .returned (.int .i64 (t.od.length : Int)) ∧ W' = W := by
  obtain ⟨F, T, hF⟩ := h.tm
  exact left_tm T
theorem chain_l (h : TL w0 f t W) (i : Int) (hc : t.all.length ≤ 100000) :
    Calls Try.prog 12 #[.pointer (some ⟨f, 0, none⟩), .int .i64 i] W fun e W' => ∃ va vc, e = .returned (.slice va (chK t i).length vc) ∧ SR W.heap.size (.slice va (chK t i).length vc) (chK t i) W' ∧ TL w0 f t W' := by
  obtain ⟨F, T, hF⟩ := h.tm
  refine (chain_tm T i hc).mono ?_
  rintro e W' ⟨va, vc, rfl, R, B⟩
  exact ⟨va, vc, rfl, R, h.on B⟩
theorem keys_l (h : TL w0 f t W) (hc : t.all.length ≤ 100000) :
    Calls Try.prog 13 #[.pointer (some ⟨f, 0, none⟩)] W fun e W' => ∃ g cap, e = .returned (.slice (some ⟨g, 0, none⟩) t.all.length cap) ∧ SR W.heap.size (.slice (some ⟨g, 0, none⟩) t.all.length cap) (sortK (keysOf t.all)) W' ∧ TL w0 f t W' := by
  obtain ⟨F, T, hF⟩ := h.tm
  refine (keys_tm T hc).mono ?_
  rintro e W' ⟨va, vc, rfl, R, B⟩
  exact ⟨va, vc, rfl, R, h.on B⟩
end

/-! ### Texts and calls as they come in -/
theorem weights_all {H : Type} {P : Program} {e : TypeId} : ∀ {ds : List (DataW H)} {d : DataW H}, d ∈ ds → ∀ n ∈ d.weights P e, n ∈ DataW.weightsAll P e ds
  | d' :: r, d, hd, n, hn => by
    simp only [DataW.weightsAll, List.mem_append]
    rcases List.mem_cons.1 hd with rfl | hd
    · exact .inl hn
    · exact .inr (weights_all hd n hn)
structure StrsAt (w : World) (a : Option Addr) (len : Nat) (xs : List (List UInt8)) : Prop where
  len : len = xs.length
  fits : ∀ x ∈ xs, x.length ≤ 281474976710656
  cell : ∀ i x, xs[i]? = some x → ∃ b o, a = some ⟨b, o, none⟩ ∧ b < w.heap.size ∧ w.cell? ⟨b, o + i, none⟩ = some (.string (txt x))
theorem StrsAt.rd {w W : World} {a : Option Addr} {len : Nat} {xs : List (List UInt8)} (h : StrsAt w a len xs) (k : Below w.heap.size w W) : RdA W a xs := fun i x hx => by
  obtain ⟨b, o, ha, hb, hc⟩ := h.cell i x hx
  exact ⟨b, o, ha, (World.cell?_of_block (k.block b hb)).trans hc⟩
theorem StrsAt.key {w : World} {a : Option Addr} {len : Nat} {xs : List (List UInt8)} (h : StrsAt w a len xs) {W : World} (k : Below w.heap.size w W) (i : Nat) (hi : i < len) :
    ∃ b o x, a = some ⟨b, o, none⟩ ∧ xs[i]? = some x ∧ x.length ≤ 281474976710656 ∧ W.cell? ⟨b, o + i, none⟩ = some (.string (txt x)) := by
  have hx := List.getElem?_eq_getElem (l := xs) (i := i) (by rw [← h.len]; exact hi)
  obtain ⟨b, o, ha, hb, hc⟩ := h.cell i _ hx
  exact ⟨b, o, _, ha, hx, h.fits _ (List.getElem_mem _), (World.cell?_of_block (k.block b hb)).trans hc⟩
theorem strs_open {H : Type} {enc : TypeId × Value → H} {W : World} {fuel : Nat} {a0 : Option Addr} {len0 cap0 : Nat} {x : DataW H × List MemPlace} (h : DataW.trod enc Try.prog W 0 (fun _ => true) true fuel 29 [.slice a0 len0 cap0] = some x)
    (hw : ∀ n ∈ x.1.weights Try.prog 29, n ≤ reachBytes) : ∃ xs, StrsAt W a0 len0 xs := by
  rcases open_strings Try.underlying29 Try.underlying9 (by kernel_rfl) h with ⟨hcs, _⟩ | ⟨a, len, cap, ss, hcs, hb, hl, hm, hss, hx, hcell, hmx⟩
  · simp at hcs
    obtain ⟨rfl, rfl, rfl⟩ := hcs
    exact ⟨[], rfl, fun x hx => by simp at hx, fun i x hx => by simp at hx⟩
  · simp only [List.cons.injEq, Value.slice.injEq, and_true] at hcs
    obtain ⟨rfl, rfl, rfl⟩ := hcs
    have hss' : ss.length = cap0 := by simpa using hss
    refine ⟨(ss.take len0).map fun s => s.data.toList, by rw [List.length_map, List.length_take]; omega, fun s hs => ?_, fun i s hs => ?_⟩
    · obtain ⟨s, hs', rfl⟩ := List.mem_map.1 hs
      have hw2 := hw s.data.toList.length (by
        rw [hx]
        simp only [DataW.weights, Try.underlying29, List.mem_cons, List.mem_append]
        refine .inr (.inl (weights_all (d := .lit (.string s.data.toList)) ?_ _ (by simp [DataW.weights])))
        exact List.mem_map.2 ⟨s, hs', rfl⟩)
      have e : reachBytes = 140737488351232 := by decide
      omega
    · rw [List.getElem?_map, Option.map_eq_some_iff] at hs
      obtain ⟨s, hs, rfl⟩ := hs
      have hi : i < len0 ∧ i < ss.length := by
        have := (List.getElem?_eq_some_iff.1 hs).1; rw [List.length_take] at this; omega
      have hc := hcell i hi.2
      have hsi : ss.getD i ByteArray.empty = s := by
        rw [List.getElem?_take, if_pos hi.1] at hs
        rw [List.getD_eq_getElem?_getD, hs]; rfl
      rw [hsi] at hc
      have hsp : a.spot = none := by
        have := World.cell?_spot (hcell 0 (by omega))
        simpa [Addr.add] using this
      obtain ⟨b, off, sp⟩ := a
      simp only at hsp
      subst hsp
      rw [Addr.add_lit] at hc
      exact ⟨b, off, rfl, block_lt_of_cell hc, by rw [txt_data]; exact hc⟩
/-- One call of a law's row. -/
structure ActI where
  op : Int
  v : Int
  k : List UInt8
def ActI.fits (t : ActI) : Prop := (-9223372036854775808 ≤ t.op ∧ t.op ≤ 9223372036854775807) ∧ (-9223372036854775808 ≤ t.v ∧ t.v ≤ 9223372036854775807) ∧ t.k.length ≤ 281474976710656
theorem cells36 : Try.prog.cellsOf 36 = 3 := by kernel_rfl
theorem cells3 : Try.prog.cellsOf 3 = 1 := by kernel_rfl
theorem cells9 : Try.prog.cellsOf 9 = 1 := by kernel_rfl
theorem wf_i64 {z : Int} (h : (Lit.int .i64 z).wf = true) : -9223372036854775808 ≤ z ∧ z ≤ 9223372036854775807 := by
  have h1 : IntKind.i64.min = -9223372036854775808 := rfl
  have h2 : IntKind.i64.max = 9223372036854775807 := rfl
  simp [Lit.wf, h1, h2] at h
  exact h
structure OneAct (w : World) (b o : Nat) (x : ActI) : Prop where
  c0 : w.cell? ⟨b, o, none⟩ = some (.int .i64 x.op)
  c1 : w.cell? ⟨b, o + 1, none⟩ = some (.int .i64 x.v)
  c2 : w.cell? ⟨b, o + 2, none⟩ = some (.string (txt x.k))
theorem OneAct.below {w w' : World} {b o : Nat} {x : ActI} {B : Nat} (h : OneAct w b o x) (k : Below B w w') (hb : b < B) : OneAct w' b o x :=
  ⟨(k.cell (p := ⟨b, o, none⟩) hb).trans h.c0, (k.cell (p := ⟨b, o + 1, none⟩) hb).trans h.c1, (k.cell (p := ⟨b, o + 2, none⟩) hb).trans h.c2⟩
/-- A slice of calls. -/
structure ActsAt (w : World) (a : Option Addr) (len : Nat) (xs : List ActI) : Prop where
  len : len = xs.length
  fits : ∀ x ∈ xs, x.fits
  cell : ∀ i x, xs[i]? = some x → ∃ b o, a = some ⟨b, o, none⟩ ∧ b < w.heap.size ∧ OneAct w b (o + i * 3) x
theorem choose_lt {α : Type} (dflt : α) {n : Nat} {p : Nat → α → Prop} (h : ∀ i, i < n → ∃ t, p i t) : ∃ T : Nat → α, ∀ i, i < n → p i (T i) :=
  ⟨fun i => if hi : i < n then Classical.choose (h i hi) else dflt, fun i hi => by simp only [hi, dif_pos]; exact Classical.choose_spec (h i hi)⟩
set_option maxHeartbeats 400000 in
theorem acts_open {H : Type} {enc : TypeId × Value → H} {W : World} {fuel : Nat} {a0 : Option Addr} {len0 cap0 : Nat} {x : DataW H × List MemPlace} (h : DataW.trod enc Try.prog W 0 (fun _ => true) true fuel 32 [.slice a0 len0 cap0] = some x)
    (hw : ∀ n ∈ x.1.weights Try.prog 32, n ≤ reachBytes) : ∃ xs, ActsAt W a0 len0 xs := by
  rcases open_slice Try.underlying32 h with ⟨hcs, _⟩ | ⟨a, len, cap, m, n, D, Pl, hcs, _, hl, hm, hmm, hx, hel⟩
  · simp at hcs
    obtain ⟨rfl, rfl, rfl⟩ := hcs
    exact ⟨[], rfl, fun x hx => by simp at hx, fun i x hx => by simp at hx⟩
  · simp only [List.cons.injEq, Value.slice.injEq, and_true] at hcs
    obtain ⟨rfl, rfl, rfl⟩ := hcs
    have hmc : m = cap0 := by simpa using hmm
    by_cases h0 : len0 = 0
    · subst h0; exact ⟨[], rfl, fun x hx => by simp at hx, fun i x hx => by simp at hx⟩
    have hspot : a.spot = none := by
      obtain ⟨cs', h1, h2⟩ := hel 0 (by omega)
      rw [cells36] at h1
      obtain ⟨_, hlen, hcell⟩ := World.cells?_some h1
      match cs', hlen with
      | [v0, v1, v2], _ =>
        have e0 := hcell 0 (by omega)
        have := World.cell?_spot (v := v0) (by simpa using e0)
        simpa [Addr.add] using this
    obtain ⟨b, off, sp⟩ := a
    simp only at hspot
    subst hspot
    have each : ∀ i, i < len0 → ∃ t : ActI, t.fits ∧ OneAct W b (off + i * 3) t := by
      intro i hi
      obtain ⟨cs', h1, h2⟩ := hel i (by omega)
      rw [cells36] at h1
      obtain ⟨_, hlen, hcell⟩ := World.cells?_some h1
      have hwi : ∀ k ∈ (D i).weights Try.prog 36, k ≤ reachBytes := fun k hk => by
        refine hw k ?_
        rw [hx]
        simp only [DataW.weights, Try.underlying32, List.mem_cons, List.mem_append]
        refine .inr (.inl (weights_all (d := D i) ?_ k hk))
        exact List.mem_map.2 ⟨i, List.mem_range.2 hi, rfl⟩
      obtain ⟨xs, k, hk, hxy, _, hxl, hf⟩ := DataW.trod_struct Try.underlying36 h2
      match xs, hxl, cs', hlen with
      | [y0, y1, y2], _, [v0, v1, v2], _ =>
        have g0 := hf 0 _ rfl
        have g1 := hf 1 _ rfl
        have g2 := hf 2 _ rfl
        simp at g0 g1 g2
        simp only [cells3, cells9] at g0 g1 g2
        simp only [List.take_succ_cons, List.take_zero] at g0 g1 g2
        simp only [Prod.mk.injEq] at hxy
        obtain ⟨n0, hv0, _, w0⟩ := DataW.trod_int Try.underlying3 g0
        obtain ⟨n1, hv1, _, w1⟩ := DataW.trod_int Try.underlying3 g1
        obtain ⟨s2, hv2, hd2, w2⟩ := DataW.trod_string Try.underlying9 g2
        have hs2 : s2.size ≤ reachBytes := by
          have := hwi s2.data.toList.length (by
            rw [hxy.1]
            simp only [DataW.weights, Try.underlying36]
            simp [DataW.weightsEach, hd2, DataW.weights])
          rw [Array.length_toList] at this
          exact this
        simp only [List.cons.injEq, and_true] at hv0 hv1 hv2
        subst hv0 hv1 hv2
        have e0 := hcell 0 (by omega)
        have e1 := hcell 1 (by omega)
        have e2 := hcell 2 (by omega)
        rw [Addr.add_lit, Addr.add_lit] at e0 e1 e2
        have er : reachBytes = 140737488351232 := by decide
        refine ⟨⟨n0, n1, s2.data.toList⟩, ⟨wf_i64 w0, wf_i64 w1, ?_⟩, by simpa using e0, by simpa using e1, ?_⟩
        · show s2.data.toList.length ≤ _
          rw [Array.length_toList]
          have : s2.data.size = s2.size := rfl
          omega
        · show W.cell? ⟨b, off + i * 3 + 2, none⟩ = some (Value.string (txt s2.data.toList))
          rw [txt_data]
          simpa using e2
    obtain ⟨T, hT⟩ := choose_lt (⟨0, 0, []⟩ : ActI) each
    refine ⟨(List.range len0).map T, by simp, fun x hx => ?_, fun i t ht => ⟨b, off, rfl, ?_, ?_⟩⟩
    · obtain ⟨i, hi, rfl⟩ := List.mem_map.1 hx
      exact (hT i (List.mem_range.1 hi)).1
    · exact block_lt_of_cell (a := ⟨b, off + 0 * 3, none⟩) (hT 0 (by omega)).2.c0
    · have hi : i < len0 := by have := (List.getElem?_eq_some_iff.1 ht).1; simpa using this
      have : t = T i := by
        rw [List.getElem?_map, List.getElem?_range hi] at ht
        simpa using ht.symm
      rw [this]
      exact (hT i hi).2
/-- The i-th call, read in any later world. -/
theorem ActsAt.at {w : World} {a : Option Addr} {len : Nat} {xs : List ActI} (h : ActsAt w a len xs) {W : World} (k : Below w.heap.size w W) (i : Nat) (hi : i < len) :
    ∃ b o x, a = some ⟨b, o, none⟩ ∧ xs[i]? = some x ∧ x.fits ∧ OneAct W b (o + i * 3) x := by
  have hx := List.getElem?_eq_getElem (l := xs) (i := i) (by rw [← h.len]; exact hi)
  obtain ⟨b, o, ha, hb, hc⟩ := h.cell i _ hx
  exact ⟨b, o, _, ha, hx, h.fits _ (List.getElem_mem _), hc.below k hb⟩
end Go.Proofs.Ytkjfildnemgbiaa
