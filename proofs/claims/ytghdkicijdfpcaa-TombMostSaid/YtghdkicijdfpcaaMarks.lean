/- Marks, by what Sorted answers. -/
import Derived.Test.YtghdkicijdfpcaaSort1
import Derived.Test.YtghdkicijdfpcaaLaid
import Derived.Laws.MakeOwn
set_option linter.unusedVariables false
set_option linter.unusedSimpArgs false
set_option maxRecDepth 8000
namespace Go.Proofs.Ytghdkicijdfpcaa
open Go.RowKit Go.Deep

/-- What slices.Sorted(maps.Keys(m)) answers. -/
def SortedPost (D0 : DataW Unit) (w : World) (e : Ending) (W' : World) : Prop :=
  ∃ v ss, e = .returned v ∧ ss.Pairwise (· < ·) ∧ (∀ x, x ∈ ss ↔ Maps.has D0 (u64L x) = true) ∧ W'.ownsRow w.heap.size 30 1 v ss.length (ss.map encU) ∧ (v = .slice none 0 0 ↔ ss = []) ∧ Below w.heap.size w W'

set_option maxHeartbeats 400000 in
theorem collect_any (Bm b nn : Nat) (D0 : DataW Unit) (hnn : nn ≤ 1000000) (w : World) (hBm : Bm < w.heap.size) (hm : w.cell? ⟨Bm, 0, none⟩ = some (.map (some b))) (hown : w.ownsMap Try.prog 30 (plainElem Try.prog 30) b nn D0) :
    Calls Try.prog 53 #[.func (.func 55) #[] #[.pointer (some ⟨Bm, 0, none⟩)]] w fun e W' => ∃ v ss, e = .returned v ∧ (ss.Nodup ∧ ∀ x, x ∈ ss ↔ Maps.has D0 (u64L x) = true) ∧ W'.ownsRow w.heap.size 30 1 v ss.length (ss.map encU) ∧ (v = .slice none 0 0 ↔ ss = []) ∧ Below w.heap.size w W' := by
  have ca := hide' (appendSeq_any Bm b nn D0 hnn w hBm hm hown)
  clear hm hown
  go_enter Try.func53, Try.ntmps53
  go_wp2_with fail
  refine ca.out.mono ?_
  rintro r w1 ⟨v, ss, rfl, h⟩
  have H := hide' h
  clear h
  go_wp2
  go_ret
  exact ⟨v, ss, rfl, H.out⟩

set_option maxHeartbeats 1000000 in
theorem sorted_small (Bm b nn : Nat) (D0 : DataW Unit) (hnn : nn ≤ 1000000) (h1 : ∀ ss : List Nat, ss.Nodup → (∀ x, x ∈ ss ↔ Maps.has D0 (u64L x) = true) → ss.length ≤ 1) (w : World) (hBm : Bm < w.heap.size) (hm : w.cell? ⟨Bm, 0, none⟩ = some (.map (some b))) (hown : w.ownsMap Try.prog 30 (plainElem Try.prog 30) b nn D0) :
    Calls Try.prog 35 #[.func (.func 55) #[] #[.pointer (some ⟨Bm, 0, none⟩)]] w (SortedPost D0 w) := by
  have ca := hide' (collect_any Bm b nn D0 hnn w hBm hm hown)
  have H1 := hide' h1
  clear hm hown h1
  go_enter Try.func35, Try.ntmps35
  go_wp2_with fail
  refine ca.out.mono ?_
  rintro r w1 ⟨v, ss, rfl, ⟨hnd, hmem⟩, hrow, hnil, hb⟩
  have hl := H1.out ss hnd hmem
  have G : Hid (ss.Pairwise (· < ·) ∧ (∀ x, x ∈ ss ↔ Maps.has D0 (u64L x) = true) ∧ w1.ownsRow w.heap.size 30 1 v ss.length (ss.map encU) ∧ (v = .slice none 0 0 ↔ ss = []) ∧ Below w.heap.size w w1) := by
    refine ⟨?_, hmem, hrow, hnil, hb⟩
    match ss, hl with
    | [], _ => exact List.Pairwise.nil
    | [x], _ => exact List.pairwise_singleton _ _
  have hv : (∃ a c, v = .slice a 0 c) ∨ (∃ a c, v = .slice a 1 c) := by
    rcases hrow.2 with ⟨rfl, _⟩ | ⟨g, cap, cur, rfl, _⟩
    · exact .inl ⟨_, _, rfl⟩
    · match hs : ss.length, hl with
      | 0, _ => exact .inl ⟨_, _, rfl⟩
      | 1, _ => exact .inr ⟨_, _, rfl⟩
  clear hnd hmem hrow hnil hb hl ca
  rcases hv with ⟨a, c, rfl⟩ | ⟨a, c, rfl⟩
  · have cs := hide' (sort_0 a c w1)
    go_wp2_with fail
    refine cs.out.mono ?_
    rintro r w2 ⟨rfl, h2⟩
    obtain rfl : w1 = w2 := h2.symm
    clear h2
    go_wp2
    go_ret
    exact ⟨_, ss, rfl, G.out⟩
  · have cs := hide' (sort_1 a c w1)
    go_wp2_with fail
    refine cs.out.mono ?_
    rintro r w2 ⟨rfl, h2⟩
    obtain rfl : w1 = w2 := h2.symm
    clear h2
    go_wp2
    go_ret
    exact ⟨_, ss, rfl, G.out⟩

theorem info48 : (Try.prog.info? 48).map (fun i => (i.zero, i.size, i.bytes)) = some (some (.agg #[.int .u64 0, .int .u64 0]), 2, 16) := by kernel_rfl
def mkCells (xs : List Mk) : List Value := xs.flatMap fun x => [.int .u64 (x.1 : Int), .int .u64 (x.2 : Int)]
theorem mkCells_snoc (xs : List Mk) (x : Mk) : mkCells xs ++ [.int .u64 (x.1 : Int), .int .u64 (x.2 : Int)] = mkCells (xs ++ [x]) := by simp [mkCells]
theorem mkCells_length (xs : List Mk) : (mkCells xs).length = xs.length * 2 := by induction xs with | nil => rfl | cons x r ih => simp [mkCells] at ih ⊢; omega
theorem mkCells_get (xs : List Mk) (i : Nat) (x : Mk) (h : xs[i]? = some x) : (mkCells xs)[i * 2]? = some (.int .u64 (x.1 : Int)) ∧ (mkCells xs)[i * 2 + 1]? = some (.int .u64 (x.2 : Int)) := by
  induction xs generalizing i with
  | nil => simp at h
  | cons y r ih =>
    cases i with
    | zero => simp at h; subst h; simp [mkCells]
    | succ i =>
      rw [List.getElem?_cons_succ] at h
      obtain ⟨h1, h2⟩ := ih i h
      have e : mkCells (y :: r) = [.int .u64 (y.1 : Int), .int .u64 (y.2 : Int)] ++ mkCells r := by simp [mkCells]
      rw [e, show (i + 1) * 2 = i * 2 + 2 by omega, show i * 2 + 2 + 1 = i * 2 + 1 + 2 by omega]
      simp only [List.cons_append, List.nil_append, List.getElem?_cons_succ]
      exact ⟨h1, h2⟩
/-- The greatest version of each key, by rising keys. -/
structure Told (M : Nat → Option Nat) (ys : List Mk) : Prop where
  rise : (ys.map Prod.fst).Pairwise (· < ·)
  mem : ∀ x, x ∈ ys ↔ M x.1 = some x.2
/-- What Marks answers. -/
def MarksPost (M : Nat → Option Nat) (w : World) (e : Ending) (W' : World) : Prop :=
  ∃ g cap ys, e = .returned (.slice (some ⟨g, 0, none⟩) ys.length cap) ∧ Told M ys ∧ MksAt W' (some ⟨g, 0, none⟩) ys.length ys ∧ w.heap.size ≤ g ∧ Below w.heap.size w W'

theorem row_keep {w w' : World} {base : Nat} {e : TypeId} {size : Nat} {v : Value} {n : Nat} {xs : List Value} (h : w.ownsRow base e size v n xs) (k : ∀ q, v.ownBlock = some q → w'.heap[q]? = w.heap[q]?) : w'.ownsRow base e size v n xs := by
  obtain ⟨h1, h2⟩ := h
  refine ⟨h1, ?_⟩
  rcases h2 with h2 | ⟨g, cap, cur, hv, hg, hh, r⟩
  · exact .inl h2
  · exact .inr ⟨g, cap, cur, hv, hg, by rw [k g (by rw [hv]; rfl)]; exact hh, r⟩

theorem nodup_len : ∀ (a b : List Nat), a.Nodup → (∀ x ∈ a, x ∈ b) → a.length ≤ b.length
  | [], b, _, _ => Nat.zero_le _
  | x :: a, b, hn, h => by
    have hx : x ∈ b := h x (by simp)
    rw [List.nodup_cons] at hn
    have := nodup_len a (b.erase x) hn.2 (fun y hy => (List.mem_erase_of_ne (fun e => hn.1 (by rw [← e]; exact hy))).2 (h y (by simp [hy])))
    rw [List.length_erase_of_mem hx] at this
    have hp := List.length_pos_of_mem hx
    rw [List.length_cons]
    omega

set_option maxHeartbeats 2000000 in
theorem marks_by (j d m n : Nat) (J : Jr) (hn : n ≤ 1000000) (w : World) (h : JrAt w j d m n J)
    (cS : ∀ (D0 : DataW Unit) (W : World) (Bm : Nat), MapIs D0 J.M → Bm < W.heap.size → W.cell? ⟨Bm, 0, none⟩ = some (.map (some m)) → W.ownsMap Try.prog 30 (plainElem Try.prog 30) m n D0 →
      Calls Try.prog 35 #[.func (.func 55) #[] #[.pointer (some ⟨Bm, 0, none⟩)]] W (SortedPost D0 W)) :
    Calls Try.prog 14 #[.pointer (some ⟨j, 0, none⟩)] w (MarksPost J.M w) := by
  obtain ⟨i0, hi, hz0, hz1, hz2⟩ : ∃ i, Try.prog.info? 48 = some i ∧ i.zero = some (.agg #[.int .u64 0, .int .u64 0]) ∧ i.size = 2 ∧ i.bytes = 16 := by
    obtain ⟨i, hi, hi2⟩ := Option.map_eq_some_iff.1 info48
    simp only [Prod.mk.injEq] at hi2
    exact ⟨i, hi, hi2⟩
  obtain ⟨D, hD, hM⟩ := h.map
  obtain ⟨N, hN⟩ : ∃ N, N = Maps.size D := ⟨_, rfl⟩
  have hNn : N ≤ n := by rw [hN]; exact hD.size_le
  have hln : ∀ ty, (Builtin.len_ #[73] ty #[.map (some m)]).run Try.prog w = .ok (.int .i64 (N : Int)) w := fun ty => by rw [hN]; exact hD.len Try.underlying73 ty
  obtain ⟨w1, hmk, hown0, hgr0⟩ := run_make_own (P := Try.prog) w w.heap.size 31 48 i0 (.agg #[.int .u64 0, .int .u64 0]) 2 Try.underlying31 hi hz0 hz1 .i64 .i64 N (by rw [hz2]; omega) (by unfold maxLen; omega) (Nat.le_refl _)
  have B0 := hide' ((Below.refl w.heap.size w).grown hgr0 (Nat.le_refl _) (fun k e => by cases e))
  have J1 := hide' (h.below B0.out)
  have c6 := h.blk.cell (i := 6) rfl
  have c6' := J1.out.blk.cell (i := 6) rfl
  have O0 := hide' hown0
  have HI := hide' hi
  have Z0 := hide' hz0
  have Z1 := hide' hz1
  have Z2 := hide' hz2
  have LJ := hide' h.blk.lt
  have LM := hide' h.mlt
  have H := hide' h
  have HM := hide' hM
  have HDw := hide' hD
  have HN := hide' hN
  have CS := hide' cS
  clear h hown0 hgr0 hi hz0 hz1 hz2 hD hM hN cS
  go_enter Try.func14, Try.ntmps14
  go_wp2_with fail
  refine (keys_any (some m) w1).mono ?_
  rintro r w2 ⟨rfl, hw2⟩
  have B2 : Hid (Below w.heap.size w w2) := by
    rw [hw2]; exact B0.out.alloc B0.out.size _
  have S2 : Hid (w1.heap.size < w2.heap.size) := by show _ < _; rw [hw2]; simp
  have M2 : Hid (w2.cell? ⟨w1.heap.size, 0, none⟩ = some (.map (some m))) := by
    show _ = _
    rw [hw2]
    exact (Blk.new w1 [.map (some m)] 73).cell (i := 0) rfl
  have O2 : Hid (w2.ownsRow w.heap.size 48 2 (.slice (some ⟨w.heap.size, 0, none⟩) 0 N) 0 []) := by
    rw [hw2]; exact O0.out.alloc _
  have D2 : Hid (w2.ownsMap Try.prog 30 (plainElem Try.prog 30) m n D) := by
    obtain ⟨es, c, a1, a2⟩ := HDw.out
    exact ⟨es, c, (B2.out.block m LM.out).trans a1, a2⟩
  clear hw2
  go_wp2_with fail
  refine (CS.out D w2 w1.heap.size HM.out S2.out M2.out D2.out).mono ?_
  rintro r w3 ⟨v, ss, rfl, hpw, hmem, hrow, hnil, hb3⟩
  have B3 := hide' (B2.out.trans (hb3.mono B2.out.size))
  have PW := hide' hpw
  have ME := hide' hmem
  have hrow' : ∃ a c, v = .slice a ss.length c := by
    rcases hrow.2 with ⟨rfl, h0⟩ | ⟨g, cap, cur, rfl, _⟩
    · exact ⟨none, 0, by rw [h0]⟩
    · exact ⟨_, _, rfl⟩
  obtain ⟨va, vc, rfl⟩ := hrow'
  have ROW := hide' hrow
  have O3 : Hid (w3.ownsRow w.heap.size 48 2 (.slice (some ⟨w.heap.size, 0, none⟩) 0 N) 0 []) := row_keep O2.out (fun q hq => hb3.block q (O2.out.lt q hq).2)
  have hss : ss.length ≤ N := by
    have hnd : ss.Nodup := hpw.imp (fun h => Nat.ne_of_lt h)
    obtain ⟨L, hL1, hL2, hL3⟩ := HM.out.list
    rw [HN.out, hL1, Maps.size_eq, List.length_map]
    have : ss.length ≤ (L.map Prod.fst).length := (nodup_len ss (L.map Prod.fst) hnd (fun x hx => by
      have h2 := (hmem x).1 hx
      have h3 : x < 18446744073709551616 := by
        rw [hL1, Maps.has_eq, List.any_eq_true] at h2
        obtain ⟨p, hp, hs⟩ := h2
        obtain ⟨y, hy, rfl⟩ := List.mem_map.1 hp
        have hs' : (u64L y.1).sameKey (u64L x) = true := hs
        rw [same_u64] at hs'
        have : y.1 = x := by simpa using hs'
        rw [← this]
        exact (HM.out.lt y.1 y.2 ((hL3 y).1 hy)).1
      rw [HM.out.has x h3] at h2
      obtain ⟨u, hu⟩ := Option.isSome_iff_exists.1 h2
      exact List.mem_map.2 ⟨(x, u), (hL3 (x, u)).2 hu, rfl⟩))
    simpa using this
  clear hpw hmem hrow hnil hb3 B0 O0 O2 M2 S2 D2 B2 c6 c6' hln hmk
  obtain ⟨ys, hys⟩ : ∃ ys : List Mk, ys = ss.map fun k => (k, (J.M k).getD 0) := ⟨_, rfl⟩
  have hyl : ys.length = ss.length := by rw [hys]; simp
  have hkey : ∀ k ∈ ss, k < 18446744073709551616 ∧ ∃ u, J.M k = some u ∧ u < 18446744073709551616 := fun k hk => by
    have h2 := (ME.out k).1 hk
    obtain ⟨L, hL1, hL2, hL3⟩ := HM.out.list
    rw [hL1, Maps.has_eq, List.any_eq_true] at h2
    obtain ⟨p, hp, hs⟩ := h2
    obtain ⟨y, hy, rfl⟩ := List.mem_map.1 hp
    have hs' : (u64L y.1).sameKey (u64L k) = true := hs
    rw [same_u64] at hs'
    have e : y.1 = k := by simpa using hs'
    have h3 := (hL3 y).1 hy
    rw [e] at h3
    exact ⟨(HM.out.lt k y.2 h3).1, y.2, h3, (HM.out.lt k y.2 h3).2⟩
  have TOLD : Hid (Told J.M ys) := by
    refine ⟨?_, fun x => ?_⟩
    · rw [hys, List.map_map]
      have e : (Prod.fst ∘ fun k => (k, (J.M k).getD 0)) = (id : Nat → Nat) := rfl
      rw [e, List.map_id]
      exact PW.out
    · rw [hys, List.mem_map]
      constructor
      · rintro ⟨k, hk, rfl⟩
        obtain ⟨_, u, hu, _⟩ := hkey k hk
        simp [hu]
      · intro hx
        refine ⟨x.1, (ME.out x.1).2 ?_, by rw [hx]; rfl⟩
        rw [HM.out.has x.1 (HM.out.lt _ _ hx).1, hx]; rfl
  have HKEY := hide' hkey
  have HYS := hide' hys
  have HYL := hide' hyl
  obtain ⟨K, hK⟩ : ∃ K, K = ss.length := ⟨_, rfl⟩
  rw [← hK] at ROW hss
  simp only [← hK]
  have HK := hide' hK
  have ROW3 : Hid (∀ (i k : Nat), ss[i]? = some k → ∃ (g : Nat) (cur : Array Value), va = some ⟨g, 0, none⟩ ∧ w3.heap[g]? = some (.cells cur 30 (0, 0)) ∧ cur[i]? = some (encU k)) := fun i k hk => by
    obtain ⟨r1, r2⟩ := ROW.out
    have hi : i < ss.length := (List.getElem?_eq_some_iff.1 hk).1
    rcases r2 with ⟨_, h0⟩ | ⟨g, cap, cur, hv, hg, hh, _, _, _, htk⟩
    · omega
    · simp only [Value.slice.injEq] at hv
      refine ⟨g, cur, hv.1, hh, ?_⟩
      have e : (ss.map encU)[i]? = some (encU k) := by rw [List.getElem?_map, hk]; rfl
      rw [← htk, List.getElem?_take] at e
      split at e
      · simpa using e
      · cases e
  clear hkey hys hyl hK
  go_wp2_with fail
  go_loopg [3, 19] K (fun kx s3 s19 wr => ∃ i g cap : Nat, s19 = .int .i64 i ∧ s3 = .slice (some ⟨g, 0, none⟩) i cap ∧ i ≤ K ∧ K - i ≤ kx ∧ Hid (wr.ownsRow w.heap.size 48 2 (.slice (some ⟨g, 0, none⟩) i cap) i (mkCells (ys.take i)) ∧ Below w.heap.size w wr ∧ ∀ (g' : Nat) (cur : Array Value), w3.heap[g']? = some (.cells cur 30 (0, 0)) → wr.heap[g']? = some (.cells cur 30 (0, 0))))
  case atStart => exact ⟨0, w.heap.size, N, rfl, rfl, Nat.zero_le _, by omega, O3.out, B3.out, fun _ _ h => h⟩
  case round =>
    obtain ⟨i, g, cap, rfl, rfl, hik, hkx, I⟩ := hrel
    by_cases hlt : i < K
    · have hlt2 : (i : Int) < (K : Int) := by omega
      obtain ⟨k, hk⟩ : ∃ k, ss[i]? = some k := ⟨_, List.getElem?_eq_getElem (by have := HK.out; omega)⟩
      obtain ⟨g', cur, rfl, hg', hcur⟩ := ROW3.out i k hk
      obtain ⟨k64, u, hu, u64⟩ := HKEY.out k (List.mem_of_getElem? hk)
      have hwr := I.out.2.2 g' cur hg'
      have ck : wr.cell? ⟨g', i, none⟩ = some (.int .u64 (k : Int)) := by simp [World.cell?, hwr, hcur, encU]
      have Jw := H.out.below I.out.2.1
      have c6 := Jw.blk.cell (i := 6) rfl
      obtain ⟨D', hD', hM'⟩ := Jw.map
      obtain ⟨c, hrun, hc, hwf⟩ := hD'.lookup_int (t := 73) keyed30 Try.underlying73 Try.underlying30 (zero30 _) (key30 k k64)
      have ec : c = (u : Int) := by
        have h2 := hM'.val k k64
        have h1 : D'.atKey (u64L k) (.lit (u64L 0)) = .lit (.int .u64 c) := hc
        rw [h2, hu] at h1
        simp [u64L] at h1
        exact h1.symm
      subst ec
      have YT : Hid (ys.take (i + 1) = ys.take i ++ [(k, u)]) := by
        have : ys[i]? = some (k, u) := by rw [HYS.out, List.getElem?_map, hk]; simp [hu]
        obtain ⟨h1, h2⟩ := List.getElem?_eq_some_iff.1 this
        show _ = _
        rw [List.take_succ_eq_append_getElem h1, h2]
      clear hk hcur hu hwr Jw hD' hM' hc hwf hg'
      go_wp2_with (at_builtin; refine wpList_append_own _ rfl _ _ 31 rfl w.heap.size 48 i0 (.agg #[.int .u64 0, .int .u64 0]) 2 16 Try.underlying31 HI.out Z0.out Z1.out Z2.out rfl (by decide) _ _ _ rfl (I.out.1.alloc _) ⟨wr.heap.size, 0, none⟩ 1 1 [.int .u64 (k : Int), .int .u64 (u : Int)] rfl rfl ?c1 ?c2 ?c3 ?c4 ?c5 ?_)
      case c1 =>
        intro j' u' hj'
        rw [Addr.add_lit, Nat.zero_add]
        exact (Blk.new wr [.int .u64 (k : Int), .int .u64 (u : Int)] 48).cell hj'
      case c2 => intro u' hu'; simp at hu'; rcases hu' with rfl | rfl <;> rfl
      case c3 => unfold maxLen; omega
      case c4 => omega
      case c5 => have := I.out.2.1.size; simp; omega
      intro v' w5 hown' hgrow _
      obtain ⟨g2, cp2, rfl⟩ : ∃ g2 cp2, v' = .slice (some ⟨g2, 0, none⟩) (i + 1) cp2 := by
        rcases hown'.2 with ⟨_, h0⟩ | ⟨g2, cp2, _, hv, _⟩
        · omega
        · exact ⟨g2, cp2, hv⟩
      rw [mkCells_snoc (ys.take i) (k, u)] at hown'
      have B5 := hide' ((I.out.2.1.alloc I.out.2.1.size (.cells #[.int .u64 (k : Int), .int .u64 (u : Int)] 48)).grown hgrow (by have := I.out.2.1.size; simp; omega) (fun q hq => (I.out.1.lt q hq).1))
      have R5 : Hid (∀ (g' : Nat) (cur : Array Value), w3.heap[g']? = some (.cells cur 30 (0, 0)) → w5.heap[g']? = some (.cells cur 30 (0, 0))) := fun g1 cur1 h1 => by
        have h2 := I.out.2.2 g1 cur1 h1
        have hl : g1 < wr.heap.size := (Array.getElem?_eq_some_iff.1 h2).1
        rw [hgrow.block g1 (by simp; omega) (fun e => ?_)]
        · rw [blk_alloc_lt _ _ _ hl]; exact h2
        · have eg : g = g1 := by simpa [Value.ownBlock] using e.symm
          subst eg
          rcases I.out.1.2 with ⟨hv, _⟩ | ⟨g3, cap3, cur3, hv, _, hh, _⟩
          · simp at hv
          · simp only [Value.slice.injEq, Option.some.injEq, Addr.mk.injEq, and_true] at hv
            rw [← hv.1, h2] at hh
            simp at hh
      have O5 := hide' hown'
      clear hown' hgrow
      go_wp2
      go_roundg (K - (i + 1))
      case measure => omega
      case rel => exact ⟨i + 1, g2, cp2, by go_num, rfl, by omega, by omega, by rw [YT.out]; exact O5.out, B5.out, R5.out⟩
    · obtain rfl : i = K := by omega
      have hlt2 : ¬ (i : Int) < (i : Int) := by omega
      go_wp2
      go_ret
      have hy : ys.length = i := by rw [HYL.out, ← HK.out]
      have o := I.out.1
      rw [List.take_of_length_le (by omega)] at o
      refine ⟨g, cap, ys, by rw [hy]; rfl, TOLD.out, ⟨rfl, fun x hx => ?_, fun t x hx => ?_⟩, ?_, I.out.2.1⟩
      · exact HM.out.lt x.1 x.2 ((TOLD.out.mem x).1 hx)
      · obtain ⟨h1, h2⟩ := mkCells_get ys t x hx
        rcases o.2 with ⟨hv, _⟩ | ⟨g3, cap3, cur3, hv, _, hh, _, _, _, htk⟩
        · simp at hv
        · simp only [Value.slice.injEq, Option.some.injEq, Addr.mk.injEq, and_true] at hv
          obtain ⟨rfl, _⟩ := hv
          rw [← htk, List.getElem?_take] at h1 h2
          refine ⟨g, 0, rfl, (Array.getElem?_eq_some_iff.1 hh).1, ?_, ?_⟩
          · split at h1
            · rw [Array.getElem?_toList] at h1
              simp [World.cell?, hh, h1]
            · cases h1
          · split at h2
            · rw [Array.getElem?_toList] at h2
              simp [World.cell?, hh, h2]
            · cases h2
      · rcases o.2 with ⟨hv, _⟩ | ⟨g3, cap3, cur3, hv, hg, _⟩
        · simp at hv
        · simp only [Value.slice.injEq, Option.some.injEq, Addr.mk.injEq, and_true] at hv
          rw [hv.1]; exact hg
end Go.Proofs.Ytghdkicijdfpcaa
