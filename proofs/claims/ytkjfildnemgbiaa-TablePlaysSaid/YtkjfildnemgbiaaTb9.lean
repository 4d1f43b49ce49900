/- Chain and Keys of a table. -/
import Derived.Test.YtkjfildnemgbiaaStr
set_option linter.unusedVariables false
set_option linter.unusedSimpArgs false
set_option maxRecDepth 8000
namespace Go.Proofs.Ytkjfildnemgbiaa
open Go.RowKit Go.Deep Go.Shelf Math Tab Go.Sort

section
variable {w w' : World} {f nb ob mo : Nat} {nw od : List (List En)} {cnt : Nat} {key : List UInt8}
theorem TbIn.off {B : Nat} {v : Value} {ss : List (List UInt8)} (h : TbIn w f nb ob mo nw od cnt) (R : SR B v ss w) (k : Keep (ownB v) w w') : TbIn w' f nb ob mo nw od cnt := by
  have hn : ∀ b, (∃ L t, Blk w b L t ∧ t ≠ 9) → w'.heap[b]? = w.heap[b]? := fun b ⟨L, t, hb, ht⟩ => k.block b hb.lt (fun hm => by
    obtain ⟨_, c, hc⟩ := own_ty R.row (mem_own.1 hm)
    exact hb.not_ty hc ht rfl)
  refine ⟨h.own.same (hn f ⟨_, _, h.own, by decide⟩), h.rN.same (hn nb ⟨_, _, h.rN, by decide⟩), fun h0 => (h.rO h0).same (hn ob ⟨_, _, h.rO h0, by decide⟩), h.ne, fun c hc => (h.ch c hc).same (fun e he => ?_), h.nd⟩
  obtain ⟨q, hq, _⟩ := (h.ch c hc).at e he
  exact hn e.b ⟨_, _, hq, by decide⟩
theorem Keep.belowB {B : Nat} {v : Value} {ss : List (List UInt8)} {w w1 w2 : World} (h : Below B w w1) (R : SR B v ss w1) (k : Keep (ownB v) w1 w2) (hB : B ≤ w1.heap.size) : Below B w w2 :=
  h.trans (k.below (fun q hq => (own_ty R.row (mem_own.1 hq)).1) hB)
/-! ### Chain -/
def chK (t : Tb) (i : Int) : List (List UInt8) := if 0 ≤ i then keysOf (t.nw.getD i.toNat []) else []
set_option maxHeartbeats 1000000 in
theorem chain_none (h : TbIn w f nb ob mo nw od cnt) (i : Int) (hi : i < 0 ∨ (nw.length : Int) ≤ i) :
    Calls Try.prog 12 #[.pointer (some ⟨f, 0, none⟩), .int .i64 i] w fun e w' => e = .returned (.slice none 0 0) ∧ w' = w := by
  have c1 := hide (buckets_any h)
  by_cases h0 : i < 0
  · clear h hi c1
    go_enter Try.func12, Try.ntmps12
    go_wp2
    go_ret
    exact ⟨rfl, rfl⟩
  · have h1 : (nw.length : Int) ≤ i := by omega
    clear hi h
    generalize nw.length = n at *
    go_enter Try.func12, Try.ntmps12
    go_wp2_with fail
    refine c1.out.mono ?_
    rintro e wx ⟨rfl, hx⟩
    obtain rfl : w = wx := hx.symm
    clear hx c1
    go_wp2
    go_ret
    exact ⟨rfl, rfl⟩
set_option maxHeartbeats 1000000 in
theorem chain_some (h : TbIn w f nb ob mo nw od cnt) (i : Nat) (c : List En) (hi : nw[i]? = some c) (hn : c.length ≤ 1048576) :
    Calls Try.prog 12 #[.pointer (some ⟨f, 0, none⟩), .int .i64 (i : Int)] w fun e w' => ∃ va vc, e = .returned (.slice va c.length vc) ∧ SR w.heap.size (.slice va c.length vc) (c.map En.k) w' ∧ Below w.heap.size w w' := by
  have c1 := hide (buckets_any h)
  have c0 := h.c0
  have hlt := (List.getElem?_eq_some_iff.1 hi).1
  have cA := hide (addKeys_any w.heap.size nb i c (.slice none 0 0) [] w (h.cN hi) (h.ch c (List.mem_append_right _ (List.mem_of_getElem? hi))) (SR.nil _ _) (Nat.le_refl _) (by simpa using hn))
  simp only [List.length_nil, Nat.zero_add, List.nil_append] at cA
  generalize nw.length = n at *
  have h1 : ¬ (i : Int) < 0 := by omega
  have h2 : ¬ (n : Int) ≤ (i : Int) := by omega
  clear h hi hn
  go_enter Try.func12, Try.ntmps12
  go_wp2_with fail
  refine c1.out.mono ?_
  rintro e wx ⟨rfl, hx⟩
  obtain rfl : w = wx := hx.symm
  clear hx c1
  go_wp2_with fail
  refine cA.out.mono ?_
  rintro e W ⟨va, vc, rfl, R, K, _, _⟩
  have HR := hide R
  have HK := hide K
  clear R K cA
  go_wp2
  go_ret
  exact ⟨va, vc, rfl, HR.out, HK.out.below (fun k hk => by simp [ownB, Value.ownBlock] at hk) (Nat.le_refl _)⟩
theorem chain_le {t : Tb} {i : Nat} {c : List KV} (h : t.nw[i]? = some c) : c.length ≤ t.all.length := by
  obtain ⟨R, hR, _⟩ := flat_perm h
  unfold Tb.all
  rw [List.length_append, hR.length_eq, List.length_append]
  omega
theorem chain_tm {t : Tb} {F : List Nat} (T : TM f t F w) (i : Int) (hc : t.all.length ≤ 100000) :
    Calls Try.prog 12 #[.pointer (some ⟨f, 0, none⟩), .int .i64 i] w fun e w' => ∃ va vc, e = .returned (.slice va (chK t i).length vc) ∧ SR w.heap.size (.slice va (chK t i).length vc) (chK t i) w' ∧ Below w.heap.size w w' := by
  obtain ⟨⟨nb, ob, mo, nw, od, h, g, ht, hF⟩, G⟩ := T
  by_cases hi : i < 0 ∨ (nw.length : Int) ≤ i
  · have e1 : chK t i = [] := by
      unfold chK
      rcases hi with hi | hi
      · rw [if_neg (by omega)]
      · rw [if_pos (by omega), ← ht]
        simp [tb, kvs, List.getD, List.getElem?_eq_none (show nw.length ≤ i.toNat by omega), keysOf]
    rw [e1]
    refine (chain_none h i hi).mono ?_
    rintro e w' ⟨rfl, rfl⟩
    exact ⟨none, 0, rfl, SR.nil _ _, Below.refl _ _⟩
  · have hlt : i.toNat < nw.length := by omega
    have hg := List.getElem?_eq_getElem hlt
    have e1 : chK t i = (nw[i.toNat]).map En.k := by
      unfold chK
      rw [if_pos (by omega), ← ht]
      simp [tb, kvs, List.getD, hlt, keysOf, kv, Function.comp_def]
    have hle : (nw[i.toNat]).length ≤ 1048576 := by
      have : t.nw[i.toNat]? = some ((nw[i.toNat]).map kv) := by rw [← ht]; simp [tb, kvs, hlt]
      have := chain_le this
      simp at this; omega
    have := chain_some h i.toNat _ hg hle
    rw [Int.toNat_of_nonneg (by omega)] at this
    rw [e1, List.length_map]
    exact this

/-! ### Keys -/
/-- The keys of one more chain, told out of a copy of its head. -/
theorem keys_round {N : Nat} {w0 wr W2 : World} (h : TbIn wr f nb ob mo nw od cnt) {c : List En} (hc : c ∈ od ++ nw) {va : Option Addr} {n vc : Nat} {ss : List (List UInt8)} (hl : n = ss.length) (R : SR N (.slice va n vc) ss wr) (hN : N ≤ wr.heap.size) (hB : Below N w0 wr)
    (hv : Value.slice va n vc ≠ .slice none 0 0) (B2 : Below wr.heap.size wr W2) (hcell : W2.cell? ⟨wr.heap.size, 0, none⟩ = some (hd c)) (hn : ss.length + c.length ≤ 1048576) :
    Calls Try.prog 29 #[.pointer (some ⟨wr.heap.size, 0, none⟩), .slice va n vc] W2 fun e w' => ∃ va' vc', e = .returned (.slice va' (n + c.length) vc') ∧ SR N (.slice va' (n + c.length) vc') (ss ++ c.map En.k) w' ∧ TbIn w' f nb ob mo nw od cnt ∧ Below N w0 w' ∧ N ≤ w'.heap.size ∧ Value.slice va' (n + c.length) vc' ≠ .slice none 0 0 := by
  subst hl
  have R2 := R.below B2
  refine (addKeys_any N _ 0 c _ ss W2 hcell ((h.ch c hc).same (fun e he => B2.block _ ((h.ch c hc).lt e he))) R2 (Nat.le_trans hN B2.size) hn).mono ?_
  rintro e w' ⟨va', vc', rfl, S, K, _, hv'⟩
  exact ⟨va', vc', rfl, S, (h.below B2).off R2 K, Keep.belowB (hB.trans (B2.mono hN)) R2 K (Nat.le_trans hN B2.size), Nat.le_trans (Nat.le_trans hN B2.size) K.size, hv' hv⟩
theorem info9' : (Try.prog.info? 9).map (fun i => (i.zero, i.size, i.bytes)) = some (some (.string ⟨#[]⟩), 1, 16) := info9
theorem run_make_keys (n : Nat) (hn : n ≤ 1000000) (w : World) :
    ∃ M : Array Value, M.size = n ∧ ∀ w : World, (Instr.makeSlice 29 (.int .i64 0) (.int .i64 (n : Int))).run Try.prog w = .ok (.slice (some ⟨w.heap.size, 0, none⟩) 0 n) (w.alloc (.cells M 9)) := by
  obtain ⟨i, hi, hi2⟩ := Option.map_eq_some_iff.1 info9
  simp only [Prod.mk.injEq] at hi2
  obtain ⟨hz0, hz1, hz2⟩ := hi2
  refine ⟨madeCells (Value.string ⟨#[]⟩).cells ((n : Int).toNat * i.size), by rw [size_madeCells, hz1]; simp, fun w => ?_⟩
  have := run_make (P := Try.prog) w 29 9 i (.string ⟨#[]⟩) Try.underlying29 hi hz0 .i64 .i64 0 (n : Int) (by omega) (by omega) (by rw [hz2]; omega) (by omega)
  rw [this]
  simp
theorem take_flat {l : List (List En)} {i : Nat} {c : List En} (h : l[i]? = some c) : (l.take (i + 1)).flatten = (l.take i).flatten ++ c := by
  obtain ⟨hi, hc⟩ := List.getElem?_eq_some_iff.1 h
  rw [List.take_succ_eq_append_getElem hi, hc]; simp
theorem flat_le (l : List (List En)) (i : Nat) : (l.take i).flatten.length ≤ l.flatten.length := by
  conv => rhs; rw [← List.take_append_drop i l]
  rw [List.flatten_append, List.length_append]; omega
def leB (x y : List UInt8) : Bool := decide (x ≤ y)
def sortK (l : List (List UInt8)) : List (List UInt8) := l.mergeSort leB
set_option maxHeartbeats 4000000 in
theorem keys_any (h : TbIn w f nb ob mo nw od cnt) (hcnt : cnt = (od ++ nw).flatten.length) (hc : cnt ≤ 100000) (hm : od.length ≤ 131072) (hn : nw.length ≤ 131072) :
    Calls Try.prog 13 #[.pointer (some ⟨f, 0, none⟩)] w fun e w' => ∃ g cap, e = .returned (.slice (some ⟨g, 0, none⟩) cnt cap) ∧ SR w.heap.size (.slice (some ⟨g, 0, none⟩) cnt cap) (sortK ((od ++ nw).flatten.map En.k)) w' ∧ Below w.heap.size w w' := by
  have cL := hide (len_any h)
  obtain ⟨M, hM, hmk⟩ := run_make_keys cnt (by omega) w
  have HM := hide hM
  obtain ⟨oa, ho⟩ := oSl_is ob mo od.length
  obtain ⟨N, hN⟩ : ∃ N, N = w.heap.size := ⟨_, rfl⟩
  have B0 := (Below.refl w.heap.size w).alloc (Nat.le_refl _) (.cells M 9)
  have h1 := h.below B0
  have c1 := h1.c1
  rw [ho] at c1
  have R1 : SR w.heap.size (.slice (some ⟨w.heap.size, 0, none⟩) 0 cnt) [] (w.alloc (.cells M 9)) := by
    refine ⟨⟨rfl, .inr ⟨w.heap.size, cnt, M, rfl, Nat.le_refl _, heap_alloc_new w _, by simp, by unfold maxLen; omega, by rw [hM, Nat.mul_one], by simp⟩⟩⟩
  have HR1 := hide R1
  have HB0 := hide B0
  have H1 := hide h1
  have HO := hide ho
  have HN := hide hN
  have hs1 : w.heap.size ≤ (w.alloc (.cells M 9)).heap.size := B0.size
  have HS1 := hide hs1
  have HCN := hide hcnt
  clear hM ho B0 R1 h h1 hN hs1 hcnt
  rw [← HN.out] at HR1 HB0 HS1 ⊢
  obtain ⟨m, hm2⟩ : ∃ m, m = od.length := ⟨_, rfl⟩
  have HM2 := hide hm2
  rw [← hm2] at c1 hm
  clear hm2
  go_enter Try.func13, Try.ntmps13
  go_wp2_with fail
  refine cL.out.mono ?_
  rintro e wx ⟨rfl, hx⟩
  obtain rfl : w = wx := hx.symm
  clear hx cL
  go_wp2
  go_loopg [3, 16] od.length (fun kx s3 s16 wr => ∃ (i : Nat) (va : Option Addr) (n vc : Nat), s16 = .int .i64 i ∧ s3 = .slice va n vc ∧ Hid (i ≤ od.length ∧ od.length - i ≤ kx ∧ n = (od.take i).flatten.length ∧ SR N (.slice va n vc) ((od.take i).flatten.map En.k) wr ∧ TbIn wr f nb ob mo nw od cnt ∧ Below N w wr ∧ N ≤ wr.heap.size ∧ Value.slice va n vc ≠ .slice none 0 0))
  case atStart =>
    refine ⟨0, some ⟨w.heap.size, 0, none⟩, 0, cnt, rfl, rfl, Nat.zero_le _, Nat.le_refl _, rfl, ?_, H1.out, HB0.out, HS1.out, by simp⟩
    rw [← HN.out]
    exact HR1.out
  case round =>
    obtain ⟨i, va, n, vc, rfl, rfl, I⟩ := hrel
    by_cases hlt : i < od.length
    · have hlt2 : (i : Int) < (m : Int) := by rw [HM2.out]; omega
      have hlt3 : i < m := by rw [HM2.out]; exact hlt
      have oa2 : oa = some ⟨ob, mo, none⟩ := by
        have := HO.out
        rw [oSl_pos _ _ _ (by omega)] at this
        simp at this
        exact this.symm
      subst oa2
      have hci := List.getElem?_eq_getElem hlt
      obtain ⟨c, hcc⟩ : ∃ c, c = od[i] := ⟨_, rfl⟩
      rw [← hcc] at hci
      clear hcc
      have kc := I.out.2.2.2.2.1.cO hci
      obtain ⟨q, hq⟩ := hd_ptr c
      have HQ := hide hq
      rw [hq] at kc
      have hmem : c ∈ od ++ nw := List.mem_append_left _ (List.mem_of_getElem? hci)
      have hle : Hid (((od.take i).flatten.map En.k).length + c.length ≤ 1048576) := by
        have h2 := take_flat hci
        have h3 := flat_le od (i + 1)
        have h4 := HCN.out
        rw [h2, List.length_append] at h3
        rw [List.flatten_append, List.length_append] at h4
        unfold Hid
        simp only [List.length_append, List.length_map]
        omega
      obtain ⟨W2, hW2⟩ : ∃ W2, W2 = wr.alloc (.cells #[.pointer q] 60) := ⟨_, rfl⟩
      have b2 : Blk W2 wr.heap.size [.pointer q] 60 := by
        rw [hW2]
        exact Blk.new wr [.pointer q] 60
      have B2 : Below wr.heap.size wr W2 := by
        rw [hW2]
        exact (Below.refl wr.heap.size wr).alloc (Nat.le_refl _) _
      have cA := hide (keys_round I.out.2.2.2.2.1 hmem (ss := ((od.take i).flatten.map En.k)) (by rw [I.out.2.2.1]; simp only [List.length_append, List.length_map]) I.out.2.2.2.1 I.out.2.2.2.2.2.2.1 I.out.2.2.2.2.2.1 I.out.2.2.2.2.2.2.2 B2 (by rw [hq]; exact b2.cell rfl) hle.out)
      have HI : Hid (n = (od.take i).flatten.length ∧ od.length - i ≤ _) := ⟨I.out.2.2.1, I.out.2.1⟩
      have HT := hide (take_flat hci)
      clear hq hmem hle b2 B2 I hci
      subst hW2
      go_wp2_with fail
      refine cA.out.mono ?_
      rintro e W3 ⟨va', vc', rfl, S3, T3, B3, N3, V3⟩
      have H3 := hide (And.intro S3 (And.intro T3 (And.intro B3 (And.intro N3 V3))))
      clear cA S3 T3 B3 N3 V3
      go_wp2
      go_roundg (od.length - (i + 1))
      case measure => have := HI.out.2; omega
      case rel =>
        obtain ⟨S3, T3, B3, N3, V3⟩ := H3.out
        refine ⟨i + 1, va', n + c.length, vc', rfl, rfl, by omega, Nat.le_refl _, ?_, ?_, T3, B3, N3, V3⟩
        · rw [HI.out.1, HT.out, List.length_append]
        · rw [HT.out]
          simpa using S3
    · have hie : i = od.length := by have := I.out.1; omega
      have hlt2 : ¬ (i : Int) < (m : Int) := by rw [HM2.out]; omega
      have c0 := I.out.2.2.2.2.1.c0
      have HI0 : Hid (n = od.flatten.length ∧ SR N (.slice va n vc) (od.flatten.map En.k) wr ∧ TbIn wr f nb ob mo nw od cnt ∧ Below N w wr ∧ N ≤ wr.heap.size ∧ Value.slice va n vc ≠ .slice none 0 0) := by
        have := I.out.2.2
        rw [hie, List.take_length] at this
        exact this
      clear I hie hlt
      obtain ⟨k, hk2⟩ : ∃ k, k = nw.length := ⟨_, rfl⟩
      have HK2 := hide hk2
      rw [← hk2] at c0 hn
      clear hk2
      obtain ⟨wo, hwo⟩ : ∃ wo, wo = wr := ⟨_, rfl⟩
      subst hwo
      go_wp2
      go_loopg [3, 28] nw.length (fun kx s3 s28 wr => ∃ (i : Nat) (va : Option Addr) (n vc : Nat), s28 = .int .i64 i ∧ s3 = .slice va n vc ∧ Hid (i ≤ nw.length ∧ nw.length - i ≤ kx ∧ n = od.flatten.length + (nw.take i).flatten.length ∧ SR N (.slice va n vc) (od.flatten.map En.k ++ ((nw.take i).flatten.map En.k)) wr ∧ TbIn wr f nb ob mo nw od cnt ∧ Below N w wr ∧ N ≤ wr.heap.size ∧ Value.slice va n vc ≠ .slice none 0 0))
      case atStart =>
        refine ⟨0, va, n, vc, rfl, rfl, Nat.zero_le _, Nat.le_refl _, by simpa using HI0.out.1, ?_, HI0.out.2.2⟩
        simpa using HI0.out.2.1
      case round =>
        clear HI0 c0
        obtain ⟨i, va, n, vc, rfl, rfl, I⟩ := hrel
        by_cases hlt : i < nw.length
        · have hlt2 : (i : Int) < (k : Int) := by rw [HK2.out]; omega
          have hlt3 : i < k := by rw [HK2.out]; exact hlt
          have hci := List.getElem?_eq_getElem hlt
          obtain ⟨c, hcc⟩ : ∃ c, c = nw[i] := ⟨_, rfl⟩
          rw [← hcc] at hci
          clear hcc
          have kc := I.out.2.2.2.2.1.cN hci
          obtain ⟨q, hq⟩ := hd_ptr c
          have HQ := hide hq
          rw [hq] at kc
          have hmem : c ∈ od ++ nw := List.mem_append_right _ (List.mem_of_getElem? hci)
          have hle : Hid ((od.flatten.map En.k ++ ((nw.take i).flatten.map En.k)).length + c.length ≤ 1048576) := by
            have h2 := take_flat hci
            have h3 := flat_le nw (i + 1)
            have h4 := HCN.out
            rw [h2, List.length_append] at h3
            rw [List.flatten_append, List.length_append] at h4
            unfold Hid
            simp only [List.length_append, List.length_map]
            omega
          obtain ⟨W2, hW2⟩ : ∃ W2, W2 = wr.alloc (.cells #[.pointer q] 60) := ⟨_, rfl⟩
          have b2 : Blk W2 wr.heap.size [.pointer q] 60 := by
            rw [hW2]
            exact Blk.new wr [.pointer q] 60
          have B2 : Below wr.heap.size wr W2 := by
            rw [hW2]
            exact (Below.refl wr.heap.size wr).alloc (Nat.le_refl _) _
          have cA := hide (keys_round I.out.2.2.2.2.1 hmem (ss := (od.flatten.map En.k ++ ((nw.take i).flatten.map En.k))) (by rw [I.out.2.2.1]; simp only [List.length_append, List.length_map]) I.out.2.2.2.1 I.out.2.2.2.2.2.2.1 I.out.2.2.2.2.2.1 I.out.2.2.2.2.2.2.2 B2 (by rw [hq]; exact b2.cell rfl) hle.out)
          have HI : Hid (n = od.flatten.length + (nw.take i).flatten.length ∧ nw.length - i ≤ _) := ⟨I.out.2.2.1, I.out.2.1⟩
          have HT := hide (take_flat hci)
          clear hq hmem hle b2 B2 I hci
          subst hW2
          go_wp2_with fail
          refine cA.out.mono ?_
          rintro e W3 ⟨va', vc', rfl, S3, T3, B3, N3, V3⟩
          have H3 := hide (And.intro S3 (And.intro T3 (And.intro B3 (And.intro N3 V3))))
          clear cA S3 T3 B3 N3 V3
          go_wp2
          go_roundg (nw.length - (i + 1))
          case measure => have := HI.out.2; omega
          case rel =>
            obtain ⟨S3, T3, B3, N3, V3⟩ := H3.out
            refine ⟨i + 1, va', n + c.length, vc', rfl, rfl, by omega, Nat.le_refl _, ?_, ?_, T3, B3, N3, V3⟩
            · rw [HI.out.1, HT.out, List.length_append]; omega
            · rw [HT.out]
              simpa using S3
        · have hie : i = nw.length := by have := I.out.1; omega
          have hlt2 : ¬ (i : Int) < (k : Int) := by rw [HK2.out]; omega
          have HI1 : Hid (n = cnt ∧ SR N (.slice va n vc) ((od ++ nw).flatten.map En.k) wr ∧ Below N w wr ∧ N ≤ wr.heap.size ∧ Value.slice va n vc ≠ .slice none 0 0) := by
            have h2 := I.out.2.2
            rw [hie, List.take_length] at h2
            refine ⟨by rw [HCN.out, List.flatten_append, List.length_append]; exact h2.1, ?_, h2.2.2.2⟩
            rw [List.flatten_append, List.map_append]
            exact h2.2.1
          clear I hie hlt
          have hSR := HI1.out.2.1.row
          rcases hSR.2 with ⟨hnil, _⟩ | ⟨g, cap, cur, hv, hbase, hb, s1, s2, s3, s4⟩
          · exact absurd hnil HI1.out.2.2.2.2
          have hnl : ((od ++ nw).flatten.map En.k).length = cnt := by rw [List.length_map]; exact HCN.out.symm
          rw [hnl] at hv s1
          obtain ⟨rfl, rfl, rfl⟩ : va = some ⟨g, 0, none⟩ ∧ n = cnt ∧ vc = cap := by simpa using hv
          obtain ⟨ss, hss⟩ : ∃ ss, ss = (od ++ nw).flatten.map En.k := ⟨_, rfl⟩
          rw [← hss] at hnl s4 hSR HI1
          have HSS := hide hss
          have hH : Holds encStr wr g 0 ss.toArray := holds_of_block hb (by simpa using s4)
          have cS := hide (Try.slices_Sort_string g 0 vc ss wr hH (Array.getElem?_eq_some_iff.1 hb).1 (by omega))
          rw [hnl] at cS
          have HB := hide (And.intro hbase (And.intro hb (And.intro s1 (And.intro s2 s3))))
          have HNL := hide hnl
          clear hnl hH hSR hv hbase hb s1 s2 s3 s4 hss
          go_wp2_with fail
          refine cS.out.mono ?_
          rintro e W4 ⟨rfl, nn, os, hW4⟩
          have HW4 := hide hW4
          clear hW4 cS
          go_wp2
          go_ret
          obtain ⟨b1, b2, b3, b4, b5⟩ := HB.out
          rw [← HSS.out]
          refine ⟨g, vc, rfl, ⟨?_⟩, ?_⟩
          · have e1 : (sortK ss).length = n := by unfold sortK; rw [List.length_mergeSort]; exact HNL.out
            have := ownsRow_sorted (w := wr) (n := nn) (os := os) (ss := ss) (ts := ss.mergeSort fun x y => decide (x ≤ y)) (by simp) b1 b2 (by rw [HNL.out]; exact b3) b4 b5
            rw [HW4.out, e1]
            rw [HNL.out] at this
            exact this
          · rw [HW4.out]
            exact HI1.out.2.2.1.grown (grownBy_sorted _) HI1.out.2.2.2.1 (fun j hj => by cases hj; exact b1)
theorem flat_kv (l : List (List En)) : (kvs l).flatten = l.flatten.map kv := by
  unfold kvs
  rw [List.map_flatten]
theorem all_tb : (tb nw od).all = (od ++ nw).flatten.map kv := by
  show (kvs od).flatten ++ (kvs nw).flatten = _
  rw [flat_kv, flat_kv, List.flatten_append, List.map_append]
theorem keys_tm {t : Tb} {F : List Nat} (T : TM f t F w) (hc : t.all.length ≤ 100000) :
    Calls Try.prog 13 #[.pointer (some ⟨f, 0, none⟩)] w fun e w' => ∃ g cap, e = .returned (.slice (some ⟨g, 0, none⟩) t.all.length cap) ∧ SR w.heap.size (.slice (some ⟨g, 0, none⟩) t.all.length cap) (sortK (keysOf t.all)) w' ∧ Below w.heap.size w w' := by
  obtain ⟨⟨nb, ob, mo, nw, od, h, g, ht, hF⟩, G⟩ := T
  have e1 : keysOf t.all = (od ++ nw).flatten.map En.k := by
    rw [← ht, all_tb, keysOf, List.map_map]; rfl
  have e2 : t.all.length = (od ++ nw).flatten.length := by rw [← ht, all_tb, List.length_map]
  rw [e1]
  refine keys_any h e2 hc ?_ g.n9
  by_cases h0 : 0 < od.length
  · have := g.o2 h0; have := g.n9; omega
  · omega
end
end Go.Proofs.Ytkjfildnemgbiaa
