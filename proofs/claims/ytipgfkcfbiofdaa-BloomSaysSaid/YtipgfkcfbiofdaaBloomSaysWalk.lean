/-
  The bits that keys set are what the document says, and what may be there by them: proof of the law 'BloomSays'. No conditions.
-/
import Derived.WalkKit
import Derived.Below
import Derived.Test.YtipgfkcfbiofdaaBoth
import Derived.Test.YtipgfkcfbiofdaaAny
namespace Go.Proofs.Ytipgfkcfbiofdaa.bloomSays
open Go.RowKit Go.Deep
set_option linter.unusedVariables false
set_option linter.unusedSimpArgs false

theorem size_of {ops : Array Oper} {a0 : Act} {n : Nat} (h : ((List.range ops.size).all fun i => match (ops[i]?).bind (·.dst) with | some t => decide (t < n) | none => true) = true) (hn : a0.tmps.size = n) : ∀ (i : Nat) (o : Oper) (t : Nat), ops[i]? = some o → o.dst = some t → t < a0.tmps.size := fun i o t ho hd => by
  have hi : i < ops.size := (Array.getElem?_eq_some_iff.1 ho).1
  have := List.all_eq_true.1 h i (List.mem_range.2 hi)
  rw [ho] at this
  simp only [Option.bind_some, hd, decide_eq_true_eq] at this
  rw [hn]
  exact this

set_option maxRecDepth 4000 in
set_option maxHeartbeats 4000000 in
theorem walk (a0 : Int) (a1 : Int) (a2 : Option Addr) (len2 cap2 : Nat) (z2 : List ByteArray) (a3 : ByteArray) (w : World) (hw0 : (Lit.int .i64 a0).wf = true) (hw1 : (Lit.int .i64 a1).wf = true) (hw2 : StrsAt w a2 len2 z2) (hw3 : a3.size ≤ maxLen) :
    Calls Try.prog 4 #[.int .i64 a0, .int .i64 a1, .slice a2 len2 cap2, .string a3] w fun e w' => e = .returned (.bool true) ∧ Below w.heap.size w w' := by
  have ca := hide (awake_any w)
  have q0 := wf_i64 hw0
  have q1 := wf_i64 hw1
  clear hw0 hw1
  by_cases hbad : a0 < 8 ∨ 65536 < a0 ∨ a1 < 1 ∨ 8 < a1
  · have cN := hide (fun W : World => new_bad a0 a1 W hbad)
    have HB := hide hbad
    clear hbad q0 q1 hw2 hw3
    by_cases e1 : a0 < 8
    · clear HB
      go_enter Try.func4, Try.ntmps4
      go_wp2_with fail
      refine ca.out.mono ?_
      rintro r w1 ⟨rfl, h1⟩
      have B1 := hide h1
      clear h1 ca
      go_wp2_with fail
      refine (cN.out _).mono ?_
      rintro r w2 ⟨rfl, h⟩
      obtain rfl : w1 = w2 := h.symm
      clear h
      go_wp2
      go_ret
      exact ⟨rfl, B1.out⟩
    by_cases e2 : 65536 < a0
    · clear HB
      go_enter Try.func4, Try.ntmps4
      go_wp2_with fail
      refine ca.out.mono ?_
      rintro r w1 ⟨rfl, h1⟩
      have B1 := hide h1
      clear h1 ca
      go_wp2_with fail
      refine (cN.out _).mono ?_
      rintro r w2 ⟨rfl, h⟩
      obtain rfl : w1 = w2 := h.symm
      clear h
      go_wp2
      go_ret
      exact ⟨rfl, B1.out⟩
    by_cases e3 : a1 < 1
    · clear HB
      go_enter Try.func4, Try.ntmps4
      go_wp2_with fail
      refine ca.out.mono ?_
      rintro r w1 ⟨rfl, h1⟩
      have B1 := hide h1
      clear h1 ca
      go_wp2_with fail
      refine (cN.out _).mono ?_
      rintro r w2 ⟨rfl, h⟩
      obtain rfl : w1 = w2 := h.symm
      clear h
      go_wp2
      go_ret
      exact ⟨rfl, B1.out⟩
    have e4 : 8 < a1 := by have := HB.out; omega
    clear HB
    go_enter Try.func4, Try.ntmps4
    go_wp2_with fail
    refine ca.out.mono ?_
    rintro r w1 ⟨rfl, h1⟩
    have B1 := hide h1
    clear h1 ca
    go_wp2_with fail
    refine (cN.out _).mono ?_
    rintro r w2 ⟨rfl, h⟩
    obtain rfl : w1 = w2 := h.symm
    clear h
    go_wp2
    go_ret
    exact ⟨rfl, B1.out⟩
  obtain ⟨n, hn⟩ : ∃ n : Nat, a0 = (n : Int) := ⟨a0.toNat, by omega⟩
  obtain ⟨t, ht⟩ : ∃ t : Nat, a1 = (t : Int) := ⟨a1.toNat, by omega⟩
  subst hn ht
  have n1 : 8 ≤ n := by omega
  have n2 : n ≤ 65536 := by omega
  have t1 : 1 ≤ t := by omega
  have t2 : t ≤ 8 := by omega
  have cN := hide (fun (W : World) (b : Below w.heap.size w W) => new_l b n t n1 n2 t1 t2)
  have hlen := hw2.len
  have HW := hide hw2
  clear hbad q0 q1 hw2
  have e1 : ¬ (n : Int) < 8 := by omega
  have e2 : ¬ (65536 : Int) < (n : Int) := by omega
  have e3 : ¬ (t : Int) < 1 := by omega
  have e4 : ¬ (8 : Int) < (t : Int) := by omega
  by_cases h60 : 60 < len2
  · have hl : ((60 : Int) < (len2 : Int)) = True := eq_true (by omega)
    clear h60 hlen hw3
    go_enter Try.func4, Try.ntmps4
    go_wp2_with fail
    refine ca.out.mono ?_
    rintro r w1 ⟨rfl, h1⟩
    have B1 := hide h1
    clear h1 ca
    go_wp2_with fail
    refine (cN.out _ B1.out).mono ?_
    rintro r w2 ⟨f, s, rfl, h, _, _, _⟩
    have F2 := hide h
    clear h B1 cN
    go_wp2
    go_ret
    exact ⟨rfl, F2.out.bel⟩
  have hl : ((60 : Int) < (len2 : Int)) = False := eq_false (by omega)
  have HLEN := hide hlen
  clear hlen
  by_cases h1000 : 1000 < a3.size
  · have hk : ((1000 : Int) < (a3.size : Int)) = True := eq_true (by omega)
    clear h1000 hw3
    go_enter Try.func4, Try.ntmps4
    go_wp2_with fail
    refine ca.out.mono ?_
    rintro r w1 ⟨rfl, h1⟩
    have B1 := hide h1
    clear h1 ca
    go_wp2_with fail
    refine (cN.out _ B1.out).mono ?_
    rintro r w2 ⟨f, s, rfl, h, _, _, _⟩
    have F2 := hide h
    clear h B1 cN
    go_wp2
    go_ret
    exact ⟨rfl, F2.out.bel⟩
  have hk : ((1000 : Int) < (a3.size : Int)) = False := eq_false (by omega)
  have K3 : Hid (a3.size ≤ 1000) := by show _ ≤ _; omega
  clear hw3 h1000
  have hmk := run_make_bools n (by omega)
  go_enter Try.func4, Try.ntmps4
  go_wp2_with fail
  refine ca.out.mono ?_
  rintro r w1 ⟨rfl, h1⟩
  have B1 := hide h1
  clear h1 ca
  go_wp2_with fail
  refine (cN.out _ B1.out).mono ?_
  rintro r w2 ⟨f, s, rfl, h, _, _, _⟩
  have F2 := hide h
  clear h B1 cN
  have T2 : Hid (Both w f s (bitsB n t []) t w2.heap.size (bitsB n t []) (w2.alloc (.cells (boolsA (List.replicate n false)) 4))) :=
    ⟨F2.out.on ((Below.refl _ _).alloc (Nat.le_refl _) _), Blk.new w2 ((List.replicate n false).map Value.bool) 4, by have := F2.out.flt.own.lt; omega, by have := F2.out.flt.row.lt; omega, F2.out.bel.size⟩
  go_wp2_with fail
  generalize w2.heap.size = u at T2 ⊢
  clear hmk hl hk F2 e1 e2 e3 e4
  go_loopg [12, 13] len2 (fun kx s12 s13 wr => ∃ i m : Nat, s12 = .int .i64 m ∧ s13 = .int .i64 i ∧ i ≤ len2 ∧ len2 - i ≤ kx ∧ Hid (m = cntB (bitsB n t (z2.take i)) ∧ Both w f s (bitsB n t (z2.take i)) t u (bitsB n t (z2.take i)) wr))
  case atStart => exact ⟨0, 0, rfl, rfl, Nat.zero_le _, by omega, by rw [List.take_zero, bitsB_nil, cntB_blank], T2.out⟩
  case round =>
    obtain ⟨i, m, rfl, rfl, hin, hg, I⟩ := hrel
    by_cases hlt : i < len2
    · have hlt2 : (i : Int) < (len2 : Int) := by omega
      obtain ⟨b, o, x, ha2, hx, hxs, hc⟩ := HW.out.key I.out.2.fl.bel i hlt
      subst ha2
      obtain ⟨l0, hl0⟩ : ∃ l0, l0 = bitsB n t (z2.take i) := ⟨_, rfl⟩
      obtain ⟨l1, hl1⟩ : ∃ l1, l1 = bitsB n t (z2.take (i + 1)) := ⟨_, rfl⟩
      have e01 : setB l0 (plc x l0.length t) = l1 := by rw [hl0, hl1]; exact bitsB_take hx
      have elen : l0.length = n := by rw [hl0]; exact bitsB_length _ _ _
      rw [elen] at e01
      have I0 : Hid (m = cntB l0 ∧ Both w f s l0 t u l0 wr) := by rw [hl0]; exact I.out
      have key2 : Hid (∀ W : World, Below w.heap.size w W → W.cell? ⟨b, o + i, none⟩ = some (.string x)) := fun W hW => by
        obtain ⟨b', o', x', h1, h2, _, h3⟩ := HW.out.key hW i hlt
        cases h1
        rw [hx] at h2
        cases h2
        exact h3
      have cA : Hid (Calls Try.prog 10 #[.pointer (some ⟨f, 0, none⟩), .string x] wr fun e W' => e = .returned (.tuple #[]) ∧ Both w f s l1 t u l0 W') := by
        refine (I0.out.2.add x (by unfold maxLen; omega)).mono ?_
        rintro e W' ⟨rfl, h⟩
        exact ⟨rfl, by rw [elen, e01] at h; exact h⟩
      have cB : Hid (∀ (W : World) (k : Nat), k ≤ 8 → Calls Try.prog 11 #[.string x, .int .i64 k, .int .i64 n] W fun e W' => e = .returned (.int .i64 (pl (hashK x) (stepK x) n k : Nat)) ∧ W' = W) := fun W k hk => bit_any x (by unfold maxLen; omega) k n hk (by omega) n2 W
      have E01 := hide e01
      have EL := hide elen
      have HL1 := hide hl1
      have M0 := hide I0.out.1
      clear hl0 hl1 e01 elen hx hxs I I0
      go_wp2_with fail
      refine cA.out.mono ?_
      rintro r w3 ⟨rfl, h3⟩
      have F3 := hide h3
      clear h3 cA hc
      go_wp2_with fail
      go_loopg [12, 14] t (fun kx s12 s14 wr => ∃ k m : Nat, s12 = .int .i64 m ∧ s14 = .int .i64 k ∧ k ≤ t ∧ t - k ≤ kx ∧ Hid (m = cntB (setB l0 (plc x n k)) ∧ Both w f s l1 t u (setB l0 (plc x n k)) wr))
      case atStart => exact ⟨0, m, rfl, rfl, Nat.zero_le _, by omega, M0.out, F3.out⟩
      case round =>
        obtain ⟨k, m, rfl, rfl, hkt, hgk, I⟩ := hrel
        by_cases hlk : k < t
        · have hlk2 : (k : Int) < (t : Int) := by omega
          have hc := key2.out wr I.out.2.fl.bel
          obtain ⟨p, hp⟩ : ∃ p, p = pl (hashK x) (stepK x) n k := ⟨_, rfl⟩
          have cB1 := hide (cB.out wr k (by omega))
          rw [← hp] at cB1
          have hpn : p < n := by rw [hp]; exact pl_lt _ _ _ _ (by omega)
          have hpn2 : (p : Int) < (n : Int) := by omega
          have hlen1 : (setB l0 (plc x n k)).length = n := by rw [setB_length, EL.out]
          have hbit := I.out.2.bit p (by rw [hlen1]; exact hpn)
          have hfz := I.out.2.row.frozen p
          have E2 : Hid (setB l0 (plc x n (k + 1)) = (setB l0 (plc x n k)).set p true) := by
            show _ = _
            rw [hp, ← setB_snoc]; unfold plc; rw [upto_succ]
          have hm9 := cntB_le (setB l0 (plc x n k))
          rw [← I.out.1, hlen1] at hm9
          have LN := hide hlen1
          clear hp hlen1
          cases hv : (setB l0 (plc x n k)).getD p false
          · have HV := hide hv
            rw [hv] at hbit
            clear hv
            go_wp2_with fail
            refine cB1.out.mono ?_
            rintro r w5 ⟨rfl, h5⟩
            obtain rfl : wr = w5 := h5.symm
            clear h5 cB1
            go_wp2
            go_roundg (t - (k + 1))
            case measure => omega
            case rel =>
              refine ⟨k + 1, m + 1, by go_num, by go_num, by omega, by omega, ?_, by rw [E2.out]; exact I.out.2.set p⟩
              rw [E2.out, cntB_count, count_set_new (by rw [LN.out]; exact hpn) HV.out, ← cntB_count, ← I.out.1]
          · have HV := hide hv
            rw [hv] at hbit
            clear hv
            go_wp2_with fail
            refine cB1.out.mono ?_
            rintro r w5 ⟨rfl, h5⟩
            obtain rfl : wr = w5 := h5.symm
            clear h5 cB1
            go_wp2
            go_roundg (t - (k + 1))
            case measure => omega
            case rel => exact ⟨k + 1, m, rfl, by go_num, by omega, by omega, by rw [E2.out, set_same HV.out]; exact I.out⟩
        · obtain rfl : k = t := by omega
          have hlk2 : ¬ (k : Int) < (k : Int) := by omega
          have J : Hid (m = cntB l1 ∧ Both w f s l1 k u l1 wr) := by have := I.out; rw [E01.out] at this; exact this
          clear I
          go_wp2
          go_roundg (len2 - (i + 1))
          case measure => omega
          case rel => exact ⟨i + 1, m, rfl, by go_num, by omega, by omega, by rw [← HL1.out]; exact J.out⟩
    · obtain rfl : i = len2 := by omega
      have hlt2 : ¬ (i : Int) < (i : Int) := by omega
      obtain ⟨l0, hl0⟩ : ∃ l0, l0 = bitsB n t (z2.take i) := ⟨_, rfl⟩
      have EL : Hid (l0.length = n) := by show _ = _; rw [hl0]; exact bitsB_length _ _ _
      have I0 : Hid (m = cntB l0 ∧ Both w f s l0 t u l0 wr) := by rw [hl0]; exact I.out
      have cB : Hid (∀ (W : World) (k : Nat), k ≤ 8 → Calls Try.prog 11 #[.string a3, .int .i64 k, .int .i64 n] W fun e W' => e = .returned (.int .i64 (pl (hashK a3) (stepK a3) n k : Nat)) ∧ W' = W) := fun W k hk => bit_any a3 (by unfold maxLen; have := K3.out; omega) k n hk (by omega) n2 W
      clear I hl0 T2 hg
      go_wp2_with fail
      go_loopg [16, 17] t (fun kx s16 s17 wr => ∃ k : Nat, s16 = .bool (mayB l0 (plc a3 n k)) ∧ s17 = .int .i64 k ∧ k ≤ t ∧ t - k ≤ kx ∧ Hid (Both w f s l0 t u l0 wr))
      case atStart => exact ⟨0, rfl, rfl, Nat.zero_le _, by omega, I0.out.2⟩
      case round =>
        obtain ⟨k, rfl, rfl, hkt, hgk, I⟩ := hrel
        by_cases hlk : k < t
        · have hlk2 : (k : Int) < (t : Int) := by omega
          obtain ⟨p, hp⟩ : ∃ p, p = pl (hashK a3) (stepK a3) n k := ⟨_, rfl⟩
          have cB1 := hide (cB.out wr k (by omega))
          rw [← hp] at cB1
          have hpn : p < n := by rw [hp]; exact pl_lt _ _ _ _ (by omega)
          have hpn2 : (p : Int) < (n : Int) := by omega
          have hbit := I.out.bit p (by rw [EL.out]; exact hpn)
          have E2 : Hid (mayB l0 (plc a3 n (k + 1)) = (mayB l0 (plc a3 n k) && l0.getD p false)) := by
            show _ = _
            rw [hp, ← mayB_snoc]; unfold plc; rw [upto_succ]
          clear hp
          generalize l0.getD p false = v at hbit E2
          cases hv : mayB l0 (plc a3 n k)
          · rw [hv] at E2
            go_wp2
            go_roundg (t - (k + 1))
            case measure => omega
            case rel => exact ⟨k + 1, by rw [E2.out]; rfl, by go_num, by omega, by omega, I.out⟩
          · rw [hv] at E2
            go_wp2_with fail
            refine cB1.out.mono ?_
            rintro r w5 ⟨rfl, h5⟩
            obtain rfl : wr = w5 := h5.symm
            clear h5 cB1
            go_wp2
            go_roundg (t - (k + 1))
            case measure => omega
            case rel => exact ⟨k + 1, by rw [E2.out, Bool.true_and], by go_num, by omega, by omega, I.out⟩
        · obtain rfl : k = t := by omega
          have hlk2 : ¬ (k : Int) < (k : Int) := by omega
          have hc9 : cntB l0 ≤ 65536 := by have := cntB_le l0; rw [EL.out] at this; omega
          have cBt := hide (bits_l I.out.fl)
          obtain ⟨may, hmay⟩ : ∃ may, may = mayB l0 (plc a3 n k) := ⟨_, rfl⟩
          have I9 := I
          have M9 := hide I0.out.1
          obtain ⟨q, hq⟩ : ∃ q, q = cntB l0 := ⟨_, rfl⟩
          have hqm : m = q := by rw [hq]; exact I0.out.1
          subst hqm
          rw [← hq] at hc9 cBt
          rw [← hmay]
          have cM : Hid (∀ W : World, Fl w f s l0 k W → Calls Try.prog 14 #[.pointer (some ⟨f, 0, none⟩), .string a3] W fun e W' => e = .returned (.bool may) ∧ Fl w f s l0 k W' ∧ Below W.heap.size W W') := fun W hW => by
            have := may_l hW a3 (by unfold maxLen; have := K3.out; omega)
            rw [EL.out, ← hmay] at this
            exact this
          have cC : Hid (∀ W : World, Fl w f s l0 k W → Calls Try.prog 13 #[.pointer (some ⟨f, 0, none⟩)] W fun e W' => e = .returned (.int .i64 (m : Int)) ∧ W' = W) := fun W hW => by
            rw [hq]; exact count_l hW
          have HQ := hide hq
          clear hq hmay I0 cB
          go_wp2_with fail
          refine cBt.out.mono ?_
          rintro r w5 ⟨g, cp, rfl, hnm, h5, b5, _⟩
          have N5 := hide hnm
          have F5 := hide h5
          have T5 := hide (I9.out.on b5)
          clear hnm h5 b5 cBt I I9
          go_wp2_with fail
          refine (cC.out _ F5.out).mono ?_
          rintro r w6 ⟨rfl, h6⟩
          obtain rfl : w5 = w6 := h6.symm
          clear h6 cC
          go_wp2_with fail
          refine (cM.out _ F5.out).mono ?_
          rintro r w6 ⟨rfl, h6, b6⟩
          have N6 := hide (N5.out.on b6)
          have T6 := hide (T5.out.on b6)
          clear h6 b6 cM N5 T5 F5
          have hbb : (may != may) = false := by simp
          go_wp2_with fail
          go_loopg [19] m (fun kx s19 wr => ∃ j : Nat, s19 = .int .i64 j ∧ j ≤ m ∧ m - j ≤ kx ∧ Hid (Nums wr g (ixs l0 l0.length) ∧ Both w f s l0 k u l0 wr))
          case atStart => exact ⟨0, rfl, Nat.zero_le _, by omega, N6.out, T6.out⟩
          case round =>
            obtain ⟨j, rfl, hin, hg, J⟩ := hrel
            by_cases hlt : j < m
            · have hlt3 : (j : Int) < (m : Int) := by omega
              obtain ⟨x, hx⟩ : ∃ x, (ixs l0 l0.length)[j]? = some x := ⟨_, List.getElem?_eq_getElem (by have := HQ.out; unfold cntB at this; omega)⟩
              obtain ⟨x1, x2⟩ := ixs_lt hx
              rw [EL.out] at x1
              have x3 : (x : Int) < (n : Int) := by omega
              have x4 : ¬ n ≤ x := by omega
              have cX : Hid (∀ W : World, Nums W g (ixs l0 l0.length) ∧ Both w f s l0 k u l0 W → W.cell? ⟨g, j, none⟩ = some (.int .i64 (x : Int)) ∧ W.cell? ⟨u, x, none⟩ = some (.bool true)) := fun W hW => by
                refine ⟨hW.1.cell j x hx, ?_⟩
                have := hW.2.bit x (by rw [EL.out]; exact x1)
                rw [x2] at this
                exact this
              have DR : Hid (Nums { wr with drawn := wr.drawn + 1 } g (ixs l0 l0.length) ∧ Both w f s l0 k u l0 { wr with drawn := wr.drawn + 1 }) := ⟨⟨J.out.1.lt, J.out.1.cell⟩, ⟨J.out.2.fl.drew, J.out.2.row.same rfl, J.out.2.uf, J.out.2.us, J.out.2.lu⟩⟩
              by_cases hj0 : j = 0
              · have hj1 : ¬ 0 < j := by omega
                clear hx x2 hj0
                go_wp2_with fail
                refine wp_region_guard (by kernel_rfl) (by kernel_rfl) (fun i => ([.slice (some ⟨g, 0, none⟩) m cp, .int .i64 (j : Int), .pointer (some ⟨g, j, none⟩), .int .i64 (x : Int), .bool false, .bool false, .slice (some ⟨g, 0, none⟩) m cp, .int .i64 (j : Int), .pointer (some ⟨g, j, none⟩), .int .i64 (x : Int), .int .i64 (n : Int), .bool false, .bool false, .bool false, .slice (some ⟨u, 0, none⟩) n n, .slice (some ⟨g, 0, none⟩) m cp, .int .i64 (j : Int), .pointer (some ⟨g, j, none⟩), .int .i64 (x : Int), .pointer (some ⟨u, x, none⟩), .bool true, .bool false, .bool false, .bool false, .int .i64 (j : Int), .bool false, .bool false, undef, undef, undef, undef, undef, undef, undef, undef, undef, undef, .bool false, .bool false] : List Value).getD i undef) (fun W => Nums W g (ixs l0 l0.length) ∧ Both w f s l0 k u l0 W) (size_of (n := 185) (by kernel_rfl) rfl) (DR.out) ?_ ?_
                · intro i o hi w' ev hc hin hout hcst hfn
                  have hlt : i < 39 := by
                    have := (Array.getElem?_eq_some_iff.1 hi).1
                    simpa using this
                  match i, hlt with
                  | 0, _ =>
                    simp only [List.getElem?_toArray, List.getElem?_cons_zero, List.getElem?_cons_succ, Option.some.injEq] at hi
                    subst hi
                    rw [if_pos (by simp [wantV])]
                    have e0 : ev (.tmp 18) = .slice (some ⟨g, 0, none⟩) m cp := hout 18 (by kernel_rfl) (show (18 : Nat) < 185 by decide)
                    refine .inl ⟨w', ?_, hc⟩
                    show _ = Result.ok (Next.value (.slice (some ⟨g, 0, none⟩) m cp)) w'
                    simp [execOp, e0, hcst, go_sem]
                  | 1, _ =>
                    simp only [List.getElem?_toArray, List.getElem?_cons_zero, List.getElem?_cons_succ, Option.some.injEq] at hi
                    subst hi
                    rw [if_pos (by simp [wantV])]
                    have e0 : ev (.tmp 19) = .int .i64 (j : Int) := hout 19 (by kernel_rfl) (show (19 : Nat) < 185 by decide)
                    refine .inl ⟨w', ?_, hc⟩
                    show _ = Result.ok (Next.value (.int .i64 (j : Int))) w'
                    simp [execOp, e0, hcst, go_sem]
                  | 2, _ =>
                    simp only [List.getElem?_toArray, List.getElem?_cons_zero, List.getElem?_cons_succ, Option.some.injEq] at hi
                    subst hi
                    rw [if_pos (by simp [wantV])]
                    have e0 : ev (.tmp 146) = .slice (some ⟨g, 0, none⟩) m cp := hin 146 0 ⟨0, .data⟩ (by kernel_rfl) (by simp) rfl rfl (show (146 : Nat) < 185 by decide)
                    have e1 : ev (.tmp 147) = .int .i64 (j : Int) := hin 147 1 ⟨1, .data⟩ (by kernel_rfl) (by simp) rfl rfl (show (147 : Nat) < 185 by decide)
                    refine .inl ⟨w', ?_, hc⟩
                    show _ = Result.ok (Next.value (.pointer (some ⟨g, j, none⟩))) w'
                    simp only [execOp, e0, e1, hcst]
                    go_simp
                  | 3, _ =>
                    simp only [List.getElem?_toArray, List.getElem?_cons_zero, List.getElem?_cons_succ, Option.some.injEq] at hi
                    subst hi
                    rw [if_pos (by simp [wantV])]
                    have e0 : ev (.tmp 148) = .pointer (some ⟨g, j, none⟩) := hin 148 2 ⟨2, .data⟩ (by kernel_rfl) (by simp) rfl rfl (show (148 : Nat) < 185 by decide)
                    refine .inl ⟨w', ?_, hc⟩
                    show _ = Result.ok (Next.value (.int .i64 (x : Int))) w'
                    obtain ⟨z1, z2⟩ := cX.out w' hc
                    simp only [execOp, e0]
                    go_simp
                  | 4, _ =>
                    simp only [List.getElem?_toArray, List.getElem?_cons_zero, List.getElem?_cons_succ, Option.some.injEq] at hi
                    subst hi
                    rw [if_pos (by simp [wantV])]
                    have e0 : ev (.tmp 149) = .int .i64 (x : Int) := hin 149 3 ⟨3, .data⟩ (by kernel_rfl) (by simp) rfl rfl (show (149 : Nat) < 185 by decide)
                    refine .inl ⟨w', ?_, hc⟩
                    show _ = Result.ok (Next.value (.bool false)) w'
                    simp only [execOp, e0, hcst]
                    go_simp
                  | 5, _ =>
                    simp only [List.getElem?_toArray, List.getElem?_cons_zero, List.getElem?_cons_succ, Option.some.injEq] at hi
                    subst hi
                    rw [if_pos (by simp [wantV])]
                    have e0 : ev (.tmp 150) = .bool false := hin 150 4 ⟨4, .data⟩ (by kernel_rfl) (by simp) rfl rfl (show (150 : Nat) < 185 by decide)
                    refine .inl ⟨w', ?_, hc⟩
                    show _ = Result.ok (Next.value (.bool false)) w'
                    simp [execOp, e0, hcst, go_sem]
                  | 6, _ =>
                    simp only [List.getElem?_toArray, List.getElem?_cons_zero, List.getElem?_cons_succ, Option.some.injEq] at hi
                    subst hi
                    rw [if_pos (by simp [wantV])]
                    have e0 : ev (.tmp 18) = .slice (some ⟨g, 0, none⟩) m cp := hout 18 (by kernel_rfl) (show (18 : Nat) < 185 by decide)
                    refine .inl ⟨w', ?_, hc⟩
                    show _ = Result.ok (Next.value (.slice (some ⟨g, 0, none⟩) m cp)) w'
                    simp [execOp, e0, hcst, go_sem]
                  | 7, _ =>
                    simp only [List.getElem?_toArray, List.getElem?_cons_zero, List.getElem?_cons_succ, Option.some.injEq] at hi
                    subst hi
                    rw [if_pos (by simp [wantV])]
                    have e0 : ev (.tmp 19) = .int .i64 (j : Int) := hout 19 (by kernel_rfl) (show (19 : Nat) < 185 by decide)
                    refine .inl ⟨w', ?_, hc⟩
                    show _ = Result.ok (Next.value (.int .i64 (j : Int))) w'
                    simp [execOp, e0, hcst, go_sem]
                  | 8, _ =>
                    simp only [List.getElem?_toArray, List.getElem?_cons_zero, List.getElem?_cons_succ, Option.some.injEq] at hi
                    subst hi
                    rw [if_pos (by simp [wantV])]
                    have e0 : ev (.tmp 152) = .slice (some ⟨g, 0, none⟩) m cp := hin 152 6 ⟨6, .data⟩ (by kernel_rfl) (by simp) rfl rfl (show (152 : Nat) < 185 by decide)
                    have e1 : ev (.tmp 153) = .int .i64 (j : Int) := hin 153 7 ⟨7, .data⟩ (by kernel_rfl) (by simp) rfl rfl (show (153 : Nat) < 185 by decide)
                    refine .inl ⟨w', ?_, hc⟩
                    show _ = Result.ok (Next.value (.pointer (some ⟨g, j, none⟩))) w'
                    simp only [execOp, e0, e1, hcst]
                    go_simp
                  | 9, _ =>
                    simp only [List.getElem?_toArray, List.getElem?_cons_zero, List.getElem?_cons_succ, Option.some.injEq] at hi
                    subst hi
                    rw [if_pos (by simp [wantV])]
                    have e0 : ev (.tmp 154) = .pointer (some ⟨g, j, none⟩) := hin 154 8 ⟨8, .data⟩ (by kernel_rfl) (by simp) rfl rfl (show (154 : Nat) < 185 by decide)
                    refine .inl ⟨w', ?_, hc⟩
                    show _ = Result.ok (Next.value (.int .i64 (x : Int))) w'
                    obtain ⟨z1, z2⟩ := cX.out w' hc
                    simp only [execOp, e0]
                    go_simp
                  | 10, _ =>
                    simp only [List.getElem?_toArray, List.getElem?_cons_zero, List.getElem?_cons_succ, Option.some.injEq] at hi
                    subst hi
                    rw [if_pos (by simp [wantV])]
                    have e0 : ev (.tmp 0) = .int .i64 (n : Int) := hout 0 (by kernel_rfl) (show (0 : Nat) < 185 by decide)
                    refine .inl ⟨w', ?_, hc⟩
                    show _ = Result.ok (Next.value (.int .i64 (n : Int))) w'
                    simp [execOp, e0, hcst, go_sem]
                  | 11, _ =>
                    simp only [List.getElem?_toArray, List.getElem?_cons_zero, List.getElem?_cons_succ, Option.some.injEq] at hi
                    subst hi
                    rw [if_pos (by simp [wantV])]
                    have e0 : ev (.tmp 155) = .int .i64 (x : Int) := hin 155 9 ⟨9, .data⟩ (by kernel_rfl) (by simp) rfl rfl (show (155 : Nat) < 185 by decide)
                    have e1 : ev (.tmp 156) = .int .i64 (n : Int) := hin 156 10 ⟨10, .data⟩ (by kernel_rfl) (by simp) rfl rfl (show (156 : Nat) < 185 by decide)
                    refine .inl ⟨w', ?_, hc⟩
                    show _ = Result.ok (Next.value (.bool false)) w'
                    simp only [execOp, e0, e1, hcst]
                    go_simp
                  | 12, _ =>
                    simp only [List.getElem?_toArray, List.getElem?_cons_zero, List.getElem?_cons_succ, Option.some.injEq] at hi
                    subst hi
                    rw [if_pos (by simp [wantV])]
                    have e0 : ev (.tmp 151) = .bool false := hin 151 5 ⟨5, .data⟩ (by kernel_rfl) (by simp) rfl rfl (show (151 : Nat) < 185 by decide)
                    have e1 : ev (.tmp 157) = .bool false := hin 157 11 ⟨11, .data⟩ (by kernel_rfl) (by simp) rfl rfl (show (157 : Nat) < 185 by decide)
                    refine .inl ⟨w', ?_, hc⟩
                    show _ = Result.ok (Next.value (.bool false)) w'
                    simp [execOp, e0, e1, hcst, go_sem]
                  | 13, _ =>
                    simp only [List.getElem?_toArray, List.getElem?_cons_zero, List.getElem?_cons_succ, Option.some.injEq] at hi
                    subst hi
                    rw [if_pos (by simp [wantV])]
                    have e0 : ev (.tmp 158) = .bool false := hin 158 12 ⟨12, .data⟩ (by kernel_rfl) (by simp) rfl rfl (show (158 : Nat) < 185 by decide)
                    refine .inl ⟨w', ?_, hc⟩
                    show _ = Result.ok (Next.value (.bool false)) w'
                    simp [execOp, e0, hcst, go_sem]
                  | 14, _ =>
                    simp only [List.getElem?_toArray, List.getElem?_cons_zero, List.getElem?_cons_succ, Option.some.injEq] at hi
                    subst hi
                    rw [if_pos (by simp [wantV])]
                    have e0 : ev (.tmp 11) = .slice (some ⟨u, 0, none⟩) n n := hout 11 (by kernel_rfl) (show (11 : Nat) < 185 by decide)
                    refine .inl ⟨w', ?_, hc⟩
                    show _ = Result.ok (Next.value (.slice (some ⟨u, 0, none⟩) n n)) w'
                    simp [execOp, e0, hcst, go_sem]
                  | 15, _ =>
                    simp only [List.getElem?_toArray, List.getElem?_cons_zero, List.getElem?_cons_succ, Option.some.injEq] at hi
                    subst hi
                    rw [if_pos (by simp [wantV])]
                    have e0 : ev (.tmp 18) = .slice (some ⟨g, 0, none⟩) m cp := hout 18 (by kernel_rfl) (show (18 : Nat) < 185 by decide)
                    refine .inl ⟨w', ?_, hc⟩
                    show _ = Result.ok (Next.value (.slice (some ⟨g, 0, none⟩) m cp)) w'
                    simp [execOp, e0, hcst, go_sem]
                  | 16, _ =>
                    simp only [List.getElem?_toArray, List.getElem?_cons_zero, List.getElem?_cons_succ, Option.some.injEq] at hi
                    subst hi
                    rw [if_pos (by simp [wantV])]
                    have e0 : ev (.tmp 19) = .int .i64 (j : Int) := hout 19 (by kernel_rfl) (show (19 : Nat) < 185 by decide)
                    refine .inl ⟨w', ?_, hc⟩
                    show _ = Result.ok (Next.value (.int .i64 (j : Int))) w'
                    simp [execOp, e0, hcst, go_sem]
                  | 17, _ =>
                    simp only [List.getElem?_toArray, List.getElem?_cons_zero, List.getElem?_cons_succ, Option.some.injEq] at hi
                    subst hi
                    rw [if_pos (by simp [wantV])]
                    have e0 : ev (.tmp 161) = .slice (some ⟨g, 0, none⟩) m cp := hin 161 15 ⟨15, .data⟩ (by kernel_rfl) (by simp) rfl rfl (show (161 : Nat) < 185 by decide)
                    have e1 : ev (.tmp 162) = .int .i64 (j : Int) := hin 162 16 ⟨16, .data⟩ (by kernel_rfl) (by simp) rfl rfl (show (162 : Nat) < 185 by decide)
                    refine .inl ⟨w', ?_, hc⟩
                    show _ = Result.ok (Next.value (.pointer (some ⟨g, j, none⟩))) w'
                    simp only [execOp, e0, e1, hcst]
                    go_simp
                  | 18, _ =>
                    simp only [List.getElem?_toArray, List.getElem?_cons_zero, List.getElem?_cons_succ, Option.some.injEq] at hi
                    subst hi
                    rw [if_pos (by simp [wantV])]
                    have e0 : ev (.tmp 163) = .pointer (some ⟨g, j, none⟩) := hin 163 17 ⟨17, .data⟩ (by kernel_rfl) (by simp) rfl rfl (show (163 : Nat) < 185 by decide)
                    refine .inl ⟨w', ?_, hc⟩
                    show _ = Result.ok (Next.value (.int .i64 (x : Int))) w'
                    obtain ⟨z1, z2⟩ := cX.out w' hc
                    simp only [execOp, e0]
                    go_simp
                  | 19, _ =>
                    simp only [List.getElem?_toArray, List.getElem?_cons_zero, List.getElem?_cons_succ, Option.some.injEq] at hi
                    subst hi
                    rw [if_pos (by simp [wantV])]
                    have e0 : ev (.tmp 160) = .slice (some ⟨u, 0, none⟩) n n := hin 160 14 ⟨14, .data⟩ (by kernel_rfl) (by simp) rfl rfl (show (160 : Nat) < 185 by decide)
                    have e1 : ev (.tmp 164) = .int .i64 (x : Int) := hin 164 18 ⟨18, .data⟩ (by kernel_rfl) (by simp) rfl rfl (show (164 : Nat) < 185 by decide)
                    refine .inl ⟨w', ?_, hc⟩
                    show _ = Result.ok (Next.value (.pointer (some ⟨u, x, none⟩))) w'
                    simp only [execOp, e0, e1, hcst]
                    go_simp
                  | 20, _ =>
                    simp only [List.getElem?_toArray, List.getElem?_cons_zero, List.getElem?_cons_succ, Option.some.injEq] at hi
                    subst hi
                    rw [if_pos (by simp [wantV])]
                    have e0 : ev (.tmp 165) = .pointer (some ⟨u, x, none⟩) := hin 165 19 ⟨19, .data⟩ (by kernel_rfl) (by simp) rfl rfl (show (165 : Nat) < 185 by decide)
                    refine .inl ⟨w', ?_, hc⟩
                    show _ = Result.ok (Next.value (.bool true)) w'
                    obtain ⟨z1, z2⟩ := cX.out w' hc
                    simp only [execOp, e0]
                    go_simp
                  | 21, _ =>
                    simp only [List.getElem?_toArray, List.getElem?_cons_zero, List.getElem?_cons_succ, Option.some.injEq] at hi
                    subst hi
                    rw [if_pos (by simp [wantV])]
                    have e0 : ev (.tmp 166) = .bool true := hin 166 20 ⟨20, .data⟩ (by kernel_rfl) (by simp) rfl rfl (show (166 : Nat) < 185 by decide)
                    refine .inl ⟨w', ?_, hc⟩
                    show _ = Result.ok (Next.value (.bool false)) w'
                    simp [execOp, e0, hcst, go_sem]
                  | 22, _ =>
                    simp only [List.getElem?_toArray, List.getElem?_cons_zero, List.getElem?_cons_succ, Option.some.injEq] at hi
                    subst hi
                    rw [if_pos (by simp [wantV])]
                    have e0 : ev (.tmp 159) = .bool false := hin 159 13 ⟨13, .data⟩ (by kernel_rfl) (by simp) rfl rfl (show (159 : Nat) < 185 by decide)
                    have e1 : ev (.tmp 167) = .bool false := hin 167 21 ⟨21, .data⟩ (by kernel_rfl) (by simp) rfl rfl (show (167 : Nat) < 185 by decide)
                    refine .inl ⟨w', ?_, hc⟩
                    show _ = Result.ok (Next.value (.bool false)) w'
                    simp [execOp, e0, e1, hcst, go_sem]
                  | 23, _ =>
                    simp only [List.getElem?_toArray, List.getElem?_cons_zero, List.getElem?_cons_succ, Option.some.injEq] at hi
                    subst hi
                    rw [if_pos (by simp [wantV])]
                    have e0 : ev (.tmp 168) = .bool false := hin 168 22 ⟨22, .data⟩ (by kernel_rfl) (by simp) rfl rfl (show (168 : Nat) < 185 by decide)
                    refine .inl ⟨w', ?_, hc⟩
                    show _ = Result.ok (Next.value (.bool false)) w'
                    simp [execOp, e0, hcst, go_sem]
                  | 24, _ =>
                    simp only [List.getElem?_toArray, List.getElem?_cons_zero, List.getElem?_cons_succ, Option.some.injEq] at hi
                    subst hi
                    rw [if_pos (by simp [wantV])]
                    have e0 : ev (.tmp 19) = .int .i64 (j : Int) := hout 19 (by kernel_rfl) (show (19 : Nat) < 185 by decide)
                    refine .inl ⟨w', ?_, hc⟩
                    show _ = Result.ok (Next.value (.int .i64 (j : Int))) w'
                    simp [execOp, e0, hcst, go_sem]
                  | 25, _ =>
                    simp only [List.getElem?_toArray, List.getElem?_cons_zero, List.getElem?_cons_succ, Option.some.injEq] at hi
                    subst hi
                    rw [if_pos (by simp [wantV])]
                    have e0 : ev (.tmp 170) = .int .i64 (j : Int) := hin 170 24 ⟨24, .data⟩ (by kernel_rfl) (by simp) rfl rfl (show (170 : Nat) < 185 by decide)
                    refine .inl ⟨w', ?_, hc⟩
                    show _ = Result.ok (Next.value (.bool false)) w'
                    simp only [execOp, e0, hcst]
                    go_simp
                  | 26, _ =>
                    simp only [List.getElem?_toArray, List.getElem?_cons_zero, List.getElem?_cons_succ, Option.some.injEq] at hi
                    subst hi
                    rw [if_pos (by simp [wantV])]
                    have e0 : ev (.tmp 171) = .bool false := hin 171 25 ⟨25, .data⟩ (by kernel_rfl) (by simp) rfl rfl (show (171 : Nat) < 185 by decide)
                    refine .inl ⟨w', ?_, hc⟩
                    show _ = Result.ok (Next.value (.bool false)) w'
                    simp [execOp, e0, hcst, go_sem]
                  | 27, _ =>
                    simp only [List.getElem?_toArray, List.getElem?_cons_zero, List.getElem?_cons_succ, Option.some.injEq] at hi
                    subst hi
                    rw [if_neg (by first | (simp [wantV]; done) | (simp [wantV]; rfl))]
                    rfl
                  | 28, _ =>
                    simp only [List.getElem?_toArray, List.getElem?_cons_zero, List.getElem?_cons_succ, Option.some.injEq] at hi
                    subst hi
                    rw [if_neg (by first | (simp [wantV]; done) | (simp [wantV]; rfl))]
                    rfl
                  | 29, _ =>
                    simp only [List.getElem?_toArray, List.getElem?_cons_zero, List.getElem?_cons_succ, Option.some.injEq] at hi
                    subst hi
                    rw [if_neg (by first | (simp [wantV]; done) | (simp [wantV]; rfl))]
                    rfl
                  | 30, _ =>
                    simp only [List.getElem?_toArray, List.getElem?_cons_zero, List.getElem?_cons_succ, Option.some.injEq] at hi
                    subst hi
                    rw [if_neg (by first | (simp [wantV]; done) | (simp [wantV]; rfl))]
                    rfl
                  | 31, _ =>
                    simp only [List.getElem?_toArray, List.getElem?_cons_zero, List.getElem?_cons_succ, Option.some.injEq] at hi
                    subst hi
                    rw [if_neg (by first | (simp [wantV]; done) | (simp [wantV]; rfl))]
                    rfl
                  | 32, _ =>
                    simp only [List.getElem?_toArray, List.getElem?_cons_zero, List.getElem?_cons_succ, Option.some.injEq] at hi
                    subst hi
                    rw [if_neg (by first | (simp [wantV]; done) | (simp [wantV]; rfl))]
                    rfl
                  | 33, _ =>
                    simp only [List.getElem?_toArray, List.getElem?_cons_zero, List.getElem?_cons_succ, Option.some.injEq] at hi
                    subst hi
                    rw [if_neg (by first | (simp [wantV]; done) | (simp [wantV]; rfl))]
                    rfl
                  | 34, _ =>
                    simp only [List.getElem?_toArray, List.getElem?_cons_zero, List.getElem?_cons_succ, Option.some.injEq] at hi
                    subst hi
                    rw [if_neg (by first | (simp [wantV]; done) | (simp [wantV]; rfl))]
                    rfl
                  | 35, _ =>
                    simp only [List.getElem?_toArray, List.getElem?_cons_zero, List.getElem?_cons_succ, Option.some.injEq] at hi
                    subst hi
                    rw [if_neg (by first | (simp [wantV]; done) | (simp [wantV]; rfl))]
                    rfl
                  | 36, _ =>
                    simp only [List.getElem?_toArray, List.getElem?_cons_zero, List.getElem?_cons_succ, Option.some.injEq] at hi
                    subst hi
                    rw [if_neg (by first | (simp [wantV]; done) | (simp [wantV]; rfl))]
                    rfl
                  | 37, _ =>
                    simp only [List.getElem?_toArray, List.getElem?_cons_zero, List.getElem?_cons_succ, Option.some.injEq] at hi
                    subst hi
                    rw [if_pos (by simp [wantV])]
                    have e0 : ev (.tmp 172) = .bool false := hin 172 26 ⟨26, .data⟩ (by kernel_rfl) (by simp) rfl rfl (show (172 : Nat) < 185 by decide)
                    have e1 : ev (.tmp 182) = undef := hin 182 36 ⟨36, .data⟩ (by kernel_rfl) (by simp) rfl rfl (show (182 : Nat) < 185 by decide)
                    refine .inl ⟨w', ?_, hc⟩
                    show _ = Result.ok (Next.value (.bool false)) w'
                    simp [execOp, e0, e1, hcst, go_sem]
                  | 38, _ =>
                    simp only [List.getElem?_toArray, List.getElem?_cons_zero, List.getElem?_cons_succ, Option.some.injEq] at hi
                    subst hi
                    rw [if_pos (by simp [wantV])]
                    have e0 : ev (.tmp 169) = .bool false := hin 169 23 ⟨23, .data⟩ (by kernel_rfl) (by simp) rfl rfl (show (169 : Nat) < 185 by decide)
                    have e1 : ev (.tmp 183) = .bool false := hin 183 37 ⟨37, .data⟩ (by kernel_rfl) (by simp) rfl rfl (show (183 : Nat) < 185 by decide)
                    refine .inl ⟨w', ?_, hc⟩
                    show _ = Result.ok (Next.value (.bool false)) w'
                    simp [execOp, e0, e1, hcst, go_sem]
                · intro w7 hc
                  simp only [lexF, Act.put, List.setIfInBounds_toArray, List.set_cons_succ, List.set_cons_zero, List.getD_cons_succ, List.getD_cons_zero]
                  have HC := hide hc
                  clear hc DR cX x3 x4 x1 hj1
                  go_wp2
                  go_roundg (m - (j + 1))
                  case measure => omega
                  case rel => exact ⟨j + 1, by go_num, by omega, by omega, HC.out⟩
              · obtain ⟨j', hj'⟩ : ∃ j', j = j' + 1 := ⟨j - 1, by omega⟩
                obtain ⟨y, hy⟩ : ∃ y, (ixs l0 l0.length)[j']? = some y := ⟨_, List.getElem?_eq_getElem (by have := HQ.out; unfold cntB at this; omega)⟩
                have cY : Hid (∀ W : World, Nums W g (ixs l0 l0.length) ∧ Both w f s l0 k u l0 W → W.cell? ⟨g, j', none⟩ = some (.int .i64 (y : Int))) := fun W hW => hW.1.cell j' y hy
                have y1 : y < x := ixs_rise hy (by rw [← hj']; exact hx)
                have y2 : ¬ x ≤ y := by omega
                have j1 : (j : Int) - 1 = (j' : Int) := by omega
                have j2 : 0 < j := by omega
                have j3 : j' < m := by omega
                have j5 : IntKind.i64.wrap (j' : Int) = (j' : Int) := by rw [IntKind.wrap_i64]; omega
                have j6 : wrap64 (j' : Int) = (j' : Int) := by unfold wrap64; omega
                clear hx hy x2 hj' hj0 y1
                go_wp2_with fail
                refine wp_region_guard (by kernel_rfl) (by kernel_rfl) (fun i => ([.slice (some ⟨g, 0, none⟩) m cp, .int .i64 (j : Int), .pointer (some ⟨g, j, none⟩), .int .i64 (x : Int), .bool false, .bool false, .slice (some ⟨g, 0, none⟩) m cp, .int .i64 (j : Int), .pointer (some ⟨g, j, none⟩), .int .i64 (x : Int), .int .i64 (n : Int), .bool false, .bool false, .bool false, .slice (some ⟨u, 0, none⟩) n n, .slice (some ⟨g, 0, none⟩) m cp, .int .i64 (j : Int), .pointer (some ⟨g, j, none⟩), .int .i64 (x : Int), .pointer (some ⟨u, x, none⟩), .bool true, .bool false, .bool false, .bool false, .int .i64 (j : Int), .bool true, .bool true, .slice (some ⟨g, 0, none⟩) m cp, .int .i64 (j : Int), .pointer (some ⟨g, j, none⟩), .int .i64 (x : Int), .slice (some ⟨g, 0, none⟩) m cp, .int .i64 (j : Int), .int .i64 (j' : Int), .pointer (some ⟨g, j', none⟩), .int .i64 (y : Int), .bool false, .bool false, .bool false] : List Value).getD i undef) (fun W => Nums W g (ixs l0 l0.length) ∧ Both w f s l0 k u l0 W) (size_of (n := 185) (by kernel_rfl) rfl) (DR.out) ?_ ?_
                · intro i o hi w' ev hc hin hout hcst hfn
                  have hlt : i < 39 := by
                    have := (Array.getElem?_eq_some_iff.1 hi).1
                    simpa using this
                  match i, hlt with
                  | 0, _ =>
                    simp only [List.getElem?_toArray, List.getElem?_cons_zero, List.getElem?_cons_succ, Option.some.injEq] at hi
                    subst hi
                    rw [if_pos (by simp [wantV])]
                    have e0 : ev (.tmp 18) = .slice (some ⟨g, 0, none⟩) m cp := hout 18 (by kernel_rfl) (show (18 : Nat) < 185 by decide)
                    refine .inl ⟨w', ?_, hc⟩
                    show _ = Result.ok (Next.value (.slice (some ⟨g, 0, none⟩) m cp)) w'
                    simp [execOp, e0, hcst, go_sem]
                  | 1, _ =>
                    simp only [List.getElem?_toArray, List.getElem?_cons_zero, List.getElem?_cons_succ, Option.some.injEq] at hi
                    subst hi
                    rw [if_pos (by simp [wantV])]
                    have e0 : ev (.tmp 19) = .int .i64 (j : Int) := hout 19 (by kernel_rfl) (show (19 : Nat) < 185 by decide)
                    refine .inl ⟨w', ?_, hc⟩
                    show _ = Result.ok (Next.value (.int .i64 (j : Int))) w'
                    simp [execOp, e0, hcst, go_sem]
                  | 2, _ =>
                    simp only [List.getElem?_toArray, List.getElem?_cons_zero, List.getElem?_cons_succ, Option.some.injEq] at hi
                    subst hi
                    rw [if_pos (by simp [wantV])]
                    have e0 : ev (.tmp 146) = .slice (some ⟨g, 0, none⟩) m cp := hin 146 0 ⟨0, .data⟩ (by kernel_rfl) (by simp) rfl rfl (show (146 : Nat) < 185 by decide)
                    have e1 : ev (.tmp 147) = .int .i64 (j : Int) := hin 147 1 ⟨1, .data⟩ (by kernel_rfl) (by simp) rfl rfl (show (147 : Nat) < 185 by decide)
                    refine .inl ⟨w', ?_, hc⟩
                    show _ = Result.ok (Next.value (.pointer (some ⟨g, j, none⟩))) w'
                    simp only [execOp, e0, e1, hcst]
                    go_simp
                  | 3, _ =>
                    simp only [List.getElem?_toArray, List.getElem?_cons_zero, List.getElem?_cons_succ, Option.some.injEq] at hi
                    subst hi
                    rw [if_pos (by simp [wantV])]
                    have e0 : ev (.tmp 148) = .pointer (some ⟨g, j, none⟩) := hin 148 2 ⟨2, .data⟩ (by kernel_rfl) (by simp) rfl rfl (show (148 : Nat) < 185 by decide)
                    refine .inl ⟨w', ?_, hc⟩
                    show _ = Result.ok (Next.value (.int .i64 (x : Int))) w'
                    obtain ⟨z1, z2⟩ := cX.out w' hc
                    simp only [execOp, e0]
                    go_simp
                  | 4, _ =>
                    simp only [List.getElem?_toArray, List.getElem?_cons_zero, List.getElem?_cons_succ, Option.some.injEq] at hi
                    subst hi
                    rw [if_pos (by simp [wantV])]
                    have e0 : ev (.tmp 149) = .int .i64 (x : Int) := hin 149 3 ⟨3, .data⟩ (by kernel_rfl) (by simp) rfl rfl (show (149 : Nat) < 185 by decide)
                    refine .inl ⟨w', ?_, hc⟩
                    show _ = Result.ok (Next.value (.bool false)) w'
                    simp only [execOp, e0, hcst]
                    go_simp
                  | 5, _ =>
                    simp only [List.getElem?_toArray, List.getElem?_cons_zero, List.getElem?_cons_succ, Option.some.injEq] at hi
                    subst hi
                    rw [if_pos (by simp [wantV])]
                    have e0 : ev (.tmp 150) = .bool false := hin 150 4 ⟨4, .data⟩ (by kernel_rfl) (by simp) rfl rfl (show (150 : Nat) < 185 by decide)
                    refine .inl ⟨w', ?_, hc⟩
                    show _ = Result.ok (Next.value (.bool false)) w'
                    simp [execOp, e0, hcst, go_sem]
                  | 6, _ =>
                    simp only [List.getElem?_toArray, List.getElem?_cons_zero, List.getElem?_cons_succ, Option.some.injEq] at hi
                    subst hi
                    rw [if_pos (by simp [wantV])]
                    have e0 : ev (.tmp 18) = .slice (some ⟨g, 0, none⟩) m cp := hout 18 (by kernel_rfl) (show (18 : Nat) < 185 by decide)
                    refine .inl ⟨w', ?_, hc⟩
                    show _ = Result.ok (Next.value (.slice (some ⟨g, 0, none⟩) m cp)) w'
                    simp [execOp, e0, hcst, go_sem]
                  | 7, _ =>
                    simp only [List.getElem?_toArray, List.getElem?_cons_zero, List.getElem?_cons_succ, Option.some.injEq] at hi
                    subst hi
                    rw [if_pos (by simp [wantV])]
                    have e0 : ev (.tmp 19) = .int .i64 (j : Int) := hout 19 (by kernel_rfl) (show (19 : Nat) < 185 by decide)
                    refine .inl ⟨w', ?_, hc⟩
                    show _ = Result.ok (Next.value (.int .i64 (j : Int))) w'
                    simp [execOp, e0, hcst, go_sem]
                  | 8, _ =>
                    simp only [List.getElem?_toArray, List.getElem?_cons_zero, List.getElem?_cons_succ, Option.some.injEq] at hi
                    subst hi
                    rw [if_pos (by simp [wantV])]
                    have e0 : ev (.tmp 152) = .slice (some ⟨g, 0, none⟩) m cp := hin 152 6 ⟨6, .data⟩ (by kernel_rfl) (by simp) rfl rfl (show (152 : Nat) < 185 by decide)
                    have e1 : ev (.tmp 153) = .int .i64 (j : Int) := hin 153 7 ⟨7, .data⟩ (by kernel_rfl) (by simp) rfl rfl (show (153 : Nat) < 185 by decide)
                    refine .inl ⟨w', ?_, hc⟩
                    show _ = Result.ok (Next.value (.pointer (some ⟨g, j, none⟩))) w'
                    simp only [execOp, e0, e1, hcst]
                    go_simp
                  | 9, _ =>
                    simp only [List.getElem?_toArray, List.getElem?_cons_zero, List.getElem?_cons_succ, Option.some.injEq] at hi
                    subst hi
                    rw [if_pos (by simp [wantV])]
                    have e0 : ev (.tmp 154) = .pointer (some ⟨g, j, none⟩) := hin 154 8 ⟨8, .data⟩ (by kernel_rfl) (by simp) rfl rfl (show (154 : Nat) < 185 by decide)
                    refine .inl ⟨w', ?_, hc⟩
                    show _ = Result.ok (Next.value (.int .i64 (x : Int))) w'
                    obtain ⟨z1, z2⟩ := cX.out w' hc
                    simp only [execOp, e0]
                    go_simp
                  | 10, _ =>
                    simp only [List.getElem?_toArray, List.getElem?_cons_zero, List.getElem?_cons_succ, Option.some.injEq] at hi
                    subst hi
                    rw [if_pos (by simp [wantV])]
                    have e0 : ev (.tmp 0) = .int .i64 (n : Int) := hout 0 (by kernel_rfl) (show (0 : Nat) < 185 by decide)
                    refine .inl ⟨w', ?_, hc⟩
                    show _ = Result.ok (Next.value (.int .i64 (n : Int))) w'
                    simp [execOp, e0, hcst, go_sem]
                  | 11, _ =>
                    simp only [List.getElem?_toArray, List.getElem?_cons_zero, List.getElem?_cons_succ, Option.some.injEq] at hi
                    subst hi
                    rw [if_pos (by simp [wantV])]
                    have e0 : ev (.tmp 155) = .int .i64 (x : Int) := hin 155 9 ⟨9, .data⟩ (by kernel_rfl) (by simp) rfl rfl (show (155 : Nat) < 185 by decide)
                    have e1 : ev (.tmp 156) = .int .i64 (n : Int) := hin 156 10 ⟨10, .data⟩ (by kernel_rfl) (by simp) rfl rfl (show (156 : Nat) < 185 by decide)
                    refine .inl ⟨w', ?_, hc⟩
                    show _ = Result.ok (Next.value (.bool false)) w'
                    simp only [execOp, e0, e1, hcst]
                    go_simp
                  | 12, _ =>
                    simp only [List.getElem?_toArray, List.getElem?_cons_zero, List.getElem?_cons_succ, Option.some.injEq] at hi
                    subst hi
                    rw [if_pos (by simp [wantV])]
                    have e0 : ev (.tmp 151) = .bool false := hin 151 5 ⟨5, .data⟩ (by kernel_rfl) (by simp) rfl rfl (show (151 : Nat) < 185 by decide)
                    have e1 : ev (.tmp 157) = .bool false := hin 157 11 ⟨11, .data⟩ (by kernel_rfl) (by simp) rfl rfl (show (157 : Nat) < 185 by decide)
                    refine .inl ⟨w', ?_, hc⟩
                    show _ = Result.ok (Next.value (.bool false)) w'
                    simp [execOp, e0, e1, hcst, go_sem]
                  | 13, _ =>
                    simp only [List.getElem?_toArray, List.getElem?_cons_zero, List.getElem?_cons_succ, Option.some.injEq] at hi
                    subst hi
                    rw [if_pos (by simp [wantV])]
                    have e0 : ev (.tmp 158) = .bool false := hin 158 12 ⟨12, .data⟩ (by kernel_rfl) (by simp) rfl rfl (show (158 : Nat) < 185 by decide)
                    refine .inl ⟨w', ?_, hc⟩
                    show _ = Result.ok (Next.value (.bool false)) w'
                    simp [execOp, e0, hcst, go_sem]
                  | 14, _ =>
                    simp only [List.getElem?_toArray, List.getElem?_cons_zero, List.getElem?_cons_succ, Option.some.injEq] at hi
                    subst hi
                    rw [if_pos (by simp [wantV])]
                    have e0 : ev (.tmp 11) = .slice (some ⟨u, 0, none⟩) n n := hout 11 (by kernel_rfl) (show (11 : Nat) < 185 by decide)
                    refine .inl ⟨w', ?_, hc⟩
                    show _ = Result.ok (Next.value (.slice (some ⟨u, 0, none⟩) n n)) w'
                    simp [execOp, e0, hcst, go_sem]
                  | 15, _ =>
                    simp only [List.getElem?_toArray, List.getElem?_cons_zero, List.getElem?_cons_succ, Option.some.injEq] at hi
                    subst hi
                    rw [if_pos (by simp [wantV])]
                    have e0 : ev (.tmp 18) = .slice (some ⟨g, 0, none⟩) m cp := hout 18 (by kernel_rfl) (show (18 : Nat) < 185 by decide)
                    refine .inl ⟨w', ?_, hc⟩
                    show _ = Result.ok (Next.value (.slice (some ⟨g, 0, none⟩) m cp)) w'
                    simp [execOp, e0, hcst, go_sem]
                  | 16, _ =>
                    simp only [List.getElem?_toArray, List.getElem?_cons_zero, List.getElem?_cons_succ, Option.some.injEq] at hi
                    subst hi
                    rw [if_pos (by simp [wantV])]
                    have e0 : ev (.tmp 19) = .int .i64 (j : Int) := hout 19 (by kernel_rfl) (show (19 : Nat) < 185 by decide)
                    refine .inl ⟨w', ?_, hc⟩
                    show _ = Result.ok (Next.value (.int .i64 (j : Int))) w'
                    simp [execOp, e0, hcst, go_sem]
                  | 17, _ =>
                    simp only [List.getElem?_toArray, List.getElem?_cons_zero, List.getElem?_cons_succ, Option.some.injEq] at hi
                    subst hi
                    rw [if_pos (by simp [wantV])]
                    have e0 : ev (.tmp 161) = .slice (some ⟨g, 0, none⟩) m cp := hin 161 15 ⟨15, .data⟩ (by kernel_rfl) (by simp) rfl rfl (show (161 : Nat) < 185 by decide)
                    have e1 : ev (.tmp 162) = .int .i64 (j : Int) := hin 162 16 ⟨16, .data⟩ (by kernel_rfl) (by simp) rfl rfl (show (162 : Nat) < 185 by decide)
                    refine .inl ⟨w', ?_, hc⟩
                    show _ = Result.ok (Next.value (.pointer (some ⟨g, j, none⟩))) w'
                    simp only [execOp, e0, e1, hcst]
                    go_simp
                  | 18, _ =>
                    simp only [List.getElem?_toArray, List.getElem?_cons_zero, List.getElem?_cons_succ, Option.some.injEq] at hi
                    subst hi
                    rw [if_pos (by simp [wantV])]
                    have e0 : ev (.tmp 163) = .pointer (some ⟨g, j, none⟩) := hin 163 17 ⟨17, .data⟩ (by kernel_rfl) (by simp) rfl rfl (show (163 : Nat) < 185 by decide)
                    refine .inl ⟨w', ?_, hc⟩
                    show _ = Result.ok (Next.value (.int .i64 (x : Int))) w'
                    obtain ⟨z1, z2⟩ := cX.out w' hc
                    simp only [execOp, e0]
                    go_simp
                  | 19, _ =>
                    simp only [List.getElem?_toArray, List.getElem?_cons_zero, List.getElem?_cons_succ, Option.some.injEq] at hi
                    subst hi
                    rw [if_pos (by simp [wantV])]
                    have e0 : ev (.tmp 160) = .slice (some ⟨u, 0, none⟩) n n := hin 160 14 ⟨14, .data⟩ (by kernel_rfl) (by simp) rfl rfl (show (160 : Nat) < 185 by decide)
                    have e1 : ev (.tmp 164) = .int .i64 (x : Int) := hin 164 18 ⟨18, .data⟩ (by kernel_rfl) (by simp) rfl rfl (show (164 : Nat) < 185 by decide)
                    refine .inl ⟨w', ?_, hc⟩
                    show _ = Result.ok (Next.value (.pointer (some ⟨u, x, none⟩))) w'
                    simp only [execOp, e0, e1, hcst]
                    go_simp
                  | 20, _ =>
                    simp only [List.getElem?_toArray, List.getElem?_cons_zero, List.getElem?_cons_succ, Option.some.injEq] at hi
                    subst hi
                    rw [if_pos (by simp [wantV])]
                    have e0 : ev (.tmp 165) = .pointer (some ⟨u, x, none⟩) := hin 165 19 ⟨19, .data⟩ (by kernel_rfl) (by simp) rfl rfl (show (165 : Nat) < 185 by decide)
                    refine .inl ⟨w', ?_, hc⟩
                    show _ = Result.ok (Next.value (.bool true)) w'
                    obtain ⟨z1, z2⟩ := cX.out w' hc
                    simp only [execOp, e0]
                    go_simp
                  | 21, _ =>
                    simp only [List.getElem?_toArray, List.getElem?_cons_zero, List.getElem?_cons_succ, Option.some.injEq] at hi
                    subst hi
                    rw [if_pos (by simp [wantV])]
                    have e0 : ev (.tmp 166) = .bool true := hin 166 20 ⟨20, .data⟩ (by kernel_rfl) (by simp) rfl rfl (show (166 : Nat) < 185 by decide)
                    refine .inl ⟨w', ?_, hc⟩
                    show _ = Result.ok (Next.value (.bool false)) w'
                    simp [execOp, e0, hcst, go_sem]
                  | 22, _ =>
                    simp only [List.getElem?_toArray, List.getElem?_cons_zero, List.getElem?_cons_succ, Option.some.injEq] at hi
                    subst hi
                    rw [if_pos (by simp [wantV])]
                    have e0 : ev (.tmp 159) = .bool false := hin 159 13 ⟨13, .data⟩ (by kernel_rfl) (by simp) rfl rfl (show (159 : Nat) < 185 by decide)
                    have e1 : ev (.tmp 167) = .bool false := hin 167 21 ⟨21, .data⟩ (by kernel_rfl) (by simp) rfl rfl (show (167 : Nat) < 185 by decide)
                    refine .inl ⟨w', ?_, hc⟩
                    show _ = Result.ok (Next.value (.bool false)) w'
                    simp [execOp, e0, e1, hcst, go_sem]
                  | 23, _ =>
                    simp only [List.getElem?_toArray, List.getElem?_cons_zero, List.getElem?_cons_succ, Option.some.injEq] at hi
                    subst hi
                    rw [if_pos (by simp [wantV])]
                    have e0 : ev (.tmp 168) = .bool false := hin 168 22 ⟨22, .data⟩ (by kernel_rfl) (by simp) rfl rfl (show (168 : Nat) < 185 by decide)
                    refine .inl ⟨w', ?_, hc⟩
                    show _ = Result.ok (Next.value (.bool false)) w'
                    simp [execOp, e0, hcst, go_sem]
                  | 24, _ =>
                    simp only [List.getElem?_toArray, List.getElem?_cons_zero, List.getElem?_cons_succ, Option.some.injEq] at hi
                    subst hi
                    rw [if_pos (by simp [wantV])]
                    have e0 : ev (.tmp 19) = .int .i64 (j : Int) := hout 19 (by kernel_rfl) (show (19 : Nat) < 185 by decide)
                    refine .inl ⟨w', ?_, hc⟩
                    show _ = Result.ok (Next.value (.int .i64 (j : Int))) w'
                    simp [execOp, e0, hcst, go_sem]
                  | 25, _ =>
                    simp only [List.getElem?_toArray, List.getElem?_cons_zero, List.getElem?_cons_succ, Option.some.injEq] at hi
                    subst hi
                    rw [if_pos (by simp [wantV])]
                    have e0 : ev (.tmp 170) = .int .i64 (j : Int) := hin 170 24 ⟨24, .data⟩ (by kernel_rfl) (by simp) rfl rfl (show (170 : Nat) < 185 by decide)
                    refine .inl ⟨w', ?_, hc⟩
                    show _ = Result.ok (Next.value (.bool true)) w'
                    simp only [execOp, e0, hcst]
                    go_simp
                  | 26, _ =>
                    simp only [List.getElem?_toArray, List.getElem?_cons_zero, List.getElem?_cons_succ, Option.some.injEq] at hi
                    subst hi
                    rw [if_pos (by simp [wantV])]
                    have e0 : ev (.tmp 171) = .bool true := hin 171 25 ⟨25, .data⟩ (by kernel_rfl) (by simp) rfl rfl (show (171 : Nat) < 185 by decide)
                    refine .inl ⟨w', ?_, hc⟩
                    show _ = Result.ok (Next.value (.bool true)) w'
                    simp [execOp, e0, hcst, go_sem]
                  | 27, _ =>
                    simp only [List.getElem?_toArray, List.getElem?_cons_zero, List.getElem?_cons_succ, Option.some.injEq] at hi
                    subst hi
                    rw [if_pos (by simp [wantV])]
                    have e0 : ev (.tmp 18) = .slice (some ⟨g, 0, none⟩) m cp := hout 18 (by kernel_rfl) (show (18 : Nat) < 185 by decide)
                    refine .inl ⟨w', ?_, hc⟩
                    show _ = Result.ok (Next.value (.slice (some ⟨g, 0, none⟩) m cp)) w'
                    simp [execOp, e0, hcst, go_sem]
                  | 28, _ =>
                    simp only [List.getElem?_toArray, List.getElem?_cons_zero, List.getElem?_cons_succ, Option.some.injEq] at hi
                    subst hi
                    rw [if_pos (by simp [wantV])]
                    have e0 : ev (.tmp 19) = .int .i64 (j : Int) := hout 19 (by kernel_rfl) (show (19 : Nat) < 185 by decide)
                    refine .inl ⟨w', ?_, hc⟩
                    show _ = Result.ok (Next.value (.int .i64 (j : Int))) w'
                    simp [execOp, e0, hcst, go_sem]
                  | 29, _ =>
                    simp only [List.getElem?_toArray, List.getElem?_cons_zero, List.getElem?_cons_succ, Option.some.injEq] at hi
                    subst hi
                    rw [if_pos (by simp [wantV])]
                    have e0 : ev (.tmp 173) = .slice (some ⟨g, 0, none⟩) m cp := hin 173 27 ⟨27, .data⟩ (by kernel_rfl) (by simp) rfl rfl (show (173 : Nat) < 185 by decide)
                    have e1 : ev (.tmp 174) = .int .i64 (j : Int) := hin 174 28 ⟨28, .data⟩ (by kernel_rfl) (by simp) rfl rfl (show (174 : Nat) < 185 by decide)
                    refine .inl ⟨w', ?_, hc⟩
                    show _ = Result.ok (Next.value (.pointer (some ⟨g, j, none⟩))) w'
                    simp only [execOp, e0, e1, hcst]
                    go_simp
                  | 30, _ =>
                    simp only [List.getElem?_toArray, List.getElem?_cons_zero, List.getElem?_cons_succ, Option.some.injEq] at hi
                    subst hi
                    rw [if_pos (by simp [wantV])]
                    have e0 : ev (.tmp 175) = .pointer (some ⟨g, j, none⟩) := hin 175 29 ⟨29, .data⟩ (by kernel_rfl) (by simp) rfl rfl (show (175 : Nat) < 185 by decide)
                    refine .inl ⟨w', ?_, hc⟩
                    show _ = Result.ok (Next.value (.int .i64 (x : Int))) w'
                    obtain ⟨z1, z2⟩ := cX.out w' hc
                    simp only [execOp, e0]
                    go_simp
                  | 31, _ =>
                    simp only [List.getElem?_toArray, List.getElem?_cons_zero, List.getElem?_cons_succ, Option.some.injEq] at hi
                    subst hi
                    rw [if_pos (by simp [wantV])]
                    have e0 : ev (.tmp 18) = .slice (some ⟨g, 0, none⟩) m cp := hout 18 (by kernel_rfl) (show (18 : Nat) < 185 by decide)
                    refine .inl ⟨w', ?_, hc⟩
                    show _ = Result.ok (Next.value (.slice (some ⟨g, 0, none⟩) m cp)) w'
                    simp [execOp, e0, hcst, go_sem]
                  | 32, _ =>
                    simp only [List.getElem?_toArray, List.getElem?_cons_zero, List.getElem?_cons_succ, Option.some.injEq] at hi
                    subst hi
                    rw [if_pos (by simp [wantV])]
                    have e0 : ev (.tmp 19) = .int .i64 (j : Int) := hout 19 (by kernel_rfl) (show (19 : Nat) < 185 by decide)
                    refine .inl ⟨w', ?_, hc⟩
                    show _ = Result.ok (Next.value (.int .i64 (j : Int))) w'
                    simp [execOp, e0, hcst, go_sem]
                  | 33, _ =>
                    simp only [List.getElem?_toArray, List.getElem?_cons_zero, List.getElem?_cons_succ, Option.some.injEq] at hi
                    subst hi
                    rw [if_pos (by simp [wantV])]
                    have e0 : ev (.tmp 178) = .int .i64 (j : Int) := hin 178 32 ⟨32, .data⟩ (by kernel_rfl) (by simp) rfl rfl (show (178 : Nat) < 185 by decide)
                    refine .inl ⟨w', ?_, hc⟩
                    show _ = Result.ok (Next.value (.int .i64 (j' : Int))) w'
                    simp only [execOp, e0, hcst]
                    go_simp
                  | 34, _ =>
                    simp only [List.getElem?_toArray, List.getElem?_cons_zero, List.getElem?_cons_succ, Option.some.injEq] at hi
                    subst hi
                    rw [if_pos (by simp [wantV])]
                    have e0 : ev (.tmp 177) = .slice (some ⟨g, 0, none⟩) m cp := hin 177 31 ⟨31, .data⟩ (by kernel_rfl) (by simp) rfl rfl (show (177 : Nat) < 185 by decide)
                    have e1 : ev (.tmp 179) = .int .i64 (j' : Int) := hin 179 33 ⟨33, .data⟩ (by kernel_rfl) (by simp) rfl rfl (show (179 : Nat) < 185 by decide)
                    refine .inl ⟨w', ?_, hc⟩
                    show _ = Result.ok (Next.value (.pointer (some ⟨g, j', none⟩))) w'
                    simp only [execOp, e0, e1, hcst]
                    go_simp
                  | 35, _ =>
                    simp only [List.getElem?_toArray, List.getElem?_cons_zero, List.getElem?_cons_succ, Option.some.injEq] at hi
                    subst hi
                    rw [if_pos (by simp [wantV])]
                    have e0 : ev (.tmp 180) = .pointer (some ⟨g, j', none⟩) := hin 180 34 ⟨34, .data⟩ (by kernel_rfl) (by simp) rfl rfl (show (180 : Nat) < 185 by decide)
                    refine .inl ⟨w', ?_, hc⟩
                    show _ = Result.ok (Next.value (.int .i64 (y : Int))) w'
                    have z1 := cY.out w' hc
                    simp only [execOp, e0]
                    go_simp
                  | 36, _ =>
                    simp only [List.getElem?_toArray, List.getElem?_cons_zero, List.getElem?_cons_succ, Option.some.injEq] at hi
                    subst hi
                    rw [if_pos (by simp [wantV])]
                    have e0 : ev (.tmp 176) = .int .i64 (x : Int) := hin 176 30 ⟨30, .data⟩ (by kernel_rfl) (by simp) rfl rfl (show (176 : Nat) < 185 by decide)
                    have e1 : ev (.tmp 181) = .int .i64 (y : Int) := hin 181 35 ⟨35, .data⟩ (by kernel_rfl) (by simp) rfl rfl (show (181 : Nat) < 185 by decide)
                    refine .inl ⟨w', ?_, hc⟩
                    show _ = Result.ok (Next.value (.bool false)) w'
                    simp only [execOp, e0, e1, hcst]
                    go_simp
                  | 37, _ =>
                    simp only [List.getElem?_toArray, List.getElem?_cons_zero, List.getElem?_cons_succ, Option.some.injEq] at hi
                    subst hi
                    rw [if_pos (by simp [wantV])]
                    have e0 : ev (.tmp 172) = .bool true := hin 172 26 ⟨26, .data⟩ (by kernel_rfl) (by simp) rfl rfl (show (172 : Nat) < 185 by decide)
                    have e1 : ev (.tmp 182) = .bool false := hin 182 36 ⟨36, .data⟩ (by kernel_rfl) (by simp) rfl rfl (show (182 : Nat) < 185 by decide)
                    refine .inl ⟨w', ?_, hc⟩
                    show _ = Result.ok (Next.value (.bool false)) w'
                    simp [execOp, e0, e1, hcst, go_sem]
                  | 38, _ =>
                    simp only [List.getElem?_toArray, List.getElem?_cons_zero, List.getElem?_cons_succ, Option.some.injEq] at hi
                    subst hi
                    rw [if_pos (by simp [wantV])]
                    have e0 : ev (.tmp 169) = .bool false := hin 169 23 ⟨23, .data⟩ (by kernel_rfl) (by simp) rfl rfl (show (169 : Nat) < 185 by decide)
                    have e1 : ev (.tmp 183) = .bool false := hin 183 37 ⟨37, .data⟩ (by kernel_rfl) (by simp) rfl rfl (show (183 : Nat) < 185 by decide)
                    refine .inl ⟨w', ?_, hc⟩
                    show _ = Result.ok (Next.value (.bool false)) w'
                    simp [execOp, e0, e1, hcst, go_sem]
                · intro w7 hc
                  simp only [lexF, Act.put, List.setIfInBounds_toArray, List.set_cons_succ, List.set_cons_zero, List.getD_cons_succ, List.getD_cons_zero]
                  have HC := hide hc
                  clear hc DR cX cY j1 j2 j3 j5 j6 y2 x3 x4 x1
                  go_wp2
                  go_roundg (m - (j + 1))
                  case measure => omega
                  case rel => exact ⟨j + 1, by go_num, by omega, by omega, HC.out⟩
            · obtain rfl : j = m := by omega
              have hlt3 : ¬ (j : Int) < (j : Int) := by omega
              go_wp2
              go_ret
              exact ⟨rfl, J.out.2.fl.bel⟩
end Go.Proofs.Ytipgfkcfbiofdaa.bloomSays
