/-
  TableKeys answers true for every list of texts: all keys are told by their bytes, rising, each once.
-/
import Derived.WalkKit
import Derived.Below
import Derived.Test.YtkjfildnemgbiaaRem
namespace Go.Proofs.Ytkjfildnemgbiaa.tableKeys
open Go.RowKit Go.Deep Go.Shelf Math Tab Go.Sort
set_option linter.unusedVariables false
set_option linter.unusedSimpArgs false

theorem mem_fnd {k : List UInt8} {l : List KV} : k ∈ keysOf l ↔ fnd k l ≠ none := by
  rw [Ne, fnd_none, Classical.not_not]
theorem set_keys {t : Tb} (g : Tab.Good hsh t) (k x : List UInt8) (v : Int) : x ∈ keysOf (t.setT hsh k v).all ↔ x ∈ keysOf t.all ∨ x = k := by
  rw [mem_fnd, g.fnd_setT, mem_fnd]
  by_cases h : x = k <;> simp [h]
theorem sortK_mem {l : List (List UInt8)} {x : List UInt8} : x ∈ sortK l ↔ x ∈ l := (List.mergeSort_perm l leB).mem_iff
theorem sortK_len (l : List (List UInt8)) : (sortK l).length = l.length := (List.mergeSort_perm l leB).length_eq
theorem leB_tr : ∀ a b c : List UInt8, leB a b = true → leB b c = true → leB a c = true := fun a b c h1 h2 => by simp only [leB, decide_eq_true_eq] at *; exact List.le_trans h1 h2
theorem leB_to : ∀ a b : List UInt8, (leB a b || leB b a) = true := fun a b => by simp only [leB, Bool.or_eq_true, decide_eq_true_eq]; exact List.le_total a b
theorem sortK_lt {l : List (List UInt8)} (hn : l.Nodup) {i : Nat} {x y : List UInt8} (hx : (sortK l)[i]? = some x) (hy : (sortK l)[i + 1]? = some y) : ¬ y ≤ x := by
  have h1 := List.pairwise_mergeSort leB_tr leB_to l
  have h2 : (sortK l).Nodup := (List.mergeSort_perm l leB).nodup_iff.2 hn
  obtain ⟨a, ha⟩ := List.getElem?_eq_some_iff.1 hx
  obtain ⟨b, hb⟩ := List.getElem?_eq_some_iff.1 hy
  have h3 := List.pairwise_iff_getElem.1 h1 i (i + 1) a b (by omega)
  have h4 := List.pairwise_iff_getElem.1 h2 i (i + 1) a b (by omega)
  have e1 : (List.mergeSort l leB)[i]'a = x := ha
  have e2 : (List.mergeSort l leB)[i + 1]'b = y := hb
  rw [e1, e2] at h3
  rw [ha, hb] at h4
  simp only [leB, decide_eq_true_eq] at h3
  exact fun h => h4 (List.le_antisymm h3 h)
set_option maxRecDepth 8000 in
set_option maxHeartbeats 40000000 in
theorem walk (a0 : Option Addr) (len0 cap0 : Nat) (z0 : List (List UInt8)) (w : World) (hw0 : StrsAt w a0 len0 z0) :
    Calls Try.prog 8 #[.slice a0 len0 cap0] w fun e w' => e = .returned (.bool true) ∧ Below w.heap.size w w' := by
  have c0 := hide (awake_any w)
  have HW := hide hw0
  by_cases hlen : 80 < len0
  · have hl : (80 : Int) < (len0 : Int) := by omega
    clear hw0 hlen
    go_enter Try.func8, Try.ntmps8
    go_wp2_with fail
    refine c0.out.mono ?_
    rintro e w1 ⟨rfl, B1⟩
    have B := hide B1
    clear c0 B1
    go_wp2
    go_ret
    exact ⟨rfl, B.out⟩
  have hl : ¬ (80 : Int) < (len0 : Int) := by omega
  have hl2 : len0 ≤ 80 := by omega
  clear hw0 hlen
  go_enter Try.func8, Try.ntmps8
  go_wp2_with fail
  refine c0.out.mono ?_
  rintro e w1 ⟨rfl, B1⟩
  have c1 : Hid (Calls Try.prog 10 #[.int .i64 1] w1 fun e W' => ∃ f, e = .returned (.tuple #[.pointer (some ⟨f, 0, none⟩), .int .i64 0]) ∧ TL w f (Tb.mk0 1) W') := new_l B1 1 rfl
  clear c0 B1
  go_wp2_with fail
  refine c1.out.mono ?_
  rintro e w2 ⟨f, rfl, h2⟩
  have H2 := hide h2
  clear c1 h2
  go_wp2
  go_loopg [5] len0 (fun kx s5 wr => ∃ (i : Nat) (t : Tb), s5 = .int .i64 i ∧ Hid (i ≤ len0 ∧ len0 - i ≤ kx ∧ TL w f t wr ∧ t.all.length ≤ i ∧ ∀ x, x ∈ keysOf t.all ↔ x ∈ z0.take i))
  case atStart => exact ⟨0, _, rfl, Nat.zero_le _, Nat.le_refl _, H2.out, by rw [mk0_all]; simp, fun x => by rw [mk0_all]; simp [keysOf]⟩
  case round =>
    obtain ⟨i, t, rfl, I⟩ := hrel
    by_cases hlt : i < len0
    · have hlt2 : (i : Int) < (len0 : Int) := by omega
      obtain ⟨b, o, x, rfl, hx, hxl, hc⟩ := HW.out.key I.out.2.2.1.bel i hlt
      have c2 := hide (set_l I.out.2.2.1 x hxl (i : Int) (by have := I.out.2.2.2.1; omega))
      have hle : Hid ((t.setT hsh x (i : Int)).all.length ≤ i + 1 ∧ ∀ y, y ∈ keysOf (t.setT hsh x (i : Int)).all ↔ y ∈ z0.take (i + 1)) := by
        have hg := I.out.2.2.1.good
        refine ⟨?_, fun y => ?_⟩
        · rw [hg.len_setT]
          have := I.out.2.2.2.1
          split <;> omega
        · obtain ⟨h1, h2⟩ := List.getElem?_eq_some_iff.1 hx
          rw [set_keys hg, I.out.2.2.2.2, List.take_succ_eq_append_getElem h1, h2]
          simp
      have HK : Hid (len0 - i ≤ _) := I.out.2.1
      clear I hx hxl
      generalize t.setT hsh x (i : Int) = t2 at *
      generalize t.isNew hsh x = fr at *
      generalize txt x = tx at *
      go_wp2_with fail
      refine c2.out.mono ?_
      rintro e w3 ⟨rfl, h3⟩
      have H3 := hide h3
      clear c2 h3
      go_wp2
      go_roundg (len0 - (i + 1))
      case measure => have := HK.out; omega
      case rel => exact ⟨i + 1, t2, rfl, by omega, Nat.le_refl _, H3.out, hle.out⟩
    · have hlt2 : ¬ (i : Int) < (len0 : Int) := by omega
      have hg := I.out.2.2.1.good
      have HKy : Hid (∀ x, x ∈ keysOf t.all ↔ x ∈ z0) := fun x => by
        have h1 := I.out.2.2.2.2 x
        have h2 := I.out.1
        rw [show i = z0.length by rw [← HW.out.len]; omega, List.take_length] at h1
        exact h1
      have hall : t.all.length ≤ 80 := by have := I.out.1; have := I.out.2.2.2.1; omega
      have c3 := hide (keys_l I.out.2.2.1 (by omega))
      clear I hlt
      obtain ⟨ks, hks⟩ : ∃ ks, ks = sortK (keysOf t.all) := ⟨_, rfl⟩
      have hkl : ks.length = t.all.length := by rw [hks, sortK_len, keysOf, List.length_map]
      have HLt : Hid (∀ j x y, ks[j]? = some x → ks[j + 1]? = some y → ¬ y ≤ x) := fun j x y hx hy => by
        rw [hks] at hx hy
        exact sortK_lt hg.nd hx hy
      have HMem : Hid (∀ x, x ∈ ks ↔ x ∈ z0) := fun x => by rw [hks, sortK_mem]; exact HKy.out x
      rw [← hks] at c3
      obtain ⟨N, hN⟩ : ∃ N, N = t.all.length := ⟨_, rfl⟩
      rw [← hN] at c3 hall hkl
      have HN := hide hN
      have HKL := hide hkl
      clear hks hkl HKy hg hN
      obtain ⟨wo, hwo⟩ : ∃ wo, wo = wr := ⟨_, rfl⟩
      subst hwo
      go_wp2_with fail
      refine c3.out.mono ?_
      rintro e w4 ⟨g, cap, rfl, hS, h4⟩
      have HS := hide hS.rd
      have H4 := hide h4
      clear c3 hS h4
      go_wp2
      go_loopg [7] N (fun kx s7 wr => ∃ (i : Nat), s7 = .int .i64 i ∧ Hid (i ≤ N ∧ N - i ≤ kx ∧ TL w f t wr ∧ RdA wr (some ⟨g, 0, none⟩) ks))
      case atStart => exact ⟨0, rfl, Nat.zero_le _, Nat.le_refl _, H4.out, HS.out⟩
      case round =>
        clear HS H4
        obtain ⟨i, rfl, I⟩ := hrel
        by_cases hlt : i < N
        · have hlt2 : (i : Int) < (N : Int) := by omega
          have hx := List.getElem?_eq_getElem (l := ks) (i := i) (by rw [HKL.out]; exact hlt)
          obtain ⟨x, hxe⟩ : ∃ x, x = ks[i]'(by rw [HKL.out]; exact hlt) := ⟨_, rfl⟩
          rw [← hxe] at hx
          clear hxe
          obtain ⟨b1, o1, hb1, k1⟩ := I.out.2.2.2 i x hx
          obtain ⟨rfl, rfl⟩ : g = b1 ∧ 0 = o1 := by simpa using hb1
          rw [Nat.zero_add] at k1
          have cH : Hid (∀ q, Calls Try.prog 26 #[.slice a0 len0 cap0, .string (txt x)] (wr.drewN q) fun e w' => e = .returned (.bool true) ∧ w' = wr.drewN q) := fun q => by
            have h1 := holds_any a0 cap0 z0 x (wr.drewN q) ((HW.out.rd I.out.2.2.1.bel).same rfl) (by rw [← HW.out.len]; omega)
            rw [← HW.out.len, decide_eq_true ((HMem.out x).1 (List.mem_of_getElem? hx))] at h1
            exact h1
          have HI := I
          clear I hb1
          by_cases hi0 : i = 0
          · subst hi0
            clear hx
            generalize txt x = tx at *
            go_wp2
            go_quiet (first | (go_at_call 26; exact Calls.quiet_of_same (cH.out _)))
            go_wp2
            go_roundg (N - (0 + 1))
            case measure => have := HI.out.2.1; omega
            case rel =>
              obtain ⟨j1, j2, j3, j4⟩ := HI.out
              exact ⟨0 + 1, rfl, by omega, Nat.le_refl _, j3.drewN _, j4.same rfl⟩
          · have hy := List.getElem?_eq_getElem (l := ks) (i := i - 1) (by rw [HKL.out]; omega)
            obtain ⟨y, hye⟩ : ∃ y, y = ks[i - 1]'(by rw [HKL.out]; omega) := ⟨_, rfl⟩
            rw [← hye] at hy
            clear hye
            obtain ⟨b2, o2, hb2, k2⟩ := HI.out.2.2.2 (i - 1) y hy
            obtain ⟨rfl, rfl⟩ : g = b2 ∧ 0 = o2 := by simpa using hb2
            rw [Nat.zero_add] at k2
            have hle := HLt.out (i - 1) y x hy (by rw [show i - 1 + 1 = i by omega]; exact hx)
            have hb1 : Op.bytesLess (txt x).toList (txt y).toList = false := by rw [txt_list, txt_list, bytesLess_eq]; exact decide_eq_false (fun h => hle (List.le_of_lt h))
            have hb3 : ((txt x).toList == (txt y).toList) = false := by rw [txt_eq]; exact decide_eq_false (fun e => hle (by rw [e]; exact List.le_refl _))
            have ip : ((0 : Int) < (i : Int)) = True := eq_true (by omega)
            have ip2 : (0 < i) = True := eq_true (by omega)
            obtain ⟨j, hj⟩ : ∃ j, j = i - 1 := ⟨_, rfl⟩
            rw [← hj] at k2
            have ij : (i : Int) - 1 = (j : Int) := by omega
            have jn : j < N := by omega
            have ijw : IntKind.i64.wrap (j : Int) = (j : Int) := by rw [IntKind.wrap_i64]; omega
            clear hx hy hb2 hle hj hi0
            generalize txt x = tx at *
            generalize txt y = ty at *
            go_wp2
            go_quiet (first | (go_at_call 26; exact Calls.quiet_of_same (cH.out _)))
            go_wp2
            go_roundg (N - (i + 1))
            case measure => have := HI.out.2.1; omega
            case rel =>
              obtain ⟨j1, j2, j3, j4⟩ := HI.out
              exact ⟨i + 1, rfl, by omega, Nat.le_refl _, j3.drewN _, j4.same rfl⟩
        · have hlt2 : ¬ (i : Int) < (N : Int) := by omega
          have HI : Hid (TL w f t wr ∧ RdA wr (some ⟨g, 0, none⟩) ks) := ⟨I.out.2.2.1, I.out.2.2.2⟩
          clear I hlt
          obtain ⟨wp, hwp⟩ : ∃ wp, wp = wr := ⟨_, rfl⟩
          subst hwp
          go_wp2
          go_loopg [8] len0 (fun kx s8 wr => ∃ (i : Nat), s8 = .int .i64 i ∧ Hid (i ≤ len0 ∧ len0 - i ≤ kx ∧ TL w f t wr ∧ RdA wr (some ⟨g, 0, none⟩) ks))
          case atStart => exact ⟨0, rfl, Nat.zero_le _, Nat.le_refl _, HI.out⟩
          case round =>
            clear HI
            obtain ⟨i, rfl, I⟩ := hrel
            by_cases hlt : i < len0
            · have hlt2 : (i : Int) < (len0 : Int) := by omega
              obtain ⟨b, o, x, rfl, hx, hxl, hc⟩ := HW.out.key I.out.2.2.1.bel i hlt
              have cH : Hid (Calls Try.prog 26 #[.slice (some ⟨g, 0, none⟩) N cap, .string (txt x)] wr fun e w' => e = .returned (.bool true) ∧ w' = wr) := by
                have h1 := holds_any (some ⟨g, 0, none⟩) cap ks x wr I.out.2.2.2 (by rw [HKL.out]; omega)
                rw [HKL.out, decide_eq_true ((HMem.out x).2 (List.mem_of_getElem? hx))] at h1
                exact h1
              have HI := I
              clear I hx hxl
              generalize txt x = tx at *
              go_wp2_with fail
              refine cH.out.mono ?_
              rintro e wx ⟨rfl, hx⟩
              obtain rfl : wr = wx := hx.symm
              clear hx cH
              go_wp2
              go_roundg (len0 - (i + 1))
              case measure => have := HI.out.2.1; omega
              case rel => exact ⟨i + 1, rfl, by omega, Nat.le_refl _, HI.out.2.2⟩
            · have hlt2 : ¬ (i : Int) < (len0 : Int) := by omega
              have cL := hide (len_l I.out.2.2.1)
              rw [← HN.out] at cL
              have HB := hide I.out.2.2.1.bel
              clear I hlt
              go_wp2_with fail
              refine cL.out.mono ?_
              rintro e wx ⟨rfl, hx⟩
              obtain rfl : wr = wx := hx.symm
              clear hx cL
              go_wp2
              go_ret
              exact ⟨rfl, HB.out⟩
end Go.Proofs.Ytkjfildnemgbiaa.tableKeys
