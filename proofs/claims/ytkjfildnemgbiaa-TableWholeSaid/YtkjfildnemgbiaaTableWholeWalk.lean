/-
  TableWhole answers true for every list of texts: all keys stand in chains when nothing is left to move.
-/
import Derived.WalkKit
import Derived.Below
import Derived.Test.YtkjfildnemgbiaaAwake
namespace Go.Proofs.Ytkjfildnemgbiaa.tableWhole
open Go.RowKit Go.Deep Go.Shelf Math Tab Go.Sort
set_option linter.unusedVariables false
set_option linter.unusedSimpArgs false

def nota : List UInt8 := [0, 32, 110, 111, 110, 101, 32, 111, 102, 32, 116, 104, 101, 115, 101]
theorem chK_len (t : Tb) (k : Nat) : (chK t (k : Int)).length = (t.nw.getD k []).length := by
  unfold chK
  rw [if_pos (by omega), Int.toNat_natCast]
  simp [keysOf]
theorem take_flatK {l : List (List KV)} {i : Nat} (h : i < l.length) : (l.take (i + 1)).flatten.length = (l.take i).flatten.length + (l.getD i []).length := by
  have e : l.getD i [] = l[i] := by simp [List.getD, h]
  have e2 : [l[i]].flatten = l[i] := by simp
  rw [List.take_succ_eq_append_getElem h, List.flatten_append, List.length_append, e, e2]
theorem flat_leK (l : List (List KV)) (i : Nat) : (l.take i).flatten.length ≤ l.flatten.length := by
  conv => rhs; rw [← List.take_append_drop i l]
  rw [List.flatten_append, List.length_append]; omega
theorem isNew_le (t : Tb) (g : Tab.Good hsh t) (k : List UInt8) (v : Int) : (t.setT hsh k v).all.length ≤ t.all.length + 1 := by
  rw [g.len_setT]; split <;> omega
theorem del_le (t : Tb) (g : Tab.Good hsh t) (k : List UInt8) : (t.delT hsh k).all.length ≤ t.all.length := by
  have := g.len_delT k; omega
set_option maxRecDepth 8000 in
set_option maxHeartbeats 40000000 in
theorem walk (a0 : Option Addr) (len0 cap0 : Nat) (z0 : List (List UInt8)) (w : World) (hw0 : StrsAt w a0 len0 z0) :
    Calls Try.prog 6 #[.slice a0 len0 cap0] w fun e w' => e = .returned (.bool true) ∧ Below w.heap.size w w' := by
  have c0 := hide (awake_any w)
  have HW := hide hw0
  by_cases hlen : 150 < len0
  · have hl : (150 : Int) < (len0 : Int) := by omega
    clear hw0 hlen
    go_enter Try.func6, Try.ntmps6
    go_wp2_with fail
    refine c0.out.mono ?_
    rintro e w1 ⟨rfl, B1⟩
    have B := hide B1
    clear c0 B1
    go_wp2
    go_ret
    exact ⟨rfl, B.out⟩
  have hl : ¬ (150 : Int) < (len0 : Int) := by omega
  have hl2 : len0 ≤ 150 := by omega
  clear hw0 hlen
  go_enter Try.func6, Try.ntmps6
  go_wp2_with fail
  refine c0.out.mono ?_
  rintro e w1 ⟨rfl, B1⟩
  have c1 : Hid (Calls Try.prog 10 #[.int .i64 1] w1 fun e W' => ∃ f, e = .returned (.tuple #[.pointer (some ⟨f, 0, none⟩), .int .i64 0]) ∧ TL w f (Tb.mk0 1) W') := new_l B1 1 rfl
  clear c0 B1
  go_wp2_with fail
  refine c1.out.mono ?_
  rintro e w2 ⟨f, rfl, h2⟩
  have H2 := hide h2
  clear c1 h2
  go_wp2
  go_loopg [5] len0 (fun kx s5 wr => ∃ (i : Nat) (t : Tb), s5 = .int .i64 i ∧ Hid (i ≤ len0 ∧ len0 - i ≤ kx ∧ TL w f t wr ∧ t.all.length ≤ i))
  case atStart => exact ⟨0, _, rfl, Nat.zero_le _, Nat.le_refl _, H2.out, by rw [mk0_all]; simp⟩
  case round =>
    obtain ⟨i, t, rfl, I⟩ := hrel
    by_cases hlt : i < len0
    · have hlt2 : (i : Int) < (len0 : Int) := by omega
      obtain ⟨b, o, x, rfl, hx, hxl, hc⟩ := HW.out.key I.out.2.2.1.bel i hlt
      have c2 := hide (set_l I.out.2.2.1 x hxl (i : Int) (by have := I.out.2.2.2; omega))
      have hle : Hid ((t.setT hsh x (i : Int)).all.length ≤ i + 1) := by
        have := isNew_le t I.out.2.2.1.good x (i : Int)
        have := I.out.2.2.2
        unfold Hid
        omega
      have HK : Hid (len0 - i ≤ _) := I.out.2.1
      clear I hx hxl
      generalize t.setT hsh x (i : Int) = t2 at *
      generalize t.isNew hsh x = fr at *
      generalize txt x = tx at *
      go_wp2_with fail
      refine c2.out.mono ?_
      rintro e w3 ⟨rfl, h3⟩
      have H3 := hide h3
      clear c2 h3
      go_wp2
      go_roundg (len0 - (i + 1))
      case measure => have := HK.out; omega
      case rel => exact ⟨i + 1, t2, rfl, by omega, Nat.le_refl _, H3.out, hle.out⟩
    · have hlt2 : ¬ (i : Int) < (len0 : Int) := by omega
      have HI : Hid (TL w f t wr ∧ t.all.length ≤ 150) := ⟨I.out.2.2.1, by have := I.out.1; have := I.out.2.2.2; omega⟩
      clear I hlt
      obtain ⟨wo, hwo⟩ : ∃ wo, wo = wr := ⟨_, rfl⟩
      subst hwo
      go_wp2
      go_loopg [6] t.od.length (fun kx s6 wr => ∃ (t : Tb), Hid (TL w f t wr ∧ t.all.length ≤ 150 ∧ t.od.length ≤ kx))
      case atStart => exact ⟨t, HI.out.1, HI.out.2, Nat.le_refl _⟩
      case round =>
        clear HI
        obtain ⟨t, I⟩ := hrel
        have c3 := hide (left_l I.out.1)
        by_cases hod : t.od.length = 0
        · rw [hod] at c3
          have HI : Hid (TL w f t wr ∧ t.all.length ≤ 150 ∧ t.od.length = 0) := ⟨I.out.1, I.out.2.1, hod⟩
          have cB := hide (fun W (h : TL w f t W) => buckets_l h)
          have cC := hide (fun W (h : TL w f t W) (k : Nat) => chain_l h (k : Int) (by have := I.out.2.1; omega))
          have n9 := I.out.1.good.n9
          clear I hod
          go_wp2_with fail
          refine c3.out.mono ?_
          rintro e wx ⟨rfl, hx⟩
          obtain rfl : wr = wx := hx.symm
          clear hx c3
          obtain ⟨wp, hwp⟩ : ∃ wp, wp = wr := ⟨_, rfl⟩
          subst hwp
          obtain ⟨N, hN⟩ : ∃ N, N = t.nw.length := ⟨_, rfl⟩
          have HN := hide hN
          rw [← hN] at n9 cB
          clear hN
          go_wp2
          go_loopg [7, 8] N (fun kx s7 s8 wr => ∃ (k n : Nat), s7 = .int .i64 n ∧ s8 = .int .i64 k ∧ Hid (k ≤ N ∧ N - k ≤ kx ∧ n = (t.nw.take k).flatten.length ∧ TL w f t wr))
          case atStart => exact ⟨0, 0, rfl, rfl, Nat.zero_le _, Nat.le_refl _, rfl, HI.out.1⟩
          case round =>
            obtain ⟨k, n, rfl, rfl, J⟩ := hrel
            have c4 := hide (cB.out wr J.out.2.2.2)
            have hfl : t.nw.flatten.length = t.all.length := by
              have h0 := HI.out.2.2
              unfold Tb.all
              rw [List.eq_nil_of_length_eq_zero h0]; simp
            by_cases hk : k < N
            · have hk2 : (k : Int) < (N : Int) := by omega
              have c5 := hide (cC.out wr J.out.2.2.2 k)
              have hst := take_flatK (l := t.nw) (i := k) (by rw [← HN.out]; exact hk)
              have hle := flat_leK t.nw (k + 1)
              have hcl := chK_len t k
              obtain ⟨m, hm⟩ : ∃ m, m = (chK t (k : Int)).length := ⟨_, rfl⟩
              rw [← hm] at c5
              have hnm : n + m ≤ 150 := by
                have h1 := J.out.2.2.1
                have h2 := HI.out.2.1
                omega
              have HNM : Hid (n + m = (t.nw.take (k + 1)).flatten.length) := by
                unfold Hid
                have h1 := J.out.2.2.1
                omega
              have HJ : Hid (N - k ≤ _) := J.out.2.1
              clear J hst hle hcl hm hfl
              go_wp2_with fail
              refine c4.out.mono ?_
              rintro e wx ⟨rfl, hx⟩
              obtain rfl : wr = wx := hx.symm
              clear hx c4
              go_wp2_with fail
              refine c5.out.mono ?_
              rintro e w6 ⟨va, vc, rfl, _, h6⟩
              have H6 := hide h6
              clear c5 h6
              go_wp2
              go_roundg (N - (k + 1))
              case measure => have := HJ.out; omega
              case rel => exact ⟨k + 1, n + m, rfl, rfl, by omega, Nat.le_refl _, HNM.out, H6.out⟩
            · have hk2 : ¬ (k : Int) < (N : Int) := by omega
              have hn : n = t.all.length := by
                have h1 := J.out.2.2.1
                have h2 := J.out.1
                rw [show k = t.nw.length by have := HN.out; omega, List.take_length, hfl] at h1
                exact h1
              have cL := hide (len_l J.out.2.2.2)
              rw [← hn] at cL
              have HB := hide J.out.2.2.2.bel
              clear hn hfl J
              go_wp2_with fail
              refine c4.out.mono ?_
              rintro e wx ⟨rfl, hx⟩
              obtain rfl : wr = wx := hx.symm
              clear hx c4
              go_wp2_with fail
              refine cL.out.mono ?_
              rintro e wx ⟨rfl, hx⟩
              obtain rfl : wr = wx := hx.symm
              clear hx cL
              go_wp2
              go_ret
              exact ⟨rfl, HB.out⟩
        · obtain ⟨m, hm⟩ : ∃ m, m = t.od.length := ⟨_, rfl⟩
          have hm1 : (0 : Int) < (m : Int) := by omega
          have hm2 : 1 ≤ m := by omega
          have c4 : Hid (Calls Try.prog 17 #[.pointer (some ⟨f, 0, none⟩), .string ⟨#[0, 32, 110, 111, 110, 101, 32, 111, 102, 32, 116, 104, 101, 115, 101]⟩] wr fun e W' => e = .returned (.bool (fnd nota t.all).isSome) ∧ TL w f (t.delT hsh nota) W') := delete_l I.out.1 nota (by decide) (by have := I.out.2.1; omega)
          have hd := (delT_len (t := t) (H := hsh) nota).2
          rw [← hm] at hd c3
          have m9 : m ≤ 131072 := by have h1 := I.out.1.good.ol; have h2 := I.out.1.good.n9; unfold Tb.half at h1; omega
          have cLt : Hid (∀ W, TL w f (t.delT hsh nota) W → Calls Try.prog 22 #[.pointer (some ⟨f, 0, none⟩)] W fun e W' => e = .returned (.int .i64 ((m - 1 : Nat) : Int)) ∧ W' = W) := fun W hW => by
            have := left_l hW
            rw [hd] at this
            exact this
          have HD : Hid ((t.delT hsh nota).od.length = m - 1 ∧ (t.delT hsh nota).all.length ≤ 150) := ⟨hd, by have := del_le t I.out.1.good nota; have := I.out.2.1; omega⟩
          have HK : Hid (m ≤ _) := hm ▸ I.out.2.2
          have em : ((m - 1 : Nat) : Int) = (m : Int) - 1 := by omega
          rw [em] at cLt
          clear hd I hod hm em
          generalize (fnd nota t.all).isSome = fb at *
          generalize t.delT hsh nota = t2 at *
          go_wp2_with fail
          refine c3.out.mono ?_
          rintro e wx ⟨rfl, hx⟩
          obtain rfl : wr = wx := hx.symm
          clear hx
          go_wp2_with fail
          refine c3.out.mono ?_
          rintro e wx ⟨rfl, hx⟩
          obtain rfl : wr = wx := hx.symm
          clear hx c3
          go_wp2_with fail
          refine c4.out.mono ?_
          rintro e w6 ⟨rfl, h6⟩
          have c5 := hide (cLt.out w6 h6)
          have H6 := hide h6
          clear c4 cLt h6
          go_wp2_with fail
          refine c5.out.mono ?_
          rintro e wx ⟨rfl, hx⟩
          obtain rfl : w6 = wx := hx.symm
          clear hx c5
          go_wp2
          go_roundg (m - 1)
          case measure => have := HK.out; omega
          case rel => exact ⟨t2, H6.out, HD.out.2, by rw [HD.out.1]; exact Nat.le_refl _⟩
end Go.Proofs.Ytkjfildnemgbiaa.tableWhole
