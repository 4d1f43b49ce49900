/-
  TableSets answers true for every key, two numbers and every list of calls: a key set twice is one key, deleted once it is gone.
-/
import Derived.WalkKit
import Derived.Below
import Derived.Test.YtkjfildnemgbiaaRem
namespace Go.Proofs.Ytkjfildnemgbiaa.tableSets
open Go.RowKit Go.Deep Go.Shelf Math Tab Go.Sort
set_option linter.unusedVariables false
set_option linter.unusedSimpArgs false

theorem step_fnd {t : Tb} (g : Tab.Good hsh t) (x : ActI) (k : List UInt8) (h : x.k ≠ k) : fnd k (stepT t x).all = fnd k t.all := by
  unfold stepT
  split
  · rw [g.fnd_delT, if_neg (fun e => h e.symm)]
  · rw [g.fnd_setT, if_neg (fun e => h e.symm)]
set_option maxRecDepth 8000 in
set_option maxHeartbeats 40000000 in
theorem walk (z0 : List UInt8) (a1 : Int) (a2 : Int) (a3 : Option Addr) (len3 cap3 : Nat) (z3 : List ActI) (w : World) (hw0 : z0.length ≤ 281474976710656) (hw1 : (Lit.int .i64 a1).wf = true) (hw2 : (Lit.int .i64 a2).wf = true) (hw3 : ActsAt w a3 len3 z3) :
    Calls Try.prog 7 #[.string (txt z0), .int .i64 a1, .int .i64 a2, .slice a3 len3 cap3] w fun e w' => e = .returned (.bool true) ∧ Below w.heap.size w w' := by
  have c0 := hide (awake_any w)
  have HW := hide hw3
  by_cases hlen : 60 < len3
  · have hl : (60 : Int) < (len3 : Int) := by omega
    clear hw0 hw1 hw2 hw3 hlen
    go_enter Try.func7, Try.ntmps7
    go_wp2_with fail
    refine c0.out.mono ?_
    rintro e w1 ⟨rfl, B1⟩
    have B := hide B1
    clear c0 B1
    go_wp2
    go_ret
    exact ⟨rfl, B.out⟩
  have hl : ¬ (60 : Int) < (len3 : Int) := by omega
  have hl2 : len3 ≤ 60 := by omega
  have HK0 := hide hw0
  obtain ⟨tk, htk⟩ : ∃ tk, tk = txt z0 := ⟨_, rfl⟩
  rw [← htk]
  have HTK := hide htk
  clear hw0 hw1 hw2 hw3 hlen htk
  go_enter Try.func7, Try.ntmps7
  go_wp2_with fail
  refine c0.out.mono ?_
  rintro e w1 ⟨rfl, B1⟩
  have c1 : Hid (Calls Try.prog 10 #[.int .i64 2] w1 fun e W' => ∃ f, e = .returned (.tuple #[.pointer (some ⟨f, 0, none⟩), .int .i64 0]) ∧ TL w f (Tb.mk0 2) W') := new_l B1 2 rfl
  clear c0 B1
  go_wp2_with fail
  refine c1.out.mono ?_
  rintro e w2 ⟨f, rfl, h2⟩
  have g2 := h2.good
  have c2 : Hid (Calls Try.prog 15 #[.pointer (some ⟨f, 0, none⟩), .string tk, .int .i64 a1] w2 fun e W' => e = .returned (.bool true) ∧ TL w f ((Tb.mk0 2).setT hsh z0 a1) W') := by
    have := set_l h2 z0 HK0.out a1 (by rw [mk0_all]; simp)
    rw [g2.isNew_iff, mk0_all, ← HTK.out] at this
    exact this
  have HF : Hid (fnd z0 ((Tb.mk0 2).setT hsh z0 a1).all = some a1 ∧ ((Tb.mk0 2).setT hsh z0 a1).all.length ≤ 1) := by
    refine ⟨by rw [g2.fnd_setT, if_pos rfl], ?_⟩
    rw [g2.len_setT, mk0_all]
    split <;> simp
  clear c1 h2 g2
  generalize (Tb.mk0 2).setT hsh z0 a1 = t0 at *
  go_wp2_with fail
  refine c2.out.mono ?_
  rintro e w3 ⟨rfl, h3⟩
  have H3 := hide h3
  clear c2 h3
  go_wp2
  go_loopg [11] len3 (fun kx s11 wr => ∃ (i : Nat) (t : Tb), s11 = .int .i64 i ∧ Hid (i ≤ len3 ∧ len3 - i ≤ kx ∧ TL w f t wr ∧ t.all.length ≤ i + 1 ∧ fnd z0 t.all = some a1))
  case atStart => exact ⟨0, t0, rfl, Nat.zero_le _, Nat.le_refl _, H3.out, by have := HF.out.2; omega, HF.out.1⟩
  case round =>
    obtain ⟨i, t, rfl, I⟩ := hrel
    by_cases hlt : i < len3
    · have hlt2 : (i : Int) < (len3 : Int) := by omega
      obtain ⟨b, o, x, rfl, hx, hxl, hcc⟩ := HW.out.at2 i hlt
      have hc := hcc wr I.out.2.2.1.bel
      have FF : Hid (∀ W, Below w.heap.size w W → W.cell? ⟨b, o + i * 3 + 1, none⟩ = some (.int .i64 x.v) ∧ W.cell? ⟨b, o + i * 3 + 2, none⟩ = some (.string (txt x.k))) := fun W hW => ⟨(hcc W hW).c1, (hcc W hW).c2⟩
      have hg := I.out.2.2.1.good
      have HK : Hid (len3 - i ≤ _) := I.out.2.1
      have hall : t.all.length ≤ 100000 := by have := I.out.2.2.2.1; omega
      have k0 := hc.c0
      have k1 := hc.c1
      have k2 := hc.c2
      have he := txt_eq x.k z0
      have hb := txt_ne x.k z0
      rw [← HTK.out] at he hb
      clear hcc
      by_cases hxk : x.k = z0
      · rw [decide_eq_true hxk] at he hb
        have HI : Hid (TL w f t wr ∧ t.all.length ≤ i + 1 + 1 ∧ fnd z0 t.all = some a1) := ⟨I.out.2.2.1, by have := I.out.2.2.2.1; omega, I.out.2.2.2.2⟩
        clear I hx hxl hg hxk hc hall k0 k1 FF
        generalize txt x.k = tx at *
        go_wp2
        go_roundg (len3 - (i + 1))
        case measure => have := HK.out; omega
        case rel => exact ⟨i + 1, t, rfl, by omega, Nat.le_refl _, HI.out⟩
      rw [decide_eq_false hxk] at he hb
      have HS : Hid ((stepT t x).all.length ≤ i + 1 + 1 ∧ fnd z0 (stepT t x).all = some a1) := by
        refine ⟨by have := stepT_len hg x; have := I.out.2.2.2.1; omega, ?_⟩
        rw [step_fnd hg x z0 hxk]
        exact I.out.2.2.2.2
      by_cases hop : x.op = 1
      · have c2 := hide (delete_l I.out.2.2.1 x.k hxl.2.2 hall)
        have es : stepT t x = t.delT hsh x.k := by unfold stepT; rw [if_pos hop]
        rw [es] at HS
        rw [hop] at k0
        clear I hx hxl es hg hop hc k1 hall hxk FF
        generalize t.delT hsh x.k = t2 at *
        generalize (fnd x.k t.all).isSome = fr at *
        generalize txt x.k = tx at *
        go_wp2_with fail
        refine c2.out.mono ?_
        rintro e w3 ⟨rfl, h3⟩
        have H3 := hide h3
        clear c2 h3
        go_wp2
        go_roundg (len3 - (i + 1))
        case measure => have := HK.out; omega
        case rel => exact ⟨i + 1, t2, rfl, by omega, Nat.le_refl _, H3.out, HS.out⟩
      · have es : stepT t x = t.setT hsh x.k x.v := by unfold stepT; rw [if_neg hop]
        rw [es] at HS
        have c2 : Hid (∀ q, Calls Try.prog 15 #[.pointer (some ⟨f, 0, none⟩), .string (txt x.k), .int .i64 x.v] (wr.drewN q) fun e W' => e = .returned (.bool (t.isNew hsh x.k)) ∧ TL w f (t.setT hsh x.k x.v) W') := fun q => set_l (I.out.2.2.1.drewN q) x.k hxl.2.2 x.v hall
        have hop1 : (x.op == 1) = false := by simpa using hop
        clear I hx hxl es hg hc hall hxk
        generalize t.setT hsh x.k x.v = t2 at *
        generalize t.isNew hsh x.k = fr at *
        generalize txt x.k = tx at *
        generalize x.op = xo at *
        generalize x.v = xv at *
        go_wp2
        go_region_held (fun W => W.cell? ⟨b, o + i * 3 + 1, none⟩ = some (.int .i64 xv) ∧ W.cell? ⟨b, o + i * 3 + 2, none⟩ = some (.string tx))
          (first | exact ⟨k1, k2⟩ | exact FF.out _ h3.bel)
          (first | (go_at_call 15; refine (c2.out _).mono ?_; rintro e w3 ⟨rfl, h3⟩))
        have H3 := hide h3
        clear c2 h3
        go_wp2
        go_roundg (len3 - (i + 1))
        case measure => have := HK.out; omega
        case rel => exact ⟨i + 1, t2, rfl, by omega, Nat.le_refl _, H3.out, HS.out⟩
    · have hlt2 : ¬ (i : Int) < (len3 : Int) := by omega
      have hg := I.out.2.2.1.good
      have hT := I.out.2.2.1
      have hall : t.all.length ≤ 61 := by have := I.out.2.2.2.1; have := I.out.1; omega
      have hfn := I.out.2.2.2.2
      clear I hlt
      obtain ⟨n, hn⟩ : ∃ n, n = t.all.length := ⟨_, rfl⟩
      have hn1 : 1 ≤ n := by
        rw [hn]
        rcases Nat.eq_zero_or_pos t.all.length with h | h
        · rw [List.eq_nil_of_length_eq_zero h] at hfn; simp [fnd] at hfn
        · exact h
      have hn9 : n ≤ 61 := by omega
      have c3 := hide (len_l hT)
      rw [← hn] at c3
      have hnew : t.isNew hsh z0 = false := by rw [hg.isNew_iff, hfn]; rfl
      have c4 := hide (set_l hT z0 HK0.out a2 (by omega))
      rw [hnew, ← HTK.out] at c4
      have hl4 := hg.len_setT z0 a2
      rw [hnew, ← hn] at hl4
      simp only [Bool.false_eq_true, if_false, Nat.add_zero] at hl4
      have g4 := hg.setT z0 a2
      have f4 : fnd z0 (t.setT hsh z0 a2).all = some a2 := by rw [hg.fnd_setT, if_pos rfl]
      clear hT hfn hnew hn hall hg
      generalize t.setT hsh z0 a2 = t4 at *
      have c5 : Hid (∀ W, TL w f t4 W → Calls Try.prog 20 #[.pointer (some ⟨f, 0, none⟩)] W fun e W' => e = .returned (.int .i64 (n : Int)) ∧ W' = W) := fun W hW => by
        have := len_l hW; rw [hl4] at this; exact this
      have c6 : Hid (∀ W, TL w f t4 W → Calls Try.prog 11 #[.pointer (some ⟨f, 0, none⟩), .string tk] W fun e W' => e = .returned (.tuple #[.int .i64 a2, .bool true]) ∧ TL w f t4 W') := fun W hW => by
        have := get_l hW z0 HK0.out; rw [f4, ← HTK.out] at this; exact this
      have c7 : Hid (∀ W, TL w f t4 W → Calls Try.prog 17 #[.pointer (some ⟨f, 0, none⟩), .string tk] W fun e W' => e = .returned (.bool true) ∧ TL w f (t4.delT hsh z0) W') := fun W hW => by
        have := delete_l hW z0 HK0.out (by omega); rw [f4, ← HTK.out] at this; exact this
      have hl5 := g4.len_delT z0
      rw [f4, hl4] at hl5
      simp only [Option.isSome_some, if_true] at hl5
      have f5 : fnd z0 (t4.delT hsh z0).all = none := by rw [g4.fnd_delT, if_pos rfl]
      have f6 : fnd z0 ((t4.delT hsh z0)).all = none := f5
      generalize t4.delT hsh z0 = t5 at *
      have em : ((n - 1 : Nat) : Int) = (n : Int) - 1 := by omega
      have c8 : Hid (∀ W, TL w f t5 W → Calls Try.prog 20 #[.pointer (some ⟨f, 0, none⟩)] W fun e W' => e = .returned (.int .i64 ((n : Int) - 1)) ∧ W' = W) := fun W hW => by
        have := len_l hW; rw [show t5.all.length = n - 1 by omega, em] at this; exact this
      have c9 : Hid (∀ W, TL w f t5 W → Calls Try.prog 11 #[.pointer (some ⟨f, 0, none⟩), .string tk] W fun e W' => e = .returned (.tuple #[.int .i64 0, .bool false]) ∧ TL w f t5 W') := fun W hW => by
        have := get_l hW z0 HK0.out; rw [f5, ← HTK.out] at this; exact this
      have cA : Hid (∀ W, TL w f t5 W → Calls Try.prog 17 #[.pointer (some ⟨f, 0, none⟩), .string tk] W fun e W' => e = .returned (.bool false) ∧ Below w.heap.size w W') := fun W hW => by
        have := delete_l hW z0 HK0.out (by omega); rw [f5, ← HTK.out] at this
        refine this.mono ?_
        rintro e W' ⟨rfl, h⟩
        exact ⟨rfl, h.bel⟩
      clear hl4 f4 g4 hl5 f5 f6 em
      go_wp2_with fail
      refine c3.out.mono ?_
      rintro e wx ⟨rfl, hx⟩
      obtain rfl : wr = wx := hx.symm
      clear hx c3
      go_wp2_with fail
      refine c4.out.mono ?_
      rintro e w4 ⟨rfl, h4⟩
      have c5' := hide (c5.out w4 h4)
      have c6' := hide (c6.out w4 h4)
      clear c4 c5 c6 h4
      go_wp2_with fail
      refine c5'.out.mono ?_
      rintro e wx ⟨rfl, hx⟩
      obtain rfl : w4 = wx := hx.symm
      clear hx c5'
      go_wp2_with fail
      refine c6'.out.mono ?_
      rintro e w5 ⟨rfl, h5⟩
      have c7' := hide (c7.out w5 h5)
      clear c6' c7 h5
      go_wp2_with fail
      refine c7'.out.mono ?_
      rintro e w6 ⟨rfl, h6⟩
      have c8' := hide (c8.out w6 h6)
      have c9' := hide (c9.out w6 h6)
      clear c7' c8 c9 h6
      go_wp2_with fail
      refine c8'.out.mono ?_
      rintro e wx ⟨rfl, hx⟩
      obtain rfl : w6 = wx := hx.symm
      clear hx c8'
      go_wp2_with fail
      refine c9'.out.mono ?_
      rintro e w7 ⟨rfl, h7⟩
      have cA' := hide (cA.out w7 h7)
      clear c9' cA h7
      go_wp2_with fail
      refine cA'.out.mono ?_
      rintro e w8 ⟨rfl, B8⟩
      have B := hide B8
      clear cA' B8
      go_wp2
      go_ret
      exact ⟨rfl, B.out⟩
end Go.Proofs.Ytkjfildnemgbiaa.tableSets
