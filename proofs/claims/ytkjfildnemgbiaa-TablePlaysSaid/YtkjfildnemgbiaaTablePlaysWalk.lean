/-
  TablePlays answers true for every number of buckets and every list of calls: a table sets, tells, deletes, grows, moves its buckets as the document says, chain by chain.
-/
import Derived.WalkKit
import Derived.Below
import Derived.Test.YtkjfildnemgbiaaPl
import Derived.Test.YtkjfildnemgbiaaRem
import Derived.Test.YtkjfildnemgbiaaAnyC
namespace Go.Proofs.Ytkjfildnemgbiaa.tablePlays
open Go.RowKit Go.Deep Go.Shelf Math Tab Go.Sort
set_option linter.unusedVariables false
set_option linter.unusedSimpArgs false

theorem enter12 (args : Array Value) (w : World) : (callFunc 12 args).run Try.prog w = .ok (.enter 12 args) w := enters_of Try.func12 (by kernel_rfl) rfl args w
theorem enter15 (args : Array Value) (w : World) : (callFunc 15 args).run Try.prog w = .ok (.enter 15 args) w := enters_of Try.func15 (by kernel_rfl) rfl args w
theorem enter16 (args : Array Value) (w : World) : (callFunc 16 args).run Try.prog w = .ok (.enter 16 args) w := enters_of Try.func16 (by kernel_rfl) rfl args w
theorem enter17 (args : Array Value) (w : World) : (callFunc 17 args).run Try.prog w = .ok (.enter 17 args) w := enters_of Try.func17 (by kernel_rfl) rfl args w
theorem enter18 (args : Array Value) (w : World) : (callFunc 18 args).run Try.prog w = .ok (.enter 18 args) w := enters_of Try.func18 (by kernel_rfl) rfl args w
theorem enter24 (args : Array Value) (w : World) : (callFunc 24 args).run Try.prog w = .ok (.enter 24 args) w := enters_of Try.func24 (by kernel_rfl) rfl args w
def CL3 (A : World) (Q1 Q2 : World → Prop) (n : Nat) (W : World) : Prop := match n with
  | 0 => W = A
  | 1 => Q1 W
  | _ => Q2 W
def pwTo (n : Int) : Nat → Bool
  | 0 => false
  | j + 1 => pwTo n j || decide (((2 ^ j : Nat) : Int) = n)
theorem pwTo_all (n : Int) : pwTo n 11 = pw n := by
  have e : ∀ a : Int, decide (a = n) = decide (n = a) := fun a => decide_eq_decide.2 ⟨Eq.symm, Eq.symm⟩
  simp only [pwTo, pw, e]
  simp
/-- What stands while a chain is told and held against the other. -/
def ChC (A : World) (D : Value → World → Prop) (Q : World → Prop) (s : Nat) (u : Value) (W : World) : Prop := if s = 0 then W = A else if s = 1 then D u W else Q W
/-- One call. -/
def stepU (t : Tb) (a : ActI) : Tb := if a.op = 0 then t.setT hsh a.k a.v else if a.op = 1 then t.delT hsh a.k else t
theorem stepU_good {t : Tb} (g : Tab.Good hsh t) (a : ActI) : Tab.Good hsh (stepU t a) := by
  unfold stepU
  split
  · exact g.setT _ _
  · split
    · exact g.delT _
    · exact g
theorem stepU_len {t : Tb} (g : Tab.Good hsh t) (a : ActI) : (stepU t a).all.length ≤ t.all.length + 1 := by
  unfold stepU
  split
  · rw [g.len_setT]; split <;> omega
  · split
    · have := g.len_delT a.k; omega
    · omega
theorem chK_le (t : Tb) (q : Nat) : (chK t (q : Int)).length ≤ t.all.length := by
  unfold chK
  rw [if_pos (by omega), Int.toNat_natCast]
  simp only [keysOf, List.length_map]
  unfold Tb.all
  rw [List.length_append]
  by_cases h : q < t.nw.length
  · obtain ⟨R, hR, _⟩ := flat_perm (getD_some (l := t.nw) h)
    have := hR.length_eq
    rw [List.length_append] at this
    omega
  · simp [List.getD, h]
set_option maxRecDepth 8000 in
set_option maxHeartbeats 40000000 in
theorem walk (a0 : Int) (a1 : Option Addr) (len1 cap1 : Nat) (z1 : List ActI) (w : World) (hw0 : (Lit.int .i64 a0).wf = true) (hw1 : ActsAt w a1 len1 z1) :
    Calls Try.prog 4 #[.int .i64 a0, .slice a1 len1 cap1] w fun e w' => e = .returned (.bool true) ∧ Below w.heap.size w w' := by
  have c0 := hide (awake_any w)
  have HW := hide hw1
  cases hpw : pw a0 with
  | false =>
    have cN : Hid (∀ W, Calls Try.prog 10 #[.int .i64 a0] W fun e w' => e = .returned (.tuple #[.pointer none, .int .i64 1]) ∧ w' = W) := fun W => new_bad a0 W hpw
    have HPW := hide hpw
    clear hw0 hw1 hpw
    go_enter Try.func4, Try.ntmps4
    go_wp2_with fail
    refine c0.out.mono ?_
    rintro e w1 ⟨rfl, B1⟩
    have BB := hide B1
    have c1 := hide (cN.out w1)
    clear c0 B1 cN
    go_wp2_with fail
    refine c1.out.mono ?_
    rintro e wx ⟨rfl, hx⟩
    obtain rfl : w1 = wx := hx.symm
    clear hx c1
    go_wp2
    go_loopg [7, 8] 11 (fun kx s7 s8 wr => ∃ (j k : Nat) (gd : Bool), s7 = .bool gd ∧ s8 = .int .i64 (k : Int) ∧ wr = w1 ∧ Hid (k = 2 ^ j ∧ j ≤ 11 ∧ 11 - j ≤ kx ∧ gd = pwTo a0 j))
    case atStart => exact ⟨0, 1, false, rfl, rfl, rfl, rfl, by decide, by decide, rfl⟩
    case round =>
      obtain ⟨j, k, gd, rfl, rfl, rfl, I⟩ := hrel
      by_cases hj : j < 11
      · have hk9 : k ≤ 1024 := by
          rw [I.out.1]
          have : 2 ^ j ≤ 2 ^ 10 := Nat.pow_le_pow_right (by decide) (by omega)
          simpa using this
        have hk8 : (k : Int) ≤ 1024 := by omega
        obtain ⟨k1, hk1⟩ : ∃ k1, k1 = 2 * k := ⟨_, rfl⟩
        have e2 : (2 : Int) * (k : Int) = (k1 : Int) := by omega
        have hp1 : k1 = 2 ^ (j + 1) := by rw [hk1, I.out.1, Nat.pow_succ]; try omega
        have HP := hide hp1
        have Hj := hide hj
        have HL := hide I.out.2.2.1
        cases gd with
        | true =>
          have HG : Hid (true = pwTo a0 (j + 1)) := by
            show true = (pwTo a0 j || _)
            rw [← I.out.2.2.2]; rfl
          clear I hk1 hp1 hj hk9
          go_wp2
          go_roundg (11 - (j + 1))
          case measure => have := HL.out; have := Hj.out; omega
          case rel => exact ⟨j + 1, k1, true, rfl, rfl, rfl, HP.out, Hj.out, Nat.le_refl _, HG.out⟩
        | false =>
          have hg := I.out.2.2.2
          have hkj := I.out.1
          by_cases hka : (k : Int) = a0
          · have HG : Hid (true = pwTo a0 (j + 1)) := by
              show true = (pwTo a0 j || decide (((2 ^ j : Nat) : Int) = a0))
              rw [← hkj, decide_eq_true hka]; simp
            clear I hk1 hp1 hj hk9 hg hkj
            subst hka
            go_wp2
            go_roundg (11 - (j + 1))
            case measure => have := HL.out; have := Hj.out; omega
            case rel => exact ⟨j + 1, k1, true, rfl, rfl, rfl, HP.out, Hj.out, Nat.le_refl _, HG.out⟩
          · have HG : Hid (false = pwTo a0 (j + 1)) := by
              show false = (pwTo a0 j || decide (((2 ^ j : Nat) : Int) = a0))
              rw [← hkj, decide_eq_false hka, ← hg]; rfl
            have hb : ((k : Int) == a0) = false := by simpa using hka
            clear I hk1 hp1 hj hk9 hg hkj
            go_wp2
            go_roundg (11 - (j + 1))
            case measure => have := HL.out; have := Hj.out; omega
            case rel => exact ⟨j + 1, k1, false, rfl, rfl, rfl, HP.out, Hj.out, Nat.le_refl _, HG.out⟩
      · have hj1 : j = 11 := by have := I.out.2.1; omega
        have hg := I.out.2.2.2
        rw [hj1, pwTo_all, HPW.out] at hg
        subst hg
        have hk2 : k = 2048 := by rw [I.out.1, hj1]
        subst hk2
        clear I hj hj1
        go_wp2
        go_ret
        exact ⟨rfl, BB.out⟩
  | true =>
    obtain ⟨n, rfl⟩ : ∃ n : Nat, a0 = (n : Int) := ⟨a0.toNat, by have := pw_range hpw; omega⟩
    have hn9 : n ≤ 1024 := by have := pw_range hpw; omega
    have HPW := hide hpw
    have Hn9 := hide hn9
    have cN : Hid (∀ W, Below w.heap.size w W → Calls Try.prog 10 #[.int .i64 (n : Int)] W fun e W' => ∃ f, e = .returned (.tuple #[.pointer (some ⟨f, 0, none⟩), .int .i64 0]) ∧ TL w f (Tb.mk0 n) W') := fun W b => new_l b n hpw
    clear hw0 hw1 hpw hn9
    generalize ha0 : (n : Int) = a0 at *
    have HA0 := hide ha0
    clear ha0
    go_enter Try.func4, Try.ntmps4
    go_wp2_with fail
    refine c0.out.mono ?_
    rintro e w1 ⟨rfl, B1⟩
    have c1 := hide (cN.out w1 B1)
    clear c0 B1 cN
    go_wp2_with fail
    refine c1.out.mono ?_
    rintro e w2 ⟨f, rfl, h2⟩
    have H2 := hide h2
    clear c1 h2
    go_wp2
    go_loopg [7, 8] 11 (fun kx s7 s8 wr => ∃ (j k : Nat) (gd : Bool), s7 = .bool gd ∧ s8 = .int .i64 (k : Int) ∧ wr = w2 ∧ Hid (k = 2 ^ j ∧ j ≤ 11 ∧ 11 - j ≤ kx ∧ gd = pwTo a0 j))
    case atStart => exact ⟨0, 1, false, rfl, rfl, rfl, rfl, by decide, by decide, rfl⟩
    case round =>
      obtain ⟨j, k, gd, rfl, rfl, rfl, I⟩ := hrel
      by_cases hj : j < 11
      · have hk9 : k ≤ 1024 := by
          rw [I.out.1]
          have : 2 ^ j ≤ 2 ^ 10 := Nat.pow_le_pow_right (by decide) (by omega)
          simpa using this
        have hk8 : (k : Int) ≤ 1024 := by omega
        obtain ⟨k1, hk1⟩ : ∃ k1, k1 = 2 * k := ⟨_, rfl⟩
        have e2 : (2 : Int) * (k : Int) = (k1 : Int) := by omega
        have hp1 : k1 = 2 ^ (j + 1) := by rw [hk1, I.out.1, Nat.pow_succ]; try omega
        have HP := hide hp1
        have Hj := hide hj
        have HL := hide I.out.2.2.1
        cases gd with
        | true =>
          have HG : Hid (true = pwTo a0 (j + 1)) := by
            show true = (pwTo a0 j || _)
            rw [← I.out.2.2.2]; rfl
          clear I hk1 hp1 hj hk9
          go_wp2
          go_roundg (11 - (j + 1))
          case measure => have := HL.out; have := Hj.out; omega
          case rel => exact ⟨j + 1, k1, true, rfl, rfl, rfl, HP.out, Hj.out, Nat.le_refl _, HG.out⟩
        | false =>
          have hg := I.out.2.2.2
          have hkj := I.out.1
          by_cases hka : (k : Int) = a0
          · have HG : Hid (true = pwTo a0 (j + 1)) := by
              show true = (pwTo a0 j || decide (((2 ^ j : Nat) : Int) = a0))
              rw [← hkj, decide_eq_true hka]; simp
            clear I hk1 hp1 hj hk9 hg hkj
            subst hka
            go_wp2
            go_roundg (11 - (j + 1))
            case measure => have := HL.out; have := Hj.out; omega
            case rel => exact ⟨j + 1, k1, true, rfl, rfl, rfl, HP.out, Hj.out, Nat.le_refl _, HG.out⟩
          · have HG : Hid (false = pwTo a0 (j + 1)) := by
              show false = (pwTo a0 j || decide (((2 ^ j : Nat) : Int) = a0))
              rw [← hkj, decide_eq_false hka, ← hg]; rfl
            have hb : ((k : Int) == a0) = false := by simpa using hka
            clear I hk1 hp1 hj hk9 hg hkj
            go_wp2
            go_roundg (11 - (j + 1))
            case measure => have := HL.out; have := Hj.out; omega
            case rel => exact ⟨j + 1, k1, false, rfl, rfl, rfl, HP.out, Hj.out, Nat.le_refl _, HG.out⟩
      · have hj1 : j = 11 := by have := I.out.2.1; omega
        have hg := I.out.2.2.2
        rw [hj1, pwTo_all, HPW.out] at hg
        subst hg
        have hk2 : k = 2048 := by rw [I.out.1, hj1]
        subst hk2
        clear I hj hj1
        by_cases hlen : 120 < len1
        · have hl : (120 : Int) < (len1 : Int) := by omega
          have BB := hide H2.out.bel
          clear hlen H2
          go_wp2
          go_ret
          exact ⟨rfl, BB.out⟩
        have hl : ¬ (120 : Int) < (len1 : Int) := by omega
        have hl2 : len1 ≤ 120 := by omega
        clear hlen
        obtain ⟨wo, hwo⟩ : ∃ wo, wo = wr := ⟨_, rfl⟩
        subst hwo
        have cR := hide (rnew_l (w0 := w) n Hn9.out H2.out.bel)
        rw [HA0.out] at cR
        go_wp2_with fail
        refine cR.out.mono ?_
        rintro e w3 ⟨rfl, r3, b3⟩
        have H3 : Hid (TL w f (Tb.mk0 n) w3 ∧ RL w (wo.heap.size + 1) (Tb.mk0 n) w3) := ⟨H2.out.on b3, r3⟩
        clear cR r3 b3 H2
        generalize wo.heap.size + 1 = r at *
        go_wp2
        go_loopg [10, 11, 12, 13, 14, 15] len1 (fun kx s10 s11 s12 s13 s14 s15 wr => ∃ (i : Nat) (t : Tb), s10 = .int .i64 i ∧ Hid (i ≤ len1 ∧ len1 - i ≤ kx ∧ TL w f t wr ∧ RL w r t wr ∧ t.all.length ≤ i))
        case atStart => exact ⟨0, _, rfl, Nat.zero_le _, Nat.le_refl _, H3.out.1, H3.out.2, by rw [mk0_all]; simp⟩
        case round =>
          clear H3
          obtain ⟨i, t, rfl, I⟩ := hrel
          by_cases hlt : i < len1
          · have hlt2 : (i : Int) < (len1 : Int) := by omega
            obtain ⟨b, o, x, rfl, hx, hxf, hcc⟩ := HW.out.at2 i hlt
            have hc := hcc wr I.out.2.2.1.bel
            have k0 := hc.c0
            have k1 := hc.c1
            have k2 := hc.c2
            obtain ⟨i1, hi1⟩ : ∃ i1, i1 = i + 1 := ⟨_, rfl⟩
            have e1 : (i : Int) + 1 = (i1 : Int) := by omega
            have HK : Hid (len1 - i ≤ _) := I.out.2.1
            have HI1 := hide hi1
            have Hlt := hide hlt
            have hg := I.out.2.2.1.good
            have HGd := hide hg
            have HLn : Hid (t.all.length ≤ 120) := (by have := I.out.2.2.2.2; omega : t.all.length ≤ 120)
            have HXK : Hid (x.k.length ≤ 281474976710656) := hxf.2.2
            obtain ⟨t2, ht2⟩ : ∃ t2, t2 = stepU t x := ⟨_, rfl⟩
            have HG2 : Hid (Tab.Good hsh t2) := by rw [ht2]; exact stepU_good hg x
            have hle : t2.all.length ≤ i1 := by rw [ht2]; have := stepU_len hg x; have := I.out.2.2.2.2; omega
            have HLe := hide hle
            have HLX : Hid (t2.all.length ≤ 130) := (by omega : t2.all.length ≤ 130)
            obtain ⟨op, hop⟩ : ∃ op, op = x.op := ⟨_, rfl⟩
            obtain ⟨v, hv⟩ : ∃ v, v = x.v := ⟨_, rfl⟩
            obtain ⟨tk, htk⟩ : ∃ tk, tk = txt x.k := ⟨_, rfl⟩
            rw [← hop] at k0
            rw [← hv] at k1
            rw [← htk] at k2
            have HTK := hide htk
            have htz : tk.size = x.k.length := by rw [htk, txt_size]
            obtain ⟨N, hN⟩ : ∃ N, N = wr.heap.size := ⟨_, rfl⟩
            obtain ⟨W0, hW0⟩ : ∃ W0, W0 = wr.alloc (.cells #[.int .i64 op, .int .i64 v, .string tk] 36) := ⟨_, rfl⟩
            have TW : Hid (Two w f r t t N op v x.k W0) := by
              have b2 : Below wr.heap.size wr W0 := by rw [hW0]; exact (Below.refl _ wr).alloc (Nat.le_refl _) _
              refine ⟨I.out.2.2.1.on b2, I.out.2.2.2.1.on b2, ?_⟩
              rw [hW0, hN, htk]
              exact Blk.new wr [.int .i64 op, .int .i64 v, .string (txt x.k)] 36
            have BW : Hid (Below w.heap.size w W0) := TW.out.tl.bel
            have hcE0 := TW.out.bx.cell (i := 0) rfl
            have hcE2 := TW.out.bx.cell (i := 2) rfl
            rw [hW0, hN] at hcE0 hcE2
            rw [← htk] at hcE2
            have HN := hide hN
            have HW1 := hide hW0.symm
            by_cases h5 : 500 < x.k.length
            · have h500 : (500 : Int) < (tk.size : Int) := by omega
              rw [← HW1.out] at BW
              clear I hx hxf hc hcc hi1 hlt hop hv htk htz hN hW0 hle ht2 hg h5
              go_wp2
              go_ret
              exact ⟨rfl, BW.out⟩
            have h500 : ¬ (500 : Int) < (tk.size : Int) := by omega
            have hX : x.op = op := hop.symm
            have hV : x.v = v := hv.symm
            unfold stepU at ht2
            rw [hX, hV] at ht2
            have HK9 : Hid (x.k.length ≤ maxLen) := (by unfold maxLen; omega : x.k.length ≤ maxLen)
            clear I hx hxf hc hcc hi1 hlt hop hv htk htz hN hW0 hle hg h5 hX hV
            by_cases o0 : op = 0
            · subst o0
              have ht2 : t2 = t.setT hsh x.k v := ht2
              have b0 : Below W0.heap.size W0 W0.drew := ⟨rfl, rfl, rfl, Nat.le_refl _, fun _ _ => rfl⟩
              have hT0 := TW.out.on b0
              obtain ⟨A, hA⟩ : ∃ A, A = W0.drew := ⟨_, rfl⟩
              rw [← hA] at hT0
              obtain ⟨Q1, hQ1⟩ : ∃ Q1 : World → Prop, Q1 = Two w f r t2 t N 0 v x.k := ⟨_, rfl⟩
              obtain ⟨Q2, hQ2⟩ : ∃ Q2 : World → Prop, Q2 = Two w f r t2 t2 N 0 v x.k := ⟨_, rfl⟩
              obtain ⟨fr, hfr⟩ : ∃ fr, fr = t.isNew hsh x.k := ⟨_, rfl⟩
              have CA : Hid (Calls Try.prog 15 #[.pointer (some ⟨f, 0, none⟩), .string tk, .int .i64 v] A fun e W' => e = .returned (.bool fr) ∧ Q1 W') := by
                rw [hQ1, hfr, ht2, HTK.out]; exact two_set hT0 HXK.out (by have := HLn.out; omega)
              have CB : Hid (∀ W, Q1 W → Calls Try.prog 16 #[.pointer (some ⟨r, 0, none⟩), .string tk, .int .i64 v] W fun e W' => e = .returned (.bool fr) ∧ Q2 W') := fun W hW => by
                rw [hQ1] at hW
                rw [hQ2, hfr, HTK.out]
                have := two_rset hW HGd.out HK9.out (by have := HLn.out; omega)
                rw [← ht2] at this
                exact this
              have HX : Hid (∀ sx W, sx ≤ 1 → CL3 A Q1 Q2 sx W → W.cell? ⟨N, 1, none⟩ = some (.int .i64 v) ∧ W.cell? ⟨N, 2, none⟩ = some (.string tk)) := fun sx W hs hc => by
                rw [HTK.out]
                match sx, hs, hc with
                | 0, _, hc => have hc : W = A := hc; subst hc; exact ⟨hT0.bx.cell (i := 1) rfl, hT0.bx.cell (i := 2) rfl⟩
                | 1, _, hc =>
                  have hc : Q1 W := hc
                  rw [hQ1] at hc
                  exact ⟨hc.bx.cell (i := 1) rfl, hc.bx.cell (i := 2) rfl⟩
              have HQ : Hid (∀ W, Q2 W → Two w f r t2 t2 N 0 v x.k W) := fun W hW => by rw [hQ2] at hW; exact hW
              have HA : Hid (CL3 A Q1 Q2 0 { W0 with drawn := W0.drawn + 1 }) := hA.symm
              clear hT0 hA hQ1 hQ2 hfr ht2 b0 HGd HLn TW
              go_wp2
              rw [HW1.out, ← HN.out]
              clear hcE0 hcE2 HW1 HN k0 k1 k2 h500
              refine wp_region_chain (by kernel_rfl) (by kernel_rfl) (fun jx => ([.pointer (some ⟨f, 0, none⟩), .pointer (some ⟨N, 2, none⟩), .string tk, .pointer (some ⟨N, 1, none⟩), .int .i64 v, .bool fr, .pointer (some ⟨r, 0, none⟩), .pointer (some ⟨N, 2, none⟩), .string tk, .pointer (some ⟨N, 1, none⟩), .int .i64 v, .bool fr, .bool false] : List Value).getD jx undef) [5, 11] (by kernel_rfl) (CL3 A Q1 Q2) (HA.out) ?_ ?_
              · intro jx ox hi sx w' ev hlm hks hc hin hout hcst hfn
                have hltx : jx < 13 := by
                  have := (Array.getElem?_eq_some_iff.1 hi).1
                  simpa using this
                match jx, hltx with
                | 0, _ =>
                  simp only [List.getElem?_toArray, List.getElem?_cons_zero, List.getElem?_cons_succ, Option.some.injEq] at hi
                  subst hi
                  have e0 : ev (.tmp 5) = .pointer (some ⟨f, 0, none⟩) := hout 5 (by kernel_rfl) (show (5 : Nat) < 178 by decide)
                  rw [if_neg (by decide)]
                  refine .inl ⟨w', ?_, hc⟩
                  show _ = Result.ok (Next.value (.pointer (some ⟨f, 0, none⟩))) w'
                  simp [execOp, e0, hcst, go_sem]
                | 1, _ =>
                  simp only [List.getElem?_toArray, List.getElem?_cons_zero, List.getElem?_cons_succ, Option.some.injEq] at hi
                  subst hi
                  have e0 : ev (.tmp 11) = .pointer (some ⟨N, 0, none⟩) := hout 11 (by kernel_rfl) (show (11 : Nat) < 178 by decide)
                  rw [if_neg (by decide)]
                  refine .inl ⟨w', ?_, hc⟩
                  show _ = Result.ok (Next.value (.pointer (some ⟨N, 2, none⟩))) w'
                  simp [execOp, e0, hcst, go_sem]
                | 2, _ =>
                  simp only [List.getElem?_toArray, List.getElem?_cons_zero, List.getElem?_cons_succ, Option.some.injEq] at hi
                  subst hi
                  have e0 : ev (.tmp 80) = .pointer (some ⟨N, 2, none⟩) := hin 80 1 ⟨1, .data⟩ (by kernel_rfl) (by simp) rfl rfl (show (80 : Nat) < 178 by decide)
                  rw [if_neg (by decide)]
                  have hl2 : sx ≤ 0 := Nat.le_trans hlm (Nat.le_of_eq (by kernel_rfl))
                  refine .inl ⟨w', ?_, hc⟩
                  show _ = Result.ok (Next.value (.string tk)) w'
                  have q1 := (HX.out sx w' (Nat.le_trans hl2 (by decide)) hc).2
                  simp [execOp, e0, hcst, go_sem, q1]
                | 3, _ =>
                  simp only [List.getElem?_toArray, List.getElem?_cons_zero, List.getElem?_cons_succ, Option.some.injEq] at hi
                  subst hi
                  have e0 : ev (.tmp 11) = .pointer (some ⟨N, 0, none⟩) := hout 11 (by kernel_rfl) (show (11 : Nat) < 178 by decide)
                  rw [if_neg (by decide)]
                  refine .inl ⟨w', ?_, hc⟩
                  show _ = Result.ok (Next.value (.pointer (some ⟨N, 1, none⟩))) w'
                  simp [execOp, e0, hcst, go_sem]
                | 4, _ =>
                  simp only [List.getElem?_toArray, List.getElem?_cons_zero, List.getElem?_cons_succ, Option.some.injEq] at hi
                  subst hi
                  have e0 : ev (.tmp 82) = .pointer (some ⟨N, 1, none⟩) := hin 82 3 ⟨3, .data⟩ (by kernel_rfl) (by simp) rfl rfl (show (82 : Nat) < 178 by decide)
                  rw [if_neg (by decide)]
                  have hl2 : sx ≤ 0 := Nat.le_trans hlm (Nat.le_of_eq (by kernel_rfl))
                  refine .inl ⟨w', ?_, hc⟩
                  show _ = Result.ok (Next.value (.int .i64 v)) w'
                  have q1 := (HX.out sx w' (Nat.le_trans hl2 (by decide)) hc).1
                  simp [execOp, e0, hcst, go_sem, q1]
                | 5, _ =>
                  simp only [List.getElem?_toArray, List.getElem?_cons_zero, List.getElem?_cons_succ, Option.some.injEq] at hi
                  subst hi
                  have e0 : ev (.tmp 79) = .pointer (some ⟨f, 0, none⟩) := hin 79 0 ⟨0, .data⟩ (by kernel_rfl) (by simp) rfl rfl (show (79 : Nat) < 178 by decide)
                  have e1 : ev (.tmp 81) = .string tk := hin 81 2 ⟨2, .data⟩ (by kernel_rfl) (by simp) rfl rfl (show (81 : Nat) < 178 by decide)
                  have e2 : ev (.tmp 83) = .int .i64 v := hin 83 4 ⟨4, .data⟩ (by kernel_rfl) (by simp) rfl rfl (show (83 : Nat) < 178 by decide)
                  rw [if_pos (by decide)]
                  have hsx : sx = 0 := hks 0 rfl
                  subst hsx
                  refine .inr (.inr ⟨15, #[.pointer (some ⟨f, 0, none⟩), .string tk, .int .i64 v], ?_, ?_⟩)
                  · have ef := hfn 15
                    simp [execOp, resolve, invoke, ef, hcst, e0, e1, e2, Result.andThen]
                    exact enter15 _ _
                  · have hw : w' = A := hc
                    subst hw
                    refine CA.out.mono ?_
                    rintro e wq ⟨rfl, hq⟩
                    exact ⟨rfl, hq⟩
                | 6, _ =>
                  simp only [List.getElem?_toArray, List.getElem?_cons_zero, List.getElem?_cons_succ, Option.some.injEq] at hi
                  subst hi
                  have e0 : ev (.tmp 9) = .pointer (some ⟨r, 0, none⟩) := hout 9 (by kernel_rfl) (show (9 : Nat) < 178 by decide)
                  rw [if_neg (by decide)]
                  refine .inl ⟨w', ?_, hc⟩
                  show _ = Result.ok (Next.value (.pointer (some ⟨r, 0, none⟩))) w'
                  simp [execOp, e0, hcst, go_sem]
                | 7, _ =>
                  simp only [List.getElem?_toArray, List.getElem?_cons_zero, List.getElem?_cons_succ, Option.some.injEq] at hi
                  subst hi
                  have e0 : ev (.tmp 11) = .pointer (some ⟨N, 0, none⟩) := hout 11 (by kernel_rfl) (show (11 : Nat) < 178 by decide)
                  rw [if_neg (by decide)]
                  refine .inl ⟨w', ?_, hc⟩
                  show _ = Result.ok (Next.value (.pointer (some ⟨N, 2, none⟩))) w'
                  simp [execOp, e0, hcst, go_sem]
                | 8, _ =>
                  simp only [List.getElem?_toArray, List.getElem?_cons_zero, List.getElem?_cons_succ, Option.some.injEq] at hi
                  subst hi
                  have e0 : ev (.tmp 86) = .pointer (some ⟨N, 2, none⟩) := hin 86 7 ⟨7, .data⟩ (by kernel_rfl) (by simp) rfl rfl (show (86 : Nat) < 178 by decide)
                  rw [if_neg (by decide)]
                  have hl2 : sx ≤ 1 := Nat.le_trans hlm (Nat.le_of_eq (by kernel_rfl))
                  refine .inl ⟨w', ?_, hc⟩
                  show _ = Result.ok (Next.value (.string tk)) w'
                  have q1 := (HX.out sx w' (Nat.le_trans hl2 (by decide)) hc).2
                  simp [execOp, e0, hcst, go_sem, q1]
                | 9, _ =>
                  simp only [List.getElem?_toArray, List.getElem?_cons_zero, List.getElem?_cons_succ, Option.some.injEq] at hi
                  subst hi
                  have e0 : ev (.tmp 11) = .pointer (some ⟨N, 0, none⟩) := hout 11 (by kernel_rfl) (show (11 : Nat) < 178 by decide)
                  rw [if_neg (by decide)]
                  refine .inl ⟨w', ?_, hc⟩
                  show _ = Result.ok (Next.value (.pointer (some ⟨N, 1, none⟩))) w'
                  simp [execOp, e0, hcst, go_sem]
                | 10, _ =>
                  simp only [List.getElem?_toArray, List.getElem?_cons_zero, List.getElem?_cons_succ, Option.some.injEq] at hi
                  subst hi
                  have e0 : ev (.tmp 88) = .pointer (some ⟨N, 1, none⟩) := hin 88 9 ⟨9, .data⟩ (by kernel_rfl) (by simp) rfl rfl (show (88 : Nat) < 178 by decide)
                  rw [if_neg (by decide)]
                  have hl2 : sx ≤ 1 := Nat.le_trans hlm (Nat.le_of_eq (by kernel_rfl))
                  refine .inl ⟨w', ?_, hc⟩
                  show _ = Result.ok (Next.value (.int .i64 v)) w'
                  have q1 := (HX.out sx w' (Nat.le_trans hl2 (by decide)) hc).1
                  simp [execOp, e0, hcst, go_sem, q1]
                | 11, _ =>
                  simp only [List.getElem?_toArray, List.getElem?_cons_zero, List.getElem?_cons_succ, Option.some.injEq] at hi
                  subst hi
                  have e0 : ev (.tmp 85) = .pointer (some ⟨r, 0, none⟩) := hin 85 6 ⟨6, .data⟩ (by kernel_rfl) (by simp) rfl rfl (show (85 : Nat) < 178 by decide)
                  have e1 : ev (.tmp 87) = .string tk := hin 87 8 ⟨8, .data⟩ (by kernel_rfl) (by simp) rfl rfl (show (87 : Nat) < 178 by decide)
                  have e2 : ev (.tmp 89) = .int .i64 v := hin 89 10 ⟨10, .data⟩ (by kernel_rfl) (by simp) rfl rfl (show (89 : Nat) < 178 by decide)
                  rw [if_pos (by decide)]
                  have hsx : sx = 1 := hks 1 rfl
                  subst hsx
                  refine .inr (.inr ⟨16, #[.pointer (some ⟨r, 0, none⟩), .string tk, .int .i64 v], ?_, ?_⟩)
                  · have ef := hfn 16
                    simp [execOp, resolve, invoke, ef, hcst, e0, e1, e2, Result.andThen]
                    exact enter16 _ _
                  · refine (CB.out w' hc).mono ?_
                    rintro e wq ⟨rfl, hq⟩
                    exact ⟨rfl, hq⟩
                | 12, _ =>
                  simp only [List.getElem?_toArray, List.getElem?_cons_zero, List.getElem?_cons_succ, Option.some.injEq] at hi
                  subst hi
                  have e0 : ev (.tmp 84) = .bool fr := hin 84 5 ⟨5, .data⟩ (by kernel_rfl) (by simp) rfl rfl (show (84 : Nat) < 178 by decide)
                  have e1 : ev (.tmp 90) = .bool fr := hin 90 11 ⟨11, .data⟩ (by kernel_rfl) (by simp) rfl rfl (show (90 : Nat) < 178 by decide)
                  rw [if_neg (by decide)]
                  refine .inl ⟨w', ?_, hc⟩
                  show _ = Result.ok (Next.value (.bool false)) w'
                  simp [execOp, e0, e1, hcst, go_sem]
              · intro w7 hc
                simp only [lexF, Act.put, List.setIfInBounds_toArray, List.set_cons_succ, List.set_cons_zero, List.getD_cons_succ, List.getD_cons_zero]
                have HT := hide (HQ.out w7 hc)
                obtain ⟨Wt, hWt⟩ : ∃ Wt, Wt = w7 := ⟨_, rfl⟩
                rw [← hWt] at HT ⊢
                clear CA CB HX HQ HA hc hWt
                have bx2 := HT.out.bx.cell (i := 2) rfl
                rw [← HTK.out] at bx2
                have cG := hide (two_get HT.out HXK.out)
                rw [← HTK.out] at cG
                have HLq : Hid (t2.all.length ≤ 130) := HLX.out
                obtain ⟨gv, hgv⟩ : ∃ gv, gv = (fnd x.k t2.all).getD 0 := ⟨_, rfl⟩
                obtain ⟨gs, hgs⟩ : ∃ gs, gs = (fnd x.k t2.all).isSome := ⟨_, rfl⟩
                rw [← hgv, ← hgs] at cG
                have CR : Hid (∀ W, Two w f r t2 t2 N 0 v x.k W → Calls Try.prog 19 #[.pointer (some ⟨r, 0, none⟩), .string tk] W fun e W' => e = .returned (.tuple #[.int .i64 gv, .bool gs]) ∧ W' = W) := fun W hW => by
                  have := rget_l hW.rl HG2.out x.k (by have := HLq.out; omega)
                  rw [← hgv, ← hgs, ← HTK.out] at this
                  exact this
                clear hgv hgs
                go_wp2_with fail
                refine cG.out.mono ?_
                rintro e w8 ⟨rfl, h8⟩
                have bx8 := h8.bx.cell (i := 2) rfl
                rw [← HTK.out] at bx8
                have cR := hide (CR.out w8 h8)
                have H8 := hide h8
                clear cG CR h8 bx2 HT
                go_wp2_with fail
                refine cR.out.mono ?_
                rintro e wx ⟨rfl, hx⟩
                obtain rfl : w8 = wx := hx.symm
                clear hx cR
                obtain ⟨nb, ka, kc, z0c, z3c, _⟩ := H8.out.rl.heads
                have cL : Hid (∀ q, Calls Try.prog 20 #[.pointer (some ⟨f, 0, none⟩)] (w8.drewN q) fun e W' => e = .returned (.int .i64 (t2.all.length : Int)) ∧ W' = w8.drewN q) := fun q => len_l (H8.out.tl.drewN q)
                have cB : Hid (∀ q, Calls Try.prog 21 #[.pointer (some ⟨f, 0, none⟩)] (w8.drewN q) fun e W' => e = .returned (.int .i64 (t2.nw.length : Int)) ∧ W' = w8.drewN q) := fun q => buckets_l (H8.out.tl.drewN q)
                have cF : Hid (∀ q, Calls Try.prog 22 #[.pointer (some ⟨f, 0, none⟩)] (w8.drewN q) fun e W' => e = .returned (.int .i64 (t2.od.length : Int)) ∧ W' = w8.drewN q) := fun q => left_l (H8.out.tl.drewN q)
                have cD : Hid (∀ q, Calls Try.prog 23 #[.pointer (some ⟨r, 0, none⟩)] (w8.drewN q) fun e W' => e = .returned (.int .i64 (t2.od.length : Int)) ∧ ∃ m, W' = (w8.drewN q).drewN m) := fun q => rleft_l (H8.out.rl.drewN q) HG2.out
                have l1 : t2.all.length ≤ 1000 := by have := HLq.out; omega
                have l2 : t2.nw.length ≤ 131072 := HG2.out.n9
                obtain ⟨m1, hm1⟩ : ∃ m1, m1 = t2.all.length := ⟨_, rfl⟩
                obtain ⟨m2, hm2⟩ : ∃ m2, m2 = t2.nw.length := ⟨_, rfl⟩
                obtain ⟨m3, hm3⟩ : ∃ m3, m3 = t2.od.length := ⟨_, rfl⟩
                rw [← hm1] at cL z3c l1
                rw [← hm2] at cB z0c l2
                rw [← hm3] at cF cD
                clear hm1 hm2 hm3 bx8
                go_wp2
                go_quiet (first | (go_at_call 20; exact Calls.quiet_of_same (cL.out _)) | (go_at_call 21; exact Calls.quiet_of_same (cB.out _)) | (go_at_call 22; exact Calls.quiet_of_same (cF.out _)) | (go_at_call 23; exact Calls.quiet_of (cD.out _)))
                have HF : Hid (TL w f t2 (w8.drewN nq) ∧ RL w r t2 (w8.drewN nq)) := ⟨H8.out.tl.drewN nq, H8.out.rl.drewN nq⟩
                obtain ⟨wz, hwz⟩ : ∃ wz, wz = w8.drewN nq := ⟨_, rfl⟩
                rw [← hwz] at HF ⊢
                clear cL cB cF cD z0c z3c H8 hwz l1 l2
                go_wp2
                go_roundg (len1 - i1)
                case measure => have := HK.out; have := HI1.out; have := Hlt.out; omega
                case rel => exact ⟨i1, t2, rfl, by have := HI1.out; have := Hlt.out; omega, Nat.le_refl _, HF.out.1, HF.out.2, HLe.out⟩
            rw [if_neg o0] at ht2
            by_cases o1 : op = 1
            · subst o1
              have ht2 : t2 = t.delT hsh x.k := ht2
              have b0 : Below W0.heap.size W0 W0.drew := ⟨rfl, rfl, rfl, Nat.le_refl _, fun _ _ => rfl⟩
              have hT0 := TW.out.on b0
              obtain ⟨A, hA⟩ : ∃ A, A = W0.drew := ⟨_, rfl⟩
              rw [← hA] at hT0
              obtain ⟨Q1, hQ1⟩ : ∃ Q1 : World → Prop, Q1 = Two w f r t2 t N 1 v x.k := ⟨_, rfl⟩
              obtain ⟨Q2, hQ2⟩ : ∃ Q2 : World → Prop, Q2 = Two w f r t2 t2 N 1 v x.k := ⟨_, rfl⟩
              obtain ⟨fr, hfr⟩ : ∃ fr, fr = (fnd x.k t.all).isSome := ⟨_, rfl⟩
              have CA : Hid (Calls Try.prog 17 #[.pointer (some ⟨f, 0, none⟩), .string tk] A fun e W' => e = .returned (.bool fr) ∧ Q1 W') := by
                rw [hQ1, hfr, ht2, HTK.out]; exact two_del hT0 HXK.out (by have := HLn.out; omega)
              have CB : Hid (∀ W, Q1 W → Calls Try.prog 18 #[.pointer (some ⟨r, 0, none⟩), .string tk] W fun e W' => e = .returned (.bool fr) ∧ Q2 W') := fun W hW => by
                rw [hQ1] at hW
                rw [hQ2, hfr, HTK.out]
                have := two_rdel hW HGd.out (by have := HLn.out; omega)
                rw [← ht2] at this
                exact this
              have HX : Hid (∀ sx W, sx ≤ 1 → CL3 A Q1 Q2 sx W → W.cell? ⟨N, 1, none⟩ = some (.int .i64 v) ∧ W.cell? ⟨N, 2, none⟩ = some (.string tk)) := fun sx W hs hc => by
                rw [HTK.out]
                match sx, hs, hc with
                | 0, _, hc => have hc : W = A := hc; subst hc; exact ⟨hT0.bx.cell (i := 1) rfl, hT0.bx.cell (i := 2) rfl⟩
                | 1, _, hc =>
                  have hc : Q1 W := hc
                  rw [hQ1] at hc
                  exact ⟨hc.bx.cell (i := 1) rfl, hc.bx.cell (i := 2) rfl⟩
              have HQ : Hid (∀ W, Q2 W → Two w f r t2 t2 N 1 v x.k W) := fun W hW => by rw [hQ2] at hW; exact hW
              have HA : Hid (CL3 A Q1 Q2 0 { W0 with drawn := W0.drawn + 1 }) := hA.symm
              clear hT0 hA hQ1 hQ2 hfr ht2 b0 HGd HLn TW
              go_wp2
              rw [HW1.out, ← HN.out]
              clear hcE0 hcE2 HW1 HN k0 k1 k2 h500
              refine wp_region_chain (by kernel_rfl) (by kernel_rfl) (fun jx => ([.pointer (some ⟨f, 0, none⟩), .pointer (some ⟨N, 2, none⟩), .string tk, .bool fr, .pointer (some ⟨r, 0, none⟩), .pointer (some ⟨N, 2, none⟩), .string tk, .bool fr, .bool false] : List Value).getD jx undef) [3, 7] (by kernel_rfl) (CL3 A Q1 Q2) (HA.out) ?_ ?_
              · intro jx ox hi sx w' ev hlm hks hc hin hout hcst hfn
                have hltx : jx < 9 := by
                  have := (Array.getElem?_eq_some_iff.1 hi).1
                  simpa using this
                match jx, hltx with
                | 0, _ =>
                  simp only [List.getElem?_toArray, List.getElem?_cons_zero, List.getElem?_cons_succ, Option.some.injEq] at hi
                  subst hi
                  have e0 : ev (.tmp 5) = .pointer (some ⟨f, 0, none⟩) := hout 5 (by kernel_rfl) (show (5 : Nat) < 178 by decide)
                  rw [if_neg (by decide)]
                  refine .inl ⟨w', ?_, hc⟩
                  show _ = Result.ok (Next.value (.pointer (some ⟨f, 0, none⟩))) w'
                  simp [execOp, e0, hcst, go_sem]
                | 1, _ =>
                  simp only [List.getElem?_toArray, List.getElem?_cons_zero, List.getElem?_cons_succ, Option.some.injEq] at hi
                  subst hi
                  have e0 : ev (.tmp 11) = .pointer (some ⟨N, 0, none⟩) := hout 11 (by kernel_rfl) (show (11 : Nat) < 178 by decide)
                  rw [if_neg (by decide)]
                  refine .inl ⟨w', ?_, hc⟩
                  show _ = Result.ok (Next.value (.pointer (some ⟨N, 2, none⟩))) w'
                  simp [execOp, e0, hcst, go_sem]
                | 2, _ =>
                  simp only [List.getElem?_toArray, List.getElem?_cons_zero, List.getElem?_cons_succ, Option.some.injEq] at hi
                  subst hi
                  have e0 : ev (.tmp 95) = .pointer (some ⟨N, 2, none⟩) := hin 95 1 ⟨1, .data⟩ (by kernel_rfl) (by simp) rfl rfl (show (95 : Nat) < 178 by decide)
                  rw [if_neg (by decide)]
                  have hl2 : sx ≤ 0 := Nat.le_trans hlm (Nat.le_of_eq (by kernel_rfl))
                  refine .inl ⟨w', ?_, hc⟩
                  show _ = Result.ok (Next.value (.string tk)) w'
                  have q1 := (HX.out sx w' (Nat.le_trans hl2 (by decide)) hc).2
                  simp [execOp, e0, hcst, go_sem, q1]
                | 3, _ =>
                  simp only [List.getElem?_toArray, List.getElem?_cons_zero, List.getElem?_cons_succ, Option.some.injEq] at hi
                  subst hi
                  have e0 : ev (.tmp 94) = .pointer (some ⟨f, 0, none⟩) := hin 94 0 ⟨0, .data⟩ (by kernel_rfl) (by simp) rfl rfl (show (94 : Nat) < 178 by decide)
                  have e1 : ev (.tmp 96) = .string tk := hin 96 2 ⟨2, .data⟩ (by kernel_rfl) (by simp) rfl rfl (show (96 : Nat) < 178 by decide)
                  rw [if_pos (by decide)]
                  have hsx : sx = 0 := hks 0 rfl
                  subst hsx
                  refine .inr (.inr ⟨17, #[.pointer (some ⟨f, 0, none⟩), .string tk], ?_, ?_⟩)
                  · have ef := hfn 17
                    simp [execOp, resolve, invoke, ef, hcst, e0, e1, Result.andThen]
                    exact enter17 _ _
                  · have hw : w' = A := hc
                    subst hw
                    refine CA.out.mono ?_
                    rintro e wq ⟨rfl, hq⟩
                    exact ⟨rfl, hq⟩
                | 4, _ =>
                  simp only [List.getElem?_toArray, List.getElem?_cons_zero, List.getElem?_cons_succ, Option.some.injEq] at hi
                  subst hi
                  have e0 : ev (.tmp 9) = .pointer (some ⟨r, 0, none⟩) := hout 9 (by kernel_rfl) (show (9 : Nat) < 178 by decide)
                  rw [if_neg (by decide)]
                  refine .inl ⟨w', ?_, hc⟩
                  show _ = Result.ok (Next.value (.pointer (some ⟨r, 0, none⟩))) w'
                  simp [execOp, e0, hcst, go_sem]
                | 5, _ =>
                  simp only [List.getElem?_toArray, List.getElem?_cons_zero, List.getElem?_cons_succ, Option.some.injEq] at hi
                  subst hi
                  have e0 : ev (.tmp 11) = .pointer (some ⟨N, 0, none⟩) := hout 11 (by kernel_rfl) (show (11 : Nat) < 178 by decide)
                  rw [if_neg (by decide)]
                  refine .inl ⟨w', ?_, hc⟩
                  show _ = Result.ok (Next.value (.pointer (some ⟨N, 2, none⟩))) w'
                  simp [execOp, e0, hcst, go_sem]
                | 6, _ =>
                  simp only [List.getElem?_toArray, List.getElem?_cons_zero, List.getElem?_cons_succ, Option.some.injEq] at hi
                  subst hi
                  have e0 : ev (.tmp 99) = .pointer (some ⟨N, 2, none⟩) := hin 99 5 ⟨5, .data⟩ (by kernel_rfl) (by simp) rfl rfl (show (99 : Nat) < 178 by decide)
                  rw [if_neg (by decide)]
                  have hl2 : sx ≤ 1 := Nat.le_trans hlm (Nat.le_of_eq (by kernel_rfl))
                  refine .inl ⟨w', ?_, hc⟩
                  show _ = Result.ok (Next.value (.string tk)) w'
                  have q1 := (HX.out sx w' (Nat.le_trans hl2 (by decide)) hc).2
                  simp [execOp, e0, hcst, go_sem, q1]
                | 7, _ =>
                  simp only [List.getElem?_toArray, List.getElem?_cons_zero, List.getElem?_cons_succ, Option.some.injEq] at hi
                  subst hi
                  have e0 : ev (.tmp 98) = .pointer (some ⟨r, 0, none⟩) := hin 98 4 ⟨4, .data⟩ (by kernel_rfl) (by simp) rfl rfl (show (98 : Nat) < 178 by decide)
                  have e1 : ev (.tmp 100) = .string tk := hin 100 6 ⟨6, .data⟩ (by kernel_rfl) (by simp) rfl rfl (show (100 : Nat) < 178 by decide)
                  rw [if_pos (by decide)]
                  have hsx : sx = 1 := hks 1 rfl
                  subst hsx
                  refine .inr (.inr ⟨18, #[.pointer (some ⟨r, 0, none⟩), .string tk], ?_, ?_⟩)
                  · have ef := hfn 18
                    simp [execOp, resolve, invoke, ef, hcst, e0, e1, Result.andThen]
                    exact enter18 _ _
                  · refine (CB.out w' hc).mono ?_
                    rintro e wq ⟨rfl, hq⟩
                    exact ⟨rfl, hq⟩
                | 8, _ =>
                  simp only [List.getElem?_toArray, List.getElem?_cons_zero, List.getElem?_cons_succ, Option.some.injEq] at hi
                  subst hi
                  have e0 : ev (.tmp 97) = .bool fr := hin 97 3 ⟨3, .data⟩ (by kernel_rfl) (by simp) rfl rfl (show (97 : Nat) < 178 by decide)
                  have e1 : ev (.tmp 101) = .bool fr := hin 101 7 ⟨7, .data⟩ (by kernel_rfl) (by simp) rfl rfl (show (101 : Nat) < 178 by decide)
                  rw [if_neg (by decide)]
                  refine .inl ⟨w', ?_, hc⟩
                  show _ = Result.ok (Next.value (.bool false)) w'
                  simp [execOp, e0, e1, hcst, go_sem]
              · intro w7 hc
                simp only [lexF, Act.put, List.setIfInBounds_toArray, List.set_cons_succ, List.set_cons_zero, List.getD_cons_succ, List.getD_cons_zero]
                have HT := hide (HQ.out w7 hc)
                obtain ⟨Wt, hWt⟩ : ∃ Wt, Wt = w7 := ⟨_, rfl⟩
                rw [← hWt] at HT ⊢
                clear CA CB HX HQ HA hc hWt
                have bx2 := HT.out.bx.cell (i := 2) rfl
                rw [← HTK.out] at bx2
                have cG := hide (two_get HT.out HXK.out)
                rw [← HTK.out] at cG
                have HLq : Hid (t2.all.length ≤ 130) := HLX.out
                obtain ⟨gv, hgv⟩ : ∃ gv, gv = (fnd x.k t2.all).getD 0 := ⟨_, rfl⟩
                obtain ⟨gs, hgs⟩ : ∃ gs, gs = (fnd x.k t2.all).isSome := ⟨_, rfl⟩
                rw [← hgv, ← hgs] at cG
                have CR : Hid (∀ W, Two w f r t2 t2 N 1 v x.k W → Calls Try.prog 19 #[.pointer (some ⟨r, 0, none⟩), .string tk] W fun e W' => e = .returned (.tuple #[.int .i64 gv, .bool gs]) ∧ W' = W) := fun W hW => by
                  have := rget_l hW.rl HG2.out x.k (by have := HLq.out; omega)
                  rw [← hgv, ← hgs, ← HTK.out] at this
                  exact this
                clear hgv hgs
                go_wp2_with fail
                refine cG.out.mono ?_
                rintro e w8 ⟨rfl, h8⟩
                have bx8 := h8.bx.cell (i := 2) rfl
                rw [← HTK.out] at bx8
                have cR := hide (CR.out w8 h8)
                have H8 := hide h8
                clear cG CR h8 bx2 HT
                go_wp2_with fail
                refine cR.out.mono ?_
                rintro e wx ⟨rfl, hx⟩
                obtain rfl : w8 = wx := hx.symm
                clear hx cR
                obtain ⟨nb, ka, kc, z0c, z3c, _⟩ := H8.out.rl.heads
                have cL : Hid (∀ q, Calls Try.prog 20 #[.pointer (some ⟨f, 0, none⟩)] (w8.drewN q) fun e W' => e = .returned (.int .i64 (t2.all.length : Int)) ∧ W' = w8.drewN q) := fun q => len_l (H8.out.tl.drewN q)
                have cB : Hid (∀ q, Calls Try.prog 21 #[.pointer (some ⟨f, 0, none⟩)] (w8.drewN q) fun e W' => e = .returned (.int .i64 (t2.nw.length : Int)) ∧ W' = w8.drewN q) := fun q => buckets_l (H8.out.tl.drewN q)
                have cF : Hid (∀ q, Calls Try.prog 22 #[.pointer (some ⟨f, 0, none⟩)] (w8.drewN q) fun e W' => e = .returned (.int .i64 (t2.od.length : Int)) ∧ W' = w8.drewN q) := fun q => left_l (H8.out.tl.drewN q)
                have cD : Hid (∀ q, Calls Try.prog 23 #[.pointer (some ⟨r, 0, none⟩)] (w8.drewN q) fun e W' => e = .returned (.int .i64 (t2.od.length : Int)) ∧ ∃ m, W' = (w8.drewN q).drewN m) := fun q => rleft_l (H8.out.rl.drewN q) HG2.out
                have l1 : t2.all.length ≤ 1000 := by have := HLq.out; omega
                have l2 : t2.nw.length ≤ 131072 := HG2.out.n9
                obtain ⟨m1, hm1⟩ : ∃ m1, m1 = t2.all.length := ⟨_, rfl⟩
                obtain ⟨m2, hm2⟩ : ∃ m2, m2 = t2.nw.length := ⟨_, rfl⟩
                obtain ⟨m3, hm3⟩ : ∃ m3, m3 = t2.od.length := ⟨_, rfl⟩
                rw [← hm1] at cL z3c l1
                rw [← hm2] at cB z0c l2
                rw [← hm3] at cF cD
                clear hm1 hm2 hm3 bx8
                go_wp2
                go_quiet (first | (go_at_call 20; exact Calls.quiet_of_same (cL.out _)) | (go_at_call 21; exact Calls.quiet_of_same (cB.out _)) | (go_at_call 22; exact Calls.quiet_of_same (cF.out _)) | (go_at_call 23; exact Calls.quiet_of (cD.out _)))
                have HF : Hid (TL w f t2 (w8.drewN nq) ∧ RL w r t2 (w8.drewN nq)) := ⟨H8.out.tl.drewN nq, H8.out.rl.drewN nq⟩
                obtain ⟨wz, hwz⟩ : ∃ wz, wz = w8.drewN nq := ⟨_, rfl⟩
                rw [← hwz] at HF ⊢
                clear cL cB cF cD z0c z3c H8 hwz l1 l2
                go_wp2
                go_roundg (len1 - i1)
                case measure => have := HK.out; have := HI1.out; have := Hlt.out; omega
                case rel => exact ⟨i1, t2, rfl, by have := HI1.out; have := Hlt.out; omega, Nat.le_refl _, HF.out.1, HF.out.2, HLe.out⟩
            rw [if_neg o1] at ht2
            have n0 : (op == 0) = false := by simpa using o0
            have n1 : (op == 1) = false := by simpa using o1
            subst ht2
            have HT : Hid (Two w f r t2 t2 N op v x.k W0) := TW.out
            clear TW o0 o1
            have cG := hide (two_get HT.out HXK.out)
            rw [← HTK.out] at cG
            have HLq : Hid (t2.all.length ≤ 130) := HLX.out
            obtain ⟨gv, hgv⟩ : ∃ gv, gv = (fnd x.k t2.all).getD 0 := ⟨_, rfl⟩
            obtain ⟨gs, hgs⟩ : ∃ gs, gs = (fnd x.k t2.all).isSome := ⟨_, rfl⟩
            rw [← hgv, ← hgs] at cG
            have CR : Hid (∀ W, Two w f r t2 t2 N op v x.k W → Calls Try.prog 19 #[.pointer (some ⟨r, 0, none⟩), .string tk] W fun e W' => e = .returned (.tuple #[.int .i64 gv, .bool gs]) ∧ W' = W) := fun W hW => by
              have := rget_l hW.rl HG2.out x.k (by have := HLq.out; omega)
              rw [← hgv, ← hgs, ← HTK.out] at this
              exact this
            clear hgv hgs
            rw [← HW1.out] at cG
            go_wp2_with fail
            refine cG.out.mono ?_
            rintro e w8 ⟨rfl, h8⟩
            have bx8 := h8.bx.cell (i := 2) rfl
            rw [← HTK.out] at bx8
            have cR := hide (CR.out w8 h8)
            have H8 := hide h8
            rw [HN.out] at bx8
            clear cG CR h8 HT hcE0 hcE2 HW1 HN k0 k1 k2 h500
            go_wp2_with fail
            refine cR.out.mono ?_
            rintro e wx ⟨rfl, hx⟩
            obtain rfl : w8 = wx := hx.symm
            clear hx cR
            obtain ⟨nb, ka, kc, z0c, z3c, _⟩ := H8.out.rl.heads
            have cL : Hid (∀ q, Calls Try.prog 20 #[.pointer (some ⟨f, 0, none⟩)] (w8.drewN q) fun e W' => e = .returned (.int .i64 (t2.all.length : Int)) ∧ W' = w8.drewN q) := fun q => len_l (H8.out.tl.drewN q)
            have cB : Hid (∀ q, Calls Try.prog 21 #[.pointer (some ⟨f, 0, none⟩)] (w8.drewN q) fun e W' => e = .returned (.int .i64 (t2.nw.length : Int)) ∧ W' = w8.drewN q) := fun q => buckets_l (H8.out.tl.drewN q)
            have cF : Hid (∀ q, Calls Try.prog 22 #[.pointer (some ⟨f, 0, none⟩)] (w8.drewN q) fun e W' => e = .returned (.int .i64 (t2.od.length : Int)) ∧ W' = w8.drewN q) := fun q => left_l (H8.out.tl.drewN q)
            have cD : Hid (∀ q, Calls Try.prog 23 #[.pointer (some ⟨r, 0, none⟩)] (w8.drewN q) fun e W' => e = .returned (.int .i64 (t2.od.length : Int)) ∧ ∃ m, W' = (w8.drewN q).drewN m) := fun q => rleft_l (H8.out.rl.drewN q) HG2.out
            have l1 : t2.all.length ≤ 1000 := by have := HLq.out; omega
            have l2 : t2.nw.length ≤ 131072 := HG2.out.n9
            obtain ⟨m1, hm1⟩ : ∃ m1, m1 = t2.all.length := ⟨_, rfl⟩
            obtain ⟨m2, hm2⟩ : ∃ m2, m2 = t2.nw.length := ⟨_, rfl⟩
            obtain ⟨m3, hm3⟩ : ∃ m3, m3 = t2.od.length := ⟨_, rfl⟩
            rw [← hm1] at cL z3c l1
            rw [← hm2] at cB z0c l2
            rw [← hm3] at cF cD
            clear hm1 hm2 hm3 bx8
            go_wp2
            go_quiet (first | (go_at_call 20; exact Calls.quiet_of_same (cL.out _)) | (go_at_call 21; exact Calls.quiet_of_same (cB.out _)) | (go_at_call 22; exact Calls.quiet_of_same (cF.out _)) | (go_at_call 23; exact Calls.quiet_of (cD.out _)))
            have HF : Hid (TL w f t2 (w8.drewN nq) ∧ RL w r t2 (w8.drewN nq)) := ⟨H8.out.tl.drewN nq, H8.out.rl.drewN nq⟩
            obtain ⟨wz, hwz⟩ : ∃ wz, wz = w8.drewN nq := ⟨_, rfl⟩
            rw [← hwz] at HF ⊢
            clear cL cB cF cD z0c z3c H8 hwz l1 l2
            go_wp2
            go_roundg (len1 - i1)
            case measure => have := HK.out; have := HI1.out; have := Hlt.out; omega
            case rel => exact ⟨i1, t2, rfl, by have := HI1.out; have := Hlt.out; omega, Nat.le_refl _, HF.out.1, HF.out.2, HLe.out⟩
          · have hlt2 : ¬ (i : Int) < (len1 : Int) := by omega
            have HT : Hid (TL w f t wr ∧ RL w r t wr ∧ t.all.length ≤ 120) := ⟨I.out.2.2.1, I.out.2.2.2.1, by have := I.out.1; have := I.out.2.2.2.2; omega⟩
            clear I hlt
            obtain ⟨wp, hwp⟩ : ∃ wp, wp = wr := ⟨_, rfl⟩
            subst hwp
            obtain ⟨m, hm⟩ : ∃ m, m = t.nw.length := ⟨_, rfl⟩
            have hm9 : m ≤ 131072 := by rw [hm]; exact HT.out.1.good.n9
            have Hm := hide hm
            clear hm
            go_wp2
            go_loopg [16] m (fun kx s16 wr => ∃ (q : Nat), s16 = .int .i64 q ∧ Hid (q ≤ m ∧ m - q ≤ kx ∧ TL w f t wr ∧ RL w r t wr))
            case atStart => exact ⟨0, rfl, Nat.zero_le _, Nat.le_refl _, HT.out.1, HT.out.2.1⟩
            case round =>
              obtain ⟨q, rfl, J⟩ := hrel
              obtain ⟨nb, ka, kc, z0c, z3c, zr⟩ := J.out.2.2.2.heads
              rw [← Hm.out] at z0c zr
              by_cases hq : q < m
              · have hq2 : (q : Int) < (m : Int) := by omega
                obtain ⟨ra, rc, zq, zS⟩ := zr q hq
                obtain ⟨q1, hq1⟩ : ∃ q1, q1 = q + 1 := ⟨_, rfl⟩
                have e1 : (q : Int) + 1 = (q1 : Int) := by omega
                have Hq1 := hide hq1
                have Hq := hide hq
                obtain ⟨A, hA⟩ : ∃ A, A = wr.drew := ⟨_, rfl⟩
                have bA : Below wr.heap.size wr A := by rw [hA]; exact ⟨rfl, rfl, rfl, Nat.le_refl _, fun _ _ => rfl⟩
                obtain ⟨cl, hcl⟩ : ∃ cl, cl = (chK t (q : Int)).length := ⟨_, rfl⟩
                rw [← hcl] at zq zS
                have hlc : (chK t (q : Int)).length ≤ 100000 := by
                  have h1 := HT.out.2.2
                  have h2 : (chK t (q : Int)).length ≤ t.all.length := chK_le t q
                  omega
                have z0A : A.cell? ⟨r, 0, none⟩ = some (.slice (some ⟨nb, 0, none⟩) m m) := by rw [hA]; exact z0c
                have rlt : r < wr.heap.size := block_lt_of_cell (a := ⟨r, 0, none⟩) z0c
                have nlt : nb < wr.heap.size := block_lt_of_cell (a := ⟨nb, q, none⟩) zq
                obtain ⟨DD, hDD⟩ : ∃ DD : Value → World → Prop, DD = fun u W => ∃ va vc, u = .slice va cl vc ∧ SR A.heap.size (.slice va cl vc) (chK t (q : Int)) W ∧ TL w f t W ∧ Below A.heap.size A W := ⟨_, rfl⟩
                obtain ⟨QQ, hQQ⟩ : ∃ QQ : World → Prop, QQ = fun W => (TL w f t W ∧ RL w r t W) ∧ Below wr.heap.size wr W := ⟨_, rfl⟩
                have CP : Hid (∀ W, ChC A DD QQ 0 undef W → Calls Try.prog 12 #[.pointer (some ⟨f, 0, none⟩), .int .i64 (q : Int)] W fun e w2 => ∃ v, e = .returned v ∧ ChC A DD QQ 1 v w2) := fun W hW => by
                  have hW : W = A := hW
                  subst hW
                  obtain ⟨F, Tm, hF⟩ := (J.out.2.2.1.on bA).tm
                  refine (chain_tm Tm (q : Int) (by have := HT.out.2.2; omega)).mono ?_
                  rintro e w2 ⟨va, vc, rfl, g1, g2⟩
                  rw [← hcl] at g1 ⊢
                  refine ⟨_, rfl, ?_⟩
                  show DD _ _
                  rw [hDD]
                  exact ⟨va, vc, rfl, g1, (J.out.2.2.1.on bA).on g2, g2⟩
                have HF : Hid (∀ s u W, s ≤ 2 → ChC A DD QQ s u W → W.cell? ⟨r, 0, none⟩ = some (.slice (some ⟨nb, 0, none⟩) m m) ∧ W.cell? ⟨nb, q, none⟩ = some (.slice ra cl rc)) := fun s u W hs hc => by
                  have key : ∀ Z, Below wr.heap.size wr Z → Z.cell? ⟨r, 0, none⟩ = some (.slice (some ⟨nb, 0, none⟩) m m) ∧ Z.cell? ⟨nb, q, none⟩ = some (.slice ra cl rc) := fun Z hZ => ⟨(hZ.cell (p := ⟨r, 0, none⟩) rlt).trans z0c, (hZ.cell (p := ⟨nb, q, none⟩) nlt).trans zq⟩
                  match s, hs, hc with
                  | 0, _, hc => have hc : W = A := hc; subst hc; exact key _ bA
                  | 1, _, hc =>
                    have hc : DD u W := hc
                    rw [hDD] at hc
                    obtain ⟨_, _, _, _, _, b4⟩ := hc
                    exact key _ (bA.trans (b4.mono bA.size))
                  | 2, _, hc =>
                    have hc : QQ W := hc
                    rw [hQQ] at hc
                    exact key _ hc.2
                have CT : Hid (∀ u W, ChC A DD QQ 1 u W → ∃ va vc, u = .slice va cl vc ∧ Calls Try.prog 24 #[.slice va cl vc, .slice ra cl rc] W fun e w2 => e = .returned (.bool true) ∧ QQ w2) := fun u W hc => by
                  have hc : DD u W := hc
                  rw [hDD] at hc
                  obtain ⟨va, vc, rfl, g1, g2, b4⟩ := hc
                  have bW : Below wr.heap.size wr W := bA.trans (b4.mono bA.size)
                  refine ⟨va, vc, rfl, (texts_same g1 (zS.below bW) hcl hlc).mono ?_⟩
                  rintro e w2 ⟨rfl, p, rfl⟩
                  rw [hQQ]
                  exact ⟨rfl, ⟨g2.drewN p, (J.out.2.2.2.on bW).drewN p⟩, bW.trans ⟨rfl, rfl, rfl, Nat.le_refl _, fun _ _ => rfl⟩⟩
                have HQQ : Hid (∀ W, QQ W → TL w f t W ∧ RL w r t W) := fun W hW => by rw [hQQ] at hW; exact hW.1
                have HA : Hid (ChC A DD QQ 0 undef { wr with drawn := wr.drawn + 1 }) := hA.symm
                have HBN : Hid (q < m) := hq
                clear hA bA hcl hlc z0A rlt nlt hDD hQQ zS zr hq1 hq zq z3c
                go_wp2
                clear z0c
                refine wp_region_cx (by kernel_rfl) (by kernel_rfl) (fun u jx => ([.pointer (some ⟨f, 0, none⟩), .int .i64 (q : Int), u, .pointer (some ⟨r, 0, none⟩), .pointer (some ⟨r, 0, none⟩), .pointer (some ⟨r, 0, none⟩), .slice (some ⟨nb, 0, none⟩) m m, .int .i64 (q : Int), .pointer (some ⟨nb, q, none⟩), .slice ra cl rc, .bool true, .bool false] : List Value).getD jx undef) 2 [2, 10] [] (by kernel_rfl) (by kernel_rfl) rfl (fun _ => rfl) (fun v v' jx h1 h2 => by match jx with | 0 => rfl | 1 => rfl | 2 => exact absurd rfl h2 | 3 => rfl | 4 => rfl | 5 => rfl | 6 => rfl | 7 => rfl | 8 => rfl | 9 => rfl | 10 => rfl | 11 => rfl | _ + 12 => rfl) (ChC A DD QQ) (HA.out) ?_ ?_
                · intro jx ox hi sx u w' ev hlm hks hdp hc hin hout hcst hfn
                  have hltx : jx < 12 := by
                    have := (Array.getElem?_eq_some_iff.1 hi).1
                    simpa using this
                  match jx, hltx with
                  | 0, _ =>
                    simp only [List.getElem?_toArray, List.getElem?_cons_zero, List.getElem?_cons_succ, Option.some.injEq] at hi
                    subst hi
                    have e0 : ev (.tmp 5) = .pointer (some ⟨f, 0, none⟩) := hout 5 (by kernel_rfl) (show (5 : Nat) < 178 by decide)
                    refine .inl ⟨.pointer (some ⟨f, 0, none⟩), w', ?_, by show ite _ _ _; rw [if_neg (by decide), if_neg (by decide)]; exact ⟨rfl, hc⟩⟩
                    simp [execOp, e0, hcst, go_sem]
                  | 1, _ =>
                    simp only [List.getElem?_toArray, List.getElem?_cons_zero, List.getElem?_cons_succ, Option.some.injEq] at hi
                    subst hi
                    have e0 : ev (.tmp 16) = .int .i64 (q : Int) := hout 16 (by kernel_rfl) (show (16 : Nat) < 178 by decide)
                    refine .inl ⟨.int .i64 (q : Int), w', ?_, by show ite _ _ _; rw [if_neg (by decide), if_neg (by decide)]; exact ⟨rfl, hc⟩⟩
                    simp [execOp, e0, hcst, go_sem]
                  | 2, _ =>
                    simp only [List.getElem?_toArray, List.getElem?_cons_zero, List.getElem?_cons_succ, Option.some.injEq] at hi
                    subst hi
                    have e0 : ev (.tmp 161) = .pointer (some ⟨f, 0, none⟩) := hin 161 0 ⟨0, .data⟩ (by kernel_rfl) (by simp) rfl rfl (show (161 : Nat) < 178 by decide)
                    have e1 : ev (.tmp 162) = .int .i64 (q : Int) := hin 162 1 ⟨1, .data⟩ (by kernel_rfl) (by simp) rfl rfl (show (162 : Nat) < 178 by decide)
                    have hsx : sx = 0 := hks 0 rfl
                    subst hsx
                    refine .inr (.inr ⟨12, #[.pointer (some ⟨f, 0, none⟩), .int .i64 (q : Int)], ?_, ?_⟩)
                    · have ef := hfn 12
                      simp [execOp, resolve, invoke, ef, hcst, e0, e1, Result.andThen]
                      exact enter12 _ _
                    · refine Calls.mono (P := Try.prog) (R := fun e w2 => ∃ v, e = .returned v ∧ (ChC A DD QQ) 1 v w2) ?_ ?_
                      · exact CP.out w' hc
                      · rintro e w2 ⟨v, rfl, hv⟩
                        exact ⟨v, rfl, by first | exact hv | (rw [if_pos rfl]; exact hv) | (show ite _ _ _; rw [if_pos rfl]; exact hv)⟩
                  | 3, _ =>
                    simp only [List.getElem?_toArray, List.getElem?_cons_zero, List.getElem?_cons_succ, Option.some.injEq] at hi
                    subst hi
                    have e0 : ev (.tmp 9) = .pointer (some ⟨r, 0, none⟩) := hout 9 (by kernel_rfl) (show (9 : Nat) < 178 by decide)
                    refine .inl ⟨.pointer (some ⟨r, 0, none⟩), w', ?_, by show ite _ _ _; rw [if_neg (by decide), if_neg (by decide)]; exact ⟨rfl, hc⟩⟩
                    simp [execOp, e0, hcst, go_sem]
                  | 4, _ =>
                    simp only [List.getElem?_toArray, List.getElem?_cons_zero, List.getElem?_cons_succ, Option.some.injEq] at hi
                    subst hi
                    have e0 : ev (.tmp 164) = .pointer (some ⟨r, 0, none⟩) := hin 164 3 ⟨3, .data⟩ (by kernel_rfl) (by simp) rfl rfl (show (164 : Nat) < 178 by decide)
                    refine .inl ⟨.pointer (some ⟨r, 0, none⟩), w', ?_, by show ite _ _ _; rw [if_neg (by decide), if_neg (by decide)]; exact ⟨rfl, hc⟩⟩
                    simp [execOp, e0, hcst, go_sem]
                  | 5, _ =>
                    simp only [List.getElem?_toArray, List.getElem?_cons_zero, List.getElem?_cons_succ, Option.some.injEq] at hi
                    subst hi
                    have e0 : ev (.tmp 165) = .pointer (some ⟨r, 0, none⟩) := hin 165 4 ⟨4, .data⟩ (by kernel_rfl) (by simp) rfl rfl (show (165 : Nat) < 178 by decide)
                    refine .inl ⟨.pointer (some ⟨r, 0, none⟩), w', ?_, by show ite _ _ _; rw [if_neg (by decide), if_neg (by decide)]; exact ⟨rfl, hc⟩⟩
                    simp [execOp, e0, hcst, go_sem]
                  | 6, _ =>
                    simp only [List.getElem?_toArray, List.getElem?_cons_zero, List.getElem?_cons_succ, Option.some.injEq] at hi
                    subst hi
                    have e0 : ev (.tmp 166) = .pointer (some ⟨r, 0, none⟩) := hin 166 5 ⟨5, .data⟩ (by kernel_rfl) (by simp) rfl rfl (show (166 : Nat) < 178 by decide)
                    refine .inl ⟨.slice (some ⟨nb, 0, none⟩) m m, w', ?_, by show ite _ _ _; rw [if_neg (by decide), if_neg (by decide)]; exact ⟨rfl, hc⟩⟩
                    have hl2 : sx ≤ 2 := Nat.le_trans hlm (Nat.le_of_eq (by kernel_rfl))
                    have q3 := (HF.out sx u w' (by omega) hc).1
                    simp [execOp, e0, hcst, go_sem, q3]
                  | 7, _ =>
                    simp only [List.getElem?_toArray, List.getElem?_cons_zero, List.getElem?_cons_succ, Option.some.injEq] at hi
                    subst hi
                    have e0 : ev (.tmp 16) = .int .i64 (q : Int) := hout 16 (by kernel_rfl) (show (16 : Nat) < 178 by decide)
                    refine .inl ⟨.int .i64 (q : Int), w', ?_, by show ite _ _ _; rw [if_neg (by decide), if_neg (by decide)]; exact ⟨rfl, hc⟩⟩
                    simp [execOp, e0, hcst, go_sem]
                  | 8, _ =>
                    simp only [List.getElem?_toArray, List.getElem?_cons_zero, List.getElem?_cons_succ, Option.some.injEq] at hi
                    subst hi
                    have e0 : ev (.tmp 167) = .slice (some ⟨nb, 0, none⟩) m m := hin 167 6 ⟨6, .data⟩ (by kernel_rfl) (by simp) rfl rfl (show (167 : Nat) < 178 by decide)
                    have e1 : ev (.tmp 168) = .int .i64 (q : Int) := hin 168 7 ⟨7, .data⟩ (by kernel_rfl) (by simp) rfl rfl (show (168 : Nat) < 178 by decide)
                    refine .inl ⟨.pointer (some ⟨nb, q, none⟩), w', ?_, by show ite _ _ _; rw [if_neg (by decide), if_neg (by decide)]; exact ⟨rfl, hc⟩⟩
                    have q3 := HBN.out
                    simp [execOp, e0, e1, hcst, go_sem, q3]
                  | 9, _ =>
                    simp only [List.getElem?_toArray, List.getElem?_cons_zero, List.getElem?_cons_succ, Option.some.injEq] at hi
                    subst hi
                    have e0 : ev (.tmp 169) = .pointer (some ⟨nb, q, none⟩) := hin 169 8 ⟨8, .data⟩ (by kernel_rfl) (by simp) rfl rfl (show (169 : Nat) < 178 by decide)
                    refine .inl ⟨.slice ra cl rc, w', ?_, by show ite _ _ _; rw [if_neg (by decide), if_neg (by decide)]; exact ⟨rfl, hc⟩⟩
                    have hl2 : sx ≤ 1 := Nat.le_trans hlm (Nat.le_of_eq (by kernel_rfl))
                    have q3 := (HF.out sx u w' (by omega) hc).2
                    simp [execOp, e0, hcst, go_sem, q3]
                  | 10, _ =>
                    simp only [List.getElem?_toArray, List.getElem?_cons_zero, List.getElem?_cons_succ, Option.some.injEq] at hi
                    subst hi
                    have e0 : ev (.tmp 163) = u := hin 163 2 ⟨2, .data⟩ (by kernel_rfl) (by simp) rfl rfl (show (163 : Nat) < 178 by decide)
                    have e1 : ev (.tmp 170) = .slice ra cl rc := hin 170 9 ⟨9, .data⟩ (by kernel_rfl) (by simp) rfl rfl (show (170 : Nat) < 178 by decide)
                    have hsx : sx = 1 := hks 1 rfl
                    subst hsx
                    obtain ⟨va, vc, rfl, hCT⟩ := CT.out u w' hc
                    refine .inr (.inr ⟨24, #[.slice va cl vc, .slice ra cl rc], ?_, ?_⟩)
                    · have ef := hfn 24
                      simp [execOp, resolve, invoke, ef, hcst, e0, e1, Result.andThen]
                      exact enter24 _ _
                    · refine hCT.mono ?_
                      rintro e w2 ⟨rfl, hq⟩
                      exact ⟨_, rfl, by show ite _ _ _; rw [if_neg (by decide), if_pos (by decide)]; exact ⟨rfl, hq⟩⟩
                  | 11, _ =>
                    simp only [List.getElem?_toArray, List.getElem?_cons_zero, List.getElem?_cons_succ, Option.some.injEq] at hi
                    subst hi
                    have e0 : ev (.tmp 171) = .bool true := hin 171 10 ⟨10, .data⟩ (by kernel_rfl) (by simp) rfl rfl (show (171 : Nat) < 178 by decide)
                    refine .inl ⟨.bool false, w', ?_, by show ite _ _ _; rw [if_neg (by decide), if_neg (by decide)]; exact ⟨rfl, hc⟩⟩
                    simp [execOp, e0, hcst, go_sem]
                · intro u w7 hc
                  simp only [lexF, Act.put, List.setIfInBounds_toArray, List.set_cons_succ, List.set_cons_zero, List.getD_cons_succ, List.getD_cons_zero]
                  have HT2 := hide (HQQ.out w7 hc)
                  have HJ := hide J.out.2.1
                  clear hc HF CP CT HQQ HA HBN J
                  go_wp2
                  go_roundg (m - q1)
                  case measure => have := HJ.out; have := Hq1.out; have := Hq.out; omega
                  case rel => exact ⟨q1, rfl, by have := Hq1.out; have := Hq.out; omega, Nat.le_refl _, HT2.out.1, HT2.out.2⟩
              · have hq2 : ¬ (q : Int) < (m : Int) := by omega
                have cK := hide (keys_l J.out.2.2.1 (by have := HT.out.2.2; omega))
                have hnl : t.all.length ≤ 120 := HT.out.2.2
                have HJ : Hid (RL w r t wr) := J.out.2.2.2
                have hks : t.all.length = (sortK (keysOf t.all)).length := by unfold sortK; rw [List.length_mergeSort]; simp [keysOf]
                obtain ⟨na, hna⟩ : ∃ na, na = t.all.length := ⟨_, rfl⟩
                have CE : Hid (∀ W, RL w r t W → Calls Try.prog 25 #[.pointer (some ⟨r, 0, none⟩)] W fun e W' => ∃ va vc, e = .returned (.slice va na vc) ∧ SR W.heap.size (.slice va na vc) (sortK (keysOf t.all)) W' ∧ Below W.heap.size W W') := fun W hW => by
                  have := rsorted_l hW (by omega)
                  rw [← hna] at this
                  exact this
                rw [← hna] at cK hks hnl
                have Hks := hide hks
                have HBel : Hid (∀ W W', TL w f t W → Below W.heap.size W W' → Below w.heap.size w W') := fun W W' h b => (h.on b).bel
                have KB : Hid (∀ W, TL w f t W → True) := fun _ _ => trivial
                have cK2 : Hid (Calls Try.prog 13 #[.pointer (some ⟨f, 0, none⟩)] wr fun e W' => ∃ g cap, e = .returned (.slice (some ⟨g, 0, none⟩) na cap) ∧ SR wr.heap.size (.slice (some ⟨g, 0, none⟩) na cap) (sortK (keysOf t.all)) W' ∧ TL w f t W' ∧ RL w r t W') := by
                  obtain ⟨F, Tm, hF⟩ := J.out.2.2.1.tm
                  refine (keys_tm Tm (by omega)).mono ?_
                  rintro e W' ⟨va, vc, rfl, g1, g2⟩
                  rw [← hna] at g1 ⊢
                  exact ⟨va, vc, rfl, g1, J.out.2.2.1.on g2, J.out.2.2.2.on g2⟩
                clear J cK hks hna zr z3c hq
                generalize sortK (keysOf t.all) = sk at *
                go_wp2_with fail
                refine cK2.out.mono ?_
                rintro e w5 ⟨g5, d5, rfl, s5, h5, r5⟩
                have cS := hide (CE.out w5 r5)
                have S5 := hide s5
                have H5 := hide h5
                clear cK2 s5 h5 r5 CE z0c
                go_wp2_with fail
                refine cS.out.mono ?_
                rintro e w6 ⟨va6, vc6, rfl, s6, b6⟩
                have cT := hide (texts_same (S5.out.below b6) s6 Hks.out (by rw [← Hks.out]; omega))
                have H6 := hide (HBel.out w5 w6 H5.out b6)
                clear cS s6 b6 S5
                go_wp2_with fail
                refine cT.out.mono ?_
                rintro e w7 ⟨rfl, p, hp⟩
                have H7 : Hid (Below w.heap.size w w7) := by rw [hp]; exact H6.out.trans ⟨rfl, rfl, rfl, Nat.le_refl _, fun _ _ => rfl⟩
                clear cT hp H6
                go_wp2
                go_ret
                exact ⟨rfl, H7.out⟩
end Go.Proofs.Ytkjfildnemgbiaa.tablePlays
