/-
  Any calls (at most 80) are answered, and leave the pages, as the document says: for every number of pages and every list of calls the call returns true; no condition.
-/
import Derived.WalkKit
import Derived.Below
import Derived.Test.YthnfdgjikbjgoaaBoth
import Derived.Test.YthnfdgjikbjgoaaAlike
import Derived.Test.YthnfdgjikbjgoaaRefWait
namespace Go.Proofs.Ythnfdgjikbjgoaa.flashPlays
open Go.RowKit Go.Deep
set_option linter.unusedVariables false
set_option linter.unusedSimpArgs false

theorem since2 {B : Nat} {w a : World} {F G : List Nat} (h : Since B w a F) (hG : ∀ k ∈ G, B ≤ k) : Since B w a (F ++ G) := ⟨h.1, h.2.1, fun k hk => by rcases List.mem_append.1 hk with h1 | h1; exact h.2.2 k h1; exact hG k h1⟩
theorem act_len (S : Dv) (t : ActI) : (S.act t).cs.length = S.cs.length := by
  have hput : ∀ (p : Int) (g : Pg), (S.putDo p g).cs.length = S.cs.length := fun p g => by
    unfold Dv.putDo
    split
    · rfl
    · split
      · rw [S.used_cs]
      · show (putAt _ _ _).length = _; rw [putAt_length]
  unfold Dv.act
  split
  · unfold Dv.writeDo
    split
    · rfl
    · exact hput _ _
  split
  · exact hput _ _
  split
  · unfold Dv.flushDo
    split
    · rw [S.used_cs]
    · show (List.map _ _).length = _; rw [List.length_map]
  split
  · rfl
  split
  · show (settle _ _).length = _; rw [settle_length]
  · show (settle _ _).length = _; rw [settle_length]
theorem readN_len (S : Dv) (k : Nat) : (S.readN k).cs = S.cs := by obtain ⟨x, hx⟩ := S.readN_rd k; rw [hx]

theorem own_nums {w1 : World} {B m : Nat} {v : Value} {xs : List Value} (h : w1.ownsRow B 3 1 v m xs) (hn : v ≠ .slice none 0 0) : ∃ g cp pad, v = .slice (some ⟨g, 0, none⟩) m cp ∧ B ≤ g ∧ Blk w1 g (xs ++ pad) 3 := by
  rcases h.2 with ⟨h0, _⟩ | ⟨g, cp, cur, hv, hB, hh, _, _, _, ht⟩
  · exact absurd h0 hn
  · refine ⟨g, cp, cur.toList.drop (m * 1), hv, hB, ?_⟩
    unfold Blk
    rw [← ht, List.take_append_drop, Array.toArray_toList]
    exact hh

theorem pair_heap {w w' : World} {d r : Nat} {F G : List Nat} {S T : Dv} (h : Pair w d r F G S T) (e : w'.heap = w.heap) : Pair w' d r F G S T :=
  ⟨h.dev.same (fun _ _ => by rw [e]), h.ref.same (fun _ _ => by rw [e]), fun k hk => by rw [e]; exact h.apart k hk⟩
theorem since_heap {B : Nat} {w a b : World} {F : List Nat} (h : Since B w a F) (e : b.heap = a.heap) (e1 : b.os = a.os) (e2 : b.tape = a.tape) (e3 : b.output = a.output) : Since B w b F :=
  ⟨⟨e1.trans h.1.os, e2.trans h.1.tape, e3.trans h.1.output, by rw [e]; exact h.1.size, fun k hk => by rw [e]; exact h.1.block k hk⟩, by rw [e]; exact h.2.1, h.2.2⟩

/-- What the calls so far have left. -/
def Inv (w wr : World) (d r p : Nat) : Prop := ∃ F G S, Pair wr d r F G S S ∧ S.cs.length = p ∧ Since w.heap.size w wr (F ++ G)

theorem bytes_apart {w : World} {t : ActI} {b o : Nat} (h : OneAct w b o t) {F : List Nat} (hF : ∀ k ∈ F, w.heap.size ≤ k) : t.l ≠ [] → t.bb ∉ F := fun hl hk => by
  have := hF _ hk
  rcases h.bytes with h0 | ⟨h0, _⟩
  · exact hl h0
  · omega
set_option maxRecDepth 4000 in
set_option maxHeartbeats 4000000 in
theorem walk (a0 : Int) (a1 : Option Addr) (len1 cap1 : Nat) (z1 : List ActI) (w : World) (hw0 : (Lit.int .i64 a0).wf = true) (hw1 : ActsAt w a1 len1 z1) :
    Calls Try.prog 4 #[.int .i64 a0, .slice a1 len1 cap1] w fun e w' => e = .returned (.bool true) ∧ Below w.heap.size w w' := by
  by_cases hbad : a0 < 1 ∨ 4096 < a0
  · go_enter Try.func4, Try.ntmps4
    go_wp2_with fail
    refine (awake_any _).mono ?_
    rintro e w0' ⟨rfl, b0⟩
    have B0 := hide b0
    clear b0
    have cn := hide (new_bad a0 hbad w0')
    go_wp2_with fail
    refine cn.out.mono ?_
    rintro e w' ⟨rfl, hw'⟩
    obtain rfl : w0' = w' := hw'.symm
    by_cases h1 : a0 < 1
    · have h1' : (a0 < 1) = True := eq_true h1
      clear hbad h1 cn
      go_wp2
      go_ret
      exact ⟨rfl, B0.out⟩
    · have h1' : (a0 < 1) = False := eq_false h1
      have h2' : ((4096 : Int) < a0) = True := eq_true (by omega)
      clear hbad h1 cn
      go_wp2
      go_ret
      exact ⟨rfl, B0.out⟩
  obtain ⟨p, rfl⟩ : ∃ p : Nat, a0 = (p : Int) := ⟨a0.toNat, by omega⟩
  have hp1 : 1 ≤ p := by omega
  have hp2 : p ≤ 4096 := by omega
  have hp1i : ((p : Int) < 1) = False := eq_false (by omega)
  have hp2i : ((4096 : Int) < (p : Int)) = False := eq_false (by omega)
  clear hbad
  go_enter Try.func4, Try.ntmps4
  go_wp2_with fail
  refine (awake_any _).mono ?_
  rintro e w0 ⟨rfl, b0⟩
  have B0 := hide b0
  clear b0
  have cn := hide (new_at p hp1 hp2 w0)
  have HP1 := hide hp1
  have HP2 := hide hp2
  clear hp1 hp2
  go_wp2_with fail
  refine cn.out.mono ?_
  rintro e w1 ⟨d, F, rfl, h1, f1, b1⟩
  have Q1 : Hid (Since w.heap.size w w1 F) := ⟨B0.out.trans (b1.mono B0.out.size), Nat.le_trans B0.out.size b1.size, fun k hk => Nat.le_trans B0.out.size (f1 k hk)⟩
  have H1 := hide h1
  clear cn h1 f1 b1 B0
  by_cases hmany : 40 < p ∨ 80 < len1
  · rcases hmany with hm | hm
    · have hmi : ((40 : Int) < (p : Int)) = True := eq_true (by omega)
      go_wp2
      go_ret
      exact ⟨rfl, Q1.out.1⟩
    · have hmi : ((80 : Int) < (len1 : Int)) = True := eq_true (by omega)
      by_cases hm2 : 40 < p
      · have hm2i : ((40 : Int) < (p : Int)) = True := eq_true (by omega)
        go_wp2
        go_ret
        exact ⟨rfl, Q1.out.1⟩
      · have hm2i : ((40 : Int) < (p : Int)) = False := eq_false (by omega)
        go_wp2
        go_ret
        exact ⟨rfl, Q1.out.1⟩
  have hmi : ((40 : Int) < (p : Int)) = False := eq_false (by omega)
  have hmi2 : ((80 : Int) < (len1 : Int)) = False := eq_false (by omega)
  have hlen80 : len1 ≤ 80 := by omega
  clear hmany
  go_wp2_with fail
  refine (rnew_at p HP2.out w1).mono ?_
  rintro e w2 ⟨r, G, rfl, h2, g2, b2⟩
  have Q2 : Hid (Since w.heap.size w w2 (F ++ G)) := since2 (Q1.out.below b2) (fun k hk => Nat.le_trans Q1.out.2.1 (g2 k hk))
  have P2 : Hid (Pair w2 d r F G (Dv.fresh p) (Dv.fresh p)) := ⟨H1.out.below b2, h2, fun k hk => ⟨h2.lt k hk, fun hf => by have := H1.out.lt k hf; have := g2 k hk; omega⟩⟩
  clear h2 g2 b2 H1 Q1
  go_wp2_with fail
  have I0 : Hid (Inv w w2 d r p) := ⟨F, G, _, P2.out, by simp [Dv.fresh], Q2.out⟩
  have WA := hide hw1
  have H80 := hide hlen80
  clear hw0 hlen80 hw1
  clear P2 Q2
  go_loopg [8] len1 (fun kx s8 wr => ∃ i : Nat, s8 = .int .i64 i ∧ i ≤ len1 ∧ len1 - i ≤ kx ∧ Hid (Inv w wr d r p))
  case atStart => exact ⟨0, rfl, Nat.zero_le _, by omega, I0.out⟩
  case round =>
    obtain ⟨i, rfl, hin, hg, I⟩ := hrel
    have hi80 : i ≤ 80 := by have := H80.out; omega
    by_cases hlt : i < len1
    · have hlt2 : (i : Int) < (len1 : Int) := by omega
      obtain ⟨F1, G1, S, hP, hSl, hQ⟩ := I.out
      have AW := WA.out.same (w' := wr) hQ.1.size (fun k hk => hQ.1.block k hk)
      obtain ⟨t, ht⟩ : ∃ t, z1[i]? = some t := ⟨_, List.getElem?_eq_getElem (by rw [WA.out.1]; exact hlt)⟩
      have AO : ∃ b o, a1 = some ⟨b, o, none⟩ ∧ b < wr.heap.size ∧ OneAct wr b (o + i * 3) t ∧ OneAct w b (o + i * 3) t := by
        rcases WA.out.2 with h0 | ⟨b, o, ha, hb, hc⟩
        · rw [h0] at ht; simp at ht
        · have h1 := hc i t ht
          exact ⟨b, o, ha, Nat.lt_of_lt_of_le hb hQ.1.size, h1.same hQ.1.size (fun k hk => hQ.1.block k hk), h1⟩
      obtain ⟨b, o, rfl, hbw, A1, A0⟩ := AO
      have c0 := A1.c0
      have c1 := A1.c1
      have c2 := A1.c2
      have cb := hide (both_any d r F1 G1 S S t wr hP A1.bytes A1.nil A1.small A1.page (bytes_apart A0 (fun k hk => hQ.2.2 k (by simp [hk]))) (bytes_apart A0 (fun k hk => hQ.2.2 k (by simp [hk]))))
      rw [bothOk_same] at cb
      have HQ := hide hQ
      have HSL := hide hSl
      clear A0 A1 AW hP hQ hSl ht
      obtain ⟨top, tpage, ta, tcap, tbb, tl⟩ := t
      simp only at c0 c1 c2 cb
      obtain ⟨tn, htn⟩ : ∃ tn, tn = tl.length := ⟨_, rfl⟩
      rw [← htn] at c2 cb
      have HTN := hide htn
      clear htn
      by_cases h5 : 500 < tn
      · have h5i : ((500 : Int) < (tn : Int)) = True := eq_true (by omega)
        clear h5
        go_wp2_with fail
        go_ret
        exact ⟨rfl, HQ.out.1⟩
      · have h5i : ((500 : Int) < (tn : Int)) = False := eq_false (by omega)
        clear h5
        go_wp2_with fail
        refine cb.out.mono ?_
        rintro e w3 ⟨rfl, F3, G3, p3, m3⟩
        have P3 := hide p3
        have Q3 := hide (HQ.out.moves m3)
        have L3 : Hid ((S.act ⟨top, tpage, ta, tcap, tbb, tl⟩).cs.length = p) := by show _ = p; rw [act_len]; exact HSL.out
        clear cb p3 m3 c0 c1 c2
        generalize S.act ⟨top, tpage, ta, tcap, tbb, tl⟩ = S3 at P3 L3
        go_wp2_with fail
        refine (alike_at d r F3 G3 S3 w3 P3.out).mono ?_
        rintro e w4 ⟨rfl, p4, m4⟩
        have P4 := hide p4
        have Q4 := hide (Q3.out.moves m4)
        have L4 : Hid ((S3.readN S3.cs.length).cs.length = p) := by show _ = p; rw [readN_len]; exact L3.out
        clear p4 m4
        generalize S3.readN S3.cs.length = S4 at P4 L4
        go_wp2_with fail
        refine (waiting_at d F3 S4 w4 P4.out.dev).mono ?_
        rintro e w5 ⟨rfl, k5, b5⟩
        have P5 := hide (P4.out.below b5)
        have Q5 := hide (Q4.out.below b5)
        have K5 := hide k5
        clear k5 b5 P4 Q4
        go_wp2_with fail
        refine (rwaiting_at r G3 S4 w5 P5.out.ref).mono ?_
        rintro e w6 ⟨v, rfl, hown, hnil, b6⟩
        obtain ⟨g, cp, pad, rfl, hgw, hgb⟩ := own_nums hown hnil
        have P6 := hide (P5.out.below b6)
        have Q6 := hide (Q5.out.below b6)
        have K6 := hide (K5.out.same (b6.block _ K5.out.lt))
        have GB := hide hgb
        have hm4 : (wl 0 S4.cs).length ≤ 4096 := Nat.le_trans (wl_length _ _) P5.out.dev.good.many
        obtain ⟨m, hm⟩ : ∃ m, m = (wl 0 S4.cs).length := ⟨_, rfl⟩
        rw [← hm] at hm4 ⊢
        have HM := hide hm
        have l6 := K6.out.lt
        have lg := hgb.lt
        clear P5 Q5 K5 hown hnil b6 hgw hgb hm
        go_wp2_with fail
        go_loopg [11] m (fun kx s11 wr2 => ∃ k : Nat, s11 = .int .i64 k ∧ k ≤ m ∧ m - k ≤ kx ∧ Hid (Pair wr2 d r F3 G3 S4 S4 ∧ Since w.heap.size w wr2 (F3 ++ G3) ∧ Blk wr2 w4.heap.size (wtNums (wl 0 S4.cs)) 3 ∧ Blk wr2 g (wtNums (wl 0 S4.cs) ++ pad) 3))
        case atStart => exact ⟨0, rfl, Nat.zero_le _, by omega, P6.out, Q6.out, K6.out, GB.out⟩
        case round =>
          obtain ⟨k, rfl, hkm, hgk, I⟩ := hrel
          have l6 := I.out.2.2.1.lt
          have lg := I.out.2.2.2.lt
          clear P6 Q6 K6 GB
          by_cases hkl : k < m
          · have hkl2 : (k : Int) < (m : Int) := by omega
            obtain ⟨x, hx⟩ : ∃ x : Nat, (wtNums (wl 0 S4.cs))[k]? = some (.int .i64 (x : Int)) := by
              have hk : k < (wl 0 S4.cs).length := by rw [← HM.out]; exact hkl
              exact ⟨(wl 0 S4.cs)[k].1, by simp [wtNums, hk]⟩
            have q1 := I.out.2.2.1.cell hx
            have q2 : wr.cell? ⟨g, k, none⟩ = some (.int .i64 (x : Int)) := I.out.2.2.2.cell (by rw [List.getElem?_append_left (List.getElem?_eq_some_iff.1 hx).1]; exact hx)
            clear hx
            go_wp2_with fail
            go_quiet (fail)
            go_wp2_with fail
            go_roundg (m - (k + 1))
            case measure => omega
            case rel => exact ⟨k + 1, rfl, by omega, by omega, pair_heap I.out.1 rfl, since_heap I.out.2.1 rfl rfl rfl rfl, I.out.2.2.1, I.out.2.2.2⟩
          · have hkl2 : ¬ (k : Int) < (m : Int) := by omega
            go_wp2_with fail
            refine (stat_at d F3 S4 wr I.out.1.dev).mono ?_
            rintro e w7 ⟨rfl, b7⟩
            have P7 := hide (I.out.1.below b7)
            have Q7 := hide (I.out.2.1.below b7)
            obtain ⟨L, hL, hR⟩ := P7.out.ref
            have c6 := hR.dev.cell (i := 6) rfl
            have c7 := hR.dev.cell (i := 7) rfl
            have c8 := hR.dev.cell (i := 8) rfl
            have c9 := hR.dev.cell (i := 9) rfl
            have lr := hR.dev.lt
            have CP : Hid (∀ W : World, W.heap = w7.heap ∨ (∃ o, W.heap = (w7.alloc o).heap) → Calls Try.prog 22 #[.pointer (some ⟨d, 0, none⟩)] W fun e w' => e = .returned (.int .i64 (p : Int)) ∧ w' = W) := fun W hW => by
              have := pages_at d F3 S4 W (by
                rcases hW with h | ⟨o, h⟩
                · exact P7.out.dev.same (fun _ _ => by rw [h])
                · exact (P7.out.dev.alloc o).same (fun _ _ => by rw [h]))
              rw [L4.out] at this
              exact this
            clear b7 hL hR
            generalize S4.wr = n0 at c6
            generalize S4.fl = n1 at c7
            generalize S4.rd = n2 at c8
            generalize S4.cr = n3 at c9
            go_wp2_with fail
            go_quiet (first | (go_at_call 22; refine Calls.quiet_of_same (CP.out _ ?_); exact .inr ⟨_, rfl⟩))
            go_wp2_with fail
            go_roundg (len1 - (i + 1))
            case measure => omega
            case rel => exact ⟨i + 1, rfl, by omega, by omega, F3, G3, S4, pair_heap (P7.out.below ((Below.refl _ _).alloc (Nat.le_refl _) _)) rfl, L4.out, since_heap (Q7.out.alloc _) rfl rfl rfl rfl⟩
    · have hlt2 : ¬ (i : Int) < (len1 : Int) := by omega
      obtain ⟨F1, G1, S, hP, hSl, hQ⟩ := I.out
      have Q := hide hQ.1
      clear hP hSl hQ
      go_wp2_with fail
      go_ret
      exact ⟨rfl, Q.out⟩
end Go.Proofs.Ythnfdgjikbjgoaa.flashPlays
