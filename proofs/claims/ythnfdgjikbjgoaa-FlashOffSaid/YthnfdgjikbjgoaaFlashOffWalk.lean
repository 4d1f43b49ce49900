/-
  While the power is off nothing is written, read, or flushed; On brings back just what lasted: for every number of pages and every two lists of calls the call returns true; no condition.
-/
import Derived.WalkKit
import Derived.Below
import Derived.Test.YthnfdgjikbjgoaaLaws3
import Derived.Test.YthnfdgjikbjgoaaRefWait
namespace Go.Proofs.Ythnfdgjikbjgoaa.flashOff
open Go.RowKit Go.Deep
set_option linter.unusedVariables false
set_option linter.unusedSimpArgs false

theorem settle_rd (S : Dv) : S.off = true → S.used = S := fun h => by unfold Dv.used; rw [if_pos (.inl h)]
theorem off_gone {S : Dv} (h : S.off = true) : S.gone = true := by simp [Dv.gone, h]
theorem off_put {S : Dv} (h : S.off = true) (p : Int) (g : Pg) : S.putDo p g = S := by
  unfold Dv.putDo
  split
  · rfl
  · rw [if_pos (off_gone h), settle_rd S h]
theorem off_write {S : Dv} (h : S.off = true) (p : Int) (b : ByteArray) : S.writeDo p b = S := by
  unfold Dv.writeDo
  split
  · rfl
  · exact off_put h p _
theorem off_flush {S : Dv} (h : S.off = true) : S.flushDo = S := by unfold Dv.flushDo; rw [if_pos (off_gone h), settle_rd S h]
theorem off_flushErr {S : Dv} (h : S.off = true) : S.flushErr = 4 := by unfold Dv.flushErr; rw [if_pos (off_gone h)]
theorem off_putErr {S : Dv} (h : S.off = true) (hl : 1 ≤ S.cs.length) : S.putErr 0 = 4 := by
  have : S.has 0 = true := by simp [Dv.has]; omega
  unfold Dv.putErr
  rw [if_neg (by simp [this]), if_pos (off_gone h)]
theorem off_writeErr {S : Dv} (h : S.off = true) (hl : 1 ≤ S.cs.length) (b : ByteArray) : S.writeErr 0 b = if 384 < b.size then 1 else 4 := by
  unfold Dv.writeErr
  split
  · rfl
  · exact off_putErr h hl
theorem off_read {S : Dv} (h : S.off = true) (hl : 1 ≤ S.cs.length) : S.readErr 0 = 4 ∧ S.readDo 0 = S := by
  have : S.has 0 = true := by simp [Dv.has]; omega
  unfold Dv.readErr Dv.readDo
  rw [if_neg (by simp [this]), if_pos h, if_neg (by simp [this]), if_pos h]
  exact ⟨rfl, rfl⟩

/-- One call that finds the power gone. -/
theorem off_act {w wr : World} {d o : Nat} {F F2 : List Nat} {S : Dv} {a2 : Option Addr} {len2 : Nat} {z2 : List ActI} (WA : ActsAt w a2 len2 z2) (h : Two wr d o F F2 S S) (hQ : Since w.heap.size w wr (F ++ F2)) (ho : S.off = true) (hl : 1 ≤ S.cs.length) (i : Nat) (hlt : i < len2) :
    ∃ (b ob : Nat) (op page : Int) (sa : Option Addr) (sn sc : Nat), a2 = some ⟨b, ob, none⟩ ∧ b < wr.heap.size ∧ wr.cell? ⟨b, ob + i * 3, none⟩ = some (.int .i64 op) ∧ wr.cell? ⟨b, ob + i * 3 + 1, none⟩ = some (.int .i64 page) ∧
      wr.cell? ⟨b, ob + i * 3 + 2, none⟩ = some (.slice sa sn sc) ∧
      (∀ W : World, W.heap = wr.heap → Below w.heap.size w W → Calls Try.prog 12 #[.pointer (some ⟨d, 0, none⟩), .int .i64 0, .slice sa sn sc] W fun e w' => e = .returned (.int .i64 (if 384 < sn then 1 else 4)) ∧ (∃ F', Two w' d o F' F2 S S ∧ Since w.heap.size w w' (F' ++ F2)) ∧ w'.cell? ⟨b, ob + i * 3 + 2, none⟩ = some (.slice sa sn sc) ∧ b < w'.heap.size) ∧
      (∀ W : World, W.heap = wr.heap → Below w.heap.size w W → Calls Try.prog 27 #[.pointer (some ⟨d, 0, none⟩), .int .i64 0] W fun e w' => e = .returned (.int .i64 4) ∧ (∃ F', Two w' d o F' F2 S S ∧ Since w.heap.size w w' (F' ++ F2)) ∧ w'.cell? ⟨b, ob + i * 3 + 2, none⟩ = some (.slice sa sn sc) ∧ b < w'.heap.size) ∧
      (∀ W : World, W.heap = wr.heap → Below w.heap.size w W → Calls Try.prog 13 #[.pointer (some ⟨d, 0, none⟩)] W fun e w' => e = .returned (.int .i64 4) ∧ (∃ F', Two w' d o F' F2 S S ∧ Since w.heap.size w w' (F' ++ F2)) ∧ w'.cell? ⟨b, ob + i * 3 + 2, none⟩ = some (.slice sa sn sc) ∧ b < w'.heap.size) := by
  obtain ⟨t, ht⟩ : ∃ t, z2[i]? = some t := ⟨_, List.getElem?_eq_getElem (by rw [WA.1]; exact hlt)⟩
  rcases WA.2 with h0 | ⟨b, ob, ha, hb, hc⟩
  · rw [h0] at ht; simp at ht
  · have A0 := hc i t ht
    have A1 := A0.same (w' := wr) hQ.1.size (fun k hk => hQ.1.block k hk)
    have fin : ∀ (W w' : World) (F' : List Nat) (S' : Dv), W.heap = wr.heap → Below w.heap.size w W → DvAt w' d F' S' → Moves F F' W w' → S' = S → (∃ F', Two w' d o F' F2 S S ∧ Since w.heap.size w w' (F' ++ F2)) ∧ w'.cell? ⟨b, ob + i * 3 + 2, none⟩ = some (.slice t.a t.l.length t.cap) ∧ b < w'.heap.size := by
      intro W w' F' S' hW hB h1 m1 e1
      subst e1
      have hQW : Since w.heap.size w W (F ++ F2) := ⟨hB, hB.size, hQ.2.2⟩
      have hQ' := hQW.moves (m1.left (G := F2))
      refine ⟨⟨F', (h.heap hW).step1 h1 m1, hQ'⟩, ?_, Nat.lt_of_lt_of_le hb hQ'.1.size⟩
      have := (A0.same (w' := w') hQ'.1.size (fun k hk => hQ'.1.block k hk)).c2
      exact this
    refine ⟨b, ob, t.op, t.page, t.a, t.l.length, t.cap, ha, Nat.lt_of_lt_of_le hb hQ.1.size, A1.c0, A1.c1, A1.c2, ?_, ?_, ?_⟩
    · intro W hW hB
      have hbs : BSlice W t.a t.l t.bb := A0.bytes.same hB.size (fun hk _ => hB.block _ hk)
      refine (write_at d F S 0 t.a t.l.length t.cap t.bb t.l rfl W hbs A1.nil (bytes_apart A0 (fun k hk => hQ.2.2 k (by simp [hk]))) (h.heap hW).one).mono ?_
      rintro e w' ⟨rfl, F', h1, m1⟩
      refine ⟨?_, fin W w' F' _ hW hB h1 m1 (off_write ho 0 _)⟩
      rw [off_writeErr ho hl]
      rfl
    · intro W hW hB
      refine (erase_at d F S 0 W (h.heap hW).one).mono ?_
      rintro e w' ⟨rfl, F', h1, m1⟩
      exact ⟨by rw [off_putErr ho hl], fin W w' F' _ hW hB h1 m1 (off_put ho 0 _)⟩
    · intro W hW hB
      refine (flush_at d F S W (h.heap hW).one).mono ?_
      rintro e w' ⟨rfl, F', h1, m1⟩
      exact ⟨by rw [off_flushErr ho], fin W w' F' _ hW hB h1 m1 (off_flush ho)⟩
set_option maxRecDepth 4000 in
set_option maxHeartbeats 4000000 in
theorem walk (a0 : Int) (a1 : Option Addr) (len1 cap1 : Nat) (z1 : List ActI) (a2 : Option Addr) (len2 cap2 : Nat) (z2 : List ActI) (w : World) (hw0 : (Lit.int .i64 a0).wf = true) (hw1 : ActsAt w a1 len1 z1) (hw2 : ActsAt w a2 len2 z2) :
    Calls Try.prog 7 #[.int .i64 a0, .slice a1 len1 cap1, .slice a2 len2 cap2] w fun e w' => e = .returned (.bool true) ∧ Below w.heap.size w w' := by
  by_cases g0 : a0 < 1
  · have g0' : (a0 < 1) = True := eq_true g0
    clear g0
    go_enter Try.func7, Try.ntmps7
    go_wp2_with fail
    refine (awake_any _).mono ?_
    rintro e w0 ⟨rfl, b0⟩
    have B0 := hide b0
    clear b0
    go_wp2
    go_ret
    exact ⟨rfl, B0.out⟩
  have g0' : (a0 < 1) = False := eq_false g0
  by_cases g1 : (20 : Int) < a0
  · have g1' : ((20 : Int) < a0) = True := eq_true g1
    clear g1
    go_enter Try.func7, Try.ntmps7
    go_wp2_with fail
    refine (awake_any _).mono ?_
    rintro e w0 ⟨rfl, b0⟩
    have B0 := hide b0
    clear b0
    go_wp2
    go_ret
    exact ⟨rfl, B0.out⟩
  have g1' : ((20 : Int) < a0) = False := eq_false g1
  by_cases g2 : (30 : Int) < (len1 : Int)
  · have g2' : ((30 : Int) < (len1 : Int)) = True := eq_true g2
    clear g2
    go_enter Try.func7, Try.ntmps7
    go_wp2_with fail
    refine (awake_any _).mono ?_
    rintro e w0 ⟨rfl, b0⟩
    have B0 := hide b0
    clear b0
    go_wp2
    go_ret
    exact ⟨rfl, B0.out⟩
  have g2' : ((30 : Int) < (len1 : Int)) = False := eq_false g2
  by_cases g3 : (20 : Int) < (len2 : Int)
  · have g3' : ((20 : Int) < (len2 : Int)) = True := eq_true g3
    clear g3
    go_enter Try.func7, Try.ntmps7
    go_wp2_with fail
    refine (awake_any _).mono ?_
    rintro e w0 ⟨rfl, b0⟩
    have B0 := hide b0
    clear b0
    go_wp2
    go_ret
    exact ⟨rfl, B0.out⟩
  have g3' : ((20 : Int) < (len2 : Int)) = False := eq_false g3
  obtain ⟨p, rfl⟩ : ∃ p : Nat, a0 = (p : Int) := ⟨a0.toNat, by omega⟩
  have hp1 : 1 ≤ p := by omega
  have hp2 : p ≤ 4096 := by omega
  have HP1 := hide hp1
  have HP2 := hide (show p ≤ 20 by omega)
  have hl1 : len1 ≤ 100 := by omega
  have HL1 := hide hl1
  have WA := hide hw1
  have hl2 : len2 ≤ 100 := by omega
  have HL2 := hide hl2
  have WB := hide hw2
  clear hl2 hw2
  clear g0 g1 g2 g3 hp1 hp2 hl1 hw0 hw1
  go_enter Try.func7, Try.ntmps7
  go_wp2_with fail
  refine (awake_any _).mono ?_
  rintro e w0 ⟨rfl, b0⟩
  have B0 := hide b0
  clear b0
  have cn := hide (new_at p HP1.out (by have := HP2.out; omega) w0)
  go_wp2_with fail
  refine cn.out.mono ?_
  rintro e w1 ⟨d, F, rfl, h1, f1, b1⟩
  have Q1 : Hid (Since w.heap.size w w1 F) := ⟨B0.out.trans (b1.mono B0.out.size), Nat.le_trans B0.out.size b1.size, fun k hk => Nat.le_trans B0.out.size (f1 k hk)⟩
  have H1 := hide h1
  clear cn h1 f1 b1 B0
  go_wp2_with fail
  refine (rnew_at p (by have := HP2.out; omega) w1).mono ?_
  rintro e w2 ⟨r, G, rfl, h2, g2, b2⟩
  have I0 : Hid (Inv2 w w2 d r p) := ⟨F, G, _, _, ⟨H1.out.below b2, h2, fun k hk => ⟨h2.lt k hk, fun hf => by have := H1.out.lt k hf; have := g2 k hk; omega⟩⟩, by simp [Dv.fresh], since2 (Q1.out.below b2) (fun k hk => Nat.le_trans Q1.out.2.1 (g2 k hk))⟩
  clear h2 g2 b2 H1 Q1
  go_wp2_with fail
  go_loopg [10] len1 (fun kx s8 wr => ∃ i : Nat, s8 = .int .i64 i ∧ i ≤ len1 ∧ len1 - i ≤ kx ∧ Hid (Inv2 w wr d r p))
  case atStart => exact ⟨0, rfl, Nat.zero_le _, by omega, I0.out⟩
  case round =>
    obtain ⟨i, rfl, hin, hg, I⟩ := hrel
    have hi80 : i ≤ 100 := by have := HL1.out; omega
    by_cases hlt : i < len1
    · have hlt2 : (i : Int) < (len1 : Int) := by omega
      obtain ⟨b, o, op, page, sa, sn, sc, ha, hbw, c0, c1, c2, cb⟩ := inv2_act WA.out I.out i hlt
      subst ha
      have CB := hide cb
      clear cb
      go_wp2_with fail
      refine CB.out.mono ?_
      rintro e w3 ⟨⟨v, rfl⟩, i3⟩
      have I3 := hide i3
      clear i3
      go_wp2_with fail
      go_roundg (len1 - (i + 1))
      case measure => omega
      case rel => exact ⟨i + 1, rfl, by omega, by omega, I3.out⟩
    have hlt2 : ¬ (i : Int) < (len1 : Int) := by omega
    obtain ⟨F1, G1, S, T, hP, hSl, hQ⟩ := I.out
    have HD := hide hP.dev
    have HSL := hide hSl
    have HQ : Hid (Since w.heap.size w wr F1) := ⟨hQ.1, hQ.2.1, fun k hk => hQ.2.2 k (by simp [hk])⟩
    clear hP hSl hQ I I0 hin hg hi80 hlt
    go_wp2_with fail
    refine (crash_at d F1 S none 0 0 0 [] rfl (by decide) wr (.inl rfl) (fun h => absurd rfl h) HD.out).mono ?_
    rintro e w3 ⟨rfl, F3, h3, m3⟩
    have H3 := hide h3
    have Q3 := hide (HQ.out.moves m3)
    have OFF : Hid ((S.crash []).off = true) := rfl
    have LEN : Hid ((S.crash []).cs.length = p) := by show (settle _ _).length = p; rw [settle_length]; exact HSL.out
    clear h3 m3
    generalize S.crash [] = S3 at H3 OFF LEN
    go_wp2_with fail
    refine (copy_at d F3 S3 w3 H3.out).mono ?_
    rintro e w4 ⟨rfl, F4, h4, f4, b4⟩
    obtain ⟨ob, hob⟩ : ∃ ob, ob = w3.heap.size := ⟨_, rfl⟩
    rw [← hob] at h4 ⊢
    have I4 : Hid (∃ F, Two w4 d ob F F4 S3 S3 ∧ Since w.heap.size w w4 (F ++ F4)) := ⟨F3, Two.made H3.out h4 f4 b4, since2 (Q3.out.below b4) (fun k hk => Nat.le_trans Q3.out.2.1 (f4 k hk))⟩
    clear h4 f4 b4 hob H3 Q3
    go_wp2_with fail
    go_loopg [12] len2 (fun kx s12 wr2 => ∃ i : Nat, s12 = .int .i64 i ∧ i ≤ len2 ∧ len2 - i ≤ kx ∧ Hid (∃ F, Two wr2 d ob F F4 S3 S3 ∧ Since w.heap.size w wr2 (F ++ F4)))
    case atStart => exact ⟨0, rfl, Nat.zero_le _, by omega, I4.out⟩
    case round =>
      obtain ⟨j, rfl, hjn, hgj, I⟩ := hrel
      have hj100 : j ≤ 100 := by have := HL2.out; omega
      by_cases hjl : j < len2
      · have hjl2 : (j : Int) < (len2 : Int) := by omega
        obtain ⟨F5, T5, Q5⟩ := I.out
        obtain ⟨b5, o5, op, page, sa, sn, sc, ha, hbw, c0, c1, c2, k12, k27, k13⟩ := off_act WB.out T5 Q5 OFF.out (by rw [LEN.out]; exact HP1.out) j hjl
        subst ha
        have K12 := hide (k12 wr rfl Q5.1)
        have K27 := hide (k27 wr rfl Q5.1)
        have K13 := hide (k13 wr rfl Q5.1)
        have hsn : ∀ (P : Prop), P → P := fun _ h => h
        clear k12 k27 k13 T5 Q5 hsn
        by_cases h3 : op < 3
        · have h3' : (op < 3) = True := eq_true h3
          by_cases e0 : op = 0
          · subst e0
            clear h3 h3'
            go_wp2_with fail
            refine K12.out.mono ?_
            rintro e w6 ⟨rfl, i6, d2, l6⟩
            have I6 := hide i6
            clear i6
            by_cases h38 : 384 < sn
            · rw [if_pos h38]
              have h38' : ((sn : Int) ≤ 384) = False := eq_false (by omega)
              clear h38
              go_wp2_with fail
              go_roundg (len2 - (j + 1))
              case measure => omega
              case rel => exact ⟨j + 1, rfl, by omega, by omega, I6.out⟩
            · rw [if_neg h38]
              clear h38
              go_wp2_with fail
              go_roundg (len2 - (j + 1))
              case measure => omega
              case rel => exact ⟨j + 1, rfl, by omega, by omega, I6.out⟩
          · by_cases e1 : op = 1
            · subst e1
              clear h3 h3' e0
              go_wp2_with fail
              refine K27.out.mono ?_
              rintro e w6 ⟨rfl, i6, d2, l6⟩
              have I6 := hide i6
              clear i6
              go_wp2_with fail
              go_roundg (len2 - (j + 1))
              case measure => omega
              case rel => exact ⟨j + 1, rfl, by omega, by omega, I6.out⟩
            · clear h3
              go_wp2_with fail
              refine K13.out.mono ?_
              rintro e w6 ⟨rfl, i6, d2, l6⟩
              have I6 := hide i6
              clear i6
              go_wp2_with fail
              go_roundg (len2 - (j + 1))
              case measure => omega
              case rel => exact ⟨j + 1, rfl, by omega, by omega, I6.out⟩
        · have h3' : (op < 3) = False := eq_false h3
          clear h3
          go_wp2_with fail
          go_roundg (len2 - (j + 1))
          case measure => omega
          case rel => exact ⟨j + 1, rfl, by omega, by omega, I.out⟩
      have hjl2 : ¬ (j : Int) < (len2 : Int) := by omega
      obtain ⟨F5, T5, Q5⟩ := I.out
      have cr := hide (read_at d F5 S3 0 wr T5.one)
      obtain ⟨rd1, rd2⟩ := off_read OFF.out (by rw [LEN.out]; exact HP1.out)
      rw [rd1, rd2] at cr
      have HT5 := hide T5
      have HQ5 := hide Q5
      clear T5 Q5 rd1 rd2 I I4 hjn hgj hj100 hjl
      go_wp2_with fail
      refine cr.out.mono ?_
      rintro e w6 ⟨v6, rfl, r6, h6, k6⟩
      obtain rfl := r6.nothing (by decide)
      have T6 := hide (HT5.out.step1 h6 (Moves.of_keep k6))
      have Q6 := hide (HQ5.out.keep ((k6.mono (fun k hk => .inl (by simp [hk])) : Keep (F5 ++ F4) _ _)))
      clear r6 h6 k6 HT5 HQ5 cr
      go_wp2_with fail
      refine (on_at d F5 S3 w6 T6.out.one).mono ?_
      rintro e w7 ⟨rfl, F7, h7, m7⟩
      have T7 := hide (T6.out.step1 h7 m7)
      have Q7 := hide (Q6.out.moves m7.left)
      clear h7 m7 T6 Q6
      go_wp2_with fail
      refine (on_at ob F4 S3 w7 T7.out.two).mono ?_
      rintro e w8 ⟨rfl, F8, h8, m8⟩
      have T8 := hide (T7.out.step2 h8 m8)
      have Q8 := hide (Q7.out.moves m8.right)
      have LEN8 : Hid (S3.on.cs.length = p) := by show (settle _ _).length = p; rw [settle_length]; exact LEN.out
      clear h8 m8 T7 Q7
      generalize S3.on = S8 at T8 LEN8
      go_wp2_with fail
      go_loopg [16] p (fun kx s16 wr2 => ∃ i : Nat, s16 = .int .i64 i ∧ i ≤ p ∧ p - i ≤ kx ∧ Hid (Two wr2 d ob F7 F8 (S8.readN i) (S8.readN i) ∧ Since w.heap.size w wr2 (F7 ++ F8)))
      case atStart => exact ⟨0, rfl, Nat.zero_le _, by omega, T8.out, Q8.out⟩
      case round =>
        obtain ⟨q, rfl, hqn, hgq, I⟩ := hrel
        have hq100 : q ≤ 20 := by have := HP2.out; omega
        by_cases hql : q < p
        · have hql2 : (q : Int) < (p : Int) := by omega
          go_wp2_with fail
          refine (read_at d F7 (S8.readN q) q wr I.out.1.one).mono ?_
          rintro e w9 ⟨v9, rfl, r9, h9, k9⟩
          obtain ⟨xa, xm, xc, rfl, cv9⟩ := read_str r9 (G := F8) I.out.1.two.lt
          have T9 := hide (I.out.1.step1 h9 (Moves.of_keep k9))
          have Q9 := hide (I.out.2.moves (Moves.of_keep k9).left)
          have CV9 := hide cv9
          clear r9 h9 k9 cv9
          go_wp2_with fail
          refine (read_at ob F8 (S8.readN q) q w9 T9.out.two).mono ?_
          rintro e w10 ⟨v10, rfl, r10, h10, k10⟩
          obtain ⟨ya, ym, yc, rfl, cv10⟩ := read_str r10 (G := []) (fun k hk => by cases hk)
          have T10 := hide (T9.out.step2 h10 (Moves.of_keep k10))
          have Q10 := hide (Q9.out.moves (Moves.of_keep k10).right)
          have e9 := CV9.out w10 k10
          have e10 := cv10 w10 (Keep.refl _ _)
          clear r10 h10 k10 cv10 CV9 T9 Q9
          generalize (S8.readN q).readText q = tx at e9 e10
          generalize (S8.readN q).readErr q = ex
          go_wp2_with fail
          go_roundg (p - (q + 1))
          case measure => omega
          case rel => exact ⟨q + 1, rfl, by omega, by omega, T10.out, Q10.out⟩
        have hql2 : ¬ (q : Int) < (p : Int) := by omega
        have cl := hide (fun W (h : W.heap = wr.heap) => losses_at d F7 (S8.readN q) W (I.out.1.one.same (fun _ _ => by rw [h])))
        have cw := hide (fun W (h : W.heap = wr.heap) => losses_at ob F8 (S8.readN q) W (I.out.1.two.same (fun _ _ => by rw [h])))
        generalize (S8.readN q).losses = lo at cl cw
        go_wp2_with fail
        refine (cl.out _ rfl).mono ?_
        rintro e wx ⟨rfl, hx⟩
        obtain rfl : wr = wx := hx.symm
        go_wp2_with fail
        refine (cw.out _ rfl).mono ?_
        rintro e wx ⟨rfl, hx⟩
        obtain rfl : wr = wx := hx.symm
        go_wp2
        go_ret
        exact ⟨rfl, I.out.2.1⟩
end Go.Proofs.Ythnfdgjikbjgoaa.flashOff
