/-
  A page that was flushed stays as it is, whatever comes, till it is written or erased again: for every input the call returns true; no condition.
-/
import Derived.WalkKit
import Derived.Below
import Derived.Test.YthnfdgjikbjgoaaLaws3
import Derived.Test.YthnfdgjikbjgoaaRefWait
namespace Go.Proofs.Ythnfdgjikbjgoaa.flashLasts
open Go.RowKit Go.Deep
set_option linter.unusedVariables false
set_option linter.unusedSimpArgs false

/-- Page k stands, flushed. -/
def Lasts (S : Dv) (p k : Nat) (l : List UInt8) : Prop := S.cs.length = p ∧ S.cs[k]? = some ⟨.whole ⟨l.toArray⟩, none⟩

theorem putAt_other (p : Pg) : ∀ (cs : List Cl) (i k : Nat), i ≠ k → (putAt cs i p)[k]? = cs[k]?
  | [], _, _, _ => rfl
  | c :: r, 0, 0, h => absurd rfl h
  | c :: r, 0, k + 1, _ => rfl
  | c :: r, i + 1, 0, _ => rfl
  | c :: r, i + 1, k + 1, h => by
    show (putAt r i p)[k]? = r[k]?
    exact putAt_other p r i k (by omega)
theorem settle_other : ∀ (cs : List Cl) (ps : List UInt8) (k : Nat) (c : Cl), cs[k]? = some c → c.last = none → (settle cs ps)[k]? = some c
  | [], _, _, _, h, _ => by simp at h
  | x :: r, ps, 0, c, h, hl => by
    simp only [List.getElem?_cons_zero, Option.some.injEq] at h
    subst h
    simp [settle, hl]
  | x :: r, ps, k + 1, c, h, hl => by
    simp only [List.getElem?_cons_succ] at h
    unfold settle
    split
    · simp only [List.getElem?_cons_succ]; exact settle_other r ps k c h hl
    · simp only [List.getElem?_cons_succ]; exact settle_other r ps.tail k c h hl
theorem lasts_put {S : Dv} {p k : Nat} {l : List UInt8} (h : Lasts S p k l) (a : Int) (g : Pg) (ha : a ≠ (k : Int)) : Lasts (S.putDo a g) p k l := by
  unfold Dv.putDo
  split
  · exact h
  · rename_i hh
    split
    · exact ⟨by rw [S.used_cs]; exact h.1, by rw [S.used_cs]; exact h.2⟩
    · refine ⟨by show (putAt _ _ _).length = p; rw [putAt_length]; exact h.1, ?_⟩
      have h0 : 0 ≤ a := by simp [Dv.has] at hh; omega
      show (putAt S.cs a.toNat g)[k]? = _
      rw [putAt_other _ _ _ _ (by omega)]
      exact h.2
theorem lasts_act {S : Dv} {p k : Nat} {l : List UInt8} (h : Lasts S p k l) (t : ActI) (ht : ¬ (t.op < 2 ∧ t.page = (k : Int))) : Lasts (S.act t) p k l := by
  refine ⟨by rw [act_len]; exact h.1, ?_⟩
  unfold Dv.act
  split
  · rename_i e
    unfold Dv.writeDo
    split
    · exact h.2
    · exact (lasts_put h _ _ (fun e2 => ht ⟨by omega, e2⟩)).2
  split
  · rename_i e
    exact (lasts_put h _ _ (fun e2 => ht ⟨by omega, e2⟩)).2
  split
  · unfold Dv.flushDo
    split
    · rw [S.used_cs]; exact h.2
    · show (List.map Cl.flush S.cs)[k]? = _
      rw [List.getElem?_map, h.2]; rfl
  split
  · exact h.2
  split
  · exact settle_other _ _ _ _ h.2 rfl
  · exact settle_other _ _ _ _ h.2 rfl

theorem lasts_written {S : Dv} {p k : Nat} (hl : S.cs.length = p) (hk : k < p) (l : List UInt8) (h384 : l.length ≤ 384) :
    S.on.writeErr (k : Int) ⟨l.toArray⟩ = 0 ∧ (S.on.writeDo (k : Int) ⟨l.toArray⟩).flushErr = 0 ∧ Lasts (S.on.writeDo (k : Int) ⟨l.toArray⟩).flushDo p k l := by
  have hs : (⟨l.toArray⟩ : ByteArray).size = l.length := by show l.toArray.size = _; simp
  have hlen : S.on.cs.length = p := by show (settle _ _).length = p; rw [settle_length]; exact hl
  have hh : S.on.has (k : Int) = true := by simp [Dv.has, hlen]; omega
  have hg : S.on.gone = false := by simp [Dv.gone, Dv.on]
  have hu : S.on.used = S.on := by unfold Dv.used; rw [if_pos (.inr rfl)]
  obtain ⟨A, c, B, hcs, hA⟩ := part_at S.on.cs k (by omega)
  have e1 : S.on.writeDo (k : Int) ⟨l.toArray⟩ = { S.on with cs := A ++ c.put (.whole ⟨l.toArray⟩) :: B, wr := wrap64 (S.on.wr + 1) } := by
    unfold Dv.writeDo Dv.putDo
    rw [if_neg (by omega), if_neg (by simp [hh]), if_neg (by simp [hg]), hu, Int.toNat_natCast, hcs, ← hA, putAt_part]
  have hlen2 : (A ++ c.put (.whole ⟨l.toArray⟩) :: B).length = p := by rw [← hlen, hcs]; simp
  refine ⟨?_, ?_, ?_⟩
  · unfold Dv.writeErr Dv.putErr
    rw [if_neg (by omega), if_neg (by simp [hh]), if_neg (by simp [hg])]
  · rw [e1]
    unfold Dv.flushErr
    rw [if_neg (by simp [Dv.gone, Dv.on])]
  · rw [e1]
    unfold Dv.flushDo
    rw [if_neg (by simp [Dv.gone, Dv.on])]
    refine ⟨by show (List.map _ _).length = p; rw [List.length_map]; exact hlen2, ?_⟩
    show (List.map Cl.flush (A ++ c.put (.whole ⟨l.toArray⟩) :: B))[k]? = _
    rw [List.getElem?_map, ← hA]
    simp [Cl.put, Cl.flush]

theorem lasts_read {S : Dv} {p k : Nat} {l : List UInt8} (h : Lasts S p k l) (hk : k < p) : (S.crash []).on.readErr (k : Int) = 0 ∧ (S.crash []).on.readText (k : Int) = full ⟨l.toArray⟩ := by
  have e : (S.crash []).on.cs[k]? = some ⟨.whole ⟨l.toArray⟩, none⟩ := settle_other _ _ _ _ (settle_other _ _ _ _ h.2 rfl) rfl
  have hlen : (S.crash []).on.cs.length = p := by show (settle (settle _ _) _).length = p; rw [settle_length, settle_length]; exact h.1
  have hh : (S.crash []).on.has (k : Int) = true := by simp [Dv.has, hlen]; omega
  have ho : (S.crash []).on.off = false := rfl
  constructor
  · unfold Dv.readErr
    rw [if_neg (by simp [hh]), if_neg (by simp [ho]), Int.toNat_natCast, e]; rfl
  · unfold Dv.readText
    rw [if_neg (by simp [hh]), if_neg (by simp [ho]), Int.toNat_natCast, e]; rfl

def Inv3 (w wr : World) (d r p k : Nat) (l : List UInt8) : Prop := ∃ F G S T, Pair wr d r F G S T ∧ Lasts S p k l ∧ Since w.heap.size w wr (F ++ G)

/-- One call of the second list. -/
theorem inv3_act {w wr : World} {d r p kk : Nat} {l : List UInt8} {a1 : Option Addr} {len1 : Nat} {z1 : List ActI} (WA : ActsAt w a1 len1 z1) (I : Inv3 w wr d r p kk l) (i : Nat) (hlt : i < len1) :
    ∃ (b o : Nat) (op page : Int) (sa : Option Addr) (sn sc : Nat), a1 = some ⟨b, o, none⟩ ∧ b < wr.heap.size ∧ wr.cell? ⟨b, o + i * 3, none⟩ = some (.int .i64 op) ∧ wr.cell? ⟨b, o + i * 3 + 1, none⟩ = some (.int .i64 page) ∧
      wr.cell? ⟨b, o + i * 3 + 2, none⟩ = some (.slice sa sn sc) ∧
      (¬ (op < 2 ∧ page = (kk : Int)) → ∀ W : World, W.heap = wr.heap → Below w.heap.size w W → Calls Try.prog 17 #[.pointer (some ⟨d, 0, none⟩), .pointer (some ⟨r, 0, none⟩), .agg #[.int .i64 op, .int .i64 page, .slice sa sn sc]] W fun e w' => (∃ v, e = .returned (.bool v)) ∧ Inv3 w w' d r p kk l) := by
  obtain ⟨F1, G1, S, T, hP, hSl, hQ⟩ := I
  obtain ⟨t, ht⟩ : ∃ t, z1[i]? = some t := ⟨_, List.getElem?_eq_getElem (by rw [WA.1]; exact hlt)⟩
  rcases WA.2 with h0 | ⟨b, o, ha, hb, hc⟩
  · rw [h0] at ht; simp at ht
  · have A0 := hc i t ht
    have A1 := A0.same (w' := wr) hQ.1.size (fun k hk => hQ.1.block k hk)
    refine ⟨b, o, t.op, t.page, t.a, t.l.length, t.cap, ha, Nat.lt_of_lt_of_le hb hQ.1.size, A1.c0, A1.c1, A1.c2, fun hno W hW hB => ?_⟩
    have A2 := A0.same (w' := W) hB.size (fun k hk => hB.block k hk)
    refine (both_any d r F1 G1 S T t W (pair_heap hP hW) A2.bytes A2.nil A2.small A2.page (bytes_apart A0 (fun k hk => hQ.2.2 k (by simp [hk]))) (bytes_apart A0 (fun k hk => hQ.2.2 k (by simp [hk])))).mono ?_
    rintro e w' ⟨rfl, F', G', p', m'⟩
    exact ⟨⟨_, rfl⟩, F', G', _, _, p', lasts_act hSl t hno, (show Since w.heap.size w W (F1 ++ G1) from ⟨hB, hB.size, hQ.2.2⟩).moves m'⟩
set_option maxRecDepth 4000 in
set_option maxHeartbeats 4000000 in
theorem walk (a0 : Int) (a1 : Option Addr) (len1 cap1 : Nat) (z1 : List ActI) (a2 : Int) (a3 : Option Addr) (len3 cap3 bb3 : Nat) (z3 : List UInt8) (a4 : Option Addr) (len4 cap4 : Nat) (z4 : List ActI) (w : World) (hw0 : (Lit.int .i64 a0).wf = true) (hw1 : ActsAt w a1 len1 z1) (hw2 : (Lit.int .i64 a2).wf = true) (hw3 : len3 = z3.length ∧ BSlice w a3 z3 bb3 ∧ (a3 = none → z3 = []) ∧ z3.length ≤ 140737488351232) (hw4 : ActsAt w a4 len4 z4) :
    Calls Try.prog 5 #[.int .i64 a0, .slice a1 len1 cap1, .int .i64 a2, .slice a3 len3 cap3, .slice a4 len4 cap4] w fun e w' => e = .returned (.bool true) ∧ Below w.heap.size w w' := by
  have HB3 := hide hw3
  clear hw3
  by_cases g0 : a0 < 1
  · have g0' : (a0 < 1) = True := eq_true g0
    clear g0
    go_enter Try.func5, Try.ntmps5
    go_wp2_with fail
    refine (awake_any _).mono ?_
    rintro e w0 ⟨rfl, b0⟩
    have B0 := hide b0
    clear b0
    go_wp2
    go_ret
    exact ⟨rfl, B0.out⟩
  have g0' : (a0 < 1) = False := eq_false g0
  by_cases g1 : (20 : Int) < a0
  · have g1' : ((20 : Int) < a0) = True := eq_true g1
    clear g1
    go_enter Try.func5, Try.ntmps5
    go_wp2_with fail
    refine (awake_any _).mono ?_
    rintro e w0 ⟨rfl, b0⟩
    have B0 := hide b0
    clear b0
    go_wp2
    go_ret
    exact ⟨rfl, B0.out⟩
  have g1' : ((20 : Int) < a0) = False := eq_false g1
  by_cases g2 : (30 : Int) < (len1 : Int)
  · have g2' : ((30 : Int) < (len1 : Int)) = True := eq_true g2
    clear g2
    go_enter Try.func5, Try.ntmps5
    go_wp2_with fail
    refine (awake_any _).mono ?_
    rintro e w0 ⟨rfl, b0⟩
    have B0 := hide b0
    clear b0
    go_wp2
    go_ret
    exact ⟨rfl, B0.out⟩
  have g2' : ((30 : Int) < (len1 : Int)) = False := eq_false g2
  by_cases g3 : (30 : Int) < (len4 : Int)
  · have g3' : ((30 : Int) < (len4 : Int)) = True := eq_true g3
    clear g3
    go_enter Try.func5, Try.ntmps5
    go_wp2_with fail
    refine (awake_any _).mono ?_
    rintro e w0 ⟨rfl, b0⟩
    have B0 := hide b0
    clear b0
    go_wp2
    go_ret
    exact ⟨rfl, B0.out⟩
  have g3' : ((30 : Int) < (len4 : Int)) = False := eq_false g3
  by_cases g4 : (384 : Int) < (len3 : Int)
  · have g4' : ((384 : Int) < (len3 : Int)) = True := eq_true g4
    clear g4
    go_enter Try.func5, Try.ntmps5
    go_wp2_with fail
    refine (awake_any _).mono ?_
    rintro e w0 ⟨rfl, b0⟩
    have B0 := hide b0
    clear b0
    go_wp2
    go_ret
    exact ⟨rfl, B0.out⟩
  have g4' : ((384 : Int) < (len3 : Int)) = False := eq_false g4
  by_cases g5 : a2 < 0
  · have g5' : (a2 < 0) = True := eq_true g5
    clear g5
    go_enter Try.func5, Try.ntmps5
    go_wp2_with fail
    refine (awake_any _).mono ?_
    rintro e w0 ⟨rfl, b0⟩
    have B0 := hide b0
    clear b0
    go_wp2
    go_ret
    exact ⟨rfl, B0.out⟩
  have g5' : (a2 < 0) = False := eq_false g5
  by_cases g6 : a0 ≤ a2
  · have g6' : (a0 ≤ a2) = True := eq_true g6
    clear g6
    go_enter Try.func5, Try.ntmps5
    go_wp2_with fail
    refine (awake_any _).mono ?_
    rintro e w0 ⟨rfl, b0⟩
    have B0 := hide b0
    clear b0
    go_wp2
    go_ret
    exact ⟨rfl, B0.out⟩
  have g6' : (a0 ≤ a2) = False := eq_false g6
  obtain ⟨p, rfl⟩ : ∃ p : Nat, a0 = (p : Int) := ⟨a0.toNat, by omega⟩
  have hp1 : 1 ≤ p := by omega
  have hp2 : p ≤ 4096 := by omega
  have HP1 := hide hp1
  have HP2 := hide (show p ≤ 20 by omega)
  have hl1 : len1 ≤ 100 := by omega
  have HL1 := hide hl1
  have WA := hide hw1
  obtain ⟨kk, rfl⟩ : ∃ k : Nat, a2 = (k : Int) := ⟨a2.toNat, by omega⟩
  have HK := hide (show kk < p by omega)
  have HL4 := hide (show len4 ≤ 100 by omega)
  have HL3 := hide (show len3 ≤ 384 by omega)
  have WB := hide hw4
  clear hw2 hw4
  clear g0 g1 g2 g3 g4 g5 g6 hp1 hp2 hl1 hw0 hw1
  go_enter Try.func5, Try.ntmps5
  go_wp2_with fail
  refine (awake_any _).mono ?_
  rintro e w0 ⟨rfl, b0⟩
  have B0 := hide b0
  clear b0
  have cn := hide (new_at p HP1.out (by have := HP2.out; omega) w0)
  go_wp2_with fail
  refine cn.out.mono ?_
  rintro e w1 ⟨d, F, rfl, h1, f1, b1⟩
  have Q1 : Hid (Since w.heap.size w w1 F) := ⟨B0.out.trans (b1.mono B0.out.size), Nat.le_trans B0.out.size b1.size, fun k hk => Nat.le_trans B0.out.size (f1 k hk)⟩
  have H1 := hide h1
  clear cn h1 f1 b1 B0
  go_wp2_with fail
  refine (rnew_at p (by have := HP2.out; omega) w1).mono ?_
  rintro e w2 ⟨r, G, rfl, h2, g2, b2⟩
  have I0 : Hid (Inv2 w w2 d r p) := ⟨F, G, _, _, ⟨H1.out.below b2, h2, fun k hk => ⟨h2.lt k hk, fun hf => by have := H1.out.lt k hf; have := g2 k hk; omega⟩⟩, by simp [Dv.fresh], since2 (Q1.out.below b2) (fun k hk => Nat.le_trans Q1.out.2.1 (g2 k hk))⟩
  clear h2 g2 b2 H1 Q1
  go_wp2_with fail
  go_loopg [14] len1 (fun kx s8 wr => ∃ i : Nat, s8 = .int .i64 i ∧ i ≤ len1 ∧ len1 - i ≤ kx ∧ Hid (Inv2 w wr d r p))
  case atStart => exact ⟨0, rfl, Nat.zero_le _, by omega, I0.out⟩
  case round =>
    obtain ⟨i, rfl, hin, hg, I⟩ := hrel
    have hi80 : i ≤ 100 := by have := HL1.out; omega
    by_cases hlt : i < len1
    · have hlt2 : (i : Int) < (len1 : Int) := by omega
      obtain ⟨b, o, op, page, sa, sn, sc, ha, hbw, c0, c1, c2, cb⟩ := inv2_act WA.out I.out i hlt
      subst ha
      have CB := hide cb
      clear cb
      go_wp2_with fail
      refine CB.out.mono ?_
      rintro e w3 ⟨⟨v, rfl⟩, i3⟩
      have I3 := hide i3
      clear i3
      go_wp2_with fail
      go_roundg (len1 - (i + 1))
      case measure => omega
      case rel => exact ⟨i + 1, rfl, by omega, by omega, I3.out⟩
    have hlt2 : ¬ (i : Int) < (len1 : Int) := by omega
    obtain ⟨F1, G1, S, T, hP, hSl, hQ⟩ := I.out
    have HP := hide hP
    have HSL := hide hSl
    have HQ := hide hQ
    clear hP hSl hQ I I0 hin hg hi80 hlt
    go_wp2_with fail
    refine (on_at d F1 S wr HP.out.dev).mono ?_
    rintro e w3 ⟨rfl, F3, h3, m3⟩
    have P3 := hide (HP.out.step1 h3 m3)
    have Q3 := hide (HQ.out.moves m3.left)
    clear h3 m3 HP HQ
    have W3 := hide (lasts_written HSL.out HK.out z3 (by rw [← HB3.out.1]; exact HL3.out))
    have apb : z3 ≠ [] → bb3 ∉ F3 := fun hl hk => by
      have := Q3.out.2.2 bb3 (by simp [hk])
      rcases HB3.out.2.1 with h0 | ⟨h0, _⟩
      · exact hl h0
      · omega
    have cw := hide (write_at d F3 S.on (kk : Int) a3 len3 cap3 bb3 z3 HB3.out.1 w3 (HB3.out.2.1.same Q3.out.1.size (fun h _ => Q3.out.1.block bb3 h)) HB3.out.2.2.1 apb P3.out.dev)
    rw [W3.out.1] at cw
    clear apb
    go_wp2_with fail
    refine cw.out.mono ?_
    rintro e w4 ⟨rfl, F4, h4, m4⟩
    have P4 := hide (P3.out.step1 h4 m4)
    have Q4 := hide (Q3.out.moves m4.left)
    have cf := hide (flush_at d F4 _ w4 h4)
    rw [W3.out.2.1] at cf
    clear h4 m4 P3 Q3 cw
    go_wp2_with fail
    refine cf.out.mono ?_
    rintro e w5 ⟨rfl, F5, h5, m5⟩
    have I5 : Hid (Inv3 w w5 d r p kk z3) := ⟨F5, G1, _, T, P4.out.step1 h5 m5, W3.out.2.2, Q4.out.moves m5.left⟩
    clear h5 m5 P4 Q4 cf W3 HSL
    go_wp2_with fail
    go_loopg [15] len4 (fun kx s15 wr2 => ∃ i : Nat, s15 = .int .i64 i ∧ i ≤ len4 ∧ len4 - i ≤ kx ∧ Hid (Inv3 w wr2 d r p kk z3))
    case atStart => exact ⟨0, rfl, Nat.zero_le _, by omega, I5.out⟩
    case round =>
      obtain ⟨j, rfl, hjn, hgj, I⟩ := hrel
      have hj100 : j ≤ 100 := by have := HL4.out; omega
      by_cases hjl : j < len4
      · have hjl2 : (j : Int) < (len4 : Int) := by omega
        obtain ⟨b5, o5, op, page, sa, sn, sc, ha, hbw, c0, c1, c2, k17⟩ := inv3_act WB.out I.out j hjl
        subst ha
        have K17 := hide k17
        have IB : Hid (Below w.heap.size w wr) := by obtain ⟨_, _, _, _, _, _, q⟩ := I.out; exact q.1
        clear k17
        by_cases h2 : op < 2
        · have h2' : (op < 2) = True := eq_true h2
          by_cases he : page = (kk : Int)
          · subst he
            clear h2
            go_wp2_with fail
            go_roundg (len4 - (j + 1))
            case measure => omega
            case rel => exact ⟨j + 1, rfl, by omega, by omega, I.out⟩
          · have KK := hide (K17.out (fun h => he h.2) wr rfl IB.out)
            clear h2
            go_wp2_with fail
            refine KK.out.mono ?_
            rintro e w6 ⟨⟨v, rfl⟩, i6⟩
            have I6 := hide i6
            clear i6
            go_wp2_with fail
            go_roundg (len4 - (j + 1))
            case measure => omega
            case rel => exact ⟨j + 1, rfl, by omega, by omega, I6.out⟩
        · have KK := hide (K17.out (fun h => h2 h.1) wr rfl IB.out)
          have h2' : (op < 2) = False := eq_false h2
          clear h2
          go_wp2_with fail
          refine KK.out.mono ?_
          rintro e w6 ⟨⟨v, rfl⟩, i6⟩
          have I6 := hide i6
          clear i6
          go_wp2_with fail
          go_roundg (len4 - (j + 1))
          case measure => omega
          case rel => exact ⟨j + 1, rfl, by omega, by omega, I6.out⟩
      have hjl2 : ¬ (j : Int) < (len4 : Int) := by omega
      obtain ⟨F6, G6, S6, T6, hP, hL, hQ⟩ := I.out
      have P6 := hide hP
      have L6 := hide hL
      have Q6 := hide hQ
      clear hP hL hQ I I5 hjn hgj hj100 hjl
      go_wp2_with fail
      refine (crash_at d F6 S6 none 0 0 0 [] rfl (by decide) wr (.inl rfl) (fun h => absurd rfl h) P6.out.dev).mono ?_
      rintro e w7 ⟨rfl, F7, h7, m7⟩
      have P7 := hide (P6.out.step1 h7 m7)
      have Q7 := hide (Q6.out.moves m7.left)
      clear h7 m7 P6 Q6
      go_wp2_with fail
      refine (on_at d F7 _ w7 P7.out.dev).mono ?_
      rintro e w8 ⟨rfl, F8, h8, m8⟩
      have P8 := hide (P7.out.step1 h8 m8)
      have Q8 := hide (Q7.out.moves m8.left)
      clear h8 m8 P7 Q7
      have cr := hide (read_at d F8 _ (kk : Int) w8 P8.out.dev)
      rw [(lasts_read L6.out HK.out).1, (lasts_read L6.out HK.out).2] at cr
      go_wp2_with fail
      refine cr.out.mono ?_
      rintro e w9 ⟨v9, rfl, r9, h9, k9⟩
      obtain ⟨_, b1, hb1, rfl, hbk⟩ := r9.page rfl
      have Q9 := hide (Q8.out.keep (k9.mono (fun k hk => .inl (by simp [hk])) : Keep (F8 ++ G6) _ _))
      have hfd : (full ⟨z3.toArray⟩).data.toList = z3 ++ List.replicate (384 - z3.length) 0 := by rw [full_data]; rfl
      rw [hfd] at hbk
      have hsplit : bCells (z3 ++ List.replicate (384 - z3.length) (0 : UInt8)) = bCells z3 ++ bCells (List.replicate (384 - z3.length) 0) := by simp [bCells]
      have hbl : BSlice w9 (some ⟨b1, 0, none⟩) z3 b1 := blk_slice (cap := 0) (by rw [← hsplit]; exact hbk)
      have hbs : BSlice w9 a3 z3 bb3 := HB3.out.2.1.same Q9.out.1.size (fun h _ => Q9.out.1.block bb3 h)
      obtain ⟨sl, hsl⟩ : ∃ sl : ByteArray, sl = ⟨z3.toArray⟩ := ⟨_, rfl⟩
      have cv1 : ∀ q, (convert 29 9 (.slice (some ⟨b1, 0, none⟩) len3 384)).run Try.prog (w9.drewN q) = .ok (.string sl) (w9.drewN q) := fun q => by
        rw [hsl, HB3.out.1]; exact str_any (w := w9.drewN q) hbl (fun h => by cases h) 384
      have cv2 : ∀ q, (convert 29 9 (.slice a3 len3 cap3)).run Try.prog (w9.drewN q) = .ok (.string sl) (w9.drewN q) := fun q => by
        rw [hsl, HB3.out.1]; exact str_any (w := w9.drewN q) hbs HB3.out.2.2.1 cap3
      have y6 : (len3 : Int) ≤ 384 := by have := HL3.out; omega
      have hb1w : b1 < w9.heap.size := hbk.lt
      clear r9 h9 k9 hb1 hbk hfd hsplit hbl hbs hsl cr P8 Q8
      go_wp2_with fail
      go_quiet (fail)
      go_wp2
      go_ret
      exact ⟨rfl, (since_heap (b := w9.drewN nq) Q9.out rfl rfl rfl rfl).1⟩
end Go.Proofs.Ythnfdgjikbjgoaa.flashLasts
