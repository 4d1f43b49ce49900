/-
  A copy goes its own way: for every number of pages and every two lists of calls the call returns true; no condition.
-/
import Derived.WalkKit
import Derived.Below
import Derived.Test.YthnfdgjikbjgoabRefCopy
namespace Go.Proofs.Ythnfdgjikbjgoab.flashCopies
open Go.RowKit Go.Deep
set_option linter.unusedVariables false
set_option linter.unusedSimpArgs false

theorem since2 {B : Nat} {w a : World} {F G : List Nat} (h : Since B w a F) (hG : ∀ k ∈ G, B ≤ k) : Since B w a (F ++ G) := ⟨h.1, h.2.1, fun k hk => by rcases List.mem_append.1 hk with h1 | h1; exact h.2.2 k h1; exact hG k h1⟩
theorem act_len (S : Dv) (t : ActI) : (S.act t).cs.length = S.cs.length := by
  have hput : ∀ (p : Int) (g : Pg), (S.putDo p g).cs.length = S.cs.length := fun p g => by
    unfold Dv.putDo
    split
    · rfl
    · split
      · rw [S.used_cs]
      · show (putAt _ _ _).length = _; rw [putAt_length]
  unfold Dv.act
  split
  · unfold Dv.writeDo
    split
    · rfl
    · exact hput _ _
  split
  · exact hput _ _
  split
  · unfold Dv.flushDo
    split
    · rw [S.used_cs]
    · show (List.map _ _).length = _; rw [List.length_map]
  split
  · rfl
  split
  · show (settle _ _).length = _; rw [settle_length]
  · show (settle _ _).length = _; rw [settle_length]
theorem readN_len (S : Dv) (k : Nat) : (S.readN k).cs = S.cs := by obtain ⟨x, hx⟩ := S.readN_rd k; rw [hx]

theorem own_nums0 {w1 : World} {B m : Nat} {v : Value} {xs : List Value} (h : w1.ownsRow B 3 1 v m xs) (hn : v ≠ .slice none 0 0) : ∃ g cp pad, v = .slice (some ⟨g, 0, none⟩) m cp ∧ B ≤ g ∧ Blk w1 g (xs ++ pad) 3 := by
  rcases h.2 with ⟨h0, _⟩ | ⟨g, cp, cur, hv, hB, hh, _, _, _, ht⟩
  · exact absurd h0 hn
  · refine ⟨g, cp, cur.toList.drop (m * 1), hv, hB, ?_⟩
    unfold Blk
    rw [← ht, List.take_append_drop, Array.toArray_toList]
    exact hh

theorem pair_heap {w w' : World} {d r : Nat} {F G : List Nat} {S T : Dv} (h : Pair w d r F G S T) (e : w'.heap = w.heap) : Pair w' d r F G S T :=
  ⟨h.dev.same (fun _ _ => by rw [e]), h.ref.same (fun _ _ => by rw [e]), fun k hk => by rw [e]; exact h.apart k hk⟩
theorem since_heap {B : Nat} {w a b : World} {F : List Nat} (h : Since B w a F) (e : b.heap = a.heap) (e1 : b.os = a.os) (e2 : b.tape = a.tape) (e3 : b.output = a.output) : Since B w b F :=
  ⟨⟨e1.trans h.1.os, e2.trans h.1.tape, e3.trans h.1.output, by rw [e]; exact h.1.size, fun k hk => by rw [e]; exact h.1.block k hk⟩, by rw [e]; exact h.2.1, h.2.2⟩

/-- What the calls so far have left. -/
def Inv2 (w wr : World) (d r p : Nat) : Prop := ∃ F G S, Pair wr d r F G S S ∧ S.cs.length = p ∧ Since w.heap.size w wr (F ++ G)

theorem bytes_apart {w : World} {t : ActI} {b o : Nat} (h : OneAct w b o t) {F : List Nat} (hF : ∀ k ∈ F, w.heap.size ≤ k) : t.l ≠ [] → t.bb ∉ F := fun hl hk => by
  have := hF _ hk
  rcases h.bytes with h0 | ⟨h0, _⟩
  · exact hl h0
  · omega

/-- One call of the list, wherever the two stand. -/
theorem inv2_act {w wr : World} {d r p : Nat} {a1 : Option Addr} {len1 : Nat} {z1 : List ActI} (WA : ActsAt w a1 len1 z1) (I : Inv2 w wr d r p) (i : Nat) (hlt : i < len1) :
    ∃ (b o : Nat) (op page : Int) (sa : Option Addr) (sn sc : Nat), a1 = some ⟨b, o, none⟩ ∧ b < wr.heap.size ∧ wr.cell? ⟨b, o + i * 3, none⟩ = some (.int .i64 op) ∧ wr.cell? ⟨b, o + i * 3 + 1, none⟩ = some (.int .i64 page) ∧
      wr.cell? ⟨b, o + i * 3 + 2, none⟩ = some (.slice sa sn sc) ∧
      Calls Try.prog 8 #[.pointer (some ⟨d, 0, none⟩), .pointer (some ⟨r, 0, none⟩), .agg #[.int .i64 op, .int .i64 page, .slice sa sn sc]] wr fun e w' => (∃ v, e = .returned (.bool v)) ∧ Inv2 w w' d r p := by
  obtain ⟨F1, G1, S, hP, hSl, hQ⟩ := I
  obtain ⟨t, ht⟩ : ∃ t, z1[i]? = some t := ⟨_, List.getElem?_eq_getElem (by rw [WA.1]; exact hlt)⟩
  rcases WA.2 with h0 | ⟨b, o, ha, hb, hc⟩
  · rw [h0] at ht; simp at ht
  · have A0 := hc i t ht
    have A1 := A0.same (w' := wr) hQ.1.size (fun k hk => hQ.1.block k hk)
    refine ⟨b, o, t.op, t.page, t.a, t.l.length, t.cap, ha, Nat.lt_of_lt_of_le hb hQ.1.size, A1.c0, A1.c1, A1.c2, ?_⟩
    refine (both_any d r F1 G1 S S t wr hP A1.bytes A1.nil A1.small A1.page (bytes_apart A0 (fun k hk => hQ.2.2 k (by simp [hk]))) (bytes_apart A0 (fun k hk => hQ.2.2 k (by simp [hk])))).mono ?_
    rintro e w' ⟨rfl, F', G', p', m'⟩
    exact ⟨⟨_, rfl⟩, F', G', _, p', by rw [act_len]; exact hSl, hQ.moves m'⟩


/-- Four devices: a pair that stays, a pair that goes on. -/
structure Four (w wr : World) (d r o v : Nat) (F G : List Nat) (S : Dv) : Prop where
  stay : Pair wr d r F G S S
  go : ∃ F2 G2 T, Pair wr o v F2 G2 T T ∧ Since w.heap.size w wr (F2 ++ G2) ∧ ∀ k ∈ F ++ G, k ∉ F2 ++ G2
  since : Since w.heap.size w wr (F ++ G)

theorem four_act {w wr : World} {d r o v : Nat} {F G : List Nat} {S : Dv} {a1 : Option Addr} {len1 : Nat} {z1 : List ActI} (WA : ActsAt w a1 len1 z1) (I : Four w wr d r o v F G S) (i : Nat) (hlt : i < len1) :
    ∃ (b ob : Nat) (op page : Int) (sa : Option Addr) (sn sc : Nat), a1 = some ⟨b, ob, none⟩ ∧ b < wr.heap.size ∧ wr.cell? ⟨b, ob + i * 3, none⟩ = some (.int .i64 op) ∧ wr.cell? ⟨b, ob + i * 3 + 1, none⟩ = some (.int .i64 page) ∧
      wr.cell? ⟨b, ob + i * 3 + 2, none⟩ = some (.slice sa sn sc) ∧
      Calls Try.prog 8 #[.pointer (some ⟨o, 0, none⟩), .pointer (some ⟨v, 0, none⟩), .agg #[.int .i64 op, .int .i64 page, .slice sa sn sc]] wr fun e w' => (∃ v, e = .returned (.bool v)) ∧ Four w w' d r o v F G S := by
  obtain ⟨F2, G2, T, hP, hQ, hA⟩ := I.go
  obtain ⟨t, ht⟩ : ∃ t, z1[i]? = some t := ⟨_, List.getElem?_eq_getElem (by rw [WA.1]; exact hlt)⟩
  rcases WA.2 with h0 | ⟨b, ob, ha, hb, hc⟩
  · rw [h0] at ht; simp at ht
  · have A0 := hc i t ht
    have A1 := A0.same (w' := wr) hQ.1.size (fun k hk => hQ.1.block k hk)
    refine ⟨b, ob, t.op, t.page, t.a, t.l.length, t.cap, ha, Nat.lt_of_lt_of_le hb hQ.1.size, A1.c0, A1.c1, A1.c2, ?_⟩
    refine (both_any o v F2 G2 T T t wr hP A1.bytes A1.nil A1.small A1.page (bytes_apart A0 (fun k hk => hQ.2.2 k (by simp [hk]))) (bytes_apart A0 (fun k hk => hQ.2.2 k (by simp [hk])))).mono ?_
    rintro e w' ⟨rfl, F', G', p', m'⟩
    have lt : ∀ k ∈ F ++ G, k < wr.heap.size := fun k hk => by rcases List.mem_append.1 hk with h | h; exact I.stay.dev.lt k h; exact I.stay.ref.lt k h
    have same : ∀ k ∈ F ++ G, w'.heap[k]? = wr.heap[k]? := fun k hk => m'.keep.block k (lt k hk) (hA k hk)
    refine ⟨⟨_, rfl⟩, ⟨I.stay.dev.same (fun k hk => same k (by simp [hk])), I.stay.ref.same (fun k hk => same k (by simp [hk])), fun k hk => ⟨Nat.lt_of_lt_of_le (I.stay.apart k hk).1 m'.keep.size, (I.stay.apart k hk).2⟩⟩, ⟨F', G', _, p', hQ.moves m', fun k hk hk2 => ?_⟩, ?_⟩
    · rcases m'.foot k hk2 with h1 | h1
      · exact hA k hk h1
      · exact absurd (lt k hk) (by omega)
    · have := hQ.moves m'
      exact ⟨this.1, this.2.1, I.since.2.2⟩
set_option maxRecDepth 4000 in
set_option maxHeartbeats 4000000 in
theorem walk (a0 : Int) (a1 : Option Addr) (len1 cap1 : Nat) (z1 : List ActI) (a2 : Option Addr) (len2 cap2 : Nat) (z2 : List ActI) (w : World) (hw0 : (Lit.int .i64 a0).wf = true) (hw1 : ActsAt w a1 len1 z1) (hw2 : ActsAt w a2 len2 z2) :
    Calls Try.prog 3 #[.int .i64 a0, .slice a1 len1 cap1, .slice a2 len2 cap2] w fun e w' => e = .returned (.bool true) ∧ Below w.heap.size w w' := by
  by_cases g0 : a0 < 1
  · have g0' : (a0 < 1) = True := eq_true g0
    clear g0
    go_enter Try.func3, Try.ntmps3
    go_wp2_with fail
    refine (awake_any _).mono ?_
    rintro e w0 ⟨rfl, b0⟩
    have B0 := hide b0
    clear b0
    go_wp2
    go_ret
    exact ⟨rfl, B0.out⟩
  have g0' : (a0 < 1) = False := eq_false g0
  by_cases g1 : (12 : Int) < a0
  · have g1' : ((12 : Int) < a0) = True := eq_true g1
    clear g1
    go_enter Try.func3, Try.ntmps3
    go_wp2_with fail
    refine (awake_any _).mono ?_
    rintro e w0 ⟨rfl, b0⟩
    have B0 := hide b0
    clear b0
    go_wp2
    go_ret
    exact ⟨rfl, B0.out⟩
  have g1' : ((12 : Int) < a0) = False := eq_false g1
  by_cases g2 : (30 : Int) < (len1 : Int)
  · have g2' : ((30 : Int) < (len1 : Int)) = True := eq_true g2
    clear g2
    go_enter Try.func3, Try.ntmps3
    go_wp2_with fail
    refine (awake_any _).mono ?_
    rintro e w0 ⟨rfl, b0⟩
    have B0 := hide b0
    clear b0
    go_wp2
    go_ret
    exact ⟨rfl, B0.out⟩
  have g2' : ((30 : Int) < (len1 : Int)) = False := eq_false g2
  by_cases g3 : (30 : Int) < (len2 : Int)
  · have g3' : ((30 : Int) < (len2 : Int)) = True := eq_true g3
    clear g3
    go_enter Try.func3, Try.ntmps3
    go_wp2_with fail
    refine (awake_any _).mono ?_
    rintro e w0 ⟨rfl, b0⟩
    have B0 := hide b0
    clear b0
    go_wp2
    go_ret
    exact ⟨rfl, B0.out⟩
  have g3' : ((30 : Int) < (len2 : Int)) = False := eq_false g3
  obtain ⟨p, rfl⟩ : ∃ p : Nat, a0 = (p : Int) := ⟨a0.toNat, by omega⟩
  have hp1 : 1 ≤ p := by omega
  have hp2 : p ≤ 4096 := by omega
  have HP1 := hide hp1
  have HP2 := hide (show p ≤ 20 by omega)
  have hl1 : len1 ≤ 100 := by omega
  have HL1 := hide hl1
  have WA := hide hw1
  have HL2 := hide (show len2 ≤ 100 by omega)
  have WB := hide hw2
  clear hw2
  clear g0 g1 g2 g3 hp1 hp2 hl1 hw0 hw1
  go_enter Try.func3, Try.ntmps3
  go_wp2_with fail
  refine (awake_any _).mono ?_
  rintro e w0 ⟨rfl, b0⟩
  have B0 := hide b0
  clear b0
  have cn := hide (new_at p HP1.out (by have := HP2.out; omega) w0)
  go_wp2_with fail
  refine cn.out.mono ?_
  rintro e w1 ⟨d, F, rfl, h1, f1, b1⟩
  have Q1 : Hid (Since w.heap.size w w1 F) := ⟨B0.out.trans (b1.mono B0.out.size), Nat.le_trans B0.out.size b1.size, fun k hk => Nat.le_trans B0.out.size (f1 k hk)⟩
  have H1 := hide h1
  clear cn h1 f1 b1 B0
  go_wp2_with fail
  refine (rnew_at p (by have := HP2.out; omega) w1).mono ?_
  rintro e w2 ⟨r, G, rfl, h2, g2, b2⟩
  have I0 : Hid (Inv2 w w2 d r p) := ⟨F, G, _, ⟨H1.out.below b2, h2, fun k hk => ⟨h2.lt k hk, fun hf => by have := H1.out.lt k hf; have := g2 k hk; omega⟩⟩, by simp [Dv.fresh], since2 (Q1.out.below b2) (fun k hk => Nat.le_trans Q1.out.2.1 (g2 k hk))⟩
  clear h2 g2 b2 H1 Q1
  go_wp2_with fail
  go_loopg [10] len1 (fun kx s8 wr => ∃ i : Nat, s8 = .int .i64 i ∧ i ≤ len1 ∧ len1 - i ≤ kx ∧ Hid (Inv2 w wr d r p))
  case atStart => exact ⟨0, rfl, Nat.zero_le _, by omega, I0.out⟩
  case round =>
    obtain ⟨i, rfl, hin, hg, I⟩ := hrel
    have hi80 : i ≤ 100 := by have := HL1.out; omega
    by_cases hlt : i < len1
    · have hlt2 : (i : Int) < (len1 : Int) := by omega
      obtain ⟨b, o, op, page, sa, sn, sc, ha, hbw, c0, c1, c2, cb⟩ := inv2_act WA.out I.out i hlt
      subst ha
      have CB := hide cb
      clear cb
      go_wp2_with fail
      refine CB.out.mono ?_
      rintro e w3 ⟨⟨v, rfl⟩, i3⟩
      have I3 := hide i3
      clear i3
      go_wp2_with fail
      go_roundg (len1 - (i + 1))
      case measure => omega
      case rel => exact ⟨i + 1, rfl, by omega, by omega, I3.out⟩
    have hlt2 : ¬ (i : Int) < (len1 : Int) := by omega
    obtain ⟨F1, G1, S, hP, hSl, hQ⟩ := I.out
    have HP := hide hP
    have HSL := hide hSl
    have HQ := hide hQ
    clear hP hSl hQ I I0 hin hg hi80 hlt
    go_wp2_with fail
    refine (copy_at d F1 S wr HP.out.dev).mono ?_
    rintro e w3 ⟨rfl, F3, h3, f3, b3⟩
    obtain ⟨ob, hob⟩ : ∃ ob, ob = wr.heap.size := ⟨_, rfl⟩
    rw [← hob] at h3 ⊢
    have P3 := hide (HP.out.below b3)
    have Q3 := hide (HQ.out.below b3)
    have H3 := hide h3
    have FF3 := hide f3
    have LT : Hid (∀ k ∈ F1 ++ G1, k < wr.heap.size) := fun k hk => by rcases List.mem_append.1 hk with h | h; exact HP.out.dev.lt k h; exact HP.out.ref.lt k h
    have SZ : Hid (wr.heap.size ≤ w3.heap.size) := b3.size
    clear h3 f3 b3 hob
    go_wp2_with fail
    refine (rcopy_at r G1 S w3 P3.out.ref).mono ?_
    rintro e w4 ⟨v, G4, rfl, h4, g4, b4⟩
    have I4 : Hid (Four w w4 d r ob v F1 G1 S) := by
      refine ⟨P3.out.below b4, ⟨F3, G4, S, ⟨H3.out.below b4, h4, fun k hk => ⟨h4.lt k hk, fun hf => by have := H3.out.lt k hf; have := g4 k hk; omega⟩⟩, ?_, fun k hk hk2 => ?_⟩, Q3.out.below b4⟩
      · have q := Q3.out.below b4
        refine ⟨q.1, q.2.1, fun k hk => ?_⟩
        rcases List.mem_append.1 hk with h | h
        · exact Nat.le_trans HQ.out.2.1 (FF3.out k h)
        · exact Nat.le_trans Q3.out.2.1 (g4 k h)
      · have := LT.out k hk
        rcases List.mem_append.1 hk2 with h | h
        · have := FF3.out k h; omega
        · have := g4 k h; have := SZ.out; omega
    clear h4 g4 b4 P3 Q3 H3 FF3 LT SZ HP HQ
    go_wp2_with fail
    go_loopg [13] len2 (fun kx s13 wr2 => ∃ i : Nat, s13 = .int .i64 i ∧ i ≤ len2 ∧ len2 - i ≤ kx ∧ Hid (Four w wr2 d r ob v F1 G1 S))
    case atStart => exact ⟨0, rfl, Nat.zero_le _, by omega, I4.out⟩
    case round =>
      obtain ⟨j, rfl, hjn, hgj, I⟩ := hrel
      have hj100 : j ≤ 100 := by have := HL2.out; omega
      by_cases hjl : j < len2
      · have hjl2 : (j : Int) < (len2 : Int) := by omega
        obtain ⟨b5, o5, op, page, sa, sn, sc, ha, hbw, c0, c1, c2, k8⟩ := four_act WB.out I.out j hjl
        subst ha
        have K8 := hide k8
        clear k8
        go_wp2_with fail
        refine K8.out.mono ?_
        rintro e w6 ⟨⟨vv, rfl⟩, i6⟩
        have I6 := hide i6
        clear i6
        go_wp2_with fail
        go_roundg (len2 - (j + 1))
        case measure => omega
        case rel => exact ⟨j + 1, rfl, by omega, by omega, I6.out⟩
      have hjl2 : ¬ (j : Int) < (len2 : Int) := by omega
      obtain ⟨F2, G2, T, hP2, hQ2, hA2⟩ := I.out.go
      have ST := hide I.out.stay
      have SI := hide I.out.since
      have GP := hide hP2
      have GQ := hide hQ2
      have GA := hide hA2
      clear hP2 hQ2 hA2 I I4 hjn hgj hj100 hjl
      go_wp2_with fail
      refine (alike_at d r F1 G1 S wr ST.out).mono ?_
      rintro e w7 ⟨rfl, _, m7⟩
      have lt2 : ∀ k ∈ F2 ++ G2, k < wr.heap.size := fun k hk => by rcases List.mem_append.1 hk with h | h; exact GP.out.dev.lt k h; exact GP.out.ref.lt k h
      have same : ∀ k ∈ F2 ++ G2, w7.heap[k]? = wr.heap[k]? := fun k hk => m7.keep.block k (lt2 k hk) (fun h => GA.out k h hk)
      have P7 : Hid (Pair w7 ob v F2 G2 T T) := ⟨GP.out.dev.same (fun k hk => same k (by simp [hk])), GP.out.ref.same (fun k hk => same k (by simp [hk])), fun k hk => ⟨Nat.lt_of_lt_of_le (GP.out.apart k hk).1 m7.keep.size, (GP.out.apart k hk).2⟩⟩
      have Q7 := hide (SI.out.moves m7)
      have Q7b : Hid (Since w.heap.size w w7 (F2 ++ G2)) := ⟨Q7.out.1, Q7.out.2.1, GQ.out.2.2⟩
      clear m7 lt2 same ST SI GP GQ GA Q7
      go_wp2_with fail
      refine (alike_at ob v F2 G2 T w7 P7.out).mono ?_
      rintro e w8 ⟨rfl, _, m8⟩
      have Q8 := hide (Q7b.out.moves m8)
      clear m8
      go_wp2
      go_ret
      exact ⟨rfl, Q8.out.1⟩
end Go.Proofs.Ythnfdgjikbjgoab.flashCopies
