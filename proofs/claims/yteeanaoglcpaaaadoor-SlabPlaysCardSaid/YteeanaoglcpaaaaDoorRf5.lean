/- The document's own slab in memory: Take, walked. -/
import Derived.Test.YteeanaoglcpaaaaDoorRf4
set_option linter.unusedVariables false
set_option linter.unusedSimpArgs false
set_option maxRecDepth 8000
namespace Go.Proofs.YteeanaoglcpaaaaDoor
open Go.RowKit Go.Deep Go.Shelf Math

theorem pgs_at {l : List Rp} {j : Nat} (hj : j < (pgs l).length) : ∃ x, l[j]? = some x ∧ (pgs l)[j] = x.p := by
  rw [pgs_len] at hj
  exact ⟨l[j], List.getElem?_eq_getElem hj, by simp [pgs]⟩
theorem find_pgs {l : List Rp} {g : Pg → Bool} {a : Nat} {x : Rp} (hx : l[a]? = some x) (h : g x.p = true) (hb : ∀ j y, j < a → l[j]? = some y → g y.p = false) : (pgs l).findIdx? g = some a := by
  have hl := (List.getElem?_eq_some_iff.1 hx).1
  refine find_at (by rw [pgs_len]; exact hl) ?_ ?_
  · obtain ⟨y, hy, e⟩ := pgs_at (l := l) (j := a) (by rw [pgs_len]; exact hl)
    rw [hx] at hy
    obtain rfl := Option.some.inj hy
    rw [e]; exact h
  · intro j hj hja
    obtain ⟨y, hy, e⟩ := pgs_at hj
    rw [e]; exact hb j y hja hy
theorem none_pgs {l : List Rp} {g : Pg → Bool} (hb : ∀ j y, j < l.length → l[j]? = some y → g y.p = false) : (pgs l).findIdx? g = none := by
  refine find_no (fun j hj => ?_)
  obtain ⟨y, hy, e⟩ := pgs_at hj
  rw [e]; exact hb j y (by rw [pgs_len] at hj; exact hj) hy
/-- A chunk of the class's own page is taken. -/
theorem own_post {w : World} {B r a b ca cb : Nat} {l : List Rp} (h : RfIn w B r a b ca cb l) {cl : Nat} (hcl : cl < 6) {p j : Nat} {x : Rp} (hx : l[p]? = some x) (hc : x.p.c = (cl : Int)) (hj : j < many cl) (hb : x.p.t.testBit j = false) (hbl : ∀ i, i < j → x.p.t.testBit i = true) (hno : ∀ i y, i < p → l[i]? = some y → owns cl y.p = false) :
    TakeP cl B r a b ca cb l w (.returned (.int .i64 ((64 * p + j : Nat) : Int))) (w.setCell ⟨x.g, j, none⟩ (.bool true)) := by
  have hm6 := many_le cl
  have hlz : lz 64 x.p.t = j := lz_unique (by omega) hb hbl
  have ho : owns cl x.p = true := by unfold owns; rw [decide_eq_true hc, hlz, decide_eq_true hj]; rfl
  have hpf : pfor cl (pgs l) = some p := by unfold pfor; rw [find_pgs hx ho hno]; rfl
  obtain ⟨e1, e2, e3⟩ := tk_some hpf (pgs_get hx)
  obtain ⟨p', hp', _, _, _, _, hok⟩ := pfor_ok hcl h.ok hpf
  rw [pgs_get hx] at hp'
  obtain rfl := Option.some.inj hp'
  have hcn : x.p.c ≠ -1 := by omega
  have hbx := h.bit x (List.mem_of_getElem? hx) hcn
  rw [hlz] at e1 hok
  unfold tkn at e3
  rw [← hc] at hok
  refine ⟨by unfold tkR; rw [if_pos e2, e1], l.set p ⟨⟨x.p.c, x.p.t + 2 ^ j⟩, x.g⟩, [x.g], h.turn hx hcn true _ (blV_up hb) hok, ?_, (Keep.refl _ _).setCell (p := ⟨x.g, j, none⟩) (.inl (by simp)) _, fun q hq => ?_⟩
  · rw [pgs_set, e3, hlz, hc]
  · simp at hq; subst hq; exact ⟨hbx.2, .inr (.inr ⟨_, hbx.1⟩)⟩
/-- A page is handed to the class. -/
theorem new_post {w : World} {B r a b ca cb : Nat} {l : List Rp} (h : RfIn w B r a b ca cb l) {cl : Nat} (hcl : cl < 6) {p : Nat} {x : Rp} (hx : l[p]? = some x) (hz : x.p.t = 0) (hpf : pfor cl (pgs l) = some p) :
    ∀ W5, RfIn W5 B r a b ca cb (l.set p ⟨⟨(cl : Int), 1⟩, w.heap.size⟩) → Keep [a, b] w W5 → TakeP cl B r a b ca cb l w (.returned (.int .i64 ((64 * p : Nat) : Int))) W5 := by
  intro W5 hR hK
  obtain ⟨e1, e2, e3⟩ := tk_some hpf (pgs_get hx)
  rw [hz, lz_zero 64 (by omega)] at e1
  unfold tkn at e3
  rw [hz, lz_zero 64 (by omega)] at e3
  refine ⟨by unfold tkR; rw [if_pos e2, e1]; rfl, _, [a, b], hR, by rw [pgs_set, e3], hK, fun q hq => ?_⟩
  simp at hq
  rcases hq with rfl | rfl
  · exact ⟨h.la, .inl rfl⟩
  · exact ⟨h.lb, .inr (.inl rfl)⟩
theorem full_post {w : World} {B r a b ca cb : Nat} {l : List Rp} (h : RfIn w B r a b ca cb l) {cl : Nat} (hpf : pfor cl (pgs l) = none) : TakeP cl B r a b ca cb l w (.returned (.int .i64 (-1))) w := by
  obtain ⟨e1, e2, e3⟩ := tk_none hpf
  exact ⟨by unfold tkR; rw [if_neg (by rw [e2]; decide)], l, [], h, e3.symm, Keep.refl _ _, fun q hq => by simp at hq⟩
theorem pfor_bare {l : List Pg} {cl p : Nat} (h1 : l.findIdx? (owns cl) = none) (h2 : l.findIdx? bare = some p) : pfor cl l = some p := by unfold pfor; rw [h1, h2]; rfl
theorem pfor_free {l : List Pg} {cl : Nat} {o : Option Nat} (h1 : l.findIdx? (owns cl) = none) (h2 : l.findIdx? bare = none) (h3 : l.findIdx? free = o) : pfor cl l = o := by unfold pfor; rw [h1, h2, h3]; rfl
set_option maxHeartbeats 8000000 in
theorem takeR (B r a b ca cb : Nat) (l : List Rp) (cl : Nat) (hcl : cl < 6) (w : World) (h : RfIn w B r a b ca cb l) :
    Calls Tryd.prog 18 #[.pointer (some ⟨r, 0, none⟩), .int .i64 (cl : Int)] w fun e w' => TakeP cl B r a b ca cb l w e w' := by
  have k0 := h.c0
  have k1 := h.c1
  have H := hide h
  have hca := h.hca
  have hcb := h.hcb
  have hn9 := h.n9
  obtain ⟨n, hn⟩ : ∃ n, n = l.length := ⟨_, rfl⟩
  rw [← hn] at k0 k1 hca hcb hn9
  have HN := hide hn
  have HF : Hid (∀ i, w.frozen? ⟨a, i, none⟩ = false) := fun i => by obtain ⟨_, q⟩ := h.of; exact q.frozen i
  obtain ⟨M, hM⟩ : ∃ M, M = many cl := ⟨_, rfl⟩
  have hM6 : M ≤ 64 := by rw [hM]; exact many_le cl
  have HM := hide hM
  clear h hn hM
  go_enter Tryd.func18, Tryd.ntmps18
  go_wp2
  go_loop [5] (fun s5 => ∃ p : Nat, s5 = .int .i64 p ∧ p ≤ n ∧ Hid (∀ i y, i < p → l[i]? = some y → owns cl y.p = false)) (fun s5 => n - (intOf s5).toNat)
  case atStart => exact ⟨0, rfl, Nat.zero_le _, fun i y hi => absurd hi (by omega)⟩
  case round =>
    obtain ⟨p, rfl, hpn, I⟩ := hrel
    by_cases hlt : p < n
    · have hlt2 : (p : Int) < (n : Int) := by omega
      obtain ⟨x, hx⟩ : ∃ x, l[p]? = some x := ⟨_, List.getElem?_eq_getElem (by rw [← HN.out]; exact hlt)⟩
      have q0 := H.out.ofc hx
      have q1 := H.out.tkc hx
      have HX := hide hx
      clear hx
      by_cases hc : x.p.c = (cl : Int)
      · have hcn : x.p.c ≠ -1 := by omega
        have hm : x.m = M := by unfold Rp.m; rw [hc, HM.out]; rfl
        unfold rpV at q1
        rw [if_neg hcn, hm] at q1
        rw [hc] at q0
        have HB : Hid (∀ j, j < M → w.cell? ⟨x.g, j, none⟩ = some (.bool (x.p.t.testBit j)) ∧ w.frozen? ⟨x.g, j, none⟩ = false) := fun j hj => by
          have hb := (H.out.bit x (List.mem_of_getElem? HX.out) hcn).1
          exact ⟨hb.cell (blV_get (by rw [hm]; exact hj)), hb.frozen j⟩
        have HC := hide hc
        clear hc hcn hm
        go_wp2
        go_loop [6] (fun s6 => ∃ j : Nat, s6 = .int .i64 j ∧ j ≤ M ∧ Hid (∀ i, i < j → x.p.t.testBit i = true)) (fun s6 => M - (intOf s6).toNat)
        case atStart => exact ⟨0, rfl, Nat.zero_le _, fun i hi => absurd hi (by omega)⟩
        case round =>
          obtain ⟨j, rfl, hjM, J⟩ := hrel
          by_cases hj : j < M
          · have hj2 : (j : Int) < (M : Int) := by omega
            obtain ⟨k3, k4⟩ := HB.out j hj
            cases hbt : x.p.t.testBit j with
            | false =>
              rw [hbt] at k3
              have FIN := hide (own_post H.out hcl HX.out HC.out (by rw [← HM.out]; exact hj) hbt J.out I.out)
              clear hbt
              go_wp2
              go_ret
              exact FIN.out
            | true =>
              rw [hbt] at k3
              have J2 : Hid (∀ i, i < j + 1 → x.p.t.testBit i = true) := fun i hi => by
                rcases Nat.lt_or_ge i j with h1 | h1
                · exact J.out i h1
                · obtain rfl : i = j := by omega
                  exact hbt
              clear hbt
              go_wp2
              go_round
              case rel => exact ⟨j + 1, by go_num, by omega, J2.out⟩
              case measure => simp [intOf]; omega
          · obtain rfl : j = M := by omega
            have hj2 : ¬ (j : Int) < (j : Int) := by omega
            have I2 : Hid (∀ i y, i < p + 1 → l[i]? = some y → owns cl y.p = false) := fun i y hi hy => by
              rcases Nat.lt_or_ge i p with h1 | h1
              · exact I.out i y h1 hy
              · obtain rfl : i = p := by omega
                rw [HX.out] at hy
                obtain rfl := Option.some.inj hy
                unfold owns
                have : ¬ lz 64 x.p.t < many cl := fun hl => by
                  have h2 := lz_bit (Nat.lt_of_lt_of_le hl (many_le cl))
                  rw [J.out _ (by rw [HM.out]; exact hl)] at h2
                  cases h2
                rw [decide_eq_false this, Bool.and_false]
            go_wp2
            go_round
            case rel => exact ⟨p + 1, by go_num, by omega, I2.out⟩
            case measure => simp [intOf]; omega
      · have hc2 : (x.p.c == (cl : Int)) = false := by simp [hc]
        have I2 : Hid (∀ i y, i < p + 1 → l[i]? = some y → owns cl y.p = false) := fun i y hi hy => by
          rcases Nat.lt_or_ge i p with h1 | h1
          · exact I.out i y h1 hy
          · obtain rfl : i = p := by omega
            rw [HX.out] at hy
            obtain rfl := Option.some.inj hy
            unfold owns
            rw [decide_eq_false hc, Bool.false_and]
        clear hc q1
        generalize x.p.c = pc at *
        go_wp2
        go_loop [6] (fun s6 => s6 = .int .i64 0) (fun _ => 0)
        case atStart => rfl
        case round =>
          obtain rfl := hrel
          go_wp2
          go_round
          case rel => exact ⟨p + 1, by go_num, by omega, I2.out⟩
          case measure => simp [intOf]; omega
    · obtain rfl : n = p := by omega
      have hlt2 : ¬ (n : Int) < (n : Int) := by omega
      have N1 : Hid ((pgs l).findIdx? (owns cl) = none) := none_pgs (fun i y hi hy => I.out i y (by rw [HN.out]; exact hi) hy)
      clear I hlt hpn
      go_wp2
      go_loop [7] (fun s7 => ∃ tn : Nat, s7 = .int .i64 tn ∧ tn ≤ 2 ∧ Hid ((1 ≤ tn → (pgs l).findIdx? bare = none) ∧ (2 ≤ tn → (pgs l).findIdx? free = none))) (fun s7 => 2 - (intOf s7).toNat)
      case atStart => exact ⟨0, rfl, by omega, fun h => absurd h (by omega), fun h => absurd h (by omega)⟩
      case round =>
        obtain ⟨tn, rfl, htn, J⟩ := hrel
        rcases (show tn = 0 ∨ tn = 1 ∨ tn = 2 by omega) with rfl | rfl | rfl
        · go_wp2
          go_loop [8] (fun s8 => ∃ p : Nat, s8 = .int .i64 p ∧ p ≤ n ∧ Hid (∀ i y, i < p → l[i]? = some y → bare y.p = false)) (fun s8 => n - (intOf s8).toNat)
          case atStart => exact ⟨0, rfl, Nat.zero_le _, fun i y hi => absurd hi (by omega)⟩
          case round =>
            obtain ⟨p, rfl, hpn, I⟩ := hrel
            by_cases hlt : p < n
            · have hl3 : (p : Int) < (n : Int) := by omega
              obtain ⟨x, hx⟩ : ∃ x, l[p]? = some x := ⟨_, List.getElem?_eq_getElem (by rw [← HN.out]; exact hlt)⟩
              have q0 := H.out.ofc hx
              have q1 := HF.out p
              by_cases hc : x.p.c = -1
              · have hbr : bare x.p = true := by unfold bare; rw [decide_eq_true hc]
                have hz : x.p.t = 0 := by
                  rcases H.out.ok' hx with ⟨_, h2⟩ | ⟨c, _, h2, _⟩
                  · exact h2
                  · omega
                have FR := And.intro True.intro (new_post H.out hcl hx hz (pfor_bare N1.out (find_pgs hx hbr I.out)))
                have h := H.out
                have hn := HN.out
                have hM := HM.out
                rw [hc] at q0
                clear hbr hc
                obtain ⟨hpa, hfr⟩ := FR
                have A0 := hide (h.fresh hx hcl hz)
                obtain ⟨W1, W2, W3, W4, W5, e1, e2, e3, e4, e5, g1, g2, g3, g4, g5, g6, g7, g8, g9, gF, gK⟩ := A0.out
                have FIN : Hid (TakeP cl B r a b ca cb l w (.returned (.int .i64 ((64 * p : Nat) : Int))) W5) := hfr W5 gF gK
                have HD0 : Hid (Chain3 W2 W3 W4 0 { W1 with drawn := W1.drawn + 1 }) := e2.symm
                have HD1 : Hid (Chain3 W2 W3 W4 1 W3) := rfl
                have HD2 : Hid (Chain3 W2 W3 W4 2 W4) := rfl
                have HL3 : Hid (∀ sx X, Chain3 W2 W3 W4 sx X → sx ≤ 1 → X.cell? ⟨r, 1, none⟩ = some (.slice (some ⟨b, 0, none⟩) n cb)) := fun sx X hX hs => by
                  rcases (show sx = 0 ∨ sx = 1 by omega) with rfl | rfl
                  · have : X = W2 := hX
                    subst this
                    rw [hn]; exact g1
                  · have : X = W3 := hX
                    subst this
                    rw [hn]; exact g2
                have HMK : Hid ((Instr.makeSlice 53 (.int .i64 (M : Int)) (.int .i64 (M : Int))).run Tryd.prog W2 = .ok (.slice (some ⟨w.heap.size, 0, none⟩) M M) W3) := by rw [hM]; exact g3
                have HSH : Hid (∀ X, (binOp .shr 3 (.int .i64 64) (.int .u64 (cl : Int))).run Tryd.prog X = .ok (.int .i64 (M : Int)) X) := fun X => by rw [hM]; exact run_shru cl hcl X
                have HB3 := hide (And.intro g4 g5)
                have HW4E : Hid (W3.setCell ⟨b, p, none⟩ (.slice (some ⟨w.heap.size, 0, none⟩) M M) = W4) := by rw [hM]; exact e4.symm
                have HW5E : Hid (W4.setCell ⟨w.heap.size, 0, none⟩ (.bool true) = W5) := e5.symm
                rw [← hn] at g6
                rw [← hM] at g7
                have HW1E : Hid (w.setCell ⟨a, p, none⟩ (.int .i64 (cl : Int)) = W1) := e1.symm
                have hM0 : 0 < M := by rw [hM]; have := many_pos cl hcl; omega
                clear e1 e2 e3 e4 e5 g1 g2 g3 g4 g5 gF gK A0 hfr hpa hn hM h
                go_wp2_with fail
                rw [HW1E.out]
                refine wp_region_chain (by kernel_rfl) (by kernel_rfl) (fun jx => ([.pointer (some ⟨r, 0, none⟩), .pointer (some ⟨r, 0, none⟩), .pointer (some ⟨r, 1, none⟩), .slice (some ⟨b, 0, none⟩) n cb, .int .i64 (p : Int), .int .i64 (cl : Int), .int .u64 (cl : Int), .int .i64 (M : Int), .slice (some ⟨w.heap.size, 0, none⟩) M M, .pointer (some ⟨b, p, none⟩), undef] : List Value).getD jx undef) [8, 10] (by kernel_rfl) (Chain3 W2 W3 W4) (HD0.out) ?_ ?_
                · intro jx ox hi sx w' ev hlm hks hc hin hout hcst hfn
                  have hltx : jx < 11 := by
                    have := (Array.getElem?_eq_some_iff.1 hi).1
                    simpa using this
                  match jx, hltx with
                  | 0, _ =>
                    simp only [List.getElem?_toArray, List.getElem?_cons_zero, List.getElem?_cons_succ, Option.some.injEq] at hi
                    subst hi
                    have e0 : ev (.tmp 0) = .pointer (some ⟨r, 0, none⟩) := hout 0 (by kernel_rfl) (show (0 : Nat) < 137 by decide)
                    rw [if_neg (by decide)]
                    refine .inl ⟨w', ?_, hc⟩
                    show _ = Result.ok (Next.value (.pointer (some ⟨r, 0, none⟩))) w'
                    simp [execOp, e0, hcst, go_sem]
                  | 1, _ =>
                    simp only [List.getElem?_toArray, List.getElem?_cons_zero, List.getElem?_cons_succ, Option.some.injEq] at hi
                    subst hi
                    have e0 : ev (.tmp 117) = .pointer (some ⟨r, 0, none⟩) := hin 117 0 ⟨0, .data⟩ (by kernel_rfl) (by simp) rfl rfl (show (117 : Nat) < 137 by decide)
                    rw [if_neg (by decide)]
                    refine .inl ⟨w', ?_, hc⟩
                    show _ = Result.ok (Next.value (.pointer (some ⟨r, 0, none⟩))) w'
                    simp [execOp, e0, hcst, go_sem]
                  | 2, _ =>
                    simp only [List.getElem?_toArray, List.getElem?_cons_zero, List.getElem?_cons_succ, Option.some.injEq] at hi
                    subst hi
                    have e0 : ev (.tmp 118) = .pointer (some ⟨r, 0, none⟩) := hin 118 1 ⟨1, .data⟩ (by kernel_rfl) (by simp) rfl rfl (show (118 : Nat) < 137 by decide)
                    rw [if_neg (by decide)]
                    refine .inl ⟨w', ?_, hc⟩
                    show _ = Result.ok (Next.value (.pointer (some ⟨r, 1, none⟩))) w'
                    simp [execOp, e0, hcst, go_sem]
                  | 3, _ =>
                    simp only [List.getElem?_toArray, List.getElem?_cons_zero, List.getElem?_cons_succ, Option.some.injEq] at hi
                    subst hi
                    have e0 : ev (.tmp 119) = .pointer (some ⟨r, 1, none⟩) := hin 119 2 ⟨2, .data⟩ (by kernel_rfl) (by simp) rfl rfl (show (119 : Nat) < 137 by decide)
                    rw [if_neg (by decide)]
                    refine .inl ⟨w', ?_, hc⟩
                    show _ = Result.ok (Next.value (.slice (some ⟨b, 0, none⟩) n cb)) w'
                    have hl2 : sx ≤ 1 := Nat.le_trans hlm (Nat.le_of_eq (by kernel_rfl))
                    have q := HL3.out sx w' hc (by omega)
                    simp [execOp, e0, q, hcst, go_sem]
                  | 4, _ =>
                    simp only [List.getElem?_toArray, List.getElem?_cons_zero, List.getElem?_cons_succ, Option.some.injEq] at hi
                    subst hi
                    have e0 : ev (.tmp 8) = .int .i64 (p : Int) := hout 8 (by kernel_rfl) (show (8 : Nat) < 137 by decide)
                    rw [if_neg (by decide)]
                    refine .inl ⟨w', ?_, hc⟩
                    show _ = Result.ok (Next.value (.int .i64 (p : Int))) w'
                    simp [execOp, e0, hcst, go_sem]
                  | 5, _ =>
                    simp only [List.getElem?_toArray, List.getElem?_cons_zero, List.getElem?_cons_succ, Option.some.injEq] at hi
                    subst hi
                    have e0 : ev (.tmp 1) = .int .i64 (cl : Int) := hout 1 (by kernel_rfl) (show (1 : Nat) < 137 by decide)
                    rw [if_neg (by decide)]
                    refine .inl ⟨w', ?_, hc⟩
                    show _ = Result.ok (Next.value (.int .i64 (cl : Int))) w'
                    simp [execOp, e0, hcst, go_sem]
                  | 6, _ =>
                    simp only [List.getElem?_toArray, List.getElem?_cons_zero, List.getElem?_cons_succ, Option.some.injEq] at hi
                    subst hi
                    have e0 : ev (.tmp 122) = .int .i64 (cl : Int) := hin 122 5 ⟨5, .data⟩ (by kernel_rfl) (by simp) rfl rfl (show (122 : Nat) < 137 by decide)
                    rw [if_neg (by decide)]
                    refine .inl ⟨w', ?_, hc⟩
                    show _ = Result.ok (Next.value (.int .u64 (cl : Int))) w'
                    have q := run_uint cl hcl w'
                    simp [execOp, e0, hcst, q, Result.andThen]
                  | 7, _ =>
                    simp only [List.getElem?_toArray, List.getElem?_cons_zero, List.getElem?_cons_succ, Option.some.injEq] at hi
                    subst hi
                    have e0 : ev (.tmp 123) = .int .u64 (cl : Int) := hin 123 6 ⟨6, .data⟩ (by kernel_rfl) (by simp) rfl rfl (show (123 : Nat) < 137 by decide)
                    rw [if_neg (by decide)]
                    refine .inl ⟨w', ?_, hc⟩
                    show _ = Result.ok (Next.value (.int .i64 (M : Int))) w'
                    have q := HSH.out w'
                    simp [execOp, e0, hcst, eqGuard, q, Result.andThen, pure, Sem.run]
                  | 8, _ =>
                    simp only [List.getElem?_toArray, List.getElem?_cons_zero, List.getElem?_cons_succ, Option.some.injEq] at hi
                    subst hi
                    have e0 : ev (.tmp 124) = .int .i64 (M : Int) := hin 124 7 ⟨7, .data⟩ (by kernel_rfl) (by simp) rfl rfl (show (124 : Nat) < 137 by decide)
                    rw [if_pos (by decide)]
                    have hsx : sx = 0 := hks 0 rfl
                    subst hsx
                    have hw : w' = W2 := hc
                    subst hw
                    refine .inl ⟨W3, ?_, HD1.out⟩
                    have q := HMK.out
                    simp [execOp, e0, hcst, q, Result.andThen]
                  | 9, _ =>
                    simp only [List.getElem?_toArray, List.getElem?_cons_zero, List.getElem?_cons_succ, Option.some.injEq] at hi
                    subst hi
                    have e0 : ev (.tmp 120) = .slice (some ⟨b, 0, none⟩) n cb := hin 120 3 ⟨3, .data⟩ (by kernel_rfl) (by simp) rfl rfl (show (120 : Nat) < 137 by decide)
                    have e1 : ev (.tmp 121) = .int .i64 (p : Int) := hin 121 4 ⟨4, .data⟩ (by kernel_rfl) (by simp) rfl rfl (show (121 : Nat) < 137 by decide)
                    rw [if_neg (by decide)]
                    refine .inl ⟨w', ?_, hc⟩
                    show _ = Result.ok (Next.value (.pointer (some ⟨b, p, none⟩))) w'
                    simp only [execOp, e0, e1, hcst]
                    go_simp
                  | 10, _ =>
                    simp only [List.getElem?_toArray, List.getElem?_cons_zero, List.getElem?_cons_succ, Option.some.injEq] at hi
                    subst hi
                    have e0 : ev (.tmp 126) = .pointer (some ⟨b, p, none⟩) := hin 126 9 ⟨9, .data⟩ (by kernel_rfl) (by simp) rfl rfl (show (126 : Nat) < 137 by decide)
                    have e1 : ev (.tmp 125) = .slice (some ⟨w.heap.size, 0, none⟩) M M := hin 125 8 ⟨8, .data⟩ (by kernel_rfl) (by simp) rfl rfl (show (125 : Nat) < 137 by decide)
                    rw [if_pos (by decide)]
                    have hsx : sx = 1 := hks 1 rfl
                    subst hsx
                    have hw : w' = W3 := hc
                    subst hw
                    refine .inr (.inl ⟨rfl, W4, ?_, HD2.out⟩)
                    have q1 := HB3.out.1
                    have q2 := HB3.out.2
                    simp [execOp, e0, e1, hcst, go_sem, q1, q2, HW4E.out]
                · intro w9 hc
                  simp only [lexF, Act.put, List.setIfInBounds_toArray, List.set_cons_succ, List.set_cons_zero, List.getD_cons_succ, List.getD_cons_zero]
                  have hw9 : w9 = W4 := hc
                  subst hw9
                  clear HD0 HD1 HD2 HL3 HMK HB3 HW4E
                  go_wp2_with fail
                  go_ret
                  rw [HW5E.out]
                  exact FIN.out
              · have hc2 : (x.p.c == -1) = false := by simp [hc]
                have I2 : Hid (∀ i y, i < p + 1 → l[i]? = some y → bare y.p = false) := fun i y hi hy => by
                  rcases Nat.lt_or_ge i p with h1 | h1
                  · exact I.out i y h1 hy
                  · obtain rfl : i = p := by omega
                    rw [hx] at hy
                    obtain rfl := Option.some.inj hy
                    unfold bare
                    rw [decide_eq_false hc]
                clear hc hx q1
                generalize x.p.c = pc at *
                go_wp2
                go_round
                case rel => exact ⟨p + 1, by go_num, by omega, I2.out⟩
                case measure => simp [intOf]; omega
            · obtain rfl : n = p := by omega
              have hl3 : ¬ (n : Int) < (n : Int) := by omega
              have N2 : Hid ((pgs l).findIdx? bare = none) := none_pgs (fun i y hi hy => I.out i y (by rw [HN.out]; exact hi) hy)
              go_wp2
              go_round
              case rel => exact ⟨1, by go_num, by omega, fun _ => N2.out, fun h => absurd h (by omega)⟩
              case measure => simp [intOf]
        · have N2 := hide (J.out.1 (by omega))
          clear J
          go_wp2
          go_loop [8] (fun s8 => ∃ p : Nat, s8 = .int .i64 p ∧ p ≤ n ∧ Hid (∀ i y, i < p → l[i]? = some y → free y.p = false)) (fun s8 => n - (intOf s8).toNat)
          case atStart => exact ⟨0, rfl, Nat.zero_le _, fun i y hi => absurd hi (by omega)⟩
          case round =>
            obtain ⟨p, rfl, hpn, I⟩ := hrel
            by_cases hlt : p < n
            · have hl3 : (p : Int) < (n : Int) := by omega
              obtain ⟨x, hx⟩ : ∃ x, l[p]? = some x := ⟨_, List.getElem?_eq_getElem (by rw [← HN.out]; exact hlt)⟩
              have q0 := H.out.ofc hx
              have q1 := HF.out p
              have hc0 : 0 ≤ x.p.c := by
                rcases H.out.ok' hx with ⟨h1, _⟩ | ⟨c, _, h2, _⟩
                · have h3 := N2.out
                  rw [List.findIdx?_eq_none_iff] at h3
                  have := h3 x.p (List.mem_of_getElem? (pgs_get hx))
                  unfold bare at this
                  simp [h1] at this
                · omega
              have cu := hide (usedR B r a b ca cb l p x w H.out hx)
              by_cases hz : x.p.t = 0
              · have hfr0 : free x.p = true := by unfold free; rw [decide_eq_true hz]
                have FR := And.intro True.intro (new_post H.out hcl hx hz (pfor_free N1.out N2.out (find_pgs hx hfr0 I.out)))
                have h := H.out
                have hn := HN.out
                have hM := HM.out
                rw [hz, pop_zero] at cu
                have hxp : ∃ z, z = x.p.c := ⟨_, rfl⟩
                clear hfr0
                go_wp2_with fail
                refine cu.out.mono ?_
                rintro e wx ⟨rfl, hwx⟩
                obtain rfl : w = wx := hwx.symm
                clear hwx cu
                obtain ⟨hpa, hfr⟩ := FR
                have A0 := hide (h.fresh hx hcl hz)
                obtain ⟨W1, W2, W3, W4, W5, e1, e2, e3, e4, e5, g1, g2, g3, g4, g5, g6, g7, g8, g9, gF, gK⟩ := A0.out
                have FIN : Hid (TakeP cl B r a b ca cb l w (.returned (.int .i64 ((64 * p : Nat) : Int))) W5) := hfr W5 gF gK
                have HD0 : Hid (Chain3 W2 W3 W4 0 { W1 with drawn := W1.drawn + 1 }) := e2.symm
                have HD1 : Hid (Chain3 W2 W3 W4 1 W3) := rfl
                have HD2 : Hid (Chain3 W2 W3 W4 2 W4) := rfl
                have HL3 : Hid (∀ sx X, Chain3 W2 W3 W4 sx X → sx ≤ 1 → X.cell? ⟨r, 1, none⟩ = some (.slice (some ⟨b, 0, none⟩) n cb)) := fun sx X hX hs => by
                  rcases (show sx = 0 ∨ sx = 1 by omega) with rfl | rfl
                  · have : X = W2 := hX
                    subst this
                    rw [hn]; exact g1
                  · have : X = W3 := hX
                    subst this
                    rw [hn]; exact g2
                have HMK : Hid ((Instr.makeSlice 53 (.int .i64 (M : Int)) (.int .i64 (M : Int))).run Tryd.prog W2 = .ok (.slice (some ⟨w.heap.size, 0, none⟩) M M) W3) := by rw [hM]; exact g3
                have HSH : Hid (∀ X, (binOp .shr 3 (.int .i64 64) (.int .u64 (cl : Int))).run Tryd.prog X = .ok (.int .i64 (M : Int)) X) := fun X => by rw [hM]; exact run_shru cl hcl X
                have HB3 := hide (And.intro g4 g5)
                have HW4E : Hid (W3.setCell ⟨b, p, none⟩ (.slice (some ⟨w.heap.size, 0, none⟩) M M) = W4) := by rw [hM]; exact e4.symm
                have HW5E : Hid (W4.setCell ⟨w.heap.size, 0, none⟩ (.bool true) = W5) := e5.symm
                rw [← hn] at g6
                rw [← hM] at g7
                have HW1E : Hid (w.setCell ⟨a, p, none⟩ (.int .i64 (cl : Int)) = W1) := e1.symm
                have hM0 : 0 < M := by rw [hM]; have := many_pos cl hcl; omega
                clear e1 e2 e3 e4 e5 g1 g2 g3 g4 g5 gF gK A0 hfr hpa hn hM h
                go_wp2_with fail
                rw [HW1E.out]
                refine wp_region_chain (by kernel_rfl) (by kernel_rfl) (fun jx => ([.pointer (some ⟨r, 0, none⟩), .pointer (some ⟨r, 0, none⟩), .pointer (some ⟨r, 1, none⟩), .slice (some ⟨b, 0, none⟩) n cb, .int .i64 (p : Int), .int .i64 (cl : Int), .int .u64 (cl : Int), .int .i64 (M : Int), .slice (some ⟨w.heap.size, 0, none⟩) M M, .pointer (some ⟨b, p, none⟩), undef] : List Value).getD jx undef) [8, 10] (by kernel_rfl) (Chain3 W2 W3 W4) (HD0.out) ?_ ?_
                · intro jx ox hi sx w' ev hlm hks hc hin hout hcst hfn
                  have hltx : jx < 11 := by
                    have := (Array.getElem?_eq_some_iff.1 hi).1
                    simpa using this
                  match jx, hltx with
                  | 0, _ =>
                    simp only [List.getElem?_toArray, List.getElem?_cons_zero, List.getElem?_cons_succ, Option.some.injEq] at hi
                    subst hi
                    have e0 : ev (.tmp 0) = .pointer (some ⟨r, 0, none⟩) := hout 0 (by kernel_rfl) (show (0 : Nat) < 137 by decide)
                    rw [if_neg (by decide)]
                    refine .inl ⟨w', ?_, hc⟩
                    show _ = Result.ok (Next.value (.pointer (some ⟨r, 0, none⟩))) w'
                    simp [execOp, e0, hcst, go_sem]
                  | 1, _ =>
                    simp only [List.getElem?_toArray, List.getElem?_cons_zero, List.getElem?_cons_succ, Option.some.injEq] at hi
                    subst hi
                    have e0 : ev (.tmp 117) = .pointer (some ⟨r, 0, none⟩) := hin 117 0 ⟨0, .data⟩ (by kernel_rfl) (by simp) rfl rfl (show (117 : Nat) < 137 by decide)
                    rw [if_neg (by decide)]
                    refine .inl ⟨w', ?_, hc⟩
                    show _ = Result.ok (Next.value (.pointer (some ⟨r, 0, none⟩))) w'
                    simp [execOp, e0, hcst, go_sem]
                  | 2, _ =>
                    simp only [List.getElem?_toArray, List.getElem?_cons_zero, List.getElem?_cons_succ, Option.some.injEq] at hi
                    subst hi
                    have e0 : ev (.tmp 118) = .pointer (some ⟨r, 0, none⟩) := hin 118 1 ⟨1, .data⟩ (by kernel_rfl) (by simp) rfl rfl (show (118 : Nat) < 137 by decide)
                    rw [if_neg (by decide)]
                    refine .inl ⟨w', ?_, hc⟩
                    show _ = Result.ok (Next.value (.pointer (some ⟨r, 1, none⟩))) w'
                    simp [execOp, e0, hcst, go_sem]
                  | 3, _ =>
                    simp only [List.getElem?_toArray, List.getElem?_cons_zero, List.getElem?_cons_succ, Option.some.injEq] at hi
                    subst hi
                    have e0 : ev (.tmp 119) = .pointer (some ⟨r, 1, none⟩) := hin 119 2 ⟨2, .data⟩ (by kernel_rfl) (by simp) rfl rfl (show (119 : Nat) < 137 by decide)
                    rw [if_neg (by decide)]
                    refine .inl ⟨w', ?_, hc⟩
                    show _ = Result.ok (Next.value (.slice (some ⟨b, 0, none⟩) n cb)) w'
                    have hl2 : sx ≤ 1 := Nat.le_trans hlm (Nat.le_of_eq (by kernel_rfl))
                    have q := HL3.out sx w' hc (by omega)
                    simp [execOp, e0, q, hcst, go_sem]
                  | 4, _ =>
                    simp only [List.getElem?_toArray, List.getElem?_cons_zero, List.getElem?_cons_succ, Option.some.injEq] at hi
                    subst hi
                    have e0 : ev (.tmp 8) = .int .i64 (p : Int) := hout 8 (by kernel_rfl) (show (8 : Nat) < 137 by decide)
                    rw [if_neg (by decide)]
                    refine .inl ⟨w', ?_, hc⟩
                    show _ = Result.ok (Next.value (.int .i64 (p : Int))) w'
                    simp [execOp, e0, hcst, go_sem]
                  | 5, _ =>
                    simp only [List.getElem?_toArray, List.getElem?_cons_zero, List.getElem?_cons_succ, Option.some.injEq] at hi
                    subst hi
                    have e0 : ev (.tmp 1) = .int .i64 (cl : Int) := hout 1 (by kernel_rfl) (show (1 : Nat) < 137 by decide)
                    rw [if_neg (by decide)]
                    refine .inl ⟨w', ?_, hc⟩
                    show _ = Result.ok (Next.value (.int .i64 (cl : Int))) w'
                    simp [execOp, e0, hcst, go_sem]
                  | 6, _ =>
                    simp only [List.getElem?_toArray, List.getElem?_cons_zero, List.getElem?_cons_succ, Option.some.injEq] at hi
                    subst hi
                    have e0 : ev (.tmp 122) = .int .i64 (cl : Int) := hin 122 5 ⟨5, .data⟩ (by kernel_rfl) (by simp) rfl rfl (show (122 : Nat) < 137 by decide)
                    rw [if_neg (by decide)]
                    refine .inl ⟨w', ?_, hc⟩
                    show _ = Result.ok (Next.value (.int .u64 (cl : Int))) w'
                    have q := run_uint cl hcl w'
                    simp [execOp, e0, hcst, q, Result.andThen]
                  | 7, _ =>
                    simp only [List.getElem?_toArray, List.getElem?_cons_zero, List.getElem?_cons_succ, Option.some.injEq] at hi
                    subst hi
                    have e0 : ev (.tmp 123) = .int .u64 (cl : Int) := hin 123 6 ⟨6, .data⟩ (by kernel_rfl) (by simp) rfl rfl (show (123 : Nat) < 137 by decide)
                    rw [if_neg (by decide)]
                    refine .inl ⟨w', ?_, hc⟩
                    show _ = Result.ok (Next.value (.int .i64 (M : Int))) w'
                    have q := HSH.out w'
                    simp [execOp, e0, hcst, eqGuard, q, Result.andThen, pure, Sem.run]
                  | 8, _ =>
                    simp only [List.getElem?_toArray, List.getElem?_cons_zero, List.getElem?_cons_succ, Option.some.injEq] at hi
                    subst hi
                    have e0 : ev (.tmp 124) = .int .i64 (M : Int) := hin 124 7 ⟨7, .data⟩ (by kernel_rfl) (by simp) rfl rfl (show (124 : Nat) < 137 by decide)
                    rw [if_pos (by decide)]
                    have hsx : sx = 0 := hks 0 rfl
                    subst hsx
                    have hw : w' = W2 := hc
                    subst hw
                    refine .inl ⟨W3, ?_, HD1.out⟩
                    have q := HMK.out
                    simp [execOp, e0, hcst, q, Result.andThen]
                  | 9, _ =>
                    simp only [List.getElem?_toArray, List.getElem?_cons_zero, List.getElem?_cons_succ, Option.some.injEq] at hi
                    subst hi
                    have e0 : ev (.tmp 120) = .slice (some ⟨b, 0, none⟩) n cb := hin 120 3 ⟨3, .data⟩ (by kernel_rfl) (by simp) rfl rfl (show (120 : Nat) < 137 by decide)
                    have e1 : ev (.tmp 121) = .int .i64 (p : Int) := hin 121 4 ⟨4, .data⟩ (by kernel_rfl) (by simp) rfl rfl (show (121 : Nat) < 137 by decide)
                    rw [if_neg (by decide)]
                    refine .inl ⟨w', ?_, hc⟩
                    show _ = Result.ok (Next.value (.pointer (some ⟨b, p, none⟩))) w'
                    simp only [execOp, e0, e1, hcst]
                    go_simp
                  | 10, _ =>
                    simp only [List.getElem?_toArray, List.getElem?_cons_zero, List.getElem?_cons_succ, Option.some.injEq] at hi
                    subst hi
                    have e0 : ev (.tmp 126) = .pointer (some ⟨b, p, none⟩) := hin 126 9 ⟨9, .data⟩ (by kernel_rfl) (by simp) rfl rfl (show (126 : Nat) < 137 by decide)
                    have e1 : ev (.tmp 125) = .slice (some ⟨w.heap.size, 0, none⟩) M M := hin 125 8 ⟨8, .data⟩ (by kernel_rfl) (by simp) rfl rfl (show (125 : Nat) < 137 by decide)
                    rw [if_pos (by decide)]
                    have hsx : sx = 1 := hks 1 rfl
                    subst hsx
                    have hw : w' = W3 := hc
                    subst hw
                    refine .inr (.inl ⟨rfl, W4, ?_, HD2.out⟩)
                    have q1 := HB3.out.1
                    have q2 := HB3.out.2
                    simp [execOp, e0, e1, hcst, go_sem, q1, q2, HW4E.out]
                · intro w9 hc
                  simp only [lexF, Act.put, List.setIfInBounds_toArray, List.set_cons_succ, List.set_cons_zero, List.getD_cons_succ, List.getD_cons_zero]
                  have hw9 : w9 = W4 := hc
                  subst hw9
                  clear HD0 HD1 HD2 HL3 HMK HB3 HW4E
                  go_wp2_with fail
                  go_ret
                  rw [HW5E.out]
                  exact FIN.out
              · have hpp := pop_pos (n := 64) (H.out.ok' hx).fit hz
                have hp9 := pop_le 64 x.p.t
                have I2 : Hid (∀ i y, i < p + 1 → l[i]? = some y → free y.p = false) := fun i y hi hy => by
                  rcases Nat.lt_or_ge i p with h1 | h1
                  · exact I.out i y h1 hy
                  · obtain rfl : i = p := by omega
                    rw [hx] at hy
                    obtain rfl := Option.some.inj hy
                    unfold free
                    rw [decide_eq_false hz]
                clear hz hx q1
                generalize x.p.c = pc at *
                generalize pop 64 x.p.t = u at *
                have hu : ((u : Int) == 0) = false := by simp; omega
                go_wp2_with fail
                refine cu.out.mono ?_
                rintro e wx ⟨rfl, hwx⟩
                obtain rfl : w = wx := hwx.symm
                clear hwx cu
                go_wp2
                go_round
                case rel => exact ⟨p + 1, by go_num, by omega, I2.out⟩
                case measure => simp [intOf]; omega
            · obtain rfl : n = p := by omega
              have hl3 : ¬ (n : Int) < (n : Int) := by omega
              have N3 : Hid ((pgs l).findIdx? free = none) := none_pgs (fun i y hi hy => I.out i y (by rw [HN.out]; exact hi) hy)
              go_wp2
              go_round
              case rel => exact ⟨2, by go_num, by omega, fun _ => N2.out, fun _ => N3.out⟩
              case measure => simp [intOf]
        · have FIN := hide (full_post H.out (pfor_free N1.out (J.out.1 (by omega)) (J.out.2 (by omega))))
          go_wp2
          go_ret
          exact FIN.out
end Go.Proofs.YteeanaoglcpaaaaDoor
