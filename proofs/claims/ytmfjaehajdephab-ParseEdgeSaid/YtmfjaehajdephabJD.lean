/- Texts joined. -/
import Derived.Test.YtmfjaehajdephabPC
import Derived.Test.YtmfjaehajdephabPD
import Derived.Test.YtmfjaehajdephabPE
import Derived.Test.YtmfjaehajdephabPF
import Derived.Test.YtmfjaehajdephabPG
import Derived.Test.YtmfjaehajdephabP5
import Derived.Test.YtmfjaehajdephabJP
import Derived.Test.YtmfjaehajdephabJQ
/-
  The program's store of any row.
-/
namespace Go.Proofs.Ytmfjaehajdephab
open Go.Shelf Go.RowKit Go.Deep
set_option linter.unusedVariables false
set_option linter.unusedSimpArgs false
set_option maxRecDepth 1000000

theorem get_some {ws : List ByteArray} {n i : Nat} (hl : n = ws.length) (h : i < n) : ws[i]? = some (wd_ ws i) := by
  unfold wd_
  rw [List.getElem?_eq_getElem (by omega)]
  rfl
theorem lastOk_le {ws : List ByteArray} {k : Nat} {z : Bool} (h : lastOk ws k z = true) : k ≤ ws.length := by
  unfold lastOk at h
  simp only [Bool.or_eq_true, Bool.and_eq_true, decide_eq_true_eq] at h
  omega
theorem verb_six (x : ByteArray) (h : set5 x = true ∨ isW x w_cas = true) : storesB x ⟨#[]⟩ = true := by
  unfold set5 at h
  simp only [Bool.or_eq_true, isW_iff] at h
  rcases h with (h | h | h | h | h) | h <;> (subst h; kernel_rfl)
theorem good_st2 (x0 x1 : ByteArray) (q : Bool) (fl ex cs : Int) (h : storesB x0 ⟨#[]⟩ = true) : goodP (stC x0 x1 q fl ex cs) = keyB x1 := by
  have h0 : (goodP (stC x0 x1 q fl ex cs)) = (storesB x0 ⟨#[]⟩ && keyB (hd [x1])) := by kernel_rfl
  rw [h0, h, Bool.true_and]
  rfl
theorem chk_form (c : Cm) : chk c false (mk8 formT) = formC := by
  unfold chk
  split <;> rfl
theorem what_form : (formC.what.toList == [115, 116, 111, 114, 101]) = false := by kernel_rfl
theorem what_st (x0 x1 : ByteArray) (q : Bool) (fl ex cs : Int) : ((stC x0 x1 q fl ex cs).what.toList == [115, 116, 111, 114, 101]) = true := by
  have : ((⟨#[115, 116, 111, 114, 101]⟩ : ByteArray).toList == [115, 116, 111, 114, 101]) = true := by kernel_rfl
  exact this
theorem wrap_fl {k : Nat} (h : k ≤ 4294967295) : IntKind.u32.wrap (k : Int) = (k : Int) := by rw [IntKind.wrap_u32]; omega
/-- What store answers. -/
def OneQ (w : World) (p : Cm × Option Nat) : Ending → World → Prop := OneR w p.1 (sizeI p.2)
theorem store_any_n (w : World) (g o n cap : Nat) (ws : List ByteArray) (h : RowT w (some ⟨g, o, none⟩) n ws) (hc : casB ws = false) (hv : storesB (wd_ ws 0) ⟨#[]⟩ = true) :
    Calls Try.prog 36 #[.slice (some ⟨g, o, none⟩) n cap, .int .i64 ((5 : Nat) : Int)] w (OneQ w (storeP ws 5)) := by
  have hlen := h.at_.len
  unfold storeP
  cases hl : lastOk ws 5 false with
  | false =>
    refine (store_no w g o n cap ws h 5 (by omega) hl).mono ?_
    rintro e w' ⟨rfl, hb⟩
    exact OneR.mk' _ _ _ RowT.nil hb
  | true =>
    have hn : 5 ≤ n := by have := lastOk_le hl; omega
    have g0 := get_some hlen (show 0 < n by omega)
    have g1 := get_some hlen (show 1 < n by omega)
    have g2 := get_some hlen (show 2 < n by omega)
    have g3 := get_some hlen (show 3 < n by omega)
    have g4 := get_some hlen (show 4 < n by omega)
    have hc' : ((wd_ ws 0).toList == [99, 97, 115]) = false := hc
    have A2 := fun W => upTo_any (wd_ ws 2) 4294967295 (by omega) W
    have A3 := fun W => signed_any (wd_ ws 3) W
    have A4 := fun W => upTo_any (wd_ ws 4) 2147483647 (by omega) W
    have N : numsOk ws = ((((numOk_ ws 2 && decide (num_ ws 2 ≤ 4294967295)) && sgnOk_ ws 3) && (numOk_ ws 4 && decide (num_ ws 4 ≤ 2147483647))) && true) := by unfold numsOk; rw [hc]; rfl
    have E2 : (numOk (wd_ ws 2).data.toList && decide (numV (wd_ ws 2).data.toList ≤ 4294967295)) = (numOk_ ws 2 && decide (num_ ws 2 ≤ 4294967295)) := rfl
    have E4 : (numOk (wd_ ws 4).data.toList && decide (numV (wd_ ws 4).data.toList ≤ 2147483647)) = (numOk_ ws 4 && decide (num_ ws 4 ≤ 2147483647)) := rfl
    have E3 : sgnOk (wd_ ws 3).data.toList = sgnOk_ ws 3 := rfl
    rw [E2] at A2
    rw [E4] at A4
    rw [E3] at A3
    have form : ∀ e w', OneR w formC (-1) e w' → OneQ w (formC, none) e w' := fun e w' h => h
    cases c0 : (numOk_ ws 2 && decide (num_ ws 2 ≤ 4294967295)) with
    | false =>
      rw [c0] at A2
      have e : numsOk ws = false := by rw [N, c0]; simp
      simp only [e, if_true, if_false, Bool.false_eq_true, ite_self]
      refine (store_n_0_form w g o n cap ws h 5 (by omega) hl _ rfl hn _ _ _ _ _ g0 g1 g2 g3 g4 (num_ ws 2) (num_ ws 4) (sgn_ ws 3) _ _ _ hc' A2 A3 A4 rfl formC (chk_form _) what_form).mono ?_
      exact form
    | true =>
      rw [c0] at A2
      cases c1 : sgnOk_ ws 3 with
      | false =>
        rw [c1] at A3
        have e : numsOk ws = false := by rw [N, c0, c1]; simp
        simp only [e, if_true, if_false, Bool.false_eq_true, ite_self]
        refine (store_n_1_form w g o n cap ws h 5 (by omega) hl _ rfl hn _ _ _ _ _ g0 g1 g2 g3 g4 (num_ ws 2) (num_ ws 4) (sgn_ ws 3) _ _ hc' A2 A3 A4 rfl formC (chk_form _) what_form).mono ?_
        exact form
      | true =>
        rw [c1] at A3
        cases c2 : (numOk_ ws 4 && decide (num_ ws 4 ≤ 2147483647)) with
        | false =>
          rw [c2] at A4
          have e : numsOk ws = false := by rw [N, c0, c1, c2]; simp
          simp only [e, if_true, if_false, Bool.false_eq_true, ite_self]
          refine (store_n_2_form w g o n cap ws h 5 (by omega) hl _ rfl hn _ _ _ _ _ g0 g1 g2 g3 g4 (num_ ws 2) (num_ ws 4) (sgn_ ws 3) _ hc' A2 A3 A4 rfl formC (chk_form _) what_form).mono ?_
          exact form
        | true =>
          rw [c2] at A4
          have e : numsOk ws = true := by rw [N, c0, c1, c2]; simp
          have k2 : num_ ws 2 ≤ 4294967295 := by simp only [Bool.and_eq_true, decide_eq_true_eq] at c0; exact c0.2
          have k4 : num_ ws 4 ≤ 2147483647 := by simp only [Bool.and_eq_true, decide_eq_true_eq] at c2; exact c2.2
          cases hk : keyB (wd_ ws 1) with
          | false =>
            simp only [if_true, if_false, Bool.false_eq_true]
            refine (store_n_4_form w g o n cap ws h 5 (by omega) hl _ rfl hn _ _ _ _ _ g0 g1 g2 g3 g4 (num_ ws 2) (num_ ws 4) (sgn_ ws 3) _ hc' A2 A3 A4 rfl formC (by unfold chk; rw [good_st2 _ _ _ _ _ _ hv, hk]; rfl) what_form).mono ?_
            exact form
          | true =>
            have hr : chk (stC (wd_ ws 0) (wd_ ws 1) (lastQ ws 5 false) (num_ ws 2 : Int) (sgn_ ws 3) 0) true (mk8 formT) = storeC ws 5 := by unfold chk; rw [good_st2 _ _ _ _ _ _ hv, hk]; unfold storeC; rw [hc]; rfl
            have hw : ((storeC ws 5).what.toList == [115, 116, 111, 114, 101]) = true := what_st (wd_ ws 0) (wd_ ws 1) false 0 0 0
            simp only [e, if_true]
            by_cases h4 : 1024 < num_ ws 4
            · rw [if_pos h4]
              refine (store_n_4_large w g o n cap ws h 5 (by omega) hl _ rfl hn _ _ _ _ _ g0 g1 g2 g3 g4 (num_ ws 2) (num_ ws 4) (sgn_ ws 3) (num_ ws 2 : Int) hc' A2 A3 A4 (wrap_fl k2) (storeC ws 5) hr hw h4 k4).mono ?_
              rintro e w' ⟨rfl, hb⟩
              exact OneR.mk' _ _ _ RowT.nil hb
            · rw [if_neg h4]
              exact store_n_4_ok w g o n cap ws h 5 (by omega) hl _ rfl hn _ _ _ _ _ g0 g1 g2 g3 g4 (num_ ws 2) (num_ ws 4) (sgn_ ws 3) (num_ ws 2 : Int) hc' A2 A3 A4 (wrap_fl k2) (storeC ws 5) hr hw (by omega)
theorem store_any_c (w : World) (g o n cap : Nat) (ws : List ByteArray) (h : RowT w (some ⟨g, o, none⟩) n ws) (hc : casB ws = true) (hv : storesB (wd_ ws 0) ⟨#[]⟩ = true) :
    Calls Try.prog 36 #[.slice (some ⟨g, o, none⟩) n cap, .int .i64 ((6 : Nat) : Int)] w (OneQ w (storeP ws 6)) := by
  have hlen := h.at_.len
  unfold storeP
  cases hl : lastOk ws 6 false with
  | false =>
    refine (store_no w g o n cap ws h 6 (by omega) hl).mono ?_
    rintro e w' ⟨rfl, hb⟩
    exact OneR.mk' _ _ _ RowT.nil hb
  | true =>
    have hn : 6 ≤ n := by have := lastOk_le hl; omega
    have g0 := get_some hlen (show 0 < n by omega)
    have g1 := get_some hlen (show 1 < n by omega)
    have g2 := get_some hlen (show 2 < n by omega)
    have g3 := get_some hlen (show 3 < n by omega)
    have g4 := get_some hlen (show 4 < n by omega)
    have hc' : ((wd_ ws 0).toList == [99, 97, 115]) = true := hc
    have A2 := fun W => upTo_any (wd_ ws 2) 4294967295 (by omega) W
    have A3 := fun W => signed_any (wd_ ws 3) W
    have A4 := fun W => upTo_any (wd_ ws 4) 2147483647 (by omega) W
    have g5 := get_some hlen (show 5 < n by omega)
    have A5 := fun W => number_any (wd_ ws 5) W
    have N : numsOk ws = ((((numOk_ ws 2 && decide (num_ ws 2 ≤ 4294967295)) && sgnOk_ ws 3) && (numOk_ ws 4 && decide (num_ ws 4 ≤ 2147483647))) && numOk_ ws 5) := by unfold numsOk; rw [hc]; rfl
    have E2 : (numOk (wd_ ws 2).data.toList && decide (numV (wd_ ws 2).data.toList ≤ 4294967295)) = (numOk_ ws 2 && decide (num_ ws 2 ≤ 4294967295)) := rfl
    have E4 : (numOk (wd_ ws 4).data.toList && decide (numV (wd_ ws 4).data.toList ≤ 2147483647)) = (numOk_ ws 4 && decide (num_ ws 4 ≤ 2147483647)) := rfl
    have E3 : sgnOk (wd_ ws 3).data.toList = sgnOk_ ws 3 := rfl
    rw [E2] at A2
    rw [E4] at A4
    rw [E3] at A3
    have form : ∀ e w', OneR w formC (-1) e w' → OneQ w (formC, none) e w' := fun e w' h => h
    have E5 : numOk (wd_ ws 5).data.toList = numOk_ ws 5 := rfl
    rw [E5] at A5
    cases c0 : (numOk_ ws 2 && decide (num_ ws 2 ≤ 4294967295)) with
    | false =>
      rw [c0] at A2
      have e : numsOk ws = false := by rw [N, c0]; simp
      simp only [e, if_true, if_false, Bool.false_eq_true, ite_self]
      refine (store_c_0_form w g o n cap ws h 6 (by omega) hl _ rfl hn _ _ _ _ _ g0 g1 g2 g3 g4 (num_ ws 2) (num_ ws 4) (sgn_ ws 3) _ _ _ _ hc' A2 A3 A4 (wd_ ws 5) g5 (num_ ws 5) A5 rfl formC (chk_form _) what_form).mono ?_
      exact form
    | true =>
      rw [c0] at A2
      cases c1 : sgnOk_ ws 3 with
      | false =>
        rw [c1] at A3
        have e : numsOk ws = false := by rw [N, c0, c1]; simp
        simp only [e, if_true, if_false, Bool.false_eq_true, ite_self]
        refine (store_c_1_form w g o n cap ws h 6 (by omega) hl _ rfl hn _ _ _ _ _ g0 g1 g2 g3 g4 (num_ ws 2) (num_ ws 4) (sgn_ ws 3) _ _ _ hc' A2 A3 A4 (wd_ ws 5) g5 (num_ ws 5) A5 rfl formC (chk_form _) what_form).mono ?_
        exact form
      | true =>
        rw [c1] at A3
        cases c2 : (numOk_ ws 4 && decide (num_ ws 4 ≤ 2147483647)) with
        | false =>
          rw [c2] at A4
          have e : numsOk ws = false := by rw [N, c0, c1, c2]; simp
          simp only [e, if_true, if_false, Bool.false_eq_true, ite_self]
          refine (store_c_2_form w g o n cap ws h 6 (by omega) hl _ rfl hn _ _ _ _ _ g0 g1 g2 g3 g4 (num_ ws 2) (num_ ws 4) (sgn_ ws 3) _ _ hc' A2 A3 A4 (wd_ ws 5) g5 (num_ ws 5) A5 rfl formC (chk_form _) what_form).mono ?_
          exact form
        | true =>
          rw [c2] at A4
          cases c3 : numOk_ ws 5 with
          | false =>
            rw [c3] at A5
            have e : numsOk ws = false := by rw [N, c0, c1, c2, c3]; simp
            simp only [e, if_true, if_false, Bool.false_eq_true, ite_self]
            refine (store_c_3_form w g o n cap ws h 6 (by omega) hl _ rfl hn _ _ _ _ _ g0 g1 g2 g3 g4 (num_ ws 2) (num_ ws 4) (sgn_ ws 3) _ hc' A2 A3 A4 (wd_ ws 5) g5 (num_ ws 5) A5 rfl formC (chk_form _) what_form).mono ?_
            exact form
          | true =>
            rw [c3] at A5
            have e : numsOk ws = true := by rw [N, c0, c1, c2, c3]; simp
            have k2 : num_ ws 2 ≤ 4294967295 := by simp only [Bool.and_eq_true, decide_eq_true_eq] at c0; exact c0.2
            have k4 : num_ ws 4 ≤ 2147483647 := by simp only [Bool.and_eq_true, decide_eq_true_eq] at c2; exact c2.2
            cases hk : keyB (wd_ ws 1) with
            | false =>
              simp only [if_true, if_false, Bool.false_eq_true]
              refine (store_c_4_form w g o n cap ws h 6 (by omega) hl _ rfl hn _ _ _ _ _ g0 g1 g2 g3 g4 (num_ ws 2) (num_ ws 4) (sgn_ ws 3) _ hc' A2 A3 A4 (wd_ ws 5) g5 (num_ ws 5) A5 rfl formC (by unfold chk; rw [good_st2 _ _ _ _ _ _ hv, hk]; rfl) what_form).mono ?_
              exact form
            | true =>
              have hr : chk (stC (wd_ ws 0) (wd_ ws 1) (lastQ ws 6 false) (num_ ws 2 : Int) (sgn_ ws 3) (num_ ws 5 : Int)) true (mk8 formT) = storeC ws 6 := by unfold chk; rw [good_st2 _ _ _ _ _ _ hv, hk]; unfold storeC; rw [hc]; rfl
              have hw : ((storeC ws 6).what.toList == [115, 116, 111, 114, 101]) = true := what_st (wd_ ws 0) (wd_ ws 1) false 0 0 0
              simp only [e, if_true]
              by_cases h4 : 1024 < num_ ws 4
              · rw [if_pos h4]
                refine (store_c_4_large w g o n cap ws h 6 (by omega) hl _ rfl hn _ _ _ _ _ g0 g1 g2 g3 g4 (num_ ws 2) (num_ ws 4) (sgn_ ws 3) (num_ ws 2 : Int) hc' A2 A3 A4 (wd_ ws 5) g5 (num_ ws 5) A5 (wrap_fl k2) (storeC ws 6) hr hw h4 k4).mono ?_
                rintro e w' ⟨rfl, hb⟩
                exact OneR.mk' _ _ _ RowT.nil hb
              · rw [if_neg h4]
                exact store_c_4_ok w g o n cap ws h 6 (by omega) hl _ rfl hn _ _ _ _ _ g0 g1 g2 g3 g4 (num_ ws 2) (num_ ws 4) (sgn_ ws 3) (num_ ws 2 : Int) hc' A2 A3 A4 (wd_ ws 5) g5 (num_ ws 5) A5 (wrap_fl k2) (storeC ws 6) hr hw (by omega)
end Go.Proofs.Ytmfjaehajdephab

/-
  The program's alone of any row.
-/
namespace Go.Proofs.Ytmfjaehajdephab
open Go.Shelf Go.RowKit Go.Deep
set_option linter.unusedVariables false
set_option linter.unusedSimpArgs false
set_option maxRecDepth 1000000

/-- A call answers the command r. -/
def AlQ (w : World) (r : Cm) (e : Ending) (w' : World) : Prop := ∃ a n c, e = .returned (cmV r (.slice a n c)) ∧ RowT w' a n r.keys ∧ Below w.heap.size w w'
theorem AlQ.mk' {w w' : World} {r : Cm} (a : Option Addr) (n c : Nat) (h1 : RowT w' a n r.keys) (h2 : Below w.heap.size w w') : AlQ w r (.returned (cmV r (.slice a n c))) w' := ⟨a, n, c, rfl, h1, h2⟩
theorem AlQ.bare {w : World} {r : Cm} {e : Ending} {w' : World} (hk : r.keys = []) (h : e = .returned (cmV r (.slice none 0 0)) ∧ Below w.heap.size w w') : AlQ w r e w' := ⟨none, 0, 0, h.1, by rw [hk]; exact RowT.nil, h.2⟩
theorem there_cmz {W : World} {b : Nat} {c0 : Cm} {v0 : Value} (h : W.heap[b]? = some (cmO c0 v0)) : W.there b 0 12 := fun j hj => by
  have hB : Blk W b (cmL c0 v0) 33 := h
  refine ⟨?_, hB.frozen _⟩
  rw [Nat.zero_add]
  obtain ⟨u, hu⟩ : ∃ u, (cmL c0 v0)[j]? = some u := ⟨_, List.getElem?_eq_getElem hj⟩
  rw [hB.cell hu]
  rfl
theorem store_stepA {ops : Array Oper} {rest : List Oper} {op : Oper} {ac : Act} {W : World} {Q : Exit → Act → World → Prop} {r : Cm} {a : Option Addr} {n c : Nat} (hgd : op.guard = none) (x y : Operand) (ho : op.op = .store 33 x y)
    (b : Nat) (hx : ac.eval x = .pointer (some ⟨b, 0, none⟩)) (hy : ac.eval y = cmV r (.slice a n c)) (ht : W.there b 0 12) (h : wpList Try.prog ops Q rest (ac.put op.dst undef) (W.setCells b 0 (cmL r (.slice a n c)))) : wpList Try.prog ops Q (op :: rest) ac W :=
  wpList_store_mid hgd 33 x y ho b 0 #[.string r.what, .string r.verb, .slice a n c, .string r.data, .int .u32 r.fl, .int .i64 r.ex, .int .u64 r.cs, .int .u64 r.y, .bool r.wc, .bool r.wt, .bool r.dn, .bool r.q] hx hy ht size27 (by simp [Value.oneCell']) h
theorem get_some' {ws : List ByteArray} {n i : Nat} (hl : n = ws.length) (h : i < n) : ws[i]? = some (wd_ ws i) := by
  unfold wd_
  rw [List.getElem?_eq_getElem (by omega)]
  rfl
theorem lastOk_len {ws : List ByteArray} {k : Nat} {z : Bool} (h : lastOk ws k z = true) : k ≤ ws.length := by
  unfold lastOk at h
  simp only [Bool.or_eq_true, Bool.and_eq_true, decide_eq_true_eq] at h
  omega
theorem good_getC (ks : List ByteArray) (cs tc : Bool) (ex : Int) (h : 1 ≤ ks.length) : goodP ⟨mk8 w_get, ⟨#[]⟩, ks, ⟨#[]⟩, 0, ex, 0, 0, cs, tc, false, false⟩ = keysOk ks := by
  have h0 : goodP ⟨mk8 w_get, ⟨#[]⟩, ks, ⟨#[]⟩, 0, ex, 0, 0, cs, tc, false, false⟩ = (cntB ks.length && ks.all keyB) := by kernel_rfl
  rw [h0]
  unfold cntB keysOk
  rw [decide_eq_true h, Bool.true_and, Bool.and_comm]
theorem good_arC (x : ByteArray) (y : Int) (d q : Bool) : goodP ⟨mk8 [97, 114, 105, 116, 104], ⟨#[]⟩, [x], ⟨#[]⟩, 0, 0, 0, y, false, false, d, q⟩ = keyB x := by kernel_rfl
theorem good_toC (x : ByteArray) (y : Int) (q : Bool) : goodP ⟨mk8 w_touch, ⟨#[]⟩, [x], ⟨#[]⟩, 0, y, 0, 0, false, false, false, q⟩ = keyB x := by kernel_rfl
theorem good_deC (x : ByteArray) (q : Bool) : goodP ⟨mk8 w_del_, ⟨#[]⟩, [x], ⟨#[]⟩, 0, 0, 0, 0, false, false, false, q⟩ = keyB x := by kernel_rfl
section
variable (w : World) (g o n cap : Nat) (ws : List ByteArray) (h : RowT w (some ⟨g, o, none⟩) n ws)
include h
theorem get_any (hcap : n ≤ cap) : Calls Try.prog 53 #[.slice (some ⟨g, o, none⟩) n cap] w (AlQ w (getP ws)) := by
  have hl := h.at_.len
  unfold getP
  by_cases hn : n < 2
  · rw [if_pos (by omega)]
    exact (get_few w _ n cap hn).mono (fun e w' h => AlQ.bare rfl h)
  · rw [if_neg (by omega)]
    refine get_ok w g o n cap ws h (by omega) hcap _ (get_some' hl (by omega)) _ rfl _ ?_
    unfold chk
    rw [good_getC _ _ _ _ (by rw [List.length_drop]; omega)]
    rfl
theorem gat_any (hcap : n ≤ cap) : Calls Try.prog 54 #[.slice (some ⟨g, o, none⟩) n cap] w (AlQ w (gatP ws)) := by
  have hl := h.at_.len
  unfold gatP
  by_cases hn : n < 3
  · rw [if_pos (by omega)]
    exact (gat_few w _ n cap hn).mono (fun e w' h => AlQ.bare rfl h)
  · rw [if_neg (by omega)]
    refine gat_ok w g o n cap ws h (by omega) hcap _ (get_some' hl (by omega)) _ rfl _ (get_some' hl (by omega)) _ _ rfl rfl _ ?_
    unfold chk
    rw [good_getC _ _ _ _ (by rw [List.length_drop]; omega)]
    rfl
theorem arith_any : Calls Try.prog 55 #[.slice (some ⟨g, o, none⟩) n cap] w (AlQ w (arithP ws)) := by
  have hl := h.at_.len
  unfold arithP
  cases hk : lastOk ws 3 false with
  | false =>
    simp only [if_false, Bool.false_eq_true]
    exact (arith_no w g o n cap ws h hk).mono (fun e w' h => AlQ.bare rfl h)
  | true =>
    have := lastOk_len hk
    simp only [if_true]
    refine arith_ok w g o n cap ws h hk _ rfl (by omega) _ (get_some' hl (by omega)) _ rfl _ (get_some' hl (by omega)) _ (get_some' hl (by omega)) _ _ rfl rfl _ ?_
    unfold chk
    rw [good_arC]
    rfl
theorem touch_any : Calls Try.prog 56 #[.slice (some ⟨g, o, none⟩) n cap] w (AlQ w (touchP ws)) := by
  have hl := h.at_.len
  unfold touchP
  cases hk : lastOk ws 3 false with
  | false =>
    simp only [if_false, Bool.false_eq_true]
    exact (touch_no w g o n cap ws h hk).mono (fun e w' h => AlQ.bare rfl h)
  | true =>
    have := lastOk_len hk
    simp only [if_true]
    refine touch_ok w g o n cap ws h hk _ rfl (by omega) _ (get_some' hl (by omega)) _ rfl _ (get_some' hl (by omega)) _ (get_some' hl (by omega)) _ _ rfl rfl _ ?_
    unfold chk
    rw [good_toC]
    rfl
theorem remove_any : Calls Try.prog 57 #[.slice (some ⟨g, o, none⟩) n cap] w (AlQ w (removeP ws)) := by
  have hl := h.at_.len
  unfold removeP
  cases hk : lastOk ws 2 true with
  | false =>
    simp only [if_false, Bool.false_eq_true]
    exact (remove_no w g o n cap ws h hk).mono (fun e w' h => AlQ.bare rfl h)
  | true =>
    have := lastOk_len hk
    simp only [if_true]
    refine remove_ok w g o n cap ws h hk _ rfl (by omega) _ (get_some' hl (by omega)) _ ?_
    unfold chk
    rw [good_deC]
    rfl
theorem flush_any : Calls Try.prog 58 #[.slice (some ⟨g, o, none⟩) n cap] w (AlQ w (flushP ws)) := by
  unfold flushP
  cases hk : lastOk ws 1 true with
  | false =>
    simp only [if_false, Bool.false_eq_true]
    exact (flush_no w g o n cap ws h hk).mono (fun e w' h => AlQ.bare rfl h)
  | true =>
    simp only [if_true]
    exact (flush_ok w g o n cap ws h hk _ rfl).mono (fun e w' h => AlQ.bare rfl h)
theorem word_any : Calls Try.prog 59 #[.slice (some ⟨g, o, none⟩) n cap] w (AlQ w (wordP ws)) := by
  have hl := h.at_.len
  unfold wordP
  by_cases hn : n = 1
  · rw [if_pos (by omega)]
    exact (word_ok w g o n cap ws h hn _ (get_some' hl (by omega))).mono (fun e w' h => AlQ.bare rfl h)
  · rw [if_neg (by omega)]
    exact (word_no w _ n cap hn).mono (fun e w' h => AlQ.bare rfl h)
end
theorem alone_get (w : World) (g o n cap : Nat) (ws : List ByteArray) (h : RowT w (some ⟨g, o, none⟩) n ws) (hcap : n ≤ cap) (h0 : 0 < n) (hx : wd_ ws 0 = mk8 [103, 101, 116]) (r : Cm) (hr : getP ws = r) : Calls Try.prog 37 #[.slice (some ⟨g, o, none⟩) n cap] w (AlQ w r) := by
  have B := (Below.refl w.heap.size w).alloc (Nat.le_refl _) (cmO cmZ (.slice none 0 0))
  have HW := hide (RgB.new w)
  have hc0 : (w.alloc (.cells #[.string ⟨#[]⟩, .string ⟨#[]⟩, .slice none 0 0, .string ⟨#[]⟩, .int .u32 0, .int .i64 0, .int .u64 0, .int .u64 0, .bool false, .bool false, .bool false, .bool false] 33)).cell? ⟨g, o, none⟩ = some (.string ⟨#[103, 101, 116]⟩) := cell_later (g := g) (o := o) (by have := one_cell h 0 _ (get_some' h.at_.len h0); rw [Nat.add_zero, hx] at this; exact this) ((Below.refl _ _).alloc (Nat.le_refl _) _)
  have h1 : (0 : Int) < (n : Int) := by omega
  have s0 : ((⟨#[103, 101, 116]⟩ : ByteArray).toList == [103, 101, 116]) = true := by kernel_rfl
  have HS := hide (fun W hb => hr ▸ get_any W g o n cap ws (h.later hb) hcap)
  clear h hr hx
  go_enter Try.func37, Try.ntmps37
  go_wp2_with fail
  refine (HS.out _ B).mono ?_
  rintro e w' ⟨a', n', c', rfl, hrow, hb⟩
  have HB := HW.out.later hb
  have B := HB.bel
  have e2 := HB.blk
  have HK := hide (keep_row hrow e2)
  have HT := there_cmz e2
  clear HB hrow hb hc0 HS
  simp only []
  go_step
  refine store_stepA (r := r) (a := a') (n := n') (c := c') rfl _ _ rfl w.heap.size rfl rfl HT ?_
  have H2 := heap_cm e2 r (.slice a' n' c')
  have HB2 := below_cm (w0 := w) (b := w.heap.size) B (Nat.le_refl _) r (.slice a' n' c')
  have HK2 := HK.out r (.slice a' n' c')
  clear HT HK e2 B HW
  generalize w'.setCells w.heap.size 0 (cmL r (.slice a' n' c')) = Y at *
  have HH := hide H2
  have HH2 := hide HB2
  have HH3 := hide HK2
  clear H2 HB2 HK2
  go_wp2
  exact ret_cm rfl w.heap.size r (.slice a' n' c') rfl HH.out rfl (AlQ.mk' a' n' c' HH3.out HH2.out)
theorem alone_gets (w : World) (g o n cap : Nat) (ws : List ByteArray) (h : RowT w (some ⟨g, o, none⟩) n ws) (hcap : n ≤ cap) (h0 : 0 < n) (hx : wd_ ws 0 = mk8 [103, 101, 116, 115]) (r : Cm) (hr : getP ws = r) : Calls Try.prog 37 #[.slice (some ⟨g, o, none⟩) n cap] w (AlQ w r) := by
  have B := (Below.refl w.heap.size w).alloc (Nat.le_refl _) (cmO cmZ (.slice none 0 0))
  have HW := hide (RgB.new w)
  have hc0 : (w.alloc (.cells #[.string ⟨#[]⟩, .string ⟨#[]⟩, .slice none 0 0, .string ⟨#[]⟩, .int .u32 0, .int .i64 0, .int .u64 0, .int .u64 0, .bool false, .bool false, .bool false, .bool false] 33)).cell? ⟨g, o, none⟩ = some (.string ⟨#[103, 101, 116, 115]⟩) := cell_later (g := g) (o := o) (by have := one_cell h 0 _ (get_some' h.at_.len h0); rw [Nat.add_zero, hx] at this; exact this) ((Below.refl _ _).alloc (Nat.le_refl _) _)
  have h1 : (0 : Int) < (n : Int) := by omega
  have s0 : ((⟨#[103, 101, 116, 115]⟩ : ByteArray).toList == [103, 101, 116]) = false := by kernel_rfl
  have s1 : ((⟨#[103, 101, 116, 115]⟩ : ByteArray).toList == [103, 101, 116, 115]) = true := by kernel_rfl
  have HS := hide (fun W hb => hr ▸ get_any W g o n cap ws (h.later hb) hcap)
  clear h hr hx
  go_enter Try.func37, Try.ntmps37
  go_wp2_with fail
  refine (HS.out _ B).mono ?_
  rintro e w' ⟨a', n', c', rfl, hrow, hb⟩
  have HB := HW.out.later hb
  have B := HB.bel
  have e2 := HB.blk
  have HK := hide (keep_row hrow e2)
  have HT := there_cmz e2
  clear HB hrow hb hc0 HS
  simp only []
  go_step
  refine store_stepA (r := r) (a := a') (n := n') (c := c') rfl _ _ rfl w.heap.size rfl rfl HT ?_
  have H2 := heap_cm e2 r (.slice a' n' c')
  have HB2 := below_cm (w0 := w) (b := w.heap.size) B (Nat.le_refl _) r (.slice a' n' c')
  have HK2 := HK.out r (.slice a' n' c')
  clear HT HK e2 B HW
  generalize w'.setCells w.heap.size 0 (cmL r (.slice a' n' c')) = Y at *
  have HH := hide H2
  have HH2 := hide HB2
  have HH3 := hide HK2
  clear H2 HB2 HK2
  go_wp2
  exact ret_cm rfl w.heap.size r (.slice a' n' c') rfl HH.out rfl (AlQ.mk' a' n' c' HH3.out HH2.out)
theorem alone_gat (w : World) (g o n cap : Nat) (ws : List ByteArray) (h : RowT w (some ⟨g, o, none⟩) n ws) (hcap : n ≤ cap) (h0 : 0 < n) (hx : wd_ ws 0 = mk8 [103, 97, 116]) (r : Cm) (hr : gatP ws = r) : Calls Try.prog 37 #[.slice (some ⟨g, o, none⟩) n cap] w (AlQ w r) := by
  have B := (Below.refl w.heap.size w).alloc (Nat.le_refl _) (cmO cmZ (.slice none 0 0))
  have HW := hide (RgB.new w)
  have hc0 : (w.alloc (.cells #[.string ⟨#[]⟩, .string ⟨#[]⟩, .slice none 0 0, .string ⟨#[]⟩, .int .u32 0, .int .i64 0, .int .u64 0, .int .u64 0, .bool false, .bool false, .bool false, .bool false] 33)).cell? ⟨g, o, none⟩ = some (.string ⟨#[103, 97, 116]⟩) := cell_later (g := g) (o := o) (by have := one_cell h 0 _ (get_some' h.at_.len h0); rw [Nat.add_zero, hx] at this; exact this) ((Below.refl _ _).alloc (Nat.le_refl _) _)
  have h1 : (0 : Int) < (n : Int) := by omega
  have s0 : ((⟨#[103, 97, 116]⟩ : ByteArray).toList == [103, 101, 116]) = false := by kernel_rfl
  have s1 : ((⟨#[103, 97, 116]⟩ : ByteArray).toList == [103, 101, 116, 115]) = false := by kernel_rfl
  have s2 : ((⟨#[103, 97, 116]⟩ : ByteArray).toList == [103, 97, 116]) = true := by kernel_rfl
  have HS := hide (fun W hb => hr ▸ gat_any W g o n cap ws (h.later hb) hcap)
  clear h hr hx
  go_enter Try.func37, Try.ntmps37
  go_wp2_with fail
  refine (HS.out _ B).mono ?_
  rintro e w' ⟨a', n', c', rfl, hrow, hb⟩
  have HB := HW.out.later hb
  have B := HB.bel
  have e2 := HB.blk
  have HK := hide (keep_row hrow e2)
  have HT := there_cmz e2
  clear HB hrow hb hc0 HS
  simp only []
  go_step
  refine store_stepA (r := r) (a := a') (n := n') (c := c') rfl _ _ rfl w.heap.size rfl rfl HT ?_
  have H2 := heap_cm e2 r (.slice a' n' c')
  have HB2 := below_cm (w0 := w) (b := w.heap.size) B (Nat.le_refl _) r (.slice a' n' c')
  have HK2 := HK.out r (.slice a' n' c')
  clear HT HK e2 B HW
  generalize w'.setCells w.heap.size 0 (cmL r (.slice a' n' c')) = Y at *
  have HH := hide H2
  have HH2 := hide HB2
  have HH3 := hide HK2
  clear H2 HB2 HK2
  go_wp2
  exact ret_cm rfl w.heap.size r (.slice a' n' c') rfl HH.out rfl (AlQ.mk' a' n' c' HH3.out HH2.out)
theorem alone_gats (w : World) (g o n cap : Nat) (ws : List ByteArray) (h : RowT w (some ⟨g, o, none⟩) n ws) (hcap : n ≤ cap) (h0 : 0 < n) (hx : wd_ ws 0 = mk8 [103, 97, 116, 115]) (r : Cm) (hr : gatP ws = r) : Calls Try.prog 37 #[.slice (some ⟨g, o, none⟩) n cap] w (AlQ w r) := by
  have B := (Below.refl w.heap.size w).alloc (Nat.le_refl _) (cmO cmZ (.slice none 0 0))
  have HW := hide (RgB.new w)
  have hc0 : (w.alloc (.cells #[.string ⟨#[]⟩, .string ⟨#[]⟩, .slice none 0 0, .string ⟨#[]⟩, .int .u32 0, .int .i64 0, .int .u64 0, .int .u64 0, .bool false, .bool false, .bool false, .bool false] 33)).cell? ⟨g, o, none⟩ = some (.string ⟨#[103, 97, 116, 115]⟩) := cell_later (g := g) (o := o) (by have := one_cell h 0 _ (get_some' h.at_.len h0); rw [Nat.add_zero, hx] at this; exact this) ((Below.refl _ _).alloc (Nat.le_refl _) _)
  have h1 : (0 : Int) < (n : Int) := by omega
  have s0 : ((⟨#[103, 97, 116, 115]⟩ : ByteArray).toList == [103, 101, 116]) = false := by kernel_rfl
  have s1 : ((⟨#[103, 97, 116, 115]⟩ : ByteArray).toList == [103, 101, 116, 115]) = false := by kernel_rfl
  have s2 : ((⟨#[103, 97, 116, 115]⟩ : ByteArray).toList == [103, 97, 116]) = false := by kernel_rfl
  have s3 : ((⟨#[103, 97, 116, 115]⟩ : ByteArray).toList == [103, 97, 116, 115]) = true := by kernel_rfl
  have HS := hide (fun W hb => hr ▸ gat_any W g o n cap ws (h.later hb) hcap)
  clear h hr hx
  go_enter Try.func37, Try.ntmps37
  go_wp2_with fail
  refine (HS.out _ B).mono ?_
  rintro e w' ⟨a', n', c', rfl, hrow, hb⟩
  have HB := HW.out.later hb
  have B := HB.bel
  have e2 := HB.blk
  have HK := hide (keep_row hrow e2)
  have HT := there_cmz e2
  clear HB hrow hb hc0 HS
  simp only []
  go_step
  refine store_stepA (r := r) (a := a') (n := n') (c := c') rfl _ _ rfl w.heap.size rfl rfl HT ?_
  have H2 := heap_cm e2 r (.slice a' n' c')
  have HB2 := below_cm (w0 := w) (b := w.heap.size) B (Nat.le_refl _) r (.slice a' n' c')
  have HK2 := HK.out r (.slice a' n' c')
  clear HT HK e2 B HW
  generalize w'.setCells w.heap.size 0 (cmL r (.slice a' n' c')) = Y at *
  have HH := hide H2
  have HH2 := hide HB2
  have HH3 := hide HK2
  clear H2 HB2 HK2
  go_wp2
  exact ret_cm rfl w.heap.size r (.slice a' n' c') rfl HH.out rfl (AlQ.mk' a' n' c' HH3.out HH2.out)
theorem alone_incr (w : World) (g o n cap : Nat) (ws : List ByteArray) (h : RowT w (some ⟨g, o, none⟩) n ws) (hcap : n ≤ cap) (h0 : 0 < n) (hx : wd_ ws 0 = mk8 [105, 110, 99, 114]) (r : Cm) (hr : arithP ws = r) : Calls Try.prog 37 #[.slice (some ⟨g, o, none⟩) n cap] w (AlQ w r) := by
  have B := (Below.refl w.heap.size w).alloc (Nat.le_refl _) (cmO cmZ (.slice none 0 0))
  have HW := hide (RgB.new w)
  have hc0 : (w.alloc (.cells #[.string ⟨#[]⟩, .string ⟨#[]⟩, .slice none 0 0, .string ⟨#[]⟩, .int .u32 0, .int .i64 0, .int .u64 0, .int .u64 0, .bool false, .bool false, .bool false, .bool false] 33)).cell? ⟨g, o, none⟩ = some (.string ⟨#[105, 110, 99, 114]⟩) := cell_later (g := g) (o := o) (by have := one_cell h 0 _ (get_some' h.at_.len h0); rw [Nat.add_zero, hx] at this; exact this) ((Below.refl _ _).alloc (Nat.le_refl _) _)
  have h1 : (0 : Int) < (n : Int) := by omega
  have s0 : ((⟨#[105, 110, 99, 114]⟩ : ByteArray).toList == [103, 101, 116]) = false := by kernel_rfl
  have s1 : ((⟨#[105, 110, 99, 114]⟩ : ByteArray).toList == [103, 101, 116, 115]) = false := by kernel_rfl
  have s2 : ((⟨#[105, 110, 99, 114]⟩ : ByteArray).toList == [103, 97, 116]) = false := by kernel_rfl
  have s3 : ((⟨#[105, 110, 99, 114]⟩ : ByteArray).toList == [103, 97, 116, 115]) = false := by kernel_rfl
  have s4 : ((⟨#[105, 110, 99, 114]⟩ : ByteArray).toList == [105, 110, 99, 114]) = true := by kernel_rfl
  have HS := hide (fun W hb => hr ▸ arith_any W g o n cap ws (h.later hb) )
  clear h hr hx
  go_enter Try.func37, Try.ntmps37
  go_wp2_with fail
  refine (HS.out _ B).mono ?_
  rintro e w' ⟨a', n', c', rfl, hrow, hb⟩
  have HB := HW.out.later hb
  have B := HB.bel
  have e2 := HB.blk
  have HK := hide (keep_row hrow e2)
  have HT := there_cmz e2
  clear HB hrow hb hc0 HS
  simp only []
  go_step
  refine store_stepA (r := r) (a := a') (n := n') (c := c') rfl _ _ rfl w.heap.size rfl rfl HT ?_
  have H2 := heap_cm e2 r (.slice a' n' c')
  have HB2 := below_cm (w0 := w) (b := w.heap.size) B (Nat.le_refl _) r (.slice a' n' c')
  have HK2 := HK.out r (.slice a' n' c')
  clear HT HK e2 B HW
  generalize w'.setCells w.heap.size 0 (cmL r (.slice a' n' c')) = Y at *
  have HH := hide H2
  have HH2 := hide HB2
  have HH3 := hide HK2
  clear H2 HB2 HK2
  go_wp2
  exact ret_cm rfl w.heap.size r (.slice a' n' c') rfl HH.out rfl (AlQ.mk' a' n' c' HH3.out HH2.out)
theorem alone_decr (w : World) (g o n cap : Nat) (ws : List ByteArray) (h : RowT w (some ⟨g, o, none⟩) n ws) (hcap : n ≤ cap) (h0 : 0 < n) (hx : wd_ ws 0 = mk8 [100, 101, 99, 114]) (r : Cm) (hr : arithP ws = r) : Calls Try.prog 37 #[.slice (some ⟨g, o, none⟩) n cap] w (AlQ w r) := by
  have B := (Below.refl w.heap.size w).alloc (Nat.le_refl _) (cmO cmZ (.slice none 0 0))
  have HW := hide (RgB.new w)
  have hc0 : (w.alloc (.cells #[.string ⟨#[]⟩, .string ⟨#[]⟩, .slice none 0 0, .string ⟨#[]⟩, .int .u32 0, .int .i64 0, .int .u64 0, .int .u64 0, .bool false, .bool false, .bool false, .bool false] 33)).cell? ⟨g, o, none⟩ = some (.string ⟨#[100, 101, 99, 114]⟩) := cell_later (g := g) (o := o) (by have := one_cell h 0 _ (get_some' h.at_.len h0); rw [Nat.add_zero, hx] at this; exact this) ((Below.refl _ _).alloc (Nat.le_refl _) _)
  have h1 : (0 : Int) < (n : Int) := by omega
  have s0 : ((⟨#[100, 101, 99, 114]⟩ : ByteArray).toList == [103, 101, 116]) = false := by kernel_rfl
  have s1 : ((⟨#[100, 101, 99, 114]⟩ : ByteArray).toList == [103, 101, 116, 115]) = false := by kernel_rfl
  have s2 : ((⟨#[100, 101, 99, 114]⟩ : ByteArray).toList == [103, 97, 116]) = false := by kernel_rfl
  have s3 : ((⟨#[100, 101, 99, 114]⟩ : ByteArray).toList == [103, 97, 116, 115]) = false := by kernel_rfl
  have s4 : ((⟨#[100, 101, 99, 114]⟩ : ByteArray).toList == [105, 110, 99, 114]) = false := by kernel_rfl
  have s5 : ((⟨#[100, 101, 99, 114]⟩ : ByteArray).toList == [100, 101, 99, 114]) = true := by kernel_rfl
  have HS := hide (fun W hb => hr ▸ arith_any W g o n cap ws (h.later hb) )
  clear h hr hx
  go_enter Try.func37, Try.ntmps37
  go_wp2_with fail
  refine (HS.out _ B).mono ?_
  rintro e w' ⟨a', n', c', rfl, hrow, hb⟩
  have HB := HW.out.later hb
  have B := HB.bel
  have e2 := HB.blk
  have HK := hide (keep_row hrow e2)
  have HT := there_cmz e2
  clear HB hrow hb hc0 HS
  simp only []
  go_step
  refine store_stepA (r := r) (a := a') (n := n') (c := c') rfl _ _ rfl w.heap.size rfl rfl HT ?_
  have H2 := heap_cm e2 r (.slice a' n' c')
  have HB2 := below_cm (w0 := w) (b := w.heap.size) B (Nat.le_refl _) r (.slice a' n' c')
  have HK2 := HK.out r (.slice a' n' c')
  clear HT HK e2 B HW
  generalize w'.setCells w.heap.size 0 (cmL r (.slice a' n' c')) = Y at *
  have HH := hide H2
  have HH2 := hide HB2
  have HH3 := hide HK2
  clear H2 HB2 HK2
  go_wp2
  exact ret_cm rfl w.heap.size r (.slice a' n' c') rfl HH.out rfl (AlQ.mk' a' n' c' HH3.out HH2.out)
theorem alone_touch (w : World) (g o n cap : Nat) (ws : List ByteArray) (h : RowT w (some ⟨g, o, none⟩) n ws) (hcap : n ≤ cap) (h0 : 0 < n) (hx : wd_ ws 0 = mk8 [116, 111, 117, 99, 104]) (r : Cm) (hr : touchP ws = r) : Calls Try.prog 37 #[.slice (some ⟨g, o, none⟩) n cap] w (AlQ w r) := by
  have B := (Below.refl w.heap.size w).alloc (Nat.le_refl _) (cmO cmZ (.slice none 0 0))
  have HW := hide (RgB.new w)
  have hc0 : (w.alloc (.cells #[.string ⟨#[]⟩, .string ⟨#[]⟩, .slice none 0 0, .string ⟨#[]⟩, .int .u32 0, .int .i64 0, .int .u64 0, .int .u64 0, .bool false, .bool false, .bool false, .bool false] 33)).cell? ⟨g, o, none⟩ = some (.string ⟨#[116, 111, 117, 99, 104]⟩) := cell_later (g := g) (o := o) (by have := one_cell h 0 _ (get_some' h.at_.len h0); rw [Nat.add_zero, hx] at this; exact this) ((Below.refl _ _).alloc (Nat.le_refl _) _)
  have h1 : (0 : Int) < (n : Int) := by omega
  have s0 : ((⟨#[116, 111, 117, 99, 104]⟩ : ByteArray).toList == [103, 101, 116]) = false := by kernel_rfl
  have s1 : ((⟨#[116, 111, 117, 99, 104]⟩ : ByteArray).toList == [103, 101, 116, 115]) = false := by kernel_rfl
  have s2 : ((⟨#[116, 111, 117, 99, 104]⟩ : ByteArray).toList == [103, 97, 116]) = false := by kernel_rfl
  have s3 : ((⟨#[116, 111, 117, 99, 104]⟩ : ByteArray).toList == [103, 97, 116, 115]) = false := by kernel_rfl
  have s4 : ((⟨#[116, 111, 117, 99, 104]⟩ : ByteArray).toList == [105, 110, 99, 114]) = false := by kernel_rfl
  have s5 : ((⟨#[116, 111, 117, 99, 104]⟩ : ByteArray).toList == [100, 101, 99, 114]) = false := by kernel_rfl
  have s6 : ((⟨#[116, 111, 117, 99, 104]⟩ : ByteArray).toList == [116, 111, 117, 99, 104]) = true := by kernel_rfl
  have HS := hide (fun W hb => hr ▸ touch_any W g o n cap ws (h.later hb) )
  clear h hr hx
  go_enter Try.func37, Try.ntmps37
  go_wp2_with fail
  refine (HS.out _ B).mono ?_
  rintro e w' ⟨a', n', c', rfl, hrow, hb⟩
  have HB := HW.out.later hb
  have B := HB.bel
  have e2 := HB.blk
  have HK := hide (keep_row hrow e2)
  have HT := there_cmz e2
  clear HB hrow hb hc0 HS
  simp only []
  go_step
  refine store_stepA (r := r) (a := a') (n := n') (c := c') rfl _ _ rfl w.heap.size rfl rfl HT ?_
  have H2 := heap_cm e2 r (.slice a' n' c')
  have HB2 := below_cm (w0 := w) (b := w.heap.size) B (Nat.le_refl _) r (.slice a' n' c')
  have HK2 := HK.out r (.slice a' n' c')
  clear HT HK e2 B HW
  generalize w'.setCells w.heap.size 0 (cmL r (.slice a' n' c')) = Y at *
  have HH := hide H2
  have HH2 := hide HB2
  have HH3 := hide HK2
  clear H2 HB2 HK2
  go_wp2
  exact ret_cm rfl w.heap.size r (.slice a' n' c') rfl HH.out rfl (AlQ.mk' a' n' c' HH3.out HH2.out)
theorem alone_delete (w : World) (g o n cap : Nat) (ws : List ByteArray) (h : RowT w (some ⟨g, o, none⟩) n ws) (hcap : n ≤ cap) (h0 : 0 < n) (hx : wd_ ws 0 = mk8 [100, 101, 108, 101, 116, 101]) (r : Cm) (hr : removeP ws = r) : Calls Try.prog 37 #[.slice (some ⟨g, o, none⟩) n cap] w (AlQ w r) := by
  have B := (Below.refl w.heap.size w).alloc (Nat.le_refl _) (cmO cmZ (.slice none 0 0))
  have HW := hide (RgB.new w)
  have hc0 : (w.alloc (.cells #[.string ⟨#[]⟩, .string ⟨#[]⟩, .slice none 0 0, .string ⟨#[]⟩, .int .u32 0, .int .i64 0, .int .u64 0, .int .u64 0, .bool false, .bool false, .bool false, .bool false] 33)).cell? ⟨g, o, none⟩ = some (.string ⟨#[100, 101, 108, 101, 116, 101]⟩) := cell_later (g := g) (o := o) (by have := one_cell h 0 _ (get_some' h.at_.len h0); rw [Nat.add_zero, hx] at this; exact this) ((Below.refl _ _).alloc (Nat.le_refl _) _)
  have h1 : (0 : Int) < (n : Int) := by omega
  have s0 : ((⟨#[100, 101, 108, 101, 116, 101]⟩ : ByteArray).toList == [103, 101, 116]) = false := by kernel_rfl
  have s1 : ((⟨#[100, 101, 108, 101, 116, 101]⟩ : ByteArray).toList == [103, 101, 116, 115]) = false := by kernel_rfl
  have s2 : ((⟨#[100, 101, 108, 101, 116, 101]⟩ : ByteArray).toList == [103, 97, 116]) = false := by kernel_rfl
  have s3 : ((⟨#[100, 101, 108, 101, 116, 101]⟩ : ByteArray).toList == [103, 97, 116, 115]) = false := by kernel_rfl
  have s4 : ((⟨#[100, 101, 108, 101, 116, 101]⟩ : ByteArray).toList == [105, 110, 99, 114]) = false := by kernel_rfl
  have s5 : ((⟨#[100, 101, 108, 101, 116, 101]⟩ : ByteArray).toList == [100, 101, 99, 114]) = false := by kernel_rfl
  have s6 : ((⟨#[100, 101, 108, 101, 116, 101]⟩ : ByteArray).toList == [116, 111, 117, 99, 104]) = false := by kernel_rfl
  have s7 : ((⟨#[100, 101, 108, 101, 116, 101]⟩ : ByteArray).toList == [100, 101, 108, 101, 116, 101]) = true := by kernel_rfl
  have HS := hide (fun W hb => hr ▸ remove_any W g o n cap ws (h.later hb) )
  clear h hr hx
  go_enter Try.func37, Try.ntmps37
  go_wp2_with fail
  refine (HS.out _ B).mono ?_
  rintro e w' ⟨a', n', c', rfl, hrow, hb⟩
  have HB := HW.out.later hb
  have B := HB.bel
  have e2 := HB.blk
  have HK := hide (keep_row hrow e2)
  have HT := there_cmz e2
  clear HB hrow hb hc0 HS
  simp only []
  go_step
  refine store_stepA (r := r) (a := a') (n := n') (c := c') rfl _ _ rfl w.heap.size rfl rfl HT ?_
  have H2 := heap_cm e2 r (.slice a' n' c')
  have HB2 := below_cm (w0 := w) (b := w.heap.size) B (Nat.le_refl _) r (.slice a' n' c')
  have HK2 := HK.out r (.slice a' n' c')
  clear HT HK e2 B HW
  generalize w'.setCells w.heap.size 0 (cmL r (.slice a' n' c')) = Y at *
  have HH := hide H2
  have HH2 := hide HB2
  have HH3 := hide HK2
  clear H2 HB2 HK2
  go_wp2
  exact ret_cm rfl w.heap.size r (.slice a' n' c') rfl HH.out rfl (AlQ.mk' a' n' c' HH3.out HH2.out)
theorem alone_flush_all (w : World) (g o n cap : Nat) (ws : List ByteArray) (h : RowT w (some ⟨g, o, none⟩) n ws) (hcap : n ≤ cap) (h0 : 0 < n) (hx : wd_ ws 0 = mk8 [102, 108, 117, 115, 104, 95, 97, 108, 108]) (r : Cm) (hr : flushP ws = r) : Calls Try.prog 37 #[.slice (some ⟨g, o, none⟩) n cap] w (AlQ w r) := by
  have B := (Below.refl w.heap.size w).alloc (Nat.le_refl _) (cmO cmZ (.slice none 0 0))
  have HW := hide (RgB.new w)
  have hc0 : (w.alloc (.cells #[.string ⟨#[]⟩, .string ⟨#[]⟩, .slice none 0 0, .string ⟨#[]⟩, .int .u32 0, .int .i64 0, .int .u64 0, .int .u64 0, .bool false, .bool false, .bool false, .bool false] 33)).cell? ⟨g, o, none⟩ = some (.string ⟨#[102, 108, 117, 115, 104, 95, 97, 108, 108]⟩) := cell_later (g := g) (o := o) (by have := one_cell h 0 _ (get_some' h.at_.len h0); rw [Nat.add_zero, hx] at this; exact this) ((Below.refl _ _).alloc (Nat.le_refl _) _)
  have h1 : (0 : Int) < (n : Int) := by omega
  have s0 : ((⟨#[102, 108, 117, 115, 104, 95, 97, 108, 108]⟩ : ByteArray).toList == [103, 101, 116]) = false := by kernel_rfl
  have s1 : ((⟨#[102, 108, 117, 115, 104, 95, 97, 108, 108]⟩ : ByteArray).toList == [103, 101, 116, 115]) = false := by kernel_rfl
  have s2 : ((⟨#[102, 108, 117, 115, 104, 95, 97, 108, 108]⟩ : ByteArray).toList == [103, 97, 116]) = false := by kernel_rfl
  have s3 : ((⟨#[102, 108, 117, 115, 104, 95, 97, 108, 108]⟩ : ByteArray).toList == [103, 97, 116, 115]) = false := by kernel_rfl
  have s4 : ((⟨#[102, 108, 117, 115, 104, 95, 97, 108, 108]⟩ : ByteArray).toList == [105, 110, 99, 114]) = false := by kernel_rfl
  have s5 : ((⟨#[102, 108, 117, 115, 104, 95, 97, 108, 108]⟩ : ByteArray).toList == [100, 101, 99, 114]) = false := by kernel_rfl
  have s6 : ((⟨#[102, 108, 117, 115, 104, 95, 97, 108, 108]⟩ : ByteArray).toList == [116, 111, 117, 99, 104]) = false := by kernel_rfl
  have s7 : ((⟨#[102, 108, 117, 115, 104, 95, 97, 108, 108]⟩ : ByteArray).toList == [100, 101, 108, 101, 116, 101]) = false := by kernel_rfl
  have s8 : ((⟨#[102, 108, 117, 115, 104, 95, 97, 108, 108]⟩ : ByteArray).toList == [102, 108, 117, 115, 104, 95, 97, 108, 108]) = true := by kernel_rfl
  have HS := hide (fun W hb => hr ▸ flush_any W g o n cap ws (h.later hb) )
  clear h hr hx
  go_enter Try.func37, Try.ntmps37
  go_wp2_with fail
  refine (HS.out _ B).mono ?_
  rintro e w' ⟨a', n', c', rfl, hrow, hb⟩
  have HB := HW.out.later hb
  have B := HB.bel
  have e2 := HB.blk
  have HK := hide (keep_row hrow e2)
  have HT := there_cmz e2
  clear HB hrow hb hc0 HS
  simp only []
  go_step
  refine store_stepA (r := r) (a := a') (n := n') (c := c') rfl _ _ rfl w.heap.size rfl rfl HT ?_
  have H2 := heap_cm e2 r (.slice a' n' c')
  have HB2 := below_cm (w0 := w) (b := w.heap.size) B (Nat.le_refl _) r (.slice a' n' c')
  have HK2 := HK.out r (.slice a' n' c')
  clear HT HK e2 B HW
  generalize w'.setCells w.heap.size 0 (cmL r (.slice a' n' c')) = Y at *
  have HH := hide H2
  have HH2 := hide HB2
  have HH3 := hide HK2
  clear H2 HB2 HK2
  go_wp2
  exact ret_cm rfl w.heap.size r (.slice a' n' c') rfl HH.out rfl (AlQ.mk' a' n' c' HH3.out HH2.out)
theorem alone_version (w : World) (g o n cap : Nat) (ws : List ByteArray) (h : RowT w (some ⟨g, o, none⟩) n ws) (hcap : n ≤ cap) (h0 : 0 < n) (hx : wd_ ws 0 = mk8 [118, 101, 114, 115, 105, 111, 110]) (r : Cm) (hr : wordP ws = r) : Calls Try.prog 37 #[.slice (some ⟨g, o, none⟩) n cap] w (AlQ w r) := by
  have B := (Below.refl w.heap.size w).alloc (Nat.le_refl _) (cmO cmZ (.slice none 0 0))
  have HW := hide (RgB.new w)
  have hc0 : (w.alloc (.cells #[.string ⟨#[]⟩, .string ⟨#[]⟩, .slice none 0 0, .string ⟨#[]⟩, .int .u32 0, .int .i64 0, .int .u64 0, .int .u64 0, .bool false, .bool false, .bool false, .bool false] 33)).cell? ⟨g, o, none⟩ = some (.string ⟨#[118, 101, 114, 115, 105, 111, 110]⟩) := cell_later (g := g) (o := o) (by have := one_cell h 0 _ (get_some' h.at_.len h0); rw [Nat.add_zero, hx] at this; exact this) ((Below.refl _ _).alloc (Nat.le_refl _) _)
  have h1 : (0 : Int) < (n : Int) := by omega
  have s0 : ((⟨#[118, 101, 114, 115, 105, 111, 110]⟩ : ByteArray).toList == [103, 101, 116]) = false := by kernel_rfl
  have s1 : ((⟨#[118, 101, 114, 115, 105, 111, 110]⟩ : ByteArray).toList == [103, 101, 116, 115]) = false := by kernel_rfl
  have s2 : ((⟨#[118, 101, 114, 115, 105, 111, 110]⟩ : ByteArray).toList == [103, 97, 116]) = false := by kernel_rfl
  have s3 : ((⟨#[118, 101, 114, 115, 105, 111, 110]⟩ : ByteArray).toList == [103, 97, 116, 115]) = false := by kernel_rfl
  have s4 : ((⟨#[118, 101, 114, 115, 105, 111, 110]⟩ : ByteArray).toList == [105, 110, 99, 114]) = false := by kernel_rfl
  have s5 : ((⟨#[118, 101, 114, 115, 105, 111, 110]⟩ : ByteArray).toList == [100, 101, 99, 114]) = false := by kernel_rfl
  have s6 : ((⟨#[118, 101, 114, 115, 105, 111, 110]⟩ : ByteArray).toList == [116, 111, 117, 99, 104]) = false := by kernel_rfl
  have s7 : ((⟨#[118, 101, 114, 115, 105, 111, 110]⟩ : ByteArray).toList == [100, 101, 108, 101, 116, 101]) = false := by kernel_rfl
  have s8 : ((⟨#[118, 101, 114, 115, 105, 111, 110]⟩ : ByteArray).toList == [102, 108, 117, 115, 104, 95, 97, 108, 108]) = false := by kernel_rfl
  have s9 : ((⟨#[118, 101, 114, 115, 105, 111, 110]⟩ : ByteArray).toList == [118, 101, 114, 115, 105, 111, 110]) = true := by kernel_rfl
  have HS := hide (fun W hb => hr ▸ word_any W g o n cap ws (h.later hb) )
  clear h hr hx
  go_enter Try.func37, Try.ntmps37
  go_wp2_with fail
  refine (HS.out _ B).mono ?_
  rintro e w' ⟨a', n', c', rfl, hrow, hb⟩
  have HB := HW.out.later hb
  have B := HB.bel
  have e2 := HB.blk
  have HK := hide (keep_row hrow e2)
  have HT := there_cmz e2
  clear HB hrow hb hc0 HS
  simp only []
  go_step
  refine store_stepA (r := r) (a := a') (n := n') (c := c') rfl _ _ rfl w.heap.size rfl rfl HT ?_
  have H2 := heap_cm e2 r (.slice a' n' c')
  have HB2 := below_cm (w0 := w) (b := w.heap.size) B (Nat.le_refl _) r (.slice a' n' c')
  have HK2 := HK.out r (.slice a' n' c')
  clear HT HK e2 B HW
  generalize w'.setCells w.heap.size 0 (cmL r (.slice a' n' c')) = Y at *
  have HH := hide H2
  have HH2 := hide HB2
  have HH3 := hide HK2
  clear H2 HB2 HK2
  go_wp2
  exact ret_cm rfl w.heap.size r (.slice a' n' c') rfl HH.out rfl (AlQ.mk' a' n' c' HH3.out HH2.out)
theorem alone_quit (w : World) (g o n cap : Nat) (ws : List ByteArray) (h : RowT w (some ⟨g, o, none⟩) n ws) (hcap : n ≤ cap) (h0 : 0 < n) (hx : wd_ ws 0 = mk8 [113, 117, 105, 116]) (r : Cm) (hr : wordP ws = r) : Calls Try.prog 37 #[.slice (some ⟨g, o, none⟩) n cap] w (AlQ w r) := by
  have B := (Below.refl w.heap.size w).alloc (Nat.le_refl _) (cmO cmZ (.slice none 0 0))
  have HW := hide (RgB.new w)
  have hc0 : (w.alloc (.cells #[.string ⟨#[]⟩, .string ⟨#[]⟩, .slice none 0 0, .string ⟨#[]⟩, .int .u32 0, .int .i64 0, .int .u64 0, .int .u64 0, .bool false, .bool false, .bool false, .bool false] 33)).cell? ⟨g, o, none⟩ = some (.string ⟨#[113, 117, 105, 116]⟩) := cell_later (g := g) (o := o) (by have := one_cell h 0 _ (get_some' h.at_.len h0); rw [Nat.add_zero, hx] at this; exact this) ((Below.refl _ _).alloc (Nat.le_refl _) _)
  have h1 : (0 : Int) < (n : Int) := by omega
  have s0 : ((⟨#[113, 117, 105, 116]⟩ : ByteArray).toList == [103, 101, 116]) = false := by kernel_rfl
  have s1 : ((⟨#[113, 117, 105, 116]⟩ : ByteArray).toList == [103, 101, 116, 115]) = false := by kernel_rfl
  have s2 : ((⟨#[113, 117, 105, 116]⟩ : ByteArray).toList == [103, 97, 116]) = false := by kernel_rfl
  have s3 : ((⟨#[113, 117, 105, 116]⟩ : ByteArray).toList == [103, 97, 116, 115]) = false := by kernel_rfl
  have s4 : ((⟨#[113, 117, 105, 116]⟩ : ByteArray).toList == [105, 110, 99, 114]) = false := by kernel_rfl
  have s5 : ((⟨#[113, 117, 105, 116]⟩ : ByteArray).toList == [100, 101, 99, 114]) = false := by kernel_rfl
  have s6 : ((⟨#[113, 117, 105, 116]⟩ : ByteArray).toList == [116, 111, 117, 99, 104]) = false := by kernel_rfl
  have s7 : ((⟨#[113, 117, 105, 116]⟩ : ByteArray).toList == [100, 101, 108, 101, 116, 101]) = false := by kernel_rfl
  have s8 : ((⟨#[113, 117, 105, 116]⟩ : ByteArray).toList == [102, 108, 117, 115, 104, 95, 97, 108, 108]) = false := by kernel_rfl
  have s9 : ((⟨#[113, 117, 105, 116]⟩ : ByteArray).toList == [118, 101, 114, 115, 105, 111, 110]) = false := by kernel_rfl
  have s10 : ((⟨#[113, 117, 105, 116]⟩ : ByteArray).toList == [113, 117, 105, 116]) = true := by kernel_rfl
  have HS := hide (fun W hb => hr ▸ word_any W g o n cap ws (h.later hb) )
  clear h hr hx
  go_enter Try.func37, Try.ntmps37
  go_wp2_with fail
  refine (HS.out _ B).mono ?_
  rintro e w' ⟨a', n', c', rfl, hrow, hb⟩
  have HB := HW.out.later hb
  have B := HB.bel
  have e2 := HB.blk
  have HK := hide (keep_row hrow e2)
  have HT := there_cmz e2
  clear HB hrow hb hc0 HS
  simp only []
  go_step
  refine store_stepA (r := r) (a := a') (n := n') (c := c') rfl _ _ rfl w.heap.size rfl rfl HT ?_
  have H2 := heap_cm e2 r (.slice a' n' c')
  have HB2 := below_cm (w0 := w) (b := w.heap.size) B (Nat.le_refl _) r (.slice a' n' c')
  have HK2 := HK.out r (.slice a' n' c')
  clear HT HK e2 B HW
  generalize w'.setCells w.heap.size 0 (cmL r (.slice a' n' c')) = Y at *
  have HH := hide H2
  have HH2 := hide HB2
  have HH3 := hide HK2
  clear H2 HB2 HK2
  go_wp2
  exact ret_cm rfl w.heap.size r (.slice a' n' c') rfl HH.out rfl (AlQ.mk' a' n' c' HH3.out HH2.out)
theorem alone_none (w : World) (g o n cap : Nat) (ws : List ByteArray) (h : RowT w (some ⟨g, o, none⟩) n ws) (h0 : 0 < n) (s0 : ((wd_ ws 0).toList == [103, 101, 116]) = false) (s1 : ((wd_ ws 0).toList == [103, 101, 116, 115]) = false) (s2 : ((wd_ ws 0).toList == [103, 97, 116]) = false) (s3 : ((wd_ ws 0).toList == [103, 97, 116, 115]) = false) (s4 : ((wd_ ws 0).toList == [105, 110, 99, 114]) = false) (s5 : ((wd_ ws 0).toList == [100, 101, 99, 114]) = false) (s6 : ((wd_ ws 0).toList == [116, 111, 117, 99, 104]) = false) (s7 : ((wd_ ws 0).toList == [100, 101, 108, 101, 116, 101]) = false) (s8 : ((wd_ ws 0).toList == [102, 108, 117, 115, 104, 95, 97, 108, 108]) = false) (s9 : ((wd_ ws 0).toList == [118, 101, 114, 115, 105, 111, 110]) = false) (s10 : ((wd_ ws 0).toList == [113, 117, 105, 116]) = false) : Calls Try.prog 37 #[.slice (some ⟨g, o, none⟩) n cap] w (AlQ w errC) := by
  have B := (Below.refl w.heap.size w).alloc (Nat.le_refl _) (cmO cmZ (.slice none 0 0))
  have HW := hide (RgB.new w)
  have hc0 : (w.alloc (.cells #[.string ⟨#[]⟩, .string ⟨#[]⟩, .slice none 0 0, .string ⟨#[]⟩, .int .u32 0, .int .i64 0, .int .u64 0, .int .u64 0, .bool false, .bool false, .bool false, .bool false] 33)).cell? ⟨g, o, none⟩ = some (.string (wd_ ws 0)) := cell_later (g := g) (o := o) (by have := one_cell h 0 _ (get_some' h.at_.len h0); rw [Nat.add_zero] at this; exact this) ((Below.refl _ _).alloc (Nat.le_refl _) _)
  have h1 : (0 : Int) < (n : Int) := by omega
  generalize wd_ ws 0 = x at *
  clear h
  go_enter Try.func37, Try.ntmps37
  go_wp2_with fail
  refine (bad_any _ _).mono ?_
  rintro e w' ⟨rfl, hb⟩
  have HB := HW.out.later hb
  have B := HB.bel
  have e2 := HB.blk
  obtain ⟨p0, p1, p2, p3, p4, p5, p6, p7, p8, p9, p10, p11⟩ := CmAt.of e2
  obtain ⟨f0, f1, f2, f3, f4, f5, f6, f7, f8, f9, f10, f11⟩ := CmFz.of e2
  have H2 := hide (fun c v => heap_cm e2 c v)
  clear e2 HB hb
  go_wp2
  exact ret_cm rfl w.heap.size errC (.slice none 0 0) rfl (H2.out errC (.slice none 0 0)) rfl (AlQ.bare rfl ⟨rfl, below_cm B (by omega) errC (.slice none 0 0)⟩)
end Go.Proofs.Ytmfjaehajdephab

/-
  One of any line.
-/
namespace Go.Proofs.Ytmfjaehajdephab
open Go.Shelf Go.RowKit Go.Deep
set_option linter.unusedVariables false
set_option linter.unusedSimpArgs false
set_option maxRecDepth 1000000

theorem spl_len (l : List UInt8) : ∀ w, (spl w l).length ≤ l.length + 1 := by
  induction l with
  | nil => intro w; simp only [spl]; split <;> simp
  | cons b t ih =>
    intro w
    simp only [spl, List.length_cons]
    have := ih []
    have h2 := ih (w ++ [b])
    repeat' split
    all_goals (try simp only [List.length_cons])
    all_goals omega
theorem spl_fit (l : List UInt8) : ∀ w x, x ∈ spl w l → x.length ≤ w.length + l.length := by
  induction l with
  | nil =>
    intro w x h
    simp only [spl] at h
    split at h
    · simp at h
    · simp at h; subst h; simp
  | cons b t ih =>
    intro w x h
    simp only [spl] at h
    split at h
    · split at h
      · have := ih _ _ h; simp at this ⊢; omega
      · rcases List.mem_cons.1 h with h | h
        · subst h; simp
        · have := ih _ _ h; simp at this ⊢; omega
    · have := ih _ _ h; simp at this ⊢; omega
theorem split_row (s : ByteArray) (w : World) (hs : s.size ≤ 4900) : Calls Try.prog 34 #[.string s] w fun e w' => ∃ a n c, e = .returned (.slice a n c) ∧ RowT w' a n (wordsB s) ∧ n ≤ c ∧ (∀ x, a = some x → ∃ g, x = ⟨g, 0, none⟩ ∧ w.heap.size ≤ g) ∧ Below w.heap.size w w' := by
  refine (split_any s w (by omega)).mono ?_
  rintro e w' ⟨v, rfl, ho, hb⟩
  have hl := spl_len s.data.toList []
  have hsz : s.data.toList.length = s.size := size8 s
  have hmap : (spl [] s.data.toList).map strV = strC (wordsB s) := by
    unfold wordsB strC
    rw [List.map_map]
    rfl
  unfold Own at ho
  rw [hmap] at ho
  have hn : (spl [] s.data.toList).length ≤ 5000 := by omega
  have hf : ∀ x ∈ wordsB s, x.size ≤ 140737488351232 := by
    intro x hx
    unfold wordsB at hx
    obtain ⟨y, hy, rfl⟩ := List.mem_map.1 hx
    have := spl_fit _ _ _ hy
    have e : (mk8 y).size = y.length := rfl
    rw [e]
    simp at this
    omega
  rcases ho.2 with ⟨hv, h0⟩ | ⟨g, cap, cur, hv, hB, hg, h1, h2, h3, h4⟩
  · subst hv
    have h0' : (spl [] s.data.toList).length = 0 := h0
    rw [h0'] at ho
    exact ⟨none, 0, 0, rfl, own_row ho hf (by omega), Nat.le_refl _, fun x hx => (by cases hx), hb⟩
  · subst hv
    exact ⟨_, _, _, rfl, own_row ho hf hn, h1, fun x hx => (by cases hx; exact ⟨g, rfl, hB⟩), hb⟩
theorem one_nil (s : ByteArray) (w : World) (hs : s.size ≤ 4900) (h0 : (wordsB s).length = 0) : Calls Try.prog 17 #[.string s] w (OneR w errC (-1)) := by
  have HW := hide (RgB.new w)
  have HS := hide (fun W => split_row s W hs)
  go_enter Try.func17, Try.ntmps17
  go_wp2_with fail
  refine (HS.out _).mono ?_
  rintro e w1 ⟨a, n, c, rfl, hrow, hcap, haa, hb⟩
  have HB1 := hide (HW.out.later hb)
  have hl := hrow.at_.len
  clear hb HS HW haa
  obtain rfl : n = 0 := by omega
  clear hrow hcap h0 hl
  go_wp2_with fail
  refine (bad_any _ _).mono ?_
  rintro e w' ⟨rfl, hb⟩
  have HB := HB1.out.later hb
  have B := HB.bel
  have e2 := HB.blk
  obtain ⟨p0, p1, p2, p3, p4, p5, p6, p7, p8, p9, p10, p11⟩ := CmAt.of e2
  obtain ⟨f0, f1, f2, f3, f4, f5, f6, f7, f8, f9, f10, f11⟩ := CmFz.of e2
  have H2 := hide (fun c v => heap_cm e2 c v)
  clear e2 HB hb HB1
  go_wp2
  exact ret_cm2 rfl w.heap.size errC (.slice none 0 0) rfl (H2.out errC (.slice none 0 0)) rfl (OneR.mk' none 0 0 RowT.nil (below_cm B (by omega) errC (.slice none 0 0)))
theorem one_set (s : ByteArray) (w : World) (hs : s.size ≤ 4900) (h0 : 0 < (wordsB s).length) (hx : wd_ (wordsB s) 0 = mk8 [115, 101, 116]) (r : Cm) (k : Int) (hr : OneR w r k = OneR w (storeP (wordsB s) 5).1 (sizeI (storeP (wordsB s) 5).2)) (hr1 : (storeP (wordsB s) 5).1 = r) (hr2 : sizeI (storeP (wordsB s) 5).2 = k) : Calls Try.prog 17 #[.string s] w (OneR w r k) := by
  have s0 : ((⟨#[115, 101, 116]⟩ : ByteArray).toList == [115, 101, 116]) = true := by kernel_rfl
  have hcb : casB (wordsB s) = false := by unfold casB; rw [hx]; kernel_rfl
  have hsb : storesB (wd_ (wordsB s) 0) ⟨#[]⟩ = true := by rw [hx]; kernel_rfl
  have HW := hide (RgB.new w)
  have HS := hide (fun W => split_row s W hs)
  go_enter Try.func17, Try.ntmps17
  go_wp2_with fail
  refine (HS.out _).mono ?_
  rintro e w1 ⟨a, n, c, rfl, hrow, hcap, haa, hb⟩
  have HB1 := hide (HW.out.later hb)
  have hl := hrow.at_.len
  clear hb HS HW haa
  have g0 := get_some hl (show 0 < n by omega)
  obtain ⟨g, oo, x, rfl, _, _, _, _⟩ := hrow.at_.key 0 (by omega)
  have HST := hide (store_any_n w1 g oo n c (wordsB s) hrow hcb hsb)
  unfold OneQ at HST
  rw [hr1, hr2] at HST
  have hc0 := (one_cell hrow 0 _ g0).2
  rw [Nat.add_zero, hx] at hc0
  have hc0' : w1.cell? ⟨g, oo, none⟩ = some (.string ⟨#[115, 101, 116]⟩) := hc0
  have hn0 : 0 < n := by omega
  have hn1 : (0 : Int) < (n : Int) := by omega
  have hn2 : ((n : Int) == 0) = false := by simp; omega
  clear hrow g0 hc0 hl hr hr1 hr2 hx h0 hcb hsb
  go_wp2_with fail
  refine HST.out.mono ?_
  rintro e w' ⟨a', n', c', rfl, hrow2, hb⟩
  have HB := HB1.out.later hb
  have B := HB.bel
  have e2 := HB.blk
  have HK := hide (keep_row hrow2 e2)
  have HT := there_cmz e2
  clear HB hrow2 hb HB1
  simp only []
  go_step
  go_step
  go_step
  go_step
  go_step
  go_step
  go_step
  refine store_stepA (r := r) (a := a') (n := n') (c := c') rfl _ _ rfl w.heap.size rfl rfl HT ?_
  have H2 := heap_cm e2 r (.slice a' n' c')
  have HB2 := below_cm (w0 := w) (b := w.heap.size) B (Nat.le_refl _) r (.slice a' n' c')
  have HK2 := HK.out r (.slice a' n' c')
  clear HT HK e2 B
  generalize w'.setCells w.heap.size 0 (cmL r (.slice a' n' c')) = Y at *
  have HH := hide H2
  have HH2 := hide HB2
  have HH3 := hide HK2
  clear H2 HB2 HK2
  go_wp2
  exact ret_cm2 rfl w.heap.size r (.slice a' n' c') rfl HH.out rfl (OneR.mk' a' n' c' HH3.out HH2.out)
theorem one_add (s : ByteArray) (w : World) (hs : s.size ≤ 4900) (h0 : 0 < (wordsB s).length) (hx : wd_ (wordsB s) 0 = mk8 [97, 100, 100]) (r : Cm) (k : Int) (hr : OneR w r k = OneR w (storeP (wordsB s) 5).1 (sizeI (storeP (wordsB s) 5).2)) (hr1 : (storeP (wordsB s) 5).1 = r) (hr2 : sizeI (storeP (wordsB s) 5).2 = k) : Calls Try.prog 17 #[.string s] w (OneR w r k) := by
  have s0 : ((⟨#[97, 100, 100]⟩ : ByteArray).toList == [115, 101, 116]) = false := by kernel_rfl
  have s1 : ((⟨#[97, 100, 100]⟩ : ByteArray).toList == [97, 100, 100]) = true := by kernel_rfl
  have hcb : casB (wordsB s) = false := by unfold casB; rw [hx]; kernel_rfl
  have hsb : storesB (wd_ (wordsB s) 0) ⟨#[]⟩ = true := by rw [hx]; kernel_rfl
  have HW := hide (RgB.new w)
  have HS := hide (fun W => split_row s W hs)
  go_enter Try.func17, Try.ntmps17
  go_wp2_with fail
  refine (HS.out _).mono ?_
  rintro e w1 ⟨a, n, c, rfl, hrow, hcap, haa, hb⟩
  have HB1 := hide (HW.out.later hb)
  have hl := hrow.at_.len
  clear hb HS HW haa
  have g0 := get_some hl (show 0 < n by omega)
  obtain ⟨g, oo, x, rfl, _, _, _, _⟩ := hrow.at_.key 0 (by omega)
  have HST := hide (store_any_n w1 g oo n c (wordsB s) hrow hcb hsb)
  unfold OneQ at HST
  rw [hr1, hr2] at HST
  have hc0 := (one_cell hrow 0 _ g0).2
  rw [Nat.add_zero, hx] at hc0
  have hc0' : w1.cell? ⟨g, oo, none⟩ = some (.string ⟨#[97, 100, 100]⟩) := hc0
  have hn0 : 0 < n := by omega
  have hn1 : (0 : Int) < (n : Int) := by omega
  have hn2 : ((n : Int) == 0) = false := by simp; omega
  clear hrow g0 hc0 hl hr hr1 hr2 hx h0 hcb hsb
  go_wp2_with fail
  refine HST.out.mono ?_
  rintro e w' ⟨a', n', c', rfl, hrow2, hb⟩
  have HB := HB1.out.later hb
  have B := HB.bel
  have e2 := HB.blk
  have HK := hide (keep_row hrow2 e2)
  have HT := there_cmz e2
  clear HB hrow2 hb HB1
  simp only []
  go_step
  go_step
  go_step
  go_step
  go_step
  go_step
  go_step
  refine store_stepA (r := r) (a := a') (n := n') (c := c') rfl _ _ rfl w.heap.size rfl rfl HT ?_
  have H2 := heap_cm e2 r (.slice a' n' c')
  have HB2 := below_cm (w0 := w) (b := w.heap.size) B (Nat.le_refl _) r (.slice a' n' c')
  have HK2 := HK.out r (.slice a' n' c')
  clear HT HK e2 B
  generalize w'.setCells w.heap.size 0 (cmL r (.slice a' n' c')) = Y at *
  have HH := hide H2
  have HH2 := hide HB2
  have HH3 := hide HK2
  clear H2 HB2 HK2
  go_wp2
  exact ret_cm2 rfl w.heap.size r (.slice a' n' c') rfl HH.out rfl (OneR.mk' a' n' c' HH3.out HH2.out)
theorem one_replace (s : ByteArray) (w : World) (hs : s.size ≤ 4900) (h0 : 0 < (wordsB s).length) (hx : wd_ (wordsB s) 0 = mk8 [114, 101, 112, 108, 97, 99, 101]) (r : Cm) (k : Int) (hr : OneR w r k = OneR w (storeP (wordsB s) 5).1 (sizeI (storeP (wordsB s) 5).2)) (hr1 : (storeP (wordsB s) 5).1 = r) (hr2 : sizeI (storeP (wordsB s) 5).2 = k) : Calls Try.prog 17 #[.string s] w (OneR w r k) := by
  have s0 : ((⟨#[114, 101, 112, 108, 97, 99, 101]⟩ : ByteArray).toList == [115, 101, 116]) = false := by kernel_rfl
  have s1 : ((⟨#[114, 101, 112, 108, 97, 99, 101]⟩ : ByteArray).toList == [97, 100, 100]) = false := by kernel_rfl
  have s2 : ((⟨#[114, 101, 112, 108, 97, 99, 101]⟩ : ByteArray).toList == [114, 101, 112, 108, 97, 99, 101]) = true := by kernel_rfl
  have hcb : casB (wordsB s) = false := by unfold casB; rw [hx]; kernel_rfl
  have hsb : storesB (wd_ (wordsB s) 0) ⟨#[]⟩ = true := by rw [hx]; kernel_rfl
  have HW := hide (RgB.new w)
  have HS := hide (fun W => split_row s W hs)
  go_enter Try.func17, Try.ntmps17
  go_wp2_with fail
  refine (HS.out _).mono ?_
  rintro e w1 ⟨a, n, c, rfl, hrow, hcap, haa, hb⟩
  have HB1 := hide (HW.out.later hb)
  have hl := hrow.at_.len
  clear hb HS HW haa
  have g0 := get_some hl (show 0 < n by omega)
  obtain ⟨g, oo, x, rfl, _, _, _, _⟩ := hrow.at_.key 0 (by omega)
  have HST := hide (store_any_n w1 g oo n c (wordsB s) hrow hcb hsb)
  unfold OneQ at HST
  rw [hr1, hr2] at HST
  have hc0 := (one_cell hrow 0 _ g0).2
  rw [Nat.add_zero, hx] at hc0
  have hc0' : w1.cell? ⟨g, oo, none⟩ = some (.string ⟨#[114, 101, 112, 108, 97, 99, 101]⟩) := hc0
  have hn0 : 0 < n := by omega
  have hn1 : (0 : Int) < (n : Int) := by omega
  have hn2 : ((n : Int) == 0) = false := by simp; omega
  clear hrow g0 hc0 hl hr hr1 hr2 hx h0 hcb hsb
  go_wp2_with fail
  refine HST.out.mono ?_
  rintro e w' ⟨a', n', c', rfl, hrow2, hb⟩
  have HB := HB1.out.later hb
  have B := HB.bel
  have e2 := HB.blk
  have HK := hide (keep_row hrow2 e2)
  have HT := there_cmz e2
  clear HB hrow2 hb HB1
  simp only []
  go_step
  go_step
  go_step
  go_step
  go_step
  go_step
  go_step
  refine store_stepA (r := r) (a := a') (n := n') (c := c') rfl _ _ rfl w.heap.size rfl rfl HT ?_
  have H2 := heap_cm e2 r (.slice a' n' c')
  have HB2 := below_cm (w0 := w) (b := w.heap.size) B (Nat.le_refl _) r (.slice a' n' c')
  have HK2 := HK.out r (.slice a' n' c')
  clear HT HK e2 B
  generalize w'.setCells w.heap.size 0 (cmL r (.slice a' n' c')) = Y at *
  have HH := hide H2
  have HH2 := hide HB2
  have HH3 := hide HK2
  clear H2 HB2 HK2
  go_wp2
  exact ret_cm2 rfl w.heap.size r (.slice a' n' c') rfl HH.out rfl (OneR.mk' a' n' c' HH3.out HH2.out)
theorem one_append (s : ByteArray) (w : World) (hs : s.size ≤ 4900) (h0 : 0 < (wordsB s).length) (hx : wd_ (wordsB s) 0 = mk8 [97, 112, 112, 101, 110, 100]) (r : Cm) (k : Int) (hr : OneR w r k = OneR w (storeP (wordsB s) 5).1 (sizeI (storeP (wordsB s) 5).2)) (hr1 : (storeP (wordsB s) 5).1 = r) (hr2 : sizeI (storeP (wordsB s) 5).2 = k) : Calls Try.prog 17 #[.string s] w (OneR w r k) := by
  have s0 : ((⟨#[97, 112, 112, 101, 110, 100]⟩ : ByteArray).toList == [115, 101, 116]) = false := by kernel_rfl
  have s1 : ((⟨#[97, 112, 112, 101, 110, 100]⟩ : ByteArray).toList == [97, 100, 100]) = false := by kernel_rfl
  have s2 : ((⟨#[97, 112, 112, 101, 110, 100]⟩ : ByteArray).toList == [114, 101, 112, 108, 97, 99, 101]) = false := by kernel_rfl
  have s3 : ((⟨#[97, 112, 112, 101, 110, 100]⟩ : ByteArray).toList == [97, 112, 112, 101, 110, 100]) = true := by kernel_rfl
  have hcb : casB (wordsB s) = false := by unfold casB; rw [hx]; kernel_rfl
  have hsb : storesB (wd_ (wordsB s) 0) ⟨#[]⟩ = true := by rw [hx]; kernel_rfl
  have HW := hide (RgB.new w)
  have HS := hide (fun W => split_row s W hs)
  go_enter Try.func17, Try.ntmps17
  go_wp2_with fail
  refine (HS.out _).mono ?_
  rintro e w1 ⟨a, n, c, rfl, hrow, hcap, haa, hb⟩
  have HB1 := hide (HW.out.later hb)
  have hl := hrow.at_.len
  clear hb HS HW haa
  have g0 := get_some hl (show 0 < n by omega)
  obtain ⟨g, oo, x, rfl, _, _, _, _⟩ := hrow.at_.key 0 (by omega)
  have HST := hide (store_any_n w1 g oo n c (wordsB s) hrow hcb hsb)
  unfold OneQ at HST
  rw [hr1, hr2] at HST
  have hc0 := (one_cell hrow 0 _ g0).2
  rw [Nat.add_zero, hx] at hc0
  have hc0' : w1.cell? ⟨g, oo, none⟩ = some (.string ⟨#[97, 112, 112, 101, 110, 100]⟩) := hc0
  have hn0 : 0 < n := by omega
  have hn1 : (0 : Int) < (n : Int) := by omega
  have hn2 : ((n : Int) == 0) = false := by simp; omega
  clear hrow g0 hc0 hl hr hr1 hr2 hx h0 hcb hsb
  go_wp2_with fail
  refine HST.out.mono ?_
  rintro e w' ⟨a', n', c', rfl, hrow2, hb⟩
  have HB := HB1.out.later hb
  have B := HB.bel
  have e2 := HB.blk
  have HK := hide (keep_row hrow2 e2)
  have HT := there_cmz e2
  clear HB hrow2 hb HB1
  simp only []
  go_step
  go_step
  go_step
  go_step
  go_step
  go_step
  go_step
  refine store_stepA (r := r) (a := a') (n := n') (c := c') rfl _ _ rfl w.heap.size rfl rfl HT ?_
  have H2 := heap_cm e2 r (.slice a' n' c')
  have HB2 := below_cm (w0 := w) (b := w.heap.size) B (Nat.le_refl _) r (.slice a' n' c')
  have HK2 := HK.out r (.slice a' n' c')
  clear HT HK e2 B
  generalize w'.setCells w.heap.size 0 (cmL r (.slice a' n' c')) = Y at *
  have HH := hide H2
  have HH2 := hide HB2
  have HH3 := hide HK2
  clear H2 HB2 HK2
  go_wp2
  exact ret_cm2 rfl w.heap.size r (.slice a' n' c') rfl HH.out rfl (OneR.mk' a' n' c' HH3.out HH2.out)
theorem one_prepend (s : ByteArray) (w : World) (hs : s.size ≤ 4900) (h0 : 0 < (wordsB s).length) (hx : wd_ (wordsB s) 0 = mk8 [112, 114, 101, 112, 101, 110, 100]) (r : Cm) (k : Int) (hr : OneR w r k = OneR w (storeP (wordsB s) 5).1 (sizeI (storeP (wordsB s) 5).2)) (hr1 : (storeP (wordsB s) 5).1 = r) (hr2 : sizeI (storeP (wordsB s) 5).2 = k) : Calls Try.prog 17 #[.string s] w (OneR w r k) := by
  have s0 : ((⟨#[112, 114, 101, 112, 101, 110, 100]⟩ : ByteArray).toList == [115, 101, 116]) = false := by kernel_rfl
  have s1 : ((⟨#[112, 114, 101, 112, 101, 110, 100]⟩ : ByteArray).toList == [97, 100, 100]) = false := by kernel_rfl
  have s2 : ((⟨#[112, 114, 101, 112, 101, 110, 100]⟩ : ByteArray).toList == [114, 101, 112, 108, 97, 99, 101]) = false := by kernel_rfl
  have s3 : ((⟨#[112, 114, 101, 112, 101, 110, 100]⟩ : ByteArray).toList == [97, 112, 112, 101, 110, 100]) = false := by kernel_rfl
  have s4 : ((⟨#[112, 114, 101, 112, 101, 110, 100]⟩ : ByteArray).toList == [112, 114, 101, 112, 101, 110, 100]) = true := by kernel_rfl
  have hcb : casB (wordsB s) = false := by unfold casB; rw [hx]; kernel_rfl
  have hsb : storesB (wd_ (wordsB s) 0) ⟨#[]⟩ = true := by rw [hx]; kernel_rfl
  have HW := hide (RgB.new w)
  have HS := hide (fun W => split_row s W hs)
  go_enter Try.func17, Try.ntmps17
  go_wp2_with fail
  refine (HS.out _).mono ?_
  rintro e w1 ⟨a, n, c, rfl, hrow, hcap, haa, hb⟩
  have HB1 := hide (HW.out.later hb)
  have hl := hrow.at_.len
  clear hb HS HW haa
  have g0 := get_some hl (show 0 < n by omega)
  obtain ⟨g, oo, x, rfl, _, _, _, _⟩ := hrow.at_.key 0 (by omega)
  have HST := hide (store_any_n w1 g oo n c (wordsB s) hrow hcb hsb)
  unfold OneQ at HST
  rw [hr1, hr2] at HST
  have hc0 := (one_cell hrow 0 _ g0).2
  rw [Nat.add_zero, hx] at hc0
  have hc0' : w1.cell? ⟨g, oo, none⟩ = some (.string ⟨#[112, 114, 101, 112, 101, 110, 100]⟩) := hc0
  have hn0 : 0 < n := by omega
  have hn1 : (0 : Int) < (n : Int) := by omega
  have hn2 : ((n : Int) == 0) = false := by simp; omega
  clear hrow g0 hc0 hl hr hr1 hr2 hx h0 hcb hsb
  go_wp2_with fail
  refine HST.out.mono ?_
  rintro e w' ⟨a', n', c', rfl, hrow2, hb⟩
  have HB := HB1.out.later hb
  have B := HB.bel
  have e2 := HB.blk
  have HK := hide (keep_row hrow2 e2)
  have HT := there_cmz e2
  clear HB hrow2 hb HB1
  simp only []
  go_step
  go_step
  go_step
  go_step
  go_step
  go_step
  go_step
  refine store_stepA (r := r) (a := a') (n := n') (c := c') rfl _ _ rfl w.heap.size rfl rfl HT ?_
  have H2 := heap_cm e2 r (.slice a' n' c')
  have HB2 := below_cm (w0 := w) (b := w.heap.size) B (Nat.le_refl _) r (.slice a' n' c')
  have HK2 := HK.out r (.slice a' n' c')
  clear HT HK e2 B
  generalize w'.setCells w.heap.size 0 (cmL r (.slice a' n' c')) = Y at *
  have HH := hide H2
  have HH2 := hide HB2
  have HH3 := hide HK2
  clear H2 HB2 HK2
  go_wp2
  exact ret_cm2 rfl w.heap.size r (.slice a' n' c') rfl HH.out rfl (OneR.mk' a' n' c' HH3.out HH2.out)
theorem one_cas (s : ByteArray) (w : World) (hs : s.size ≤ 4900) (h0 : 0 < (wordsB s).length) (hx : wd_ (wordsB s) 0 = mk8 [99, 97, 115]) (r : Cm) (k : Int) (hr : OneR w r k = OneR w (storeP (wordsB s) 6).1 (sizeI (storeP (wordsB s) 6).2)) (hr1 : (storeP (wordsB s) 6).1 = r) (hr2 : sizeI (storeP (wordsB s) 6).2 = k) : Calls Try.prog 17 #[.string s] w (OneR w r k) := by
  have s0 : ((⟨#[99, 97, 115]⟩ : ByteArray).toList == [115, 101, 116]) = false := by kernel_rfl
  have s1 : ((⟨#[99, 97, 115]⟩ : ByteArray).toList == [97, 100, 100]) = false := by kernel_rfl
  have s2 : ((⟨#[99, 97, 115]⟩ : ByteArray).toList == [114, 101, 112, 108, 97, 99, 101]) = false := by kernel_rfl
  have s3 : ((⟨#[99, 97, 115]⟩ : ByteArray).toList == [97, 112, 112, 101, 110, 100]) = false := by kernel_rfl
  have s4 : ((⟨#[99, 97, 115]⟩ : ByteArray).toList == [112, 114, 101, 112, 101, 110, 100]) = false := by kernel_rfl
  have s5 : ((⟨#[99, 97, 115]⟩ : ByteArray).toList == [99, 97, 115]) = true := by kernel_rfl
  have hcb : casB (wordsB s) = true := by unfold casB; rw [hx]; kernel_rfl
  have hsb : storesB (wd_ (wordsB s) 0) ⟨#[]⟩ = true := by rw [hx]; kernel_rfl
  have HW := hide (RgB.new w)
  have HS := hide (fun W => split_row s W hs)
  go_enter Try.func17, Try.ntmps17
  go_wp2_with fail
  refine (HS.out _).mono ?_
  rintro e w1 ⟨a, n, c, rfl, hrow, hcap, haa, hb⟩
  have HB1 := hide (HW.out.later hb)
  have hl := hrow.at_.len
  clear hb HS HW haa
  have g0 := get_some hl (show 0 < n by omega)
  obtain ⟨g, oo, x, rfl, _, _, _, _⟩ := hrow.at_.key 0 (by omega)
  have HST := hide (store_any_c w1 g oo n c (wordsB s) hrow hcb hsb)
  unfold OneQ at HST
  rw [hr1, hr2] at HST
  have hc0 := (one_cell hrow 0 _ g0).2
  rw [Nat.add_zero, hx] at hc0
  have hc0' : w1.cell? ⟨g, oo, none⟩ = some (.string ⟨#[99, 97, 115]⟩) := hc0
  have hn0 : 0 < n := by omega
  have hn1 : (0 : Int) < (n : Int) := by omega
  have hn2 : ((n : Int) == 0) = false := by simp; omega
  clear hrow g0 hc0 hl hr hr1 hr2 hx h0 hcb hsb
  go_wp2_with fail
  refine HST.out.mono ?_
  rintro e w' ⟨a', n', c', rfl, hrow2, hb⟩
  have HB := HB1.out.later hb
  have B := HB.bel
  have e2 := HB.blk
  have HK := hide (keep_row hrow2 e2)
  have HT := there_cmz e2
  clear HB hrow2 hb HB1
  simp only []
  go_step
  go_step
  go_step
  go_step
  go_step
  go_step
  go_step
  refine store_stepA (r := r) (a := a') (n := n') (c := c') rfl _ _ rfl w.heap.size rfl rfl HT ?_
  have H2 := heap_cm e2 r (.slice a' n' c')
  have HB2 := below_cm (w0 := w) (b := w.heap.size) B (Nat.le_refl _) r (.slice a' n' c')
  have HK2 := HK.out r (.slice a' n' c')
  clear HT HK e2 B
  generalize w'.setCells w.heap.size 0 (cmL r (.slice a' n' c')) = Y at *
  have HH := hide H2
  have HH2 := hide HB2
  have HH3 := hide HK2
  clear H2 HB2 HK2
  go_wp2
  exact ret_cm2 rfl w.heap.size r (.slice a' n' c') rfl HH.out rfl (OneR.mk' a' n' c' HH3.out HH2.out)
theorem one_alone (s : ByteArray) (w : World) (hs : s.size ≤ 4900) (h0 : 0 < (wordsB s).length) (s0 : ((wd_ (wordsB s) 0).toList == [115, 101, 116]) = false) (s1 : ((wd_ (wordsB s) 0).toList == [97, 100, 100]) = false) (s2 : ((wd_ (wordsB s) 0).toList == [114, 101, 112, 108, 97, 99, 101]) = false) (s3 : ((wd_ (wordsB s) 0).toList == [97, 112, 112, 101, 110, 100]) = false) (s4 : ((wd_ (wordsB s) 0).toList == [112, 114, 101, 112, 101, 110, 100]) = false) (s5 : ((wd_ (wordsB s) 0).toList == [99, 97, 115]) = false) (r : Cm)
    (hr : ∀ W g o n c, RowT W (some ⟨g, o, none⟩) n (wordsB s) → n ≤ c → 0 < n → Calls Try.prog 37 #[.slice (some ⟨g, o, none⟩) n c] W (AlQ W r)) : Calls Try.prog 17 #[.string s] w (OneR w r (-1)) := by
  have HR := hide hr
  clear hr
  have HW := hide (RgB.new w)
  have HS := hide (fun W => split_row s W hs)
  go_enter Try.func17, Try.ntmps17
  go_wp2_with fail
  refine (HS.out _).mono ?_
  rintro e w1 ⟨a, n, c, rfl, hrow, hcap, haa, hb⟩
  have HB1 := hide (HW.out.later hb)
  have hl := hrow.at_.len
  clear hb HS HW haa
  have g0 := get_some hl (show 0 < n by omega)
  obtain ⟨g, oo, x, rfl, _, _, _, _⟩ := hrow.at_.key 0 (by omega)
  have HST := hide (HR.out w1 g oo n c hrow hcap (by omega))
  have hc0 := (one_cell hrow 0 _ g0).2
  rw [Nat.add_zero] at hc0
  have hn0 : 0 < n := by omega
  have hn1 : (0 : Int) < (n : Int) := by omega
  have hn2 : ((n : Int) == 0) = false := by simp; omega
  clear hrow g0 hl h0 HR
  generalize wd_ (wordsB s) 0 = x0 at *
  go_wp2_with fail
  refine HST.out.mono ?_
  rintro e w' ⟨a', n', c', rfl, hrow2, hb⟩
  have HB := HB1.out.later hb
  have B := HB.bel
  have e2 := HB.blk
  have HK := hide (keep_row hrow2 e2)
  have HT := there_cmz e2
  clear HB hrow2 hb HB1
  simp only []
  go_step
  refine store_stepA (r := r) (a := a') (n := n') (c := c') rfl _ _ rfl w.heap.size rfl rfl HT ?_
  have H2 := heap_cm e2 r (.slice a' n' c')
  have HB2 := below_cm (w0 := w) (b := w.heap.size) B (Nat.le_refl _) r (.slice a' n' c')
  have HK2 := HK.out r (.slice a' n' c')
  clear HT HK e2 B
  generalize w'.setCells w.heap.size 0 (cmL r (.slice a' n' c')) = Y at *
  have HH := hide H2
  have HH2 := hide HB2
  have HH3 := hide HK2
  clear H2 HB2 HK2
  go_wp2
  exact ret_cm2 rfl w.heap.size r (.slice a' n' c') rfl HH.out rfl (OneR.mk' a' n' c' HH3.out HH2.out)
end Go.Proofs.Ytmfjaehajdephab

/-
  One of any line of at most 4900 bytes.
-/
namespace Go.Proofs.Ytmfjaehajdephab
open Go.Shelf Go.RowKit Go.Deep
set_option linter.unusedVariables false
set_option linter.unusedSimpArgs false
set_option maxRecDepth 1000000

theorem alone_any (w : World) (g o n cap : Nat) (ws : List ByteArray) (h : RowT w (some ⟨g, o, none⟩) n ws) (hcap : n ≤ cap) (h0 : 0 < n) : Calls Try.prog 37 #[.slice (some ⟨g, o, none⟩) n cap] w (AlQ w (aloneP ws)) := by
  cases c0 : isW (wd_ ws 0) w_get with
  | true =>
    have e : aloneP ws = getP ws := by simp only [aloneP, c0, Bool.or_true, Bool.true_or, Bool.or_self, if_true, if_false, Bool.false_eq_true]
    rw [e]
    exact alone_get w g o n cap ws h hcap h0 ((isW_iff _ _).1 c0) _ rfl
  | false =>
   cases c1 : isW (wd_ ws 0) w_gets with
   | true =>
     have e : aloneP ws = getP ws := by simp only [aloneP, c0, c1, Bool.or_true, Bool.true_or, Bool.or_self, if_true, if_false, Bool.false_eq_true]
     rw [e]
     exact alone_gets w g o n cap ws h hcap h0 ((isW_iff _ _).1 c1) _ rfl
   | false =>
    cases c2 : isW (wd_ ws 0) w_gat with
    | true =>
      have e : aloneP ws = gatP ws := by simp only [aloneP, c0, c1, c2, Bool.or_true, Bool.true_or, Bool.or_self, if_true, if_false, Bool.false_eq_true]
      rw [e]
      exact alone_gat w g o n cap ws h hcap h0 ((isW_iff _ _).1 c2) _ rfl
    | false =>
     cases c3 : isW (wd_ ws 0) w_gats with
     | true =>
       have e : aloneP ws = gatP ws := by simp only [aloneP, c0, c1, c2, c3, Bool.or_true, Bool.true_or, Bool.or_self, if_true, if_false, Bool.false_eq_true]
       rw [e]
       exact alone_gats w g o n cap ws h hcap h0 ((isW_iff _ _).1 c3) _ rfl
     | false =>
      cases c4 : isW (wd_ ws 0) w_incr with
      | true =>
        have e : aloneP ws = arithP ws := by simp only [aloneP, c0, c1, c2, c3, c4, Bool.or_true, Bool.true_or, Bool.or_self, if_true, if_false, Bool.false_eq_true]
        rw [e]
        exact alone_incr w g o n cap ws h hcap h0 ((isW_iff _ _).1 c4) _ rfl
      | false =>
       cases c5 : isW (wd_ ws 0) w_decr with
       | true =>
         have e : aloneP ws = arithP ws := by simp only [aloneP, c0, c1, c2, c3, c4, c5, Bool.or_true, Bool.true_or, Bool.or_self, if_true, if_false, Bool.false_eq_true]
         rw [e]
         exact alone_decr w g o n cap ws h hcap h0 ((isW_iff _ _).1 c5) _ rfl
       | false =>
        cases c6 : isW (wd_ ws 0) w_touch with
        | true =>
          have e : aloneP ws = touchP ws := by simp only [aloneP, c0, c1, c2, c3, c4, c5, c6, Bool.or_true, Bool.true_or, Bool.or_self, if_true, if_false, Bool.false_eq_true]
          rw [e]
          exact alone_touch w g o n cap ws h hcap h0 ((isW_iff _ _).1 c6) _ rfl
        | false =>
         cases c7 : isW (wd_ ws 0) w_del_ with
         | true =>
           have e : aloneP ws = removeP ws := by simp only [aloneP, c0, c1, c2, c3, c4, c5, c6, c7, Bool.or_true, Bool.true_or, Bool.or_self, if_true, if_false, Bool.false_eq_true]
           rw [e]
           exact alone_delete w g o n cap ws h hcap h0 ((isW_iff _ _).1 c7) _ rfl
         | false =>
          cases c8 : isW (wd_ ws 0) w_flush with
          | true =>
            have e : aloneP ws = flushP ws := by simp only [aloneP, c0, c1, c2, c3, c4, c5, c6, c7, c8, Bool.or_true, Bool.true_or, Bool.or_self, if_true, if_false, Bool.false_eq_true]
            rw [e]
            exact alone_flush_all w g o n cap ws h hcap h0 ((isW_iff _ _).1 c8) _ rfl
          | false =>
           cases c9 : isW (wd_ ws 0) w_ver with
           | true =>
             have e : aloneP ws = wordP ws := by simp only [aloneP, c0, c1, c2, c3, c4, c5, c6, c7, c8, c9, Bool.or_true, Bool.true_or, Bool.or_self, if_true, if_false, Bool.false_eq_true]
             rw [e]
             exact alone_version w g o n cap ws h hcap h0 ((isW_iff _ _).1 c9) _ rfl
           | false =>
            cases c10 : isW (wd_ ws 0) w_quit with
            | true =>
              have e : aloneP ws = wordP ws := by simp only [aloneP, c0, c1, c2, c3, c4, c5, c6, c7, c8, c9, c10, Bool.or_true, Bool.true_or, Bool.or_self, if_true, if_false, Bool.false_eq_true]
              rw [e]
              exact alone_quit w g o n cap ws h hcap h0 ((isW_iff _ _).1 c10) _ rfl
            | false =>
             have e : aloneP ws = errC := by simp only [aloneP, c0, c1, c2, c3, c4, c5, c6, c7, c8, c9, c10, Bool.or_self, if_false, Bool.false_eq_true]
             rw [e]
             exact alone_none w g o n cap ws h h0 c0 c1 c2 c3 c4 c5 c6 c7 c8 c9 c10
theorem one_any (s : ByteArray) (w : World) (hs : s.size ≤ 4900) : Calls Try.prog 17 #[.string s] w (OneR w (oneB s).1 (sizeI (oneB s).2)) := by
  unfold oneB
  generalize hws : oneW (wordsB s) = R
  unfold oneW at hws
  by_cases h0 : (wordsB s).length = 0
  · rw [if_pos h0] at hws
    subst hws
    exact one_nil s w hs h0
  · rw [if_neg h0] at hws
    have h1 : 0 < (wordsB s).length := by omega
    cases c0 : isW (wd_ (wordsB s) 0) w_set with
    | true =>
      have e : set5 (wd_ (wordsB s) 0) = true := by simp only [set5, c0, Bool.or_true, Bool.true_or]
      rw [if_pos e] at hws
      subst hws
      exact one_set s w hs h1 ((isW_iff _ _).1 c0) _ _ rfl rfl rfl
    | false =>
     cases c1 : isW (wd_ (wordsB s) 0) w_add with
     | true =>
       have e : set5 (wd_ (wordsB s) 0) = true := by simp only [set5, c0, c1, Bool.or_true, Bool.true_or]
       rw [if_pos e] at hws
       subst hws
       exact one_add s w hs h1 ((isW_iff _ _).1 c1) _ _ rfl rfl rfl
     | false =>
      cases c2 : isW (wd_ (wordsB s) 0) w_rep with
      | true =>
        have e : set5 (wd_ (wordsB s) 0) = true := by simp only [set5, c0, c1, c2, Bool.or_true, Bool.true_or]
        rw [if_pos e] at hws
        subst hws
        exact one_replace s w hs h1 ((isW_iff _ _).1 c2) _ _ rfl rfl rfl
      | false =>
       cases c3 : isW (wd_ (wordsB s) 0) w_app with
       | true =>
         have e : set5 (wd_ (wordsB s) 0) = true := by simp only [set5, c0, c1, c2, c3, Bool.or_true, Bool.true_or]
         rw [if_pos e] at hws
         subst hws
         exact one_append s w hs h1 ((isW_iff _ _).1 c3) _ _ rfl rfl rfl
       | false =>
        cases c4 : isW (wd_ (wordsB s) 0) w_pre with
        | true =>
          have e : set5 (wd_ (wordsB s) 0) = true := by simp only [set5, c0, c1, c2, c3, c4, Bool.or_true, Bool.true_or]
          rw [if_pos e] at hws
          subst hws
          exact one_prepend s w hs h1 ((isW_iff _ _).1 c4) _ _ rfl rfl rfl
        | false =>
         have e5 : set5 (wd_ (wordsB s) 0) = false := by simp only [set5, c0, c1, c2, c3, c4, Bool.or_self]
         rw [if_neg (by rw [e5]; decide)] at hws
         cases c5 : isW (wd_ (wordsB s) 0) w_cas with
         | true =>
           have e : casB (wordsB s) = true := c5
           rw [if_pos e] at hws
           subst hws
           exact one_cas s w hs h1 ((isW_iff _ _).1 c5) _ _ rfl rfl rfl
         | false =>
           have e : casB (wordsB s) = false := c5
           rw [if_neg (by rw [e]; decide)] at hws
           subst hws
           exact one_alone s w hs h1 c0 c1 c2 c3 c4 c5 _ (fun W g o n c h2 h3 h4 => alone_any W g o n c _ h2 h3 h4)
end Go.Proofs.Ytmfjaehajdephab
