/-
  EventBounds holds for every input.
-/
import Derived.WalkKit
import Derived.Below
import Derived.Test.YtofjadgnkpcaeaaLaw
import Derived.Test.YtofjadgnkpcaeaaOpen
import Derived.Test.YtofjadgnkpcaeaaBnd
import Derived.Lib.AppendZeros
namespace Go.Proofs.Ytofjadgnkpcaeaa.eventBounds
open Go.RowKit Go.Deep Go.Shelf
set_option linter.unusedVariables false
set_option linter.unusedSimpArgs false

/-- A command that lies in a box. -/
def Box (w : World) (b : Nat) (cs : Array Value) (t : TypeId) : Prop := b < w.heap.size ∧ w.heap[b]? = some (.cells cs t)
theorem Box.new (w : World) (cs : Array Value) (t : TypeId) : Box (w.alloc (.cells cs t)) w.heap.size cs t := by
  refine ⟨?_, ?_⟩
  · show _ < (w.heap.push _).size
    rw [Array.size_push]
    omega
  · show (w.heap.push _)[w.heap.size]? = _
    simp
theorem Box.later {w W : World} {b : Nat} {cs : Array Value} {t : TypeId} (h : Box w b cs t) (k : Below w.heap.size w W) : Box W b cs t :=
  ⟨Nat.lt_of_lt_of_le h.1 k.size, (k.block b h.1).trans h.2⟩
theorem Box.cell {w : World} {b : Nat} {cs : Array Value} {t : TypeId} (h : Box w b cs t) (i : Nat) (v : Value) (hv : cs[i]? = some v) : w.cell? ⟨b, i, none⟩ = some v := by
  simp only [World.cell?, h.2]
  exact hv
theorem gl_get (v : ByteArray) (ks : List ByteArray) (d : ByteArray) : goodP ⟨⟨#[103, 101, 116]⟩, v, ks, d, 0, 0, 0, 0, false, false, false, false⟩ = (cntB ks.length && ks.all keyB) := by kernel_rfl
theorem gl_store (v : ByteArray) (ks : List ByteArray) (d : ByteArray) : goodP ⟨⟨#[115, 116, 111, 114, 101]⟩, v, ks, d, 0, 0, 0, 0, false, false, false, false⟩ = (storesB v d && keyB (hd ks)) := by kernel_rfl
theorem gl_delete (v : ByteArray) (ks : List ByteArray) (d : ByteArray) : goodP ⟨⟨#[100, 101, 108, 101, 116, 101]⟩, v, ks, d, 0, 0, 0, 0, false, false, false, false⟩ = keyB (hd ks) := by kernel_rfl
theorem gl_touch (v : ByteArray) (ks : List ByteArray) (d : ByteArray) : goodP ⟨⟨#[116, 111, 117, 99, 104]⟩, v, ks, d, 0, 0, 0, 0, false, false, false, false⟩ = keyB (hd ks) := by kernel_rfl
theorem gl_arith (v : ByteArray) (ks : List ByteArray) (d : ByteArray) : goodP ⟨⟨#[97, 114, 105, 116, 104]⟩, v, ks, d, 0, 0, 0, 0, false, false, false, false⟩ = keyB (hd ks) := by kernel_rfl
theorem rep_all (n : Nat) (k : ByteArray) (h : 1 ≤ n) : (List.replicate n k).all keyB = keyB k := by
  cases n with
  | zero => omega
  | succ m =>
    rw [List.replicate_succ, List.all_cons]
    cases h : keyB k with
    | false => rfl
    | true =>
      rw [Bool.true_and, List.all_eq_true]
      intro x hx
      rw [(List.mem_replicate.1 hx).2]
      exact h
set_option maxRecDepth 8000 in
set_option maxHeartbeats 40000000 in
theorem walk (a0 : Int) (a1 : ByteArray) (a2 : Int) (a3 : ByteArray) (w : World) (hw0 : (Lit.int .i64 a0).wf = true) (hw1 : a1.size ≤ maxLen) (hw2 : (Lit.int .i64 a2).wf = true) (hw3 : a3.size ≤ maxLen) :
    Calls Try.prog 7 #[.int .i64 a0, .string a1, .int .i64 a2, .string a3] w fun e w' => e = .returned (.bool true) ∧ Below w.heap.size w w' := by
  have ca := awake_any w
  go_enter Try.func7, Try.ntmps7
  go_wp2_with fail
  refine ca.mono ?_
  rintro e w1 ⟨rfl, b1⟩
  clear ca
  by_cases c1 : a0 < 0
  · go_wp2
    go_ret
    exact ⟨rfl, b1⟩
  by_cases c2 : 80 < a0
  · go_wp2
    go_ret
    exact ⟨rfl, b1⟩
  by_cases c3 : a2 < 0
  · go_wp2
    go_ret
    exact ⟨rfl, b1⟩
  by_cases c4 : 1200 < a2
  · go_wp2
    go_ret
    exact ⟨rfl, b1⟩
  by_cases c5 : 400 < a1.size
  · go_wp2
    go_ret
    exact ⟨rfl, b1⟩
  obtain ⟨n, rfl⟩ : ∃ n : Nat, a0 = n := ⟨a0.toNat, by omega⟩
  obtain ⟨d, rfl⟩ : ∃ d : Nat, a2 = d := ⟨a2.toNat, by omega⟩
  have N1 : Hid (n ≤ 80) := show n ≤ 80 by omega
  have N2 : Hid (d ≤ 1200) := show d ≤ 1200 by omega
  have N3 : Hid (a1.size ≤ 400) := show a1.size ≤ 400 by omega
  clear hw0 hw2
  go_wp2
  go_loopw [9, 10] (fun v i wr => ∃ (k : Nat), i = .int .i64 k ∧ k ≤ n ∧ Below w1.heap.size w1 wr ∧ wr.ownsRow w1.heap.size 9 1 v k (strC (List.replicate k a1))) (fun v i _ => n - vi i)
  case atStart => exact ⟨0, rfl, by omega, Below.refl _ _, World.ownsRow_nil _ _ _ _⟩
  case round =>
    obtain ⟨k, rfl, hk, hb, O⟩ := hrel
    clear c1 c2 c3 c4 c5
    by_cases hlt : k < n
    · have bq := (Below.refl wr.heap.size wr).alloc (Nat.le_refl _) (.cells #[.string a1] 9)
      obtain ⟨g, cp, w2, hr, ho, b2⟩ := append_key _ w1.heap.size _ k (List.replicate k a1) (own_later O bq) wr.heap.size a1 (Box.cell (Box.new wr #[.string a1] 9) 0 _ rfl) (by have := N1.out; omega) (Nat.le_trans hb.size bq.size)
      have HR := hide hr
      rw [show List.replicate k a1 ++ [a1] = List.replicate (k + 1) a1 from List.replicate_succ'.symm] at ho
      have hb2 := (hb.trans (bq.mono hb.size)).trans b2
      clear hr bq O hb b2
      go_wp2_with (at_builtin; (refine Lib.wpList_append_run _ rfl _ _ _ _ rfl _ _ rfl rfl _ _ HR.out ?_))
      go_roundw
      case rel => exact ⟨k + 1, by go_num, by omega, hb2, ho⟩
      case measure => simp [vi]; omega
    · have e : n = k := by omega
      subst e
      obtain ⟨a', c', rfl, S⟩ : ∃ a' c', u9 = .slice a' n c' ∧ StrsAt wr a' n (List.replicate n a1) := by
        have hf : ∀ x ∈ List.replicate n a1, x.size ≤ 140737488351232 := by
          intro x hx
          rw [(List.mem_replicate.1 hx).2]
          have := N3.out
          omega
        rcases Joins.ownsRow_forms O with ⟨rfl, h0⟩ | ⟨g, c, rfl⟩
        · have e : n = 0 := by have := O.1; have h2 := h0; simp [strC] at *; omega
          subst e
          exact ⟨none, 0, rfl, StrsAt.nil⟩
        · exact ⟨_, c, rfl, own_strs O hf⟩
      clear O
      have B : Below w.heap.size w wr := b1.trans (hb.mono b1.size)
      clear b1 hb
      have ck0 := refKey_any a1 wr (by unfold maxLen; have := N3.out; omega)
      cases hk0 : isKey a1.data.toList with
      | false =>
        have HK : Hid (keyB a1 = false) := hk0
        rw [hk0] at ck0
        have ck := hide ck0
        clear hk0 ck0
        by_cases m1 : n < 1
        · have m1' : ((n : Int) < 1) := by omega
          have c1' : Hid True := trivial
          go_wp2_with fail
          refine (ck.out).mono ?_
          rintro e w3 ⟨rfl, rfl⟩
          have eg : goodP ⟨⟨#[103, 101, 116]⟩, ⟨#[]⟩, List.replicate n a1, ⟨#[]⟩, 0, 0, 0, 0, false, false, false, false⟩ = false := by rw [gl_get, List.length_replicate]; have : cntB n = false := (by simp [cntB]; omega); rw [this, Bool.false_and]
          have es : goodP ⟨⟨#[115, 116, 111, 114, 101]⟩, a3, [a1], zeros d, 0, 0, 0, 0, false, false, false, false⟩ = false := by rw [gl_store, show keyB (hd [a1]) = _ from HK.out, Bool.and_false]
          have EG := hide eg
          have ES := hide es
          clear eg es
          try go_simp
          go_step; go_step; go_step; go_step; go_step; go_step; go_step; go_step
          (apply region11; intros)
          go_wp2_with fail
          refine (good_is _ false EG.out _ n _ _ S (by have := N1.out; omega) (show (0 : Nat) ≤ 140737488351232 from by omega)).mono ?_
          rintro e wj ⟨rfl, hj⟩
          replace B := B.trans (hj.mono B.size)
          clear hj S
          have hm := make39 d (by have := N2.out; omega)
          have hcv := conv39b d wj (.cells #[.string a1] 9)
          go_wp2_with fail
          refine (good_is _ false ES.out _ 1 1 _ ((one_strs wj a1 (by have := N3.out; omega)).later ((Below.refl _ _).alloc (Nat.le_refl _) _)) (by omega) (by rw [zeros_size]; have := N2.out; omega)).mono ?_
          rintro e wk ⟨rfl, hj⟩
          replace B := (B.alloc B.size (.cells #[.string a1] 9))
          replace B := (B.alloc B.size (.cells (Array.replicate d (Value.int .u8 0)) 5))
          replace B := B.trans (hj.mono B.size)
          clear hj hm hcv
          go_wp2_with fail
          refine (good_is ⟨⟨#[100, 101, 108, 101, 116, 101]⟩, ⟨#[]⟩, [a1], ⟨#[]⟩, 0, 0, 0, 0, false, false, false, false⟩ false (by rw [gl_delete]; exact HK.out) _ 1 1 _ (one_strs _ a1 (by have := N3.out; omega)) (by omega) (show (0 : Nat) ≤ 140737488351232 from by omega)).mono ?_
          rintro e wj ⟨rfl, hj⟩
          replace B := B.alloc B.size (.cells #[.string a1] 9)
          replace B := B.trans (hj.mono B.size)
          clear hj
          go_wp2_with fail
          refine (good_is ⟨⟨#[116, 111, 117, 99, 104]⟩, ⟨#[]⟩, [a1], ⟨#[]⟩, 0, 0, 0, 0, false, false, false, false⟩ false (by rw [gl_touch]; exact HK.out) _ 1 1 _ (one_strs _ a1 (by have := N3.out; omega)) (by omega) (show (0 : Nat) ≤ 140737488351232 from by omega)).mono ?_
          rintro e wj ⟨rfl, hj⟩
          replace B := B.alloc B.size (.cells #[.string a1] 9)
          replace B := B.trans (hj.mono B.size)
          clear hj
          go_wp2_with fail
          refine (good_is ⟨⟨#[97, 114, 105, 116, 104]⟩, ⟨#[]⟩, [a1], ⟨#[]⟩, 0, 0, 0, 0, false, false, false, false⟩ false (by rw [gl_arith]; exact HK.out) _ 1 1 _ (one_strs _ a1 (by have := N3.out; omega)) (by omega) (show (0 : Nat) ≤ 140737488351232 from by omega)).mono ?_
          rintro e wj ⟨rfl, hj⟩
          replace B := B.alloc B.size (.cells #[.string a1] 9)
          replace B := B.trans (hj.mono B.size)
          clear hj
          go_wp2
          go_ret
          first
            | exact ⟨rfl, B⟩
            | exact ⟨retb (by rw [decide_eq_false (by omega)]; rfl), B⟩
        · by_cases m2 : 64 < n
          · have m2' : ((64 : Int) < n) := by omega
            have c1' : Hid True := trivial
            go_wp2_with fail
            refine (ck.out).mono ?_
            rintro e w3 ⟨rfl, rfl⟩
            have eg : goodP ⟨⟨#[103, 101, 116]⟩, ⟨#[]⟩, List.replicate n a1, ⟨#[]⟩, 0, 0, 0, 0, false, false, false, false⟩ = false := by rw [gl_get, List.length_replicate]; have : cntB n = false := (by simp [cntB]; omega); rw [this, Bool.false_and]
            have es : goodP ⟨⟨#[115, 116, 111, 114, 101]⟩, a3, [a1], zeros d, 0, 0, 0, 0, false, false, false, false⟩ = false := by rw [gl_store, show keyB (hd [a1]) = _ from HK.out, Bool.and_false]
            have EG := hide eg
            have ES := hide es
            clear eg es
            try go_simp
            go_step; go_step; go_step; go_step; go_step; go_step; go_step; go_step
            (apply region11; intros)
            go_wp2_with fail
            refine (good_is _ false EG.out _ n _ _ S (by have := N1.out; omega) (show (0 : Nat) ≤ 140737488351232 from by omega)).mono ?_
            rintro e wj ⟨rfl, hj⟩
            replace B := B.trans (hj.mono B.size)
            clear hj S
            have hm := make39 d (by have := N2.out; omega)
            have hcv := conv39b d wj (.cells #[.string a1] 9)
            go_wp2_with fail
            refine (good_is _ false ES.out _ 1 1 _ ((one_strs wj a1 (by have := N3.out; omega)).later ((Below.refl _ _).alloc (Nat.le_refl _) _)) (by omega) (by rw [zeros_size]; have := N2.out; omega)).mono ?_
            rintro e wk ⟨rfl, hj⟩
            replace B := (B.alloc B.size (.cells #[.string a1] 9))
            replace B := (B.alloc B.size (.cells (Array.replicate d (Value.int .u8 0)) 5))
            replace B := B.trans (hj.mono B.size)
            clear hj hm hcv
            go_wp2_with fail
            refine (good_is ⟨⟨#[100, 101, 108, 101, 116, 101]⟩, ⟨#[]⟩, [a1], ⟨#[]⟩, 0, 0, 0, 0, false, false, false, false⟩ false (by rw [gl_delete]; exact HK.out) _ 1 1 _ (one_strs _ a1 (by have := N3.out; omega)) (by omega) (show (0 : Nat) ≤ 140737488351232 from by omega)).mono ?_
            rintro e wj ⟨rfl, hj⟩
            replace B := B.alloc B.size (.cells #[.string a1] 9)
            replace B := B.trans (hj.mono B.size)
            clear hj
            go_wp2_with fail
            refine (good_is ⟨⟨#[116, 111, 117, 99, 104]⟩, ⟨#[]⟩, [a1], ⟨#[]⟩, 0, 0, 0, 0, false, false, false, false⟩ false (by rw [gl_touch]; exact HK.out) _ 1 1 _ (one_strs _ a1 (by have := N3.out; omega)) (by omega) (show (0 : Nat) ≤ 140737488351232 from by omega)).mono ?_
            rintro e wj ⟨rfl, hj⟩
            replace B := B.alloc B.size (.cells #[.string a1] 9)
            replace B := B.trans (hj.mono B.size)
            clear hj
            go_wp2_with fail
            refine (good_is ⟨⟨#[97, 114, 105, 116, 104]⟩, ⟨#[]⟩, [a1], ⟨#[]⟩, 0, 0, 0, 0, false, false, false, false⟩ false (by rw [gl_arith]; exact HK.out) _ 1 1 _ (one_strs _ a1 (by have := N3.out; omega)) (by omega) (show (0 : Nat) ≤ 140737488351232 from by omega)).mono ?_
            rintro e wj ⟨rfl, hj⟩
            replace B := B.alloc B.size (.cells #[.string a1] 9)
            replace B := B.trans (hj.mono B.size)
            clear hj
            go_wp2
            go_ret
            first
              | exact ⟨rfl, B⟩
              | exact ⟨retb (by rw [decide_eq_false (by omega)]; rfl), B⟩
          · have m2' : ((n : Int) ≤ 64) := by omega
            have c1' : Hid True := trivial
            go_wp2_with fail
            refine (ck.out).mono ?_
            rintro e w3 ⟨rfl, rfl⟩
            have eg : goodP ⟨⟨#[103, 101, 116]⟩, ⟨#[]⟩, List.replicate n a1, ⟨#[]⟩, 0, 0, 0, 0, false, false, false, false⟩ = false := by rw [gl_get, List.length_replicate, rep_all n a1 (by omega), show keyB a1 = _ from HK.out]; have : cntB n = true := (by simp [cntB]; omega); rw [this, Bool.true_and]
            have es : goodP ⟨⟨#[115, 116, 111, 114, 101]⟩, a3, [a1], zeros d, 0, 0, 0, 0, false, false, false, false⟩ = false := by rw [gl_store, show keyB (hd [a1]) = _ from HK.out, Bool.and_false]
            have EG := hide eg
            have ES := hide es
            clear eg es
            try go_simp
            go_step; go_step; go_step; go_step; go_step; go_step; go_step; go_step
            (apply region11; intros)
            go_wp2_with fail
            refine (good_is _ false EG.out _ n _ _ S (by have := N1.out; omega) (show (0 : Nat) ≤ 140737488351232 from by omega)).mono ?_
            rintro e wj ⟨rfl, hj⟩
            replace B := B.trans (hj.mono B.size)
            clear hj S
            have hm := make39 d (by have := N2.out; omega)
            have hcv := conv39b d wj (.cells #[.string a1] 9)
            go_wp2_with fail
            refine (good_is _ false ES.out _ 1 1 _ ((one_strs wj a1 (by have := N3.out; omega)).later ((Below.refl _ _).alloc (Nat.le_refl _) _)) (by omega) (by rw [zeros_size]; have := N2.out; omega)).mono ?_
            rintro e wk ⟨rfl, hj⟩
            replace B := (B.alloc B.size (.cells #[.string a1] 9))
            replace B := (B.alloc B.size (.cells (Array.replicate d (Value.int .u8 0)) 5))
            replace B := B.trans (hj.mono B.size)
            clear hj hm hcv
            go_wp2_with fail
            refine (good_is ⟨⟨#[100, 101, 108, 101, 116, 101]⟩, ⟨#[]⟩, [a1], ⟨#[]⟩, 0, 0, 0, 0, false, false, false, false⟩ false (by rw [gl_delete]; exact HK.out) _ 1 1 _ (one_strs _ a1 (by have := N3.out; omega)) (by omega) (show (0 : Nat) ≤ 140737488351232 from by omega)).mono ?_
            rintro e wj ⟨rfl, hj⟩
            replace B := B.alloc B.size (.cells #[.string a1] 9)
            replace B := B.trans (hj.mono B.size)
            clear hj
            go_wp2_with fail
            refine (good_is ⟨⟨#[116, 111, 117, 99, 104]⟩, ⟨#[]⟩, [a1], ⟨#[]⟩, 0, 0, 0, 0, false, false, false, false⟩ false (by rw [gl_touch]; exact HK.out) _ 1 1 _ (one_strs _ a1 (by have := N3.out; omega)) (by omega) (show (0 : Nat) ≤ 140737488351232 from by omega)).mono ?_
            rintro e wj ⟨rfl, hj⟩
            replace B := B.alloc B.size (.cells #[.string a1] 9)
            replace B := B.trans (hj.mono B.size)
            clear hj
            go_wp2_with fail
            refine (good_is ⟨⟨#[97, 114, 105, 116, 104]⟩, ⟨#[]⟩, [a1], ⟨#[]⟩, 0, 0, 0, 0, false, false, false, false⟩ false (by rw [gl_arith]; exact HK.out) _ 1 1 _ (one_strs _ a1 (by have := N3.out; omega)) (by omega) (show (0 : Nat) ≤ 140737488351232 from by omega)).mono ?_
            rintro e wj ⟨rfl, hj⟩
            replace B := B.alloc B.size (.cells #[.string a1] 9)
            replace B := B.trans (hj.mono B.size)
            clear hj
            go_wp2
            go_ret
            first
              | exact ⟨rfl, B⟩
              | exact ⟨retb (by rw [decide_eq_false (by omega)]; rfl), B⟩
      | true =>
        have HK : Hid (keyB a1 = true) := hk0
        rw [hk0] at ck0
        have ck := hide ck0
        clear hk0 ck0
        cases hv0 : verbB a3 with
        | false =>
          have HV : Hid (verbB a3 = false) := hv0
          clear hv0
          by_cases m1 : n < 1
          · have m1' : ((n : Int) < 1) := by omega
            have c1' : Hid True := trivial
            go_wp2_with fail
            refine (ck.out).mono ?_
            rintro e w3 ⟨rfl, rfl⟩
            have eg : goodP ⟨⟨#[103, 101, 116]⟩, ⟨#[]⟩, List.replicate n a1, ⟨#[]⟩, 0, 0, 0, 0, false, false, false, false⟩ = false := by rw [gl_get, List.length_replicate]; have : cntB n = false := (by simp [cntB]; omega); rw [this, Bool.false_and]
            have es : goodP ⟨⟨#[115, 116, 111, 114, 101]⟩, a3, [a1], zeros d, 0, 0, 0, 0, false, false, false, false⟩ = false := by rw [gl_store, show storesB a3 (zeros d) = false from (by unfold storesB; rw [HV.out, Bool.false_and]), Bool.false_and]
            have EG := hide eg
            have ES := hide es
            clear eg es
            try go_simp
            go_step; go_step; go_step; go_step; go_step; go_step; go_step; go_step
            (apply region11; intros; rw [HV.out])
            go_wp2_with fail
            refine (good_is _ false EG.out _ n _ _ S (by have := N1.out; omega) (show (0 : Nat) ≤ 140737488351232 from by omega)).mono ?_
            rintro e wj ⟨rfl, hj⟩
            replace B := B.trans (hj.mono B.size)
            clear hj S
            have hm := make39 d (by have := N2.out; omega)
            have hcv := conv39b d wj (.cells #[.string a1] 9)
            go_wp2_with fail
            refine (good_is _ false ES.out _ 1 1 _ ((one_strs wj a1 (by have := N3.out; omega)).later ((Below.refl _ _).alloc (Nat.le_refl _) _)) (by omega) (by rw [zeros_size]; have := N2.out; omega)).mono ?_
            rintro e wk ⟨rfl, hj⟩
            replace B := (B.alloc B.size (.cells #[.string a1] 9))
            replace B := (B.alloc B.size (.cells (Array.replicate d (Value.int .u8 0)) 5))
            replace B := B.trans (hj.mono B.size)
            clear hj hm hcv
            go_wp2_with fail
            refine (good_is ⟨⟨#[100, 101, 108, 101, 116, 101]⟩, ⟨#[]⟩, [a1], ⟨#[]⟩, 0, 0, 0, 0, false, false, false, false⟩ true (by rw [gl_delete]; exact HK.out) _ 1 1 _ (one_strs _ a1 (by have := N3.out; omega)) (by omega) (show (0 : Nat) ≤ 140737488351232 from by omega)).mono ?_
            rintro e wj ⟨rfl, hj⟩
            replace B := B.alloc B.size (.cells #[.string a1] 9)
            replace B := B.trans (hj.mono B.size)
            clear hj
            go_wp2_with fail
            refine (good_is ⟨⟨#[116, 111, 117, 99, 104]⟩, ⟨#[]⟩, [a1], ⟨#[]⟩, 0, 0, 0, 0, false, false, false, false⟩ true (by rw [gl_touch]; exact HK.out) _ 1 1 _ (one_strs _ a1 (by have := N3.out; omega)) (by omega) (show (0 : Nat) ≤ 140737488351232 from by omega)).mono ?_
            rintro e wj ⟨rfl, hj⟩
            replace B := B.alloc B.size (.cells #[.string a1] 9)
            replace B := B.trans (hj.mono B.size)
            clear hj
            go_wp2_with fail
            refine (good_is ⟨⟨#[97, 114, 105, 116, 104]⟩, ⟨#[]⟩, [a1], ⟨#[]⟩, 0, 0, 0, 0, false, false, false, false⟩ true (by rw [gl_arith]; exact HK.out) _ 1 1 _ (one_strs _ a1 (by have := N3.out; omega)) (by omega) (show (0 : Nat) ≤ 140737488351232 from by omega)).mono ?_
            rintro e wj ⟨rfl, hj⟩
            replace B := B.alloc B.size (.cells #[.string a1] 9)
            replace B := B.trans (hj.mono B.size)
            clear hj
            go_wp2
            go_ret
            first
              | exact ⟨rfl, B⟩
              | exact ⟨retb (by rw [decide_eq_false (by omega)]; rfl), B⟩
          · by_cases m2 : 64 < n
            · have m2' : ((64 : Int) < n) := by omega
              have c1' : Hid True := trivial
              go_wp2_with fail
              refine (ck.out).mono ?_
              rintro e w3 ⟨rfl, rfl⟩
              have eg : goodP ⟨⟨#[103, 101, 116]⟩, ⟨#[]⟩, List.replicate n a1, ⟨#[]⟩, 0, 0, 0, 0, false, false, false, false⟩ = false := by rw [gl_get, List.length_replicate]; have : cntB n = false := (by simp [cntB]; omega); rw [this, Bool.false_and]
              have es : goodP ⟨⟨#[115, 116, 111, 114, 101]⟩, a3, [a1], zeros d, 0, 0, 0, 0, false, false, false, false⟩ = false := by rw [gl_store, show storesB a3 (zeros d) = false from (by unfold storesB; rw [HV.out, Bool.false_and]), Bool.false_and]
              have EG := hide eg
              have ES := hide es
              clear eg es
              try go_simp
              go_step; go_step; go_step; go_step; go_step; go_step; go_step; go_step
              (apply region11; intros; rw [HV.out])
              go_wp2_with fail
              refine (good_is _ false EG.out _ n _ _ S (by have := N1.out; omega) (show (0 : Nat) ≤ 140737488351232 from by omega)).mono ?_
              rintro e wj ⟨rfl, hj⟩
              replace B := B.trans (hj.mono B.size)
              clear hj S
              have hm := make39 d (by have := N2.out; omega)
              have hcv := conv39b d wj (.cells #[.string a1] 9)
              go_wp2_with fail
              refine (good_is _ false ES.out _ 1 1 _ ((one_strs wj a1 (by have := N3.out; omega)).later ((Below.refl _ _).alloc (Nat.le_refl _) _)) (by omega) (by rw [zeros_size]; have := N2.out; omega)).mono ?_
              rintro e wk ⟨rfl, hj⟩
              replace B := (B.alloc B.size (.cells #[.string a1] 9))
              replace B := (B.alloc B.size (.cells (Array.replicate d (Value.int .u8 0)) 5))
              replace B := B.trans (hj.mono B.size)
              clear hj hm hcv
              go_wp2_with fail
              refine (good_is ⟨⟨#[100, 101, 108, 101, 116, 101]⟩, ⟨#[]⟩, [a1], ⟨#[]⟩, 0, 0, 0, 0, false, false, false, false⟩ true (by rw [gl_delete]; exact HK.out) _ 1 1 _ (one_strs _ a1 (by have := N3.out; omega)) (by omega) (show (0 : Nat) ≤ 140737488351232 from by omega)).mono ?_
              rintro e wj ⟨rfl, hj⟩
              replace B := B.alloc B.size (.cells #[.string a1] 9)
              replace B := B.trans (hj.mono B.size)
              clear hj
              go_wp2_with fail
              refine (good_is ⟨⟨#[116, 111, 117, 99, 104]⟩, ⟨#[]⟩, [a1], ⟨#[]⟩, 0, 0, 0, 0, false, false, false, false⟩ true (by rw [gl_touch]; exact HK.out) _ 1 1 _ (one_strs _ a1 (by have := N3.out; omega)) (by omega) (show (0 : Nat) ≤ 140737488351232 from by omega)).mono ?_
              rintro e wj ⟨rfl, hj⟩
              replace B := B.alloc B.size (.cells #[.string a1] 9)
              replace B := B.trans (hj.mono B.size)
              clear hj
              go_wp2_with fail
              refine (good_is ⟨⟨#[97, 114, 105, 116, 104]⟩, ⟨#[]⟩, [a1], ⟨#[]⟩, 0, 0, 0, 0, false, false, false, false⟩ true (by rw [gl_arith]; exact HK.out) _ 1 1 _ (one_strs _ a1 (by have := N3.out; omega)) (by omega) (show (0 : Nat) ≤ 140737488351232 from by omega)).mono ?_
              rintro e wj ⟨rfl, hj⟩
              replace B := B.alloc B.size (.cells #[.string a1] 9)
              replace B := B.trans (hj.mono B.size)
              clear hj
              go_wp2
              go_ret
              first
                | exact ⟨rfl, B⟩
                | exact ⟨retb (by rw [decide_eq_false (by omega)]; rfl), B⟩
            · have m2' : ((n : Int) ≤ 64) := by omega
              have c1' : Hid True := trivial
              go_wp2_with fail
              refine (ck.out).mono ?_
              rintro e w3 ⟨rfl, rfl⟩
              have eg : goodP ⟨⟨#[103, 101, 116]⟩, ⟨#[]⟩, List.replicate n a1, ⟨#[]⟩, 0, 0, 0, 0, false, false, false, false⟩ = true := by rw [gl_get, List.length_replicate, rep_all n a1 (by omega), show keyB a1 = _ from HK.out]; have : cntB n = true := (by simp [cntB]; omega); rw [this, Bool.true_and]
              have es : goodP ⟨⟨#[115, 116, 111, 114, 101]⟩, a3, [a1], zeros d, 0, 0, 0, 0, false, false, false, false⟩ = false := by rw [gl_store, show storesB a3 (zeros d) = false from (by unfold storesB; rw [HV.out, Bool.false_and]), Bool.false_and]
              have EG := hide eg
              have ES := hide es
              clear eg es
              try go_simp
              go_step; go_step; go_step; go_step; go_step; go_step; go_step; go_step
              (apply region11; intros; rw [HV.out])
              go_wp2_with fail
              refine (good_is _ true EG.out _ n _ _ S (by have := N1.out; omega) (show (0 : Nat) ≤ 140737488351232 from by omega)).mono ?_
              rintro e wj ⟨rfl, hj⟩
              replace B := B.trans (hj.mono B.size)
              clear hj S
              have hm := make39 d (by have := N2.out; omega)
              have hcv := conv39b d wj (.cells #[.string a1] 9)
              go_wp2_with fail
              refine (good_is _ false ES.out _ 1 1 _ ((one_strs wj a1 (by have := N3.out; omega)).later ((Below.refl _ _).alloc (Nat.le_refl _) _)) (by omega) (by rw [zeros_size]; have := N2.out; omega)).mono ?_
              rintro e wk ⟨rfl, hj⟩
              replace B := (B.alloc B.size (.cells #[.string a1] 9))
              replace B := (B.alloc B.size (.cells (Array.replicate d (Value.int .u8 0)) 5))
              replace B := B.trans (hj.mono B.size)
              clear hj hm hcv
              go_wp2_with fail
              refine (good_is ⟨⟨#[100, 101, 108, 101, 116, 101]⟩, ⟨#[]⟩, [a1], ⟨#[]⟩, 0, 0, 0, 0, false, false, false, false⟩ true (by rw [gl_delete]; exact HK.out) _ 1 1 _ (one_strs _ a1 (by have := N3.out; omega)) (by omega) (show (0 : Nat) ≤ 140737488351232 from by omega)).mono ?_
              rintro e wj ⟨rfl, hj⟩
              replace B := B.alloc B.size (.cells #[.string a1] 9)
              replace B := B.trans (hj.mono B.size)
              clear hj
              go_wp2_with fail
              refine (good_is ⟨⟨#[116, 111, 117, 99, 104]⟩, ⟨#[]⟩, [a1], ⟨#[]⟩, 0, 0, 0, 0, false, false, false, false⟩ true (by rw [gl_touch]; exact HK.out) _ 1 1 _ (one_strs _ a1 (by have := N3.out; omega)) (by omega) (show (0 : Nat) ≤ 140737488351232 from by omega)).mono ?_
              rintro e wj ⟨rfl, hj⟩
              replace B := B.alloc B.size (.cells #[.string a1] 9)
              replace B := B.trans (hj.mono B.size)
              clear hj
              go_wp2_with fail
              refine (good_is ⟨⟨#[97, 114, 105, 116, 104]⟩, ⟨#[]⟩, [a1], ⟨#[]⟩, 0, 0, 0, 0, false, false, false, false⟩ true (by rw [gl_arith]; exact HK.out) _ 1 1 _ (one_strs _ a1 (by have := N3.out; omega)) (by omega) (show (0 : Nat) ≤ 140737488351232 from by omega)).mono ?_
              rintro e wj ⟨rfl, hj⟩
              replace B := B.alloc B.size (.cells #[.string a1] 9)
              replace B := B.trans (hj.mono B.size)
              clear hj
              go_wp2
              go_ret
              first
                | exact ⟨rfl, B⟩
                | exact ⟨retb (by rw [decide_eq_false (by omega)]; rfl), B⟩
        | true =>
          have HV : Hid (verbB a3 = true) := hv0
          clear hv0
          by_cases hd0 : d ≤ 1024
          · have hd1 : ((d : Int) ≤ 1024) := by omega
            by_cases m1 : n < 1
            · have m1' : ((n : Int) < 1) := by omega
              have c1' : Hid True := trivial
              go_wp2_with fail
              refine (ck.out).mono ?_
              rintro e w3 ⟨rfl, rfl⟩
              have eg : goodP ⟨⟨#[103, 101, 116]⟩, ⟨#[]⟩, List.replicate n a1, ⟨#[]⟩, 0, 0, 0, 0, false, false, false, false⟩ = false := by rw [gl_get, List.length_replicate]; have : cntB n = false := (by simp [cntB]; omega); rw [this, Bool.false_and]
              have es : goodP ⟨⟨#[115, 116, 111, 114, 101]⟩, a3, [a1], zeros d, 0, 0, 0, 0, false, false, false, false⟩ = true := by rw [gl_store, show storesB a3 (zeros d) = true from (by unfold storesB; rw [HV.out, zeros_size, decide_eq_true (by omega)]; rfl), show keyB (hd [a1]) = _ from HK.out]; rfl
              have EG := hide eg
              have ES := hide es
              clear eg es
              try go_simp
              go_step; go_step; go_step; go_step; go_step; go_step; go_step; go_step
              (apply region11; intros; rw [HV.out])
              go_wp2_with fail
              refine (good_is _ false EG.out _ n _ _ S (by have := N1.out; omega) (show (0 : Nat) ≤ 140737488351232 from by omega)).mono ?_
              rintro e wj ⟨rfl, hj⟩
              replace B := B.trans (hj.mono B.size)
              clear hj S
              have hm := make39 d (by have := N2.out; omega)
              have hcv := conv39b d wj (.cells #[.string a1] 9)
              go_wp2_with fail
              refine (good_is _ true ES.out _ 1 1 _ ((one_strs wj a1 (by have := N3.out; omega)).later ((Below.refl _ _).alloc (Nat.le_refl _) _)) (by omega) (by rw [zeros_size]; have := N2.out; omega)).mono ?_
              rintro e wk ⟨rfl, hj⟩
              replace B := (B.alloc B.size (.cells #[.string a1] 9))
              replace B := (B.alloc B.size (.cells (Array.replicate d (Value.int .u8 0)) 5))
              replace B := B.trans (hj.mono B.size)
              clear hj hm hcv
              go_wp2_with fail
              refine (good_is ⟨⟨#[100, 101, 108, 101, 116, 101]⟩, ⟨#[]⟩, [a1], ⟨#[]⟩, 0, 0, 0, 0, false, false, false, false⟩ true (by rw [gl_delete]; exact HK.out) _ 1 1 _ (one_strs _ a1 (by have := N3.out; omega)) (by omega) (show (0 : Nat) ≤ 140737488351232 from by omega)).mono ?_
              rintro e wj ⟨rfl, hj⟩
              replace B := B.alloc B.size (.cells #[.string a1] 9)
              replace B := B.trans (hj.mono B.size)
              clear hj
              go_wp2_with fail
              refine (good_is ⟨⟨#[116, 111, 117, 99, 104]⟩, ⟨#[]⟩, [a1], ⟨#[]⟩, 0, 0, 0, 0, false, false, false, false⟩ true (by rw [gl_touch]; exact HK.out) _ 1 1 _ (one_strs _ a1 (by have := N3.out; omega)) (by omega) (show (0 : Nat) ≤ 140737488351232 from by omega)).mono ?_
              rintro e wj ⟨rfl, hj⟩
              replace B := B.alloc B.size (.cells #[.string a1] 9)
              replace B := B.trans (hj.mono B.size)
              clear hj
              go_wp2_with fail
              refine (good_is ⟨⟨#[97, 114, 105, 116, 104]⟩, ⟨#[]⟩, [a1], ⟨#[]⟩, 0, 0, 0, 0, false, false, false, false⟩ true (by rw [gl_arith]; exact HK.out) _ 1 1 _ (one_strs _ a1 (by have := N3.out; omega)) (by omega) (show (0 : Nat) ≤ 140737488351232 from by omega)).mono ?_
              rintro e wj ⟨rfl, hj⟩
              replace B := B.alloc B.size (.cells #[.string a1] 9)
              replace B := B.trans (hj.mono B.size)
              clear hj
              go_wp2
              go_ret
              first
                | exact ⟨rfl, B⟩
                | exact ⟨retb (by rw [decide_eq_false (by omega)]; rfl), B⟩
            · by_cases m2 : 64 < n
              · have m2' : ((64 : Int) < n) := by omega
                have c1' : Hid True := trivial
                go_wp2_with fail
                refine (ck.out).mono ?_
                rintro e w3 ⟨rfl, rfl⟩
                have eg : goodP ⟨⟨#[103, 101, 116]⟩, ⟨#[]⟩, List.replicate n a1, ⟨#[]⟩, 0, 0, 0, 0, false, false, false, false⟩ = false := by rw [gl_get, List.length_replicate]; have : cntB n = false := (by simp [cntB]; omega); rw [this, Bool.false_and]
                have es : goodP ⟨⟨#[115, 116, 111, 114, 101]⟩, a3, [a1], zeros d, 0, 0, 0, 0, false, false, false, false⟩ = true := by rw [gl_store, show storesB a3 (zeros d) = true from (by unfold storesB; rw [HV.out, zeros_size, decide_eq_true (by omega)]; rfl), show keyB (hd [a1]) = _ from HK.out]; rfl
                have EG := hide eg
                have ES := hide es
                clear eg es
                try go_simp
                go_step; go_step; go_step; go_step; go_step; go_step; go_step; go_step
                (apply region11; intros; rw [HV.out])
                go_wp2_with fail
                refine (good_is _ false EG.out _ n _ _ S (by have := N1.out; omega) (show (0 : Nat) ≤ 140737488351232 from by omega)).mono ?_
                rintro e wj ⟨rfl, hj⟩
                replace B := B.trans (hj.mono B.size)
                clear hj S
                have hm := make39 d (by have := N2.out; omega)
                have hcv := conv39b d wj (.cells #[.string a1] 9)
                go_wp2_with fail
                refine (good_is _ true ES.out _ 1 1 _ ((one_strs wj a1 (by have := N3.out; omega)).later ((Below.refl _ _).alloc (Nat.le_refl _) _)) (by omega) (by rw [zeros_size]; have := N2.out; omega)).mono ?_
                rintro e wk ⟨rfl, hj⟩
                replace B := (B.alloc B.size (.cells #[.string a1] 9))
                replace B := (B.alloc B.size (.cells (Array.replicate d (Value.int .u8 0)) 5))
                replace B := B.trans (hj.mono B.size)
                clear hj hm hcv
                go_wp2_with fail
                refine (good_is ⟨⟨#[100, 101, 108, 101, 116, 101]⟩, ⟨#[]⟩, [a1], ⟨#[]⟩, 0, 0, 0, 0, false, false, false, false⟩ true (by rw [gl_delete]; exact HK.out) _ 1 1 _ (one_strs _ a1 (by have := N3.out; omega)) (by omega) (show (0 : Nat) ≤ 140737488351232 from by omega)).mono ?_
                rintro e wj ⟨rfl, hj⟩
                replace B := B.alloc B.size (.cells #[.string a1] 9)
                replace B := B.trans (hj.mono B.size)
                clear hj
                go_wp2_with fail
                refine (good_is ⟨⟨#[116, 111, 117, 99, 104]⟩, ⟨#[]⟩, [a1], ⟨#[]⟩, 0, 0, 0, 0, false, false, false, false⟩ true (by rw [gl_touch]; exact HK.out) _ 1 1 _ (one_strs _ a1 (by have := N3.out; omega)) (by omega) (show (0 : Nat) ≤ 140737488351232 from by omega)).mono ?_
                rintro e wj ⟨rfl, hj⟩
                replace B := B.alloc B.size (.cells #[.string a1] 9)
                replace B := B.trans (hj.mono B.size)
                clear hj
                go_wp2_with fail
                refine (good_is ⟨⟨#[97, 114, 105, 116, 104]⟩, ⟨#[]⟩, [a1], ⟨#[]⟩, 0, 0, 0, 0, false, false, false, false⟩ true (by rw [gl_arith]; exact HK.out) _ 1 1 _ (one_strs _ a1 (by have := N3.out; omega)) (by omega) (show (0 : Nat) ≤ 140737488351232 from by omega)).mono ?_
                rintro e wj ⟨rfl, hj⟩
                replace B := B.alloc B.size (.cells #[.string a1] 9)
                replace B := B.trans (hj.mono B.size)
                clear hj
                go_wp2
                go_ret
                first
                  | exact ⟨rfl, B⟩
                  | exact ⟨retb (by rw [decide_eq_false (by omega)]; rfl), B⟩
              · have m2' : ((n : Int) ≤ 64) := by omega
                have c1' : Hid True := trivial
                go_wp2_with fail
                refine (ck.out).mono ?_
                rintro e w3 ⟨rfl, rfl⟩
                have eg : goodP ⟨⟨#[103, 101, 116]⟩, ⟨#[]⟩, List.replicate n a1, ⟨#[]⟩, 0, 0, 0, 0, false, false, false, false⟩ = true := by rw [gl_get, List.length_replicate, rep_all n a1 (by omega), show keyB a1 = _ from HK.out]; have : cntB n = true := (by simp [cntB]; omega); rw [this, Bool.true_and]
                have es : goodP ⟨⟨#[115, 116, 111, 114, 101]⟩, a3, [a1], zeros d, 0, 0, 0, 0, false, false, false, false⟩ = true := by rw [gl_store, show storesB a3 (zeros d) = true from (by unfold storesB; rw [HV.out, zeros_size, decide_eq_true (by omega)]; rfl), show keyB (hd [a1]) = _ from HK.out]; rfl
                have EG := hide eg
                have ES := hide es
                clear eg es
                try go_simp
                go_step; go_step; go_step; go_step; go_step; go_step; go_step; go_step
                (apply region11; intros; rw [HV.out])
                go_wp2_with fail
                refine (good_is _ true EG.out _ n _ _ S (by have := N1.out; omega) (show (0 : Nat) ≤ 140737488351232 from by omega)).mono ?_
                rintro e wj ⟨rfl, hj⟩
                replace B := B.trans (hj.mono B.size)
                clear hj S
                have hm := make39 d (by have := N2.out; omega)
                have hcv := conv39b d wj (.cells #[.string a1] 9)
                go_wp2_with fail
                refine (good_is _ true ES.out _ 1 1 _ ((one_strs wj a1 (by have := N3.out; omega)).later ((Below.refl _ _).alloc (Nat.le_refl _) _)) (by omega) (by rw [zeros_size]; have := N2.out; omega)).mono ?_
                rintro e wk ⟨rfl, hj⟩
                replace B := (B.alloc B.size (.cells #[.string a1] 9))
                replace B := (B.alloc B.size (.cells (Array.replicate d (Value.int .u8 0)) 5))
                replace B := B.trans (hj.mono B.size)
                clear hj hm hcv
                go_wp2_with fail
                refine (good_is ⟨⟨#[100, 101, 108, 101, 116, 101]⟩, ⟨#[]⟩, [a1], ⟨#[]⟩, 0, 0, 0, 0, false, false, false, false⟩ true (by rw [gl_delete]; exact HK.out) _ 1 1 _ (one_strs _ a1 (by have := N3.out; omega)) (by omega) (show (0 : Nat) ≤ 140737488351232 from by omega)).mono ?_
                rintro e wj ⟨rfl, hj⟩
                replace B := B.alloc B.size (.cells #[.string a1] 9)
                replace B := B.trans (hj.mono B.size)
                clear hj
                go_wp2_with fail
                refine (good_is ⟨⟨#[116, 111, 117, 99, 104]⟩, ⟨#[]⟩, [a1], ⟨#[]⟩, 0, 0, 0, 0, false, false, false, false⟩ true (by rw [gl_touch]; exact HK.out) _ 1 1 _ (one_strs _ a1 (by have := N3.out; omega)) (by omega) (show (0 : Nat) ≤ 140737488351232 from by omega)).mono ?_
                rintro e wj ⟨rfl, hj⟩
                replace B := B.alloc B.size (.cells #[.string a1] 9)
                replace B := B.trans (hj.mono B.size)
                clear hj
                go_wp2_with fail
                refine (good_is ⟨⟨#[97, 114, 105, 116, 104]⟩, ⟨#[]⟩, [a1], ⟨#[]⟩, 0, 0, 0, 0, false, false, false, false⟩ true (by rw [gl_arith]; exact HK.out) _ 1 1 _ (one_strs _ a1 (by have := N3.out; omega)) (by omega) (show (0 : Nat) ≤ 140737488351232 from by omega)).mono ?_
                rintro e wj ⟨rfl, hj⟩
                replace B := B.alloc B.size (.cells #[.string a1] 9)
                replace B := B.trans (hj.mono B.size)
                clear hj
                go_wp2
                go_ret
                first
                  | exact ⟨rfl, B⟩
                  | exact ⟨retb (by rw [decide_eq_false (by omega)]; rfl), B⟩
          · have hd1 : ((1024 : Int) < d) := by omega
            by_cases m1 : n < 1
            · have m1' : ((n : Int) < 1) := by omega
              have c1' : Hid True := trivial
              go_wp2_with fail
              refine (ck.out).mono ?_
              rintro e w3 ⟨rfl, rfl⟩
              have eg : goodP ⟨⟨#[103, 101, 116]⟩, ⟨#[]⟩, List.replicate n a1, ⟨#[]⟩, 0, 0, 0, 0, false, false, false, false⟩ = false := by rw [gl_get, List.length_replicate]; have : cntB n = false := (by simp [cntB]; omega); rw [this, Bool.false_and]
              have es : goodP ⟨⟨#[115, 116, 111, 114, 101]⟩, a3, [a1], zeros d, 0, 0, 0, 0, false, false, false, false⟩ = false := by rw [gl_store, show storesB a3 (zeros d) = false from (by unfold storesB; rw [zeros_size, decide_eq_false (by omega), Bool.and_false]), Bool.false_and]
              have EG := hide eg
              have ES := hide es
              clear eg es
              try go_simp
              go_step; go_step; go_step; go_step; go_step; go_step; go_step; go_step
              (apply region11; intros; rw [HV.out])
              go_wp2_with fail
              refine (good_is _ false EG.out _ n _ _ S (by have := N1.out; omega) (show (0 : Nat) ≤ 140737488351232 from by omega)).mono ?_
              rintro e wj ⟨rfl, hj⟩
              replace B := B.trans (hj.mono B.size)
              clear hj S
              have hm := make39 d (by have := N2.out; omega)
              have hcv := conv39b d wj (.cells #[.string a1] 9)
              go_wp2_with fail
              refine (good_is _ false ES.out _ 1 1 _ ((one_strs wj a1 (by have := N3.out; omega)).later ((Below.refl _ _).alloc (Nat.le_refl _) _)) (by omega) (by rw [zeros_size]; have := N2.out; omega)).mono ?_
              rintro e wk ⟨rfl, hj⟩
              replace B := (B.alloc B.size (.cells #[.string a1] 9))
              replace B := (B.alloc B.size (.cells (Array.replicate d (Value.int .u8 0)) 5))
              replace B := B.trans (hj.mono B.size)
              clear hj hm hcv
              go_wp2_with fail
              refine (good_is ⟨⟨#[100, 101, 108, 101, 116, 101]⟩, ⟨#[]⟩, [a1], ⟨#[]⟩, 0, 0, 0, 0, false, false, false, false⟩ true (by rw [gl_delete]; exact HK.out) _ 1 1 _ (one_strs _ a1 (by have := N3.out; omega)) (by omega) (show (0 : Nat) ≤ 140737488351232 from by omega)).mono ?_
              rintro e wj ⟨rfl, hj⟩
              replace B := B.alloc B.size (.cells #[.string a1] 9)
              replace B := B.trans (hj.mono B.size)
              clear hj
              go_wp2_with fail
              refine (good_is ⟨⟨#[116, 111, 117, 99, 104]⟩, ⟨#[]⟩, [a1], ⟨#[]⟩, 0, 0, 0, 0, false, false, false, false⟩ true (by rw [gl_touch]; exact HK.out) _ 1 1 _ (one_strs _ a1 (by have := N3.out; omega)) (by omega) (show (0 : Nat) ≤ 140737488351232 from by omega)).mono ?_
              rintro e wj ⟨rfl, hj⟩
              replace B := B.alloc B.size (.cells #[.string a1] 9)
              replace B := B.trans (hj.mono B.size)
              clear hj
              go_wp2_with fail
              refine (good_is ⟨⟨#[97, 114, 105, 116, 104]⟩, ⟨#[]⟩, [a1], ⟨#[]⟩, 0, 0, 0, 0, false, false, false, false⟩ true (by rw [gl_arith]; exact HK.out) _ 1 1 _ (one_strs _ a1 (by have := N3.out; omega)) (by omega) (show (0 : Nat) ≤ 140737488351232 from by omega)).mono ?_
              rintro e wj ⟨rfl, hj⟩
              replace B := B.alloc B.size (.cells #[.string a1] 9)
              replace B := B.trans (hj.mono B.size)
              clear hj
              go_wp2
              go_ret
              first
                | exact ⟨rfl, B⟩
                | exact ⟨retb (by rw [decide_eq_false (by omega)]; rfl), B⟩
            · by_cases m2 : 64 < n
              · have m2' : ((64 : Int) < n) := by omega
                have c1' : Hid True := trivial
                go_wp2_with fail
                refine (ck.out).mono ?_
                rintro e w3 ⟨rfl, rfl⟩
                have eg : goodP ⟨⟨#[103, 101, 116]⟩, ⟨#[]⟩, List.replicate n a1, ⟨#[]⟩, 0, 0, 0, 0, false, false, false, false⟩ = false := by rw [gl_get, List.length_replicate]; have : cntB n = false := (by simp [cntB]; omega); rw [this, Bool.false_and]
                have es : goodP ⟨⟨#[115, 116, 111, 114, 101]⟩, a3, [a1], zeros d, 0, 0, 0, 0, false, false, false, false⟩ = false := by rw [gl_store, show storesB a3 (zeros d) = false from (by unfold storesB; rw [zeros_size, decide_eq_false (by omega), Bool.and_false]), Bool.false_and]
                have EG := hide eg
                have ES := hide es
                clear eg es
                try go_simp
                go_step; go_step; go_step; go_step; go_step; go_step; go_step; go_step
                (apply region11; intros; rw [HV.out])
                go_wp2_with fail
                refine (good_is _ false EG.out _ n _ _ S (by have := N1.out; omega) (show (0 : Nat) ≤ 140737488351232 from by omega)).mono ?_
                rintro e wj ⟨rfl, hj⟩
                replace B := B.trans (hj.mono B.size)
                clear hj S
                have hm := make39 d (by have := N2.out; omega)
                have hcv := conv39b d wj (.cells #[.string a1] 9)
                go_wp2_with fail
                refine (good_is _ false ES.out _ 1 1 _ ((one_strs wj a1 (by have := N3.out; omega)).later ((Below.refl _ _).alloc (Nat.le_refl _) _)) (by omega) (by rw [zeros_size]; have := N2.out; omega)).mono ?_
                rintro e wk ⟨rfl, hj⟩
                replace B := (B.alloc B.size (.cells #[.string a1] 9))
                replace B := (B.alloc B.size (.cells (Array.replicate d (Value.int .u8 0)) 5))
                replace B := B.trans (hj.mono B.size)
                clear hj hm hcv
                go_wp2_with fail
                refine (good_is ⟨⟨#[100, 101, 108, 101, 116, 101]⟩, ⟨#[]⟩, [a1], ⟨#[]⟩, 0, 0, 0, 0, false, false, false, false⟩ true (by rw [gl_delete]; exact HK.out) _ 1 1 _ (one_strs _ a1 (by have := N3.out; omega)) (by omega) (show (0 : Nat) ≤ 140737488351232 from by omega)).mono ?_
                rintro e wj ⟨rfl, hj⟩
                replace B := B.alloc B.size (.cells #[.string a1] 9)
                replace B := B.trans (hj.mono B.size)
                clear hj
                go_wp2_with fail
                refine (good_is ⟨⟨#[116, 111, 117, 99, 104]⟩, ⟨#[]⟩, [a1], ⟨#[]⟩, 0, 0, 0, 0, false, false, false, false⟩ true (by rw [gl_touch]; exact HK.out) _ 1 1 _ (one_strs _ a1 (by have := N3.out; omega)) (by omega) (show (0 : Nat) ≤ 140737488351232 from by omega)).mono ?_
                rintro e wj ⟨rfl, hj⟩
                replace B := B.alloc B.size (.cells #[.string a1] 9)
                replace B := B.trans (hj.mono B.size)
                clear hj
                go_wp2_with fail
                refine (good_is ⟨⟨#[97, 114, 105, 116, 104]⟩, ⟨#[]⟩, [a1], ⟨#[]⟩, 0, 0, 0, 0, false, false, false, false⟩ true (by rw [gl_arith]; exact HK.out) _ 1 1 _ (one_strs _ a1 (by have := N3.out; omega)) (by omega) (show (0 : Nat) ≤ 140737488351232 from by omega)).mono ?_
                rintro e wj ⟨rfl, hj⟩
                replace B := B.alloc B.size (.cells #[.string a1] 9)
                replace B := B.trans (hj.mono B.size)
                clear hj
                go_wp2
                go_ret
                first
                  | exact ⟨rfl, B⟩
                  | exact ⟨retb (by rw [decide_eq_false (by omega)]; rfl), B⟩
              · have m2' : ((n : Int) ≤ 64) := by omega
                have c1' : Hid True := trivial
                go_wp2_with fail
                refine (ck.out).mono ?_
                rintro e w3 ⟨rfl, rfl⟩
                have eg : goodP ⟨⟨#[103, 101, 116]⟩, ⟨#[]⟩, List.replicate n a1, ⟨#[]⟩, 0, 0, 0, 0, false, false, false, false⟩ = true := by rw [gl_get, List.length_replicate, rep_all n a1 (by omega), show keyB a1 = _ from HK.out]; have : cntB n = true := (by simp [cntB]; omega); rw [this, Bool.true_and]
                have es : goodP ⟨⟨#[115, 116, 111, 114, 101]⟩, a3, [a1], zeros d, 0, 0, 0, 0, false, false, false, false⟩ = false := by rw [gl_store, show storesB a3 (zeros d) = false from (by unfold storesB; rw [zeros_size, decide_eq_false (by omega), Bool.and_false]), Bool.false_and]
                have EG := hide eg
                have ES := hide es
                clear eg es
                try go_simp
                go_step; go_step; go_step; go_step; go_step; go_step; go_step; go_step
                (apply region11; intros; rw [HV.out])
                go_wp2_with fail
                refine (good_is _ true EG.out _ n _ _ S (by have := N1.out; omega) (show (0 : Nat) ≤ 140737488351232 from by omega)).mono ?_
                rintro e wj ⟨rfl, hj⟩
                replace B := B.trans (hj.mono B.size)
                clear hj S
                have hm := make39 d (by have := N2.out; omega)
                have hcv := conv39b d wj (.cells #[.string a1] 9)
                go_wp2_with fail
                refine (good_is _ false ES.out _ 1 1 _ ((one_strs wj a1 (by have := N3.out; omega)).later ((Below.refl _ _).alloc (Nat.le_refl _) _)) (by omega) (by rw [zeros_size]; have := N2.out; omega)).mono ?_
                rintro e wk ⟨rfl, hj⟩
                replace B := (B.alloc B.size (.cells #[.string a1] 9))
                replace B := (B.alloc B.size (.cells (Array.replicate d (Value.int .u8 0)) 5))
                replace B := B.trans (hj.mono B.size)
                clear hj hm hcv
                go_wp2_with fail
                refine (good_is ⟨⟨#[100, 101, 108, 101, 116, 101]⟩, ⟨#[]⟩, [a1], ⟨#[]⟩, 0, 0, 0, 0, false, false, false, false⟩ true (by rw [gl_delete]; exact HK.out) _ 1 1 _ (one_strs _ a1 (by have := N3.out; omega)) (by omega) (show (0 : Nat) ≤ 140737488351232 from by omega)).mono ?_
                rintro e wj ⟨rfl, hj⟩
                replace B := B.alloc B.size (.cells #[.string a1] 9)
                replace B := B.trans (hj.mono B.size)
                clear hj
                go_wp2_with fail
                refine (good_is ⟨⟨#[116, 111, 117, 99, 104]⟩, ⟨#[]⟩, [a1], ⟨#[]⟩, 0, 0, 0, 0, false, false, false, false⟩ true (by rw [gl_touch]; exact HK.out) _ 1 1 _ (one_strs _ a1 (by have := N3.out; omega)) (by omega) (show (0 : Nat) ≤ 140737488351232 from by omega)).mono ?_
                rintro e wj ⟨rfl, hj⟩
                replace B := B.alloc B.size (.cells #[.string a1] 9)
                replace B := B.trans (hj.mono B.size)
                clear hj
                go_wp2_with fail
                refine (good_is ⟨⟨#[97, 114, 105, 116, 104]⟩, ⟨#[]⟩, [a1], ⟨#[]⟩, 0, 0, 0, 0, false, false, false, false⟩ true (by rw [gl_arith]; exact HK.out) _ 1 1 _ (one_strs _ a1 (by have := N3.out; omega)) (by omega) (show (0 : Nat) ≤ 140737488351232 from by omega)).mono ?_
                rintro e wj ⟨rfl, hj⟩
                replace B := B.alloc B.size (.cells #[.string a1] 9)
                replace B := B.trans (hj.mono B.size)
                clear hj
                go_wp2
                go_ret
                first
                  | exact ⟨rfl, B⟩
                  | exact ⟨retb (by rw [decide_eq_false (by omega)]; rfl), B⟩
end Go.Proofs.Ytofjadgnkpcaeaa.eventBounds
