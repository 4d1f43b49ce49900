/- Sorted over a map's numbers; Clear. -/
import Derived.Test.YtdkiegkgnimapabDoorKy
import Derived.Lib.SlKeysI
set_option linter.unusedVariables false
set_option linter.unusedSimpArgs false
set_option maxRecDepth 8000
namespace Go.Proofs.YtdkiegkgnimapabDoor
open Go.RowKit Go.Shelf Go.Deep Drm Go.Sort
open Sgg (I64 intL intL_inj keyLit)
open Slb (Pg)

def ColP (D0 : DataW Unit) (w : World) (e : Ending) (W' : World) : Prop := ∃ v ss, e = .returned v ∧ (ss.Nodup ∧ ∀ x, x ∈ ss ↔ Maps.has D0 (intL x) = true) ∧ W'.ownsRow w.heap.size 3 1 v ss.length (ss.map encI) ∧ (v = .slice none 0 0 ↔ ss = []) ∧ Below w.heap.size w W'
set_option maxHeartbeats 400000 in
theorem collect_any (Bm b nn : Nat) (D0 : DataW Unit) (hnn : nn ≤ 1000000) (w : World) (hBm : Bm < w.heap.size) (hm : w.cell? ⟨Bm, 0, none⟩ = some (.map (some b))) (hown : w.ownsMap Tryd.prog 3 ouElem b nn D0) :
    Calls Tryd.prog 54 #[.func (.func 56) #[] #[.pointer (some ⟨Bm, 0, none⟩)]] w (ColP D0 w) := by
  have ca := hide (appendSeq_any Bm b nn D0 hnn w hBm hm hown)
  clear hm hown
  go_enter Tryd.func54, Tryd.ntmps54
  go_wp2_with fail
  refine ca.out.mono ?_
  rintro r w1 ⟨v, ss, rfl, h1, h2, h3, h4⟩
  have H := hide (show ColP D0 w (.returned v) w1 from ⟨v, ss, rfl, h1, h2, h3, h4⟩)
  clear h1 h2 h3 h4 ca
  go_wp2
  go_ret
  exact H.out
set_option maxHeartbeats 1000000 in
theorem sorted_any (Bm b nn : Nat) (D0 : DataW Unit) (hnn : nn ≤ 1000000) (hL : ∀ ss : List Int, ss.Nodup → (∀ x, x ∈ ss ↔ Maps.has D0 (intL x) = true) → ss.length ≤ 100000) (w : World) (hBm : Bm < w.heap.size) (hm : w.cell? ⟨Bm, 0, none⟩ = some (.map (some b))) (hown : w.ownsMap Tryd.prog 3 ouElem b nn D0) :
    Calls Tryd.prog 32 #[.func (.func 56) #[] #[.pointer (some ⟨Bm, 0, none⟩)]] w (ColP D0 w) := by
  have ca := hide (collect_any Bm b nn D0 hnn w hBm hm hown)
  clear hm hown
  go_enter Tryd.func32, Tryd.ntmps32
  go_wp2_with fail
  refine ca.out.mono ?_
  rintro r w1 ⟨v, ss, rfl, ⟨hnd, hmem⟩, hrow, hnil, hb⟩
  rcases hrow.2 with ⟨rfl, hn0⟩ | ⟨g, cap, cur, rfl, hg, hh, hcap, hmax, hcs, htk⟩
  · have G : Hid (ColP D0 w (.returned (.slice none 0 0)) w1) := ⟨_, ss, rfl, ⟨hnd, hmem⟩, hrow, hnil, hb⟩
    clear hnd hmem hrow hnil hb ca hn0
    have cs := hide (Tryd.slices_Sort_int_none none 0 w1)
    go_wp2_with fail
    refine cs.out.mono ?_
    rintro r w2 ⟨rfl, h2⟩
    obtain rfl : w1 = w2 := h2.symm
    clear h2
    go_wp2
    go_ret
    exact G.out
  · have hH : Holds (Value.int .i64) w1 g 0 ss.toArray := holds_of_block_i hh (by have h9 := htk; rw [Nat.mul_one] at h9; exact h9)
    have hgl : g < w1.heap.size := (Array.getElem?_eq_some_iff.1 hh).1
    have hlen : ss.length < 4611686018427387904 := by
      have h9 := hL ss hnd hmem
      omega
    have cs := hide (Tryd.slices_Sort_int g 0 cap ss w1 hH hgl hlen)
    have G : Hid (∀ n os, ColP D0 w (.returned (.slice (some ⟨g, 0, none⟩) ss.length cap)) (grow (putRow (Value.int .i64) (Sort.ahead w1 n) g 0 (ss.mergeSort fun x y => decide (x ≤ y)).toArray) os)) := fun n os => by
      have hp := List.mergeSort_perm ss (fun x y => decide (x ≤ y))
      have hl := hp.length_eq
      refine ⟨_, ss.mergeSort fun x y => decide (x ≤ y), rfl, ⟨hp.nodup_iff.2 hnd, fun x => by rw [hp.mem_iff]; exact hmem x⟩, ?_, ?_, hb.grown (grownBy_sorted_i _) hb.size (fun j hj => by cases hj; exact hg)⟩
      · rw [hl]
        exact ownsRow_sorted_i hl hg hh (by simpa using hcap) hmax hcs
      · constructor
        · intro e; cases e
        · intro e
          rw [e] at hl
          have : ss = [] := List.eq_nil_of_length_eq_zero hl.symm
          have := hnil.2 this
          cases this
    generalize (ss.mergeSort fun x y => decide (x ≤ y)).toArray = ms at *
    generalize ss.length = sl at *
    clear hnd hmem hrow hnil hb ca hH hgl hlen hg hh hcap hmax hcs htk hL
    go_wp2_with fail
    refine cs.out.mono ?_
    rintro r w2 ⟨rfl, n, os, h2⟩
    have G2 := hide (G.out n os)
    rw [← h2] at G2
    clear G h2 cs
    go_wp2
    go_ret
    exact G2.out
/-! ### Clear -/
/-- Numbers let go one by one. -/
def dropAll (l : List Int) (d : Dm) : Dm := l.foldl (fun d i => dropD i d) d
section
variable {w0 W W' : World} {c : Nat} {d : Dm}
theorem drop_nums {i j : Int} : j ∈ nums (dropD i d).it ↔ j ∈ nums d.it ∧ j ≠ i := nums_outN
def ClP (w0 : World) (c : Nat) (d : Dm) (W : World) (e : Ending) (W' : World) : Prop := e = .returned (.tuple #[]) ∧ ∃ l, l.Nodup ∧ (∀ x, x ∈ l ↔ x ∈ nums d.it) ∧ DL w0 c (dropAll l d) W' ∧ OffD W W'
theorem own_cell {W : World} {base : Nat} {v : Value} {ss : List Int} (h : W.ownsRow base 3 1 v ss.length (ss.map encI)) {i : Nat} {x : Int} (hx : ss[i]? = some x) : ∃ g cap, v = .slice (some ⟨g, 0, none⟩) ss.length cap ∧ W.cell? ⟨g, i, none⟩ = some (.int .i64 x) := by
  have hi := (List.getElem?_eq_some_iff.1 hx).1
  rcases h.2 with ⟨_, h2⟩ | ⟨g, cap, cur, hv, hg, hh, hcap, hmax, hcs, htk⟩
  · omega
  · refine ⟨g, cap, hv, ?_⟩
    rw [Nat.mul_one] at htk
    have h1 : (cur.toList.take ss.length)[i]? = (ss.map encI)[i]? := by rw [htk]
    rw [List.getElem?_take_of_lt hi, List.getElem?_map, hx] at h1
    simp only [World.cell?, hh]
    simp only [Option.isSome_none, Bool.false_eq_true, if_false]
    rw [← Array.getElem?_toList, h1]
    rfl
set_option maxHeartbeats 2000000 in
theorem clear_d (h : DL w0 c d W) : Calls Tryd.prog 13 #[.pointer (some ⟨c, 0, none⟩)] W (ClP w0 c d W) := by
  obtain ⟨a, m, t1, t2⟩ := h.ml
  have hI := h.iv
  have hfew := h.few
  have c3 := m.c3
  obtain ⟨D0, hD, hM, hz⟩ := m.mx.mp
  have hhas : ∀ x, Maps.has D0 (intL x) = true ↔ x ∈ nums d.it := fun x => by rw [hM.has x, lok_isSome]
  have cK := hide (keys_any (some a.m) W)
  have hBb : Below W.heap.size W (W.alloc (.cells #[.map (some a.m)] 53)) := (Below.refl _ W).alloc (Nat.le_refl _) _
  have hown : (W.alloc (.cells #[.map (some a.m)] 53)).ownsMap Tryd.prog 3 ouElem a.m d.it.length D0 := hD.alloc _
  have cS := hide (sorted_any W.heap.size a.m d.it.length D0 (by omega) (fun ss h1 h2 => by
    have h3 : ss.length ≤ (nums d.it).length := nd_len h1 (fun x hx => (hhas x).1 ((h2 x).1 hx))
    simp only [nums, List.length_map] at h3
    omega) (W.alloc (.cells #[.map (some a.m)] 53)) (by simp) ((Blk.new W [.map (some a.m)] 53).cell rfl) hown)
  have HE : Hid (∀ (v : Value) (ss : List Int) (W1 : World), ss.Nodup ∧ (∀ x, x ∈ ss ↔ Maps.has D0 (intL x) = true) → Below (W.alloc (.cells #[.map (some a.m)] 53)).heap.size (W.alloc (.cells #[.map (some a.m)] 53)) W1 → DL w0 c d W1 ∧ OffD W W1 ∧ (∀ x : Int, x ∈ ss ↔ x ∈ nums d.it)) := fun v ss W1 h1 b1 => by
    have b2 : Below W.heap.size W W1 := hBb.trans (b1.mono (by simp))
    exact ⟨h.on b2, OffD.below b2, fun x => (h1.2 x).trans (hhas x)⟩
  have HFW := hide hfew
  clear h m t1 t2 hI hfew hD hM hz hhas hBb hown
  go_enter Tryd.func13, Tryd.ntmps13
  go_wp2_with fail
  refine cK.out.mono ?_
  rintro e W0 ⟨rfl, hW0⟩
  rw [← hW0] at cS HE
  clear cK hW0 c3
  go_wp2_with fail
  refine cS.out.mono ?_
  rintro e W1 ⟨v, ss, rfl, hss, hrow, hnil, b1⟩
  obtain ⟨d1, o1, hmem⟩ := HE.out v ss W1 hss b1
  obtain ⟨va, vc, rfl⟩ : ∃ va vc, v = .slice va ss.length vc := by
    rcases hrow.2 with ⟨h1, h2⟩ | ⟨g, cap, cur, hv, _⟩
    · exact ⟨none, 0, by rw [h1, h2]⟩
    · exact ⟨_, _, hv⟩
  have HR := hide hrow
  have HS := hide hss.1
  have HM := hide hmem
  obtain ⟨n, hn⟩ : ∃ n, n = ss.length := ⟨_, rfl⟩
  have HN := hide hn
  have HD := hide (And.intro d1 o1)
  rw [← hn]
  have hn9 : n ≤ 100000 := by
    have h3 : ss.length ≤ (nums d.it).length := nd_len hss.1 (fun x hx => (hmem x).1 hx)
    have := HFW.out
    simp only [nums, List.length_map] at h3
    omega
  have HN9 := hide hn9
  clear cS HE hss hrow hnil b1 d1 o1 hmem hn hn9
  go_wp2
  go_loopg [3, 11] n (fun kx s3 s11 wr => ∃ (i : Nat), s11 = .int .i64 (i : Int) ∧ Hid (i ≤ n ∧ n - i ≤ kx ∧ DL w0 c (dropAll (ss.take i) d) wr ∧ OffD W wr ∧ wr.ownsRow W0.heap.size 3 1 (.slice va ss.length vc) ss.length (ss.map encI) ∧ ∀ x, x ∈ nums (dropAll (ss.take i) d).it ↔ x ∈ nums d.it ∧ x ∉ ss.take i))
  case atStart => exact ⟨0, rfl, Nat.zero_le _, Nat.le_refl _, by simpa [dropAll] using HD.out.1, HD.out.2, HR.out, fun x => by simp [dropAll]⟩
  case round =>
    obtain ⟨i, rfl, I⟩ := hrel
    obtain ⟨i1, i2, i3, i4, i5, i6⟩ := I.out
    by_cases hlt : i < n
    · have hlt2 : (i : Int) < (n : Int) := by omega
      have hx := List.getElem?_eq_getElem (l := ss) (i := i) (by rw [← HN.out]; exact hlt)
      obtain ⟨x, hxe⟩ : ∃ x, x = ss[i]'(by rw [← HN.out]; exact hlt) := ⟨_, rfl⟩
      rw [← hxe] at hx
      obtain ⟨g, cap, hv, hcell⟩ := own_cell i5 hx
      simp only [Value.slice.injEq] at hv
      obtain ⟨rfl, -, rfl⟩ := hv
      have htk : ss.take (i + 1) = ss.take i ++ [x] := by rw [List.take_succ_eq_append_getElem (by rw [← HN.out]; exact hlt), ← hxe]
      have hxn : x ∉ ss.take i := fun hm => by
        have h1 := HS.out
        rw [← List.take_append_drop i ss, List.nodup_append] at h1
        have h2 : x ∈ ss.drop i := by
          rw [List.drop_eq_getElem_cons (by rw [← HN.out]; exact hlt), ← hxe]
          simp
        exact h1.2.2 x hm x h2 rfl
      have hxm : x ∈ nums (dropAll (ss.take i) d).it := (i6 x).2 ⟨(HM.out x).1 (List.mem_of_getElem? hx), hxn⟩
      have cD := hide (drop_d i3 hxm)
      have HNX : Hid (∀ W2, DL w0 c (dropD x (dropAll (ss.take i) d)) W2 → OffD wr W2 → i + 1 ≤ n ∧ n - (i + 1) ≤ n - (i + 1) ∧ DL w0 c (dropAll (ss.take (i + 1)) d) W2 ∧ OffD W W2 ∧ W2.ownsRow W0.heap.size 3 1 (.slice (some ⟨g, 0, none⟩) ss.length vc) ss.length (ss.map encI) ∧ ∀ x, x ∈ nums (dropAll (ss.take (i + 1)) d).it ↔ x ∈ nums d.it ∧ x ∉ ss.take (i + 1)) := fun W2 d2 o2 => by
        have e1 : dropAll (ss.take (i + 1)) d = dropD x (dropAll (ss.take i) d) := by
          rw [htk]
          unfold dropAll
          rw [List.foldl_append]
          rfl
        refine ⟨by omega, Nat.le_refl _, by rw [e1]; exact d2, i4.trans o2, own_same i5 (fun q hq => ?_), fun y => ?_⟩
        · obtain ⟨_, cc, hcc⟩ := own_ty i5 hq
          exact o2.2 q cc 3 hcc rfl
        · rw [e1, drop_nums, i6, htk, List.mem_append, List.mem_singleton, not_or, and_assoc]
      have HI2 := hide i2
      have HLT := hide hlt
      clear hlt hx hxe i1 i2 i3 i4 i5 i6 I htk hxn hxm HD HR
      go_wp2_with fail
      refine cD.out.mono ?_
      rintro e W2 ⟨rfl, d2, o2⟩
      have HNX2 := hide (HNX.out W2 d2 o2)
      clear cD HNX d2 o2 hcell
      have hn99 : (n : Int) ≤ 100000 := by have := HN9.out; omega
      go_wp2
      go_roundg (n - (i + 1))
      case measure => have := HI2.out; have := HLT.out; omega
      case rel => exact ⟨i + 1, rfl, HNX2.out⟩
    · have hlt2 : ¬ (i : Int) < (n : Int) := by omega
      have HE : Hid (ClP w0 c d W (.returned (.tuple #[])) wr) := by
        rw [List.take_of_length_le (by have := HN.out; omega)] at i3
        exact ⟨rfl, ss, HS.out, HM.out, i3, i4⟩
      clear hlt i1 i2 i3 i4 i5 i6 I HD HR
      go_wp2
      go_end0
      exact HE.out
end
end Go.Proofs.YtdkiegkgnimapabDoor
