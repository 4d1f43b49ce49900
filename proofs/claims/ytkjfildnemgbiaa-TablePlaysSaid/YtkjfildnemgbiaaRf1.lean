/- The document's own table in memory: find, Left, old, put. -/
import Derived.Test.YtkjfildnemgbiaaRem
import Derived.Test.YtkjfildnemgbiaaAnyQ
set_option linter.unusedVariables false
set_option linter.unusedSimpArgs false
set_option maxRecDepth 8000
namespace Go.Proofs.Ytkjfildnemgbiaa
open Go.RowKit Go.Deep Go.Shelf Math Tab Go.Sort

/-! ### Rows of numbers -/
def intV (xs : List Int) : List Value := xs.map fun x => Value.int .i64 x
structure NR (B : Nat) (v : Value) (xs : List Int) (W : World) : Prop where
  row : W.ownsRow B 3 1 v xs.length (intV xs)
theorem NR.nil (B : Nat) (W : World) : NR B (.slice none 0 0) [] W := ⟨⟨rfl, .inl ⟨rfl, rfl⟩⟩⟩
theorem NR.slice {B : Nat} {W : World} {v : Value} {xs : List Int} (h : NR B v xs W) : ∃ a c, v = .slice a xs.length c := by
  rcases h.row.2 with ⟨h1, h0⟩ | ⟨g, cap, cur, hv, _⟩
  · exact ⟨none, 0, by rw [h1, h0]⟩
  · exact ⟨_, _, hv⟩
theorem NR.cell {B : Nat} {W : World} {v : Value} {xs : List Int} (h : NR B v xs W) {i : Nat} {x : Int} (hx : xs[i]? = some x) : ∃ g c, v = .slice (some ⟨g, 0, none⟩) xs.length c ∧ W.cell? ⟨g, i, none⟩ = some (.int .i64 x) ∧ W.frozen? ⟨g, i, none⟩ = false ∧ g < W.heap.size ∧ xs.length ≤ c := by
  have hi := (List.getElem?_eq_some_iff.1 hx).1
  rcases h.row.2 with ⟨_, h0⟩ | ⟨g, cap, cur, hv, _, hh, hnc, _, _, htk⟩
  · omega
  · refine ⟨g, cap, hv, ?_, by simp [World.frozen?, hh], (Array.getElem?_eq_some_iff.1 hh).1, hnc⟩
    have e1 : (intV xs)[i]? = some (.int .i64 x) := by simp [intV, hx]
    rw [← htk, List.getElem?_take] at e1
    split at e1
    · rw [Array.getElem?_toList] at e1
      simp [World.cell?, hh, e1]
    · cases e1

def sl2 (ob n : Nat) : Value := if n = 0 then .slice none 0 0 else .slice (some ⟨ob, 0, none⟩) n n
theorem sl2_is (ob n : Nat) : ∃ a, sl2 ob n = .slice a n n := by
  unfold sl2
  split
  · rename_i h; exact ⟨_, by rw [h]⟩
  · exact ⟨_, rfl⟩
theorem sl2_pos (ob n : Nat) (h : 0 < n) : sl2 ob n = .slice (some ⟨ob, 0, none⟩) n n := by unfold sl2; rw [if_neg (by omega)]
abbrev Ch := List (List (List UInt8))
/-- The document's table f: its new buckets in block nb, its old ones (nx of them moved) in block ob, its keys and numbers. -/
structure RfIn (B : Nat) (w : World) (f nb ob nx : Nat) (vN vO : List Value) (nw od : Ch) (kv vv : Value) (ks : List (List UInt8)) (vs : List Int) : Prop where
  own : Blk w f [.slice (some ⟨nb, 0, none⟩) nw.length nw.length, sl2 ob (nx + od.length), .int .i64 (nx : Int), kv, vv] 43
  rN : Blk w nb vN 29
  lN : vN.length = nw.length
  eN : ∀ (i : Nat) (ss : List (List UInt8)), nw[i]? = some ss → ∃ v, vN[i]? = some v ∧ SR B v ss w ∧ ∀ q ∈ ownB v, q ∉ ownB kv
  rO : 0 < nx + od.length → Blk w ob vO 29
  ne : 0 < nx + od.length → nb ≠ ob
  lO : vO.length = nx + od.length
  zO : ∀ i : Nat, i < nx → vO[i]? = some (.slice none 0 0)
  eO : ∀ (i : Nat) (ss : List (List UInt8)), od[i]? = some ss → ∃ v, vO[nx + i]? = some v ∧ SR B v ss w ∧ ∀ q ∈ ownB v, q ∉ ownB kv
  kk : SR B kv ks w
  kn : NR B vv vs w
  lf : B ≤ f
  lb : B ≤ nb
  lo : 0 < nx + od.length → B ≤ ob
section
variable {B : Nat} {w w' : World} {f nb ob nx : Nat} {vN vO : List Value} {nw od : Ch} {kv vv : Value} {ks : List (List UInt8)} {vs : List Int} {key : List UInt8}
def footR (f nb ob n : Nat) (kv vv : Value) : List Nat := f :: nb :: ((if 0 < n then [ob] else []) ++ (ownB kv ++ ownB vv))
theorem NR.same {B : Nat} {W W' : World} {v : Value} {xs : List Int} (h : NR B v xs W) (k : ∀ q, v.ownBlock = some q → W'.heap[q]? = W.heap[q]?) : NR B v xs W' := ⟨own_same h.row k⟩
theorem SR.sameB {B : Nat} {W W' : World} {v : Value} {ss : List (List UInt8)} (h : SR B v ss W) (k : ∀ q, v.ownBlock = some q → W'.heap[q]? = W.heap[q]?) : SR B v ss W' := ⟨own_same h.row k⟩
/-- A world in which nothing of the document's table, nor any row of texts, has turned. -/
theorem RfIn.same (h : RfIn B w f nb ob nx vN vO nw od kv vv ks vs) (k : ∀ (b : Nat) (c : Array Value) (t : TypeId), w.heap[b]? = some (.cells c t (0, 0)) → t = 43 ∨ t = 29 ∨ t = 9 ∨ t = 3 → w'.heap[b]? = w.heap[b]?) : RfIn B w' f nb ob nx vN vO nw od kv vv ks vs := by
  have ks2 : ∀ {v : Value} {ss : List (List UInt8)}, SR B v ss w → SR B v ss w' := fun hS => hS.sameB (fun q hq => by obtain ⟨_, c, hc⟩ := own_ty hS.row hq; exact k q c 9 hc (by simp))
  refine ⟨h.own.same (k f _ 43 h.own (by simp)), h.rN.same (k nb _ 29 h.rN (by simp)), h.lN, fun i ss hs => ?_, fun h0 => (h.rO h0).same (k ob _ 29 (h.rO h0) (by simp)), h.ne, h.lO, h.zO, fun i ss hs => ?_, ks2 h.kk, h.kn.same (fun q hq => by obtain ⟨_, c, hc⟩ := own_ty h.kn.row hq; exact k q c 3 hc (by simp)), h.lf, h.lb, h.lo⟩
  · obtain ⟨v, h1, h2, h3⟩ := h.eN i ss hs
    exact ⟨v, h1, ks2 h2, h3⟩
  · obtain ⟨v, h1, h2, h3⟩ := h.eO i ss hs
    exact ⟨v, h1, ks2 h2, h3⟩
theorem RfIn.drewN (h : RfIn B w f nb ob nx vN vO nw od kv vv ks vs) (q : Nat) : RfIn B (w.drewN q) f nb ob nx vN vO nw od kv vv ks vs := h.same (fun _ _ _ _ _ => rfl)
theorem RfIn.below (h : RfIn B w f nb ob nx vN vO nw od kv vv ks vs) (b : Below w.heap.size w w') : RfIn B w' f nb ob nx vN vO nw od kv vv ks vs := h.same (fun q c t hq _ => b.block q (Array.getElem?_eq_some_iff.1 hq).1)

/-! ### find, Left -/
def idx (key : List UInt8) (ks : List (List UInt8)) : Int := match ks.findIdx? (fun k => decide (k = key)) with
  | some i => (i : Int)
  | none => -1
theorem idx_some {key : List UInt8} {ks : List (List UInt8)} {i : Nat} (h1 : ks[i]? = some key) (h2 : key ∉ ks.take i) : idx key ks = (i : Int) := by
  unfold idx
  have : ks.findIdx? (fun k => decide (k = key)) = some i := by
    rw [List.findIdx?_eq_some_iff_getElem]
    obtain ⟨hi, hk⟩ := List.getElem?_eq_some_iff.1 h1
    refine ⟨hi, by simpa using hk, fun j hj => ?_⟩
    simp only [decide_eq_true_eq]
    intro e
    exact h2 (List.mem_of_getElem? (i := j) (by rw [List.getElem?_take, if_pos hj, List.getElem?_eq_getElem (by omega), e]))
  rw [this]
theorem idx_none {key : List UInt8} {ks : List (List UInt8)} (h : key ∉ ks) : idx key ks = -1 := by
  unfold idx
  have : ks.findIdx? (fun k => decide (k = key)) = none := by
    rw [List.findIdx?_eq_none_iff]
    intro x hx
    simp only [decide_eq_false_iff_not]
    exact fun e => h (e ▸ hx)
  rw [this]
theorem ret_i64 {a b : Int} (h : a = b) : Ending.returned (.int .i64 a) = .returned (.int .i64 b) := by rw [h]
set_option maxHeartbeats 1000000 in
theorem rfind_any (h : RfIn B w f nb ob nx vN vO nw od kv vv ks vs) (key : List UInt8) (n1 : ks.length ≤ 1048576) :
    Calls Try.prog 37 #[.pointer (some ⟨f, 0, none⟩), .string (txt key)] w fun e w' => e = .returned (.int .i64 (idx key ks)) ∧ w' = w := by
  have c3 := h.own.cell (i := 3) rfl
  obtain ⟨ka, kc, hkv⟩ := h.kk.slice
  rw [hkv] at c3
  have HR : Hid (RdA w ka ks) := by have := h.kk; rw [hkv] at this; exact this.rd
  clear h hkv
  obtain ⟨n, hn⟩ : ∃ n, n = ks.length := ⟨_, rfl⟩
  rw [← hn] at c3 n1
  have HN := hide hn
  clear hn
  go_enter Try.func37, Try.ntmps37
  go_wp2
  go_loopg [5] n (fun kx s5 wr => ∃ (i : Nat), s5 = .int .i64 i ∧ wr = w ∧ Hid (i ≤ n ∧ n - i ≤ kx ∧ key ∉ ks.take i))
  case atStart => exact ⟨0, rfl, rfl, Nat.zero_le _, Nat.le_refl _, by simp⟩
  case round =>
    obtain ⟨i, rfl, rfl, I⟩ := hrel
    by_cases hlt : i < n
    · have hlt2 : (i : Int) < (n : Int) := by omega
      have g1 := List.getElem?_eq_getElem (l := ks) (i := i) (by rw [← HN.out]; exact hlt)
      obtain ⟨x, hx⟩ : ∃ x, x = ks[i]'(by rw [← HN.out]; exact hlt) := ⟨_, rfl⟩
      rw [← hx] at g1
      clear hx
      obtain ⟨b1, o1, rfl, k1⟩ := HR.out i x g1
      have he := txt_eq x key
      have G1 := hide g1
      clear g1
      by_cases hxy : x = key
      · rw [decide_eq_true hxy] at he
        have HXY := hide hxy
        clear hxy
        generalize txt x = tx at *
        generalize txt key = ty at *
        go_wp2
        go_ret
        refine ⟨ret_i64 ?_, rfl⟩
        exact (idx_some (by rw [G1.out, HXY.out]) I.out.2.2).symm
      · rw [decide_eq_false hxy] at he
        have HXY := hide hxy
        clear hxy
        generalize txt x = tx at *
        generalize txt key = ty at *
        go_wp2
        go_roundg (n - (i + 1))
        case measure => have := I.out.2.1; omega
        case rel =>
          refine ⟨i + 1, rfl, rfl, by omega, Nat.le_refl _, fun hm => ?_⟩
          obtain ⟨h1, h2⟩ := List.getElem?_eq_some_iff.1 G1.out
          rw [List.take_succ_eq_append_getElem h1, List.mem_append] at hm
          rcases hm with hm | hm
          · exact I.out.2.2 hm
          · rw [h2] at hm
            simp at hm
            exact HXY.out hm.symm
    · have hlt2 : ¬ (i : Int) < (n : Int) := by omega
      go_wp2
      go_ret
      refine ⟨ret_i64 ?_, rfl⟩
      have h3 := I.out.2.2
      rw [List.take_of_length_le (by have := HN.out; omega)] at h3
      exact (idx_none h3).symm
set_option maxHeartbeats 1000000 in
theorem rleft_any (h : RfIn B w f nb ob nx vN vO nw od kv vv ks vs) (n1 : nx + od.length ≤ 1048576) :
    Calls Try.prog 23 #[.pointer (some ⟨f, 0, none⟩)] w fun e w' => e = .returned (.int .i64 (od.length : Int)) ∧ ∃ q, w' = w.drewN q := by
  have c1 := h.own.cell (i := 1) rfl
  have c2 := h.own.cell (i := 2) rfl
  obtain ⟨a, ha⟩ := sl2_is ob (nx + od.length)
  rw [ha] at c1
  obtain ⟨N, hN⟩ : ∃ N, N = nx + od.length := ⟨_, rfl⟩
  have e1 : (N : Int) - (nx : Int) = (od.length : Int) := by omega
  have e2 : IntKind.i64.wrap (od.length : Int) = (od.length : Int) := by rw [IntKind.wrap_i64]; omega
  rw [← hN] at c1 n1
  clear h ha hN
  generalize od.length = m at *
  go_enter Try.func23, Try.ntmps23
  go_wp2
  go_quiet (fail)
  go_wp2
  go_ret
  exact ⟨rfl, _, rfl⟩
end
end Go.Proofs.Ytkjfildnemgbiaa
