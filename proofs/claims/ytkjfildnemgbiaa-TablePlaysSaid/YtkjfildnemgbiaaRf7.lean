/- The document's Set: the walks. -/
import Derived.Test.YtkjfildnemgbiaaRf6
set_option linter.unusedVariables false
set_option linter.unusedSimpArgs false
set_option maxRecDepth 8000
namespace Go.Proofs.Ytkjfildnemgbiaa
open Go.RowKit Go.Deep Go.Shelf Math Tab Go.Sort
/-- Nothing but rows of the document's own kinds has turned, and nothing below B. -/
structure OffR (B : Nat) (w w' : World) : Prop where
  os : w'.os = w.os
  tape : w'.tape = w.tape
  output : w'.output = w.output
  size : w.heap.size ≤ w'.heap.size
  low : ∀ k, k < B → w'.heap[k]? = w.heap[k]?
  typ : ∀ (k : Nat) (c : Array Value) (t : TypeId), w.heap[k]? = some (.cells c t (0, 0)) → t ≠ 43 → t ≠ 29 → t ≠ 9 → t ≠ 3 → w'.heap[k]? = w.heap[k]?
theorem OffR.refl (B : Nat) (w : World) : OffR B w w := ⟨rfl, rfl, rfl, Nat.le_refl _, fun _ _ => rfl, fun _ _ _ _ _ _ _ _ => rfl⟩
theorem OffR.trans {B : Nat} {a b c : World} (h : OffR B a b) (k : OffR B b c) : OffR B a c :=
  ⟨k.os.trans h.os, k.tape.trans h.tape, k.output.trans h.output, Nat.le_trans h.size k.size, fun i hi => (k.low i hi).trans (h.low i hi), fun i cc t hc h1 h2 h3 h4 => by
    have e := h.typ i cc t hc h1 h2 h3 h4
    exact (k.typ i cc t (e.trans hc) h1 h2 h3 h4).trans e⟩
theorem OffR.below {B : Nat} {w w' : World} (b : Below w.heap.size w w') (hB : B ≤ w.heap.size) : OffR B w w' :=
  ⟨b.os, b.tape, b.output, b.size, fun k hk => b.block k (by omega), fun k c t hk _ _ _ _ => b.block k (Array.getElem?_eq_some_iff.1 hk).1⟩
theorem OffR.setCell {B : Nat} {w : World} {b o : Nat} {L : List Value} {t : TypeId} (hb : Blk w b L t) (hB : B ≤ b) (ht : t = 43 ∨ t = 29 ∨ t = 9 ∨ t = 3) (v : Value) : OffR B w (w.setCell ⟨b, o, none⟩ v) :=
  ⟨rfl, rfl, rfl, by rw [nblk_setCell]; exact Nat.le_refl _, fun k hk => blk_setCell_other _ _ _ _ (by show k ≠ b; omega), fun k c t' hk h1 h2 h3 h4 => blk_setCell_other _ _ _ _ (fun e => by
    have e : k = b := e
    subst e
    unfold Blk at hb
    rw [hb] at hk
    simp at hk
    rcases ht with h | h | h | h <;> exact absurd (hk.2.symm.trans h) (by assumption))⟩
theorem OffR.keep {B : Nat} {w w' : World} {F : List Nat} (K : Keep F w w') (hB : B ≤ w.heap.size) (hF : ∀ q ∈ F, B ≤ q ∧ ∃ (c : Array Value) (t : TypeId), w.heap[q]? = some (.cells c t (0, 0)) ∧ (t = 43 ∨ t = 29 ∨ t = 9 ∨ t = 3)) : OffR B w w' :=
  ⟨K.os, K.tape, K.output, K.size, fun k hk => K.block k (by omega) (fun hm => by have := (hF k hm).1; omega), fun k c t hk h1 h2 h3 h4 => K.block k (Array.getElem?_eq_some_iff.1 hk).1 (fun hm => by
    obtain ⟨_, c2, t2, hc2, ht⟩ := hF k hm
    rw [hk] at hc2
    simp at hc2
    obtain ⟨_, rfl⟩ := hc2
    rcases ht with h | h | h | h <;> exact absurd h (by assumption))⟩
/-- The document's table, wherever its rows lie. -/
structure RZ (B f nx : Nat) (nw od : Ch) (ks : List (List UInt8)) (vs : List Int) (w : World) : Prop where
  ex : ∃ nb ob vN vO kv vv, RfIn B w f nb ob nx vN vO nw od kv vv ks vs
  low : B ≤ w.heap.size
def mvNw (nw od : Ch) : Ch := (od.head?.getD []).foldl rpush nw
def mvNx (nx m : Nat) : Nat := if m = 0 then nx else nx + 1
section
variable {B : Nat} {w w' : World} {f nb ob nx : Nat} {vN vO : List Value} {nw od : Ch} {kv vv : Value} {ks : List (List UInt8)} {vs : List Int} {key : List UInt8}
/-- What the document's table is bound by here. -/
structure RBd (nx : Nat) (nw od : Ch) : Prop where
  n1 : 1 ≤ nw.length
  n9 : nw.length ≤ 131072
  m9 : nx + od.length ≤ 131072
  t9 : nw.flatten.length + od.flatten.length ≤ 1000
  hk : ∀ c ∈ od, ∀ k ∈ c, k.length ≤ maxLen
theorem rmove_z (Z : RZ B f nx nw od ks vs w) (D : RBd nx nw od) : Calls Try.prog 36 #[.pointer (some ⟨f, 0, none⟩)] w fun e w' => e = .returned (.tuple #[]) ∧ RZ B f (mvNx nx od.length) (mvNw nw od) od.tail ks vs w' ∧ OffR B w w' := by
  obtain ⟨⟨nb, ob, vN, vO, kv, vv, h⟩, hB⟩ := Z
  by_cases h0 : 0 < nx + od.length
  · refine (rmove_any h hB D.n1 D.n9 D.m9 D.t9 D.hk).mono ?_
    rintro e w' ⟨rfl, vN', vO', h', K⟩
    refine ⟨rfl, ⟨⟨nb, ob, vN', vO', kv, vv, h'⟩, Nat.le_trans hB K.size⟩, OffR.keep K hB (fun q hq => ?_)⟩
    simp only [List.mem_cons, List.not_mem_nil, or_false] at hq
    rcases hq with rfl | rfl | rfl
    · exact ⟨h.lf, _, _, h.own, by simp⟩
    · exact ⟨h.lb, _, _, h.rN, by simp⟩
    · exact ⟨h.lo h0, _, _, h.rO h0, by simp⟩
  · have e0 : od = [] := List.eq_nil_of_length_eq_zero (by omega)
    subst e0
    have hq : RfIn B w f nb nb nx vN vO nw [] kv vv ks vs := ⟨by
      have := h.own
      have e : nx + ([] : Ch).length = 0 := by omega
      rw [e] at this ⊢
      exact this, h.rN, h.lN, h.eN, fun h1 => absurd h1 h0, fun h1 => absurd h1 h0, h.lO, h.zO, h.eO, h.kk, h.kn, h.lf, h.lb, fun h1 => absurd h1 h0⟩
    refine (rmove_any hq hB D.n1 D.n9 D.m9 D.t9 D.hk).mono ?_
    rintro e w' ⟨rfl, vN', vO', h', K⟩
    refine ⟨rfl, ⟨⟨nb, nb, vN', vO', kv, vv, h'⟩, Nat.le_trans hB K.size⟩, OffR.keep K hB (fun q hq => ?_)⟩
    simp only [List.mem_cons, List.not_mem_nil, or_false] at hq
    rcases hq with rfl | rfl | rfl
    · exact ⟨h.lf, _, _, h.own, by simp⟩
    · exact ⟨h.lb, _, _, h.rN, by simp⟩
    · exact ⟨h.lb, _, _, h.rN, by simp⟩
set_option maxHeartbeats 2000000 in
theorem rset_hit (Z : RZ B f nx nw od ks vs w) (D : RBd nx nw od) (key : List UInt8) (hk : key.length ≤ maxLen) (v : Int) (i : Nat) (hi : idx key ks = (i : Int)) (hiv : i < vs.length) (k9 : ks.length ≤ 1000) (v9 : vs.length ≤ 1000) :
    Calls Try.prog 16 #[.pointer (some ⟨f, 0, none⟩), .string (txt key), .int .i64 v] w fun e w' => e = .returned (.bool false) ∧ RZ B f (mvNx nx od.length) (mvNw nw od) od.tail ks (vs.set i v) w' ∧ OffR B w w' := by
  have cM := hide (rmove_z Z D)
  clear Z D
  go_enter Try.func16, Try.ntmps16
  go_wp2_with fail
  refine cM.out.mono ?_
  rintro e W1 ⟨rfl, Z1, O1⟩
  obtain ⟨⟨nb, ob, vN, vO, kv, vv, h⟩, hB⟩ := Z1
  have cF := hide (rfind_any h key (by omega))
  rw [hi] at cF
  have c4 := h.own.cell (i := 4) rfl
  obtain ⟨x, hx⟩ : ∃ x, vs[i]? = some x := ⟨_, List.getElem?_eq_getElem hiv⟩
  obtain ⟨g, vc, hvv, kc, kf, kl, _⟩ := h.kn.cell hx
  rw [hvv] at c4
  have HE : Hid (RZ B f (mvNx nx od.length) (mvNw nw od) od.tail ks (vs.set i v) (W1.setCell ⟨g, i, none⟩ (.int .i64 v)) ∧ OffR B w (W1.setCell ⟨g, i, none⟩ (.int .i64 v))) := by
    have hN := h.kn
    rw [hvv] at hN
    have hgt : ∃ c : Array Value, W1.heap[g]? = some (.cells c 3 (0, 0)) := (own_ty hN.row (q := g) rfl).2
    obtain ⟨cg, hcg⟩ := hgt
    have hBg : B ≤ g := (own_ty hN.row (q := g) rfl).1
    refine ⟨⟨⟨nb, ob, vN, vO, kv, vv, h.turnV ?_ ?_ ?_⟩, by rw [nblk_setCell]; exact hB⟩, O1.trans ?_⟩
    · exact h.own.other (a := ⟨g, i, none⟩) (h.own.not_ty hcg (by decide)) _
    · intro b h1 h2 h3
      refine blk_setCell_other _ _ _ _ (fun e => h2 ?_)
      rw [hvv]
      have e : b = g := e
      rw [e]; simp [ownB, Value.ownBlock]
    · rw [hvv]; exact hN.set hiv
    · exact OffR.setCell (L := cg.toList) (t := 3) (by unfold Blk; simpa using hcg) hBg (by simp) _
  have hi2 : ¬ ((i : Int) < 0) := by omega
  have hi3 : (0 : Int) ≤ (i : Int) := by omega
  have v9' : vs.length ≤ 1000 := v9
  have HI : Hid (i < vs.length) := hiv
  obtain ⟨m, hm⟩ : ∃ m, m = vs.length := ⟨_, rfl⟩
  rw [← hm] at c4 hiv v9'
  clear h hB hx hvv hi cM O1 HI hm v9 hk k9
  generalize txt key = tk at *
  go_wp2_with fail
  refine cF.out.mono ?_
  rintro e wx ⟨rfl, hx⟩
  obtain rfl : W1 = wx := hx.symm
  clear hx cF
  go_wp2
  go_ret
  exact ⟨rfl, HE.out⟩
set_option maxHeartbeats 4000000 in
theorem rset_new_nA (Z : RZ B f nx nw od ks vs w) (D : RBd nx nw od) (D1 : RBd (mvNx nx od.length) (mvNw nw od) od.tail) (key : List UInt8) (hk : key.length ≤ maxLen) (v : Int) (hi : idx key ks = -1) (k9 : ks.length ≤ 1000) (v9 : vs.length ≤ 1000) (hold : oldI (mvNx nx od.length) od.tail.length key = -1) (hful : ¬ 3 * nw.length < 2 * (ks.length + 1)) :
    Calls Try.prog 16 #[.pointer (some ⟨f, 0, none⟩), .string (txt key), .int .i64 v] w fun e w' => e = .returned (.bool true) ∧ RZ B f (mvNx nx od.length) (rpush (mvNw nw od) key) od.tail (ks ++ [key]) (vs ++ [v]) w' ∧ OffR B w w' := by
  have cM := hide (rmove_z Z D)
  have hnl : (mvNw nw od).length = nw.length := rfold_len _ _
  clear Z D
  obtain ⟨tk, htk⟩ : ∃ tk, tk = txt key := ⟨_, rfl⟩
  rw [← htk]
  have HTK := hide htk
  go_enter Try.func16, Try.ntmps16
  go_wp2_with fail
  refine cM.out.mono ?_
  rintro e W1 ⟨rfl, Z1, O1⟩
  obtain ⟨⟨nb, ob, vN, vO, kv, vv, h⟩, hB⟩ := Z1
  have cF := hide (rfind_any h key (by omega))
  rw [hi, ← htk] at cF
  clear cM hi
  generalize hNX : mvNx nx od.length = nx1 at *
  generalize hNW : mvNw nw od = nw1 at *
  generalize hOD : od.tail = od1 at *
  have HNX := hide hNX
  have HNW := hide hNW
  have HOD := hide hOD
  clear hNX hNW hOD
  have HO1 := hide O1
  clear O1
  have c3 := h.own.cell (i := 3) rfl
  obtain ⟨ka, kc, hkv⟩ := h.kk.slice
  rw [hkv] at c3
  obtain ⟨n, hn⟩ : ∃ n, n = ks.length := ⟨_, rfl⟩
  obtain ⟨va2, vc2, W2, hr2, hS2, hK2, hO2⟩ := app_str h.kk hB key (by omega)
  have HR2 : Hid (∀ ty, (Builtin.append_ #[29, 29] ty #[.slice ka n kc, .slice (some ⟨W1.heap.size, 0, none⟩) 1 1]).run Try.prog (W1.alloc (.cells #[.string tk] 9)) = .ok (.slice va2 (n + 1) vc2) W2) := by
    rw [hn, ← hkv, htk]; exact hr2
  have b43 : f ∉ ownB kv := fun hm => by
    obtain ⟨_, c, hc⟩ := own_ty h.kk.row (mem_own.1 hm)
    exact h.own.not_ty hc (by decide) rfl
  have f2 : Blk W2 f _ 43 := h.own.same (hK2.block f h.own.lt b43)
  have l3 := f2.cell (i := 3) rfl
  have z3 := f2.frozen 3
  rw [hkv] at l3
  have h3 : RfIn B (W2.setCell ⟨f, 3, none⟩ (.slice va2 (ks.length + 1) vc2)) f nb ob nx1 vN vO nw1 od1 (.slice va2 (ks.length + 1) vc2) vv (ks ++ [key]) vs := by
    refine h.turnK (f2.set 3 _) (fun b h1 h2 h3 => ?_) (hS2.sameB (fun q hq => ?_)) hO2
    · rw [blk_setCell_other _ _ _ _ h1]; exact hK2.block b h3 h2
    · refine blk_setCell_other _ _ _ _ (fun e => ?_)
      obtain ⟨_, c, hc⟩ := own_ty hS2.row hq
      exact f2.not_ty (e ▸ hc) (by decide) rfl
  have O3 : OffR B W1 (W2.setCell ⟨f, 3, none⟩ (.slice va2 (ks.length + 1) vc2)) := (OffR.keep hK2 hB (fun q hq => by
    obtain ⟨h1, c, hc⟩ := own_ty h.kk.row (mem_own.1 hq)
    exact ⟨h1, c, 9, hc, by simp⟩)).trans (OffR.setCell f2 h.lf (by simp) _)
  rw [← hn] at c3 l3 h3 O3
  obtain ⟨W3, hW3⟩ : ∃ W3, W3 = W2.setCell ⟨f, 3, none⟩ (.slice va2 (n + 1) vc2) := ⟨_, rfl⟩
  rw [← hW3] at h3 O3
  have hB3 : B ≤ W3.heap.size := Nat.le_trans hB O3.size
  have c4 := h3.own.cell (i := 4) rfl
  obtain ⟨na, nc, hvv⟩ := h3.kn.slice
  rw [hvv] at c4
  obtain ⟨k, hkk⟩ : ∃ k, k = vs.length := ⟨_, rfl⟩
  obtain ⟨v4, W4, hr4, hG4, hK4, hO4⟩ := app_g (K := intK) (W := W3.alloc (.cells #[.int .i64 v] 3)) (u := .slice (some ⟨W3.heap.size, 0, none⟩) 1 1) (ys := [v]) (h3.kn.gr.below ((Below.refl _ _).alloc (Nat.le_refl _) _)) (Nat.le_trans hB3 (by rw [nblk_alloc]; omega)) (.inr ⟨⟨W3.heap.size, 0, none⟩, 1, rfl, fun jj y hy => by
    match jj, hy with
    | 0, hy => simp at hy; subst hy; exact (Blk.new W3 [.int .i64 v] 3).cell (i := 0) rfl⟩) (by simp; omega)
  obtain ⟨va4, vc4, rfl⟩ := hG4.slice
  have el : (vs ++ [v]).length = k + 1 := by rw [hkk]; simp
  rw [el] at hr4 hG4 hO4
  have HR4 : Hid (∀ ty, (Builtin.append_ #[41, 41] ty #[.slice na k nc, .slice (some ⟨W3.heap.size, 0, none⟩) 1 1]).run Try.prog (W3.alloc (.cells #[.int .i64 v] 3)) = .ok (.slice va4 (k + 1) vc4) W4) := by
    have q := hr4
    rw [hvv, ← hkk] at q
    exact q
  have K4 : Keep (ownB vv) W3 W4 := (Keep.of_below (F := ownB vv) ((Below.refl _ W3).alloc (Nat.le_refl _) (.cells #[.int .i64 v] 3))).trans hK4 (fun q hq => .inl hq)
  have b43' : f ∉ ownB vv := fun hm => by
    obtain ⟨_, c, hc⟩ := own_ty h3.kn.row (mem_own.1 hm)
    exact h3.own.not_ty hc (by decide) rfl
  have f4 : Blk W4 f _ 43 := h3.own.same (K4.block f h3.own.lt b43')
  have l4 := f4.cell (i := 4) rfl
  have z4 := f4.frozen 4
  rw [hvv] at l4
  have h5 : RfIn B (W4.setCell ⟨f, 4, none⟩ (.slice va4 (k + 1) vc4)) f nb ob nx1 vN vO nw1 od1 (.slice va2 (n + 1) vc2) (.slice va4 (k + 1) vc4) (ks ++ [key]) (vs ++ [v]) := by
    refine h3.turnV (f4.set 4 _) (fun b h1 h2 h3 => ?_) (hG4.nr.same (fun q hq => ?_))
    · rw [blk_setCell_other _ _ _ _ h1]; exact K4.block b h3 h2
    · refine blk_setCell_other _ _ _ _ (fun e => ?_)
      obtain ⟨_, c, hc⟩ := own_ty hG4.row hq
      exact f4.not_ty (e ▸ hc) (show (43 : Nat) ≠ 3 by decide) rfl
  have O5 : OffR B W3 (W4.setCell ⟨f, 4, none⟩ (.slice va4 (k + 1) vc4)) := (OffR.keep K4 hB3 (fun q hq => by
    obtain ⟨h1, c, hc⟩ := own_ty h3.kn.row (mem_own.1 hq)
    exact ⟨h1, c, 3, hc, by simp⟩)).trans (OffR.setCell f4 h3.lf (by simp) _)
  rw [← hkk] at c4 l4
  obtain ⟨W5, hW5⟩ : ∃ W5, W5 = W4.setCell ⟨f, 4, none⟩ (.slice va4 (k + 1) vc4) := ⟨_, rfl⟩
  rw [← hW5] at h5 O5
  have HO5 := hide (HO1.out.trans (O3.trans O5))
  have HB5 : Hid (B ≤ W5.heap.size) := Nat.le_trans hB3 O5.size
  have H5 := hide h5
  have cO := hide (rold_any h5 key hk D1.m9)
  rw [hold, ← htk] at cO
  have HNl := hide hnl
  have n10 : n ≤ 1000 := by omega
  have k10 : k ≤ 1000 := by omega
  have HKn : Hid ((ks ++ [key]).length = n + 1) := by unfold Hid; rw [hn]; simp
  have HnW : Hid (nw1.length = nw.length) := hnl
  have Hful := hide hful
  have Hhn := hide hn
  clear h h3 h5 hr2 hS2 hK2 hO2 f2 b43 hB O3 hr4 hG4 hK4 hO4 K4 b43' f4 O5 hB3 hkv hvv hn hkk el htk hold hnl k9 v9 hful HO1 
  go_wp2_with fail
  refine cF.out.mono ?_
  rintro e wx ⟨rfl, hx⟩
  obtain rfl : W1 = wx := hx.symm
  clear hx cF
  have hs3 : W3.heap.size = W2.heap.size := by rw [hW3]; exact nblk_setCell _ _ _
  rw [hs3] at HR4
  rw [hW3] at HR4 c4
  clear hs3 hW3
  go_wp2_with (first | (at_builtin; refine Lib.wpList_append_run _ rfl _ _ _ _ rfl _ _ rfl rfl _ _ (HR2.out _) ?_) | (at_builtin; refine Lib.wpList_append_run _ rfl _ _ _ _ rfl _ _ rfl rfl _ _ (HR4.out _) ?_))
  rw [← hW5]
  refine cO.out.mono ?_
  rintro e W6 ⟨rfl, q6, hW6⟩
  have H6 := hide (H5.out.drewN q6)
  have HO6 : Hid (OffR B w (W5.drewN q6)) := HO5.out.trans (OffR.below ⟨rfl, rfl, rfl, Nat.le_refl _, fun _ _ => rfl⟩ HB5.out)
  have HB6 : Hid (B ≤ (W5.drewN q6).heap.size) := HB5.out
  rw [← hW6] at H6 HO6 HB6
  clear hW6 hW5 cO H5 HO5 HB5 HR2 HR4 c3 c4 l3 z3 l4 z4
  have cP := hide (rput_any H6.out HB6.out key hk D1.n1 D1.n9 (fun ss hs => by have h1 := mem_flat_le hs; have h2 := D1.t9; omega))
  rw [← HTK.out] at cP
  have HP : Hid (∀ W, Keep [nb] W6 W → OffR B w W ∧ B ≤ W.heap.size) := fun W K => ⟨HO6.out.trans (OffR.keep K HB6.out (fun q hq => by simp at hq; subst hq; exact ⟨H6.out.lb, _, _, H6.out.rN, by simp⟩)), Nat.le_trans HB6.out K.size⟩
  have e2 : nw1.set (hsh key % nw1.length) (key :: nw1.getD (hsh key % nw1.length) []) = rpush nw1 key := rfl
  rw [e2] at cP
  have HnW2 : Hid ((rpush nw1 key).length = nw.length) := by unfold Hid; rw [rpush_len]; exact HnW.out
  have d9 := D1.n9
  have dm9 := D1.m9
  have HD9 : Hid (nw1.length ≤ 131072) := D1.n9
  have HNP : Hid (1 ≤ nw.length) := by rw [← HNl.out]; exact D1.n1
  have HDM : Hid (nx1 + od1.length ≤ 131072) := D1.m9
  have HOL : Hid (od1.length = od1.length) := rfl
  clear H6 HO6 HB6 D1 HnW e2 hk
  generalize hN2 : rpush nw1 key = nw2 at *
  have HN2 := hide hN2
  clear hN2
  go_wp2_with fail
  refine cP.out.mono ?_
  rintro e W7 ⟨rfl, vN7, h7, K7⟩
  have H7 := hide h7
  have HO7 := hide (HP.out W7 K7)
  clear cP HP h7 K7
  have s0 := H7.out.own.cell (i := 0) rfl
  have s3 := H7.out.own.cell (i := 3) rfl
  rw [HnW2.out] at s0
  obtain ⟨N, hN⟩ : ∃ N, N = nw.length := ⟨_, rfl⟩
  have HNN := hide hN
  rw [← hN] at s0
  have N9 : N ≤ 131072 := by have h1 := HD9.out; have h2 := HNl.out; omega
  have cLf : Hid (∀ q, Calls Try.prog 23 #[.pointer (some ⟨f, 0, none⟩)] (W7.drewN q) fun e w' => e = .returned (.int .i64 (od1.length : Int)) ∧ ∃ m, w' = (W7.drewN q).drewN m) := fun q => rleft_any (H7.out.drewN q) (by have := HDM.out; omega)
  have q1 : ((3 : Int) * (N : Int) < 2 * ((n : Int) + 1)) = False := eq_false (by have := Hful.out; have := Hhn.out; omega)
  have q1' : (3 * N < 2 * (n + 1)) = False := eq_false (by have := Hful.out; have := Hhn.out; omega)
  have wr1 : IntKind.i64.wrap (2 * ((n : Int) + 1)) = 2 * ((n : Int) + 1) := by rw [IntKind.wrap_i64]; omega
  have wr2 : IntKind.i64.wrap (3 * (N : Int)) = 3 * (N : Int) := by rw [IntKind.wrap_i64]; omega
  clear hN
  go_wp2
  go_quiet (first | (go_at_call 23; exact Calls.quiet_of (cLf.out _)))
  go_wp2
  go_ret
  rw [HNX.out, HNW.out, HOD.out, HN2.out]
  refine ⟨rfl, ⟨⟨_, _, _, _, _, _, H7.out.drewN _⟩, HO7.out.2⟩, HO7.out.1.trans (OffR.below ⟨rfl, rfl, rfl, Nat.le_refl _, fun _ _ => rfl⟩ HO7.out.2)⟩
set_option maxHeartbeats 4000000 in
theorem rset_new_nB (Z : RZ B f nx nw od ks vs w) (D : RBd nx nw od) (D1 : RBd (mvNx nx od.length) (mvNw nw od) od.tail) (key : List UInt8) (hk : key.length ≤ maxLen) (v : Int) (hi : idx key ks = -1) (k9 : ks.length ≤ 1000) (v9 : vs.length ≤ 1000) (hold : oldI (mvNx nx od.length) od.tail.length key = -1) (hful : 3 * nw.length < 2 * (ks.length + 1)) (hod : ¬ od.tail.length = 0) :
    Calls Try.prog 16 #[.pointer (some ⟨f, 0, none⟩), .string (txt key), .int .i64 v] w fun e w' => e = .returned (.bool true) ∧ RZ B f (mvNx nx od.length) (rpush (mvNw nw od) key) od.tail (ks ++ [key]) (vs ++ [v]) w' ∧ OffR B w w' := by
  have cM := hide (rmove_z Z D)
  have hnl : (mvNw nw od).length = nw.length := rfold_len _ _
  clear Z D
  obtain ⟨tk, htk⟩ : ∃ tk, tk = txt key := ⟨_, rfl⟩
  rw [← htk]
  have HTK := hide htk
  go_enter Try.func16, Try.ntmps16
  go_wp2_with fail
  refine cM.out.mono ?_
  rintro e W1 ⟨rfl, Z1, O1⟩
  obtain ⟨⟨nb, ob, vN, vO, kv, vv, h⟩, hB⟩ := Z1
  have cF := hide (rfind_any h key (by omega))
  rw [hi, ← htk] at cF
  clear cM hi
  generalize hNX : mvNx nx od.length = nx1 at *
  generalize hNW : mvNw nw od = nw1 at *
  generalize hOD : od.tail = od1 at *
  have HNX := hide hNX
  have HNW := hide hNW
  have HOD := hide hOD
  clear hNX hNW hOD
  have HO1 := hide O1
  clear O1
  have c3 := h.own.cell (i := 3) rfl
  obtain ⟨ka, kc, hkv⟩ := h.kk.slice
  rw [hkv] at c3
  obtain ⟨n, hn⟩ : ∃ n, n = ks.length := ⟨_, rfl⟩
  obtain ⟨va2, vc2, W2, hr2, hS2, hK2, hO2⟩ := app_str h.kk hB key (by omega)
  have HR2 : Hid (∀ ty, (Builtin.append_ #[29, 29] ty #[.slice ka n kc, .slice (some ⟨W1.heap.size, 0, none⟩) 1 1]).run Try.prog (W1.alloc (.cells #[.string tk] 9)) = .ok (.slice va2 (n + 1) vc2) W2) := by
    rw [hn, ← hkv, htk]; exact hr2
  have b43 : f ∉ ownB kv := fun hm => by
    obtain ⟨_, c, hc⟩ := own_ty h.kk.row (mem_own.1 hm)
    exact h.own.not_ty hc (by decide) rfl
  have f2 : Blk W2 f _ 43 := h.own.same (hK2.block f h.own.lt b43)
  have l3 := f2.cell (i := 3) rfl
  have z3 := f2.frozen 3
  rw [hkv] at l3
  have h3 : RfIn B (W2.setCell ⟨f, 3, none⟩ (.slice va2 (ks.length + 1) vc2)) f nb ob nx1 vN vO nw1 od1 (.slice va2 (ks.length + 1) vc2) vv (ks ++ [key]) vs := by
    refine h.turnK (f2.set 3 _) (fun b h1 h2 h3 => ?_) (hS2.sameB (fun q hq => ?_)) hO2
    · rw [blk_setCell_other _ _ _ _ h1]; exact hK2.block b h3 h2
    · refine blk_setCell_other _ _ _ _ (fun e => ?_)
      obtain ⟨_, c, hc⟩ := own_ty hS2.row hq
      exact f2.not_ty (e ▸ hc) (by decide) rfl
  have O3 : OffR B W1 (W2.setCell ⟨f, 3, none⟩ (.slice va2 (ks.length + 1) vc2)) := (OffR.keep hK2 hB (fun q hq => by
    obtain ⟨h1, c, hc⟩ := own_ty h.kk.row (mem_own.1 hq)
    exact ⟨h1, c, 9, hc, by simp⟩)).trans (OffR.setCell f2 h.lf (by simp) _)
  rw [← hn] at c3 l3 h3 O3
  obtain ⟨W3, hW3⟩ : ∃ W3, W3 = W2.setCell ⟨f, 3, none⟩ (.slice va2 (n + 1) vc2) := ⟨_, rfl⟩
  rw [← hW3] at h3 O3
  have hB3 : B ≤ W3.heap.size := Nat.le_trans hB O3.size
  have c4 := h3.own.cell (i := 4) rfl
  obtain ⟨na, nc, hvv⟩ := h3.kn.slice
  rw [hvv] at c4
  obtain ⟨k, hkk⟩ : ∃ k, k = vs.length := ⟨_, rfl⟩
  obtain ⟨v4, W4, hr4, hG4, hK4, hO4⟩ := app_g (K := intK) (W := W3.alloc (.cells #[.int .i64 v] 3)) (u := .slice (some ⟨W3.heap.size, 0, none⟩) 1 1) (ys := [v]) (h3.kn.gr.below ((Below.refl _ _).alloc (Nat.le_refl _) _)) (Nat.le_trans hB3 (by rw [nblk_alloc]; omega)) (.inr ⟨⟨W3.heap.size, 0, none⟩, 1, rfl, fun jj y hy => by
    match jj, hy with
    | 0, hy => simp at hy; subst hy; exact (Blk.new W3 [.int .i64 v] 3).cell (i := 0) rfl⟩) (by simp; omega)
  obtain ⟨va4, vc4, rfl⟩ := hG4.slice
  have el : (vs ++ [v]).length = k + 1 := by rw [hkk]; simp
  rw [el] at hr4 hG4 hO4
  have HR4 : Hid (∀ ty, (Builtin.append_ #[41, 41] ty #[.slice na k nc, .slice (some ⟨W3.heap.size, 0, none⟩) 1 1]).run Try.prog (W3.alloc (.cells #[.int .i64 v] 3)) = .ok (.slice va4 (k + 1) vc4) W4) := by
    have q := hr4
    rw [hvv, ← hkk] at q
    exact q
  have K4 : Keep (ownB vv) W3 W4 := (Keep.of_below (F := ownB vv) ((Below.refl _ W3).alloc (Nat.le_refl _) (.cells #[.int .i64 v] 3))).trans hK4 (fun q hq => .inl hq)
  have b43' : f ∉ ownB vv := fun hm => by
    obtain ⟨_, c, hc⟩ := own_ty h3.kn.row (mem_own.1 hm)
    exact h3.own.not_ty hc (by decide) rfl
  have f4 : Blk W4 f _ 43 := h3.own.same (K4.block f h3.own.lt b43')
  have l4 := f4.cell (i := 4) rfl
  have z4 := f4.frozen 4
  rw [hvv] at l4
  have h5 : RfIn B (W4.setCell ⟨f, 4, none⟩ (.slice va4 (k + 1) vc4)) f nb ob nx1 vN vO nw1 od1 (.slice va2 (n + 1) vc2) (.slice va4 (k + 1) vc4) (ks ++ [key]) (vs ++ [v]) := by
    refine h3.turnV (f4.set 4 _) (fun b h1 h2 h3 => ?_) (hG4.nr.same (fun q hq => ?_))
    · rw [blk_setCell_other _ _ _ _ h1]; exact K4.block b h3 h2
    · refine blk_setCell_other _ _ _ _ (fun e => ?_)
      obtain ⟨_, c, hc⟩ := own_ty hG4.row hq
      exact f4.not_ty (e ▸ hc) (show (43 : Nat) ≠ 3 by decide) rfl
  have O5 : OffR B W3 (W4.setCell ⟨f, 4, none⟩ (.slice va4 (k + 1) vc4)) := (OffR.keep K4 hB3 (fun q hq => by
    obtain ⟨h1, c, hc⟩ := own_ty h3.kn.row (mem_own.1 hq)
    exact ⟨h1, c, 3, hc, by simp⟩)).trans (OffR.setCell f4 h3.lf (by simp) _)
  rw [← hkk] at c4 l4
  obtain ⟨W5, hW5⟩ : ∃ W5, W5 = W4.setCell ⟨f, 4, none⟩ (.slice va4 (k + 1) vc4) := ⟨_, rfl⟩
  rw [← hW5] at h5 O5
  have HO5 := hide (HO1.out.trans (O3.trans O5))
  have HB5 : Hid (B ≤ W5.heap.size) := Nat.le_trans hB3 O5.size
  have H5 := hide h5
  have cO := hide (rold_any h5 key hk D1.m9)
  rw [hold, ← htk] at cO
  have HNl := hide hnl
  have n10 : n ≤ 1000 := by omega
  have k10 : k ≤ 1000 := by omega
  have HKn : Hid ((ks ++ [key]).length = n + 1) := by unfold Hid; rw [hn]; simp
  have HnW : Hid (nw1.length = nw.length) := hnl
  have Hful := hide hful
  have Hod := hide hod
  have Hhn := hide hn
  clear h h3 h5 hr2 hS2 hK2 hO2 f2 b43 hB O3 hr4 hG4 hK4 hO4 K4 b43' f4 O5 hB3 hkv hvv hn hkk el htk hold hnl k9 v9 hful HO1 hod
  go_wp2_with fail
  refine cF.out.mono ?_
  rintro e wx ⟨rfl, hx⟩
  obtain rfl : W1 = wx := hx.symm
  clear hx cF
  have hs3 : W3.heap.size = W2.heap.size := by rw [hW3]; exact nblk_setCell _ _ _
  rw [hs3] at HR4
  rw [hW3] at HR4 c4
  clear hs3 hW3
  go_wp2_with (first | (at_builtin; refine Lib.wpList_append_run _ rfl _ _ _ _ rfl _ _ rfl rfl _ _ (HR2.out _) ?_) | (at_builtin; refine Lib.wpList_append_run _ rfl _ _ _ _ rfl _ _ rfl rfl _ _ (HR4.out _) ?_))
  rw [← hW5]
  refine cO.out.mono ?_
  rintro e W6 ⟨rfl, q6, hW6⟩
  have H6 := hide (H5.out.drewN q6)
  have HO6 : Hid (OffR B w (W5.drewN q6)) := HO5.out.trans (OffR.below ⟨rfl, rfl, rfl, Nat.le_refl _, fun _ _ => rfl⟩ HB5.out)
  have HB6 : Hid (B ≤ (W5.drewN q6).heap.size) := HB5.out
  rw [← hW6] at H6 HO6 HB6
  clear hW6 hW5 cO H5 HO5 HB5 HR2 HR4 c3 c4 l3 z3 l4 z4
  have cP := hide (rput_any H6.out HB6.out key hk D1.n1 D1.n9 (fun ss hs => by have h1 := mem_flat_le hs; have h2 := D1.t9; omega))
  rw [← HTK.out] at cP
  have HP : Hid (∀ W, Keep [nb] W6 W → OffR B w W ∧ B ≤ W.heap.size) := fun W K => ⟨HO6.out.trans (OffR.keep K HB6.out (fun q hq => by simp at hq; subst hq; exact ⟨H6.out.lb, _, _, H6.out.rN, by simp⟩)), Nat.le_trans HB6.out K.size⟩
  have e2 : nw1.set (hsh key % nw1.length) (key :: nw1.getD (hsh key % nw1.length) []) = rpush nw1 key := rfl
  rw [e2] at cP
  have HnW2 : Hid ((rpush nw1 key).length = nw.length) := by unfold Hid; rw [rpush_len]; exact HnW.out
  have d9 := D1.n9
  have dm9 := D1.m9
  have HD9 : Hid (nw1.length ≤ 131072) := D1.n9
  have HNP : Hid (1 ≤ nw.length) := by rw [← HNl.out]; exact D1.n1
  have HDM : Hid (nx1 + od1.length ≤ 131072) := D1.m9
  have HOL : Hid (od1.length = od1.length) := rfl
  clear H6 HO6 HB6 D1 HnW e2 hk
  generalize hN2 : rpush nw1 key = nw2 at *
  have HN2 := hide hN2
  clear hN2
  go_wp2_with fail
  refine cP.out.mono ?_
  rintro e W7 ⟨rfl, vN7, h7, K7⟩
  have H7 := hide h7
  have HO7 := hide (HP.out W7 K7)
  clear cP HP h7 K7
  have s0 := H7.out.own.cell (i := 0) rfl
  have s3 := H7.out.own.cell (i := 3) rfl
  rw [HnW2.out] at s0
  obtain ⟨N, hN⟩ : ∃ N, N = nw.length := ⟨_, rfl⟩
  have HNN := hide hN
  rw [← hN] at s0
  have N9 : N ≤ 131072 := by have h1 := HD9.out; have h2 := HNl.out; omega
  have cLf : Hid (∀ q, Calls Try.prog 23 #[.pointer (some ⟨f, 0, none⟩)] (W7.drewN q) fun e w' => e = .returned (.int .i64 (od1.length : Int)) ∧ ∃ m, w' = (W7.drewN q).drewN m) := fun q => rleft_any (H7.out.drewN q) (by have := HDM.out; omega)
  have q1 : ((3 : Int) * (N : Int) < 2 * ((n : Int) + 1)) = True := eq_true (by have := Hful.out; have := Hhn.out; omega)
  have N6 : ((N : Int) < 65536) = True := eq_true (by have := Hful.out; have := Hhn.out; omega)
  have q2 : ((od1.length : Int) == 0) = false := by rw [beq_eq_false_iff_ne]; have := Hod.out; have := HOL.out; omega
  have q3 : (od1.length == 0) = false := by rw [beq_eq_false_iff_ne]; have := Hod.out; have := HOL.out; omega
  have wr1 : IntKind.i64.wrap (2 * ((n : Int) + 1)) = 2 * ((n : Int) + 1) := by rw [IntKind.wrap_i64]; omega
  have wr2 : IntKind.i64.wrap (3 * (N : Int)) = 3 * (N : Int) := by rw [IntKind.wrap_i64]; omega
  clear hN
  go_wp2
  go_quiet (first | (go_at_call 23; exact Calls.quiet_of (cLf.out _)))
  go_wp2
  go_ret
  rw [HNX.out, HNW.out, HOD.out, HN2.out]
  refine ⟨rfl, ⟨⟨_, _, _, _, _, _, H7.out.drewN _⟩, HO7.out.2⟩, HO7.out.1.trans (OffR.below ⟨rfl, rfl, rfl, Nat.le_refl _, fun _ _ => rfl⟩ HO7.out.2)⟩
set_option maxHeartbeats 4000000 in
theorem rset_new_nC (Z : RZ B f nx nw od ks vs w) (D : RBd nx nw od) (D1 : RBd (mvNx nx od.length) (mvNw nw od) od.tail) (key : List UInt8) (hk : key.length ≤ maxLen) (v : Int) (hi : idx key ks = -1) (k9 : ks.length ≤ 1000) (v9 : vs.length ≤ 1000) (hold : oldI (mvNx nx od.length) od.tail.length key = -1) (hful : 3 * nw.length < 2 * (ks.length + 1)) (hod : od.tail.length = 0) :
    Calls Try.prog 16 #[.pointer (some ⟨f, 0, none⟩), .string (txt key), .int .i64 v] w fun e w' => e = .returned (.bool true) ∧ RZ B f 0 (List.replicate (2 * nw.length) []) (rpush (mvNw nw od) key) (ks ++ [key]) (vs ++ [v]) w' ∧ OffR B w w' := by
  have cM := hide (rmove_z Z D)
  have hnl : (mvNw nw od).length = nw.length := rfold_len _ _
  clear Z D
  obtain ⟨tk, htk⟩ : ∃ tk, tk = txt key := ⟨_, rfl⟩
  rw [← htk]
  have HTK := hide htk
  go_enter Try.func16, Try.ntmps16
  go_wp2_with fail
  refine cM.out.mono ?_
  rintro e W1 ⟨rfl, Z1, O1⟩
  obtain ⟨⟨nb, ob, vN, vO, kv, vv, h⟩, hB⟩ := Z1
  have cF := hide (rfind_any h key (by omega))
  rw [hi, ← htk] at cF
  clear cM hi
  generalize hNX : mvNx nx od.length = nx1 at *
  generalize hNW : mvNw nw od = nw1 at *
  generalize hOD : od.tail = od1 at *
  have HNX := hide hNX
  have HNW := hide hNW
  have HOD := hide hOD
  clear hNX hNW hOD
  have HO1 := hide O1
  clear O1
  have c3 := h.own.cell (i := 3) rfl
  obtain ⟨ka, kc, hkv⟩ := h.kk.slice
  rw [hkv] at c3
  obtain ⟨n, hn⟩ : ∃ n, n = ks.length := ⟨_, rfl⟩
  obtain ⟨va2, vc2, W2, hr2, hS2, hK2, hO2⟩ := app_str h.kk hB key (by omega)
  have HR2 : Hid (∀ ty, (Builtin.append_ #[29, 29] ty #[.slice ka n kc, .slice (some ⟨W1.heap.size, 0, none⟩) 1 1]).run Try.prog (W1.alloc (.cells #[.string tk] 9)) = .ok (.slice va2 (n + 1) vc2) W2) := by
    rw [hn, ← hkv, htk]; exact hr2
  have b43 : f ∉ ownB kv := fun hm => by
    obtain ⟨_, c, hc⟩ := own_ty h.kk.row (mem_own.1 hm)
    exact h.own.not_ty hc (by decide) rfl
  have f2 : Blk W2 f _ 43 := h.own.same (hK2.block f h.own.lt b43)
  have l3 := f2.cell (i := 3) rfl
  have z3 := f2.frozen 3
  rw [hkv] at l3
  have h3 : RfIn B (W2.setCell ⟨f, 3, none⟩ (.slice va2 (ks.length + 1) vc2)) f nb ob nx1 vN vO nw1 od1 (.slice va2 (ks.length + 1) vc2) vv (ks ++ [key]) vs := by
    refine h.turnK (f2.set 3 _) (fun b h1 h2 h3 => ?_) (hS2.sameB (fun q hq => ?_)) hO2
    · rw [blk_setCell_other _ _ _ _ h1]; exact hK2.block b h3 h2
    · refine blk_setCell_other _ _ _ _ (fun e => ?_)
      obtain ⟨_, c, hc⟩ := own_ty hS2.row hq
      exact f2.not_ty (e ▸ hc) (by decide) rfl
  have O3 : OffR B W1 (W2.setCell ⟨f, 3, none⟩ (.slice va2 (ks.length + 1) vc2)) := (OffR.keep hK2 hB (fun q hq => by
    obtain ⟨h1, c, hc⟩ := own_ty h.kk.row (mem_own.1 hq)
    exact ⟨h1, c, 9, hc, by simp⟩)).trans (OffR.setCell f2 h.lf (by simp) _)
  rw [← hn] at c3 l3 h3 O3
  obtain ⟨W3, hW3⟩ : ∃ W3, W3 = W2.setCell ⟨f, 3, none⟩ (.slice va2 (n + 1) vc2) := ⟨_, rfl⟩
  rw [← hW3] at h3 O3
  have hB3 : B ≤ W3.heap.size := Nat.le_trans hB O3.size
  have c4 := h3.own.cell (i := 4) rfl
  obtain ⟨na, nc, hvv⟩ := h3.kn.slice
  rw [hvv] at c4
  obtain ⟨k, hkk⟩ : ∃ k, k = vs.length := ⟨_, rfl⟩
  obtain ⟨v4, W4, hr4, hG4, hK4, hO4⟩ := app_g (K := intK) (W := W3.alloc (.cells #[.int .i64 v] 3)) (u := .slice (some ⟨W3.heap.size, 0, none⟩) 1 1) (ys := [v]) (h3.kn.gr.below ((Below.refl _ _).alloc (Nat.le_refl _) _)) (Nat.le_trans hB3 (by rw [nblk_alloc]; omega)) (.inr ⟨⟨W3.heap.size, 0, none⟩, 1, rfl, fun jj y hy => by
    match jj, hy with
    | 0, hy => simp at hy; subst hy; exact (Blk.new W3 [.int .i64 v] 3).cell (i := 0) rfl⟩) (by simp; omega)
  obtain ⟨va4, vc4, rfl⟩ := hG4.slice
  have el : (vs ++ [v]).length = k + 1 := by rw [hkk]; simp
  rw [el] at hr4 hG4 hO4
  have HR4 : Hid (∀ ty, (Builtin.append_ #[41, 41] ty #[.slice na k nc, .slice (some ⟨W3.heap.size, 0, none⟩) 1 1]).run Try.prog (W3.alloc (.cells #[.int .i64 v] 3)) = .ok (.slice va4 (k + 1) vc4) W4) := by
    have q := hr4
    rw [hvv, ← hkk] at q
    exact q
  have K4 : Keep (ownB vv) W3 W4 := (Keep.of_below (F := ownB vv) ((Below.refl _ W3).alloc (Nat.le_refl _) (.cells #[.int .i64 v] 3))).trans hK4 (fun q hq => .inl hq)
  have b43' : f ∉ ownB vv := fun hm => by
    obtain ⟨_, c, hc⟩ := own_ty h3.kn.row (mem_own.1 hm)
    exact h3.own.not_ty hc (by decide) rfl
  have f4 : Blk W4 f _ 43 := h3.own.same (K4.block f h3.own.lt b43')
  have l4 := f4.cell (i := 4) rfl
  have z4 := f4.frozen 4
  rw [hvv] at l4
  have h5 : RfIn B (W4.setCell ⟨f, 4, none⟩ (.slice va4 (k + 1) vc4)) f nb ob nx1 vN vO nw1 od1 (.slice va2 (n + 1) vc2) (.slice va4 (k + 1) vc4) (ks ++ [key]) (vs ++ [v]) := by
    refine h3.turnV (f4.set 4 _) (fun b h1 h2 h3 => ?_) (hG4.nr.same (fun q hq => ?_))
    · rw [blk_setCell_other _ _ _ _ h1]; exact K4.block b h3 h2
    · refine blk_setCell_other _ _ _ _ (fun e => ?_)
      obtain ⟨_, c, hc⟩ := own_ty hG4.row hq
      exact f4.not_ty (e ▸ hc) (show (43 : Nat) ≠ 3 by decide) rfl
  have O5 : OffR B W3 (W4.setCell ⟨f, 4, none⟩ (.slice va4 (k + 1) vc4)) := (OffR.keep K4 hB3 (fun q hq => by
    obtain ⟨h1, c, hc⟩ := own_ty h3.kn.row (mem_own.1 hq)
    exact ⟨h1, c, 3, hc, by simp⟩)).trans (OffR.setCell f4 h3.lf (by simp) _)
  rw [← hkk] at c4 l4
  obtain ⟨W5, hW5⟩ : ∃ W5, W5 = W4.setCell ⟨f, 4, none⟩ (.slice va4 (k + 1) vc4) := ⟨_, rfl⟩
  rw [← hW5] at h5 O5
  have HO5 := hide (HO1.out.trans (O3.trans O5))
  have HB5 : Hid (B ≤ W5.heap.size) := Nat.le_trans hB3 O5.size
  have H5 := hide h5
  have cO := hide (rold_any h5 key hk D1.m9)
  rw [hold, ← htk] at cO
  have HNl := hide hnl
  have n10 : n ≤ 1000 := by omega
  have k10 : k ≤ 1000 := by omega
  have HKn : Hid ((ks ++ [key]).length = n + 1) := by unfold Hid; rw [hn]; simp
  have HnW : Hid (nw1.length = nw.length) := hnl
  have Hful := hide hful
  have Hod := hide hod
  have Hhn := hide hn
  clear h h3 h5 hr2 hS2 hK2 hO2 f2 b43 hB O3 hr4 hG4 hK4 hO4 K4 b43' f4 O5 hB3 hkv hvv hn hkk el htk hold hnl k9 v9 hful HO1 hod
  go_wp2_with fail
  refine cF.out.mono ?_
  rintro e wx ⟨rfl, hx⟩
  obtain rfl : W1 = wx := hx.symm
  clear hx cF
  have hs3 : W3.heap.size = W2.heap.size := by rw [hW3]; exact nblk_setCell _ _ _
  rw [hs3] at HR4
  rw [hW3] at HR4 c4
  clear hs3 hW3
  go_wp2_with (first | (at_builtin; refine Lib.wpList_append_run _ rfl _ _ _ _ rfl _ _ rfl rfl _ _ (HR2.out _) ?_) | (at_builtin; refine Lib.wpList_append_run _ rfl _ _ _ _ rfl _ _ rfl rfl _ _ (HR4.out _) ?_))
  rw [← hW5]
  refine cO.out.mono ?_
  rintro e W6 ⟨rfl, q6, hW6⟩
  have H6 := hide (H5.out.drewN q6)
  have HO6 : Hid (OffR B w (W5.drewN q6)) := HO5.out.trans (OffR.below ⟨rfl, rfl, rfl, Nat.le_refl _, fun _ _ => rfl⟩ HB5.out)
  have HB6 : Hid (B ≤ (W5.drewN q6).heap.size) := HB5.out
  rw [← hW6] at H6 HO6 HB6
  clear hW6 hW5 cO H5 HO5 HB5 HR2 HR4 c3 c4 l3 z3 l4 z4
  have cP := hide (rput_any H6.out HB6.out key hk D1.n1 D1.n9 (fun ss hs => by have h1 := mem_flat_le hs; have h2 := D1.t9; omega))
  rw [← HTK.out] at cP
  have HP : Hid (∀ W, Keep [nb] W6 W → OffR B w W ∧ B ≤ W.heap.size) := fun W K => ⟨HO6.out.trans (OffR.keep K HB6.out (fun q hq => by simp at hq; subst hq; exact ⟨H6.out.lb, _, _, H6.out.rN, by simp⟩)), Nat.le_trans HB6.out K.size⟩
  have e2 : nw1.set (hsh key % nw1.length) (key :: nw1.getD (hsh key % nw1.length) []) = rpush nw1 key := rfl
  rw [e2] at cP
  have HnW2 : Hid ((rpush nw1 key).length = nw.length) := by unfold Hid; rw [rpush_len]; exact HnW.out
  have d9 := D1.n9
  have dm9 := D1.m9
  have HD9 : Hid (nw1.length ≤ 131072) := D1.n9
  have HNP : Hid (1 ≤ nw.length) := by rw [← HNl.out]; exact D1.n1
  have HDM : Hid (nx1 + od1.length ≤ 131072) := D1.m9
  have HOL : Hid (od1.length = od1.length) := rfl
  clear H6 HO6 HB6 D1 HnW e2 hk
  generalize hN2 : rpush nw1 key = nw2 at *
  have HN2 := hide hN2
  clear hN2
  go_wp2_with fail
  refine cP.out.mono ?_
  rintro e W7 ⟨rfl, vN7, h7, K7⟩
  have H7 := hide h7
  have HO7 := hide (HP.out W7 K7)
  clear cP HP h7 K7
  have s0 := H7.out.own.cell (i := 0) rfl
  have s3 := H7.out.own.cell (i := 3) rfl
  rw [HnW2.out] at s0
  obtain ⟨N, hN⟩ : ∃ N, N = nw.length := ⟨_, rfl⟩
  have HNN := hide hN
  rw [← hN] at s0
  have N9 : N ≤ 131072 := by have h1 := HD9.out; have h2 := HNl.out; omega
  have cLf : Hid (∀ q, Calls Try.prog 23 #[.pointer (some ⟨f, 0, none⟩)] (W7.drewN q) fun e w' => e = .returned (.int .i64 (od1.length : Int)) ∧ ∃ m, w' = (W7.drewN q).drewN m) := fun q => rleft_any (H7.out.drewN q) (by have := HDM.out; omega)
  have q1 : ((3 : Int) * (N : Int) < 2 * ((n : Int) + 1)) = True := eq_true (by have := Hful.out; have := Hhn.out; omega)
  have N6 : ((N : Int) < 65536) = True := eq_true (by have := Hful.out; have := Hhn.out; omega)
  have q2 : od1.length = 0 := by have := Hod.out; have := HOL.out; omega
  rw [q2] at cLf
  have wr1 : IntKind.i64.wrap (2 * ((n : Int) + 1)) = 2 * ((n : Int) + 1) := by rw [IntKind.wrap_i64]; omega
  have wr2 : IntKind.i64.wrap (3 * (N : Int)) = 3 * (N : Int) := by rw [IntKind.wrap_i64]; omega
  clear hN
  go_wp2
  go_quiet (first | (go_at_call 23; exact Calls.quiet_of (cLf.out _)))
  have g0 : (W7.drewN nq).cell? ⟨f, 0, none⟩ = some (.slice (some ⟨nb, 0, none⟩) N N) := by rw [World.cell?_drewN]; exact s0
  have H8 := hide (H7.out.drewN nq)
  have HO8 : Hid (OffR B w (W7.drewN nq) ∧ B ≤ (W7.drewN nq).heap.size) := ⟨HO7.out.1.trans (OffR.below ⟨rfl, rfl, rfl, Nat.le_refl _, fun _ _ => rfl⟩ HO7.out.2), HO7.out.2⟩
  obtain ⟨W8, hW8⟩ : ∃ W8, W8 = W7.drewN nq := ⟨_, rfl⟩
  rw [← hW8] at g0 H8 HO8 ⊢
  clear hW8 s0 s3 cLf H7 HO7
  have g1 := H8.out.own.cell (i := 1) rfl
  have g2 := H8.out.own.cell (i := 2) rfl
  obtain ⟨a1, ha1⟩ := sl2_is ob (nx1 + od1.length)
  rw [ha1] at g1
  have z0 := H8.out.own.frozen 0
  have z1 := H8.out.own.frozen 1
  have z2 := H8.out.own.frozen 2
  have N2 : N ≤ 1000 := by have := Hful.out; have := Hhn.out; have := HNN.out; omega
  have hmk := run_make_rows (2 * N) (by omega)
  have ek : ((2 * N : Nat) : Int) = 2 * (N : Int) := by omega
  rw [ek] at hmk
  obtain ⟨M, hM⟩ : ∃ M, M = 2 * N := ⟨_, rfl⟩
  rw [← hM] at hmk
  obtain ⟨Y, hY⟩ : ∃ Y, Y = nils2 M := ⟨_, rfl⟩
  rw [← hY] at hmk
  have HY := hide hY
  have HMm := hide hM
  have fl0 : f < W8.heap.size := H8.out.own.lt
  clear hM hY ek ha1
  have HE : Hid (RfIn B ((((W8.setCell ⟨f, 1, none⟩ (.slice (some ⟨nb, 0, none⟩) N N)).setCell ⟨f, 0, none⟩ (.slice (some ⟨W8.heap.size, 0, none⟩) M M)).setCell ⟨f, 2, none⟩ (.int .i64 0)).alloc (.cells Y 29)) f W8.heap.size nb 0 (List.replicate M (.slice none 0 0)) vN7 (List.replicate M []) nw2 (.slice va2 (n + 1) vc2) (.slice va4 (k + 1) vc4) (ks ++ [key]) (vs ++ [v])) := by
    have h1 := H8.out.grow HO8.out.2 (by rw [HnW2.out]; exact HNP.out)
    rw [HnW2.out, ← HNN.out, ← HMm.out, ← HY.out] at h1
    exact h1
  have HF8 : Hid (OffR B w ((((W8.setCell ⟨f, 1, none⟩ (.slice (some ⟨nb, 0, none⟩) N N)).setCell ⟨f, 0, none⟩ (.slice (some ⟨W8.heap.size, 0, none⟩) M M)).setCell ⟨f, 2, none⟩ (.int .i64 0)).alloc (.cells Y 29)) ∧ B ≤ ((((W8.setCell ⟨f, 1, none⟩ (.slice (some ⟨nb, 0, none⟩) N N)).setCell ⟨f, 0, none⟩ (.slice (some ⟨W8.heap.size, 0, none⟩) M M)).setCell ⟨f, 2, none⟩ (.int .i64 0)).alloc (.cells Y 29)).heap.size) := by
    have b1 := H8.out.own.set 1 (.slice (some ⟨nb, 0, none⟩) N N)
    have b2 := b1.set 0 (.slice (some ⟨W8.heap.size, 0, none⟩) M M)
    have o1 := OffR.setCell (o := 1) H8.out.own H8.out.lf (by simp) (.slice (some ⟨nb, 0, none⟩) N N)
    have o2 := OffR.setCell (o := 0) b1 H8.out.lf (by simp) (.slice (some ⟨W8.heap.size, 0, none⟩) M M)
    have o3 := OffR.setCell (o := 2) b2 H8.out.lf (by simp) (.int .i64 0)
    have o4 := o1.trans (o2.trans o3)
    have hB9 := Nat.le_trans HO8.out.2 o4.size
    have o5 := OffR.below ((Below.refl _ (((W8.setCell ⟨f, 1, none⟩ (.slice (some ⟨nb, 0, none⟩) N N)).setCell ⟨f, 0, none⟩ (.slice (some ⟨W8.heap.size, 0, none⟩) M M)).setCell ⟨f, 2, none⟩ (.int .i64 0))).alloc (Nat.le_refl _) (.cells Y 29)) hB9
    exact ⟨HO8.out.1.trans (o4.trans o5), Nat.le_trans hB9 o5.size⟩
  go_wp2
  go_ret
  rw [HNW.out, HN2.out, ← HNN.out, ← HMm.out]
  exact ⟨rfl, ⟨⟨_, _, _, _, _, _, HE.out⟩, HF8.out.2⟩, HF8.out.1⟩
set_option maxHeartbeats 4000000 in
theorem rset_new_oA (Z : RZ B f nx nw od ks vs w) (D : RBd nx nw od) (D1 : RBd (mvNx nx od.length) (mvNw nw od) od.tail) (key : List UInt8) (hk : key.length ≤ maxLen) (v : Int) (hi : idx key ks = -1) (k9 : ks.length ≤ 1000) (v9 : vs.length ≤ 1000) (j : Nat) (hj : j < od.tail.length) (hold : oldI (mvNx nx od.length) od.tail.length key = ((mvNx nx od.length + j : Nat) : Int)) (hful : ¬ 3 * nw.length < 2 * (ks.length + 1)) :
    Calls Try.prog 16 #[.pointer (some ⟨f, 0, none⟩), .string (txt key), .int .i64 v] w fun e w' => e = .returned (.bool true) ∧ RZ B f (mvNx nx od.length) (mvNw nw od) (od.tail.set j (key :: od.tail.getD j [])) (ks ++ [key]) (vs ++ [v]) w' ∧ OffR B w w' := by
  have cM := hide (rmove_z Z D)
  have hnl : (mvNw nw od).length = nw.length := rfold_len _ _
  clear Z D
  obtain ⟨tk, htk⟩ : ∃ tk, tk = txt key := ⟨_, rfl⟩
  rw [← htk]
  have HTK := hide htk
  go_enter Try.func16, Try.ntmps16
  go_wp2_with fail
  refine cM.out.mono ?_
  rintro e W1 ⟨rfl, Z1, O1⟩
  obtain ⟨⟨nb, ob, vN, vO, kv, vv, h⟩, hB⟩ := Z1
  have cF := hide (rfind_any h key (by omega))
  rw [hi, ← htk] at cF
  clear cM hi
  generalize hNX : mvNx nx od.length = nx1 at *
  generalize hNW : mvNw nw od = nw1 at *
  generalize hOD : od.tail = od1 at *
  have HNX := hide hNX
  have HNW := hide hNW
  have HOD := hide hOD
  clear hNX hNW hOD
  have HO1 := hide O1
  clear O1
  obtain ⟨b, hbb⟩ : ∃ b, b = nx1 + j := ⟨_, rfl⟩
  rw [← hbb] at hold
  have HBB := hide hbb
  clear hbb
  have c3 := h.own.cell (i := 3) rfl
  obtain ⟨ka, kc, hkv⟩ := h.kk.slice
  rw [hkv] at c3
  obtain ⟨n, hn⟩ : ∃ n, n = ks.length := ⟨_, rfl⟩
  obtain ⟨va2, vc2, W2, hr2, hS2, hK2, hO2⟩ := app_str h.kk hB key (by omega)
  have HR2 : Hid (∀ ty, (Builtin.append_ #[29, 29] ty #[.slice ka n kc, .slice (some ⟨W1.heap.size, 0, none⟩) 1 1]).run Try.prog (W1.alloc (.cells #[.string tk] 9)) = .ok (.slice va2 (n + 1) vc2) W2) := by
    rw [hn, ← hkv, htk]; exact hr2
  have b43 : f ∉ ownB kv := fun hm => by
    obtain ⟨_, c, hc⟩ := own_ty h.kk.row (mem_own.1 hm)
    exact h.own.not_ty hc (by decide) rfl
  have f2 : Blk W2 f _ 43 := h.own.same (hK2.block f h.own.lt b43)
  have l3 := f2.cell (i := 3) rfl
  have z3 := f2.frozen 3
  rw [hkv] at l3
  have h3 : RfIn B (W2.setCell ⟨f, 3, none⟩ (.slice va2 (ks.length + 1) vc2)) f nb ob nx1 vN vO nw1 od1 (.slice va2 (ks.length + 1) vc2) vv (ks ++ [key]) vs := by
    refine h.turnK (f2.set 3 _) (fun b h1 h2 h3 => ?_) (hS2.sameB (fun q hq => ?_)) hO2
    · rw [blk_setCell_other _ _ _ _ h1]; exact hK2.block b h3 h2
    · refine blk_setCell_other _ _ _ _ (fun e => ?_)
      obtain ⟨_, c, hc⟩ := own_ty hS2.row hq
      exact f2.not_ty (e ▸ hc) (by decide) rfl
  have O3 : OffR B W1 (W2.setCell ⟨f, 3, none⟩ (.slice va2 (ks.length + 1) vc2)) := (OffR.keep hK2 hB (fun q hq => by
    obtain ⟨h1, c, hc⟩ := own_ty h.kk.row (mem_own.1 hq)
    exact ⟨h1, c, 9, hc, by simp⟩)).trans (OffR.setCell f2 h.lf (by simp) _)
  rw [← hn] at c3 l3 h3 O3
  obtain ⟨W3, hW3⟩ : ∃ W3, W3 = W2.setCell ⟨f, 3, none⟩ (.slice va2 (n + 1) vc2) := ⟨_, rfl⟩
  rw [← hW3] at h3 O3
  have hB3 : B ≤ W3.heap.size := Nat.le_trans hB O3.size
  have c4 := h3.own.cell (i := 4) rfl
  obtain ⟨na, nc, hvv⟩ := h3.kn.slice
  rw [hvv] at c4
  obtain ⟨k, hkk⟩ : ∃ k, k = vs.length := ⟨_, rfl⟩
  obtain ⟨v4, W4, hr4, hG4, hK4, hO4⟩ := app_g (K := intK) (W := W3.alloc (.cells #[.int .i64 v] 3)) (u := .slice (some ⟨W3.heap.size, 0, none⟩) 1 1) (ys := [v]) (h3.kn.gr.below ((Below.refl _ _).alloc (Nat.le_refl _) _)) (Nat.le_trans hB3 (by rw [nblk_alloc]; omega)) (.inr ⟨⟨W3.heap.size, 0, none⟩, 1, rfl, fun jj y hy => by
    match jj, hy with
    | 0, hy => simp at hy; subst hy; exact (Blk.new W3 [.int .i64 v] 3).cell (i := 0) rfl⟩) (by simp; omega)
  obtain ⟨va4, vc4, rfl⟩ := hG4.slice
  have el : (vs ++ [v]).length = k + 1 := by rw [hkk]; simp
  rw [el] at hr4 hG4 hO4
  have HR4 : Hid (∀ ty, (Builtin.append_ #[41, 41] ty #[.slice na k nc, .slice (some ⟨W3.heap.size, 0, none⟩) 1 1]).run Try.prog (W3.alloc (.cells #[.int .i64 v] 3)) = .ok (.slice va4 (k + 1) vc4) W4) := by
    have q := hr4
    rw [hvv, ← hkk] at q
    exact q
  have K4 : Keep (ownB vv) W3 W4 := (Keep.of_below (F := ownB vv) ((Below.refl _ W3).alloc (Nat.le_refl _) (.cells #[.int .i64 v] 3))).trans hK4 (fun q hq => .inl hq)
  have b43' : f ∉ ownB vv := fun hm => by
    obtain ⟨_, c, hc⟩ := own_ty h3.kn.row (mem_own.1 hm)
    exact h3.own.not_ty hc (by decide) rfl
  have f4 : Blk W4 f _ 43 := h3.own.same (K4.block f h3.own.lt b43')
  have l4 := f4.cell (i := 4) rfl
  have z4 := f4.frozen 4
  rw [hvv] at l4
  have h5 : RfIn B (W4.setCell ⟨f, 4, none⟩ (.slice va4 (k + 1) vc4)) f nb ob nx1 vN vO nw1 od1 (.slice va2 (n + 1) vc2) (.slice va4 (k + 1) vc4) (ks ++ [key]) (vs ++ [v]) := by
    refine h3.turnV (f4.set 4 _) (fun b h1 h2 h3 => ?_) (hG4.nr.same (fun q hq => ?_))
    · rw [blk_setCell_other _ _ _ _ h1]; exact K4.block b h3 h2
    · refine blk_setCell_other _ _ _ _ (fun e => ?_)
      obtain ⟨_, c, hc⟩ := own_ty hG4.row hq
      exact f4.not_ty (e ▸ hc) (show (43 : Nat) ≠ 3 by decide) rfl
  have O5 : OffR B W3 (W4.setCell ⟨f, 4, none⟩ (.slice va4 (k + 1) vc4)) := (OffR.keep K4 hB3 (fun q hq => by
    obtain ⟨h1, c, hc⟩ := own_ty h3.kn.row (mem_own.1 hq)
    exact ⟨h1, c, 3, hc, by simp⟩)).trans (OffR.setCell f4 h3.lf (by simp) _)
  rw [← hkk] at c4 l4
  obtain ⟨W5, hW5⟩ : ∃ W5, W5 = W4.setCell ⟨f, 4, none⟩ (.slice va4 (k + 1) vc4) := ⟨_, rfl⟩
  rw [← hW5] at h5 O5
  have HO5 := hide (HO1.out.trans (O3.trans O5))
  have HB5 : Hid (B ≤ W5.heap.size) := Nat.le_trans hB3 O5.size
  have H5 := hide h5
  have cO := hide (rold_any h5 key hk D1.m9)
  rw [hold, ← htk] at cO
  have HNl := hide hnl
  have n10 : n ≤ 1000 := by omega
  have k10 : k ≤ 1000 := by omega
  have HKn : Hid ((ks ++ [key]).length = n + 1) := by unfold Hid; rw [hn]; simp
  have HnW : Hid (nw1.length = nw.length) := hnl
  have Hful := hide hful
  have Hhn := hide hn
  clear h h3 h5 hr2 hS2 hK2 hO2 f2 b43 hB O3 hr4 hG4 hK4 hO4 K4 b43' f4 O5 hB3 hkv hvv hn hkk el htk hold hnl k9 v9 hful HO1 
  go_wp2_with fail
  refine cF.out.mono ?_
  rintro e wx ⟨rfl, hx⟩
  obtain rfl : W1 = wx := hx.symm
  clear hx cF
  have hs3 : W3.heap.size = W2.heap.size := by rw [hW3]; exact nblk_setCell _ _ _
  rw [hs3] at HR4
  rw [hW3] at HR4 c4
  clear hs3 hW3
  go_wp2_with (first | (at_builtin; refine Lib.wpList_append_run _ rfl _ _ _ _ rfl _ _ rfl rfl _ _ (HR2.out _) ?_) | (at_builtin; refine Lib.wpList_append_run _ rfl _ _ _ _ rfl _ _ rfl rfl _ _ (HR4.out _) ?_))
  rw [← hW5]
  refine cO.out.mono ?_
  rintro e W6 ⟨rfl, q6, hW6⟩
  have H6 := hide (H5.out.drewN q6)
  have HO6 : Hid (OffR B w (W5.drewN q6)) := HO5.out.trans (OffR.below ⟨rfl, rfl, rfl, Nat.le_refl _, fun _ _ => rfl⟩ HB5.out)
  have HB6 : Hid (B ≤ (W5.drewN q6).heap.size) := HB5.out
  rw [← hW6] at H6 HO6 HB6
  clear hW6 hW5 cO H5 HO5 HB5 HR2 HR4 c3 c4 l3 z3 l4 z4
  have hOp : 0 < nx1 + od1.length := by omega
  have c1 := H6.out.own.cell (i := 1) rfl
  rw [sl2_pos _ _ hOp] at c1
  have hbv := getD_some (l := od1) hj
  obtain ⟨ss, hss⟩ : ∃ ss, ss = od1.getD j [] := ⟨_, rfl⟩
  rw [← hss] at hbv
  obtain ⟨ve, hve, hvS, hvX⟩ := H6.out.eO j ss hbv
  obtain ⟨va, vc, hvs⟩ := hvS.slice
  have hrO := H6.out.rO hOp
  have cb := hrO.cell hve
  rw [hvs] at cb hvS
  rw [← HBB.out] at cb
  have hb := HBB.out
  obtain ⟨OL, hOL⟩ : ∃ OL, OL = nx1 + od1.length := ⟨_, rfl⟩
  rw [← hOL] at c1
  have HBN : Hid (b < OL) := by unfold Hid; omega
  obtain ⟨m, hm⟩ : ∃ m, m = ss.length := ⟨_, rfl⟩
  rw [← hm] at cb
  have mm : ss.length + 1 ≤ 1048576 := by
    have h1 := mem_flat_le (List.mem_of_getElem? hbv)
    have h2 := D1.t9
    omega
  have hb0 : (0 : Int) ≤ (b : Int) := by omega
  have HD9 : Hid (nw1.length ≤ 131072) := D1.n9
  have HDM : Hid (nx1 + (od1.set j (key :: ss)).length ≤ 131072) := by unfold Hid; rw [List.length_set]; exact D1.m9
  have HOL : Hid ((od1.set j (key :: ss)).length = od1.length) := by simp [Hid]
  obtain ⟨A, hA⟩ : ∃ A, A = { W6 with drawn := W6.drawn + 1 } := ⟨_, rfl⟩
  have bA : Below W6.heap.size W6 A := by rw [hA]; exact below_drawn W6
  have hAs : A.heap.size = W6.heap.size := by rw [hA]

  have hSr : Src strK A (.slice va ss.length vc) ss := (hvS.gr.below bA).src
  obtain ⟨va3, vc3, A2, hr, hG, hB2, hO⟩ := front_g strK (by rw [hAs]; exact HB6.out) key hSr mm
  rw [← hm] at hr hG hO
  have e0 : strK.enc key = .string tk := by rw [HTK.out]; rfl
  rw [e0] at hr
  have HR : Hid (∀ ty, (Builtin.append_ #[29, 29] ty #[.slice (some ⟨A.heap.size, 0, none⟩) 1 1, .slice va m vc]).run Try.prog (A.alloc (.cells #[.string tk] 9)) = .ok (.slice va3 (m + 1) vc3) A2) := hr
  have bA2 : Below W6.heap.size W6 A2 := bA.trans (hB2.mono (by rw [hAs]; exact Nat.le_refl _))
  have bA1 : Below W6.heap.size W6 (A.alloc (.cells #[.string tk] 9)) := bA.alloc (by rw [hAs]; exact Nat.le_refl _) _
  have hfl := H6.out.own.lt
  have hnl2 := hrO.lt
  have HF : Hid (∀ s W, s ≤ 2 → CC4 A (A.alloc (.cells #[.string tk] 9)) A2 (A2.setCell ⟨ob, b, none⟩ (.slice va3 (m + 1) vc3)) s W → W.cell? ⟨f, 1, none⟩ = some (.slice (some ⟨ob, 0, none⟩) OL OL) ∧ (s ≤ 1 → W.cell? ⟨ob, b, none⟩ = some (.slice va m vc))) := fun s W hs hc => by
    have key2 : ∀ Z, Below W6.heap.size W6 Z → Z.cell? ⟨f, 1, none⟩ = some (.slice (some ⟨ob, 0, none⟩) OL OL) ∧ Z.cell? ⟨ob, b, none⟩ = some (.slice va m vc) := fun Z hZ => ⟨(hZ.cell (p := ⟨f, 1, none⟩) hfl).trans c1, (hZ.cell (p := ⟨ob, b, none⟩) hnl2).trans cb⟩
    match s, hs, hc with
    | 0, _, hc => have hc : W = A := hc; subst hc; exact ⟨(key2 _ bA).1, fun _ => (key2 _ bA).2⟩
    | 1, _, hc => have hc : W = _ := hc; subst hc; exact ⟨(key2 _ bA1).1, fun _ => (key2 _ bA1).2⟩
    | 2, _, hc => have hc : W = A2 := hc; subst hc; exact ⟨(key2 _ bA2).1, fun h => absurd h (by decide)⟩
  have HC2 : Hid (A2.cell? ⟨ob, b, none⟩ = some (.slice va m vc) ∧ A2.frozen? ⟨ob, b, none⟩ = false) := ⟨(bA2.cell (p := ⟨ob, b, none⟩) hnl2).trans cb, (hrO.same (bA2.block ob hnl2)).frozen b⟩
  have HA : Hid (CC4 A (A.alloc (.cells #[.string tk] 9)) A2 (A2.setCell ⟨ob, b, none⟩ (.slice va3 (m + 1) vc3)) 0 { W6 with drawn := W6.drawn + 1 }) := hA.symm
  obtain ⟨W7, hW7⟩ : ∃ W7, W7 = A2.setCell ⟨ob, b, none⟩ (.slice va3 (m + 1) vc3) := ⟨_, rfl⟩
  have H7 : Hid (RfIn B W7 f nb ob nx1 vN (vO.set (nx1 + j) (.slice va3 (m + 1) vc3)) nw1 (od1.set j (key :: ss)) (.slice va2 (n + 1) vc2) (.slice va4 (k + 1) vc4) (ks ++ [key]) (vs ++ [v])) := by
    rw [hW7, hb]
    exact H6.out.setO bA2 hj hG.sr (fun q hq => by have := hO q hq; rw [hAs] at this; exact this)
  have HO7 : Hid (OffR B w W7 ∧ B ≤ W7.heap.size) := by
    have o1 := OffR.below bA2 HB6.out
    have hB2' := Nat.le_trans HB6.out o1.size
    have o2 := OffR.setCell (o := b) (hrO.same (bA2.block ob hnl2)) (H6.out.lo hOp) (by simp) (.slice va3 (m + 1) vc3)
    rw [hW7]
    exact ⟨HO6.out.trans (o1.trans o2), Nat.le_trans hB2' o2.size⟩
  have HD2 : Hid (od1.set j (key :: od1.getD j []) = od1.set j (key :: ss)) := by unfold Hid; rw [hss]
  have HnW2 := HnW
  clear hr hG hB2 hO hSr bA bA1 bA2 hA hAs hfl hnl2 H6 HO6 HB6 c1 cb hbv hss hve hvS hvX hvs hrO hb hOL hm mm hOp hk D1
  generalize hG2 : od1.set j (key :: ss) = od2 at *
  clear hG2
  go_wp2
  refine wp_region_chainp (by kernel_rfl) (by kernel_rfl) (fun jx => ([.pointer (some ⟨f, 0, none⟩), .pointer (some ⟨f, 0, none⟩), .pointer (some ⟨f, 1, none⟩), .slice (some ⟨ob, 0, none⟩) OL OL, .int .i64 (b : Int), .string tk, .slice (some ⟨A.heap.size, 0, none⟩) 1 1, .pointer (some ⟨f, 0, none⟩), .pointer (some ⟨f, 0, none⟩), .pointer (some ⟨f, 1, none⟩), .slice (some ⟨ob, 0, none⟩) OL OL, .int .i64 (b : Int), .pointer (some ⟨ob, b, none⟩), .slice va m vc, .slice va3 (m + 1) vc3, .pointer (some ⟨ob, b, none⟩), undef] : List Value).getD jx undef) [6, 14, 16] (by kernel_rfl) (CC4 A (A.alloc (.cells #[.string tk] 9)) A2 (A2.setCell ⟨ob, b, none⟩ (.slice va3 (m + 1) vc3))) (HA.out) ?_ ?_
  · intro jx ox hi sx w' ev hlm hks hc hin hout hold hcst hfn
    have hltx : jx < 17 := by
      have := (Array.getElem?_eq_some_iff.1 hi).1
      simpa using this
    match jx, hltx with
    | 0, _ =>
      simp only [List.getElem?_toArray, List.getElem?_cons_zero, List.getElem?_cons_succ, Option.some.injEq] at hi
      subst hi
      have e0 : ev (.tmp 0) = .pointer (some ⟨f, 0, none⟩) := hout 0 (by kernel_rfl) (show (0 : Nat) < 113 by decide)
      rw [if_neg (by decide)]
      refine .inl ⟨w', ?_, hc⟩
      show _ = Result.ok (Next.value (.pointer (some ⟨f, 0, none⟩))) w'
      simp [execOp, e0, hcst, go_sem]
    | 1, _ =>
      simp only [List.getElem?_toArray, List.getElem?_cons_zero, List.getElem?_cons_succ, Option.some.injEq] at hi
      subst hi
      have e0 : ev (.tmp 48) = .pointer (some ⟨f, 0, none⟩) := hin 48 0 ⟨0, .data⟩ (by kernel_rfl) (by simp) rfl rfl (show (48 : Nat) < 113 by decide)
      rw [if_neg (by decide)]
      refine .inl ⟨w', ?_, hc⟩
      show _ = Result.ok (Next.value (.pointer (some ⟨f, 0, none⟩))) w'
      simp [execOp, e0, hcst, go_sem]
    | 2, _ =>
      simp only [List.getElem?_toArray, List.getElem?_cons_zero, List.getElem?_cons_succ, Option.some.injEq] at hi
      subst hi
      have e0 : ev (.tmp 49) = .pointer (some ⟨f, 0, none⟩) := hin 49 1 ⟨1, .data⟩ (by kernel_rfl) (by simp) rfl rfl (show (49 : Nat) < 113 by decide)
      rw [if_neg (by decide)]
      refine .inl ⟨w', ?_, hc⟩
      show _ = Result.ok (Next.value (.pointer (some ⟨f, 1, none⟩))) w'
      simp [execOp, e0, hcst, go_sem]
    | 3, _ =>
      simp only [List.getElem?_toArray, List.getElem?_cons_zero, List.getElem?_cons_succ, Option.some.injEq] at hi
      subst hi
      have e0 : ev (.tmp 50) = .pointer (some ⟨f, 1, none⟩) := hin 50 2 ⟨2, .data⟩ (by kernel_rfl) (by simp) rfl rfl (show (50 : Nat) < 113 by decide)
      rw [if_neg (by decide)]
      refine .inl ⟨w', ?_, hc⟩
      show _ = Result.ok (Next.value (.slice (some ⟨ob, 0, none⟩) OL OL)) w'
      have hl2 : sx ≤ 2 := Nat.le_trans hlm (Nat.le_of_eq (by kernel_rfl))
      have q := (HF.out sx w' hl2 hc).1
      simp [execOp, e0, hcst, go_sem, q]
    | 4, _ =>
      simp only [List.getElem?_toArray, List.getElem?_cons_zero, List.getElem?_cons_succ, Option.some.injEq] at hi
      subst hi
      have e0 : ev (.tmp 8) = .int .i64 (b : Int) := hout 8 (by kernel_rfl) (show (8 : Nat) < 113 by decide)
      rw [if_neg (by decide)]
      refine .inl ⟨w', ?_, hc⟩
      show _ = Result.ok (Next.value (.int .i64 (b : Int))) w'
      simp [execOp, e0, hcst, go_sem]
    | 5, _ =>
      simp only [List.getElem?_toArray, List.getElem?_cons_zero, List.getElem?_cons_succ, Option.some.injEq] at hi
      subst hi
      have e0 : ev (.tmp 1) = .string tk := hout 1 (by kernel_rfl) (show (1 : Nat) < 113 by decide)
      rw [if_neg (by decide)]
      refine .inl ⟨w', ?_, hc⟩
      show _ = Result.ok (Next.value (.string tk)) w'
      simp [execOp, e0, hcst, go_sem]
    | 6, _ =>
      simp only [List.getElem?_toArray, List.getElem?_cons_zero, List.getElem?_cons_succ, Option.some.injEq] at hi
      subst hi
      have e0 : ev (.tmp 53) = .string tk := hin 53 5 ⟨5, .data⟩ (by kernel_rfl) (by simp) rfl rfl (show (53 : Nat) < 113 by decide)
      rw [if_pos (by decide)]
      have hsx : sx = 0 := hks 0 rfl
      subst hsx
      have hw : w' = A := hc
      subst hw
      refine .inl ⟨w'.alloc (.cells #[.string tk] 9), ?_, rfl⟩
      simp [execOp, e0, hcst, go_sem, Result.andThen]
    | 7, _ =>
      simp only [List.getElem?_toArray, List.getElem?_cons_zero, List.getElem?_cons_succ, Option.some.injEq] at hi
      subst hi
      have e0 : ev (.tmp 0) = .pointer (some ⟨f, 0, none⟩) := hout 0 (by kernel_rfl) (show (0 : Nat) < 113 by decide)
      rw [if_neg (by decide)]
      refine .inl ⟨w', ?_, hc⟩
      show _ = Result.ok (Next.value (.pointer (some ⟨f, 0, none⟩))) w'
      simp [execOp, e0, hcst, go_sem]
    | 8, _ =>
      simp only [List.getElem?_toArray, List.getElem?_cons_zero, List.getElem?_cons_succ, Option.some.injEq] at hi
      subst hi
      have e0 : ev (.tmp 55) = .pointer (some ⟨f, 0, none⟩) := hin 55 7 ⟨7, .data⟩ (by kernel_rfl) (by simp) rfl rfl (show (55 : Nat) < 113 by decide)
      rw [if_neg (by decide)]
      refine .inl ⟨w', ?_, hc⟩
      show _ = Result.ok (Next.value (.pointer (some ⟨f, 0, none⟩))) w'
      simp [execOp, e0, hcst, go_sem]
    | 9, _ =>
      simp only [List.getElem?_toArray, List.getElem?_cons_zero, List.getElem?_cons_succ, Option.some.injEq] at hi
      subst hi
      have e0 : ev (.tmp 56) = .pointer (some ⟨f, 0, none⟩) := hin 56 8 ⟨8, .data⟩ (by kernel_rfl) (by simp) rfl rfl (show (56 : Nat) < 113 by decide)
      rw [if_neg (by decide)]
      refine .inl ⟨w', ?_, hc⟩
      show _ = Result.ok (Next.value (.pointer (some ⟨f, 1, none⟩))) w'
      simp [execOp, e0, hcst, go_sem]
    | 10, _ =>
      simp only [List.getElem?_toArray, List.getElem?_cons_zero, List.getElem?_cons_succ, Option.some.injEq] at hi
      subst hi
      have e0 : ev (.tmp 57) = .pointer (some ⟨f, 1, none⟩) := hin 57 9 ⟨9, .data⟩ (by kernel_rfl) (by simp) rfl rfl (show (57 : Nat) < 113 by decide)
      rw [if_neg (by decide)]
      refine .inl ⟨w', ?_, hc⟩
      show _ = Result.ok (Next.value (.slice (some ⟨ob, 0, none⟩) OL OL)) w'
      have hl2 : sx ≤ 2 := Nat.le_trans hlm (Nat.le_of_eq (by kernel_rfl))
      have q := (HF.out sx w' hl2 hc).1
      simp [execOp, e0, hcst, go_sem, q]
    | 11, _ =>
      simp only [List.getElem?_toArray, List.getElem?_cons_zero, List.getElem?_cons_succ, Option.some.injEq] at hi
      subst hi
      have e0 : ev (.tmp 8) = .int .i64 (b : Int) := hout 8 (by kernel_rfl) (show (8 : Nat) < 113 by decide)
      rw [if_neg (by decide)]
      refine .inl ⟨w', ?_, hc⟩
      show _ = Result.ok (Next.value (.int .i64 (b : Int))) w'
      simp [execOp, e0, hcst, go_sem]
    | 12, _ =>
      simp only [List.getElem?_toArray, List.getElem?_cons_zero, List.getElem?_cons_succ, Option.some.injEq] at hi
      subst hi
      have e0 : ev (.tmp 58) = .slice (some ⟨ob, 0, none⟩) OL OL := hin 58 10 ⟨10, .data⟩ (by kernel_rfl) (by simp) rfl rfl (show (58 : Nat) < 113 by decide)
      have e1 : ev (.tmp 59) = .int .i64 (b : Int) := hin 59 11 ⟨11, .data⟩ (by kernel_rfl) (by simp) rfl rfl (show (59 : Nat) < 113 by decide)
      rw [if_neg (by decide)]
      refine .inl ⟨w', ?_, hc⟩
      show _ = Result.ok (Next.value (.pointer (some ⟨ob, b, none⟩))) w'
      have q := HBN.out
      simp [execOp, e0, e1, hcst, go_sem, q]
    | 13, _ =>
      simp only [List.getElem?_toArray, List.getElem?_cons_zero, List.getElem?_cons_succ, Option.some.injEq] at hi
      subst hi
      have e0 : ev (.tmp 60) = .pointer (some ⟨ob, b, none⟩) := hin 60 12 ⟨12, .data⟩ (by kernel_rfl) (by simp) rfl rfl (show (60 : Nat) < 113 by decide)
      rw [if_neg (by decide)]
      refine .inl ⟨w', ?_, hc⟩
      show _ = Result.ok (Next.value (.slice va m vc)) w'
      have hl2 : sx ≤ 1 := Nat.le_trans hlm (Nat.le_of_eq (by kernel_rfl))
      have q := (HF.out sx w' (by omega) hc).2 (by omega)
      simp [execOp, e0, hcst, go_sem, q]
    | 14, _ =>
      simp only [List.getElem?_toArray, List.getElem?_cons_zero, List.getElem?_cons_succ, Option.some.injEq] at hi
      subst hi
      have e0 : ev (.tmp 54) = .slice (some ⟨A.heap.size, 0, none⟩) 1 1 := hin 54 6 ⟨6, .data⟩ (by kernel_rfl) (by simp) rfl rfl (show (54 : Nat) < 113 by decide)
      have e1 : ev (.tmp 61) = .slice va m vc := hin 61 13 ⟨13, .data⟩ (by kernel_rfl) (by simp) rfl rfl (show (61 : Nat) < 113 by decide)
      rw [if_pos (by decide)]
      have hsx : sx = 1 := hks 1 rfl
      subst hsx
      have hw : w' = A.alloc (.cells #[.string tk] 9) := hc
      subst hw
      refine .inl ⟨A2, ?_, rfl⟩
      have q := HR.out
      simp [execOp, e0, e1, hcst, resolve, invoke, builtin, Result.andThen, q]
    | 15, _ =>
      simp only [List.getElem?_toArray, List.getElem?_cons_zero, List.getElem?_cons_succ, Option.some.injEq] at hi
      subst hi
      have e0 : ev (.tmp 51) = .slice (some ⟨ob, 0, none⟩) OL OL := hin 51 3 ⟨3, .data⟩ (by kernel_rfl) (by simp) rfl rfl (show (51 : Nat) < 113 by decide)
      have e1 : ev (.tmp 52) = .int .i64 (b : Int) := hin 52 4 ⟨4, .data⟩ (by kernel_rfl) (by simp) rfl rfl (show (52 : Nat) < 113 by decide)
      rw [if_neg (by decide)]
      refine .inl ⟨w', ?_, hc⟩
      show _ = Result.ok (Next.value (.pointer (some ⟨ob, b, none⟩))) w'
      have q := HBN.out
      simp [execOp, e0, e1, hcst, go_sem, q]
    | 16, _ =>
      simp only [List.getElem?_toArray, List.getElem?_cons_zero, List.getElem?_cons_succ, Option.some.injEq] at hi
      subst hi
      have e0 : ev (.tmp 63) = .pointer (some ⟨ob, b, none⟩) := hin 63 15 ⟨15, .data⟩ (by kernel_rfl) (by simp) rfl rfl (show (63 : Nat) < 113 by decide)
      have e1 : ev (.tmp 62) = .slice va3 (m + 1) vc3 := hin 62 14 ⟨14, .data⟩ (by kernel_rfl) (by simp) rfl rfl (show (62 : Nat) < 113 by decide)
      rw [if_pos (by decide)]
      have hsx : sx = 2 := hks 2 rfl
      subst hsx
      have hw : w' = A2 := hc
      subst hw
      refine .inr (.inl ⟨rfl, w'.setCell ⟨ob, b, none⟩ (.slice va3 (m + 1) vc3), ?_, rfl⟩)
      have q1 := HC2.out.1
      have q2 := HC2.out.2
      simp [execOp, e0, e1, hcst, go_sem, q1, q2, Result.andThen]
  · intro w9 hc
    simp only [lexF, Act.put, List.setIfInBounds_toArray, List.set_cons_succ, List.set_cons_zero, List.getD_cons_succ, List.getD_cons_zero]
    obtain rfl : W7 = w9 := by rw [hW7]; exact hc.symm
    clear hW7 HA HF HC2 HR hc
    have s0 := H7.out.own.cell (i := 0) rfl
    have s3 := H7.out.own.cell (i := 3) rfl
    rw [HnW2.out] at s0
    obtain ⟨N, hN⟩ : ∃ N, N = nw.length := ⟨_, rfl⟩
    have HNN := hide hN
    rw [← hN] at s0
    have N9 : N ≤ 131072 := by have h1 := HD9.out; have h2 := HNl.out; omega
    have cLf : Hid (∀ q, Calls Try.prog 23 #[.pointer (some ⟨f, 0, none⟩)] (W7.drewN q) fun e w' => e = .returned (.int .i64 (od2.length : Int)) ∧ ∃ m, w' = (W7.drewN q).drewN m) := fun q => rleft_any (H7.out.drewN q) (by have := HDM.out; omega)
    have q1 : ((3 : Int) * (N : Int) < 2 * ((n : Int) + 1)) = False := eq_false (by have := Hful.out; have := Hhn.out; omega)
    have q1' : (3 * N < 2 * (n + 1)) = False := eq_false (by have := Hful.out; have := Hhn.out; omega)
    have wr1 : IntKind.i64.wrap (2 * ((n : Int) + 1)) = 2 * ((n : Int) + 1) := by rw [IntKind.wrap_i64]; omega
    have wr2 : IntKind.i64.wrap (3 * (N : Int)) = 3 * (N : Int) := by rw [IntKind.wrap_i64]; omega
    clear hN
    go_wp2
    go_quiet (first | (go_at_call 23; exact Calls.quiet_of (cLf.out _)))
    go_wp2
    go_ret
    rw [HNX.out, HNW.out, HOD.out, HD2.out]
    refine ⟨rfl, ⟨⟨_, _, _, _, _, _, H7.out.drewN _⟩, HO7.out.2⟩, HO7.out.1.trans (OffR.below ⟨rfl, rfl, rfl, Nat.le_refl _, fun _ _ => rfl⟩ HO7.out.2)⟩
set_option maxHeartbeats 4000000 in
theorem rset_new_oB (Z : RZ B f nx nw od ks vs w) (D : RBd nx nw od) (D1 : RBd (mvNx nx od.length) (mvNw nw od) od.tail) (key : List UInt8) (hk : key.length ≤ maxLen) (v : Int) (hi : idx key ks = -1) (k9 : ks.length ≤ 1000) (v9 : vs.length ≤ 1000) (j : Nat) (hj : j < od.tail.length) (hold : oldI (mvNx nx od.length) od.tail.length key = ((mvNx nx od.length + j : Nat) : Int)) (hful : 3 * nw.length < 2 * (ks.length + 1)) (hod : ¬ od.tail.length = 0) :
    Calls Try.prog 16 #[.pointer (some ⟨f, 0, none⟩), .string (txt key), .int .i64 v] w fun e w' => e = .returned (.bool true) ∧ RZ B f (mvNx nx od.length) (mvNw nw od) (od.tail.set j (key :: od.tail.getD j [])) (ks ++ [key]) (vs ++ [v]) w' ∧ OffR B w w' := by
  have cM := hide (rmove_z Z D)
  have hnl : (mvNw nw od).length = nw.length := rfold_len _ _
  clear Z D
  obtain ⟨tk, htk⟩ : ∃ tk, tk = txt key := ⟨_, rfl⟩
  rw [← htk]
  have HTK := hide htk
  go_enter Try.func16, Try.ntmps16
  go_wp2_with fail
  refine cM.out.mono ?_
  rintro e W1 ⟨rfl, Z1, O1⟩
  obtain ⟨⟨nb, ob, vN, vO, kv, vv, h⟩, hB⟩ := Z1
  have cF := hide (rfind_any h key (by omega))
  rw [hi, ← htk] at cF
  clear cM hi
  generalize hNX : mvNx nx od.length = nx1 at *
  generalize hNW : mvNw nw od = nw1 at *
  generalize hOD : od.tail = od1 at *
  have HNX := hide hNX
  have HNW := hide hNW
  have HOD := hide hOD
  clear hNX hNW hOD
  have HO1 := hide O1
  clear O1
  obtain ⟨b, hbb⟩ : ∃ b, b = nx1 + j := ⟨_, rfl⟩
  rw [← hbb] at hold
  have HBB := hide hbb
  clear hbb
  have c3 := h.own.cell (i := 3) rfl
  obtain ⟨ka, kc, hkv⟩ := h.kk.slice
  rw [hkv] at c3
  obtain ⟨n, hn⟩ : ∃ n, n = ks.length := ⟨_, rfl⟩
  obtain ⟨va2, vc2, W2, hr2, hS2, hK2, hO2⟩ := app_str h.kk hB key (by omega)
  have HR2 : Hid (∀ ty, (Builtin.append_ #[29, 29] ty #[.slice ka n kc, .slice (some ⟨W1.heap.size, 0, none⟩) 1 1]).run Try.prog (W1.alloc (.cells #[.string tk] 9)) = .ok (.slice va2 (n + 1) vc2) W2) := by
    rw [hn, ← hkv, htk]; exact hr2
  have b43 : f ∉ ownB kv := fun hm => by
    obtain ⟨_, c, hc⟩ := own_ty h.kk.row (mem_own.1 hm)
    exact h.own.not_ty hc (by decide) rfl
  have f2 : Blk W2 f _ 43 := h.own.same (hK2.block f h.own.lt b43)
  have l3 := f2.cell (i := 3) rfl
  have z3 := f2.frozen 3
  rw [hkv] at l3
  have h3 : RfIn B (W2.setCell ⟨f, 3, none⟩ (.slice va2 (ks.length + 1) vc2)) f nb ob nx1 vN vO nw1 od1 (.slice va2 (ks.length + 1) vc2) vv (ks ++ [key]) vs := by
    refine h.turnK (f2.set 3 _) (fun b h1 h2 h3 => ?_) (hS2.sameB (fun q hq => ?_)) hO2
    · rw [blk_setCell_other _ _ _ _ h1]; exact hK2.block b h3 h2
    · refine blk_setCell_other _ _ _ _ (fun e => ?_)
      obtain ⟨_, c, hc⟩ := own_ty hS2.row hq
      exact f2.not_ty (e ▸ hc) (by decide) rfl
  have O3 : OffR B W1 (W2.setCell ⟨f, 3, none⟩ (.slice va2 (ks.length + 1) vc2)) := (OffR.keep hK2 hB (fun q hq => by
    obtain ⟨h1, c, hc⟩ := own_ty h.kk.row (mem_own.1 hq)
    exact ⟨h1, c, 9, hc, by simp⟩)).trans (OffR.setCell f2 h.lf (by simp) _)
  rw [← hn] at c3 l3 h3 O3
  obtain ⟨W3, hW3⟩ : ∃ W3, W3 = W2.setCell ⟨f, 3, none⟩ (.slice va2 (n + 1) vc2) := ⟨_, rfl⟩
  rw [← hW3] at h3 O3
  have hB3 : B ≤ W3.heap.size := Nat.le_trans hB O3.size
  have c4 := h3.own.cell (i := 4) rfl
  obtain ⟨na, nc, hvv⟩ := h3.kn.slice
  rw [hvv] at c4
  obtain ⟨k, hkk⟩ : ∃ k, k = vs.length := ⟨_, rfl⟩
  obtain ⟨v4, W4, hr4, hG4, hK4, hO4⟩ := app_g (K := intK) (W := W3.alloc (.cells #[.int .i64 v] 3)) (u := .slice (some ⟨W3.heap.size, 0, none⟩) 1 1) (ys := [v]) (h3.kn.gr.below ((Below.refl _ _).alloc (Nat.le_refl _) _)) (Nat.le_trans hB3 (by rw [nblk_alloc]; omega)) (.inr ⟨⟨W3.heap.size, 0, none⟩, 1, rfl, fun jj y hy => by
    match jj, hy with
    | 0, hy => simp at hy; subst hy; exact (Blk.new W3 [.int .i64 v] 3).cell (i := 0) rfl⟩) (by simp; omega)
  obtain ⟨va4, vc4, rfl⟩ := hG4.slice
  have el : (vs ++ [v]).length = k + 1 := by rw [hkk]; simp
  rw [el] at hr4 hG4 hO4
  have HR4 : Hid (∀ ty, (Builtin.append_ #[41, 41] ty #[.slice na k nc, .slice (some ⟨W3.heap.size, 0, none⟩) 1 1]).run Try.prog (W3.alloc (.cells #[.int .i64 v] 3)) = .ok (.slice va4 (k + 1) vc4) W4) := by
    have q := hr4
    rw [hvv, ← hkk] at q
    exact q
  have K4 : Keep (ownB vv) W3 W4 := (Keep.of_below (F := ownB vv) ((Below.refl _ W3).alloc (Nat.le_refl _) (.cells #[.int .i64 v] 3))).trans hK4 (fun q hq => .inl hq)
  have b43' : f ∉ ownB vv := fun hm => by
    obtain ⟨_, c, hc⟩ := own_ty h3.kn.row (mem_own.1 hm)
    exact h3.own.not_ty hc (by decide) rfl
  have f4 : Blk W4 f _ 43 := h3.own.same (K4.block f h3.own.lt b43')
  have l4 := f4.cell (i := 4) rfl
  have z4 := f4.frozen 4
  rw [hvv] at l4
  have h5 : RfIn B (W4.setCell ⟨f, 4, none⟩ (.slice va4 (k + 1) vc4)) f nb ob nx1 vN vO nw1 od1 (.slice va2 (n + 1) vc2) (.slice va4 (k + 1) vc4) (ks ++ [key]) (vs ++ [v]) := by
    refine h3.turnV (f4.set 4 _) (fun b h1 h2 h3 => ?_) (hG4.nr.same (fun q hq => ?_))
    · rw [blk_setCell_other _ _ _ _ h1]; exact K4.block b h3 h2
    · refine blk_setCell_other _ _ _ _ (fun e => ?_)
      obtain ⟨_, c, hc⟩ := own_ty hG4.row hq
      exact f4.not_ty (e ▸ hc) (show (43 : Nat) ≠ 3 by decide) rfl
  have O5 : OffR B W3 (W4.setCell ⟨f, 4, none⟩ (.slice va4 (k + 1) vc4)) := (OffR.keep K4 hB3 (fun q hq => by
    obtain ⟨h1, c, hc⟩ := own_ty h3.kn.row (mem_own.1 hq)
    exact ⟨h1, c, 3, hc, by simp⟩)).trans (OffR.setCell f4 h3.lf (by simp) _)
  rw [← hkk] at c4 l4
  obtain ⟨W5, hW5⟩ : ∃ W5, W5 = W4.setCell ⟨f, 4, none⟩ (.slice va4 (k + 1) vc4) := ⟨_, rfl⟩
  rw [← hW5] at h5 O5
  have HO5 := hide (HO1.out.trans (O3.trans O5))
  have HB5 : Hid (B ≤ W5.heap.size) := Nat.le_trans hB3 O5.size
  have H5 := hide h5
  have cO := hide (rold_any h5 key hk D1.m9)
  rw [hold, ← htk] at cO
  have HNl := hide hnl
  have n10 : n ≤ 1000 := by omega
  have k10 : k ≤ 1000 := by omega
  have HKn : Hid ((ks ++ [key]).length = n + 1) := by unfold Hid; rw [hn]; simp
  have HnW : Hid (nw1.length = nw.length) := hnl
  have Hful := hide hful
  have Hod := hide hod
  have Hhn := hide hn
  clear h h3 h5 hr2 hS2 hK2 hO2 f2 b43 hB O3 hr4 hG4 hK4 hO4 K4 b43' f4 O5 hB3 hkv hvv hn hkk el htk hold hnl k9 v9 hful HO1 hod
  go_wp2_with fail
  refine cF.out.mono ?_
  rintro e wx ⟨rfl, hx⟩
  obtain rfl : W1 = wx := hx.symm
  clear hx cF
  have hs3 : W3.heap.size = W2.heap.size := by rw [hW3]; exact nblk_setCell _ _ _
  rw [hs3] at HR4
  rw [hW3] at HR4 c4
  clear hs3 hW3
  go_wp2_with (first | (at_builtin; refine Lib.wpList_append_run _ rfl _ _ _ _ rfl _ _ rfl rfl _ _ (HR2.out _) ?_) | (at_builtin; refine Lib.wpList_append_run _ rfl _ _ _ _ rfl _ _ rfl rfl _ _ (HR4.out _) ?_))
  rw [← hW5]
  refine cO.out.mono ?_
  rintro e W6 ⟨rfl, q6, hW6⟩
  have H6 := hide (H5.out.drewN q6)
  have HO6 : Hid (OffR B w (W5.drewN q6)) := HO5.out.trans (OffR.below ⟨rfl, rfl, rfl, Nat.le_refl _, fun _ _ => rfl⟩ HB5.out)
  have HB6 : Hid (B ≤ (W5.drewN q6).heap.size) := HB5.out
  rw [← hW6] at H6 HO6 HB6
  clear hW6 hW5 cO H5 HO5 HB5 HR2 HR4 c3 c4 l3 z3 l4 z4
  have hOp : 0 < nx1 + od1.length := by omega
  have c1 := H6.out.own.cell (i := 1) rfl
  rw [sl2_pos _ _ hOp] at c1
  have hbv := getD_some (l := od1) hj
  obtain ⟨ss, hss⟩ : ∃ ss, ss = od1.getD j [] := ⟨_, rfl⟩
  rw [← hss] at hbv
  obtain ⟨ve, hve, hvS, hvX⟩ := H6.out.eO j ss hbv
  obtain ⟨va, vc, hvs⟩ := hvS.slice
  have hrO := H6.out.rO hOp
  have cb := hrO.cell hve
  rw [hvs] at cb hvS
  rw [← HBB.out] at cb
  have hb := HBB.out
  obtain ⟨OL, hOL⟩ : ∃ OL, OL = nx1 + od1.length := ⟨_, rfl⟩
  rw [← hOL] at c1
  have HBN : Hid (b < OL) := by unfold Hid; omega
  obtain ⟨m, hm⟩ : ∃ m, m = ss.length := ⟨_, rfl⟩
  rw [← hm] at cb
  have mm : ss.length + 1 ≤ 1048576 := by
    have h1 := mem_flat_le (List.mem_of_getElem? hbv)
    have h2 := D1.t9
    omega
  have hb0 : (0 : Int) ≤ (b : Int) := by omega
  have HD9 : Hid (nw1.length ≤ 131072) := D1.n9
  have HDM : Hid (nx1 + (od1.set j (key :: ss)).length ≤ 131072) := by unfold Hid; rw [List.length_set]; exact D1.m9
  have HOL : Hid ((od1.set j (key :: ss)).length = od1.length) := by simp [Hid]
  obtain ⟨A, hA⟩ : ∃ A, A = { W6 with drawn := W6.drawn + 1 } := ⟨_, rfl⟩
  have bA : Below W6.heap.size W6 A := by rw [hA]; exact below_drawn W6
  have hAs : A.heap.size = W6.heap.size := by rw [hA]

  have hSr : Src strK A (.slice va ss.length vc) ss := (hvS.gr.below bA).src
  obtain ⟨va3, vc3, A2, hr, hG, hB2, hO⟩ := front_g strK (by rw [hAs]; exact HB6.out) key hSr mm
  rw [← hm] at hr hG hO
  have e0 : strK.enc key = .string tk := by rw [HTK.out]; rfl
  rw [e0] at hr
  have HR : Hid (∀ ty, (Builtin.append_ #[29, 29] ty #[.slice (some ⟨A.heap.size, 0, none⟩) 1 1, .slice va m vc]).run Try.prog (A.alloc (.cells #[.string tk] 9)) = .ok (.slice va3 (m + 1) vc3) A2) := hr
  have bA2 : Below W6.heap.size W6 A2 := bA.trans (hB2.mono (by rw [hAs]; exact Nat.le_refl _))
  have bA1 : Below W6.heap.size W6 (A.alloc (.cells #[.string tk] 9)) := bA.alloc (by rw [hAs]; exact Nat.le_refl _) _
  have hfl := H6.out.own.lt
  have hnl2 := hrO.lt
  have HF : Hid (∀ s W, s ≤ 2 → CC4 A (A.alloc (.cells #[.string tk] 9)) A2 (A2.setCell ⟨ob, b, none⟩ (.slice va3 (m + 1) vc3)) s W → W.cell? ⟨f, 1, none⟩ = some (.slice (some ⟨ob, 0, none⟩) OL OL) ∧ (s ≤ 1 → W.cell? ⟨ob, b, none⟩ = some (.slice va m vc))) := fun s W hs hc => by
    have key2 : ∀ Z, Below W6.heap.size W6 Z → Z.cell? ⟨f, 1, none⟩ = some (.slice (some ⟨ob, 0, none⟩) OL OL) ∧ Z.cell? ⟨ob, b, none⟩ = some (.slice va m vc) := fun Z hZ => ⟨(hZ.cell (p := ⟨f, 1, none⟩) hfl).trans c1, (hZ.cell (p := ⟨ob, b, none⟩) hnl2).trans cb⟩
    match s, hs, hc with
    | 0, _, hc => have hc : W = A := hc; subst hc; exact ⟨(key2 _ bA).1, fun _ => (key2 _ bA).2⟩
    | 1, _, hc => have hc : W = _ := hc; subst hc; exact ⟨(key2 _ bA1).1, fun _ => (key2 _ bA1).2⟩
    | 2, _, hc => have hc : W = A2 := hc; subst hc; exact ⟨(key2 _ bA2).1, fun h => absurd h (by decide)⟩
  have HC2 : Hid (A2.cell? ⟨ob, b, none⟩ = some (.slice va m vc) ∧ A2.frozen? ⟨ob, b, none⟩ = false) := ⟨(bA2.cell (p := ⟨ob, b, none⟩) hnl2).trans cb, (hrO.same (bA2.block ob hnl2)).frozen b⟩
  have HA : Hid (CC4 A (A.alloc (.cells #[.string tk] 9)) A2 (A2.setCell ⟨ob, b, none⟩ (.slice va3 (m + 1) vc3)) 0 { W6 with drawn := W6.drawn + 1 }) := hA.symm
  obtain ⟨W7, hW7⟩ : ∃ W7, W7 = A2.setCell ⟨ob, b, none⟩ (.slice va3 (m + 1) vc3) := ⟨_, rfl⟩
  have H7 : Hid (RfIn B W7 f nb ob nx1 vN (vO.set (nx1 + j) (.slice va3 (m + 1) vc3)) nw1 (od1.set j (key :: ss)) (.slice va2 (n + 1) vc2) (.slice va4 (k + 1) vc4) (ks ++ [key]) (vs ++ [v])) := by
    rw [hW7, hb]
    exact H6.out.setO bA2 hj hG.sr (fun q hq => by have := hO q hq; rw [hAs] at this; exact this)
  have HO7 : Hid (OffR B w W7 ∧ B ≤ W7.heap.size) := by
    have o1 := OffR.below bA2 HB6.out
    have hB2' := Nat.le_trans HB6.out o1.size
    have o2 := OffR.setCell (o := b) (hrO.same (bA2.block ob hnl2)) (H6.out.lo hOp) (by simp) (.slice va3 (m + 1) vc3)
    rw [hW7]
    exact ⟨HO6.out.trans (o1.trans o2), Nat.le_trans hB2' o2.size⟩
  have HD2 : Hid (od1.set j (key :: od1.getD j []) = od1.set j (key :: ss)) := by unfold Hid; rw [hss]
  have HnW2 := HnW
  clear hr hG hB2 hO hSr bA bA1 bA2 hA hAs hfl hnl2 H6 HO6 HB6 c1 cb hbv hss hve hvS hvX hvs hrO hb hOL hm mm hOp hk D1
  generalize hG2 : od1.set j (key :: ss) = od2 at *
  clear hG2
  go_wp2
  refine wp_region_chainp (by kernel_rfl) (by kernel_rfl) (fun jx => ([.pointer (some ⟨f, 0, none⟩), .pointer (some ⟨f, 0, none⟩), .pointer (some ⟨f, 1, none⟩), .slice (some ⟨ob, 0, none⟩) OL OL, .int .i64 (b : Int), .string tk, .slice (some ⟨A.heap.size, 0, none⟩) 1 1, .pointer (some ⟨f, 0, none⟩), .pointer (some ⟨f, 0, none⟩), .pointer (some ⟨f, 1, none⟩), .slice (some ⟨ob, 0, none⟩) OL OL, .int .i64 (b : Int), .pointer (some ⟨ob, b, none⟩), .slice va m vc, .slice va3 (m + 1) vc3, .pointer (some ⟨ob, b, none⟩), undef] : List Value).getD jx undef) [6, 14, 16] (by kernel_rfl) (CC4 A (A.alloc (.cells #[.string tk] 9)) A2 (A2.setCell ⟨ob, b, none⟩ (.slice va3 (m + 1) vc3))) (HA.out) ?_ ?_
  · intro jx ox hi sx w' ev hlm hks hc hin hout hold hcst hfn
    have hltx : jx < 17 := by
      have := (Array.getElem?_eq_some_iff.1 hi).1
      simpa using this
    match jx, hltx with
    | 0, _ =>
      simp only [List.getElem?_toArray, List.getElem?_cons_zero, List.getElem?_cons_succ, Option.some.injEq] at hi
      subst hi
      have e0 : ev (.tmp 0) = .pointer (some ⟨f, 0, none⟩) := hout 0 (by kernel_rfl) (show (0 : Nat) < 113 by decide)
      rw [if_neg (by decide)]
      refine .inl ⟨w', ?_, hc⟩
      show _ = Result.ok (Next.value (.pointer (some ⟨f, 0, none⟩))) w'
      simp [execOp, e0, hcst, go_sem]
    | 1, _ =>
      simp only [List.getElem?_toArray, List.getElem?_cons_zero, List.getElem?_cons_succ, Option.some.injEq] at hi
      subst hi
      have e0 : ev (.tmp 48) = .pointer (some ⟨f, 0, none⟩) := hin 48 0 ⟨0, .data⟩ (by kernel_rfl) (by simp) rfl rfl (show (48 : Nat) < 113 by decide)
      rw [if_neg (by decide)]
      refine .inl ⟨w', ?_, hc⟩
      show _ = Result.ok (Next.value (.pointer (some ⟨f, 0, none⟩))) w'
      simp [execOp, e0, hcst, go_sem]
    | 2, _ =>
      simp only [List.getElem?_toArray, List.getElem?_cons_zero, List.getElem?_cons_succ, Option.some.injEq] at hi
      subst hi
      have e0 : ev (.tmp 49) = .pointer (some ⟨f, 0, none⟩) := hin 49 1 ⟨1, .data⟩ (by kernel_rfl) (by simp) rfl rfl (show (49 : Nat) < 113 by decide)
      rw [if_neg (by decide)]
      refine .inl ⟨w', ?_, hc⟩
      show _ = Result.ok (Next.value (.pointer (some ⟨f, 1, none⟩))) w'
      simp [execOp, e0, hcst, go_sem]
    | 3, _ =>
      simp only [List.getElem?_toArray, List.getElem?_cons_zero, List.getElem?_cons_succ, Option.some.injEq] at hi
      subst hi
      have e0 : ev (.tmp 50) = .pointer (some ⟨f, 1, none⟩) := hin 50 2 ⟨2, .data⟩ (by kernel_rfl) (by simp) rfl rfl (show (50 : Nat) < 113 by decide)
      rw [if_neg (by decide)]
      refine .inl ⟨w', ?_, hc⟩
      show _ = Result.ok (Next.value (.slice (some ⟨ob, 0, none⟩) OL OL)) w'
      have hl2 : sx ≤ 2 := Nat.le_trans hlm (Nat.le_of_eq (by kernel_rfl))
      have q := (HF.out sx w' hl2 hc).1
      simp [execOp, e0, hcst, go_sem, q]
    | 4, _ =>
      simp only [List.getElem?_toArray, List.getElem?_cons_zero, List.getElem?_cons_succ, Option.some.injEq] at hi
      subst hi
      have e0 : ev (.tmp 8) = .int .i64 (b : Int) := hout 8 (by kernel_rfl) (show (8 : Nat) < 113 by decide)
      rw [if_neg (by decide)]
      refine .inl ⟨w', ?_, hc⟩
      show _ = Result.ok (Next.value (.int .i64 (b : Int))) w'
      simp [execOp, e0, hcst, go_sem]
    | 5, _ =>
      simp only [List.getElem?_toArray, List.getElem?_cons_zero, List.getElem?_cons_succ, Option.some.injEq] at hi
      subst hi
      have e0 : ev (.tmp 1) = .string tk := hout 1 (by kernel_rfl) (show (1 : Nat) < 113 by decide)
      rw [if_neg (by decide)]
      refine .inl ⟨w', ?_, hc⟩
      show _ = Result.ok (Next.value (.string tk)) w'
      simp [execOp, e0, hcst, go_sem]
    | 6, _ =>
      simp only [List.getElem?_toArray, List.getElem?_cons_zero, List.getElem?_cons_succ, Option.some.injEq] at hi
      subst hi
      have e0 : ev (.tmp 53) = .string tk := hin 53 5 ⟨5, .data⟩ (by kernel_rfl) (by simp) rfl rfl (show (53 : Nat) < 113 by decide)
      rw [if_pos (by decide)]
      have hsx : sx = 0 := hks 0 rfl
      subst hsx
      have hw : w' = A := hc
      subst hw
      refine .inl ⟨w'.alloc (.cells #[.string tk] 9), ?_, rfl⟩
      simp [execOp, e0, hcst, go_sem, Result.andThen]
    | 7, _ =>
      simp only [List.getElem?_toArray, List.getElem?_cons_zero, List.getElem?_cons_succ, Option.some.injEq] at hi
      subst hi
      have e0 : ev (.tmp 0) = .pointer (some ⟨f, 0, none⟩) := hout 0 (by kernel_rfl) (show (0 : Nat) < 113 by decide)
      rw [if_neg (by decide)]
      refine .inl ⟨w', ?_, hc⟩
      show _ = Result.ok (Next.value (.pointer (some ⟨f, 0, none⟩))) w'
      simp [execOp, e0, hcst, go_sem]
    | 8, _ =>
      simp only [List.getElem?_toArray, List.getElem?_cons_zero, List.getElem?_cons_succ, Option.some.injEq] at hi
      subst hi
      have e0 : ev (.tmp 55) = .pointer (some ⟨f, 0, none⟩) := hin 55 7 ⟨7, .data⟩ (by kernel_rfl) (by simp) rfl rfl (show (55 : Nat) < 113 by decide)
      rw [if_neg (by decide)]
      refine .inl ⟨w', ?_, hc⟩
      show _ = Result.ok (Next.value (.pointer (some ⟨f, 0, none⟩))) w'
      simp [execOp, e0, hcst, go_sem]
    | 9, _ =>
      simp only [List.getElem?_toArray, List.getElem?_cons_zero, List.getElem?_cons_succ, Option.some.injEq] at hi
      subst hi
      have e0 : ev (.tmp 56) = .pointer (some ⟨f, 0, none⟩) := hin 56 8 ⟨8, .data⟩ (by kernel_rfl) (by simp) rfl rfl (show (56 : Nat) < 113 by decide)
      rw [if_neg (by decide)]
      refine .inl ⟨w', ?_, hc⟩
      show _ = Result.ok (Next.value (.pointer (some ⟨f, 1, none⟩))) w'
      simp [execOp, e0, hcst, go_sem]
    | 10, _ =>
      simp only [List.getElem?_toArray, List.getElem?_cons_zero, List.getElem?_cons_succ, Option.some.injEq] at hi
      subst hi
      have e0 : ev (.tmp 57) = .pointer (some ⟨f, 1, none⟩) := hin 57 9 ⟨9, .data⟩ (by kernel_rfl) (by simp) rfl rfl (show (57 : Nat) < 113 by decide)
      rw [if_neg (by decide)]
      refine .inl ⟨w', ?_, hc⟩
      show _ = Result.ok (Next.value (.slice (some ⟨ob, 0, none⟩) OL OL)) w'
      have hl2 : sx ≤ 2 := Nat.le_trans hlm (Nat.le_of_eq (by kernel_rfl))
      have q := (HF.out sx w' hl2 hc).1
      simp [execOp, e0, hcst, go_sem, q]
    | 11, _ =>
      simp only [List.getElem?_toArray, List.getElem?_cons_zero, List.getElem?_cons_succ, Option.some.injEq] at hi
      subst hi
      have e0 : ev (.tmp 8) = .int .i64 (b : Int) := hout 8 (by kernel_rfl) (show (8 : Nat) < 113 by decide)
      rw [if_neg (by decide)]
      refine .inl ⟨w', ?_, hc⟩
      show _ = Result.ok (Next.value (.int .i64 (b : Int))) w'
      simp [execOp, e0, hcst, go_sem]
    | 12, _ =>
      simp only [List.getElem?_toArray, List.getElem?_cons_zero, List.getElem?_cons_succ, Option.some.injEq] at hi
      subst hi
      have e0 : ev (.tmp 58) = .slice (some ⟨ob, 0, none⟩) OL OL := hin 58 10 ⟨10, .data⟩ (by kernel_rfl) (by simp) rfl rfl (show (58 : Nat) < 113 by decide)
      have e1 : ev (.tmp 59) = .int .i64 (b : Int) := hin 59 11 ⟨11, .data⟩ (by kernel_rfl) (by simp) rfl rfl (show (59 : Nat) < 113 by decide)
      rw [if_neg (by decide)]
      refine .inl ⟨w', ?_, hc⟩
      show _ = Result.ok (Next.value (.pointer (some ⟨ob, b, none⟩))) w'
      have q := HBN.out
      simp [execOp, e0, e1, hcst, go_sem, q]
    | 13, _ =>
      simp only [List.getElem?_toArray, List.getElem?_cons_zero, List.getElem?_cons_succ, Option.some.injEq] at hi
      subst hi
      have e0 : ev (.tmp 60) = .pointer (some ⟨ob, b, none⟩) := hin 60 12 ⟨12, .data⟩ (by kernel_rfl) (by simp) rfl rfl (show (60 : Nat) < 113 by decide)
      rw [if_neg (by decide)]
      refine .inl ⟨w', ?_, hc⟩
      show _ = Result.ok (Next.value (.slice va m vc)) w'
      have hl2 : sx ≤ 1 := Nat.le_trans hlm (Nat.le_of_eq (by kernel_rfl))
      have q := (HF.out sx w' (by omega) hc).2 (by omega)
      simp [execOp, e0, hcst, go_sem, q]
    | 14, _ =>
      simp only [List.getElem?_toArray, List.getElem?_cons_zero, List.getElem?_cons_succ, Option.some.injEq] at hi
      subst hi
      have e0 : ev (.tmp 54) = .slice (some ⟨A.heap.size, 0, none⟩) 1 1 := hin 54 6 ⟨6, .data⟩ (by kernel_rfl) (by simp) rfl rfl (show (54 : Nat) < 113 by decide)
      have e1 : ev (.tmp 61) = .slice va m vc := hin 61 13 ⟨13, .data⟩ (by kernel_rfl) (by simp) rfl rfl (show (61 : Nat) < 113 by decide)
      rw [if_pos (by decide)]
      have hsx : sx = 1 := hks 1 rfl
      subst hsx
      have hw : w' = A.alloc (.cells #[.string tk] 9) := hc
      subst hw
      refine .inl ⟨A2, ?_, rfl⟩
      have q := HR.out
      simp [execOp, e0, e1, hcst, resolve, invoke, builtin, Result.andThen, q]
    | 15, _ =>
      simp only [List.getElem?_toArray, List.getElem?_cons_zero, List.getElem?_cons_succ, Option.some.injEq] at hi
      subst hi
      have e0 : ev (.tmp 51) = .slice (some ⟨ob, 0, none⟩) OL OL := hin 51 3 ⟨3, .data⟩ (by kernel_rfl) (by simp) rfl rfl (show (51 : Nat) < 113 by decide)
      have e1 : ev (.tmp 52) = .int .i64 (b : Int) := hin 52 4 ⟨4, .data⟩ (by kernel_rfl) (by simp) rfl rfl (show (52 : Nat) < 113 by decide)
      rw [if_neg (by decide)]
      refine .inl ⟨w', ?_, hc⟩
      show _ = Result.ok (Next.value (.pointer (some ⟨ob, b, none⟩))) w'
      have q := HBN.out
      simp [execOp, e0, e1, hcst, go_sem, q]
    | 16, _ =>
      simp only [List.getElem?_toArray, List.getElem?_cons_zero, List.getElem?_cons_succ, Option.some.injEq] at hi
      subst hi
      have e0 : ev (.tmp 63) = .pointer (some ⟨ob, b, none⟩) := hin 63 15 ⟨15, .data⟩ (by kernel_rfl) (by simp) rfl rfl (show (63 : Nat) < 113 by decide)
      have e1 : ev (.tmp 62) = .slice va3 (m + 1) vc3 := hin 62 14 ⟨14, .data⟩ (by kernel_rfl) (by simp) rfl rfl (show (62 : Nat) < 113 by decide)
      rw [if_pos (by decide)]
      have hsx : sx = 2 := hks 2 rfl
      subst hsx
      have hw : w' = A2 := hc
      subst hw
      refine .inr (.inl ⟨rfl, w'.setCell ⟨ob, b, none⟩ (.slice va3 (m + 1) vc3), ?_, rfl⟩)
      have q1 := HC2.out.1
      have q2 := HC2.out.2
      simp [execOp, e0, e1, hcst, go_sem, q1, q2, Result.andThen]
  · intro w9 hc
    simp only [lexF, Act.put, List.setIfInBounds_toArray, List.set_cons_succ, List.set_cons_zero, List.getD_cons_succ, List.getD_cons_zero]
    obtain rfl : W7 = w9 := by rw [hW7]; exact hc.symm
    clear hW7 HA HF HC2 HR hc
    have s0 := H7.out.own.cell (i := 0) rfl
    have s3 := H7.out.own.cell (i := 3) rfl
    rw [HnW2.out] at s0
    obtain ⟨N, hN⟩ : ∃ N, N = nw.length := ⟨_, rfl⟩
    have HNN := hide hN
    rw [← hN] at s0
    have N9 : N ≤ 131072 := by have h1 := HD9.out; have h2 := HNl.out; omega
    have cLf : Hid (∀ q, Calls Try.prog 23 #[.pointer (some ⟨f, 0, none⟩)] (W7.drewN q) fun e w' => e = .returned (.int .i64 (od2.length : Int)) ∧ ∃ m, w' = (W7.drewN q).drewN m) := fun q => rleft_any (H7.out.drewN q) (by have := HDM.out; omega)
    have q1 : ((3 : Int) * (N : Int) < 2 * ((n : Int) + 1)) = True := eq_true (by have := Hful.out; have := Hhn.out; omega)
    have N6 : ((N : Int) < 65536) = True := eq_true (by have := Hful.out; have := Hhn.out; omega)
    have q2 : ((od2.length : Int) == 0) = false := by rw [beq_eq_false_iff_ne]; have := Hod.out; have := HOL.out; omega
    have q3 : (od2.length == 0) = false := by rw [beq_eq_false_iff_ne]; have := Hod.out; have := HOL.out; omega
    have wr1 : IntKind.i64.wrap (2 * ((n : Int) + 1)) = 2 * ((n : Int) + 1) := by rw [IntKind.wrap_i64]; omega
    have wr2 : IntKind.i64.wrap (3 * (N : Int)) = 3 * (N : Int) := by rw [IntKind.wrap_i64]; omega
    clear hN
    go_wp2
    go_quiet (first | (go_at_call 23; exact Calls.quiet_of (cLf.out _)))
    go_wp2
    go_ret
    rw [HNX.out, HNW.out, HOD.out, HD2.out]
    refine ⟨rfl, ⟨⟨_, _, _, _, _, _, H7.out.drewN _⟩, HO7.out.2⟩, HO7.out.1.trans (OffR.below ⟨rfl, rfl, rfl, Nat.le_refl _, fun _ _ => rfl⟩ HO7.out.2)⟩
end
end Go.Proofs.Ytkjfildnemgbiaa
