/- The document's own Seg: Touch, Remove. -/
import Derived.Test.YtgjgdhjnkbbceaaRf1
set_option linter.unusedVariables false
set_option linter.unusedSimpArgs false
set_option maxRecDepth 8000
namespace Go.Proofs.Ytgjgdhjnkbbceaa
open Go.RowKit Go.Deep Sgm

/-- Only blocks of the document's Seg turn, none older than B. -/
structure OffR (B : Nat) (W W' : World) : Prop where
  bel : Below B W W'
  oth : ∀ b, b < W.heap.size → (∀ (c : Array Value) (t : TypeId), W.heap[b]? = some (Obj.cells c t (0, 0)) → t ≠ 33 ∧ t ≠ 59) → W'.heap[b]? = W.heap[b]?
theorem OffR.trans {B : Nat} {a b c : World} (h : OffR B a b) (k : OffR B b c) : OffR B a c := ⟨h.bel.trans k.bel, fun q hq ht => by
  have e := h.oth q hq ht
  exact (k.oth q (Nat.lt_of_lt_of_le hq h.bel.size) (fun c t hc => ht c t (e.symm.trans hc))).trans e⟩
theorem OffR.of_below {B : Nat} {a b : World} (h : Below a.heap.size a b) (hB : B ≤ a.heap.size) : OffR B a b := ⟨h.mono hB, fun q hq _ => h.block q hq⟩
theorem OffR.drewN {B : Nat} (a : World) (q : Nat) (hB : B ≤ a.heap.size) : OffR B a (a.drewN q) := OffR.of_below ⟨rfl, rfl, rfl, Nat.le_refl _, fun _ _ => rfl⟩ hB
def fR (r : Nat) (V : Nat → Value) : List Nat := r :: (ownB (V 0) ++ ownB (V 1) ++ ownB (V 2))
section
variable {B : Nat} {w w' W : World} {r k j n : Nat} {V : Nat → Value} {R : Nat → List Nd} {i : Int} {v : Value} {xs : List Nd}
theorem mem_fR {b : Nat} : b ∈ fR r V ↔ b = r ∨ ∃ k, k < 3 ∧ b ∈ ownB (V k) := by
  unfold fR
  simp only [List.mem_cons, List.mem_append]
  constructor
  · rintro (h | (h | h) | h)
    · exact .inl h
    · exact .inr ⟨0, by decide, h⟩
    · exact .inr ⟨1, by decide, h⟩
    · exact .inr ⟨2, by decide, h⟩
  · rintro (h | ⟨k, hk, h⟩)
    · exact .inl h
    · match k, hk with
      | 0, _ => exact .inr (.inl (.inl h))
      | 1, _ => exact .inr (.inl (.inr h))
      | 2, _ => exact .inr (.inr h)
theorem RfIn.offR (h : RfIn B w r V R) (hB : B ≤ w.heap.size) (K : Keep (fR r V) w w') : OffR B w w' := by
  refine ⟨K.below (fun q hq => ?_) hB, fun q hq ht => K.block q hq (fun hm => ?_)⟩
  · rcases mem_fR.1 hq with rfl | ⟨k, hk, hq⟩
    · exact h.lb
    · exact ((h.row k hk).lt q hq).1
  · rcases mem_fR.1 hm with rfl | ⟨k, hk, hm⟩
    · exact (ht _ _ h.own).1 rfl
    · obtain ⟨c, hc⟩ := (h.row k hk).ty q hm
      exact (ht _ _ hc).2 rfl
/-- The document's Seg as a law holds it. -/
def RfZ (B r : Nat) (s : St) (w : World) : Prop := B ≤ w.heap.size ∧ ∃ V R, RfIn B w r V R ∧ rs R = s
theorem RfZ.below {s : St} (h : RfZ B r s w) (b : Below w.heap.size w w') : RfZ B r s w' := by
  obtain ⟨h0, V, R, h1, h2⟩ := h
  exact ⟨Nat.le_trans h0 b.size, V, R, h1.below b, h2⟩
theorem RfZ.offT {s : St} (h : RfZ B r s w) (b : OffT w w') : RfZ B r s w' := by
  obtain ⟨h0, V, R, h1, h2⟩ := h
  exact ⟨Nat.le_trans h0 b.1, V, R, h1.offT b, h2⟩
theorem SL.offR {w0 : World} {f : Nat} {s : St} (h : SL w0 f s w) (hB : w0.heap.size ≤ B) (k : OffR B w w') : SL w0 f s w' := by
  obtain ⟨F, T, hF⟩ := h.sm
  refine ⟨⟨F, T.same (fun b hb => k.oth b (T.lt b hb) (fun c t hc => ?_)), hF⟩, h.bel.trans (k.bel.mono hB)⟩
  rcases T.ty b hb c t hc with e | e
  · rw [e]; decide
  · rw [e]; decide
theorem GR.offR {α : Type} {K : Kd α} {B' : Nat} {xs : List α} (h : GR K B' v xs w) (k : OffR B w w') (h1 : K.tE ≠ 33) (h2 : K.tE ≠ 59) : GR K B' v xs w' :=
  h.sameB (fun q hq => k.oth q (h.lt q hq).2 (fun c t hc => by
    obtain ⟨c', hc'⟩ := h.ty q hq
    rw [hc'] at hc
    simp only [Option.some.injEq, Obj.cells.injEq] at hc
    rw [← hc.2.1]
    exact ⟨h1, h2⟩))
theorem Blk.offR {b : Nat} {L : List Value} {t : TypeId} (h : Blk w b L t) (k : OffR B w w') (h1 : t ≠ 33) (h2 : t ≠ 59) : Blk w' b L t := h.same (k.oth b h.lt (fun c t' hc => by
  unfold Blk at h
  rw [h] at hc
  simp only [Option.some.injEq, Obj.cells.injEq] at hc
  rw [← hc.2.1]
  exact ⟨h1, h2⟩))

/-! ### Touch -/
theorem row_setU : ∀ (xs : List Nd) (p : Nat) (x : Nd) (u : Bool), xs[p]? = some x → (nodK.row xs).set (p * 2 + 1) (.bool u) = nodK.row (xs.set p (x.1, u))
  | [], p, x, u, h => by simp at h
  | y :: xs, 0, x, u, h => by
    simp at h; subst h
    rfl
  | y :: xs, p + 1, x, u, h => by
    have ih := row_setU xs p x u (by simpa using h)
    show ([Value.int .i64 y.1, .bool y.2] ++ nodK.row xs).set ((p + 1) * 2 + 1) (.bool u) = [Value.int .i64 y.1, .bool y.2] ++ nodK.row (xs.set p (x.1, u))
    rw [← ih, List.set_append_right _ _ (by simp; omega)]
    congr 2
    simp only [List.length_cons, List.length_nil]
    omega
theorem GR.setU {g c p : Nat} {x : Nd} {u : Bool} (h : GR nodK B (.slice (some ⟨g, 0, none⟩) n c) xs w) (hx : xs[p]? = some x) : GR nodK B (.slice (some ⟨g, 0, none⟩) n c) (xs.set p (x.1, u)) (w.setCell ⟨g, p * 2 + 1, none⟩ (.bool u)) := by
  have hp := (List.getElem?_eq_some_iff.1 hx).1
  rcases h.row.2 with ⟨h1, _⟩ | ⟨g', cap, cur, hv, hg, hh, hnc, hcm, hsz, htk⟩
  · cases h1
  · simp only [Value.slice.injEq, Option.some.injEq, Addr.mk.injEq, and_true] at hv
    obtain ⟨rfl, hn, rfl⟩ := hv
    refine ⟨⟨nodK.row_len _, .inr ⟨g, c, cur.setIfInBounds (p * 2 + 1) (.bool u), by rw [List.length_set, hn], hg, ?_, by rw [List.length_set]; exact hnc, hcm, by simpa using hsz, ?_⟩⟩⟩
    · simp [World.setCell, Array.getElem?_modify, hh]
    · rw [List.length_set, Array.toList_setIfInBounds, List.take_set, htk]
      exact row_setU xs p x u hx
theorem setU_one {l : List Nd} (hn : (ids l).Nodup) {p : Nat} {x : Nd} (hx : l[p]? = some x) (hi : x.1 = i) : setU i l = l.set p (x.1, true) := by
  induction l generalizing p with
  | nil => simp at hx
  | cons y l ih =>
    rw [ids, List.map_cons, List.nodup_cons] at hn
    cases p with
    | zero =>
      simp at hx; subst hx
      have e : setU i l = l := by
        unfold setU
        conv => rhs; rw [← List.map_id l]
        apply List.map_congr_left
        intro z hz
        rw [if_neg (fun e => hn.1 (by rw [hi, ← e]; exact List.mem_map.2 ⟨z, hz, rfl⟩))]
        rfl
      show (if y.1 = i then (i, true) else y) :: setU i l = _
      rw [if_pos hi, e, ← hi]; rfl
    | succ p =>
      have hx' : l[p]? = some x := by simpa using hx
      have hy : y.1 ≠ i := fun e => hn.1 (by rw [e, ← hi]; exact List.mem_map.2 ⟨x, List.mem_of_getElem? hx', rfl⟩)
      show (if y.1 = i then (i, true) else y) :: setU i l = _
      rw [if_neg hy, ih hn.2 hx']; rfl
theorem setU_no {l : List Nd} (h : i ∉ ids l) : setU i l = l := by
  unfold setU
  conv => rhs; rw [← List.map_id l]
  apply List.map_congr_left
  intro z hz
  rw [if_neg (fun e => h (by rw [← e]; exact List.mem_map.2 ⟨z, hz, rfl⟩))]
  rfl
theorem rs_nd (h : (rs R).Nd) (hk : k < 3) : (ids (R k)).Nodup := by
  unfold St.Nd rs St.all at h
  simp only [ids, List.map_append] at h ⊢
  rw [List.nodup_append, List.nodup_append] at h
  match k, hk with
  | 0, _ => exact h.1.1
  | 1, _ => exact h.1.2.1
  | 2, _ => exact h.2.1
theorem rs_ap (h : (rs R).Nd) (hj : j < 3) (hk : k < 3) (hjk : j ≠ k) (hi : i ∈ ids (R j)) : i ∉ ids (R k) := fun h2 => by
  unfold St.Nd rs St.all at h
  simp only [ids, List.map_append] at h hi h2
  rw [List.nodup_append, List.nodup_append] at h
  obtain ⟨⟨_, _, h01⟩, _, h2'⟩ := h
  match j, k, hj, hk with
  | 0, 1, _, _ => exact h01 i hi i h2 rfl
  | 0, 2, _, _ => exact h2' i (List.mem_append_left _ hi) i h2 rfl
  | 1, 0, _, _ => exact h01 i h2 i hi rfl
  | 1, 2, _, _ => exact h2' i (List.mem_append_right _ hi) i h2 rfl
  | 2, 0, _, _ => exact h2' i (List.mem_append_left _ h2) i hi rfl
  | 2, 1, _, _ => exact h2' i (List.mem_append_right _ h2) i hi rfl
  | 0, 0, _, _ => exact hjk rfl
  | 1, 1, _, _ => exact hjk rfl
  | 2, 2, _, _ => exact hjk rfl
theorem rs_eq {R' : Nat → List Nd} {s : St} (h0 : R' 0 = s.h) (h1 : R' 1 = s.w) (h2 : R' 2 = s.c) : rs R' = s := by
  obtain ⟨a, b, c⟩ := s
  unfold rs
  rw [h0, h1, h2]
theorem rs_tch (h : (rs R).Nd) (hk : k < 3) {p : Nat} {x : Nd} (hx : (R k)[p]? = some x) (hi : x.1 = i) : rs (upV R k ((R k).set p (x.1, true))) = tchS i (rs R) := by
  have e : ∀ j, j < 3 → upV R k ((R k).set p (x.1, true)) j = setU i (R j) := fun j hj => by
    by_cases hjk : j = k
    · subst hjk; rw [upV_same, setU_one (rs_nd h hj) hx hi]
    · rw [upV_other _ _ hjk, setU_no]
      exact rs_ap h hk hj (fun e => hjk e.symm) (by rw [← hi]; exact List.mem_map.2 ⟨x, List.mem_of_getElem? hx, rfl⟩)
  exact rs_eq (e 0 (by decide)) (e 1 (by decide)) (e 2 (by decide))
/-- One node is used. -/
theorem RfIn.touch (h : RfIn B w r V R) (hk : k < 3) {g c p : Nat} {x : Nd} (hv : V k = .slice (some ⟨g, 0, none⟩) n c) (hx : (R k)[p]? = some x) : RfIn B (w.setCell ⟨g, p * 2 + 1, none⟩ (.bool true)) r V (upV R k ((R k).set p (x.1, true))) ∧ Keep (fR r V) w (w.setCell ⟨g, p * 2 + 1, none⟩ (.bool true)) := by
  have gm : g ∈ ownB (V k) := by rw [hv]; simp [ownB, Value.ownBlock]
  have hG := h.row k hk
  refine ⟨⟨h.own.other (a := ⟨g, p * 2 + 1, none⟩) (fun e => h.off hk g gm e.symm) _, fun j hj => ?_, h.ap, h.lb⟩, (Keep.refl _ w).setCell (.inl (mem_fR.2 (.inr ⟨k, hk, gm⟩))) _⟩
  by_cases hjk : j = k
  · subst hjk
    rw [upV_same, hv]
    rw [hv] at hG
    exact hG.setU hx
  · rw [upV_other _ _ hjk]
    exact (h.row j hj).sameB (fun q hq => blk_setCell_other _ _ _ _ (fun e => h.ap j k hj hk hjk q hq (by rw [show q = g from e]; exact gm)))
theorem GR.wr {g c p : Nat} {x : Nd} (h : GR nodK B (.slice (some ⟨g, 0, none⟩) n c) xs w) (hx : xs[p]? = some x) : w.frozen? ⟨g, p * 2 + 1, none⟩ = false := by
  obtain ⟨cc, hc⟩ := h.ty g (by simp [ownB, Value.ownBlock])
  simp [World.frozen?, hc]
def TcP (B r : Nat) (s : St) (i : Int) (w : World) (e : Ending) (w' : World) : Prop := e = .returned (.bool (s.has i)) ∧ RfZ B r (tchS i s) w' ∧ OffR B w w'
set_option maxHeartbeats 4000000 in
theorem rtouch_any (hB : B ≤ w.heap.size) (h : RfIn B w r V R) (nd : (rs R).Nd) (i : Int) (hn : ∀ k, k < 3 → (R k).length ≤ 100000) : Calls Try.prog 17 #[.pointer (some ⟨r, 0, none⟩), .int .i64 i] w (TcP B r (rs R) i w) := by
  have cA := hide (rall_any w r)
  have hW := h.below (al_below w r)
  have HB := hide (al_below w r)
  have HC : Hid (∀ k, k < 3 → (w.drew.alloc (alO r)).cell? ⟨w.heap.size, k, none⟩ = some (.pointer (some ⟨r, k, none⟩))) := fun k hk => al_cell w r hk
  have HH := hide hW
  have HN := hide hn
  have HBB := hide hB
  have ND := hide nd
  clear h hW hn hB nd
  obtain ⟨N, hN⟩ : ∃ N, N = w.heap.size := ⟨_, rfl⟩
  rw [← hN] at cA HC
  clear hN
  obtain ⟨W, hW⟩ : ∃ W, W = w.drew.alloc (alO r) := ⟨_, rfl⟩
  rw [← hW] at cA HC HH HB
  clear hW
  go_enter Try.func17, Try.ntmps17
  go_wp2_with fail
  refine cA.out.mono ?_
  rintro e wx ⟨rfl, hx⟩
  obtain rfl : W = wx := hx.symm
  clear hx cA
  go_wp2
  go_loopg [6, 7, 8] 3 (fun kx s6 s7 s8 wr => ∃ (k : Nat), s6 = .int .i64 (k : Int) ∧ wr = W ∧ Hid (k ≤ 3 ∧ 3 - k ≤ kx ∧ ∀ j, j < k → i ∉ ids (R j)))
  case atStart => exact ⟨0, rfl, rfl, by decide, by decide, fun j hj => by omega⟩
  case round =>
    obtain ⟨k, rfl, rfl, I⟩ := hrel
    by_cases hk : k < 3
    · have hk2 : (k : Int) < 3 := by omega
      have k1 := HC.out k hk
      have k2 := HH.out.cell hk
      have hG := HH.out.row k hk
      have hn9 := HN.out k hk
      obtain ⟨va, vc, hv⟩ := hG.slice
      have HV := hide hv
      rw [hv] at k2 hG
      have HG := hide hG
      obtain ⟨n, hn⟩ : ∃ n, n = (R k).length := ⟨_, rfl⟩
      rw [← hn] at k2 HG hn9 HV
      have Hn := hide hn
      obtain ⟨k3, hk3⟩ : ∃ k3, k3 = k + 1 := ⟨_, rfl⟩
      have e3 : (k : Int) + 1 = (k3 : Int) := by omega
      have Hk3 := hide hk3
      have Hk := hide hk
      clear hv hG hn hk3
      obtain ⟨wo, hwo⟩ : ∃ wo, wo = wr := ⟨_, rfl⟩
      subst hwo
      go_wp2
      go_loopg [8] n (fun ky s8 wr => ∃ (p : Nat), s8 = .int .i64 (p : Int) ∧ wr = wo ∧ Hid (p ≤ n ∧ n - p ≤ ky ∧ i ∉ ids ((R k).take p)))
      case atStart => exact ⟨0, rfl, rfl, Nat.zero_le _, Nat.le_refl _, by simp [ids]⟩
      case round =>
        obtain ⟨p, rfl, rfl, J⟩ := hrel
        by_cases hp : p < n
        · have hp2 : (p : Int) < (n : Int) := by omega
          have gx := List.getElem?_eq_getElem (l := R k) (i := p) (by rw [← Hn.out]; exact hp)
          obtain ⟨x, hx⟩ : ∃ x, x = (R k)[p]'(by rw [← Hn.out]; exact hp) := ⟨_, rfl⟩
          rw [← hx] at gx
          obtain ⟨g, c, hv⟩ := HG.out.form (by have := Hn.out; omega)
          simp only [Value.slice.injEq] at hv
          obtain ⟨rfl, -, rfl⟩ := hv
          obtain ⟨x0, x1⟩ := HG.out.at0 gx
          have x2 := HG.out.wr gx
          have hst := ids_take_step gx
          obtain ⟨p1, hp1⟩ : ∃ p1, p1 = p + 1 := ⟨_, rfl⟩
          have e1 : (p : Int) + 1 = (p1 : Int) := by omega
          have Hp1 := hide hp1
          have Hp := hide hp
          by_cases hxi : x.1 = i
          · have HE : Hid (TcP B r (rs R) i w (.returned (.bool true)) (wr.setCell ⟨g, p * 2 + 1, none⟩ (.bool true))) := by
              obtain ⟨t1, t2⟩ := HH.out.touch hk HV.out gx
              have hi : (rs R).has i = true := has_in hk (by
                rw [← hxi]
                exact List.mem_map.2 ⟨x, List.mem_of_getElem? gx, rfl⟩)
              refine ⟨by rw [hi], ⟨Nat.le_trans HBB.out (Nat.le_trans HB.out.size t2.size), _, _, t1, rs_tch ND.out hk gx hxi⟩, (OffR.of_below HB.out HBB.out).trans (HH.out.offR (Nat.le_trans HBB.out HB.out.size) t2)⟩
            rw [hxi] at x0
            clear gx hx hst hp1 hxi J
            generalize x.2 = xu at *
            go_wp2
            go_ret
            exact HE.out
          · have hb : (x.1 == i) = false := by simpa using hxi
            have HJ : Hid (i ∉ ids ((R k).take p1)) := by
              rw [hp1, hst, List.mem_append, not_or]
              exact ⟨J.out.2.2, fun q => hxi (List.mem_singleton.1 q).symm⟩
            clear gx hx hst hp1 x1 x2
            generalize x.1 = xv at *
            go_wp2
            go_roundg (n - p1)
            case measure => have := J.out.2.1; have := Hp1.out; have := Hp.out; omega
            case rel => exact ⟨p1, rfl, rfl, by have := Hp1.out; have := Hp.out; omega, Nat.le_refl _, HJ.out⟩
        · have hp2 : ¬ (p : Int) < (n : Int) := by omega
          have HJ : Hid (∀ j, j < k3 → i ∉ ids (R j)) := fun j hj => by
            by_cases e : j = k
            · subst e
              have := J.out.2.2
              rw [List.take_of_length_le (by have := Hn.out; omega)] at this
              exact this
            · exact I.out.2.2 j (by have := Hk3.out; omega)
          clear hp J
          go_wp2
          go_roundg (3 - k3)
          case measure => have := I.out.2.1; have := Hk3.out; have := Hk.out; omega
          case rel => exact ⟨k3, rfl, rfl, by have := Hk3.out; have := Hk.out; omega, Nat.le_refl _, HJ.out⟩
    · have hk3 : k = 3 := by have := I.out.1; omega
      subst hk3
      have HE : Hid (TcP B r (rs R) i w (.returned (.bool false)) wr) := by
        have hi := has_no (R := R) (fun j hj => I.out.2.2 j hj)
        exact ⟨by rw [hi], ⟨Nat.le_trans HBB.out HB.out.size, V, R, HH.out, by rw [tch_same hi]⟩, OffR.of_below HB.out HBB.out⟩
      clear hk I
      go_wp2
      go_ret
      exact HE.out
end
end Go.Proofs.Ytgjgdhjnkbbceaa
