/- New. -/
import Derived.Test.YtdkiegkgnimapabDoorDc7
import Derived.Test.YtdkiegkgnimapabDoorZa
set_option linter.unusedVariables false
set_option linter.unusedSimpArgs false
set_option maxRecDepth 8000
namespace Go.Proofs.YtdkiegkgnimapabDoor
open Go.RowKit Go.Deep Drm Go.Shelf
open Sgg (I64 SM)
open Sgm (ids addS tchS rmvS evi eviS St0)
open Slb (Pg SlIn tkC tkE tkL frE frL ofI takI)
open Tbl (TM txt hsh)
open Tab (Tb fnd)
theorem enter23 (args : Array Value) (w : World) : (callFunc 18 args).run Tryd.prog w = .ok (.enter 18 args) w := enters_of Tryd.func18 (by kernel_rfl) rfl args w
theorem infoP : (Tryd.prog.info? 58).map (fun i => (i.zero, i.size, i.bytes)) = some (some (.pointer none), 1, 8) := by kernel_rfl
def ptrK : Kd Nat := ⟨54, 58, 1, fun b => [pV b], fun _ => rfl, Tryd.underlying54, .pointer none, 8, infoP, by decide, by decide, fun x u hu => by simp at hu; subst hu; rfl, rfl⟩
def NP (c f s m : Nat) (Ft : List Nat) (v : Value) (Fs : Nat → List Nat) : Nat → List Nat
  | 0 => [c]
  | 1 => [f, s]
  | 2 => Ft
  | 3 => ownB v
  | 4 => [m]
  | k + 5 => Fs k
/-- A cache that is being made: so many classes have their lists. -/
structure NI (N c f s t m n : Nat) (Ft : List Nat) (r : Nat) (va : Option Addr) (vc : Nat) (g : Nat → Nat) (Fs : Nat → List Nat) (W : World) : Prop where
  own : Blk W c [pV f, pV t, .slice va r vc, .map (some m)] 56
  sl : SlIn W f s (List.replicate n Slb.blank)
  tm : TM t (Tb.mk0 64) Ft W
  row : GR ptrK N (.slice va r vc) ((List.range r).map g) W
  mp : MapO W m 0 (fun _ => none)
  sgs : ∀ k, k < r → SM W (g k) St0 (Fs k)
  ap : ∀ i j, i < 5 + r → j < 5 + r → i ≠ j → ∀ x ∈ NP c f s m Ft (.slice va r vc) Fs i, x ∉ NP c f s m Ft (.slice va r vc) Fs j
  lo : ∀ i, i < 5 + r → ∀ x ∈ NP c f s m Ft (.slice va r vc) Fs i, N ≤ x
theorem ap_new {P P' : Nat → List Nat} {z K : Nat} (ap : ∀ i j, i < K → j < K → i ≠ j → ∀ x ∈ P i, x ∉ P j) (lt : ∀ i, i < K → ∀ x ∈ P i, x < z) (hf : ∀ x ∈ P' K, z ≤ x) (ho : ∀ j, j < K → P' j = P j) :
    ∀ i j, i < K + 1 → j < K + 1 → i ≠ j → ∀ x ∈ P' i, x ∉ P' j := by
  intro i j hi hj hne x hx hy
  by_cases e1 : i = K
  · subst e1
    rw [ho j (by omega)] at hy
    have := lt j (by omega) x hy
    have := hf x hx
    omega
  · rw [ho i (by omega)] at hx
    by_cases e2 : j = K
    · subst e2
      have := lt i (by omega) x hx
      have := hf x hy
      omega
    · rw [ho j (by omega)] at hy
      exact ap i j (by omega) (by omega) hne x hx hy
section
variable {N c f s t m n : Nat} {Ft : List Nat} {r : Nat} {va va2 : Option Addr} {vc vc2 : Nat} {g : Nat → Nat} {Fs : Nat → List Nat} {W W1 W2 : World}
theorem NI.lt (h : NI N c f s t m n Ft r va vc g Fs W) : ∀ i, i < 5 + r → ∀ x ∈ NP c f s m Ft (.slice va r vc) Fs i, x < W.heap.size := by
  intro i hi x hx
  match i, hi with
  | 0, _ => simp [NP] at hx; subst hx; exact h.own.lt
  | 1, _ =>
    simp [NP] at hx
    rcases hx with rfl | rfl
    · exact h.sl.own.lt
    · exact h.sl.row.lt
  | 2, _ => exact h.tm.lt x hx
  | 3, _ => exact (h.row.lt x hx).2
  | 4, _ => simp [NP] at hx; subst hx; exact h.mp.lt
  | k + 5, hk => exact (h.sgs k (by omega)).lt x hx
theorem NI.on (h : NI N c f s t m n Ft r va vc g Fs W) (b : Below W.heap.size W W1) : NI N c f s t m n Ft r va vc g Fs W1 := by
  have e : ∀ i, i < 5 + r → ∀ x ∈ NP c f s m Ft (.slice va r vc) Fs i, W1.heap[x]? = W.heap[x]? := fun i hi x hx => b.block x (h.lt i hi x hx)
  exact ⟨h.own.same (e 0 (by omega) c (by simp [NP])), h.sl.same (e 1 (by omega) f (by simp [NP])) (e 1 (by omega) s (by simp [NP])), h.tm.same (fun x hx => e 2 (by omega) x hx), h.row.sameB (fun x hx => e 3 (by omega) x hx),
    h.mp.same (e 4 (by omega) m (by simp [NP])), fun k hk => (h.sgs k hk).same (fun x hx => e (k + 5) (by omega) x hx), h.ap, h.lo⟩
/-- One class more. -/
theorem NI.step (h : NI N c f s t m n Ft r va vc g Fs W) (hN : N ≤ W.heap.size) (b1 : Below W.heap.size W W1) {g' : Nat} {F' : List Nat} (hs : SM W1 g' St0 F') (hF : ∀ x ∈ F', W.heap.size ≤ x)
    (hr : GR ptrK N (.slice va2 (r + 1) vc2) ((List.range r).map g ++ [g']) W2) (hk : Keep (ownB (.slice va r vc)) W1 W2) (ho : ∀ q ∈ ownB (.slice va2 (r + 1) vc2), q ∈ ownB (.slice va r vc) ∨ W1.heap.size ≤ q) :
    NI N c f s t m n Ft (r + 1) va2 vc2 (fun k => if k = r then g' else g k) (fun k => if k = r then F' else Fs k) (W2.setCell ⟨c, 2, none⟩ (.slice va2 (r + 1) vc2)) := by
  have l1 := (h.on b1)
  have hz1 := b1.size
  have hcs : ∀ x, x < W1.heap.size → x ∉ ownB (.slice va r vc) → x ≠ c → (W2.setCell ⟨c, 2, none⟩ (.slice va2 (r + 1) vc2)).heap[x]? = W1.heap[x]? := fun x h1 h2 h3 => (blk_setCell_other _ _ _ _ h3).trans (hk.block x h1 h2)
  have oc : c ∉ ownB (.slice va r vc) := h.ap 0 3 (by omega) (by omega) (by omega) c (by simp [NP])
  have hlt := h.lt
  have e : ∀ i, i < 5 + r → i ≠ 0 → i ≠ 3 → ∀ x ∈ NP c f s m Ft (.slice va r vc) Fs i, (W2.setCell ⟨c, 2, none⟩ (.slice va2 (r + 1) vc2)).heap[x]? = W1.heap[x]? := fun i hi h0 h3 x hx =>
    hcs x (by have := hlt i hi x hx; omega) (h.ap i 3 hi (by omega) h3 x hx) (fun ec => h.ap i 0 hi (by omega) h0 x hx (by rw [ec]; simp [NP]))
  have hFc : ∀ x ∈ F', x ≠ c ∧ x ∉ ownB (.slice va r vc) := fun x hx => by
    have := hF x hx
    have h1 := hlt 0 (by omega) c (by simp [NP])
    refine ⟨by omega, fun hy => ?_⟩
    have := hlt 3 (by omega) x hy
    omega
  have hc1 : c < W.heap.size := hlt 0 (by omega) c (by simp [NP])
  have ap1 : ∀ i j, i < 5 + r + 1 → j < 5 + r + 1 → i ≠ j → ∀ x ∈ NP c f s m Ft (.slice va r vc) (fun k => if k = r then F' else Fs k) i, x ∉ NP c f s m Ft (.slice va r vc) (fun k => if k = r then F' else Fs k) j := by
    refine ap_new (P := NP c f s m Ft (.slice va r vc) Fs) (z := W.heap.size) h.ap hlt (fun x hx => ?_) (fun j hj => ?_)
    · rw [show 5 + r = r + 5 by omega] at hx
      have hx2 : x ∈ (if r = r then F' else Fs r) := hx
      rw [if_pos rfl] at hx2
      exact hF x hx2
    · match j, hj with
      | 0, _ => rfl
      | 1, _ => rfl
      | 2, _ => rfl
      | 3, _ => rfl
      | 4, _ => rfl
      | q + 5, hj =>
        show (if q = r then F' else Fs q) = Fs q
        rw [if_neg (by omega)]
  have lt1 : ∀ i, i < 5 + r + 1 → ∀ x ∈ NP c f s m Ft (.slice va r vc) (fun k => if k = r then F' else Fs k) i, x < W1.heap.size := fun i hi x hx => by
    by_cases ei : i = r + 5
    · subst ei
      have hx2 : x ∈ (if r = r then F' else Fs r) := hx
      rw [if_pos rfl] at hx2
      exact hs.lt x hx2
    · refine l1.lt i (by omega) x ?_
      match i, ei with
      | 0, _ => exact hx
      | 1, _ => exact hx
      | 2, _ => exact hx
      | 3, _ => exact hx
      | 4, _ => exact hx
      | q + 5, ei =>
        have hx2 : x ∈ (if q = r then F' else Fs q) := hx
        rw [if_neg (by omega)] at hx2
        exact hx2
  refine ⟨?_, l1.sl.same (e 1 (by omega) (by omega) (by omega) f (by simp [NP])) (e 1 (by omega) (by omega) (by omega) s (by simp [NP])), l1.tm.same (fun x hx => e 2 (by omega) (by omega) (by omega) x hx), ?_, l1.mp.same (e 4 (by omega) (by omega) (by omega) m (by simp [NP])), fun k hk6 => ?_, ?_, fun i hi x hx => ?_⟩
  · have h1 : Blk W2 c [pV f, pV t, .slice va r vc, .map (some m)] 56 := l1.own.same (hk.block c (by omega) oc)
    exact h1.set 2 _
  · rw [List.range_succ, List.map_append]
    have e2 : (List.range r).map (fun k => if k = r then g' else g k) = (List.range r).map g := List.map_congr_left (fun k hk => by rw [if_neg (by have := List.mem_range.1 hk; omega)])
    rw [e2, List.map_singleton, if_pos rfl]
    refine hr.sameB (fun x hx => blk_setCell_other _ _ _ _ (fun ec => ?_))
    rcases ho x hx with h1 | h1
    · have ec2 : x = c := ec
      exact oc (by rw [← ec2]; exact h1)
    · have : x = c := ec
      omega
  · show SM _ (if k = r then g' else g k) St0 (if k = r then F' else Fs k)
    by_cases ek : k = r
    · rw [if_pos ek, if_pos ek]
      exact hs.same (fun x hx => hcs x (hs.lt x hx) (hFc x hx).2 (hFc x hx).1)
    · rw [if_neg ek, if_neg ek]
      exact (l1.sgs k (by omega)).same (fun x hx => e (k + 5) (by omega) (by omega) (by omega) x hx)
  · rw [show 5 + (r + 1) = 5 + r + 1 by omega]
    refine ap_upd (P := NP c f s m Ft (.slice va r vc) (fun k => if k = r then F' else Fs k)) (z := W1.heap.size) ap1 lt1 (i := 3) (by omega) (fun x hx => ho x hx) (fun j hj => ?_)
    match j, hj with
    | 0, _ => rfl
    | 1, _ => rfl
    | 2, _ => rfl
    | 3, hj => exact absurd rfl hj
    | 4, _ => rfl
    | q + 5, _ => rfl
  · match i, hi with
    | 0, _ => exact h.lo 0 (by omega) x hx
    | 1, _ => exact h.lo 1 (by omega) x hx
    | 2, _ => exact h.lo 2 (by omega) x hx
    | 3, _ => exact (hr.lt x hx).1
    | 4, _ => exact h.lo 4 (by omega) x hx
    | q + 5, hi =>
      have hx2 : x ∈ (if q = r then F' else Fs q) := hx
      by_cases eq : q = r
      · rw [if_pos eq] at hx2
        exact Nat.le_trans hN (hF x hx2)
      · rw [if_neg eq] at hx2
        exact h.lo (q + 5) (by omega) x hx2
/-- All six classes have their lists: a new cache. -/
theorem NI.done {w0 : World} (h : NI N c f s t m n Ft 6 va vc g Fs W) (hN : w0.heap.size ≤ N) (b : Below w0.heap.size w0 W) (ht : Slb.Tab w0) (h1 : 1 ≤ n) (h2 : n ≤ 1024) : DL w0 c (new0 n) W := by
  rcases h.row.row.2 with ⟨h3, h4⟩ | ⟨gb, cap, cur, hv, hgb, hcur, p1, p2, p3, p4⟩
  · simp at h4
  · simp only [Value.slice.injEq] at hv
    obtain ⟨rfl, -, rfl⟩ := hv
    have e4 : cur.toList = rowL g (cur.toList.drop 6) := by
      have h5 := List.take_append_drop 6 cur.toList
      have h6 : cur.toList.take 6 = [pV (g 0), pV (g 1), pV (g 2), pV (g 3), pV (g 4), pV (g 5)] := by
        have : (((List.range 6).map g).length * ptrK.sz) = 6 := by simp [ptrK]
        rw [this] at p4
        rw [p4]
        rfl
      rw [h6] at h5
      exact h5.symm
    have hob : ownB (.slice (some ⟨gb, 0, none⟩) 6 vc) = [gb] := rfl
    have hP : ∀ i, i < 11 → (Ad.mk f s t gb m g (Tb.mk0 64) Ft Fs vc (cur.toList.drop 6)).P c i = NP c f s m Ft (.slice (some ⟨gb, 0, none⟩) 6 vc) Fs i := fun i hi => by
      match i, hi with
      | 0, _ => rfl
      | 1, _ => rfl
      | 2, _ => rfl
      | 3, _ => rw [show NP c f s m Ft (.slice (some ⟨gb, 0, none⟩) 6 vc) Fs 3 = ownB (.slice (some ⟨gb, 0, none⟩) 6 vc) from rfl, hob]; rfl
      | 4, _ => rfl
      | k + 5, _ => rfl
    refine ⟨⟨Ad.mk f s t gb m g (Tb.mk0 64) Ft Fs vc (cur.toList.drop 6), ⟨⟨h.own, h.sl, h.tm, ?_, h.mp, fun k hk => h.sgs k hk, fun i j hi hj hne x hx => ?_⟩, fun i hi x hx => ?_, b, ht⟩, fun k => ?_, ?_⟩, Iv.new n h1 h2⟩
    · show W.heap[gb]? = some (.cells (rowL g (cur.toList.drop 6)).toArray 58 (0, 0))
      rw [← e4]
      exact hcur
    · rw [hP i hi] at hx
      rw [hP j hj]
      exact h.ap i j (by omega) (by omega) hne x hx
    · rw [hP i hi] at hx
      exact Nat.le_trans hN (h.lo i (by omega) x hx)
    · show fnd k (Tb.mk0 64).all = kfd k []
      rw [Tab.mk0_all]
      rfl
    · show (Tb.mk0 64).all.length = 0
      rw [Tab.mk0_all]
      rfl
/-- What New's round knows while it goes on. -/
def Q1 (A : World) (g' : Nat) (W : World) : Prop := Below A.heap.size A W ∧ W.heap.size = A.heap.size + 2 ∧ ∃ F', SM W g' St0 F' ∧ ∀ x ∈ F', A.heap.size ≤ x
def Q3 (N : Nat) (A : World) (g' : Nat) (gs : List Nat) (v : Value) (r : Nat) (u : Value) (W : World) : Prop := ∃ W1 va2 vc2, u = .slice va2 (r + 1) vc2 ∧ Q1 A g' W1 ∧ GR ptrK N (.slice va2 (r + 1) vc2) (gs ++ [g']) W ∧ Keep (ownB v) W1 W ∧ ∀ q ∈ ownB (.slice va2 (r + 1) vc2), q ∈ ownB v ∨ W1.heap.size ≤ q
def NC (N c : Nat) (A : World) (g' : Nat) (gs : List Nat) (v : Value) (r : Nat) (n : Nat) (u : Value) (W : World) : Prop := match n with
  | 0 => W = A
  | 1 => Q1 A g' W
  | 2 => ∃ W1, Q1 A g' W1 ∧ W = W1.alloc (.cells #[pV g'] 58)
  | 3 => Q3 N A g' gs v r u W
  | _ => ∃ W2, Q3 N A g' gs v r u W2 ∧ W = W2.setCell ⟨c, 2, none⟩ u
theorem new_bad (n : Int) (w : World) (h : n < 1 ∨ 1024 < n) : Calls Tryd.prog 5 #[.int .i64 n] w fun e w' => e = .returned (.tuple #[.pointer none, .int .i64 1]) ∧ w' = w := by
  have cS := hide (Slb.new_bad n w h)
  clear h
  go_enter Tryd.func5, Tryd.ntmps5
  go_wp2_with fail
  refine cS.out.mono ?_
  rintro e wx ⟨rfl, hx⟩
  obtain rfl : w = wx := hx.symm
  clear hx cS
  go_wp2
  exact bodyPost_ret (v := .tuple #[.pointer none, .int .i64 1]) (by simp [results, Tryd.results5, go_sem]) rfl ⟨rfl, rfl⟩
def NewQ (w0 : World) (n : Nat) (w : World) (e : Ending) (w' : World) : Prop := ∃ c, e = .returned (.tuple #[.pointer (some ⟨c, 0, none⟩), .int .i64 0]) ∧ DL w0 c (new0 n) w' ∧ Below w.heap.size w w' ∧ w.heap.size ≤ c
set_option maxHeartbeats 4000000 in
theorem new_d {w0 w : World} (b : Below w0.heap.size w0 w) (ht : Slb.Tab w0) (n : Nat) (h1 : 1 ≤ n) (h2 : n ≤ 1024) : Calls Tryd.prog 5 #[.int .i64 (n : Int)] w (NewQ w0 n w) := by
  have cS := hide (Slb.new_ok n w h1 h2)
  have HB := hide (And.intro b (And.intro ht (And.intro h1 h2)))
  obtain ⟨f, hf⟩ : ∃ f, f = w.heap.size + 1 := ⟨_, rfl⟩
  rw [← hf] at cS
  have HF := hide hf
  clear b ht h1 h2 hf
  go_enter Tryd.func5, Tryd.ntmps5
  go_wp2_with fail
  refine cS.out.mono ?_
  rintro e W1 ⟨rfl, s1, b1⟩
  have cT := hide (Tbl.new_any 64 W1 rfl)
  obtain ⟨t, htt⟩ : ∃ t, t = W1.heap.size + 1 := ⟨_, rfl⟩
  rw [← htt] at cT
  have HTT := hide htt
  have S1 := hide (And.intro s1 b1)
  clear cS s1 b1 htt
  go_wp2_with fail
  refine cT.out.mono ?_
  rintro e W2 ⟨rfl, t2, b2⟩
  have hmk : (Instr.makeMap 53 none).run Tryd.prog W2 = .ok (.map (some W2.heap.size)) (W2.alloc (.map #[] 0)) := run_makeMap 53 W2
  obtain ⟨W3, hW3⟩ : ∃ W3, W3 = (W2.alloc (.map #[] 0)).alloc (.cells #[.pointer (some ⟨f, 0, none⟩), .pointer (some ⟨t, 0, none⟩), .slice none 0 0, .map (some W2.heap.size)] 56) := ⟨_, rfl⟩
  obtain ⟨c, hc⟩ : ∃ c, c = W2.heap.size + 1 := ⟨_, rfl⟩
  have b3 : Below W2.heap.size W2 W3 := by rw [hW3]; exact ((Below.refl _ W2).alloc (Nat.le_refl _) _).alloc (by simp) _
  have hI : NI w.heap.size c f w.heap.size t W2.heap.size n [t, W1.heap.size] 0 none 0 (fun _ => 0) (fun _ => []) W3 := by
    have z1 := S1.out.2.size
    have z2 := b2.size
    have hf := HF.out
    have htt := HTT.out
    have sl2 := S1.out.1.below b2
    refine ⟨?_, sl2.below b3, t2.below b3, GR.nil _ _ _, ?_, fun k hk => absurd hk (by omega), fun i j hi hj hne x hx hy => ?_, fun i hi x hx => ?_⟩
    · rw [hW3, hc]
      have := Blk.new (W2.alloc (.map #[] 0)) [.pointer (some ⟨f, 0, none⟩), .pointer (some ⟨t, 0, none⟩), .slice none 0 0, .map (some W2.heap.size)] 56
      rw [World.size_alloc] at this
      exact this
    · refine ⟨.map [], ?_, HasO.empty, rfl⟩
      rw [hW3]
      exact (World.ownsMap_made W2 Tryd.prog 3 ouElem).alloc _
    · have q1 := S1.out.1.own.lt
      have q2 := t2.lt t (by simp)
      have q3 := t2.lt W1.heap.size (by simp)
      match i, hi, j, hj with
      | 0, _, 1, _ => simp [NP] at hx hy; omega
      | 0, _, 2, _ => simp [NP] at hx hy; omega
      | 0, _, 3, _ => simp [NP, ownB, Value.ownBlock] at hy
      | 0, _, 4, _ => simp [NP] at hx hy; omega
      | 1, _, 0, _ => simp [NP] at hx hy; omega
      | 1, _, 2, _ => simp [NP] at hx hy; omega
      | 1, _, 3, _ => simp [NP, ownB, Value.ownBlock] at hy
      | 1, _, 4, _ => simp [NP] at hx hy; omega
      | 2, _, 0, _ => simp [NP] at hx hy; omega
      | 2, _, 1, _ => simp [NP] at hx hy; omega
      | 2, _, 3, _ => simp [NP, ownB, Value.ownBlock] at hy
      | 2, _, 4, _ => simp [NP] at hx hy; omega
      | 3, _, _, _ => simp [NP, ownB, Value.ownBlock] at hx
      | 4, _, 0, _ => simp [NP] at hx hy; omega
      | 4, _, 1, _ => simp [NP] at hx hy; omega
      | 4, _, 2, _ => simp [NP] at hx hy; omega
      | 4, _, 3, _ => simp [NP, ownB, Value.ownBlock] at hy
      | 0, _, 0, _ => exact hne rfl
      | 1, _, 1, _ => exact hne rfl
      | 2, _, 2, _ => exact hne rfl
      | 4, _, 4, _ => exact hne rfl
    · match i, hi with
      | 0, _ => simp [NP] at hx; omega
      | 1, _ => simp [NP] at hx; omega
      | 2, _ => simp [NP] at hx; omega
      | 3, _ => simp [NP, ownB, Value.ownBlock] at hx
      | 4, _ => simp [NP] at hx; omega
  have HB3 : Hid (Below w.heap.size w W3) := S1.out.2.trans ((b2.trans (b3.mono b2.size)).mono S1.out.2.size)
  have HCZ : Hid (w.heap.size ≤ c) := by
    have z1 := S1.out.2.size
    have z2 := b2.size
    show _ ≤ _
    omega
  have HI := hide hI
  have HW3 := hide hW3
  have HC := hide hc
  clear cT t2 b2 b3 hI hW3 hc
  go_wp2
  rw [← HW3.out, ← HC.out]
  clear hmk
  generalize W2.heap.size = m at *
  go_loopg [8] 7 (fun kx s8 wr => ∃ (r : Nat), s8 = .int .i64 (r : Int) ∧ Hid (r ≤ 6 ∧ 6 - r < kx ∧ (∃ va vc g Fs, NI w.heap.size c f w.heap.size t m n [t, W1.heap.size] r va vc g Fs wr) ∧ Below w.heap.size w wr))
  case atStart => exact ⟨0, rfl, by decide, by decide, ⟨_, _, _, _, HI.out⟩, HB3.out⟩
  case round =>
    obtain ⟨r, rfl, I⟩ := hrel
    obtain ⟨i1, i2, ⟨va, vc, g, Fs, hI⟩, i4⟩ := I.out
    by_cases hlt : r < 6
    · have cC := hide (Slb.chunk_ok r hlt wr)
      have hpos : (0 : Int) < ((64 * 2 ^ r : Nat) : Int) := by
        have := Nat.two_pow_pos r
        omega
      generalize ((64 * 2 ^ r : Nat) : Int) = ck at *
      obtain ⟨A, hA⟩ : ∃ A, A = { wr with drawn := wr.drawn + 1 } := ⟨_, rfl⟩
      obtain ⟨g', hg'⟩ : ∃ g', g' = wr.heap.size + 1 := ⟨_, rfl⟩
      obtain ⟨z2, hz2⟩ : ∃ z2, z2 = wr.heap.size + 2 := ⟨_, rfl⟩
      have bA : Below wr.heap.size wr A := by rw [hA]; exact ⟨rfl, rfl, rfl, Nat.le_refl _, fun _ _ => rfl⟩
      have hzA : A.heap.size = wr.heap.size := by rw [hA]
      have IA := hI.on bA
      have HCL : Hid (Calls Tryd.prog 18 #[] A fun e W' => e = .returned (.pointer (some ⟨g', 0, none⟩)) ∧ Q1 A g' W') := by
        refine (Sgg.new_m A).mono ?_
        rintro e W' ⟨F, rfl, a1, a2, a3, a4⟩
        rw [hzA, ← hg'] at a1 ⊢
        exact ⟨rfl, a2, a4, F, a1, a3⟩
      have HQZ : Hid (∀ W', Q1 A g' W' → W'.heap.size = z2) := fun W' q => by rw [q.2.1, hzA, hz2]
      have HF4 : Hid (∀ (sx : Nat) (u : Value) (W' : World), sx ≤ 2 → NC w.heap.size c A g' ((List.range r).map g) (.slice va r vc) r sx u W' → W'.cell? ⟨c, 2, none⟩ = some (.slice va r vc)) := fun sx u W' hs hc => by
        match sx, hs with
        | 0, _ =>
          have hw : W' = A := hc
          rw [hw]
          exact IA.own.cell rfl
        | 1, _ => exact (IA.on (show Q1 A g' W' from hc).1).own.cell rfl
        | 2, _ =>
          obtain ⟨V1, q1, rfl⟩ := hc
          exact ((IA.on q1.1).own.alloc _).cell rfl
      have HAP : Hid (∀ W', Q1 A g' W' → ∃ va2 vc2 X, (∀ ty, (Builtin.append_ #[54, 54] ty #[.slice va r vc, .slice (some ⟨z2, 0, none⟩) 1 1]).run Tryd.prog (W'.alloc (.cells #[pV g'] 58)) = .ok (.slice va2 (r + 1) vc2) X) ∧ Q3 w.heap.size A g' ((List.range r).map g) (.slice va r vc) r (.slice va2 (r + 1) vc2) X) := fun W' q => by
        obtain ⟨va2, vc2, X, hrun, hS, hK, hO⟩ := snoc_g ((IA.on q.1).row) (by have := q.1.size; have := i4.size; omega) g' (by simp; omega)
        have hl : ((List.range r).map g).length = r := by simp
        rw [hl] at hrun hS hO
        rw [HQZ.out W' q] at hrun
        exact ⟨va2, vc2, X, hrun, W', va2, vc2, rfl, q, hS, hK, hO⟩
      have HQ3 : Hid (∀ u W', Q3 w.heap.size A g' ((List.range r).map g) (.slice va r vc) r u W' → (∃ a2 c2, u = .slice a2 (r + 1) c2) ∧ W'.frozen? ⟨c, 2, none⟩ = false ∧ ∃ x, W'.cell? ⟨c, 2, none⟩ = some x) := fun u W' ⟨V1, va2, vc2, hu, q1, q2, q3, q4⟩ => by
        have ow := (IA.on q1.1).own
        have oc : c ∉ ownB (.slice va r vc) := IA.ap 0 3 (by omega) (by omega) (by omega) c (by simp [NP])
        have ow2 := ow.same (q3.block c ow.lt oc)
        exact ⟨⟨va2, vc2, hu⟩, ow2.frozen 2, _, ow2.cell rfl⟩
      have HNX : Hid (∀ u W', NC w.heap.size c A g' ((List.range r).map g) (.slice va r vc) r 4 u W' → (∃ va vc g Fs, NI w.heap.size c f w.heap.size t m n [t, W1.heap.size] (r + 1) va vc g Fs W') ∧ Below w.heap.size w W') := fun u W' ⟨V2, ⟨V1, va2, vc2, hu, ⟨q1, q2, F', q5, q6⟩, q7, q8, q9⟩, hw⟩ => by
        subst hu
        rw [hw]
        refine ⟨⟨va2, vc2, _, _, IA.step (by have := i4.size; omega) q1 q5 q6 q7 q8 q9⟩, ?_⟩
        have b1 : Below w.heap.size w A := i4.trans (bA.mono i4.size)
        have b2 : Below w.heap.size w V1 := b1.trans (q1.mono b1.size)
        have b3 : Below w.heap.size w V2 := b2.trans (q8.below (fun x hx => ((IA.row).lt x hx).1) b2.size)
        exact b3.setCell HCZ.out _
      have HA : Hid (NC w.heap.size c A g' ((List.range r).map g) (.slice va r vc) r 0 undef { wr with drawn := wr.drawn + 1 }) := by
        show _ = A
        rw [hA]
      have HR6 := hide hlt
      have HI2 := hide i2
      have hlt9 : (r : Int) < 6 := by omega
      generalize (List.range r).map g = gs at *
      clear hI i1 i2 i4 hlt hA bA hzA IA I hg' hz2 HI
      go_wp2_with fail
      refine cC.out.mono ?_
      rintro e wx ⟨rfl, hx⟩
      obtain rfl : wr = wx := hx.symm
      clear hx cC
      go_wp2
      refine wp_region_cq (by kernel_rfl) (by kernel_rfl) (fun u jx => ([.pointer (some ⟨c, 0, none⟩), .pointer (some ⟨c, 0, none⟩), .pointer (some ⟨c, 0, none⟩), .pointer (some ⟨c, 2, none⟩), .slice va r vc, .pointer (some ⟨g', 0, none⟩), .slice (some ⟨z2, 0, none⟩) 1 1, u, .pointer (some ⟨c, 0, none⟩), .pointer (some ⟨c, 2, none⟩), undef] : List Value).getD jx undef) 7 2 [5, 6, 7, 10] [10] (by kernel_rfl) (by kernel_rfl) rfl (fun _ => rfl) (fun v v' jx h1 h2 => by match jx with | 0 => rfl | 1 => rfl | 2 => rfl | 3 => rfl | 4 => rfl | 5 => rfl | 6 => rfl | 7 => exact absurd rfl h2 | 8 => rfl | 9 => rfl | 10 => exact absurd (by decide) h1 | _ + 11 => rfl) (NC w.heap.size c A g' gs (.slice va r vc) r) (HA.out) ?_ ?_
      · intro jx ox hi sx u w' ev hlm hks hdp hc hin hout hcst hfn
        have hltx : jx < 11 := by
          have := (Array.getElem?_eq_some_iff.1 hi).1
          simpa using this
        match jx, hltx with
        | 0, _ =>
          simp only [List.getElem?_toArray, List.getElem?_cons_zero, List.getElem?_cons_succ, Option.some.injEq] at hi
          subst hi
          have e0 : ev (.tmp 7) = .pointer (some ⟨c, 0, none⟩) := hout 7 (by kernel_rfl) (show (7 : Nat) < 45 by decide)
          refine .inl ⟨.pointer (some ⟨c, 0, none⟩), w', ?_, by show ite _ _ _; rw [if_neg (by decide), if_neg (by decide)]; exact ⟨rfl, hc⟩⟩
          simp [execOp, e0, hcst, go_sem]
        | 1, _ =>
          simp only [List.getElem?_toArray, List.getElem?_cons_zero, List.getElem?_cons_succ, Option.some.injEq] at hi
          subst hi
          have e0 : ev (.tmp 7) = .pointer (some ⟨c, 0, none⟩) := hout 7 (by kernel_rfl) (show (7 : Nat) < 45 by decide)
          refine .inl ⟨.pointer (some ⟨c, 0, none⟩), w', ?_, by show ite _ _ _; rw [if_neg (by decide), if_neg (by decide)]; exact ⟨rfl, hc⟩⟩
          simp [execOp, e0, hcst, go_sem]
        | 2, _ =>
          simp only [List.getElem?_toArray, List.getElem?_cons_zero, List.getElem?_cons_succ, Option.some.injEq] at hi
          subst hi
          have e0 : ev (.tmp 35) = .pointer (some ⟨c, 0, none⟩) := hin 35 1 ⟨1, .data⟩ (by kernel_rfl) (by simp) rfl rfl (show (35 : Nat) < 45 by decide)
          refine .inl ⟨.pointer (some ⟨c, 0, none⟩), w', ?_, by show ite _ _ _; rw [if_neg (by decide), if_neg (by decide)]; exact ⟨rfl, hc⟩⟩
          simp [execOp, e0, hcst, go_sem]
        | 3, _ =>
          simp only [List.getElem?_toArray, List.getElem?_cons_zero, List.getElem?_cons_succ, Option.some.injEq] at hi
          subst hi
          have e0 : ev (.tmp 36) = .pointer (some ⟨c, 0, none⟩) := hin 36 2 ⟨2, .data⟩ (by kernel_rfl) (by simp) rfl rfl (show (36 : Nat) < 45 by decide)
          refine .inl ⟨.pointer (some ⟨c, 2, none⟩), w', ?_, by show ite _ _ _; rw [if_neg (by decide), if_neg (by decide)]; exact ⟨rfl, hc⟩⟩
          simp [execOp, e0, hcst, go_sem]
        | 4, _ =>
          simp only [List.getElem?_toArray, List.getElem?_cons_zero, List.getElem?_cons_succ, Option.some.injEq] at hi
          subst hi
          have e0 : ev (.tmp 37) = .pointer (some ⟨c, 2, none⟩) := hin 37 3 ⟨3, .data⟩ (by kernel_rfl) (by simp) rfl rfl (show (37 : Nat) < 45 by decide)
          refine .inl ⟨.slice va r vc, w', ?_, by show ite _ _ _; rw [if_neg (by decide), if_neg (by decide)]; exact ⟨rfl, hc⟩⟩
          have hl2 : sx ≤ 2 := Nat.le_trans hlm (Nat.le_of_eq (by kernel_rfl))
          have q := HF4.out sx u w' (by omega) hc
          simp [execOp, e0, hcst, go_sem, q]
        | 5, _ =>
          simp only [List.getElem?_toArray, List.getElem?_cons_zero, List.getElem?_cons_succ, Option.some.injEq] at hi
          subst hi
          have hsx : sx = 0 := hks 0 rfl
          subst hsx
          have hw : w' = A := hc
          subst hw
          refine .inr (.inr ⟨18, #[], ?_, ?_⟩)
          · have ef := hfn 18
            simp [execOp, resolve, invoke, ef, hcst, Result.andThen]
            exact enter23 _ _
          · refine HCL.out.mono ?_
            rintro e w2 ⟨rfl, q⟩
            exact ⟨_, rfl, by show ite _ _ _; rw [if_neg (by decide), if_pos (by decide)]; exact ⟨rfl, q⟩⟩
        | 6, _ =>
          simp only [List.getElem?_toArray, List.getElem?_cons_zero, List.getElem?_cons_succ, Option.some.injEq] at hi
          subst hi
          have e0 : ev (.tmp 39) = .pointer (some ⟨g', 0, none⟩) := hin 39 5 ⟨5, .data⟩ (by kernel_rfl) (by simp) rfl rfl (show (39 : Nat) < 45 by decide)
          have hsx : sx = 1 := hks 1 rfl
          subst hsx
          have hq : Q1 A g' w' := hc
          have hz := HQZ.out w' hq
          refine .inl ⟨.slice (some ⟨z2, 0, none⟩) 1 1, w'.alloc (.cells #[pV g'] 58), ?_, by show ite _ _ _; rw [if_neg (by decide), if_pos (by decide)]; exact ⟨rfl, w', hq, rfl⟩⟩
          simp [execOp, e0, hcst, go_sem, pV, hz]
        | 7, _ =>
          simp only [List.getElem?_toArray, List.getElem?_cons_zero, List.getElem?_cons_succ, Option.some.injEq] at hi
          subst hi
          have e0 : ev (.tmp 38) = .slice va r vc := hin 38 4 ⟨4, .data⟩ (by kernel_rfl) (by simp) rfl rfl (show (38 : Nat) < 45 by decide)
          have e1 : ev (.tmp 40) = .slice (some ⟨z2, 0, none⟩) 1 1 := hin 40 6 ⟨6, .data⟩ (by kernel_rfl) (by simp) rfl rfl (show (40 : Nat) < 45 by decide)
          have hsx : sx = 2 := hks 2 rfl
          subst hsx
          obtain ⟨V1, hq, rfl⟩ := hc
          obtain ⟨va2, vc2, X, hrun, hX⟩ := HAP.out V1 hq
          refine .inl ⟨.slice va2 (r + 1) vc2, X, ?_, by show ite _ _ _; rw [if_pos rfl]; exact hX⟩
          simp [execOp, e0, e1, hcst, resolve, invoke, builtin, Result.andThen, hrun]
        | 8, _ =>
          simp only [List.getElem?_toArray, List.getElem?_cons_zero, List.getElem?_cons_succ, Option.some.injEq] at hi
          subst hi
          have e0 : ev (.tmp 34) = .pointer (some ⟨c, 0, none⟩) := hin 34 0 ⟨0, .data⟩ (by kernel_rfl) (by simp) rfl rfl (show (34 : Nat) < 45 by decide)
          refine .inl ⟨.pointer (some ⟨c, 0, none⟩), w', ?_, by show ite _ _ _; rw [if_neg (by decide), if_neg (by decide)]; exact ⟨rfl, hc⟩⟩
          simp [execOp, e0, hcst, go_sem]
        | 9, _ =>
          simp only [List.getElem?_toArray, List.getElem?_cons_zero, List.getElem?_cons_succ, Option.some.injEq] at hi
          subst hi
          have e0 : ev (.tmp 42) = .pointer (some ⟨c, 0, none⟩) := hin 42 8 ⟨8, .data⟩ (by kernel_rfl) (by simp) rfl rfl (show (42 : Nat) < 45 by decide)
          refine .inl ⟨.pointer (some ⟨c, 2, none⟩), w', ?_, by show ite _ _ _; rw [if_neg (by decide), if_neg (by decide)]; exact ⟨rfl, hc⟩⟩
          simp [execOp, e0, hcst, go_sem]
        | 10, _ =>
          simp only [List.getElem?_toArray, List.getElem?_cons_zero, List.getElem?_cons_succ, Option.some.injEq] at hi
          subst hi
          have e0 : ev (.tmp 43) = .pointer (some ⟨c, 2, none⟩) := hin 43 9 ⟨9, .data⟩ (by kernel_rfl) (by simp) rfl rfl (show (43 : Nat) < 45 by decide)
          have e1 : ev (.tmp 41) = u := hin 41 7 ⟨7, .data⟩ (by kernel_rfl) (by simp) rfl rfl (show (41 : Nat) < 45 by decide)
          have hd : 2 < sx := hdp (by decide)
          have hsx : sx = 3 := hks 3 rfl
          subst hsx
          obtain ⟨⟨a2, c2, hu⟩, hfz, x, hx⟩ := HQ3.out u w' hc
          refine .inr (.inl ⟨w'.setCell ⟨c, 2, none⟩ u, ?_, by show ite _ _ _; rw [if_neg (by decide), if_pos (by decide)]; exact ⟨rfl, w', hc, rfl⟩⟩)
          subst hu
          simp [execOp, e0, e1, hcst, go_sem, hfz, hx, Result.andThen]
      · intro u w9 hc
        simp only [lexF, Act.put, List.setIfInBounds_toArray, List.set_cons_succ, List.set_cons_zero, List.getD_cons_succ, List.getD_cons_zero]
        have hc4 : NC w.heap.size c A g' gs (.slice va r vc) r 4 u w9 := hc
        have HN := hide (HNX.out u w9 hc4)
        clear hc4 HNX HQ3 HAP HF4 HQZ HCL HA
        go_wp2
        go_roundg (gk - 1)
        case measure => have := HI2.out; omega
        case rel => exact ⟨r + 1, rfl, by have := HR6.out; omega, by have := HI2.out; have := HR6.out; omega, HN.out⟩
    · obtain rfl : r = 6 := by omega
      have cC := hide (Slb.chunk_bad 6 (by decide) wr)
      have HE : Hid (NewQ w0 n w (.returned (.tuple #[.pointer (some ⟨c, 0, none⟩), .int .i64 0])) wr) := by
        obtain ⟨hb, ht, h1, h2⟩ := HB.out
        exact ⟨c, rfl, hI.done (w0 := w0) hb.size (hb.trans (i4.mono hb.size)) ht h1 h2, i4, HCZ.out⟩
      clear hI i1 i2 i4 hlt I HI
      go_wp2_with fail
      refine cC.out.mono ?_
      rintro e wx ⟨rfl, hx⟩
      obtain rfl : wr = wx := hx.symm
      clear hx cC
      go_wp2
      exact bodyPost_ret (v := .tuple #[.pointer (some ⟨c, 0, none⟩), .int .i64 0]) (by simp [results, Tryd.results5, go_sem]) rfl HE.out
end
end Go.Proofs.YtdkiegkgnimapabDoor
