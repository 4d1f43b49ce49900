/- The least old bucket is moved. -/
import Derived.Test.YtdkiegkgnimapabDoorTb4
set_option linter.unusedVariables false
set_option linter.unusedSimpArgs false
set_option maxRecDepth 8000
namespace Go.Proofs.YtdkiegkgnimapabDoor.Tbl
open Go.RowKit Go.Deep Math Tab

set_option maxHeartbeats 400000 in
theorem left_raw {w : World} {f : Nat} {a : Option Addr} {n m : Nat} (c1 : w.cell? ⟨f, 1, none⟩ = some (.slice a n m)) : Calls Tryd.prog 65 #[.pointer (some ⟨f, 0, none⟩)] w fun e w' => e = .returned (.int .i64 (n : Int)) ∧ w' = w := by
  go_enter Tryd.func65, Tryd.ntmps65
  go_wp2
  go_ret
  exact ⟨rfl, rfl⟩
section
variable {w w' : World} {f nb ob mo : Nat} {nw od : List (List En)} {cnt : Nat} {key : List UInt8}
/-- The first old chain is let go: the table without it, the chain beside it. -/
theorem TbIn.pop {c : List En} {r : List (List En)} (h : TbIn w f nb ob mo nw (c :: r) cnt) {W : World} (hf : Blk W f [.slice (some ⟨nb, 0, none⟩) nw.length nw.length, oSl ob (mo + 1) r.length, .int .i64 (cnt : Int)] 86)
    (ho : W.heap[ob]? = (w.setCell ⟨ob, mo, none⟩ (.pointer none)).heap[ob]?) (oth : ∀ b, b ≠ f → b ≠ ob → W.heap[b]? = w.heap[b]?) :
    TbIn W f nb ob (mo + 1) nw r cnt ∧ Chain W c ∧ (c.map En.b ++ (r ++ nw).flatten.map En.b).Nodup := by
  have hO := h.rO (by simp)
  have hne := h.ne (by simp)
  have hN := oth nb (h.rN.ty_ne h.own (by decide)) hne
  have hE : ∀ d ∈ c :: r ++ nw, Chain W d := fun d hd => (h.ch d hd).same (fun e he => by
    obtain ⟨q, hq, _⟩ := (h.ch d hd).at e he
    exact oth e.b (hq.ty_ne h.own (by decide)) (hq.ty_ne hO (by decide)))
  refine ⟨⟨hf, h.rN.same hN, fun h0 => ?_, fun h0 => hne, fun d hd => hE d (List.mem_cons_of_mem _ hd), ?_⟩, hE c (by simp), ?_⟩
  · have h1 := hO.set mo (.pointer none)
    rw [List.set_append_right _ _ (by simp)] at h1
    simp only [List.length_replicate, Nat.sub_self, List.map_cons, List.set_cons_zero] at h1
    rw [List.replicate_succ' (n := mo), List.append_assoc]
    exact h1.same ho
  · have := h.nd
    simp only [List.cons_append, List.flatten_cons, List.map_append] at this
    rw [List.nodup_append] at this
    simpa using this.2.1
  · have := h.nd
    simpa only [List.cons_append, List.flatten_cons, List.map_append] using this

/-- A table whose first old chain is under way to the new buckets: these entries are left. -/
structure Mid (w0 : World) (F : List Nat) (f nb ob mo : Nat) (r : List (List En)) (cnt n : Nat) (fin : List (List KV)) (p : List En) (nwi : List (List En)) (W : World) : Prop where
  tin : TbIn W f nb ob mo nwi r cnt
  fit : Fits nwi r mo
  ch : Chain W p
  nd : (p.map En.b ++ (r ++ nwi).flatten.map En.b).Nodup
  len : nwi.length = n
  fin : (p.map kv).foldl (pushN hsh) (kvs nwi) = fin
  hin : ∀ e ∈ p, 0 < r.length → hsh e.k % (n / 2) < mo
  keep : Keep F w0 W
  sub : ∀ b ∈ p.map En.b ++ (r ++ nwi).flatten.map En.b, b ∈ F
  nbF : nb ∈ F
theorem Mid.notOld {w0 : World} {F : List Nat} {r : List (List En)} {n : Nat} {fin : List (List KV)} {x : En} {p : List En} {nwi : List (List En)} {W : World} (h : Mid w0 F f nb ob mo r cnt n fin (x :: p) nwi W) : (tb nwi r).isOld hsh x.k = false := by
  cases hb : (tb nwi r).isOld hsh x.k with
  | false => rfl
  | true =>
    obtain ⟨h1, h2⟩ := isOld_iff.1 hb
    rw [show (tb nwi r).od.length = r.length from kvs_len r] at h1
    rw [(h.fit.half h1).2, show (tb nwi r).half = nwi.length / 2 by show (kvs nwi).length / 2 = _; rw [kvs_len], h.len] at h2
    have := h.hin x (List.mem_cons_self ..) h1
    omega
theorem Mid.step {w0 : World} {F : List Nat} {r : List (List En)} {n : Nat} {fin : List (List KV)} {x : En} {p : List En} {nwi : List (List En)} {W W1 w' : World} (h : Mid w0 F f nb ob mo r cnt n fin (x :: p) nwi W) (hW : W1.heap = W.heap) (ko : Keep F w0 W1)
    (ht : TbIn w' f nb ob mo (putNw nwi r x.k (x :: chE nwi r x.k)) (putOd nwi r x.k (x :: chE nwi r x.k)) cnt) (hk : Keep [locB nb ob mo nwi r x.k, x.b] W1 w') :
    Mid w0 F f nb ob mo r cnt n fin p (putNw nwi r x.k (x :: chE nwi r x.k)) w' := by
  have ho := h.notOld
  have eO : putOd nwi r x.k (x :: chE nwi r x.k) = r := by unfold putOd; rw [ho]; rfl
  obtain ⟨A, B, e1, e2⟩ := h.fit.split x.k
  have e3 := e2 (x :: chE nwi r x.k)
  rw [eO] at e3 ht
  have hloc : locB nb ob mo nwi r x.k = nb := by unfold locB; rw [ho]; rfl
  rw [hloc] at hk
  have pm : ((r ++ putNw nwi r x.k (x :: chE nwi r x.k)).flatten.map En.b).Perm (x.b :: (r ++ nwi).flatten.map En.b) := by
    rw [e3, e1]
    refine ((mid_perm A B _).map En.b).trans ?_
    rw [List.cons_append, List.map_cons]
    exact (((mid_perm A B _).map En.b).symm.cons _)
  have pm2 : (p.map En.b ++ (r ++ putNw nwi r x.k (x :: chE nwi r x.k)).flatten.map En.b).Perm ((x :: p).map En.b ++ (r ++ nwi).flatten.map En.b) := by
    refine (pm.append_left _).trans ?_
    exact List.perm_middle
  have hnd := h.nd
  rw [List.map_cons, List.cons_append, List.nodup_cons] at hnd
  refine ⟨ht, by have := h.fit.put (key := x.k) (x :: chE nwi r x.k); rw [eO] at this; exact this, ?_, pm2.nodup_iff.2 h.nd, by rw [putNw_len]; exact h.len, ?_, fun e he => h.hin e (List.mem_cons_of_mem _ he), ?_, fun b hb => h.sub b (pm2.mem_iff.1 hb), h.nbF⟩
  · refine h.ch.2.2.same (fun e he => ?_)
    obtain ⟨q, hq, _⟩ := h.ch.2.2.at e he
    rw [hk.block e.b (by rw [hW]; exact hq.lt) ?_, hW]
    simp only [List.mem_cons, List.not_mem_nil, or_false, not_or]
    exact ⟨hq.ty_ne h.tin.rN (by decide), fun e3 => hnd.1 (List.mem_append_left _ (e3 ▸ List.mem_map.2 ⟨e, he, rfl⟩))⟩
  · rw [← h.fin, List.map_cons, List.foldl_cons]
    congr 1
    unfold putNw chE pushN
    rw [ho]
    simp only [Bool.false_eq_true, if_false]
    have : (tb nwi r).ni hsh x.k = hsh (kv x).1 % (kvs nwi).length := rfl
    rw [this]
    show List.map _ (List.set _ _ _) = _
    rw [List.map_set]
    show (kvs nwi).set _ (kv x :: (nwi.getD _ []).map kv) = _
    rw [map_getD]
  · refine ko.trans hk (fun b hb => .inl ?_)
    simp only [List.mem_cons, List.not_mem_nil, or_false] at hb
    rcases hb with rfl | rfl
    · exact h.nbF
    · exact h.sub _ (by simp)
set_option maxHeartbeats 4000000 in
theorem move_one {c : List En} {r : List (List En)} (h : TbIn w f nb ob mo nw (c :: r) cnt) (g : Fits nw (c :: r) mo) (hr : r.length = 0) (hin : ∀ e ∈ c, 0 < r.length → hsh e.k % (nw.length / 2) < mo + 1) :
    Calls Tryd.prog 42 #[.pointer (some ⟨f, 0, none⟩)] w fun e w' => e = .returned (.tuple #[]) ∧ ∃ nwi, Mid w (foot f nb ob nw (c :: r)) f nb ob (mo + 1) r cnt nw.length ((c.map kv).foldl (pushN hsh) (kvs nw)) [] nwi w' := by
  obtain ⟨m, hm⟩ : ∃ m, m = r.length := ⟨_, rfl⟩
  have c1 := h.c1
  rw [oSl_pos _ _ _ (by simp), List.length_cons, ← hm] at c1
  have hO := h.rO (by simp)
  have k0 := h.cO (i := 0) (c := c) rfl
  rw [Nat.add_zero] at k0
  have fo := hO.frozen mo
  have ff := h.own.frozen 1
  have hfo : f ≠ ob := h.own.ty_ne hO (by decide)
  have g1 : m + 1 ≤ 131072 := by have := g.o2 (by simp); have := g.n9; simp only [List.length_cons] at *; omega
  have cL := hide (left_raw c1)
  have hm0 : m = 0 := by omega
  rw [hm0] at c1 cL
  obtain ⟨q, hq⟩ := hd_ptr c
  rw [hq] at k0
  have HQ := hide hq
  obtain ⟨w1, hw1⟩ : ∃ w1, w1 = w.setCell ⟨ob, mo, none⟩ (.pointer none) := ⟨_, rfl⟩
  have d1 : w1.cell? ⟨f, 1, none⟩ = some (.slice (some ⟨ob, mo, none⟩) 1 1) := by
    rw [hw1, World.cell?_setCell_other _ _ _ _ (by intro e; injection e with e1; exact hfo (by first | exact e1 | exact e1.symm))]; exact c1
  have f1 : w1.frozen? ⟨f, 1, none⟩ = false := by rw [hw1, World.frozen?_setCell]; exact ff
  obtain ⟨w2, hw2⟩ : ∃ w2, w2 = w1.setCell ⟨f, 1, none⟩ (.slice (some ⟨ob, mo, none⟩) 0 0) := ⟨_, rfl⟩
  have b2 : Blk w2 f [.slice (some ⟨nb, 0, none⟩) nw.length nw.length, .slice (some ⟨ob, mo, none⟩) 0 0, .int .i64 (cnt : Int)] 86 := by
    rw [hw2]
    have := (h.own.other (a := ⟨ob, mo, none⟩) hfo (.pointer none)).set 1 (.slice (some ⟨ob, mo, none⟩) 0 0)
    rw [← hw1] at this
    exact this
  have d2 := b2.cell (i := 1) rfl
  have f2 := b2.frozen 1
  have cL2 := hide (left_raw d2)
  obtain ⟨w3, hw3⟩ : ∃ w3, w3 = w2.setCell ⟨f, 1, none⟩ (.slice none 0 0) := ⟨_, rfl⟩
  have HM : Hid (Mid w (foot f nb ob nw (c :: r)) f nb ob (mo + 1) r cnt nw.length ((c.map kv).foldl (pushN hsh) (kvs nw)) c nw w3) := by
    have oth : ∀ b, b ≠ f → b ≠ ob → w3.heap[b]? = w.heap[b]? := fun b h1 h2 => by
      rw [hw3, blk_setCell_other _ _ _ _ h1, hw2, blk_setCell_other _ _ _ _ h1, hw1, blk_setCell_other _ _ _ _ h2]
    have p1 : Blk w3 f [.slice (some ⟨nb, 0, none⟩) nw.length nw.length, oSl ob (mo + 1) r.length, .int .i64 (cnt : Int)] 86 := by
      rw [hr, oSl_zero, hw3]
      exact b2.set 1 (.slice none 0 0)
    have p2 : w3.heap[ob]? = (w.setCell ⟨ob, mo, none⟩ (.pointer none)).heap[ob]? := by
      rw [hw3, blk_setCell_other _ _ _ _ hfo.symm, hw2, blk_setCell_other _ _ _ _ hfo.symm, hw1]
    obtain ⟨t1, t2, t3⟩ := h.pop (W := w3) p1 p2 oth
    · refine ⟨t1, ⟨g.n1, g.n9, fun h0 => ?_⟩, t2, t3, rfl, rfl, hin, ?_, ?_, by simp [foot]⟩
      · have := g.o2 (by simp); simp only [List.length_cons] at this; omega
      · rw [hw3, hw2, hw1]
        exact (((Keep.refl _ w).setCell (.inl (by simp [foot])) _).setCell (.inl (by simp [foot])) _).setCell (.inl (by simp [foot])) _
      · intro b hb
        unfold foot
        refine List.mem_cons_of_mem _ (List.mem_cons_of_mem _ (List.mem_append_right _ ?_))
        simpa only [List.cons_append, List.flatten_cons, List.map_append] using hb
  generalize foot f nb ob nw (c :: r) = F at *
  generalize (c.map kv).foldl (pushN hsh) (kvs nw) = fin at *
  generalize nw.length = n at *
  clear hq hin hO b2 hm hm0 h g
  go_enter Tryd.func42, Tryd.ntmps42
  go_wp2_with fail
  refine cL.out.mono ?_
  rintro e wx ⟨rfl, hx⟩
  obtain rfl : w = wx := hx.symm
  clear hx cL
  subst hw1
  go_wp2_with fail
  rw [← hw2]
  refine cL2.out.mono ?_
  rintro e wx ⟨rfl, hx⟩
  obtain rfl : w2 = wx := hx.symm
  have HW2 := hide hw2
  clear hx cL2 hw2 c1 d1 f1 k0 fo ff
  subst hw3
  go_wp2
  go_loopg [2] c.length (fun kx s2 wr => ∃ (p : List En) (nwi : List (List En)), s2 = hd p ∧ Hid (p.length ≤ kx ∧ Mid w F f nb ob (mo + 1) r cnt n fin p nwi wr))
  case atStart => exact ⟨c, nw, HQ.out.symm, Nat.le_refl _, HM.out⟩
  case round =>
    obtain ⟨p, nwi, rfl, I⟩ := hrel
    cases p with
    | nil =>
      simp only [hd_nil]
      go_wp2
      go_end0
      exact ⟨rfl, _, I.out.2⟩
    | cons x p =>
      simp only [hd_cons]
      have k0 := I.out.2.ch.1.cell (i := 0) rfl
      have k2 := I.out.2.ch.1.cell (i := 2) rfl
      obtain ⟨q2, hq2⟩ := hd_ptr p
      rw [hq2] at k2
      have HQ2 := hide hq2
      clear hq2
      have cC := hide (chainOf_any I.out.2.tin I.out.2.fit x.k I.out.2.ch.2.1)
      have cP : Hid (∀ q, Calls Tryd.prog 45 #[.pointer (some ⟨locB nb ob (mo + 1) nwi r x.k, locO (mo + 1) nwi r x.k, none⟩), .pointer (some ⟨x.b, 0, none⟩)] (wr.drewN q) fun e w' => e = .returned (.tuple #[]) ∧ Mid w F f nb ob (mo + 1) r cnt n fin p (putNw nwi r x.k (x :: chE nwi r x.k)) w') := fun q => by
        have hnd := I.out.2.nd
        rw [List.map_cons, List.cons_append, List.nodup_cons] at hnd
        refine (push_tb (I.out.2.tin.drewN q) I.out.2.fit x (q0 := hd p) I.out.2.ch.1 I.out.2.ch.2.1 (fun hm => hnd.1 (List.mem_append_right _ hm))).mono ?_
        rintro e w' ⟨rfl, ht, hk⟩
        have K := I.out.2.keep
        exact ⟨rfl, I.out.2.step (W1 := wr.drewN q) rfl ⟨K.os, K.tape, K.output, K.size, K.block⟩ ht hk⟩
      have HL : Hid (p.length + 1 ≤ _) := I.out.1
      clear I
      generalize putNw nwi r x.k (x :: chE nwi r x.k) = nwj at *
      generalize locB nb ob (mo + 1) nwi r x.k = lb at *
      generalize locO (mo + 1) nwi r x.k = lo at *
      generalize txt x.k = tk at *
      go_wp2_with fail
      refine cC.out.mono ?_
      rintro e W1 ⟨rfl, q, hW⟩
      have cP' := hide (cP.out q)
      rw [← hW] at cP'
      clear hW cC cP
      go_wp2_with fail
      refine cP'.out.mono ?_
      rintro e W2 ⟨rfl, hm⟩
      have HM2 := hide hm
      clear hm cP'
      go_wp2
      go_roundg p.length
      case measure => have := HL.out; omega
      case rel => exact ⟨p, nwj, HQ2.out.symm, Nat.le_refl _, HM2.out⟩
set_option maxHeartbeats 4000000 in
theorem move_more {c : List En} {r : List (List En)} (h : TbIn w f nb ob mo nw (c :: r) cnt) (g : Fits nw (c :: r) mo) (hr : 0 < r.length) (hin : ∀ e ∈ c, 0 < r.length → hsh e.k % (nw.length / 2) < mo + 1) :
    Calls Tryd.prog 42 #[.pointer (some ⟨f, 0, none⟩)] w fun e w' => e = .returned (.tuple #[]) ∧ ∃ nwi, Mid w (foot f nb ob nw (c :: r)) f nb ob (mo + 1) r cnt nw.length ((c.map kv).foldl (pushN hsh) (kvs nw)) [] nwi w' := by
  obtain ⟨m, hm⟩ : ∃ m, m = r.length := ⟨_, rfl⟩
  have hmp : 0 < m := by omega
  have c1 := h.c1
  rw [oSl_pos _ _ _ (by simp), List.length_cons, ← hm] at c1
  have hO := h.rO (by simp)
  have k0 := h.cO (i := 0) (c := c) rfl
  rw [Nat.add_zero] at k0
  have fo := hO.frozen mo
  have ff := h.own.frozen 1
  have hfo : f ≠ ob := h.own.ty_ne hO (by decide)
  have g1 : m + 1 ≤ 131072 := by have := g.o2 (by simp); have := g.n9; simp only [List.length_cons] at *; omega
  have cL := hide (left_raw c1)
  obtain ⟨q, hq⟩ := hd_ptr c
  rw [hq] at k0
  have HQ := hide hq
  obtain ⟨w1, hw1⟩ : ∃ w1, w1 = w.setCell ⟨ob, mo, none⟩ (.pointer none) := ⟨_, rfl⟩
  have d1 : w1.cell? ⟨f, 1, none⟩ = some (.slice (some ⟨ob, mo, none⟩) (m + 1) (m + 1)) := by
    rw [hw1, World.cell?_setCell_other _ _ _ _ (by intro e; injection e with e1; exact hfo (by first | exact e1 | exact e1.symm))]; exact c1
  have f1 : w1.frozen? ⟨f, 1, none⟩ = false := by rw [hw1, World.frozen?_setCell]; exact ff
  obtain ⟨w2, hw2⟩ : ∃ w2, w2 = w1.setCell ⟨f, 1, none⟩ (.slice (some ⟨ob, mo + 1, none⟩) m m) := ⟨_, rfl⟩
  have b2 : Blk w2 f [.slice (some ⟨nb, 0, none⟩) nw.length nw.length, .slice (some ⟨ob, mo + 1, none⟩) m m, .int .i64 (cnt : Int)] 86 := by
    rw [hw2]
    have := (h.own.other (a := ⟨ob, mo, none⟩) hfo (.pointer none)).set 1 (.slice (some ⟨ob, mo + 1, none⟩) m m)
    rw [← hw1] at this
    exact this
  have d2 := b2.cell (i := 1) rfl
  have f2 := b2.frozen 1
  have cL2 := hide (left_raw d2)
  have HM : Hid (Mid w (foot f nb ob nw (c :: r)) f nb ob (mo + 1) r cnt nw.length ((c.map kv).foldl (pushN hsh) (kvs nw)) c nw w2) := by
    have oth : ∀ b, b ≠ f → b ≠ ob → w2.heap[b]? = w.heap[b]? := fun b h1 h2 => by
      rw [hw2, blk_setCell_other _ _ _ _ h1, hw1, blk_setCell_other _ _ _ _ h2]
    have p1 : Blk w2 f [.slice (some ⟨nb, 0, none⟩) nw.length nw.length, oSl ob (mo + 1) r.length, .int .i64 (cnt : Int)] 86 := by
      rw [oSl_pos _ _ _ hr, ← hm]
      exact b2
    have p2 : w2.heap[ob]? = (w.setCell ⟨ob, mo, none⟩ (.pointer none)).heap[ob]? := by
      rw [hw2, blk_setCell_other _ _ _ _ hfo.symm, hw1]
    obtain ⟨t1, t2, t3⟩ := h.pop (W := w2) p1 p2 oth
    · refine ⟨t1, ⟨g.n1, g.n9, fun h0 => ?_⟩, t2, t3, rfl, rfl, hin, ?_, ?_, by simp [foot]⟩
      · have := g.o2 (by simp); simp only [List.length_cons] at this; omega
      · rw [hw2, hw1]
        exact ((Keep.refl _ w).setCell (.inl (by simp [foot])) _).setCell (.inl (by simp [foot])) _
      · intro b hb
        unfold foot
        refine List.mem_cons_of_mem _ (List.mem_cons_of_mem _ (List.mem_append_right _ ?_))
        simpa only [List.cons_append, List.flatten_cons, List.map_append] using hb
  generalize foot f nb ob nw (c :: r) = F at *
  generalize (c.map kv).foldl (pushN hsh) (kvs nw) = fin at *
  generalize nw.length = n at *
  clear hq hin hO b2 hm  h g
  have m1 : ¬ (m : Int) = 0 := by omega
  have m2 : ¬ ((m + 1 : Nat) : Int) = 0 := by omega
  have m3 : ¬ (m : Int) + 1 = 0 := by omega
  have m4 : ((m : Int) == 0) = false := by simp; omega
  go_enter Tryd.func42, Tryd.ntmps42
  go_wp2_with fail
  refine cL.out.mono ?_
  rintro e wx ⟨rfl, hx⟩
  obtain rfl : w = wx := hx.symm
  clear hx cL
  subst hw1
  go_wp2_with fail
  rw [← hw2]
  refine cL2.out.mono ?_
  rintro e wx ⟨rfl, hx⟩
  obtain rfl : w2 = wx := hx.symm
  have HW2 := hide hw2
  clear hx cL2 hw2 c1 d1 f1 k0 fo ff
  go_wp2
  go_loopg [2] c.length (fun kx s2 wr => ∃ (p : List En) (nwi : List (List En)), s2 = hd p ∧ Hid (p.length ≤ kx ∧ Mid w F f nb ob (mo + 1) r cnt n fin p nwi wr))
  case atStart => exact ⟨c, nw, HQ.out.symm, Nat.le_refl _, HM.out⟩
  case round =>
    obtain ⟨p, nwi, rfl, I⟩ := hrel
    cases p with
    | nil =>
      simp only [hd_nil]
      go_wp2
      go_end0
      exact ⟨rfl, _, I.out.2⟩
    | cons x p =>
      simp only [hd_cons]
      have k0 := I.out.2.ch.1.cell (i := 0) rfl
      have k2 := I.out.2.ch.1.cell (i := 2) rfl
      obtain ⟨q2, hq2⟩ := hd_ptr p
      rw [hq2] at k2
      have HQ2 := hide hq2
      clear hq2
      have cC := hide (chainOf_any I.out.2.tin I.out.2.fit x.k I.out.2.ch.2.1)
      have cP : Hid (∀ q, Calls Tryd.prog 45 #[.pointer (some ⟨locB nb ob (mo + 1) nwi r x.k, locO (mo + 1) nwi r x.k, none⟩), .pointer (some ⟨x.b, 0, none⟩)] (wr.drewN q) fun e w' => e = .returned (.tuple #[]) ∧ Mid w F f nb ob (mo + 1) r cnt n fin p (putNw nwi r x.k (x :: chE nwi r x.k)) w') := fun q => by
        have hnd := I.out.2.nd
        rw [List.map_cons, List.cons_append, List.nodup_cons] at hnd
        refine (push_tb (I.out.2.tin.drewN q) I.out.2.fit x (q0 := hd p) I.out.2.ch.1 I.out.2.ch.2.1 (fun hm => hnd.1 (List.mem_append_right _ hm))).mono ?_
        rintro e w' ⟨rfl, ht, hk⟩
        have K := I.out.2.keep
        exact ⟨rfl, I.out.2.step (W1 := wr.drewN q) rfl ⟨K.os, K.tape, K.output, K.size, K.block⟩ ht hk⟩
      have HL : Hid (p.length + 1 ≤ _) := I.out.1
      clear I
      generalize putNw nwi r x.k (x :: chE nwi r x.k) = nwj at *
      generalize locB nb ob (mo + 1) nwi r x.k = lb at *
      generalize locO (mo + 1) nwi r x.k = lo at *
      generalize txt x.k = tk at *
      go_wp2_with fail
      refine cC.out.mono ?_
      rintro e W1 ⟨rfl, q, hW⟩
      have cP' := hide (cP.out q)
      rw [← hW] at cP'
      clear hW cC cP
      go_wp2_with fail
      refine cP'.out.mono ?_
      rintro e W2 ⟨rfl, hm⟩
      have HM2 := hide hm
      clear hm cP'
      go_wp2
      go_roundg p.length
      case measure => have := HL.out; omega
      case rel => exact ⟨p, nwj, HQ2.out.symm, Nat.le_refl _, HM2.out⟩
end
end Go.Proofs.YtdkiegkgnimapabDoor.Tbl
