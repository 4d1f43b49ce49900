/- Set, Delete, New of a table in memory. -/
import Derived.Test.YtdkiegkgnimapabDoorTb6
set_option linter.unusedVariables false
set_option linter.unusedSimpArgs false
set_option maxRecDepth 8000
namespace Go.Proofs.YtdkiegkgnimapabDoor.Tbl
open Go.RowKit Go.Deep Math Tab

section
variable {w w' : World} {f nb ob mo : Nat} {nw od : List (List En)} {cnt : Nat} {key : List UInt8}
theorem TbIn.setCnt (h : TbIn w f nb ob mo nw od cnt) (c : Nat) : TbIn (w.setCell ⟨f, 2, none⟩ (.int .i64 (c : Int))) f nb ob mo nw od c := by
  have oth : ∀ b, b ≠ f → (w.setCell ⟨f, 2, none⟩ (.int .i64 (c : Int))).heap[b]? = w.heap[b]? := fun b hb => blk_setCell_other _ _ _ _ hb
  refine ⟨h.own.set 2 (.int .i64 (c : Int)), h.rN.same (oth nb (h.rN.ty_ne h.own (by decide))), fun h0 => (h.rO h0).same (oth ob ((h.rO h0).ty_ne h.own (by decide))), h.ne, fun d hd => (h.ch d hd).same (fun e he => ?_), h.nd⟩
  obtain ⟨q, hq, _⟩ := (h.ch d hd).at e he
  exact oth e.b (hq.ty_ne h.own (by decide))
theorem loc_foot (g : Fits nw od mo) (key : List UInt8) : locB nb ob mo nw od key ∈ foot f nb ob nw od := by
  unfold locB foot
  cases ho : (tb nw od).isOld hsh key with
  | true =>
    have h0 : 0 < od.length := by have := g.oi_lt ho; omega
    simp [h0]
  | false => simp
theorem chE_foot (g : Fits nw od mo) {b : Nat} (hb : b ∈ (chE nw od key).map En.b) : b ∈ foot f nb ob nw od := by
  unfold foot
  exact List.mem_cons_of_mem _ (List.mem_cons_of_mem _ (List.mem_append_right _ (chE_sub g hb)))
theorem put_foot (g : Fits nw od mo) (key : List UInt8) (c : List En) {b : Nat} (hb : b ∈ foot f nb ob (putNw nw od key c) (putOd nw od key c)) : b ∈ foot f nb ob nw od ∨ b ∈ c.map En.b := by
  obtain ⟨A, B, e, e'⟩ := g.split key
  unfold foot at hb ⊢
  rw [putOd_len, e'] at hb
  rcases List.mem_cons.1 hb with rfl | hb
  · simp
  rcases List.mem_cons.1 hb with rfl | hb
  · simp
  rcases List.mem_append.1 hb with hb | hb
  · exact .inl (List.mem_cons_of_mem _ (List.mem_cons_of_mem _ (List.mem_append_left _ hb)))
  · have := ((mid_perm A B c).map En.b).mem_iff.1 hb
    rw [List.map_append] at this
    rcases List.mem_append.1 this with h1 | h1
    · exact .inr h1
    · refine .inl (List.mem_cons_of_mem _ (List.mem_cons_of_mem _ (List.mem_append_right _ ?_)))
      rw [e]
      refine ((mid_perm A B _).map En.b).mem_iff.2 ?_
      rw [List.map_append]
      exact List.mem_append_right _ h1
/-- The whole of a table in memory: what it holds, which blocks are its own. -/
structure TM (f : Nat) (t : Tb) (F : List Nat) (w : World) : Prop where
  ex : ∃ nb ob mo nw od, TbIn w f nb ob mo nw od t.all.length ∧ Fits nw od mo ∧ tb nw od = t ∧ F = foot f nb ob nw od
  good : Tab.Good hsh t
theorem _root_.Go.Proofs.YtdkiegkgnimapabDoor.Keep.drewN {F : List Nat} {a w : World} (h : Keep F a w) (q : Nat) : Keep F a (w.drewN q) := ⟨h.os, h.tape, h.output, h.size, h.block⟩
theorem fnd_chE (t : Tb) (e : tb nw od = t) : fnd key ((chE nw od key).map kv) = t.get hsh key := by rw [chE_kv, e]; rfl
theorem kv_mid {A B : List En} {e : En} (he : e.k = key) (v : Int) : (A ++ (⟨e.b, e.k, v⟩ : En) :: B).map kv = A.map kv ++ (key, v) :: B.map kv := by simp [kv, he]

/-- A table in memory, whatever its number of keys is told as. -/
structure TC (w0 : World) (F : List Nat) (f : Nat) (t : Tb) (cnt : Nat) (W : World) : Prop where
  ex : ∃ nb ob mo nw od, TbIn W f nb ob mo nw od cnt ∧ Fits nw od mo ∧ tb nw od = t ∧ ∀ b ∈ foot f nb ob nw od, b ∈ F ∨ w0.heap.size ≤ b
  keep : Keep F w0 W
theorem TC.tm {w0 W : World} {F : List Nat} {t : Tb} (h : TC w0 F f t t.all.length W) (G : Tab.Good hsh t) : ∃ F', TM f t F' W ∧ Moves F F' w0 W := by
  obtain ⟨nb, ob, mo, nw, od, h1, h2, h3, h4⟩ := h.ex
  exact ⟨_, ⟨⟨nb, ob, mo, nw, od, h1, h2, h3, rfl⟩, G⟩, h.keep, h4⟩
theorem set_old_tc {w0 W : World} {F : List Nat} {t : Tb} (h : TbIn W f nb ob mo nw od cnt) (g : Fits nw od mo) (ht : tb nw od = t) (G : Tab.Good hsh t) (M : Keep F w0 W) (MF : ∀ b ∈ foot f nb ob nw od, b ∈ F ∨ w0.heap.size ≤ b)
    {A B : List En} {e : En} (h1 : chE nw od key = A ++ e :: B) (h2 : e.k = key) (v : Int) : TC w0 F f (t.put hsh key (setV key v (t.chn hsh key))) cnt (W.setCell ⟨e.b, 1, none⟩ (.int .i64 v)) := by
  have hm : e.b ∈ foot f nb ob nw od := chE_foot (key := key) g (by rw [h1]; simp)
  refine ⟨⟨nb, ob, mo, putNw nw od key (A ++ ⟨e.b, e.k, v⟩ :: B), putOd nw od key (A ++ ⟨e.b, e.k, v⟩ :: B), h.setv g h1 v, g.put _, ?_, ?_⟩, ?_⟩
  · rw [put_kv, kv_mid h2, ht]
    congr 1
    have nd := G.chn_nd key
    have e2 : t.chn hsh key = A.map kv ++ (key, e.v) :: B.map kv := by
      rw [← ht, ← chE_kv, h1, ← h2]; simp [kv]
    rw [e2] at nd ⊢
    exact (setV_cut nd).symm
  · intro b hb
    rcases put_foot g key _ hb with hb | hb
    · exact MF b hb
    · refine MF b (chE_foot (key := key) g ?_)
      rw [h1]
      simpa using hb
  · exact M.setCell (p := ⟨e.b, 1, none⟩) (MF _ hm) _
theorem cut_tc {w0 W : World} {F : List Nat} {t : Tb} (h : TbIn W f nb ob mo nw od cnt) (g : Fits nw od mo) (ht : tb nw od = t) (G : Tab.Good hsh t) (M : Keep F w0 W) (MF : ∀ b ∈ foot f nb ob nw od, b ∈ F ∨ w0.heap.size ≤ b)
    {A B : List En} {e : En} (h1 : chE nw od key = A ++ e :: B) (h2 : e.k = key) : TC w0 F f (t.put hsh key (outV key (t.chn hsh key))) cnt (W.setCell ⟨(pa (locB nb ob mo nw od key) (locO mo nw od key) A).1, (pa (locB nb ob mo nw od key) (locO mo nw od key) A).2, none⟩ (hd B)) := by
  obtain ⟨T2, hp⟩ := h.cut g h1
  refine ⟨⟨nb, ob, mo, putNw nw od key (A ++ B), putOd nw od key (A ++ B), T2, g.put _, ?_, ?_⟩, ?_⟩
  · rw [put_kv, ht]
    congr 1
    have nd := G.chn_nd key
    have e2 : t.chn hsh key = A.map kv ++ (key, e.v) :: B.map kv := by
      rw [← ht, ← chE_kv, h1, ← h2]; simp [kv]
    rw [e2] at nd ⊢
    rw [outV_cut nd, List.map_append]
  · intro b hb
    rcases put_foot g key _ hb with hb | hb
    · exact MF b hb
    · refine MF b (chE_foot (key := key) g ?_)
      rw [h1]
      rw [List.map_append] at hb ⊢
      rcases List.mem_append.1 hb with hb | hb
      · exact List.mem_append_left _ hb
      · exact List.mem_append_right _ (List.mem_cons_of_mem _ hb)
  · refine M.setCell (p := ⟨_, _, none⟩) (MF _ ?_) _
    rcases hp with hp | hp
    · show (pa _ _ A).1 ∈ _
      rw [hp]; exact loc_foot g key
    · exact chE_foot (key := key) g hp
/-- A new entry is pushed. -/
theorem push_tc {w0 W W3 : World} {F : List Nat} {t : Tb} (h : TbIn W f nb ob mo nw od cnt) (g : Fits nw od mo) (ht : tb nw od = t) (M : Keep F w0 W) (MF : ∀ b ∈ foot f nb ob nw od, b ∈ F ∨ w0.heap.size ≤ b) (hB : Below W.heap.size W W3)
    (key : List UInt8) (hk : key.length ≤ maxLen) (v : Int) :
    Calls Tryd.prog 45 #[.pointer (some ⟨locB nb ob mo nw od key, locO mo nw od key, none⟩), .pointer (some ⟨W3.heap.size, 0, none⟩)] (W3.alloc (.cells #[.string (txt key), .int .i64 v, .pointer none] 107)) fun e w' => e = .returned (.tuple #[]) ∧
      TC w0 F f (t.put hsh key ((key, v) :: t.chn hsh key)) cnt w' := by
  have B4 : Below W.heap.size W (W3.alloc (.cells #[.string (txt key), .int .i64 v, .pointer none] 107)) := hB.alloc hB.size _
  have hb := Blk.new W3 [.string (txt key), .int .i64 v, .pointer none] 107
  have hfree : W3.heap.size ∉ (od ++ nw).flatten.map En.b := fun hm => by
    obtain ⟨L, hL⟩ := h.ent hm
    have := hL.lt
    have := hB.size
    omega
  refine (push_tb (h.below B4) g ⟨W3.heap.size, key, v⟩ hb hk hfree).mono ?_
  rintro e w' ⟨rfl, T2, K⟩
  refine ⟨rfl, ⟨nb, ob, mo, _, _, T2, g.put _, ?_, ?_⟩, ?_⟩
  · rw [put_kv, ht]
    congr 1
    rw [List.map_cons, chE_kv, ht]; rfl
  · intro b hb2
    rcases put_foot g key _ hb2 with hb2 | hb2
    · exact MF b hb2
    · rw [List.map_cons] at hb2
      rcases List.mem_cons.1 hb2 with rfl | hb2
      · exact .inr (Nat.le_trans M.size hB.size)
      · exact MF b (chE_foot (key := key) g hb2)
  · refine (M.trans (Keep.of_below (F := []) B4) (fun x hx => by cases hx)).trans K (fun x hx => ?_)
    simp only [List.mem_cons, List.not_mem_nil, or_false] at hx
    rcases hx with rfl | rfl
    · exact MF _ (loc_foot g key)
    · exact .inr (Nat.le_trans M.size hB.size)
theorem TC.cell2 {w0 W : World} {F : List Nat} {t : Tb} (h : TC w0 F f t cnt W) : W.cell? ⟨f, 2, none⟩ = some (.int .i64 (cnt : Int)) ∧ W.frozen? ⟨f, 2, none⟩ = false := by
  obtain ⟨nb, ob, mo, nw, od, h1, h2, h3, h4⟩ := h.ex
  exact ⟨h1.c2, h1.own.frozen 2⟩
theorem TC.setCnt {w0 W : World} {F : List Nat} {t : Tb} (h : TC w0 F f t cnt W) (c : Nat) : TC w0 F f t c (W.setCell ⟨f, 2, none⟩ (.int .i64 (c : Int))) := by
  obtain ⟨nb, ob, mo, nw, od, h1, h2, h3, h4⟩ := h.ex
  exact ⟨⟨nb, ob, mo, nw, od, h1.setCnt c, h2, h3, h4⟩, h.keep.setCell (p := ⟨f, 2, none⟩) (h4 f (by simp [foot])) _⟩
theorem TC.full {w0 W : World} {F : List Nat} {t : Tb} (h : TC w0 F f t t.all.length W) (hc : t.all.length ≤ 1000000) : Calls Tryd.prog 46 #[.pointer (some ⟨f, 0, none⟩)] W fun e w' => e = .returned (.bool t.full) ∧ w' = W := by
  obtain ⟨nb, ob, mo, nw, od, h1, h2, h3, h4⟩ := h.ex
  have e : t.full = fullB nw.length od.length t.all.length := by
    unfold Tb.full fullB
    rw [← h3]
    rw [show (tb nw od).nw.length = nw.length from kvs_len nw, show (tb nw od).od.length = od.length from kvs_len od]
  rw [e]
  exact isFull_any h1 h2 hc
theorem TC.grow {w0 W : World} {F : List Nat} {t : Tb} (h : TC w0 F f t t.all.length W) (hf : t.full = true) : Calls Tryd.prog 47 #[.pointer (some ⟨f, 0, none⟩)] W fun e w' => e = .returned (.tuple #[]) ∧ TC w0 F f t.grow t.grow.all.length w' := by
  obtain ⟨nb, ob, mo, nw, od, h1, h2, h3, h4⟩ := h.ex
  have hff := hf
  simp only [Tb.full, Bool.and_eq_true, decide_eq_true_eq] at hff
  rw [← h3] at hff
  rw [show (tb nw od).nw.length = nw.length from kvs_len nw, show (tb nw od).od.length = od.length from kvs_len od] at hff
  have h0 : od = [] := List.eq_nil_of_length_eq_zero hff.1.2
  refine (grow_any h1 h2 h0 hff.2).mono ?_
  rintro e w' ⟨rfl, T2, K⟩
  have hg : t.grow = ⟨List.replicate (2 * t.nw.length) [], t.nw⟩ := by unfold Tb.grow; rw [hf]; rfl
  have hn : t.nw = kvs nw := by rw [← h3]; rfl
  have := h2.n1
  refine ⟨rfl, ⟨W.heap.size, nb, 0, List.replicate (2 * nw.length) [], nw, ?_, ⟨by simp; omega, by simp; omega, fun _ => by simp⟩, ?_, ?_⟩, ?_⟩
  · rw [grow_perm.length_eq]; exact T2
  · rw [hg, hn, kvs_len]
    simp [tb, kvs]
  · intro b hb
    unfold foot at hb
    rw [if_pos (by omega)] at hb
    rcases List.mem_cons.1 hb with rfl | hb
    · exact h4 _ (by simp [foot])
    rcases List.mem_cons.1 hb with rfl | hb
    · exact .inr h.keep.size
    rcases List.mem_append.1 hb with hb | hb
    · simp at hb; subst hb; exact h4 _ (by simp [foot])
    · refine h4 b ?_
      unfold foot
      rw [h0]
      refine List.mem_cons_of_mem _ (List.mem_cons_of_mem _ (List.mem_append_right _ ?_))
      simpa using hb
  · exact h.keep.trans K (fun x hx => by simp at hx; subst hx; exact h4 _ (by simp [foot]))
theorem keep_drewN {W W2 : World} {q : Nat} (hW : W2 = W.drewN q) {F : List Nat} {w0 : World} (h : Keep F w0 W) : Keep F w0 W2 := by rw [hW]; exact h.drewN q
set_option maxHeartbeats 4000000 in
theorem set_new {t : Tb} {F : List Nat} (T : TM f t F w) (key : List UInt8) (hk : key.length ≤ 281474976710656) (v : Int) (hc : t.all.length ≤ 100000) (hnew : t.isNew hsh key = true) (hfu : ((t.mv hsh).put hsh key ((key, v) :: (t.mv hsh).chn hsh key)).full = false) :
    Calls Tryd.prog 24 #[.pointer (some ⟨f, 0, none⟩), .string (txt key), .int .i64 v] w fun e w' => e = .returned (.bool true) ∧ ∃ F', TM f (t.setT hsh key v) F' w' ∧ Moves F F' w w' := by
  obtain ⟨⟨nb, ob, mo, nw, od, h, g, ht, hF⟩, G⟩ := T
  have hk2 : key.length ≤ maxLen := by unfold maxLen; omega
  have G1 : Tab.Good hsh (tb nw od) := ht ▸ G
  have cM := hide (move_any h g G1)
  rw [ht, ← hF] at cM
  clear h g G1 ht hF nw od mo
  have Gm := G.mv
  have e1 : ((t.mv hsh).put hsh key ((key, v) :: (t.mv hsh).chn hsh key)).grow = t.setT hsh key v := by unfold Tb.setT; rw [hnew]; rfl
  have e2 : ((t.mv hsh).put hsh key ((key, v) :: (t.mv hsh).chn hsh key)).all.length = t.all.length + 1 := by
    rw [(Gm.all_put_new v).length_eq, List.length_cons, G.len_mv]
  have GS := hide (G.setT key v)
  obtain ⟨t2, ht2⟩ : ∃ t2, t2 = (t.mv hsh).put hsh key ((key, v) :: (t.mv hsh).chn hsh key) := ⟨_, rfl⟩
  rw [← ht2] at e1 e2 hfu
  rw [← e1] at GS ⊢
  have hgr : t2.grow = t2 := by unfold Tb.grow; rw [hfu]; rfl
  rw [hgr] at GS ⊢
  clear hgr
  have HFU := hide hfu
  have E2 := hide e2
  have HT2 := hide ht2
  clear e1 e2 hfu ht2
  go_enter Tryd.func24, Tryd.ntmps24
  go_wp2_with fail
  refine cM.out.mono ?_
  rintro e W1 ⟨rfl, mo, nw, od, h, g, ht, M⟩
  have HM := hide M
  clear cM M
  have cC := hide (chainOf_any h g key hk2)
  have cF : Hid (∀ q, Calls Tryd.prog 44 #[.pointer (some ⟨locB nb ob mo nw od key, locO mo nw od key, none⟩), .string (txt key)] (W1.drewN q) fun e w' => e = .returned (.pointer (fndP key (chE nw od key))) ∧ w' = W1.drewN q) := fun q => by
    obtain ⟨_, l2, l3⟩ := (h.drewN q).loc g key
    exact find_any _ _ _ key _ l2 l3
  obtain ⟨_, _, l3⟩ := h.loc g key
  have hget := fnd_chE (key := key) _ ht
  obtain ⟨h1, h2, h3⟩ := (fndP_cases key (chE nw od key)).resolve_right (fun ⟨A, e, B, h1, h2, h3, h4, h5⟩ => absurd (show (t.isNew hsh key) = false by unfold Tb.isNew; rw [← hget, h5]; rfl) (by rw [hnew]; simp))
  have cP : Hid (∀ q W3, Below (W1.drewN q).heap.size (W1.drewN q) W3 → Calls Tryd.prog 45 #[.pointer (some ⟨locB nb ob mo nw od key, locO mo nw od key, none⟩), .pointer (some ⟨W3.heap.size, 0, none⟩)] (W3.alloc (.cells #[.string (txt key), .int .i64 v, .pointer none] 107)) fun e w' => e = .returned (.tuple #[]) ∧
    TC w F f t2 t.all.length w') := fun q W3 hB => by
      rw [HT2.out]
      exact push_tc (h.drewN q) g ht (HM.out.keep.drewN q) HM.out.foot hB key hk2 v
  have cK : Hid (∀ W : World, Calls Tryd.prog 41 #[.string (txt key)] W fun e w' => e = .returned (.string (txt key)) ∧ Below W.heap.size W w') := fun W => clone_any (txt key) W (by rw [txt_size]; exact hk)
  rw [h1] at cF
  generalize locB nb ob mo nw od key = c at *
  generalize locO mo nw od key = o at *
  obtain ⟨n, hn⟩ : ∃ n, n = t.all.length := ⟨_, rfl⟩
  rw [← hn] at cP E2 hc
  clear h1 h2 h3 h g l3 hk hk2 hget ht Gm G HM hn hnew HT2
  go_wp2_with fail
  refine cC.out.mono ?_
  rintro e2 W2 ⟨rfl, q, hW⟩
  have cF' := hide (cF.out q)
  have cP' := hide (cP.out q)
  rw [← hW] at cF' cP'
  clear hW cC cF cP
  go_wp2_with fail
  refine cF'.out.mono ?_
  rintro e2 W3 ⟨rfl, hx⟩
  obtain rfl : W2 = W3 := hx.symm
  clear hx cF'
  go_wp2_with fail
  refine (cK.out W2).mono ?_
  rintro e2 W3 ⟨rfl, hB⟩
  have cP3 := hide (cP'.out W3 hB)
  clear cP' hB cK
  go_wp2_with fail
  refine cP3.out.mono ?_
  rintro e2 W4 ⟨rfl, hT⟩
  have HT := hide hT
  obtain ⟨d2, f2⟩ := hT.cell2
  clear cP3 hT
  have HS := hide (HT.out.setCnt (n + 1))
  clear HT
  have ek : ((n + 1 : Nat) : Int) = (n : Int) + 1 := by omega
  rw [ek] at HS
  have cU : Hid (Calls Tryd.prog 46 #[.pointer (some ⟨f, 0, none⟩)] (W4.setCell ⟨f, 2, none⟩ (.int .i64 ((n : Int) + 1))) fun e w' => e = .returned (.bool t2.full) ∧ w' = W4.setCell ⟨f, 2, none⟩ (.int .i64 ((n : Int) + 1))) := TC.full (by rw [E2.out]; exact HS.out) (by rw [E2.out]; omega)
  have n1 : (n : Int) + 1 ≤ 9223372036854775807 := by omega
  rw [HFU.out] at cU
  clear ek
  go_wp2_with fail
  refine cU.out.mono ?_
  rintro e2 W5 ⟨rfl, hx⟩
  subst hx
  clear cU
  go_wp2
  go_ret
  refine ⟨rfl, TC.tm ?_ GS.out⟩
  rw [E2.out]; exact HS.out
set_option maxHeartbeats 4000000 in
theorem set_newF {t : Tb} {F : List Nat} (T : TM f t F w) (key : List UInt8) (hk : key.length ≤ 281474976710656) (v : Int) (hc : t.all.length ≤ 100000) (hnew : t.isNew hsh key = true) (hfu : ((t.mv hsh).put hsh key ((key, v) :: (t.mv hsh).chn hsh key)).full = true) :
    Calls Tryd.prog 24 #[.pointer (some ⟨f, 0, none⟩), .string (txt key), .int .i64 v] w fun e w' => e = .returned (.bool true) ∧ ∃ F', TM f (t.setT hsh key v) F' w' ∧ Moves F F' w w' := by
  obtain ⟨⟨nb, ob, mo, nw, od, h, g, ht, hF⟩, G⟩ := T
  have hk2 : key.length ≤ maxLen := by unfold maxLen; omega
  have G1 : Tab.Good hsh (tb nw od) := ht ▸ G
  have cM := hide (move_any h g G1)
  rw [ht, ← hF] at cM
  clear h g G1 ht hF nw od mo
  have Gm := G.mv
  have e1 : ((t.mv hsh).put hsh key ((key, v) :: (t.mv hsh).chn hsh key)).grow = t.setT hsh key v := by unfold Tb.setT; rw [hnew]; rfl
  have e2 : ((t.mv hsh).put hsh key ((key, v) :: (t.mv hsh).chn hsh key)).all.length = t.all.length + 1 := by
    rw [(Gm.all_put_new v).length_eq, List.length_cons, G.len_mv]
  have GS := hide (G.setT key v)
  obtain ⟨t2, ht2⟩ : ∃ t2, t2 = (t.mv hsh).put hsh key ((key, v) :: (t.mv hsh).chn hsh key) := ⟨_, rfl⟩
  rw [← ht2] at e1 e2 hfu
  rw [← e1] at GS ⊢
  have HFU := hide hfu
  have E2 := hide e2
  have HT2 := hide ht2
  clear e1 e2 hfu ht2
  go_enter Tryd.func24, Tryd.ntmps24
  go_wp2_with fail
  refine cM.out.mono ?_
  rintro e W1 ⟨rfl, mo, nw, od, h, g, ht, M⟩
  have HM := hide M
  clear cM M
  have cC := hide (chainOf_any h g key hk2)
  have cF : Hid (∀ q, Calls Tryd.prog 44 #[.pointer (some ⟨locB nb ob mo nw od key, locO mo nw od key, none⟩), .string (txt key)] (W1.drewN q) fun e w' => e = .returned (.pointer (fndP key (chE nw od key))) ∧ w' = W1.drewN q) := fun q => by
    obtain ⟨_, l2, l3⟩ := (h.drewN q).loc g key
    exact find_any _ _ _ key _ l2 l3
  obtain ⟨_, _, l3⟩ := h.loc g key
  have hget := fnd_chE (key := key) _ ht
  obtain ⟨h1, h2, h3⟩ := (fndP_cases key (chE nw od key)).resolve_right (fun ⟨A, e, B, h1, h2, h3, h4, h5⟩ => absurd (show (t.isNew hsh key) = false by unfold Tb.isNew; rw [← hget, h5]; rfl) (by rw [hnew]; simp))
  have cP : Hid (∀ q W3, Below (W1.drewN q).heap.size (W1.drewN q) W3 → Calls Tryd.prog 45 #[.pointer (some ⟨locB nb ob mo nw od key, locO mo nw od key, none⟩), .pointer (some ⟨W3.heap.size, 0, none⟩)] (W3.alloc (.cells #[.string (txt key), .int .i64 v, .pointer none] 107)) fun e w' => e = .returned (.tuple #[]) ∧
    TC w F f t2 t.all.length w') := fun q W3 hB => by
      rw [HT2.out]
      exact push_tc (h.drewN q) g ht (HM.out.keep.drewN q) HM.out.foot hB key hk2 v
  have cK : Hid (∀ W : World, Calls Tryd.prog 41 #[.string (txt key)] W fun e w' => e = .returned (.string (txt key)) ∧ Below W.heap.size W w') := fun W => clone_any (txt key) W (by rw [txt_size]; exact hk)
  rw [h1] at cF
  generalize locB nb ob mo nw od key = c at *
  generalize locO mo nw od key = o at *
  obtain ⟨n, hn⟩ : ∃ n, n = t.all.length := ⟨_, rfl⟩
  rw [← hn] at cP E2 hc
  clear h1 h2 h3 h g l3 hk hk2 hget ht Gm G HM hn hnew HT2
  go_wp2_with fail
  refine cC.out.mono ?_
  rintro e2 W2 ⟨rfl, q, hW⟩
  have cF' := hide (cF.out q)
  have cP' := hide (cP.out q)
  rw [← hW] at cF' cP'
  clear hW cC cF cP
  go_wp2_with fail
  refine cF'.out.mono ?_
  rintro e2 W3 ⟨rfl, hx⟩
  obtain rfl : W2 = W3 := hx.symm
  clear hx cF'
  go_wp2_with fail
  refine (cK.out W2).mono ?_
  rintro e2 W3 ⟨rfl, hB⟩
  have cP3 := hide (cP'.out W3 hB)
  clear cP' hB cK
  go_wp2_with fail
  refine cP3.out.mono ?_
  rintro e2 W4 ⟨rfl, hT⟩
  have HT := hide hT
  obtain ⟨d2, f2⟩ := hT.cell2
  clear cP3 hT
  have HS := hide (HT.out.setCnt (n + 1))
  clear HT
  have ek : ((n + 1 : Nat) : Int) = (n : Int) + 1 := by omega
  rw [ek] at HS
  have cU : Hid (Calls Tryd.prog 46 #[.pointer (some ⟨f, 0, none⟩)] (W4.setCell ⟨f, 2, none⟩ (.int .i64 ((n : Int) + 1))) fun e w' => e = .returned (.bool t2.full) ∧ w' = W4.setCell ⟨f, 2, none⟩ (.int .i64 ((n : Int) + 1))) := TC.full (by rw [E2.out]; exact HS.out) (by rw [E2.out]; omega)
  have n1 : (n : Int) + 1 ≤ 9223372036854775807 := by omega
  rw [HFU.out] at cU
  have cG := hide (TC.grow (by rw [E2.out]; exact HS.out) HFU.out)
  clear ek
  go_wp2_with fail
  refine cU.out.mono ?_
  rintro e2 W5 ⟨rfl, hx⟩
  subst hx
  clear cU
  go_wp2_with fail
  refine cG.out.mono ?_
  rintro e2 W6 ⟨rfl, hT⟩
  have HT := hide hT
  clear hT cG
  go_wp2
  go_ret
  exact ⟨rfl, TC.tm HT.out GS.out⟩
set_option maxHeartbeats 4000000 in
theorem set_same {t : Tb} {F : List Nat} (T : TM f t F w) (key : List UInt8) (hk : key.length ≤ 281474976710656) (v : Int) (hnew : t.isNew hsh key = false) :
    Calls Tryd.prog 24 #[.pointer (some ⟨f, 0, none⟩), .string (txt key), .int .i64 v] w fun e w' => e = .returned (.bool false) ∧ ∃ F', TM f (t.setT hsh key v) F' w' ∧ Moves F F' w w' := by
  obtain ⟨⟨nb, ob, mo, nw, od, h, g, ht, hF⟩, G⟩ := T
  have hk2 : key.length ≤ maxLen := by unfold maxLen; omega
  have G1 : Tab.Good hsh (tb nw od) := ht ▸ G
  have cM := hide (move_any h g G1)
  rw [ht, ← hF] at cM
  clear h g G1 ht hF nw od mo
  go_enter Tryd.func24, Tryd.ntmps24
  go_wp2_with fail
  refine cM.out.mono ?_
  rintro e W1 ⟨rfl, mo, nw, od, h, g, ht, M⟩
  have HM := hide M
  clear cM M
  have cC := hide (chainOf_any h g key hk2)
  have cF : Hid (∀ q, Calls Tryd.prog 44 #[.pointer (some ⟨locB nb ob mo nw od key, locO mo nw od key, none⟩), .string (txt key)] (W1.drewN q) fun e w' => e = .returned (.pointer (fndP key (chE nw od key))) ∧ w' = W1.drewN q) := fun q => by
    obtain ⟨_, l2, l3⟩ := (h.drewN q).loc g key
    exact find_any _ _ _ key _ l2 l3
  obtain ⟨_, _, l3⟩ := h.loc g key
  have hget := fnd_chE (key := key) _ ht
  rcases fndP_cases key (chE nw od key) with ⟨h1, h2, h3⟩ | ⟨A, e, B, h1, h2, h3, h4, h5⟩
  · exact absurd (show (t.isNew hsh key) = true by unfold Tb.isNew; rw [← hget, h3]; rfl) (by rw [hnew]; simp)
  have hset : Hid (∀ q, ∃ F', TM f (t.setT hsh key v) F' ((W1.drewN q).setCell ⟨e.b, 1, none⟩ (.int .i64 v)) ∧ Moves F F' w ((W1.drewN q).setCell ⟨e.b, 1, none⟩ (.int .i64 v))) := fun q => by
    have T2 := set_old_tc (h.drewN q) g ht G.mv (HM.out.keep.drewN q) HM.out.foot h1 h2 v
    have hl := G.len_setT key v
    have GS := G.setT key v
    have e1 : t.setT hsh key v = (t.mv hsh).put hsh key (setV key v ((t.mv hsh).chn hsh key)) := by unfold Tb.setT; rw [hnew]; rfl
    rw [hnew] at hl
    simp only [Bool.false_eq_true, if_false, Nat.add_zero] at hl
    rw [e1] at hl GS ⊢
    refine TC.tm ?_ GS
    rw [hl]
    exact T2
  rw [h4] at cF
  rw [h1] at l3
  have c1 : W1.cell? ⟨e.b, 1, none⟩ = some (.int .i64 e.v) := l3.mid.cell rfl
  have f1 : W1.frozen? ⟨e.b, 1, none⟩ = false := l3.mid.frozen 1
  generalize locB nb ob mo nw od key = c at *
  generalize locO mo nw od key = o at *
  clear h1 h2 h3 h4 h5 h g l3 hk hk2 hget hnew ht G HM
  go_wp2_with fail
  refine cC.out.mono ?_
  rintro e2 W2 ⟨rfl, q, hW⟩
  have cF' := hide (cF.out q)
  have hs' := hide (hset.out q)
  have c1' : (W1.drewN q).cell? _ = _ := c1
  have f1' : (W1.drewN q).frozen? _ = _ := f1
  rw [← hW] at cF' c1' f1' hs'
  clear hW cC cF c1 f1 hset
  go_wp2_with fail
  refine cF'.out.mono ?_
  rintro e2 W3 ⟨rfl, hx⟩
  obtain rfl : W2 = W3 := hx.symm
  clear hx cF'
  go_wp2
  go_ret
  exact ⟨rfl, hs'.out⟩
theorem set_any {t : Tb} {F : List Nat} (T : TM f t F w) (key : List UInt8) (hk : key.length ≤ 281474976710656) (v : Int) (hc : t.all.length ≤ 100000) :
    Calls Tryd.prog 24 #[.pointer (some ⟨f, 0, none⟩), .string (txt key), .int .i64 v] w fun e w' => e = .returned (.bool (t.isNew hsh key)) ∧ ∃ F', TM f (t.setT hsh key v) F' w' ∧ Moves F F' w w' := by
  cases hnew : t.isNew hsh key with
  | false => exact set_same T key hk v hnew
  | true =>
    cases hfu : ((t.mv hsh).put hsh key ((key, v) :: (t.mv hsh).chn hsh key)).full with
    | false => exact set_new T key hk v hc hnew hfu
    | true => exact set_newF T key hk v hc hnew hfu
end
end Go.Proofs.YtdkiegkgnimapabDoor.Tbl
