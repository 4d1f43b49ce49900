/- Delete, New, Get, Len, Buckets, Left of a table. -/
import Derived.Test.YtdkiegkgnimapabDoorTb7
set_option linter.unusedVariables false
set_option linter.unusedSimpArgs false
set_option maxRecDepth 8000
namespace Go.Proofs.YtdkiegkgnimapabDoor.Tbl
open Go.RowKit Go.Deep Math Tab

section
variable {w w' : World} {f nb ob mo : Nat} {nw od : List (List En)} {cnt : Nat} {key : List UInt8}
theorem fnd_hit {es A B : List En} {x : En} (h : es = A ++ x :: B) (hx : x.k = key) : fnd key (es.map kv) ≠ none := by
  intro hn
  refine fnd_none.1 hn ?_
  rw [h]
  refine List.mem_map.2 ⟨kv x, by simp, hx⟩
theorem fnd_miss {es : List En} (h : ∀ x ∈ es, x.k ≠ key) : fnd key (es.map kv) = none := by
  refine fnd_none.2 (fun hm => ?_)
  obtain ⟨a, ha, hk⟩ := List.mem_map.1 hm
  obtain ⟨x, hx, rfl⟩ := List.mem_map.1 ha
  exact h x hx hk
theorem delT_same {t : Tb} (G : Tab.Good hsh t) (hnew : t.isNew hsh key = true) : t.delT hsh key = t.mv hsh := by
  unfold Tb.delT
  have h1 : fnd key ((t.mv hsh).chn hsh key) = none := by
    unfold Tb.isNew Tb.get at hnew
    exact Option.isNone_iff_eq_none.1 hnew
  rw [outV_same (fnd_none.1 h1)]
  exact put_same G.mv key
set_option maxHeartbeats 4000000 in
theorem delete_none {t : Tb} {F : List Nat} (T : TM f t F w) (key : List UInt8) (hk : key.length ≤ maxLen) (hnew : t.isNew hsh key = true) :
    Calls Tryd.prog 63 #[.pointer (some ⟨f, 0, none⟩), .string (txt key)] w fun e w' => e = .returned (.bool false) ∧ ∃ F', TM f (t.delT hsh key) F' w' ∧ Moves F F' w w' := by
  obtain ⟨⟨nb, ob, mo, nw, od, h, g, ht, hF⟩, G⟩ := T
  have G1 : Tab.Good hsh (tb nw od) := ht ▸ G
  have cM := hide (move_any h g G1)
  rw [ht, ← hF] at cM
  clear h g G1 ht hF nw od mo
  rw [delT_same G hnew]
  go_enter Tryd.func63, Tryd.ntmps63
  go_wp2_with fail
  refine cM.out.mono ?_
  rintro e W1 ⟨rfl, mo, nw, od, h, g, ht, M⟩
  have HM := hide M
  clear cM M
  have cC := hide (chainOf_any h g key hk)
  have hget := fnd_chE (key := key) _ ht
  have cF : Hid (∀ q, Calls Tryd.prog 79 #[.pointer (some ⟨locB nb ob mo nw od key, locO mo nw od key, none⟩), .string (txt key)] (W1.drewN q) fun e w' => e = .returned (.bool false) ∧ w' = W1.drewN q) := fun q => by
    obtain ⟨l1, l2, l3⟩ := (h.drewN q).loc g key
    refine (drop_any _ _ _ key _ l2 (l1.frozen _) l3).mono ?_
    rintro e w' (⟨rfl, h2, _⟩ | ⟨A, x, B, _, h2, h3, _⟩)
    · exact ⟨rfl, h2⟩
    · refine absurd (fnd_hit h2 h3) (fun hh => hh ?_)
      rw [hget]
      unfold Tb.isNew at hnew
      exact Option.isNone_iff_eq_none.1 hnew
  have HT : Hid (∀ q, ∃ F', TM f (t.mv hsh) F' (W1.drewN q) ∧ Moves F F' w (W1.drewN q)) := fun q =>
    TC.tm ⟨⟨nb, ob, mo, nw, od, by rw [G.len_mv]; exact h.drewN q, g, ht, HM.out.foot⟩, HM.out.keep.drewN q⟩ G.mv
  generalize locB nb ob mo nw od key = c at *
  generalize locO mo nw od key = o at *
  clear h g hk hget hnew ht G HM
  go_wp2_with fail
  refine cC.out.mono ?_
  rintro e2 W2 ⟨rfl, q, hW⟩
  have cF' := hide (cF.out q)
  have HT' := hide (HT.out q)
  rw [← hW] at cF' HT'
  clear hW cC cF HT
  go_wp2_with fail
  refine cF'.out.mono ?_
  rintro e2 W3 ⟨rfl, hx⟩
  obtain rfl : W2 = W3 := hx.symm
  clear hx cF'
  go_wp2
  go_ret
  exact ⟨rfl, HT'.out⟩
set_option maxHeartbeats 4000000 in
theorem delete_some {t : Tb} {F : List Nat} (T : TM f t F w) (key : List UInt8) (hk : key.length ≤ maxLen) (hnew : t.isNew hsh key = false) (hc : t.all.length ≤ 100000) :
    Calls Tryd.prog 63 #[.pointer (some ⟨f, 0, none⟩), .string (txt key)] w fun e w' => e = .returned (.bool true) ∧ ∃ F', TM f (t.delT hsh key) F' w' ∧ Moves F F' w w' := by
  obtain ⟨⟨nb, ob, mo, nw, od, h, g, ht, hF⟩, G⟩ := T
  have G1 : Tab.Good hsh (tb nw od) := ht ▸ G
  have cM := hide (move_any h g G1)
  rw [ht, ← hF] at cM
  clear h g G1 ht hF nw od mo
  have hlen : (t.delT hsh key).all.length + 1 = t.all.length := by
    have := G.len_delT key
    rw [G.isNew_iff] at hnew
    have e : (fnd key t.all).isSome = true := by cases hq : fnd key t.all with
      | none => rw [hq] at hnew; cases hnew
      | some x => rfl
    rw [e] at this
    exact this
  have GD := hide (G.delT key)
  obtain ⟨n, hn⟩ : ∃ n, n = (t.delT hsh key).all.length := ⟨_, rfl⟩
  have hn1 : t.all.length = n + 1 := by omega
  have hn2 : n ≤ 100000 := by omega
  have HN := hide hn
  rw [hn1] at cM
  clear hlen hn hn1 hc
  go_enter Tryd.func63, Tryd.ntmps63
  go_wp2_with fail
  refine cM.out.mono ?_
  rintro e W1 ⟨rfl, mo, nw, od, h, g, ht, M⟩
  have HM := hide M
  clear cM M
  have cC := hide (chainOf_any h g key hk)
  have hget := fnd_chE (key := key) _ ht
  have cF : Hid (∀ q, Calls Tryd.prog 79 #[.pointer (some ⟨locB nb ob mo nw od key, locO mo nw od key, none⟩), .string (txt key)] (W1.drewN q) fun e w' => e = .returned (.bool true) ∧ TC w F f (t.delT hsh key) (n + 1) w') := fun q => by
    obtain ⟨l1, l2, l3⟩ := (h.drewN q).loc g key
    refine (drop_any _ _ _ key _ l2 (l1.frozen _) l3).mono ?_
    rintro e w' (⟨_, _, h2⟩ | ⟨A, x, B, rfl, h2, h3, _, rfl⟩)
    · refine absurd (fnd_miss h2) (fun hh => ?_)
      rw [hget] at hh
      unfold Tb.isNew at hnew
      rw [hh] at hnew
      cases hnew
    · exact ⟨rfl, cut_tc (h.drewN q) g ht G.mv (HM.out.keep.drewN q) HM.out.foot h2 h3⟩
  generalize locB nb ob mo nw od key = c at *
  generalize locO mo nw od key = o at *
  clear h g hk hget hnew ht G HM
  go_wp2_with fail
  refine cC.out.mono ?_
  rintro e2 W2 ⟨rfl, q, hW⟩
  have cF' := hide (cF.out q)
  rw [← hW] at cF'
  clear hW cC cF
  go_wp2_with fail
  refine cF'.out.mono ?_
  rintro e2 W3 ⟨rfl, hT⟩
  have HT := hide hT
  obtain ⟨d2, f2⟩ := hT.cell2
  clear hT cF'
  have HS := hide (HT.out.setCnt n)
  clear HT
  have ek : ((n + 1 : Nat) : Int) = (n : Int) + 1 := by omega
  have el : (n : Int) + 1 - 1 = (n : Int) := by omega
  rw [ek] at d2
  clear ek
  go_wp2
  go_ret
  exact ⟨rfl, TC.tm (by rw [← HN.out]; exact HS.out) GD.out⟩
theorem delete_any {t : Tb} {F : List Nat} (T : TM f t F w) (key : List UInt8) (hk : key.length ≤ maxLen) (hc : t.all.length ≤ 100000) :
    Calls Tryd.prog 63 #[.pointer (some ⟨f, 0, none⟩), .string (txt key)] w fun e w' => e = .returned (.bool (fnd key t.all).isSome) ∧ ∃ F', TM f (t.delT hsh key) F' w' ∧ Moves F F' w w' := by
  have hi := T.good.isNew_iff key
  cases hq : fnd key t.all with
  | none => rw [hq] at hi; exact delete_none T key hk hi
  | some x => rw [hq] at hi; exact delete_some T key hk hi hc

/-! ### Reading -/
theorem TM.drewN {t : Tb} {F : List Nat} (T : TM f t F w) (q : Nat) : TM f t F (w.drewN q) := by
  obtain ⟨⟨nb, ob, mo, nw, od, h, g, ht, hF⟩, G⟩ := T
  exact ⟨⟨nb, ob, mo, nw, od, h.drewN q, g, ht, hF⟩, G⟩
theorem TM.same {t : Tb} {F : List Nat} (T : TM f t F w) (k : ∀ b ∈ F, w'.heap[b]? = w.heap[b]?) : TM f t F w' := by
  obtain ⟨⟨nb, ob, mo, nw, od, h, g, ht, hF⟩, G⟩ := T
  subst hF
  exact ⟨⟨nb, ob, mo, nw, od, h.same k, g, ht, rfl⟩, G⟩
theorem TM.lt {t : Tb} {F : List Nat} (T : TM f t F w) : ∀ b ∈ F, b < w.heap.size := by
  obtain ⟨⟨nb, ob, mo, nw, od, h, g, ht, hF⟩, G⟩ := T
  subst hF
  exact h.lt
theorem TM.below {t : Tb} {F : List Nat} (T : TM f t F w) (k : Below w.heap.size w w') : TM f t F w' := T.same (fun b hb => k.block b (T.lt b hb))
/-- The blocks of a table are of its own types. -/
theorem TM.ty {t : Tb} {F : List Nat} (T : TM f t F w) : ∀ b ∈ F, ∃ L, Blk w b L 86 ∨ Blk w b L 120 ∨ Blk w b L 107 := by
  obtain ⟨⟨nb, ob, mo, nw, od, h, g, ht, hF⟩, G⟩ := T
  subst hF
  intro b hb
  unfold foot at hb
  rcases List.mem_cons.1 hb with rfl | hb
  · exact ⟨_, .inl h.own⟩
  rcases List.mem_cons.1 hb with rfl | hb
  · exact ⟨_, .inr (.inl h.rN)⟩
  rcases List.mem_append.1 hb with hb | hb
  · by_cases h0 : 0 < od.length
    · rw [if_pos h0] at hb; simp at hb; subst hb; exact ⟨_, .inr (.inl (h.rO h0))⟩
    · rw [if_neg h0] at hb; cases hb
  · obtain ⟨L, hL⟩ := h.ent hb
    exact ⟨L, .inr (.inr hL)⟩
theorem get_tm {t : Tb} {F : List Nat} (T : TM f t F w) (key : List UInt8) (hk : key.length ≤ maxLen) :
    Calls Tryd.prog 26 #[.pointer (some ⟨f, 0, none⟩), .string (txt key)] w fun e w' => e = .returned (.tuple #[.int .i64 ((fnd key t.all).getD 0), .bool (fnd key t.all).isSome]) ∧ ∃ q, w' = w.drewN q := by
  obtain ⟨⟨nb, ob, mo, nw, od, h, g, ht, hF⟩, G⟩ := T
  have := get_any h g key hk
  rw [fnd_chE (key := key) _ ht, G.get_eq] at this
  exact this
theorem len_tm {t : Tb} {F : List Nat} (T : TM f t F w) : Calls Tryd.prog 67 #[.pointer (some ⟨f, 0, none⟩)] w fun e w' => e = .returned (.int .i64 (t.all.length : Int)) ∧ w' = w := by
  obtain ⟨⟨nb, ob, mo, nw, od, h, g, ht, hF⟩, G⟩ := T
  exact len_any h
theorem buckets_tm {t : Tb} {F : List Nat} (T : TM f t F w) : Calls Tryd.prog 68 #[.pointer (some ⟨f, 0, none⟩)] w fun e w' => e = .returned (.int .i64 (t.nw.length : Int)) ∧ w' = w := by
  obtain ⟨⟨nb, ob, mo, nw, od, h, g, ht, hF⟩, G⟩ := T
  have := buckets_any h
  rw [← ht, show (tb nw od).nw.length = nw.length from kvs_len nw]
  exact this
theorem left_tm {t : Tb} {F : List Nat} (T : TM f t F w) : Calls Tryd.prog 65 #[.pointer (some ⟨f, 0, none⟩)] w fun e w' => e = .returned (.int .i64 (t.od.length : Int)) ∧ w' = w := by
  obtain ⟨⟨nb, ob, mo, nw, od, h, g, ht, hF⟩, G⟩ := T
  have := left_any h
  rw [← ht, show (tb nw od).od.length = od.length from kvs_len od]
  exact this

/-! ### New -/
def pw (n : Int) : Bool := decide (n = 1) || decide (n = 2) || decide (n = 4) || decide (n = 8) || decide (n = 16) || decide (n = 32) || decide (n = 64) || decide (n = 128) || decide (n = 256) || decide (n = 512) || decide (n = 1024)
theorem and_pw_fin : ∀ n : Fin 1025, 1 ≤ n.val → (bits .and .i64 (n.val : Int) ((n.val : Int) - 1) = 0 ↔ pw (n.val : Int) = true) := by decide +kernel
theorem and_pw (n : Nat) (h1 : 1 ≤ n) (h2 : n ≤ 1024) : bits .and .i64 (n : Int) ((n : Int) - 1) = 0 ↔ pw (n : Int) = true := and_pw_fin ⟨n, by omega⟩ h1
theorem pw_range {n : Int} (h : pw n = true) : 1 ≤ n ∧ n ≤ 1024 := by
  simp only [pw, Bool.or_eq_true, decide_eq_true_eq] at h
  omega
set_option maxHeartbeats 1000000 in
theorem new_bad (n : Int) (w : World) (h : pw n = false) :
    Calls Tryd.prog 16 #[.int .i64 n] w fun e w' => e = .returned (.tuple #[.pointer none, .int .i64 1]) ∧ w' = w := by
  by_cases h1 : n < 1
  · clear h
    go_enter Tryd.func16, Tryd.ntmps16
    go_wp2
    go_ret2
    exact ⟨rfl, rfl⟩
  by_cases h4 : 1024 < n
  · clear h
    go_enter Tryd.func16, Tryd.ntmps16
    go_wp2
    go_ret2
    exact ⟨rfl, rfl⟩
  have h5 : ¬ bits .and .i64 n (n - 1) = 0 := by
    have := and_pw n.toNat (by omega) (by omega)
    rw [Int.toNat_of_nonneg (by omega)] at this
    rw [this, h]; simp
  obtain ⟨z, hz⟩ : ∃ z, z = bits .and .i64 n (n - 1) := ⟨_, rfl⟩
  rw [← hz] at h5
  have hz2 := hz.symm
  have h6 : (z != 0) = true := by simpa using h5
  clear h hz
  go_enter Tryd.func16, Tryd.ntmps16
  go_wp2
  go_ret2
  exact ⟨rfl, rfl⟩
set_option maxHeartbeats 1000000 in
theorem new_any (n : Nat) (w : World) (h : pw (n : Int) = true) :
    Calls Tryd.prog 16 #[.int .i64 (n : Int)] w fun e w' => e = .returned (.tuple #[.pointer (some ⟨w.heap.size + 1, 0, none⟩), .int .i64 0]) ∧ TM (w.heap.size + 1) (Tb.mk0 n) [w.heap.size + 1, w.heap.size] w' ∧ Below w.heap.size w w' := by
  obtain ⟨h1, h2⟩ := pw_range h
  have e1 : ¬ (n : Int) < 1 := by omega
  have e2 : ¬ (1024 : Int) < (n : Int) := by omega
  have hb : bits .and .i64 (n : Int) ((n : Int) - 1) = 0 := (and_pw n (by omega) (by omega)).2 h
  have hmk := run_make_chains n (by omega)
  obtain ⟨A, hA⟩ : ∃ A, A = nils n := ⟨_, rfl⟩
  rw [← hA] at hmk
  have HA := hide hA
  clear hA h
  go_enter Tryd.func16, Tryd.ntmps16
  go_wp2
  go_ret2
  refine ⟨rfl, ⟨⟨w.heap.size, 0, 0, List.replicate n [], [], ?_, ⟨by simp; omega, by simp; omega, fun h0 => absurd h0 (by simp)⟩, ?_, ?_⟩, Good.mk0 n (by omega) (by omega)⟩, ((Below.refl _ w).alloc (Nat.le_refl _) _).alloc (by simp) _⟩
  · rw [mk0_all]
    refine ⟨?_, ?_, fun h0 => absurd h0 (by simp), fun h0 => absurd h0 (by simp), ?_, by simp⟩
    · have := Blk.new (w.alloc (.cells A 120)) [.slice (some ⟨w.heap.size, 0, none⟩) n n, .slice none 0 0, .int .i64 0] 86
      rw [World.size_alloc] at this
      simp only [List.length_replicate, List.length_nil, oSl_zero]
      exact this
    · have := (Blk.new w (List.replicate n (.pointer none)) 120).alloc (.cells #[.slice (some ⟨w.heap.size, 0, none⟩) n n, .slice none 0 0, .int .i64 0] 86)
      rw [show (List.replicate n (Value.pointer none)).toArray = A from HA.out.symm] at this
      rw [← nils_hd]
      exact this
    · intro c hc
      simp only [List.nil_append, List.mem_replicate] at hc
      rw [hc.2]
      trivial
  · simp [tb, kvs, Tb.mk0]
  · simp [foot]
end
end Go.Proofs.YtdkiegkgnimapabDoor.Tbl
