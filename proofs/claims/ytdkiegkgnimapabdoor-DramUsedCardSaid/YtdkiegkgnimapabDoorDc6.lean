/- Len, Delete, Peek, Get. -/
import Derived.Test.YtdkiegkgnimapabDoorDc5
set_option linter.unusedVariables false
set_option linter.unusedSimpArgs false
set_option maxRecDepth 8000
namespace Go.Proofs.YtdkiegkgnimapabDoor
open Go.RowKit Go.Deep Drm Go.Shelf
open Sgg (I64 SM)
open Sgm (ids addS tchS rmvS evi eviS)
open Slb (Pg SlIn tkC tkE tkL frE frL ofI takI)
open Tbl (TM txt hsh)
open Tab (Tb fnd)
section
variable {w0 W W' : World} {c : Nat} {d : Dm} {i : Int} {key : List UInt8}
theorem len_d (h : DL w0 c d W) : Calls Tryd.prog 11 #[.pointer (some ⟨c, 0, none⟩)] W fun e W' => e = .returned (.int .i64 (d.it.length : Int)) ∧ W' = W := by
  obtain ⟨a, m, t1, t2⟩ := h.ml
  have c3 := m.c3
  have hl := m.mx.mp.len 3
  generalize d.it.length = n at *
  clear h m t1 t2
  go_enter Tryd.func11, Tryd.ntmps11
  go_wp2
  go_ret
  exact ⟨rfl, rfl⟩
set_option maxHeartbeats 1000000 in
theorem delete_d (h : DL w0 c d W) (hk : key.length ≤ 281474976710656) : Calls Tryd.prog 12 #[.pointer (some ⟨c, 0, none⟩), .string (txt key)] W fun e W' => e = .returned (.bool (kfd key d.it).isSome) ∧ DL w0 c (delD key d) W' ∧ OffD W W' := by
  obtain ⟨a, m, t1, t2⟩ := h.ml
  have hI := h.iv
  have c1 := m.c1
  have cG := hide (tget_p m hk)
  rw [t1] at cG
  have HH := hide h
  generalize txt key = tk at *
  cases hf : kfd key d.it with
  | none =>
    rw [hf] at cG
    simp only [Option.getD_none, Option.isSome_none] at cG ⊢
    have HE : Hid (∀ q, DL w0 c (delD key d) (W.drewN q) ∧ OffD W (W.drewN q)) := fun q => by
      rw [delD_none hf]
      exact ⟨HH.out.drewN q, OffD.refl W⟩
    clear h m t1 t2 hI hf HH hk
    go_enter Tryd.func12, Tryd.ntmps12
    go_wp2_with fail
    refine cG.out.mono ?_
    rintro e W1 ⟨rfl, q, hq⟩
    have HE1 := hide (HE.out q)
    rw [← hq] at HE1
    clear cG HE hq c1
    go_wp2
    go_ret
    exact ⟨rfl, HE1.out⟩
  | some j =>
    obtain ⟨o, h1, h2, h3, h4⟩ := hI.key hf
    rw [hf] at cG
    simp only [Option.getD_some, Option.isSome_some] at cG ⊢
    have HE : Hid (∀ q, Calls Tryd.prog 27 #[.pointer (some ⟨c, 0, none⟩), .int .i64 j] (W.drewN q) fun e W' => e = .returned (.tuple #[]) ∧ DL w0 c (delD key d) W' ∧ OffD W W') := fun q => by
      rw [delD_some hf]
      exact drop_d (HH.out.drewN q) h4
    clear h m t1 t2 hI hf h1 h2 h3 h4 HH hk
    go_enter Tryd.func12, Tryd.ntmps12
    go_wp2_with fail
    refine cG.out.mono ?_
    rintro e W1 ⟨rfl, q, hq⟩
    have HE1 := hide (HE.out q)
    rw [← hq] at HE1
    clear cG HE hq c1
    go_wp2_with fail
    refine HE1.out.mono ?_
    rintro e W2 ⟨rfl, m2⟩
    have HM := hide m2
    clear m2 HE1
    go_wp2
    go_ret
    exact ⟨rfl, HM.out⟩
/-! ### Peek -/
set_option maxHeartbeats 1000000 in
theorem peek_none (h : DL w0 c d W) (hk : key.length ≤ 281474976710656) (hf : kfd key d.it = none) : Calls Tryd.prog 9 #[.pointer (some ⟨c, 0, none⟩), .string (txt key)] W fun e W' => e = .returned (.tuple #[ouV zOu, .bool false]) ∧ DL w0 c d W' ∧ OffD W W' := by
  obtain ⟨W0, hW0⟩ : ∃ W0, W0 = W.alloc (.cells #[.string ⟨#[]⟩, .string ⟨#[]⟩, .int .u32 0, .int .i64 0, .int .u64 0, .bool false] 40) := ⟨_, rfl⟩
  have b0 : Below W.heap.size W W0 := by rw [hW0]; exact (Below.refl _ W).alloc (Nat.le_refl _) _
  obtain ⟨B, hB⟩ : ∃ B, B = W.heap.size := ⟨_, rfl⟩
  have k0 : Blk W0 B (L6 ⟨#[]⟩ ⟨#[]⟩ 0 0 0 false) 40 := by rw [hW0, hB]; exact Blk.new W _ 40
  have hd := h.on b0
  obtain ⟨a, m, t1, t2⟩ := hd.ml
  have c1 := m.c1
  have cG := hide (tget_p m hk)
  rw [t1, hf] at cG
  simp only [Option.getD_none, Option.isSome_none, Option.getD_some, Option.isSome_some] at cG
  have HL : Hid (w0.heap.size ≤ B ∧ W.heap.size ≤ B) := by rw [hB]; exact ⟨h.bel.size, Nat.le_refl _⟩
  have HH := hide hd
  have HO := hide (OffD.below b0)
  have HK := hide k0
  unfold ouV zOu zIt
  simp only
  have ht0 : txt [] = ⟨#[]⟩ := rfl
  rw [ht0]
  clear ht0
  generalize txt key = tk at *
  rw [hW0] at cG c1
  have HW0 := hide hW0
  have HB := hide hB
  clear h hd m t1 t2 b0 k0 hk hW0 hB hf
  go_enter Tryd.func9, Tryd.ntmps9
  go_wp2_with fail
  refine cG.out.mono ?_
  rintro e W1 ⟨rfl, q, hq⟩
  rw [← HW0.out] at hq
  have d1 := HH.out.drewN q
  have k1 := HK.out
  have o1 := HO.out.drewN q
  have k1' : Blk (W0.drewN q) B _ _ := k1
  rw [← hq] at d1 o1 k1'
  rw [← HB.out]
  clear cG hq k1 HH HO HK c1 HW0 HB
  have HE : Hid (DL w0 c d (put6 W1 B ⟨#[]⟩ ⟨#[]⟩ 0 0 0 false) ∧ OffD W (put6 W1 B ⟨#[]⟩ ⟨#[]⟩ 0 0 0 false)) := by
    have k6 : Keep [B] W1 (put6 W1 B ⟨#[]⟩ ⟨#[]⟩ 0 0 0 false) := put6_keep (Keep.refl _ _) (.inl (by simp))
    exact ⟨d1.box k1' rfl HL.out.1 k6, o1.box HL.out.2 k6⟩
  obtain ⟨y0, y1, y2, y3, y4, y5, z0, z1, z2, z3, z4, z5⟩ := cells6 k1'
  clear d1 o1 k1'
  go_wp2
  exact bodyPost_ret (v := .tuple #[.agg #[.string ⟨#[]⟩, .string ⟨#[]⟩, .int .u32 0, .int .i64 0, .int .u64 0, .bool false], .bool false]) (by simp [results, Tryd.results9, go_sem, *]) rfl ⟨rfl, HE.out⟩
set_option maxHeartbeats 1000000 in
theorem peek_some (h : DL w0 c d W) (hk : key.length ≤ 281474976710656) (hf : kfd key d.it = some i) {o : Ou} (ho : lok i d.it = some o) : Calls Tryd.prog 9 #[.pointer (some ⟨c, 0, none⟩), .string (txt key)] W fun e W' => e = .returned (.tuple #[ouV o, .bool true]) ∧ DL w0 c d W' ∧ OffD W W' := by
  have HI : Hid (I64 i) := h.iv.i64 (by obtain ⟨o, _, _, _, h4⟩ := h.iv.key hf; exact h4)
  obtain ⟨W0, hW0⟩ : ∃ W0, W0 = W.alloc (.cells #[.string ⟨#[]⟩, .string ⟨#[]⟩, .int .u32 0, .int .i64 0, .int .u64 0, .bool false] 40) := ⟨_, rfl⟩
  have b0 : Below W.heap.size W W0 := by rw [hW0]; exact (Below.refl _ W).alloc (Nat.le_refl _) _
  obtain ⟨B, hB⟩ : ∃ B, B = W.heap.size := ⟨_, rfl⟩
  have k0 : Blk W0 B (L6 ⟨#[]⟩ ⟨#[]⟩ 0 0 0 false) 40 := by rw [hW0, hB]; exact Blk.new W _ 40
  have hd := h.on b0
  obtain ⟨a, m, t1, t2⟩ := hd.ml
  have c1 := m.c1
  have cG := hide (tget_p m hk)
  rw [t1, hf] at cG
  simp only [Option.getD_none, Option.isSome_none, Option.getD_some, Option.isSome_some] at cG
  have HL : Hid (w0.heap.size ≤ B ∧ W.heap.size ≤ B) := by rw [hB]; exact ⟨h.bel.size, Nat.le_refl _⟩
  have HH := hide hd
  have HO := hide (OffD.below b0)
  have HK := hide k0
  unfold ouV
  have HOO := hide ho
  clear ho
  generalize htk : txt key = tk at *
  clear htk
  generalize hok : txt o.x.k = ok at *
  generalize hov : txt o.x.v = ov at *
  have HOK := hide hok
  have HOV := hide hov
  clear hok hov
  rw [hW0] at cG c1
  have HW0 := hide hW0
  have HB := hide hB
  clear h hd m t1 t2 b0 k0 hk hW0 hB hf
  go_enter Tryd.func9, Tryd.ntmps9
  go_wp2_with fail
  refine cG.out.mono ?_
  rintro e W1 ⟨rfl, q, hq⟩
  rw [← HW0.out] at hq
  have d1 := HH.out.drewN q
  have k1 := HK.out
  have o1 := HO.out.drewN q
  have k1' : Blk (W0.drewN q) B _ _ := k1
  rw [← hq] at d1 o1 k1'
  rw [← HB.out]
  clear cG hq k1 HH HO HK c1 HW0 HB
  obtain ⟨a2, m2, -, -⟩ := d1.ml
  have c3 := m2.c3
  have hl := m2.mx.mp.look HI.out
  rw [HOO.out] at hl
  simp only [Option.getD_some] at hl
  unfold ouV at hl
  rw [HOK.out, HOV.out] at hl
  have HE : Hid (DL w0 c d (put6 W1 B ok ov o.x.fl o.x.ex o.x.ve o.c) ∧ OffD W (put6 W1 B ok ov o.x.fl o.x.ex o.x.ve o.c)) := by
    have k6 : Keep [B] W1 (put6 W1 B ok ov o.x.fl o.x.ex o.x.ve o.c) := put6_keep (Keep.refl _ _) (.inl (by simp))
    exact ⟨d1.box k1' rfl HL.out.1 k6, o1.box HL.out.2 k6⟩
  obtain ⟨y0, y1, y2, y3, y4, y5, z0, z1, z2, z3, z4, z5⟩ := cells6 k1'
  clear d1 o1 k1' m2
  go_wp2
  exact bodyPost_ret (v := .tuple #[.agg #[.string ok, .string ov, .int .u32 o.x.fl, .int .i64 o.x.ex, .int .u64 o.x.ve, .bool o.c], .bool true]) (by simp [results, Tryd.results9, go_sem, *]) rfl ⟨rfl, HE.out⟩
/-! ### Get -/
def tchD (i : Int) (d : Dm) : Dm := ⟨d.pg, updS d.sg (Drm.cls i d) (tchS i (d.sg (Drm.cls i d))), d.it⟩
theorem Drm.Iv.tch (h : Iv d) (hi : i ∈ nums d.it) : Iv (tchD i d) := by
  refine ⟨h.good, h.len, h.nd, h.kn, h.bit, h.tot, fun k hk j => ?_, fun k hk => ?_, h.ok⟩
  · show j ∈ ids (updS d.sg (Drm.cls i d) (tchS i (d.sg (Drm.cls i d))) k).all ↔ _
    by_cases e : k = Drm.cls i d
    · rw [e, updS_same, Sgm.tch_ids, ← e]; exact h.seg k hk j
    · rw [updS_other _ _ e]; exact h.seg k hk j
  · show (updS d.sg (Drm.cls i d) (tchS i (d.sg (Drm.cls i d))) k).Nd
    by_cases e : k = Drm.cls i d
    · rw [e, updS_same]; exact Sgm.tch_nd (by rw [← e]; exact h.snd k hk)
    · rw [updS_other _ _ e]; exact h.snd k hk
set_option maxHeartbeats 1000000 in
theorem get_none (h : DL w0 c d W) (hk : key.length ≤ 281474976710656) (now : Int) (hf : kfd key d.it = none) : Calls Tryd.prog 8 #[.pointer (some ⟨c, 0, none⟩), .string (txt key), .int .i64 now] W fun e W' => e = .returned (.tuple #[itV zIt, .bool false]) ∧ DL w0 c d W' ∧ OffD W W' := by
  obtain ⟨W0, hW0⟩ : ∃ W0, W0 = W.alloc (.cells #[.string ⟨#[]⟩, .string ⟨#[]⟩, .int .u32 0, .int .i64 0, .int .u64 0] 33) := ⟨_, rfl⟩
  have b0 : Below W.heap.size W W0 := by rw [hW0]; exact (Below.refl _ W).alloc (Nat.le_refl _) _
  obtain ⟨B, hB⟩ : ∃ B, B = W.heap.size := ⟨_, rfl⟩
  have k0 : Blk W0 B (L5 ⟨#[]⟩ ⟨#[]⟩ 0 0 0) 33 := by rw [hW0, hB]; exact Blk.new W _ 33
  have hd := h.on b0
  obtain ⟨a, m, t1, t2⟩ := hd.ml
  have c1 := m.c1
  have cG := hide (tget_p m hk)
  rw [t1, hf] at cG
  simp only [Option.getD_none, Option.isSome_none, Option.getD_some, Option.isSome_some] at cG
  have HL : Hid (w0.heap.size ≤ B ∧ W.heap.size ≤ B) := by rw [hB]; exact ⟨h.bel.size, Nat.le_refl _⟩
  have HH := hide hd
  have HO := hide (OffD.below b0)
  have HK := hide k0
  unfold itV zIt
  simp only
  have ht0 : txt [] = ⟨#[]⟩ := rfl
  rw [ht0]
  clear ht0
  generalize txt key = tk at *
  rw [hW0] at cG c1
  have HW0 := hide hW0
  have HB := hide hB
  clear h hd m t1 t2 b0 k0 hk hW0 hB hf
  go_enter Tryd.func8, Tryd.ntmps8
  go_wp2_with fail
  refine cG.out.mono ?_
  rintro e W1 ⟨rfl, q, hq⟩
  rw [← HW0.out] at hq
  have d1 := HH.out.drewN q
  have k1 := HK.out
  have o1 := HO.out.drewN q
  have k1' : Blk (W0.drewN q) B _ _ := k1
  rw [← hq] at d1 o1 k1'
  rw [← HB.out]
  clear cG hq k1 HH HO HK c1 HW0 HB
  have HE : Hid (DL w0 c d (put5 W1 B ⟨#[]⟩ ⟨#[]⟩ 0 0 0) ∧ OffD W (put5 W1 B ⟨#[]⟩ ⟨#[]⟩ 0 0 0)) := by
    have k6 : Keep [B] W1 (put5 W1 B ⟨#[]⟩ ⟨#[]⟩ 0 0 0) := put5_keep (Keep.refl _ _) (.inl (by simp))
    exact ⟨d1.box k1' rfl HL.out.1 k6, o1.box HL.out.2 k6⟩
  obtain ⟨y0, y1, y2, y3, y4, z0, z1, z2, z3, z4⟩ := cells5 k1'
  clear d1 o1 k1'
  go_wp2
  exact bodyPost_ret (v := .tuple #[.agg #[.string ⟨#[]⟩, .string ⟨#[]⟩, .int .u32 0, .int .i64 0, .int .u64 0], .bool false]) (by simp [results, Tryd.results8, go_sem, *]) rfl ⟨rfl, HE.out⟩
set_option maxHeartbeats 2000000 in
theorem get_some (h : DL w0 c d W) (hk : key.length ≤ 281474976710656) (now : Int) (hf : kfd key d.it = some i) {o : Ou} (ho : lok i d.it = some o) : Calls Tryd.prog 8 #[.pointer (some ⟨c, 0, none⟩), .string (txt key), .int .i64 now] W fun e W' => e = .returned (.tuple #[if deadB o.x.ex now then itV zIt else itV o.x, .bool (!deadB o.x.ex now)]) ∧ DL w0 c (if deadB o.x.ex now then dropD i d else tchD i d) W' ∧ OffD W W' := by
  have him : i ∈ nums d.it := by obtain ⟨o, _, _, _, h4⟩ := h.iv.key hf; exact h4
  have HIM := hide him
  have HI := hide (h.iv.i64 him)
  have HIV := hide h.iv
  clear him
  obtain ⟨W0, hW0⟩ : ∃ W0, W0 = W.alloc (.cells #[.string ⟨#[]⟩, .string ⟨#[]⟩, .int .u32 0, .int .i64 0, .int .u64 0] 33) := ⟨_, rfl⟩
  have b0 : Below W.heap.size W W0 := by rw [hW0]; exact (Below.refl _ W).alloc (Nat.le_refl _) _
  obtain ⟨B, hB⟩ : ∃ B, B = W.heap.size := ⟨_, rfl⟩
  have k0 : Blk W0 B (L5 ⟨#[]⟩ ⟨#[]⟩ 0 0 0) 33 := by rw [hW0, hB]; exact Blk.new W _ 33
  have hd := h.on b0
  obtain ⟨a, m, t1, t2⟩ := hd.ml
  have c1 := m.c1
  have cG := hide (tget_p m hk)
  rw [t1, hf] at cG
  simp only [Option.getD_none, Option.isSome_none, Option.getD_some, Option.isSome_some] at cG
  have HL : Hid (w0.heap.size ≤ B ∧ W.heap.size ≤ B) := by rw [hB]; exact ⟨h.bel.size, Nat.le_refl _⟩
  have HH := hide hd
  have HO := hide (OffD.below b0)
  have HK := hide k0
  have HOO := hide ho
  clear ho
  generalize htk : txt key = tk at *
  clear htk
  unfold itV
  generalize hok : txt o.x.k = ok at *
  generalize hov : txt o.x.v = ov at *
  have HOK := hide hok
  have HOV := hide hov
  have hz1 : txt zIt.k = ⟨#[]⟩ := rfl
  have hz2 : txt zIt.v = ⟨#[]⟩ := rfl
  rw [hz1, hz2, show zIt.fl = 0 from rfl, show zIt.ex = 0 from rfl, show zIt.ve = 0 from rfl]
  clear hok hov hz1 hz2
  obtain ⟨db, hdb⟩ : ∃ db, db = deadB o.x.ex now := ⟨_, rfl⟩
  rw [← hdb]
  have HDB := hide hdb
  clear hdb
  rw [hW0] at cG c1
  have HW0 := hide hW0
  have HB := hide hB
  clear h hd m t1 t2 b0 k0 hk hW0 hB hf
  go_enter Tryd.func8, Tryd.ntmps8
  go_wp2_with fail
  refine cG.out.mono ?_
  rintro e W1 ⟨rfl, q, hq⟩
  rw [← HW0.out] at hq
  have d1 := HH.out.drewN q
  have k1 := HK.out
  have o1 := HO.out.drewN q
  have k1' : Blk (W0.drewN q) B _ _ := k1
  rw [← hq] at d1 o1 k1'
  rw [← HB.out]
  clear cG hq k1 HH HO HK c1 HW0 HB
  obtain ⟨a2, m2, -, -⟩ := d1.ml
  have c3 := m2.c3
  have hl := m2.mx.mp.look HI.out
  rw [HOO.out] at hl
  simp only [Option.getD_some] at hl
  unfold ouV at hl
  rw [HOK.out, HOV.out] at hl
  have hfd : ∀ w : World, (Instr.field 40 (.agg #[.string ok, .string ov, .int .u32 o.x.fl, .int .i64 o.x.ex, .int .u64 o.x.ve, .bool o.c]) 0).run Tryd.prog w = .ok (.agg #[.string ok, .string ov, .int .u32 o.x.fl, .int .i64 o.x.ex, .int .u64 o.x.ve]) w := fun _ => by kernel_rfl
  obtain ⟨W2, hW2⟩ : ∃ W2, W2 = W1.alloc (.cells #[.string ok, .string ov, .int .u32 o.x.fl, .int .i64 o.x.ex, .int .u64 o.x.ve] 33) := ⟨_, rfl⟩
  obtain ⟨B2, hB2⟩ : ∃ B2, B2 = W1.heap.size := ⟨_, rfl⟩
  have b2 : Below W1.heap.size W1 W2 := by rw [hW2]; exact (Below.refl _ W1).alloc (Nat.le_refl _) _
  have k2 : Blk W2 B2 (L5 ok ov o.x.fl o.x.ex o.x.ve) 33 := by rw [hW2, hB2]; exact Blk.new W1 _ 33
  have kb : Blk W2 B _ _ := k1'.same (b2.block _ k1'.lt)
  have HD2 := hide (d1.on b2)
  have O2 := hide (o1.trans (OffD.below b2))
  have HNB : Hid (W.heap.size ≤ B2) := by rw [hB2]; exact o1.1
  have cD := hide (dead_any (some ⟨c, 0, none⟩) ok ov o.x.fl o.x.ex o.x.ve now W2)
  rw [← HDB.out] at cD
  unfold iV at cD
  rw [hW2] at cD
  have HW2 := hide hW2
  have HB2 := hide hB2
  have HK2 := hide k2
  have HKB := hide kb
  clear d1 o1 k1' m2 b2 k2 kb hW2 hB2
  go_wp2_with fail
  refine cD.out.mono ?_
  rintro e W3 ⟨rfl, b3⟩
  rw [← HW2.out] at b3
  rw [← HB2.out]
  have D3 := hide (HD2.out.on b3)
  have O3 := hide (O2.out.trans (OffD.below b3))
  have K3 := hide (HK2.out.same (b3.block _ HK2.out.lt))
  have KB3 := hide (HKB.out.same (b3.block _ HKB.out.lt))
  clear cD b3 HD2 O2 HK2 HKB HW2 HB2 W2 c3 hl
  cases db with
  | true =>
    simp only [if_true, Bool.not_true]
    have cX := hide (drop_d D3.out HIM.out)
    clear D3
    go_wp2_with fail
    refine cX.out.mono ?_
    rintro e W4 ⟨rfl, d4, o4⟩
    have kb := KB3.out.offD o4 rfl
    have HE : Hid (DL w0 c (dropD i d) (put5 W4 B ⟨#[]⟩ ⟨#[]⟩ 0 0 0) ∧ OffD W (put5 W4 B ⟨#[]⟩ ⟨#[]⟩ 0 0 0)) := by
      have k6 : Keep [B] W4 (put5 W4 B ⟨#[]⟩ ⟨#[]⟩ 0 0 0) := put5_keep (Keep.refl _ _) (.inl (by simp))
      exact ⟨d4.box kb rfl HL.out.1 k6, (O3.out.trans o4).box HL.out.2 k6⟩
    obtain ⟨y0, y1, y2, y3, y4, z0, z1, z2, z3, z4⟩ := cells5 kb
    clear cX d4 o4 kb K3 KB3 O3
    go_wp2
    exact bodyPost_ret (v := .tuple #[.agg #[.string ⟨#[]⟩, .string ⟨#[]⟩, .int .u32 0, .int .i64 0, .int .u64 0], .bool false]) (by simp [results, Tryd.results8, go_sem, *]) rfl ⟨rfl, HE.out⟩
  | false =>
    simp only [Bool.false_eq_true, if_false, Bool.not_false]
    obtain ⟨a3, m3, t3, t4⟩ := D3.out.ml
    have hcl := HIV.out.cls HIM.out
    have cS := hide (segOf_p m3 HIV.out.good HI.out.2 hcl.1 (HIV.out.ofI HIM.out))
    have HT : Hid (∀ W4, Below W3.heap.size W3 W4 → Calls Tryd.prog 29 #[.pointer (some ⟨a3.g (Drm.cls i d), 0, none⟩), .int .i64 i] W4 fun e W' => e = .returned (.bool ((d.sg (Drm.cls i d)).has i)) ∧ DL w0 c (tchD i d) W' ∧ OffD W4 W') := fun W4 b4 => by
      refine (stch_p hcl.1 (m3.on b4) HI.out).mono ?_
      rintro e W' ⟨rfl, F', m5, o5⟩
      exact ⟨rfl, ⟨⟨_, m5, t3, t4⟩, HIV.out.tch HIM.out⟩, o5⟩
    generalize a3.g (Drm.cls i d) = agk at *
    generalize (d.sg (Drm.cls i d)).has i = bb at *
    clear m3 t3 t4 hcl D3
    go_wp2_with fail
    refine cS.out.mono ?_
    rintro e W4 ⟨rfl, b4⟩
    have cT := hide (HT.out W4 b4)
    have O4 := hide (O3.out.trans (OffD.below b4))
    have K4 := hide (K3.out.same (b4.block _ K3.out.lt))
    have KB4 := hide (KB3.out.same (b4.block _ KB3.out.lt))
    clear cS HT b4 O3 K3 KB3
    go_wp2_with fail
    refine cT.out.mono ?_
    rintro e W5 ⟨rfl, d5, o5⟩
    have kb := KB4.out.offD o5 rfl
    have k5 := K4.out.offD o5 rfl
    have HE : Hid (DL w0 c (tchD i d) (put5 W5 B ok ov o.x.fl o.x.ex o.x.ve) ∧ OffD W (put5 W5 B ok ov o.x.fl o.x.ex o.x.ve)) := by
      have k6 : Keep [B] W5 (put5 W5 B ok ov o.x.fl o.x.ex o.x.ve) := put5_keep (Keep.refl _ _) (.inl (by simp))
      exact ⟨d5.box kb rfl HL.out.1 k6, (O4.out.trans o5).box HL.out.2 k6⟩
    obtain ⟨y0, y1, y2, y3, y4, z0, z1, z2, z3, z4⟩ := cells5 kb
    obtain ⟨x0, x1, x2, x3, x4, -⟩ := cells5 k5
    clear cT d5 o5 kb k5 K4 KB4 O4
    go_wp2
    exact bodyPost_ret (v := .tuple #[.agg #[.string ok, .string ov, .int .u32 o.x.fl, .int .i64 o.x.ex, .int .u64 o.x.ve], .bool true]) (by simp [results, Tryd.results8, go_sem, *]) rfl ⟨rfl, HE.out⟩
end
end Go.Proofs.YtdkiegkgnimapabDoor
