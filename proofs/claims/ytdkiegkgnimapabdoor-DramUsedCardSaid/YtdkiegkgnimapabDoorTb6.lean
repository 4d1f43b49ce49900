/- New, isFull, grow, move of any table. -/
import Derived.Test.YtdkiegkgnimapabDoorTb5
import Derived.Laws.MakeOwn
set_option linter.unusedVariables false
set_option linter.unusedSimpArgs false
set_option maxRecDepth 8000
namespace Go.Proofs.YtdkiegkgnimapabDoor.Tbl
open Go.RowKit Go.Deep Math Tab

theorem info60 : (Tryd.prog.info? 120).map (fun i => (i.zero, i.size, i.bytes)) = some (some (.agg #[.pointer none]), 1, 8) := by kernel_rfl
def nils (n : Nat) : Array Value := (List.replicate n (Value.pointer none)).toArray
theorem run_make_chains (n : Nat) (hn : n ≤ 1000000) (w : World) :
    (Instr.makeSlice 84 (.int .i64 (n : Int)) (.int .i64 (n : Int))).run Tryd.prog w = .ok (.slice (some ⟨w.heap.size, 0, none⟩) n n) (w.alloc (.cells (nils n) 120)) := by
  unfold nils
  obtain ⟨i, hi, hi2⟩ := Option.map_eq_some_iff.1 info60
  simp only [Prod.mk.injEq] at hi2
  obtain ⟨hz0, hz1, hz2⟩ := hi2
  have := run_make (P := Tryd.prog) w 84 120 i (.agg #[.pointer none]) Tryd.underlying84 hi hz0 .i64 .i64 (n : Int) (n : Int) (by omega) (by omega) (by rw [hz2]; omega) (by omega)
  rw [this, hz1]
  have e : madeCells (Value.agg #[.pointer none]).cells ((n : Int).toNat * 1) = (List.replicate n (Value.pointer none)).toArray := by
    have hc : (Value.agg #[.pointer none]).cells = #[.pointer none] := rfl
    rw [hc, Int.toNat_natCast, Nat.mul_one]
    unfold madeCells
    apply Array.ext'
    apply List.ext_getElem?
    intro j
    by_cases hj : j < n
    · rw [List.toList_toArray, List.getElem?_replicate, if_pos hj]
      simp [hj, Nat.mod_one]
    · rw [List.toList_toArray, List.getElem?_eq_none (by simp; omega), List.getElem?_eq_none (by simp; omega)]
  rw [e, Int.toNat_natCast]
theorem nils_hd (n : Nat) : (List.replicate n (Value.pointer none)) = (List.replicate n ([] : List En)).map hd := by simp [hd]
section
variable {w w' : World} {f nb ob mo : Nat} {nw od : List (List En)} {cnt : Nat} {key : List UInt8}
/-! ### isFull -/
def fullB (n m cnt : Nat) : Bool := decide (3 * n < 2 * cnt) && decide (m = 0) && decide (n < 65536)
set_option maxHeartbeats 2000000 in
theorem isFull_any (h : TbIn w f nb ob mo nw od cnt) (g : Fits nw od mo) (hc : cnt ≤ 1000000) : Calls Tryd.prog 46 #[.pointer (some ⟨f, 0, none⟩)] w fun e w' => e = .returned (.bool (fullB nw.length od.length cnt)) ∧ w' = w := by
  have c0 := hide (len_any h)
  have c1 := hide (buckets_any h)
  have c2 := hide (left_any h)
  have g2 := g.n9
  generalize nw.length = n at *
  generalize od.length = m at *
  clear h g
  by_cases h1 : 3 * n < 2 * cnt
  · have e1 : (3 * (n : Int) < 2 * (cnt : Int)) = True := eq_true (by omega)
    by_cases h2 : m = 0
    · subst h2
      by_cases h3 : n < 65536
      · rw [show fullB n 0 cnt = true by simp [fullB, h1, h3]]
        have e3 : ((n : Int) < 65536) = True := eq_true (by omega)
        clear h1 h3
        go_enter Tryd.func46, Tryd.ntmps46
        go_wp2_with fail
        refine c0.out.mono ?_
        rintro e wx ⟨rfl, hx⟩
        obtain rfl : w = wx := hx.symm
        clear hx c0
        go_wp2_with fail
        refine c1.out.mono ?_
        rintro e wx ⟨rfl, hx⟩
        obtain rfl : w = wx := hx.symm
        clear hx
        go_wp2_with fail
        refine c2.out.mono ?_
        rintro e wx ⟨rfl, hx⟩
        obtain rfl : w = wx := hx.symm
        clear hx
        go_wp2_with fail
        refine c1.out.mono ?_
        rintro e wx ⟨rfl, hx⟩
        obtain rfl : w = wx := hx.symm
        clear hx
        go_wp2
        go_ret
        exact ⟨rfl, rfl⟩
      · rw [show fullB n 0 cnt = false by simp [fullB, h3]]
        have e3 : ((n : Int) < 65536) = False := eq_false (by omega)
        clear h1 h3
        go_enter Tryd.func46, Tryd.ntmps46
        go_wp2_with fail
        refine c0.out.mono ?_
        rintro e wx ⟨rfl, hx⟩
        obtain rfl : w = wx := hx.symm
        clear hx c0
        go_wp2_with fail
        refine c1.out.mono ?_
        rintro e wx ⟨rfl, hx⟩
        obtain rfl : w = wx := hx.symm
        clear hx
        go_wp2_with fail
        refine c2.out.mono ?_
        rintro e wx ⟨rfl, hx⟩
        obtain rfl : w = wx := hx.symm
        clear hx
        go_wp2_with fail
        refine c1.out.mono ?_
        rintro e wx ⟨rfl, hx⟩
        obtain rfl : w = wx := hx.symm
        clear hx
        go_wp2
        go_ret
        exact ⟨rfl, rfl⟩
    · rw [show fullB n m cnt = false by simp [fullB, h2]]
      have e2 : ((m : Int) == 0) = false := by simp; omega
      have e3 : ¬ (m : Int) = 0 := by omega
      clear h1 h2
      go_enter Tryd.func46, Tryd.ntmps46
      go_wp2_with fail
      refine c0.out.mono ?_
      rintro e wx ⟨rfl, hx⟩
      obtain rfl : w = wx := hx.symm
      clear hx c0
      go_wp2_with fail
      refine c1.out.mono ?_
      rintro e wx ⟨rfl, hx⟩
      obtain rfl : w = wx := hx.symm
      clear hx
      go_wp2_with fail
      refine c2.out.mono ?_
      rintro e wx ⟨rfl, hx⟩
      obtain rfl : w = wx := hx.symm
      clear hx
      go_wp2
      go_ret
      exact ⟨rfl, rfl⟩
  · rw [show fullB n m cnt = false by simp [fullB, h1]]
    have e1 : (3 * (n : Int) < 2 * (cnt : Int)) = False := eq_false (by omega)
    clear h1
    go_enter Tryd.func46, Tryd.ntmps46
    go_wp2_with fail
    refine c0.out.mono ?_
    rintro e wx ⟨rfl, hx⟩
    obtain rfl : w = wx := hx.symm
    clear hx c0
    go_wp2_with fail
    refine c1.out.mono ?_
    rintro e wx ⟨rfl, hx⟩
    obtain rfl : w = wx := hx.symm
    clear hx
    go_wp2
    go_ret
    exact ⟨rfl, rfl⟩

/-! ### grow -/
set_option maxHeartbeats 1000000 in
theorem grow_any (h : TbIn w f nb ob mo nw od cnt) (g : Fits nw od mo) (h0 : od = []) (hc : nw.length < 65536) : Calls Tryd.prog 47 #[.pointer (some ⟨f, 0, none⟩)] w fun e w' => e = .returned (.tuple #[]) ∧
    TbIn w' f w.heap.size nb 0 (List.replicate (2 * nw.length) []) nw cnt ∧ Keep [f] w w' := by
  subst h0
  have hl := h.own.lt
  have c0 := h.c0
  have c1 := h.c1
  rw [List.length_nil, oSl_zero] at c1
  have f0 := h.own.frozen 0
  have f1 := h.own.frozen 1
  obtain ⟨n, hn⟩ : ∃ n, n = nw.length := ⟨_, rfl⟩
  rw [← hn] at c0 hc
  have hmk := run_make_chains (2 * n) (by omega)
  have ek : ((2 * n : Nat) : Int) = 2 * (n : Int) := by omega
  rw [ek] at hmk
  obtain ⟨N, hN⟩ : ∃ N, N = 2 * n := ⟨_, rfl⟩
  rw [← hN] at hmk
  obtain ⟨Z, hZ⟩ : ∃ Z, Z = nils N := ⟨_, rfl⟩
  rw [← hZ] at hmk
  have HZ := hide hZ
  have HN := hide hN
  have Hn := hide hn
  have Hh := hide h
  have Hg := hide g
  clear hZ hN hn h g ek
  obtain ⟨w1, hw1⟩ : ∃ w1, w1 = w.setCell ⟨f, 1, none⟩ (.slice (some ⟨nb, 0, none⟩) n n) := ⟨_, rfl⟩
  have b1 : Blk w1 f [.slice (some ⟨nb, 0, none⟩) n n, .slice (some ⟨nb, 0, none⟩) n n, .int .i64 (cnt : Int)] 86 := by
    rw [hw1]
    have := Hh.out.own.set 1 (.slice (some ⟨nb, 0, none⟩) n n)
    rw [← Hn.out] at this
    exact this
  have s1 : w1.heap.size = w.heap.size := by rw [hw1]; exact nblk_setCell _ _ _
  have d1 := b1.cell (i := 1) rfl
  have d0 := b1.cell (i := 0) rfl
  have e0 := b1.frozen 0
  have hl1 : f < w1.heap.size := by rw [s1]; exact hl
  have B1 := hide b1
  have S1 := hide s1
  have HW := hide hw1
  clear b1 s1
  go_enter Tryd.func47, Tryd.ntmps47
  go_wp2
  go_end0
  refine ⟨rfl, ?_, ?_⟩
  · have h := Hh.out
    have hN2 : N = 2 * nw.length := by rw [HN.out, Hn.out]
    have oth : ∀ b, b ≠ f → b < w.heap.size → (((w.setCell ⟨f, 1, none⟩ (.slice (some ⟨nb, 0, none⟩) n n)).setCell ⟨f, 0, none⟩ (.slice (some ⟨w.heap.size, 0, none⟩) N N)).alloc (.cells Z 120)).heap[b]? = w.heap[b]? := fun b hb hlt => by
      rw [blk_alloc_lt _ _ _ (by rw [nblk_setCell, nblk_setCell]; exact hlt), blk_setCell_other _ _ _ _ hb, blk_setCell_other _ _ _ _ hb]
    have hfN : nb ≠ f := h.rN.ty_ne h.own (by decide)
    have hg := Hg.out.n1
    refine ⟨?_, ?_, fun _ => ?_, fun _ => ?_, ?_, ?_⟩
    · have := (B1.out.set 0 (.slice (some ⟨w.heap.size, 0, none⟩) N N)).alloc (.cells Z 120)
      rw [List.length_replicate, oSl_pos _ _ _ (by omega), ← Hn.out, ← HN.out]
      rw [HW.out] at this
      exact this
    · have := Blk.new ((w.setCell ⟨f, 1, none⟩ (.slice (some ⟨nb, 0, none⟩) n n)).setCell ⟨f, 0, none⟩ (.slice (some ⟨w.heap.size, 0, none⟩) N N)) (List.replicate N (Value.pointer none)) 120
      rw [nblk_setCell, nblk_setCell] at this
      rw [HZ.out, ← hN2, ← nils_hd]
      exact this
    · rw [show List.replicate 0 (Value.pointer none) ++ nw.map hd = nw.map hd from rfl]
      exact h.rN.same (oth nb hfN h.rN.lt)
    · have := h.rN.lt; omega
    · intro c hc
      rcases List.mem_append.1 hc with hc | hc
      · have hC := h.ch c (by simpa using hc)
        refine hC.same (fun e he => ?_)
        obtain ⟨q, hq, _⟩ := hC.at e he
        exact oth e.b (hq.ty_ne h.own (by decide)) hq.lt
      · rw [List.mem_replicate] at hc
        rw [hc.2]
        trivial
    · have := h.nd
      rw [List.flatten_append, show (List.replicate (2 * nw.length) ([] : List En)).flatten = [] by simp, List.append_nil]
      simpa using this
  · exact (((Keep.refl _ w).setCell (.inl (by simp)) _).setCell (.inl (by simp)) _).alloc _

/-! ### move -/
theorem move_any (h : TbIn w f nb ob mo nw od cnt) (g : Fits nw od mo) (G : Tab.Good hsh (tb nw od)) : Calls Tryd.prog 42 #[.pointer (some ⟨f, 0, none⟩)] w fun e w' => e = .returned (.tuple #[]) ∧
    ∃ mo' nw' od', TbIn w' f nb ob mo' nw' od' cnt ∧ Fits nw' od' mo' ∧ tb nw' od' = (tb nw od).mv hsh ∧ Moves (foot f nb ob nw od) (foot f nb ob nw' od') w w' := by
  cases od with
  | nil =>
    have cL := hide (left_any h)
    rw [List.length_nil] at cL
    have Hh := hide h
    have Hg := hide g
    clear h g G
    go_enter Tryd.func42, Tryd.ntmps42
    go_wp2_with fail
    refine cL.out.mono ?_
    rintro e wx ⟨rfl, hx⟩
    obtain rfl : w = wx := hx.symm
    clear hx cL
    go_wp2
    (try simp only [Exit.inBlock, Exit.then])
    refine bodyPost_ret (results_none rfl _ _ _) rfl ?_
    exact ⟨rfl, mo, nw, [], Hh.out, Hg.out, rfl, Moves.refl _ _⟩
  | cons c r =>
    have hin : ∀ e ∈ c, 0 < r.length → hsh e.k % (nw.length / 2) < mo + 1 := fun e he _ => by
      have h1 := G.inO 0 (c.map kv) rfl (kv e) (List.mem_map.2 ⟨e, he, rfl⟩)
      rw [(g.half (by simp)).2, show (tb nw (c :: r)).half = nw.length / 2 by show (kvs nw).length / 2 = _; rw [kvs_len]] at h1
      have h2 : (kv e).1 = e.k := rfl
      rw [h2] at h1
      omega
    have key : ∀ w' nwi, Mid w (foot f nb ob nw (c :: r)) f nb ob (mo + 1) r cnt nw.length ((c.map kv).foldl (pushN hsh) (kvs nw)) [] nwi w' →
        ∃ mo' nw' od', TbIn w' f nb ob mo' nw' od' cnt ∧ Fits nw' od' mo' ∧ tb nw' od' = (tb nw (c :: r)).mv hsh ∧ Moves (foot f nb ob nw (c :: r)) (foot f nb ob nw' od') w w' := fun w' nwi M => by
      refine ⟨mo + 1, nwi, r, M.tin, M.fit, ?_, M.keep, fun b hb => .inl ?_⟩
      · have := M.fin
        show (⟨kvs nwi, kvs r⟩ : Tb) = ⟨(c.map kv).foldl (pushN hsh) (kvs nw), kvs r⟩
        rw [← this]; rfl
      · unfold foot at hb
        rcases List.mem_cons.1 hb with rfl | hb
        · simp [foot]
        rcases List.mem_cons.1 hb with rfl | hb
        · simp [foot]
        rcases List.mem_append.1 hb with hb | hb
        · split at hb
          · simp at hb; subst hb; simp [foot]
          · cases hb
        · exact M.sub b (by simpa using hb)
    by_cases hr : r.length = 0
    · refine (move_one h g hr hin).mono ?_
      rintro e w' ⟨rfl, nwi, M⟩
      exact ⟨rfl, key w' nwi M⟩
    · refine (move_more h g (by omega) hin).mono ?_
      rintro e w' ⟨rfl, nwi, M⟩
      exact ⟨rfl, key w' nwi M⟩
end
end Go.Proofs.YtdkiegkgnimapabDoor.Tbl
