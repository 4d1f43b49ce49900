/- The document's own slab in memory: NewSlab; a page taken anew. -/
import Derived.Test.YteeanaoglcpaaaaDoorRf2
set_option linter.unusedVariables false
set_option linter.unusedSimpArgs false
set_option maxRecDepth 8000
namespace Go.Proofs.YteeanaoglcpaaaaDoor
open Go.RowKit Go.Deep Go.Shelf Math

/-- One more at the end of an owned row of one-cell elements. -/
theorem app_gen {w : World} {base : Nat} {t e : TypeId} {i : TypeInfo} {z : Value} {bytes : Nat} (ht : Tryd.prog.underlying t = some (.slice e)) (hi : Tryd.prog.info? e = some i) (hz : i.zero = some z) (hsize : i.size = 1) (hby : i.bytes = bytes) (hzs : z.cells.size = 1)
    {v : Value} {n : Nat} {xs : List Value} (h : w.ownsRow base e 1 v n xs) (u : Value) (h1 : u.oneCell' = true) (hn : n + 1 ≤ 1048576) (hb8 : bytes ≤ 1000) (hb : base ≤ w.heap.size) :
    ∃ va vc w', (∀ ty, (Builtin.append_ #[t, t] ty #[v, .slice (some ⟨w.heap.size, 0, none⟩) 1 1]).run Tryd.prog (w.alloc (.cells #[u] e)) = .ok (.slice va (n + 1) vc) w') ∧
      w'.ownsRow base e 1 (.slice va (n + 1) vc) (n + 1) (xs ++ [u]) ∧ Keep (own v) w w' ∧ (∀ q ∈ own (.slice va (n + 1) vc), q ∈ own v ∨ w.heap.size ≤ q) := by
  have b := (Below.refl w.heap.size w).alloc (Nat.le_refl _) (.cells #[u] e)
  have hown : (w.alloc (.cells #[u] e)).ownsRow base e 1 v n xs := own_same h (fun q hq => by
    obtain ⟨_, c, hc⟩ := own_ty h hq
    exact b.block q (Array.getElem?_eq_some_iff.1 hc).1)
  have hnews : ∀ j y, ([u] : List Value)[j]? = some y → (w.alloc (.cells #[u] e)).cell? ((⟨w.heap.size, 0, none⟩ : Addr).add j) = some y := fun j y hu => by
    rw [Addr.add_lit, Nat.zero_add]
    exact (Blk.new w [u] e).cell hu
  have hbytes : (n + 1) * bytes ≤ 140737488355328 := Nat.le_trans (Nat.mul_le_mul hn hb8) (by decide)
  obtain ⟨v', w', hrun, ho, hg, hnil, hblk⟩ := run_append_own_at (P := Tryd.prog) (w.alloc (.cells #[u] e)) base t 0 e i z 1 bytes ht hi hz hsize hby hzs (by decide) v n xs hown ⟨w.heap.size, 0, none⟩ 1 1 [u] rfl hnews (fun y hy => by simp at hy; subst hy; exact h1) (by unfold maxLen; omega) hbytes (Nat.le_trans hb b.size)
  have hform : ∃ va vc, v' = .slice va (n + 1) vc := by
    rcases ho.2 with ⟨_, h0⟩ | ⟨g, cap, cur, hv, _⟩
    · omega
    · exact ⟨_, _, hv⟩
  obtain ⟨va, vc, rfl⟩ := hform
  refine ⟨va, vc, w', fun ty => hrun, ho, (Keep.of_below (F := own v) b).grown hg (fun q hq => .inl (mem_own.2 hq)), fun q hq => ?_⟩
  rcases hblk with h2 | h2
  · exact .inl (mem_own.2 (h2 ▸ mem_own.1 hq))
  · have := mem_own.1 hq
    rw [h2] at this
    have e2 : (w.alloc (.cells #[u] e)).heap.size = q := Option.some.inj this
    rw [nblk_alloc] at e2
    exact .inr (by omega)
theorem info53 : (Tryd.prog.info? 53).map (fun i => (i.zero, i.size, i.bytes)) = some (some (.slice none 0 0), 1, 24) := by kernel_rfl
theorem app_of {w : World} {base : Nat} {v : Value} {n : Nat} {xs : List Value} (h : w.ownsRow base 3 1 v n xs) (x : Int) (hn : n + 1 ≤ 1048576) (hb : base ≤ w.heap.size) :
    ∃ va vc w', (∀ ty, (Builtin.append_ #[35, 35] ty #[v, .slice (some ⟨w.heap.size, 0, none⟩) 1 1]).run Tryd.prog (w.alloc (.cells #[.int .i64 x] 3)) = .ok (.slice va (n + 1) vc) w') ∧
      w'.ownsRow base 3 1 (.slice va (n + 1) vc) (n + 1) (xs ++ [.int .i64 x]) ∧ Keep (own v) w w' ∧ (∀ q ∈ own (.slice va (n + 1) vc), q ∈ own v ∨ w.heap.size ≤ q) := by
  obtain ⟨i0, hi, hi2⟩ := Option.map_eq_some_iff.1 info3
  simp only [Prod.mk.injEq] at hi2
  exact app_gen Tryd.underlying35 hi hi2.1 hi2.2.1 hi2.2.2 rfl h _ rfl hn (by omega) hb
theorem app_tk {w : World} {base : Nat} {v : Value} {n : Nat} {xs : List Value} (h : w.ownsRow base 53 1 v n xs) (hn : n + 1 ≤ 1048576) (hb : base ≤ w.heap.size) :
    ∃ va vc w', (∀ ty, (Builtin.append_ #[39, 39] ty #[v, .slice (some ⟨w.heap.size, 0, none⟩) 1 1]).run Tryd.prog (w.alloc (.cells #[.slice none 0 0] 53)) = .ok (.slice va (n + 1) vc) w') ∧
      w'.ownsRow base 53 1 (.slice va (n + 1) vc) (n + 1) (xs ++ [.slice none 0 0]) ∧ Keep (own v) w w' ∧ (∀ q ∈ own (.slice va (n + 1) vc), q ∈ own v ∨ w.heap.size ≤ q) := by
  obtain ⟨i0, hi, hi2⟩ := Option.map_eq_some_iff.1 info53
  simp only [Prod.mk.injEq] at hi2
  exact app_gen Tryd.underlying39 hi hi2.1 hi2.2.1 hi2.2.2 rfl h _ rfl hn (by omega) hb
theorem own_blk {w : World} {base : Nat} {e : TypeId} {v : Value} {n : Nat} {xs : List Value} (h : w.ownsRow base e 1 v n xs) (hn : 0 < n) : ∃ g cap pad, v = .slice (some ⟨g, 0, none⟩) n cap ∧ base ≤ g ∧ n ≤ cap ∧ Blk w g (xs ++ pad) e := by
  rcases h.2 with ⟨_, h0⟩ | ⟨g, cap, cur, hv, hg, hh, hnc, _, _, htk⟩
  · omega
  · refine ⟨g, cap, cur.toList.drop n, hv, hg, hnc, ?_⟩
    rw [Nat.mul_one] at htk
    unfold Blk
    rw [← htk, List.take_append_drop]
    exact hh
/-- NewSlab while it is made. -/
structure Nw (w0 : World) (r i : Nat) (v u : Value) (W : World) : Prop where
  box : Blk W r [v, u] 41
  of : W.ownsRow w0.heap.size 3 1 v i (List.replicate i (.int .i64 (-1)))
  tk : W.ownsRow w0.heap.size 53 1 u i (List.replicate i (.slice none 0 0))
  bel : Below w0.heap.size w0 W
  lr : w0.heap.size ≤ r
theorem rep_snoc {α : Type} (n : Nat) (x : α) : List.replicate n x ++ [x] = List.replicate (n + 1) x := by rw [List.replicate_succ']
theorem Nw.off {w0 W : World} {r i : Nat} {v u : Value} (h : Nw w0 r i v u W) : r ∉ own v ∧ r ∉ own u ∧ (∀ q ∈ own v, q ∉ own u) := by
  refine ⟨fun hm => ?_, fun hm => ?_, fun q hq hm => ?_⟩
  · obtain ⟨_, c, hc⟩ := own_ty h.of (mem_own.1 hm)
    exact h.box.ty_ne hc (by decide) rfl
  · obtain ⟨_, c, hc⟩ := own_ty h.tk (mem_own.1 hm)
    exact h.box.ty_ne hc (by decide) rfl
  · obtain ⟨_, c, hc⟩ := own_ty h.of (mem_own.1 hq)
    obtain ⟨_, c', hc'⟩ := own_ty h.tk (mem_own.1 hm)
    rw [hc] at hc'
    simp at hc'
theorem Nw.of_step {w0 W W' : World} {r i : Nat} {v u v' : Value} (h : Nw w0 r i v u W) (ho : W'.ownsRow w0.heap.size 3 1 v' (i + 1) (List.replicate i (.int .i64 (-1)) ++ [.int .i64 (-1)])) (k : Keep (own v) W W') :
    Blk (W'.setCell ⟨r, 0, none⟩ v') r [v', u] 41 ∧ (W'.setCell ⟨r, 0, none⟩ v').ownsRow w0.heap.size 3 1 v' (i + 1) (List.replicate (i + 1) (.int .i64 (-1))) ∧ (W'.setCell ⟨r, 0, none⟩ v').ownsRow w0.heap.size 53 1 u i (List.replicate i (.slice none 0 0)) ∧ Below w0.heap.size w0 (W'.setCell ⟨r, 0, none⟩ v') ∧ Blk W' r [v, u] 41 := by
  obtain ⟨o1, o2, o3⟩ := h.off
  have hbox := h.box.same (k.block r h.box.lt o1)
  have htk := own_same h.tk (fun q hq => by
    obtain ⟨_, c, hc⟩ := own_ty h.tk hq
    exact k.block q (Array.getElem?_eq_some_iff.1 hc).1 (fun hm => o3 q hm (mem_own.2 hq)))
  refine ⟨hbox.set 0 v', ?_, ?_, ?_, hbox⟩
  · rw [← rep_snoc]
    refine own_same ho (fun q hq => blk_setCell_other _ _ _ _ ?_)
    obtain ⟨_, c, hc⟩ := own_ty ho hq
    exact (hbox.ty_ne hc (by decide)).symm
  · refine own_same htk (fun q hq => blk_setCell_other _ _ _ _ ?_)
    obtain ⟨_, c, hc⟩ := own_ty htk hq
    exact (hbox.ty_ne hc (by decide)).symm
  · exact (h.bel.trans (k.below (fun q hq => (own_ty h.of (mem_own.1 hq)).1) h.bel.size)).setCell (p := ⟨r, 0, none⟩) h.lr _
theorem tk_step {w0 W W' : World} {r i : Nat} {v u u' : Value} (hbox : Blk W r [v, u] 41) (hof : W.ownsRow w0.heap.size 3 1 v (i + 1) (List.replicate (i + 1) (.int .i64 (-1)))) (htk : W.ownsRow w0.heap.size 53 1 u i (List.replicate i (.slice none 0 0))) (hbel : Below w0.heap.size w0 W) (lr : w0.heap.size ≤ r)
    (ho : W'.ownsRow w0.heap.size 53 1 u' (i + 1) (List.replicate i (.slice none 0 0) ++ [.slice none 0 0])) (k : Keep (own u) W W') : Nw w0 r (i + 1) v u' (W'.setCell ⟨r, 1, none⟩ u') ∧ Blk W' r [v, u] 41 := by
  have o1 : r ∉ own u := fun hm => by
    obtain ⟨_, c, hc⟩ := own_ty htk (mem_own.1 hm)
    exact hbox.ty_ne hc (by decide) rfl
  have hb := hbox.same (k.block r hbox.lt o1)
  have hof' := own_same hof (fun q hq => by
    obtain ⟨_, c, hc⟩ := own_ty hof hq
    exact k.block q (Array.getElem?_eq_some_iff.1 hc).1 (fun hm => by
      obtain ⟨_, c', hc'⟩ := own_ty htk (mem_own.1 hm)
      rw [hc] at hc'
      simp at hc'))
  refine ⟨⟨hb.set 1 u', ?_, ?_, ?_, lr⟩, hb⟩
  · refine own_same hof' (fun q hq => blk_setCell_other _ _ _ _ ?_)
    obtain ⟨_, c, hc⟩ := own_ty hof' hq
    exact (hb.ty_ne hc (by decide)).symm
  · rw [← rep_snoc]
    refine own_same ho (fun q hq => blk_setCell_other _ _ _ _ ?_)
    obtain ⟨_, c, hc⟩ := own_ty ho hq
    exact (hb.ty_ne hc (by decide)).symm
  · exact (hbel.trans (k.below (fun q hq => (own_ty htk (mem_own.1 hq)).1) hbel.size)).setCell (p := ⟨r, 1, none⟩) lr _
/-- What NewSlab leaves. -/
def NewPost (n : Nat) (w : World) (e : Ending) (w' : World) : Prop := ∃ r a b ca cb l, e = .returned (.pointer (some ⟨r, 0, none⟩)) ∧ RfIn w' w.heap.size r a b ca cb l ∧ pgs l = List.replicate n blank ∧ Below w.heap.size w w'
set_option maxHeartbeats 4000000 in
theorem newR (n : Nat) (h1 : 1 ≤ n) (h2 : n ≤ 1024) (w : World) :
    Calls Tryd.prog 17 #[.int .i64 (n : Int)] w fun e w' => NewPost n w e w' := by
  go_enter Tryd.func17, Tryd.ntmps17
  go_wp2_with fail
  go_loopg [4] n (fun kx s4 wr => ∃ (i : Nat), s4 = .int .i64 i ∧ i ≤ n ∧ n - i ≤ kx ∧ Hid (∃ va ca vb cb, Nw w w.heap.size i (.slice va i ca) (.slice vb i cb) wr))
  case atStart => exact ⟨0, rfl, Nat.zero_le _, by omega, none, 0, none, 0, Blk.new w [.slice none 0 0, .slice none 0 0] 41, ⟨rfl, .inl ⟨rfl, rfl⟩⟩, ⟨rfl, .inl ⟨rfl, rfl⟩⟩, (Below.refl _ _).alloc (Nat.le_refl _) _, Nat.le_refl _⟩
  case round =>
    obtain ⟨i, rfl, hin, hkx, I⟩ := hrel
    obtain ⟨va, ca, vb, cb, hN⟩ := I.out
    by_cases hlt : i < n
    · have hlt2 : (i : Int) < (n : Int) := by omega
      have k0 := hN.box.cell (i := 0) rfl
      obtain ⟨ua, uc, w3, hrun, ho, hk3, _⟩ := app_of hN.of (-1) (by omega) hN.bel.size
      obtain ⟨b4, of4, tk4, bel4, b3⟩ := hN.of_step ho hk3
      have k3 := b3.cell (i := 0) rfl
      have k3f := b3.frozen 0
      have k4 := b4.cell (i := 1) rfl
      obtain ⟨ta, tc, w5, hrun5, ho5, hk5, _⟩ := app_tk tk4 (by omega) bel4.size
      obtain ⟨hN5, b5⟩ := tk_step b4 of4 tk4 bel4 (Nat.le_refl _) ho5 hk5
      have k5 := b5.cell (i := 1) rfl
      have k5f := b5.frozen 1
      rw [nblk_setCell] at hrun5
      have HR := hide hrun
      have HR5 := hide hrun5
      have N5 := hide hN5
      clear hN hrun ho hk3 b4 of4 tk4 bel4 b3 hrun5 ho5 hk5 hN5 b5 I
      go_wp2_with (first | (at_builtin; refine Lib.wpList_append_run _ rfl _ _ _ _ rfl _ _ rfl rfl _ _ (HR.out _) ?_) | (at_builtin; refine Lib.wpList_append_run _ rfl _ _ _ _ rfl _ _ rfl rfl _ _ (HR5.out _) ?_))
      go_roundg (n - (i + 1))
      case measure => omega
      case rel => exact ⟨i + 1, by go_num, by omega, by omega, ua, uc, ta, tc, N5.out⟩
    · obtain rfl : i = n := by omega
      have hlt2 : ¬ (i : Int) < (i : Int) := by omega
      have HN := hide hN
      clear I hN
      go_wp2
      go_ret
      obtain ⟨ga, cpa, pa, hva, la, hca, ba⟩ := own_blk HN.out.of (by omega)
      obtain ⟨gb, cpb, pb, hvb, lb, hcb, bb⟩ := own_blk HN.out.tk (by omega)
      have hbox := HN.out.box
      rw [hva, hvb] at hbox
      refine ⟨w.heap.size, ga, gb, cpa, cpb, List.replicate i ⟨blank, 0⟩, rfl, ⟨?_, ⟨pa, ?_⟩, ⟨pb, ?_⟩, ?_, ?_, ?_, by simpa using hca, by simpa using hcb, by simpa using h1, by simpa using h2, Nat.le_refl _, la, lb⟩, by simp [pgs], HN.out.bel⟩
      · rw [List.length_replicate]; exact hbox
      · unfold ofL; rw [List.map_replicate]; exact ba
      · unfold tkV; rw [List.map_replicate]; exact bb
      · intro x hx hc; rw [List.mem_replicate] at hx; rw [hx.2] at hc; exact absurd rfl hc
      · intro p q x y hx hy hc; rw [List.getElem?_replicate] at hx; split at hx
        · obtain rfl := Option.some.inj hx; exact absurd rfl hc
        · cases hx
      · unfold pgs; rw [List.map_replicate]; exact blank_good i
end Go.Proofs.YteeanaoglcpaaaaDoor
