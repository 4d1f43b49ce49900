/- Texts joined: Rk7, Rk8. -/
import Derived.Test.YtbccnfbombgdmaaGreatJ39
/- The document's own OpenBuckets. -/
set_option linter.unusedVariables false
set_option linter.unusedSimpArgs false
set_option maxRecDepth 8000
namespace Go.Proofs.YtbccnfbombgdmaaGreat
open Go.RowKit Go.Deep Math

theorem info9s : (Tryz.prog.info? 9).map (fun i => (i.zero, i.size, i.bytes)) = some (some (.string ⟨#[]⟩), 1, 16) := by kernel_rfl
theorem info80 : (Tryz.prog.info? 80).map (fun i => (i.zero, i.size, i.bytes)) = some (some (.slice none 0 0), 1, 24) := by kernel_rfl
theorem app_one1 {w : World} {base : Nat} {t e : TypeId} {i : TypeInfo} {z : Value} {bytes : Nat} (ht : Tryz.prog.underlying t = some (.slice e)) (hi : Tryz.prog.info? e = some i) (hz : i.zero = some z) (hsize : i.size = 1) (hby : i.bytes = bytes) (hzs : z.cells.size = 1)
    {v : Value} {n : Nat} {xs : List Value} (h : w.ownsRow base e 1 v n xs) (u : Value) (h1 : u.oneCell' = true) (hn : n + 1 ≤ 1048576) (hb8 : bytes ≤ 1000) (hb : base ≤ w.heap.size) :
    ∃ va vc w', (Builtin.append_ #[t, t] t #[v, .slice (some ⟨w.heap.size, 0, none⟩) 1 1]).run Tryz.prog (w.alloc (.cells #[u] e)) = .ok (.slice va (n + 1) vc) w' ∧
      w'.ownsRow base e 1 (.slice va (n + 1) vc) (n + 1) (xs ++ [u]) ∧ Keep v.ownBlock.toList w w' ∧ (∀ q, (Value.slice va (n + 1) vc).ownBlock = some q → v.ownBlock = some q ∨ w.heap.size ≤ q) := by
  have b := (Below.refl w.heap.size w).alloc (Nat.le_refl _) (.cells #[u] e)
  have hown : (w.alloc (.cells #[u] e)).ownsRow base e 1 v n xs := own_same1 h (fun q hq => b.block q (own_blk1 h hq).2.1)
  have hnews : ∀ j y, ([u] : List Value)[j]? = some y → (w.alloc (.cells #[u] e)).cell? ((⟨w.heap.size, 0, none⟩ : Addr).add j) = some y := fun j y hu => by
    rw [Addr.add_lit, Nat.zero_add]
    exact (Blk.new w [u] e).cell hu
  have hbytes : (n + 1) * bytes ≤ 140737488355328 := Nat.le_trans (Nat.mul_le_mul hn hb8) (by decide)
  obtain ⟨v', w', hrun, ho, hg, hnil, hblk⟩ := run_append_own_at (P := Tryz.prog) (w.alloc (.cells #[u] e)) base t t e i z 1 bytes ht hi hz hsize hby hzs (by decide) v n xs hown ⟨w.heap.size, 0, none⟩ 1 1 [u] rfl hnews (fun y hy => by simp at hy; subst hy; exact h1) (by unfold maxLen; omega) hbytes (by rw [nblk_alloc]; omega)
  have hform : ∃ va vc, v' = .slice va (n + 1) vc := by
    rcases ho.2 with ⟨_, h0⟩ | ⟨g, cap, cur, hv, _⟩
    · omega
    · exact ⟨_, _, hv⟩
  obtain ⟨va, vc, rfl⟩ := hform
  refine ⟨va, vc, w', hrun, ho, (Keep.of_below (F := v.ownBlock.toList) b).grown hg (fun q hq => .inl (by rw [hq]; simp)), fun q hq => ?_⟩
  rcases hblk with h2 | h2
  · exact .inl (h2 ▸ hq)
  · rw [h2] at hq
    have e2 : (w.alloc (.cells #[u] e)).heap.size = q := Option.some.inj hq
    rw [nblk_alloc] at e2
    exact .inr (by omega)

/-- The document's buckets while they are opened. -/
structure BkP (w0 W : World) (s r : Nat) (G : List Nat) (S : Dv) (first n : Nat) (lo : Int) (tv : Value) (vs : List Value) (td : List (List (List UInt8))) : Prop where
  box : Blk W s (bxR r first n tv lo) 78
  dev : RfAt W r G S
  told : TdAt W w0.heap.size tv vs td
  newG : ∀ q ∈ G, w0.heap.size ≤ q
  newS : w0.heap.size ≤ s
  sG : s ∉ G
  tG : ∀ q ∈ tdF tv vs, q ∉ G
  bel : Below w0.heap.size w0 W
  sml : ∀ t ∈ td, ∀ x ∈ t, x.length ≤ 1048000
section
variable {w0 W W' : World} {s r : Nat} {G : List Nat} {S S' : Dv} {first n : Nat} {lo : Int} {tv : Value} {vs : List Value} {td : List (List (List UInt8))}
theorem BkP.below (h : BkP w0 W s r G S first n lo tv vs td) (b : Below W.heap.size W W') : BkP w0 W' s r G S first n lo tv vs td :=
  ⟨h.box.same (b.block _ h.box.lt), h.dev.below b, h.told.same (fun q hq => b.block q (h.told.lt q hq).2.1), h.newG, h.newS, h.sG, h.tG, h.bel.trans (b.mono h.bel.size), h.sml⟩
theorem BkP.read (h : BkP w0 W s r G S first n lo tv vs td) (hd : RfAt W' r G S') (k : Keep G W W') : BkP w0 W' s r G S' first n lo tv vs td :=
  ⟨h.box.same (k.block _ h.box.lt h.sG), hd, h.told.same (fun q hq => k.block q (h.told.lt q hq).2.1 (h.tG q hq)), h.newG, h.newS, h.sG, h.tG, h.bel.trans (k.below h.newG h.bel.size), h.sml⟩
/-- One bucket's keys more: their row is new since N. -/
theorem BkP.more (h : BkP w0 W s r G S first n lo tv vs td) {W2 : World} (b : Below W.heap.size W W2) {v : Value} {t : List (List UInt8)} (hv : W2.ownsRow W.heap.size 9 1 v t.length (kV t)) (ht : ∀ x ∈ t, x.length ≤ 1048000) (hn : vs.length ≤ 1000)
    {va : Option Addr} {vc : Nat} {w' : World} (hrow : w'.ownsRow w0.heap.size 80 1 (.slice va (vs.length + 1) vc) (vs.length + 1) (vs ++ [v])) (hk : Keep tv.ownBlock.toList W2 w') (hblk : ∀ q, (Value.slice va (vs.length + 1) vc).ownBlock = some q → tv.ownBlock = some q ∨ W2.heap.size ≤ q) :
    BkP w0 (w'.setCell ⟨s, 3, none⟩ (.slice va (vs.length + 1) vc)) s r G S first n lo (.slice va (vs.length + 1) vc) (vs ++ [v]) (td ++ [t]) ∧ Keep (s :: tv.ownBlock.toList) W (w'.setCell ⟨s, 3, none⟩ (.slice va (vs.length + 1) vc)) ∧ Blk w' s (bxR r first n tv lo) 78 := by
  have htb : ∀ q, tv.ownBlock = some q → q < W.heap.size ∧ q ≠ s ∧ w0.heap.size ≤ q := fun q hq => by
    obtain ⟨h1, h2, c, hc⟩ := own_blk1 h.told.row hq
    refine ⟨h2, fun e => ?_, h1⟩
    have hb := h.box
    unfold Blk at hb
    rw [e, hb] at hc
    have : (78 : TypeId) = 80 := by
      simp only [Option.some.injEq, Obj.cells.injEq] at hc
      exact hc.2.1
    exact absurd this (by decide)
  have hin : ∀ (k : Nat) (u : Value), vs[k]? = some u → ∀ q, u.ownBlock = some q → q < W.heap.size ∧ q ≠ s ∧ q ∉ tv.ownBlock.toList := fun k u hu q hq => by
    have hk2 : k < td.length := by rw [← h.told.len]; exact (List.getElem?_eq_some_iff.1 hu).1
    obtain ⟨h1, h2, c, hc⟩ := own_blk1 (h.told.inn k u _ hu (List.getElem?_eq_getElem hk2)) hq
    refine ⟨h2, fun e => ?_, fun hm => ?_⟩
    · have hb := h.box
      unfold Blk at hb
      rw [e, hb] at hc
      have : (78 : TypeId) = 9 := by
        simp only [Option.some.injEq, Obj.cells.injEq] at hc
        exact hc.2.1
      exact absurd this (by decide)
    · obtain ⟨_, _, c2, hc2⟩ := own_blk1 h.told.row (Option.mem_toList.1 hm)
      rw [hc2] at hc
      have : (80 : TypeId) = 9 := by
        simp only [Option.some.injEq, Obj.cells.injEq] at hc
        exact hc.2.1
      exact absurd this (by decide)
  have hsW := h.box.lt
  have old : ∀ q, q < W.heap.size → q ∉ tv.ownBlock.toList → q ≠ s → (w'.setCell ⟨s, 3, none⟩ (.slice va (vs.length + 1) vc)).heap[q]? = W.heap[q]? := fun q h1 h2 h3 => by
    rw [blk_setCell_other _ _ _ _ h3, hk.block q (Nat.lt_of_lt_of_le h1 b.size) h2, b.block q h1]
  have hs' : w'.heap[s]? = W.heap[s]? := by
    rw [hk.block s (Nat.lt_of_lt_of_le hsW b.size) (fun hm => (htb s (Option.mem_toList.1 hm)).2.1 rfl), b.block s hsW]
  have hvb : ∀ q, v.ownBlock = some q → W.heap.size ≤ q ∧ q < W2.heap.size := fun q hq => by obtain ⟨h1, h2, _⟩ := own_blk1 hv hq; exact ⟨h1, h2⟩
  have keep : Keep (s :: tv.ownBlock.toList) W (w'.setCell ⟨s, 3, none⟩ (.slice va (vs.length + 1) vc)) :=
    (((Keep.of_below (F := s :: tv.ownBlock.toList) b).trans hk (fun x hx => .inl (List.mem_cons_of_mem _ hx)))).setCell (.inl (by simp)) _
  refine ⟨⟨(h.box.same hs').set 3 _, h.dev.same (fun q hq => old q (h.dev.lt q hq) (fun hm => h.tG q (List.mem_append.2 (.inl hm)) hq) (fun e => h.sG (e ▸ hq))), ⟨?_, ?_, ?_, ?_⟩, h.newG, h.newS, h.sG, ?_, h.bel.trans (keep.below (fun q hq => ?_) h.bel.size), ?_⟩, keep, h.box.same hs'⟩
  · rw [List.length_append]
    refine own_same1 hrow (fun q hq => blk_setCell_other _ _ _ _ (fun e => ?_))
    rcases hblk q hq with h1 | h1
    · exact (htb q h1).2.1 e
    · have e' : q = s := e
      have := b.size; omega
  · simp [h.told.len]
  · intro k u t' hu ht'
    rcases Nat.lt_or_ge k vs.length with hlt | hge
    · rw [List.getElem?_append_left hlt] at hu
      rw [List.getElem?_append_left (by rw [← h.told.len]; exact hlt)] at ht'
      exact own_same1 (h.told.inn k u t' hu ht') (fun q hq => by obtain ⟨h1, h2, h3⟩ := hin k u hu q hq; exact old q h1 h3 h2)
    · rw [List.getElem?_append_right hge] at hu
      rw [List.getElem?_append_right (by rw [← h.told.len]; exact hge)] at ht'
      have hk0 : k - vs.length = 0 := by
        have := (List.getElem?_eq_some_iff.1 hu).1
        simp at this; omega
      have hk1 : k - td.length = 0 := by rw [← h.told.len]; exact hk0
      rw [hk0] at hu
      rw [hk1] at ht'
      simp only [List.getElem?_cons_zero, Option.some.injEq] at hu ht'
      subst hu ht'
      have h2 : (w'.setCell ⟨s, 3, none⟩ (.slice va (vs.length + 1) vc)).ownsRow W.heap.size 9 1 v t.length (kV t) := own_same1 hv (fun q hq => by
        obtain ⟨h1, h2⟩ := hvb q hq
        rw [blk_setCell_other _ _ _ _ (fun e => by have e' : q = s := e; omega), hk.block q h2 (fun hm => by have := (htb q (Option.mem_toList.1 hm)).1; omega)])
      refine ⟨h2.1, ?_⟩
      rcases h2.2 with h3 | ⟨g, cap, cur, h3, h4, r⟩
      · exact .inl h3
      · exact .inr ⟨g, cap, cur, h3, Nat.le_trans h.bel.size h4, r⟩
  · intro j k u x hjk hu hx q hq hq2
    have fst : ∀ (k : Nat) (u : Value), (vs ++ [v])[k]? = some u → (k < vs.length ∧ vs[k]? = some u) ∨ (k = vs.length ∧ u = v) := fun k u hu => by
      rcases Nat.lt_or_ge k vs.length with hlt | hge
      · rw [List.getElem?_append_left hlt] at hu; exact .inl ⟨hlt, hu⟩
      · rw [List.getElem?_append_right hge] at hu
        have hk0 : k - vs.length = 0 := by
          have := (List.getElem?_eq_some_iff.1 hu).1
          simp at this; omega
        rw [hk0] at hu
        simp only [List.getElem?_cons_zero, Option.some.injEq] at hu
        exact .inr ⟨by omega, hu.symm⟩
    rcases fst j u hu with ⟨h1, h2⟩ | ⟨h1, h2⟩
    · rcases fst k x hx with ⟨h3, h4⟩ | ⟨h3, h4⟩
      · exact h.told.ap j k u x hjk h2 h4 q hq hq2
      · have e1 := (hin j u h2 q hq).1
        rw [h4] at hq2
        have e2 := (hvb q hq2).1
        omega
    · rcases fst k x hx with ⟨h3, h4⟩ | ⟨h3, h4⟩
      · have e1 := (hin k x h4 q hq2).1
        rw [h2] at hq
        have e2 := (hvb q hq).1
        omega
      · omega
  · intro q hq hg
    have hgl := h.dev.lt q hg
    rcases List.mem_append.1 hq with h1 | h1
    · rcases hblk q (Option.mem_toList.1 h1) with h2 | h2
      · exact h.tG q (List.mem_append.2 (.inl (Option.mem_toList.2 h2))) hg
      · have := b.size; omega
    · obtain ⟨u, hu, hq2⟩ := List.mem_flatMap.1 h1
      rcases List.mem_append.1 hu with h2 | h2
      · exact h.tG q (List.mem_append.2 (.inr (List.mem_flatMap.2 ⟨u, h2, hq2⟩))) hg
      · simp only [List.mem_singleton] at h2
        rw [h2] at hq2
        have := (hvb q (Option.mem_toList.1 hq2)).1
        omega
  · rcases List.mem_cons.1 hq with rfl | hq
    · exact h.newS
    · exact (htb q (Option.mem_toList.1 hq)).2.2
  · intro t' ht' x hx
    rcases List.mem_append.1 ht' with h1 | h1
    · exact h.sml t' h1 x hx
    · simp only [List.mem_singleton] at h1
      rw [h1] at hx
      exact ht x hx
end
end Go.Proofs.YtbccnfbombgdmaaGreat

/- The document's own OpenBuckets. -/
set_option linter.unusedVariables false
set_option linter.unusedSimpArgs false
set_option maxRecDepth 8000
namespace Go.Proofs.YtbccnfbombgdmaaGreat
open Go.RowKit Go.Deep Math

def tdO (S : Dv) (first k : Nat) : List (List (List UInt8)) := (List.range k).map fun j => (S.its (first + j)).map It.key
theorem tdO_succ (S : Dv) (first k : Nat) : tdO S first (k + 1) = tdO S first k ++ [(S.its (first + k)).map It.key] := by simp [tdO, List.range_succ]
theorem tdO_len (S : Dv) (first k : Nat) : (tdO S first k).length = k := by simp [tdO]
theorem TdAt.nil (W : World) (B : Nat) : TdAt W B (.slice none 0 0) [] [] := ⟨World.ownsRow_nil _ _ _ _, rfl, fun k v t h => by simp at h, fun j k v u _ h => by simp at h⟩
theorem ropen_bad (r : Nat) (G : List Nat) (S : Dv) (W : World) (hR : RfAt W r G S) (a b : Int) (ha : -9223372036854775808 ≤ a ∧ a ≤ 9223372036854775807) (hb : -9223372036854775808 ≤ b ∧ b ≤ 9223372036854775807) (hx : a < 0 ∨ b < 1 ∨ 256 < b ∨ (S.cs.length : Int) - b < a) :
    Calls Tryz.prog 8 #[.pointer (some ⟨r, 0, none⟩), .int .i64 a, .int .i64 b] W fun e W' => e = .returned (.tuple #[.pointer none, .int .i64 1]) ∧ W' = W := by
  obtain ⟨L, hL, hI⟩ := hR
  have c1 := hI.dev.cell (i := 1) rfl
  have hm := hI.good.many
  clear hL hI
  generalize S.cs.length = N at *
  by_cases h1 : a < 0
  · go_enter Tryz.func8, Tryz.ntmps8
    go_wp2
    go_ret2
    exact ⟨rfl, rfl⟩
  by_cases h2 : b < 1
  · go_enter Tryz.func8, Tryz.ntmps8
    go_wp2
    go_ret2
    exact ⟨rfl, rfl⟩
  by_cases h3 : 256 < b
  · go_enter Tryz.func8, Tryz.ntmps8
    go_wp2
    go_ret2
    exact ⟨rfl, rfl⟩
  by_cases h4 : (N : Int) < b
  · go_enter Tryz.func8, Tryz.ntmps8
    go_wp2
    go_ret2
    exact ⟨rfl, rfl⟩
  have h5 : (N : Int) - b < a := by omega
  go_enter Tryz.func8, Tryz.ntmps8
  go_wp2
  go_ret2
  exact ⟨rfl, rfl⟩
theorem ropen_off (r : Nat) (G : List Nat) (S : Dv) (W : World) (hR : RfAt W r G S) (ho : S.off = true) (first n : Nat) (h1 : 1 ≤ n) (h2 : n ≤ 256) (h3 : first + n ≤ S.cs.length) :
    Calls Tryz.prog 8 #[.pointer (some ⟨r, 0, none⟩), .int .i64 (first : Int), .int .i64 (n : Int)] W fun e W' => e = .returned (.tuple #[.pointer none, .int .i64 4]) ∧ W' = W := by
  obtain ⟨L, hL, hI⟩ := hR
  have c1 := hI.dev.cell (i := 1) rfl
  have c3 := hI.dev.cell (i := 3) rfl
  rw [ho] at c3
  have hm := hI.good.many
  clear hL hI ho
  generalize S.cs.length = N at *
  have x1 : ((first : Int) < 0) = False := eq_false (by omega)
  have x2 : ((n : Int) < 1) = False := eq_false (by omega)
  have x3 : ((256 : Int) < (n : Int)) = False := eq_false (by omega)
  have x4 : ((N : Int) < (n : Int)) = False := eq_false (by omega)
  have x5 : ((N : Int) - (n : Int) < (first : Int)) = False := eq_false (by omega)
  have y1 : (N : Int) ≤ 4096 := by omega
  go_enter Tryz.func8, Tryz.ntmps8
  go_wp2
  go_ret2
  exact ⟨rfl, rfl⟩
set_option maxHeartbeats 4000000 in
theorem ropen_ok {w0 W : World} {r : Nat} {G : List Nat} {S : Dv} (hb0 : Below w0.heap.size w0 W) (hR : RfAt W r G S) (hG : ∀ q ∈ G, w0.heap.size ≤ q) (ho : S.off = false) (first n : Nat) (h1 : 1 ≤ n) (h2 : n ≤ 256) (h3 : first + n ≤ S.cs.length) :
    Calls Tryz.prog 8 #[.pointer (some ⟨r, 0, none⟩), .int .i64 (first : Int), .int .i64 (n : Int)] W fun e W' => ∃ s, e = .returned (.tuple #[.pointer (some ⟨s, 0, none⟩), .int .i64 0]) ∧ ∃ S' tv vs, BkR w0 W' s r G S' first n S.losses tv vs (tdO S first n) ∧ Like S S' ∧ Keep G W W' ∧ (∀ q ∈ s :: tdF tv vs, W.heap.size ≤ q) := by
  have HR := hide hR
  have HG := hide hG
  have HO := hide ho
  have HB0 := hide hb0
  obtain ⟨L, hL, hI⟩ := hR
  have c1 := hI.dev.cell (i := 1) rfl
  have c3 := hI.dev.cell (i := 3) rfl
  have c5 := hI.dev.cell (i := 5) rfl
  rw [ho] at c3
  have hm := hI.good.many
  have HGD := hide hI.good
  have H3 := hide h3
  have x1 : ((first : Int) < 0) = False := eq_false (by omega)
  have x2 : ((n : Int) < 1) = False := eq_false (by omega)
  have x3 : ((256 : Int) < (n : Int)) = False := eq_false (by omega)
  have x4 : ((S.cs.length : Int) < (n : Int)) = False := eq_false (by omega)
  have x5 : ((S.cs.length : Int) - (n : Int) < (first : Int)) = False := eq_false (by omega)
  have y1 : (S.cs.length : Int) ≤ 4096 := by omega
  have hff : first ≤ 4096 := by omega
  clear hL hI ho hG hb0
  generalize hN : S.cs.length = N at *
  have HN := hide hN
  generalize hlo : S.losses = lo at *
  have hbox : Blk (W.alloc (.cells #[.pointer (some ⟨r, 0, none⟩), .int .i64 (first : Int), .int .i64 (n : Int), .slice none 0 0, .int .i64 lo] 78)) W.heap.size (bxR r first n (.slice none 0 0) lo) 78 := Blk.new W _ 78
  have hbe : Below W.heap.size W (W.alloc (.cells #[.pointer (some ⟨r, 0, none⟩), .int .i64 (first : Int), .int .i64 (n : Int), .slice none 0 0, .int .i64 lo] 78)) := (Below.refl _ _).alloc (Nat.le_refl _) _
  have P0 : Hid (BkP w0 (W.alloc (.cells #[.pointer (some ⟨r, 0, none⟩), .int .i64 (first : Int), .int .i64 (n : Int), .slice none 0 0, .int .i64 lo] 78)) W.heap.size r G S first n lo (.slice none 0 0) [] (tdO S first 0)) :=
    ⟨hbox, HR.out.below hbe, TdAt.nil _ _, HG.out, HB0.out.size, fun hg => by have := HR.out.lt _ hg; omega, fun q hq => by simp [tdF, Value.ownBlock] at hq, HB0.out.trans (hbe.mono HB0.out.size), fun t ht => by simp [tdO] at ht⟩
  have KB := hide hbe
  clear hbox hbe hN hlo h3 hm
  go_enter Tryz.func8, Tryz.ntmps8
  go_wp2_with fail
  go_loopg [9] n (fun kx s9 wr => ∃ k : Nat, s9 = .int .i64 k ∧ k ≤ n ∧ n - k ≤ kx ∧ Hid (∃ S' tv vs, BkP w0 wr W.heap.size r G S' first n lo tv vs (tdO S first k) ∧ Like S S' ∧ Keep G W wr ∧ ∀ q ∈ W.heap.size :: tdF tv vs, W.heap.size ≤ q))
  case atStart => exact ⟨0, rfl, Nat.zero_le _, by omega, S, _, _, P0.out, Like.refl S, Keep.of_below KB.out, fun q hq => by simp [tdF, Value.ownBlock] at hq; omega⟩
  case round =>
    obtain ⟨k, rfl, hkn, hkx, I⟩ := hrel
    obtain ⟨S1, tv, vs, hP, hlk, hK, hnew⟩ := I.out
    clear I
    by_cases hlt : k < n
    · have hlt2 : (k : Int) < (n : Int) := by omega
      have hfk : ((first + k : Nat) : Int) = (first : Int) + (k : Int) := by omega
      have hfi : (first : Int) + (k : Int) ≤ 8192 := by omega
      have cL := hide (rlist_any r G S1 (first + k) (by rw [hlk.cs, HN.out]; have := H3.out; omega) (by rw [hlk.off]; exact HO.out) wr hP.dev)
      rw [hlk.its, hfk] at cL
      have HP := hide hP
      have HLK := hide hlk
      have HK := hide hK
      have HNEW := hide hnew
      have hil := its_len HGD.out (first + k)
      have hoks := hide (its_oks HGD.out (first + k))
      have hgd2 := hide (Dv.its_all HGD.out (first + k)).2
      clear hP hlk hK hfk hnew
      go_wp2_with fail
      refine cL.out.mono ?_
      rintro e w2 ⟨u, S2, rfl, q1, q2, q3, q4⟩
      obtain ⟨a, c, rfl, _, hia⟩ := q1.raw hoks.out
      have HP2 := hide (HP.out.read q2 q4)
      have HL2 := hide (HLK.out.trans q3)
      have HK2 := hide (HK.out.trans q4 (fun x hx => .inl hx))
      have HIA := hide hia
      obtain ⟨xl, hxl⟩ : ∃ xl, xl = (S.its (first + k)).length := ⟨_, rfl⟩
      have HXL := hide hxl
      rw [← hxl] at hil ⊢
      clear q1 q2 q3 q4 hia hxl cL
      go_wp2_with fail
      go_loopg [11, 12] xl (fun ky s11 s12 wr2 => ∃ (i : Nat) (va : Option Addr) (vc : Nat), s11 = .slice va i vc ∧ s12 = .int .i64 i ∧ i ≤ xl ∧ xl - i ≤ ky ∧ Hid (wr2.ownsRow w2.heap.size 9 1 (.slice va i vc) i (kV (((S.its (first + k)).take i).map It.key)) ∧ Below w2.heap.size w2 wr2))
      case atStart => exact ⟨0, none, 0, rfl, rfl, Nat.zero_le _, by omega, World.ownsRow_nil _ _ _ _, Below.refl _ _⟩
      case round =>
        obtain ⟨i, va, vc, rfl, rfl, hin, hix, I⟩ := hrel
        by_cases hi : i < xl
        · have hi2 : (i : Int) < (xl : Int) := by omega
          obtain ⟨x, hx⟩ : ∃ x, (S.its (first + k))[i]? = some x := ⟨_, List.getElem?_eq_getElem (by rw [← HXL.out]; exact hi)⟩
          obtain ⟨bb, oo, rfl, hbb, hcc⟩ := (HIA.out.below I.out.2).cell i x hx
          have d0 := hcc.c0
          obtain ⟨i0, hi0, hp0⟩ := Option.map_eq_some_iff.1 info9s
          simp only [Prod.mk.injEq] at hp0
          obtain ⟨va', vc', w3, r1, r2, r3, _⟩ := app_one1 (t := 80) (e := 9) Tryz.underlying80 hi0 hp0.1 hp0.2.1 hp0.2.2 rfl I.out.1 (.string (txt x.key)) rfl (by omega) (by omega) I.out.2.size
          have HT : Hid (kV (((S.its (first + k)).take (i + 1)).map It.key) = kV (((S.its (first + k)).take i).map It.key) ++ [.string (txt x.key)]) := by
            show _ = _; rw [List.take_add_one, hx]; simp [kV]
          have HR1 := hide r1
          have hb3 : Below w2.heap.size w2 w3 := I.out.2.trans (r3.below (fun q hq => (own_blk1 I.out.1 (Option.mem_toList.1 hq)).1) I.out.2.size)
          have T : Hid (w3.ownsRow w2.heap.size 9 1 (.slice va' (i + 1) vc') (i + 1) (kV (((S.its (first + k)).take (i + 1)).map It.key)) ∧ Below w2.heap.size w2 w3) := ⟨by rw [HT.out]; exact r2, hb3⟩
          clear hx hcc HT r1 r2 r3 hb3 I hi0 hp0
          generalize txt x.key = tx at *
          go_wp2_with (at_builtin; refine Lib.wpList_append_run _ rfl _ _ _ _ rfl _ _ rfl rfl _ _ HR1.out ?_)
          go_roundg (xl - (i + 1))
          case measure => omega
          case rel => exact ⟨i + 1, va', vc', rfl, rfl, by omega, by omega, T.out⟩
        · obtain rfl : i = xl := by omega
          have hi2 : ¬ (i : Int) < (i : Int) := by omega
          have hT := I.out.1
          have etk : (S.its (first + k)).take i = S.its (first + k) := by rw [HXL.out, List.take_length]
          rw [etk] at hT
          clear etk
          have hb2 := I.out.2
          obtain ⟨t, ht⟩ : ∃ t, t = (S.its (first + k)).map It.key := ⟨_, rfl⟩
          have htl : t.length = (S.its (first + k)).length := by rw [ht]; simp
          rw [← ht] at hT
          have hP3 := HP2.out
          obtain ⟨i0, hi0, hp0⟩ := Option.map_eq_some_iff.1 info80
          simp only [Prod.mk.injEq] at hp0
          obtain ⟨ta, tc, htv⟩ := own_sl1 hP3.told.row
          subst htv
          have hvl : vs.length = k := by rw [hP3.told.len, tdO_len]
          have hil2 : i = t.length := by rw [htl]; exact HXL.out
          have hrow := own_same1 hP3.told.row (fun q hq => hb2.block q (own_blk1 hP3.told.row hq).2.1)
          obtain ⟨va2, vc2, w3, r1, r2, r3, r4⟩ := app_one1 (t := 76) (e := 80) Tryz.underlying76 hi0 hp0.1 hp0.2.1 hp0.2.2 rfl hrow (.slice va i vc) rfl (by omega) (by omega) (Nat.le_trans hP3.bel.size hb2.size)
          have hkeys : ∀ x ∈ t, x.length ≤ 1048000 := fun x hx => by
            rw [ht] at hx
            obtain ⟨y, hy, rfl⟩ := List.mem_map.1 hx
            have := (It.good_iff y).1 (hgd2.out y hy).2
            omega
          obtain ⟨m1, m2, m3⟩ := hP3.more hb2 (v := .slice va i vc) (t := t) (by rw [← hil2]; exact hT) hkeys (by omega) r2 r3 r4
          have c3w := (hP3.box.same (hb2.block _ hP3.box.lt)).cell (i := 3) rfl
          have c3n := m3.cell (i := 3) rfl
          have f3n := m3.frozen 3
          have hsl := m3.lt
          have hsl2 : W.heap.size < wr.heap.size := Nat.lt_of_lt_of_le hP3.box.lt hb2.size
          have T : Hid (BkP w0 (w3.setCell ⟨W.heap.size, 3, none⟩ (.slice va2 (vs.length + 1) vc2)) W.heap.size r G S2 first n lo (.slice va2 (vs.length + 1) vc2) (vs ++ [.slice va i vc]) (tdO S first (k + 1))) := by
            show BkP _ _ _ _ _ _ _ _ _ _ _ _
            rw [tdO_succ, ← ht]; exact m1
          have HKN : Hid (Keep G W (w3.setCell ⟨W.heap.size, 3, none⟩ (.slice va2 (vs.length + 1) vc2))) := HK2.out.trans m2 (fun q hq => by
            rcases List.mem_cons.1 hq with rfl | hq
            · exact .inr (Nat.le_refl _)
            · exact .inr (HNEW.out q (List.mem_cons_of_mem _ (List.mem_append.2 (.inl hq)))))
          have HNN : Hid (∀ q ∈ W.heap.size :: tdF (.slice va2 (vs.length + 1) vc2) (vs ++ [.slice va i vc]), W.heap.size ≤ q) := fun q hq => by
            rcases List.mem_cons.1 hq with rfl | hq
            · exact Nat.le_refl _
            · rcases List.mem_append.1 hq with h6 | h6
              · rcases r4 q (Option.mem_toList.1 h6) with h7 | h7
                · exact HNEW.out q (List.mem_cons_of_mem _ (List.mem_append.2 (.inl (Option.mem_toList.2 h7))))
                · omega
              · obtain ⟨u, hu, hq2⟩ := List.mem_flatMap.1 h6
                rcases List.mem_append.1 hu with h7 | h7
                · exact HNEW.out q (List.mem_cons_of_mem _ (List.mem_append.2 (.inr (List.mem_flatMap.2 ⟨u, h7, hq2⟩))))
                · simp only [List.mem_singleton] at h7
                  rw [h7] at hq2
                  have := (own_blk1 hT (Option.mem_toList.1 hq2)).1
                  have := HP2.out.box.lt
                  omega
          have HR1 := hide r1
          clear hT hb2 ht htl hi0 hp0 hrow r1 r2 r3 r4 hkeys m1 m2 m3 hP3 I hil2 hvl
          generalize vs.length = vn at *
          go_wp2_with (at_builtin; refine Lib.wpList_append_run _ rfl _ _ _ _ rfl _ _ rfl rfl _ _ HR1.out ?_)
          go_roundg (n - (k + 1))
          case measure => omega
          case rel => exact ⟨k + 1, rfl, by omega, by omega, S2, _, _, T.out, HL2.out, HKN.out, HNN.out⟩
    · obtain rfl : k = n := by omega
      have hlt2 : ¬ (k : Int) < (k : Int) := by omega
      have F : Hid (BkR w0 wr W.heap.size r G S1 first k lo tv vs (tdO S first k)) :=
        ⟨hP.box, hP.dev, hP.told, tdO_len _ _ _, by omega, h2, by rw [hlk.cs, HN.out]; exact H3.out, hP.newG, hP.newS, hP.sG, hP.tG, hP.bel, hP.sml⟩
      have HLK := hide hlk
      have HK := hide hK
      have HNEW := hide hnew
      clear hP hlk hK hnew
      go_wp2_with fail
      go_ret2
      exact ⟨_, rfl, S1, tv, vs, F.out, HLK.out, HK.out, Nat.le_refl _, fun q hq => HNEW.out q (List.mem_cons_of_mem _ hq)⟩
end Go.Proofs.YtbccnfbombgdmaaGreat
