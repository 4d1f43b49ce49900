/- Texts joined: RkB. -/
import Derived.Test.YtbccnfbombgdmaaGreatJ40
import Derived.Test.YtbccnfbombgdmaaGreatJ41
/- The document's own Put. -/
set_option linter.unusedVariables false
set_option linter.unusedSimpArgs false
set_option maxRecDepth 8000
namespace Go.Proofs.YtbccnfbombgdmaaGreat
open Go.RowKit Go.Deep Math

theorem enter40R (args : Array Value) (w : World) : (callFunc 40 args).run Tryz.prog w = .ok (.enter 40 args) w := enters_of Tryz.func40 (by kernel_rfl) rfl args w
theorem own_cf {W : World} {B n : Nat} {e : TypeId} {g c i : Nat} {xs : List Value} (h : W.ownsRow B e 1 (.slice (some ⟨g, 0, none⟩) n c) n xs) {u : Value} (hu : xs[i]? = some u) : W.cell? ⟨g, i, none⟩ = some u ∧ W.frozen? ⟨g, i, none⟩ = false := by
  obtain ⟨g', c', e', hc, _⟩ := own_cell1 h hu
  simp only [Value.slice.injEq, Option.some.injEq, Addr.mk.injEq] at e'
  obtain ⟨⟨rfl, _⟩, _⟩ := e'
  refine ⟨hc, ?_⟩
  rcases h.2 with ⟨h1, _⟩ | ⟨g2, cap, cur, h1, hB, hh, _⟩
  · cases h1
  · simp only [Value.slice.injEq, Option.some.injEq, Addr.mk.injEq] at h1
    obtain ⟨⟨rfl, _⟩, _⟩ := h1
    have hb : Blk W g cur.toList e := by unfold Blk; simpa using hh
    exact hb.frozen i
theorem told_ne {w0 W : World} {s r : Nat} {G : List Nat} {S : Dv} {first n : Nat} {lo : Int} {tv : Value} {vs : List Value} {td : List (List (List UInt8))} (h : BkR w0 W s r G S first n lo tv vs td) : ∀ q ∈ tdF tv vs, q ≠ s := fun q hq e => by
  obtain ⟨_, _, c, ty, hc, ht⟩ := h.told.lt q hq
  have hb := h.box
  unfold Blk at hb
  rw [e, hb] at hc
  have e2 : (78 : TypeId) = ty := by
    simp only [Option.some.injEq, Obj.cells.injEq] at hc
    exact hc.2.1
  rcases ht with rfl | rfl
  · exact absurd e2 (by decide)
  · exact absurd e2 (by decide)
/-- What stands while a key is told. -/
def TelC (us : Nat → Option Value) (W' wA wB wC wD : World) (B V2 : Value) : Prop :=
  (us 14 = none ∧ us 15 = none ∧ us 17 = none ∧ W' = wA) ∨ (us 14 = some B ∧ us 15 = none ∧ us 17 = none ∧ W' = wB) ∨
  (us 14 = some B ∧ us 15 = some V2 ∧ us 17 = none ∧ W' = wC) ∨ (us 14 = some B ∧ us 15 = some V2 ∧ us 17 = some undef ∧ W' = wD)
section tel
variable {us : Nat → Option Value} {W' wA wB wC wD : World} {B V2 : Value}
theorem TelC.s14 (h : TelC us W' wA wB wC wD B V2) (hz : us 14 = none) : W' = wA ∧ TelC (setU us 14 B) wB wA wB wC wD B V2 := by
  rcases h with ⟨h1, h2, h3, h4⟩ | ⟨h1, _⟩ | ⟨h1, _⟩ | ⟨h1, _⟩
  · exact ⟨h4, .inr (.inl ⟨setU_same _ _ _, by rw [setU_other _ _ _ _ (by decide)]; exact h2, by rw [setU_other _ _ _ _ (by decide)]; exact h3, rfl⟩)⟩
  · rw [hz] at h1; cases h1
  · rw [hz] at h1; cases h1
  · rw [hz] at h1; cases h1
theorem TelC.s15 (h : TelC us W' wA wB wC wD B V2) (hz : us 15 = none) {u : Value} (hu : us 14 = some u) : u = B ∧ W' = wB ∧ TelC (setU us 15 V2) wC wA wB wC wD B V2 := by
  rcases h with ⟨h1, _⟩ | ⟨h1, h2, h3, h4⟩ | ⟨_, h1, _⟩ | ⟨_, h1, _⟩
  · rw [hu] at h1; cases h1
  · have e := h1
    rw [hu] at e
    exact ⟨Option.some.inj e, h4, .inr (.inr (.inl ⟨by rw [setU_other _ _ _ _ (by decide)]; exact h1, setU_same _ _ _, by rw [setU_other _ _ _ _ (by decide)]; exact h3, rfl⟩))⟩
  · rw [hz] at h1; cases h1
  · rw [hz] at h1; cases h1
theorem TelC.s17 (h : TelC us W' wA wB wC wD B V2) (hz : us 17 = none) {u : Value} (hu : us 15 = some u) : u = V2 ∧ W' = wC ∧ TelC (setU us 17 undef) wD wA wB wC wD B V2 := by
  rcases h with ⟨_, h1, _⟩ | ⟨_, h1, _⟩ | ⟨h1, h2, h3, h4⟩ | ⟨_, _, h1, _⟩
  · rw [hu] at h1; cases h1
  · rw [hu] at h1; cases h1
  · have e := h2
    rw [hu] at e
    exact ⟨Option.some.inj e, h4, .inr (.inr (.inr ⟨by rw [setU_other _ _ _ _ (by decide)]; exact h1, by rw [setU_other _ _ _ _ (by decide)]; exact h2, setU_same _ _ _, rfl⟩))⟩
  · rw [hz] at h1; cases h1
theorem TelC.fin (h : TelC us W' wA wB wC wD B V2) (hus : ∀ z, ([14, 15, 17] : List Nat).contains z = true → (us z).isSome = true) : us 14 = some B ∧ us 15 = some V2 ∧ us 17 = some undef ∧ W' = wD := by
  rcases h with ⟨_, h1, _⟩ | ⟨_, h1, _⟩ | ⟨_, _, h1, _⟩ | h
  · have := hus 15 rfl; rw [h1] at this; cases this
  · have := hus 15 rfl; rw [h1] at this; cases this
  · have := hus 17 rfl; rw [h1] at this; cases this
  · exact h
theorem TelC.all {X : World → Prop} (h : TelC us W' wA wB wC wD B V2) (a : X wA) (b : X wB) (c : X wC) (d : X wD) : X W' := by
  rcases h with ⟨_, _, _, rfl⟩ | ⟨_, _, _, rfl⟩ | ⟨_, _, _, rfl⟩ | ⟨_, _, _, rfl⟩
  · exact a
  · exact b
  · exact c
  · exact d
theorem TelC.two {X : World → Prop} (h : TelC us W' wA wB wC wD B V2) (hz : us 15 = none) (a : X wA) (b : X wB) : X W' := by
  rcases h with ⟨_, _, _, rfl⟩ | ⟨_, _, _, rfl⟩ | ⟨_, h1, _⟩ | ⟨_, h1, _⟩
  · exact a
  · exact b
  · rw [hz] at h1; cases h1
  · rw [hz] at h1; cases h1
end tel
section
variable {w0 W W' : World} {s r : Nat} {G : List Nat} {S S' : Dv} {first n : Nat} {lo : Int} {tv : Value} {vs : List Value} {td : List (List (List UInt8))}
/-- What Put leaves: l1 are the bucket's items without the key, and the new one. -/
def PutQ (w0 : World) (s r : Nat) (G : List Nat) (S : Dv) (first n : Nat) (lo : Int) (tv : Value) (vs : List Value) (td : List (List (List UInt8))) (W : World) (b : Nat) (t : List (List UInt8)) (key : List UInt8) (l1 : List It) (e : Ending) (W' : World) : Prop :=
  ∃ S2, Like S S2 ∧
    (S2.writeErr ((first : Int) + (b : Int)) (pgB (l1.drop (ovr l1))) ≠ 0 → e = .returned (.tuple #[.slice none 0 0, .int .i64 (S2.writeErr ((first : Int) + (b : Int)) (pgB (l1.drop (ovr l1))))]) ∧ BkR w0 W' s r G (S2.writeDo ((first : Int) + (b : Int)) (pgB (l1.drop (ovr l1)))) first n lo tv vs td ∧ Keep G W W') ∧
    (S2.writeErr ((first : Int) + (b : Int)) (pgB (l1.drop (ovr l1))) = 0 → ∃ v vs', e = .returned (.tuple #[v, .int .i64 0]) ∧ Row W' W.heap.size v (l1.take (ovr l1)) ∧ BkR w0 W' s r G (S2.writeDo ((first : Int) + (b : Int)) (pgB (l1.drop (ovr l1)))) first n lo tv vs' (td.set b (t ++ [key])) ∧ Keep (G ++ tdF tv vs) W W' ∧ ∀ q ∈ tdF tv vs', q ∈ tdF tv vs ∨ W.heap.size ≤ q)
set_option maxHeartbeats 8000000 in
theorem rput_ok (h : BkR w0 W s r G S first n lo tv vs td) (hL : S.losses = lo) (ho : S.off = false) (x : It) (hxf : x.fits) (hxg : x.good = true) (hx120 : x.size ≤ 120) (t : List (List UInt8)) (ht : td[bkt x.key n]? = some t) (htl : t.length ≤ 100000) (l1 : List It) (hl1 : l1 = (S.its (first + bkt x.key n)).filter (notKey x.key) ++ [x]) :
    Calls Tryz.prog 10 #[.pointer (some ⟨s, 0, none⟩), .agg #[.string (txt x.key), .string (txt x.value), .int .u32 x.flags, .int .i64 x.exp, .int .u64 x.ver]] W (PutQ w0 s r G S first n lo tv vs td W (bkt x.key n) t x.key l1) := by
  have hbx0 : Hid (Blk (W.alloc (.cells #[.string (txt x.key), .string (txt x.value), .int .u32 x.flags, .int .i64 x.exp, .int .u64 x.ver] 39)) W.heap.size (itCells x) 39) := Blk.new W _ 39
  have hbe : Hid (Below W.heap.size W (W.alloc (.cells #[.string (txt x.key), .string (txt x.value), .int .u32 x.flags, .int .i64 x.exp, .int .u64 x.ver] 39))) := (Below.refl _ _).alloc (Nat.le_refl _) _
  have cG := hide (refGood_it' x)
  rw [hxg] at cG
  obtain ⟨hxk, hxv⟩ := good_sizes hxg
  have cZ := hide (refSize_it x (by omega) (by omega))
  obtain ⟨sz, hsz⟩ : ∃ sz, sz = x.size := ⟨_, rfl⟩
  rw [← hsz] at cZ
  have h120 : ¬ (120 : Int) < (sz : Int) := by omega
  have H := hide h
  have HGD := hide h.good
  have cD := hide (fun (V : World) (hV : BkR w0 V s r G S first n lo tv vs td) => rdone_at hV)
  have hne : (S.losses != lo) = false := by simpa using hL
  rw [hne] at cD
  obtain ⟨b, hb⟩ : ∃ b, b = bkt x.key n := ⟨_, rfl⟩
  have hbn : b < n := by rw [hb]; exact bkt_lt x.key n h.n1
  have hn2 := h.n2
  have hff : first ≤ 4096 := by have := h.fit; have := h.good.many; omega
  have hfit := h.fit
  have cO := hide (fun (V : World) (hV : BkR w0 V s r G S first n lo tv vs td) => rof_at hV x.key (by unfold maxLen; omega))
  have hfb : ((first + b : Nat) : Int) = (first : Int) + (b : Int) := by omega
  have hfi : (first : Int) + (b : Int) ≤ 8192 := by omega
  have hwr : IntKind.i64.wrap ((first : Int) + (b : Int)) = (first : Int) + (b : Int) := by rw [IntKind.wrap_i64]; omega
  have HWR := hide hwr
  rw [← hb] at cO ht hl1 ⊢
  obtain ⟨its, hits⟩ : ∃ its, its = S.its (first + b) := ⟨_, rfl⟩
  have hil : its.length ≤ 12 := by rw [hits]; exact its_len h.good _
  have hoks : Oks its := by rw [hits]; exact its_oks h.good _
  have hall := Dv.its_all h.good (first + b)
  rw [← hits] at hl1 hall
  obtain ⟨ys, hys⟩ : ∃ ys, ys = its.filter (notKey x.key) := ⟨_, rfl⟩
  rw [← hys] at hl1
  have hyl : ys.length ≤ 12 := by rw [hys]; exact Nat.le_trans (List.length_filter_le _ _) hil
  have hxo : Oks [x] := fun z hz => by simp only [List.mem_singleton] at hz; subst hz; exact ⟨hxf, by omega, by omega⟩
  have hall1 : ∀ z ∈ l1, z.fits ∧ z.good = true := fun z hz => by
    rw [hl1] at hz
    rcases List.mem_append.1 hz with h1 | h1
    · rw [hys] at h1; exact hall.2 z (List.mem_filter.1 h1).1
    · simp only [List.mem_singleton] at h1; subst h1; exact ⟨hxf, hxg⟩
  have HALL := hide hall1
  have HO1 : Hid (Oks l1) := Oks.of_good hall1
  have HNG : Hid (W.heap.size ∉ G) := fun hg => by have := h.dev.lt _ hg; omega
  have HTS := hide ht
  have HTL := hide htl
  have HXK := hide hxk
  have HBN := hide (And.intro hbn hn2)
  have HLEN := hide h.len
  have hbv2 : (b : Int) < (n : Int) := by omega
  have S10 := hide (fun (w1 w' : World) (us : Nat → Option Value) (H1 : PutC w0 s r G S first n lo tv vs td w1 W.heap.size x its ys us w') (hz : us 10 = none) => H1.s10 hz ho HNG.out (k := first + b) (by omega) hits hoks)
  rw [hfb] at S10
  have S13 := hide (fun (w1 w' : World) (us : Nat → Option Value) (H1 : PutC w0 s r G S first n lo tv vs td w1 W.heap.size x its ys us w') (v : Value) (hz : us 13 = none) (hv : us 10 = some v) => H1.s13 hz (by omega) hys hv)
  have S16 := hide (fun (w1 w' : World) (us : Nat → Option Value) (H1 : PutC w0 s r G S first n lo tv vs td w1 W.heap.size x its ys us w') (h1 : BkR w0 w1 s r G S first n lo tv vs td) (hN : W.heap.size < w1.heap.size) (hz : us 16 = none) (v u : Value) (hv : us 13 = some v) (hu : us 15 = some u) => H1.s16 h1 hN hz hxo (by omega) hv hu)
  have HL1 := hide hl1
  have HX120 := hide hx120
  have hn1 : l1.length = ys.length + 1 := by rw [hl1]; simp
  have HN1 := hide hn1
  clear h hL hxf hxg hx120 hsz hxk hxv hne hb ht htl hwr hits hall hys hxo hall1 hoks ho hl1 hfit
  go_enter Tryz.func10, Tryz.ntmps10
  go_wp2_with fail
  refine (cG.out _).mono ?_
  rintro e w1 ⟨rfl, b1⟩
  have B1 := hide (hbe.out.trans (b1.mono hbe.out.size))
  have X1 := hide (hbx0.out.same (b1.block W.heap.size hbx0.out.lt))
  clear b1 cG
  have q0 := X1.out.cell (i := 0) rfl
  have q1 := X1.out.cell (i := 1) rfl
  have q2 := X1.out.cell (i := 2) rfl
  have q3 := X1.out.cell (i := 3) rfl
  have q4 := X1.out.cell (i := 4) rfl
  go_wp2_with fail
  refine (cZ.out _).mono ?_
  rintro e w2 ⟨rfl, b2⟩
  have B2 := hide (B1.out.trans (b2.mono B1.out.size))
  have X2 := hide (X1.out.same (b2.block W.heap.size X1.out.lt))
  clear b2 q0 q1 q2 q3 q4 cZ
  go_wp2_with fail
  refine (cD.out w2 (H.out.below B2.out)).mono ?_
  rintro e w3 ⟨rfl, q, hq⟩
  have B3 : Hid (Below W.heap.size W w3) := by rw [hq]; exact B2.out.trans (Below.mono (drewN_below w2 q) B2.out.size)
  have X3 : Hid (Blk w3 W.heap.size (itCells x) 39) := by show Blk _ _ _ _; rw [hq]; exact X2.out.same rfl
  clear hq cD
  have q0 := X3.out.cell (i := 0) rfl
  go_wp2_with fail
  refine (cO.out w3 (H.out.below B3.out)).mono ?_
  rintro e w4 ⟨rfl, q, hq⟩
  have B4 : Hid (Below W.heap.size W w4) := by rw [hq]; exact B3.out.trans (Below.mono (drewN_below w3 q) B3.out.size)
  have X4 : Hid (Blk w4 W.heap.size (itCells x) 39) := by show Blk _ _ _ _; rw [hq]; exact X3.out.same rfl
  have HB4 := hide (H.out.below B4.out)
  clear hq cO q0
  go_wp2_with fail
  obtain ⟨CP, hCP⟩ : ∃ CP : (Nat → Option Value) → World → Prop, CP = PutC w0 s r G S first n lo tv vs td w4 W.heap.size x its ys := ⟨_, rfl⟩
  have HP0 : Hid (CP (fun _ => none) { w4 with drawn := w4.drawn + 1 }) := by show CP _ _; rw [hCP]; exact PutC.start HB4.out X4.out
  have HBX : Hid (∀ us w', CP us w' → Blk w' s (bxR r first n tv lo) 78) := fun us w' h => by rw [hCP] at h; obtain ⟨S2, h1, _⟩ := h.bk; exact h1.box
  have HNX : Hid (∀ us w', CP us w' → Blk w' W.heap.size (itCells x) 39) := fun us w' h => by rw [hCP] at h; exact h.bx
  have HS10 : Hid (∀ us w', CP us w' → us 10 = none → Calls Tryz.prog 26 #[.pointer (some ⟨r, 0, none⟩), .int .i64 ((first : Int) + (b : Int))] w' fun e w2 => ∃ v, e = .returned v ∧ CP (setU us 10 v) w2) := fun us w' h hz => by rw [hCP] at h ⊢; exact S10.out w4 w' us h hz
  have HS13 : Hid (∀ us w' v, CP us w' → us 13 = none → us 10 = some v → ∃ a c, v = .slice a its.length c ∧ Calls Tryz.prog 40 #[.slice a its.length c, .string (txt x.key)] w' fun e w2 => ∃ v, e = .returned v ∧ CP (setU us 13 v) w2) := fun us w' v h hz hv => by rw [hCP] at h ⊢; exact S13.out w4 w' us h v hz hv
  have HS15 : Hid (∀ us w', CP us w' → us 15 = none → CP (setU us 15 (.slice (some ⟨w'.heap.size, 0, none⟩) 1 1)) (w'.alloc (.cells (itCells x).toArray 39))) := fun us w' h hz => by rw [hCP] at h ⊢; exact h.s15 hz
  have HS16 : Hid (∀ us w' v u, CP us w' → us 16 = none → us 13 = some v → us 15 = some u → ∃ v' w2, (Builtin.append_ #[45, 45] 45 #[v, u]).run Tryz.prog w' = .ok v' w2 ∧ CP (setU us 16 v') w2) := fun us w' v u h hz hv hu => by rw [hCP] at h ⊢; exact S16.out w4 w' us h HB4.out X4.out.lt hz v u hv hu
  have HS17 : Hid (∀ us w' v, CP us w' → us 16 = some v → CP (setU us 17 v) w') := fun us w' v h hv => by rw [hCP] at h ⊢; exact h.s17 hv
  have HEND : Hid (∀ us w', CP us w' → (∀ z, ([10, 13, 15, 16, 17] : List Nat).contains z = true → (us z).isSome = true) → ∃ u10 u13 u15 a c, us 10 = some u10 ∧ us 13 = some u13 ∧ us 15 = some u15 ∧ us 16 = some (.slice a (ys.length + 1) c) ∧ us 17 = some (.slice a (ys.length + 1) c) ∧ ItsAt w' a (ys.length + 1) l1 ∧ (ys.length + 1 ≤ c ∧ c ≤ maxLen) ∧ ∃ S2, BkR w0 w' s r G S2 first n lo tv vs td ∧ Like S S2 ∧ Keep G w4 w') := fun us w' h hus => by
    rw [hCP] at h
    obtain ⟨u10, h10⟩ := Option.isSome_iff_exists.1 (hus 10 rfl)
    obtain ⟨u13, h13⟩ := Option.isSome_iff_exists.1 (hus 13 rfl)
    obtain ⟨u15, h15⟩ := Option.isSome_iff_exists.1 (hus 15 rfl)
    obtain ⟨u17, h17⟩ := Option.isSome_iff_exists.1 (hus 17 rfl)
    have h16 := h.v17 u17 h17
    have hr := h.v16 u17 h16
    rw [← HL1.out] at hr
    obtain ⟨a, c, hv, hI, _, hc1, hc2⟩ := hr.its HO1.out
    rw [HN1.out] at hv hI hc1
    subst hv
    exact ⟨u10, u13, u15, a, c, h10, h13, h15, h16, h17, hI, ⟨hc1, hc2⟩, h.bk⟩
  clear hCP S10 S13 S16
  refine wp_region_par (by kernel_rfl) (by kernel_rfl) (fun jx => ([.pointer (some ⟨s, 0, none⟩), .pointer (some ⟨s, 0, none⟩), .pointer (some ⟨s, 0, none⟩), .pointer (some ⟨r, 0, none⟩), .pointer (some ⟨s, 0, none⟩), .pointer (some ⟨s, 0, none⟩), .pointer (some ⟨s, 1, none⟩), .int .i64 (first : Int), .int .i64 (b : Int), .int .i64 ((first : Int) + (b : Int)), undef, .pointer (some ⟨W.heap.size, 0, none⟩), .string (txt x.key), undef, .agg #[.string (txt x.key), .string (txt x.value), .int .u32 x.flags, .int .i64 x.exp, .int .u64 x.ver], undef, undef, undef] : List Value).getD jx undef) [10, 13, 15, 16, 17] (fun z hz => by simp at hz; rcases hz with rfl | rfl | rfl | rfl | rfl <;> decide) (CP) (HP0.out) ?_ ?_
  · intro jx ox hi us w' ev hc hbef haft hin hout hold hcst hfn
    have hltx : jx < 18 := by
      have := (Array.getElem?_eq_some_iff.1 hi).1
      simpa using this
    match jx, hltx with
    | 0, _ =>
      simp only [List.getElem?_toArray, List.getElem?_cons_zero, List.getElem?_cons_succ, Option.some.injEq] at hi
      subst hi
      have ha17 : us 17 = none := haft 17 rfl (by kernel_rfl)
      have e0 : ev (.tmp 0) = .pointer (some ⟨s, 0, none⟩) := hout 0 (by kernel_rfl) (show (0 : Nat) < 92 by decide)
      refine ⟨fun hno => absurd hno (by decide), fun _ => ?_⟩
      simp [execOp, e0, hcst, go_sem]
    | 1, _ =>
      simp only [List.getElem?_toArray, List.getElem?_cons_zero, List.getElem?_cons_succ, Option.some.injEq] at hi
      subst hi
      have ha17 : us 17 = none := haft 17 rfl (by kernel_rfl)
      have e0 : ev (.tmp 26) = .pointer (some ⟨s, 0, none⟩) := hin 26 0 ⟨0, .data⟩ (by kernel_rfl) (by simp) rfl rfl (show (26 : Nat) < 92 by decide)
      refine ⟨fun hno => absurd hno (by decide), fun _ => ?_⟩
      simp [execOp, e0, hcst, go_sem]
    | 2, _ =>
      simp only [List.getElem?_toArray, List.getElem?_cons_zero, List.getElem?_cons_succ, Option.some.injEq] at hi
      subst hi
      have ha17 : us 17 = none := haft 17 rfl (by kernel_rfl)
      have e0 : ev (.tmp 27) = .pointer (some ⟨s, 0, none⟩) := hin 27 1 ⟨1, .data⟩ (by kernel_rfl) (by simp) rfl rfl (show (27 : Nat) < 92 by decide)
      refine ⟨fun hno => absurd hno (by decide), fun _ => ?_⟩
      simp [execOp, e0, hcst, go_sem]
    | 3, _ =>
      simp only [List.getElem?_toArray, List.getElem?_cons_zero, List.getElem?_cons_succ, Option.some.injEq] at hi
      subst hi
      have ha10 : us 10 = none := haft 10 rfl (by kernel_rfl)
      have ha17 : us 17 = none := haft 17 rfl (by kernel_rfl)
      have e0 : ev (.tmp 28) = .pointer (some ⟨s, 0, none⟩) := hin 28 2 ⟨2, .data⟩ (by kernel_rfl) (by simp) rfl rfl (show (28 : Nat) < 92 by decide)
      refine ⟨fun hno => absurd hno (by decide), fun _ => ?_⟩
      have q := (HBX.out us w' hc).cell (i := 0) rfl
      simp [execOp, e0, hcst, go_sem, q, bxR]
    | 4, _ =>
      simp only [List.getElem?_toArray, List.getElem?_cons_zero, List.getElem?_cons_succ, Option.some.injEq] at hi
      subst hi
      have ha17 : us 17 = none := haft 17 rfl (by kernel_rfl)
      have e0 : ev (.tmp 0) = .pointer (some ⟨s, 0, none⟩) := hout 0 (by kernel_rfl) (show (0 : Nat) < 92 by decide)
      refine ⟨fun hno => absurd hno (by decide), fun _ => ?_⟩
      simp [execOp, e0, hcst, go_sem]
    | 5, _ =>
      simp only [List.getElem?_toArray, List.getElem?_cons_zero, List.getElem?_cons_succ, Option.some.injEq] at hi
      subst hi
      have ha17 : us 17 = none := haft 17 rfl (by kernel_rfl)
      have e0 : ev (.tmp 30) = .pointer (some ⟨s, 0, none⟩) := hin 30 4 ⟨4, .data⟩ (by kernel_rfl) (by simp) rfl rfl (show (30 : Nat) < 92 by decide)
      refine ⟨fun hno => absurd hno (by decide), fun _ => ?_⟩
      simp [execOp, e0, hcst, go_sem]
    | 6, _ =>
      simp only [List.getElem?_toArray, List.getElem?_cons_zero, List.getElem?_cons_succ, Option.some.injEq] at hi
      subst hi
      have ha17 : us 17 = none := haft 17 rfl (by kernel_rfl)
      have e0 : ev (.tmp 31) = .pointer (some ⟨s, 0, none⟩) := hin 31 5 ⟨5, .data⟩ (by kernel_rfl) (by simp) rfl rfl (show (31 : Nat) < 92 by decide)
      refine ⟨fun hno => absurd hno (by decide), fun _ => ?_⟩
      simp [execOp, e0, hcst, go_sem]
    | 7, _ =>
      simp only [List.getElem?_toArray, List.getElem?_cons_zero, List.getElem?_cons_succ, Option.some.injEq] at hi
      subst hi
      have ha17 : us 17 = none := haft 17 rfl (by kernel_rfl)
      have e0 : ev (.tmp 32) = .pointer (some ⟨s, 1, none⟩) := hin 32 6 ⟨6, .data⟩ (by kernel_rfl) (by simp) rfl rfl (show (32 : Nat) < 92 by decide)
      refine ⟨fun hno => absurd hno (by decide), fun _ => ?_⟩
      have q := (HBX.out us w' hc).cell (i := 1) rfl
      simp [execOp, e0, hcst, go_sem, q, bxR]
    | 8, _ =>
      simp only [List.getElem?_toArray, List.getElem?_cons_zero, List.getElem?_cons_succ, Option.some.injEq] at hi
      subst hi
      have ha17 : us 17 = none := haft 17 rfl (by kernel_rfl)
      have e0 : ev (.tmp 6) = .int .i64 (b : Int) := hout 6 (by kernel_rfl) (show (6 : Nat) < 92 by decide)
      refine ⟨fun hno => absurd hno (by decide), fun _ => ?_⟩
      simp [execOp, e0, hcst, go_sem]
    | 9, _ =>
      simp only [List.getElem?_toArray, List.getElem?_cons_zero, List.getElem?_cons_succ, Option.some.injEq] at hi
      subst hi
      have ha10 : us 10 = none := haft 10 rfl (by kernel_rfl)
      have ha17 : us 17 = none := haft 17 rfl (by kernel_rfl)
      have e0 : ev (.tmp 33) = .int .i64 (first : Int) := hin 33 7 ⟨7, .data⟩ (by kernel_rfl) (by simp) rfl rfl (show (33 : Nat) < 92 by decide)
      have e1 : ev (.tmp 34) = .int .i64 (b : Int) := hin 34 8 ⟨8, .data⟩ (by kernel_rfl) (by simp) rfl rfl (show (34 : Nat) < 92 by decide)
      refine ⟨fun hno => absurd hno (by decide), fun _ => ?_⟩
      have q := HWR.out
      simp [execOp, e0, e1, hcst, go_sem, q]
    | 10, _ =>
      simp only [List.getElem?_toArray, List.getElem?_cons_zero, List.getElem?_cons_succ, Option.some.injEq] at hi
      subst hi
      have ha13 : us 13 = none := haft 13 rfl (by kernel_rfl)
      have ha17 : us 17 = none := haft 17 rfl (by kernel_rfl)
      have e0 : ev (.tmp 29) = .pointer (some ⟨r, 0, none⟩) := hin 29 3 ⟨3, .data⟩ (by kernel_rfl) (by simp) rfl rfl (show (29 : Nat) < 92 by decide)
      have e1 : ev (.tmp 35) = .int .i64 ((first : Int) + (b : Int)) := hin 35 9 ⟨9, .data⟩ (by kernel_rfl) (by simp) rfl rfl (show (35 : Nat) < 92 by decide)
      refine ⟨fun _ hz => ?_, fun hno => absurd hno (by decide)⟩
      refine .inl (.inr ⟨26, #[.pointer (some ⟨r, 0, none⟩), .int .i64 ((first : Int) + (b : Int))], ?_, HS10.out us w' hc hz⟩)
      have ef := hfn 26
      simp [execOp, resolve, invoke, ef, hcst, e0, e1, Result.andThen]
      exact enter26 _ _
    | 11, _ =>
      simp only [List.getElem?_toArray, List.getElem?_cons_zero, List.getElem?_cons_succ, Option.some.injEq] at hi
      subst hi
      have ha17 : us 17 = none := haft 17 rfl (by kernel_rfl)
      have e0 : ev (.tmp 3) = .pointer (some ⟨W.heap.size, 0, none⟩) := hout 3 (by kernel_rfl) (show (3 : Nat) < 92 by decide)
      refine ⟨fun hno => absurd hno (by decide), fun _ => ?_⟩
      simp [execOp, e0, hcst, go_sem]
    | 12, _ =>
      simp only [List.getElem?_toArray, List.getElem?_cons_zero, List.getElem?_cons_succ, Option.some.injEq] at hi
      subst hi
      have ha13 : us 13 = none := haft 13 rfl (by kernel_rfl)
      have ha17 : us 17 = none := haft 17 rfl (by kernel_rfl)
      have e0 : ev (.tmp 37) = .pointer (some ⟨W.heap.size, 0, none⟩) := hin 37 11 ⟨11, .data⟩ (by kernel_rfl) (by simp) rfl rfl (show (37 : Nat) < 92 by decide)
      refine ⟨fun hno => absurd hno (by decide), fun _ => ?_⟩
      have q := (HNX.out us w' hc).cell (i := 0) rfl
      simp [execOp, e0, hcst, go_sem, q, itCells]
    | 13, _ =>
      simp only [List.getElem?_toArray, List.getElem?_cons_zero, List.getElem?_cons_succ, Option.some.injEq] at hi
      subst hi
      have hb10 : (us 10).isSome = true := hbef 10 rfl (by kernel_rfl)
      have ha16 : us 16 = none := haft 16 rfl (by kernel_rfl)
      have ha17 : us 17 = none := haft 17 rfl (by kernel_rfl)
      have e0 : ev (.tmp 36) = (us 10).getD undef := hin 36 10 ⟨10, .data⟩ (by kernel_rfl) (by simp) rfl rfl (show (36 : Nat) < 92 by decide)
      have e1 : ev (.tmp 38) = .string (txt x.key) := hin 38 12 ⟨12, .data⟩ (by kernel_rfl) (by simp) rfl rfl (show (38 : Nat) < 92 by decide)
      refine ⟨fun _ hz => ?_, fun hno => absurd hno (by decide)⟩
      obtain ⟨u10, h10⟩ := Option.isSome_iff_exists.1 hb10
      obtain ⟨a, c, rfl, hcalls⟩ := HS13.out us w' u10 hc hz h10
      rw [h10] at e0
      simp only [Option.getD_some] at e0
      refine .inl (.inr ⟨40, #[.slice a its.length c, .string (txt x.key)], ?_, hcalls⟩)
      have ef := hfn 40
      simp [execOp, resolve, invoke, ef, hcst, e0, e1, Result.andThen]
      exact enter40R _ _
    | 14, _ =>
      simp only [List.getElem?_toArray, List.getElem?_cons_zero, List.getElem?_cons_succ, Option.some.injEq] at hi
      subst hi
      have ha15 : us 15 = none := haft 15 rfl (by kernel_rfl)
      have ha17 : us 17 = none := haft 17 rfl (by kernel_rfl)
      have e0 : ev (.tmp 3) = .pointer (some ⟨W.heap.size, 0, none⟩) := hout 3 (by kernel_rfl) (show (3 : Nat) < 92 by decide)
      refine ⟨fun hno => absurd hno (by decide), fun _ => ?_⟩
      have q0 := (HNX.out us w' hc).cell (i := 0) rfl
      have q1 := (HNX.out us w' hc).cell (i := 1) rfl
      have q2 := (HNX.out us w' hc).cell (i := 2) rfl
      have q3 := (HNX.out us w' hc).cell (i := 3) rfl
      have q4 := (HNX.out us w' hc).cell (i := 4) rfl
      simp [execOp, e0, hcst, go_sem, q0, q1, q2, q3, q4]
    | 15, _ =>
      simp only [List.getElem?_toArray, List.getElem?_cons_zero, List.getElem?_cons_succ, Option.some.injEq] at hi
      subst hi
      have ha16 : us 16 = none := haft 16 rfl (by kernel_rfl)
      have ha17 : us 17 = none := haft 17 rfl (by kernel_rfl)
      have e0 : ev (.tmp 40) = .agg #[.string (txt x.key), .string (txt x.value), .int .u32 x.flags, .int .i64 x.exp, .int .u64 x.ver] := hin 40 14 ⟨14, .data⟩ (by kernel_rfl) (by simp) rfl rfl (show (40 : Nat) < 92 by decide)
      refine ⟨fun _ hz => ?_, fun hno => absurd hno (by decide)⟩
      refine .inl (.inl ⟨_, _, ?_, HS15.out us w' hc hz⟩)
      simp [execOp, e0, hcst, go_sem, itCells]
    | 16, _ =>
      simp only [List.getElem?_toArray, List.getElem?_cons_zero, List.getElem?_cons_succ, Option.some.injEq] at hi
      subst hi
      have hb13 : (us 13).isSome = true := hbef 13 rfl (by kernel_rfl)
      have hb15 : (us 15).isSome = true := hbef 15 rfl (by kernel_rfl)
      have ha17 : us 17 = none := haft 17 rfl (by kernel_rfl)
      have e0 : ev (.tmp 39) = (us 13).getD undef := hin 39 13 ⟨13, .data⟩ (by kernel_rfl) (by simp) rfl rfl (show (39 : Nat) < 92 by decide)
      have e1 : ev (.tmp 41) = (us 15).getD undef := hin 41 15 ⟨15, .data⟩ (by kernel_rfl) (by simp) rfl rfl (show (41 : Nat) < 92 by decide)
      refine ⟨fun _ hz => ?_, fun hno => absurd hno (by decide)⟩
      obtain ⟨u13, h13⟩ := Option.isSome_iff_exists.1 hb13
      obtain ⟨u15, h15⟩ := Option.isSome_iff_exists.1 hb15
      rw [h13] at e0
      rw [h15] at e1
      simp only [Option.getD_some] at e0 e1
      obtain ⟨v', w2, hrun, hC2⟩ := HS16.out us w' u13 u15 hc hz h13 h15
      refine .inl (.inl ⟨v', w2, ?_, hC2⟩)
      unfold execOp
      simp only [resolve, invoke, builtin, Sem.run_bind, Sem.run_pure, Result.andThen_ok, List.map_toArray, List.map_cons, List.map_nil, e0, e1, hrun]
    | 17, _ =>
      simp only [List.getElem?_toArray, List.getElem?_cons_zero, List.getElem?_cons_succ, Option.some.injEq] at hi
      subst hi
      have hb10 : (us 10).isSome = true := hbef 10 rfl (by kernel_rfl)
      have hb13 : (us 13).isSome = true := hbef 13 rfl (by kernel_rfl)
      have hb15 : (us 15).isSome = true := hbef 15 rfl (by kernel_rfl)
      have hb16 : (us 16).isSome = true := hbef 16 rfl (by kernel_rfl)
      have e0 : ev (.tmp 42) = (us 16).getD undef := hin 42 16 ⟨16, .data⟩ (by kernel_rfl) (by simp) rfl rfl (show (42 : Nat) < 92 by decide)
      refine ⟨fun _ hz => ?_, fun hno => absurd hno (by decide)⟩
      obtain ⟨u16, h16⟩ := Option.isSome_iff_exists.1 hb16
      rw [h16] at e0
      simp only [Option.getD_some] at e0
      refine .inl (.inl ⟨u16, w', ?_, HS17.out us w' u16 hc h16⟩)
      simp [execOp, e0, hcst, go_sem]
  · intro us w7 hus hc
    obtain ⟨u10, u13, u15, a, c, h10, h13, h15, h16, h17, hI7, hc7, S2, hB7, hL7, hK7⟩ := HEND.out us w7 hc hus
    rw [lexF_same (V' := fun jx => ([.pointer (some ⟨s, 0, none⟩), .pointer (some ⟨s, 0, none⟩), .pointer (some ⟨s, 0, none⟩), .pointer (some ⟨r, 0, none⟩), .pointer (some ⟨s, 0, none⟩), .pointer (some ⟨s, 0, none⟩), .pointer (some ⟨s, 1, none⟩), .int .i64 (first : Int), .int .i64 (b : Int), .int .i64 ((first : Int) + (b : Int)), u10, .pointer (some ⟨W.heap.size, 0, none⟩), .string (txt x.key), u13, .agg #[.string (txt x.key), .string (txt x.value), .int .u32 x.flags, .int .i64 x.exp, .int .u64 x.ver], u15, (.slice a (ys.length + 1) c), (.slice a (ys.length + 1) c)] : List Value).getD jx undef) _ 0 _ (fun jx _ hj => by
      have hlt : jx < 18 := by simpa using hj
      match jx, hlt with
      | 0, _ => rfl
      | 1, _ => rfl
      | 2, _ => rfl
      | 3, _ => rfl
      | 4, _ => rfl
      | 5, _ => rfl
      | 6, _ => rfl
      | 7, _ => rfl
      | 8, _ => rfl
      | 9, _ => rfl
      | 10, _ => simp [parV, *]
      | 11, _ => rfl
      | 12, _ => rfl
      | 13, _ => simp [parV, *]
      | 14, _ => rfl
      | 15, _ => simp [parV, *]
      | 16, _ => simp [parV, *]
      | 17, _ => simp [parV, *]
      | jy + 18, hy => exact absurd hy (by omega))]
    simp only [lexF, Act.put, List.setIfInBounds_toArray, List.set_cons_succ, List.set_cons_zero, List.getD_cons_succ, List.getD_cons_zero]
    have HI7 := hide hI7
    have HC7 := hide hc7
    have HB7 := hide hB7
    have HL7 := hide hL7
    have HK7 : Hid (Keep G W w7) := (Keep.of_below (F := G) B4.out).trans hK7 (fun x hx => .inl hx)
    have X7 := hide (HNX.out us w7 hc)
    clear hI7 hc7 hB7 hL7 hK7 hc hus h10 h13 h15 h16 h17 HEND HS10 HS13 HS15 HS16 HS17 HNX HBX HP0
    obtain ⟨m, hm⟩ : ∃ m, m = ys.length + 1 := ⟨_, rfl⟩
    rw [← hm] at HI7 HC7 HN1 ⊢
    have HM := hide hm
    have hm13 : m ≤ 13 := by omega
    have hc2 := HC7.out.2
    unfold maxLen at hc2
    clear hm
    go_wp2_with fail
    go_loopg [7, 8] m (fun kx s7 s8 wr => ∃ (k : Nat) (la : Option Addr) (ll lc : Nat) (va : Option Addr) (vn vc : Nat), s7 = .slice la ll lc ∧ s8 = .slice va vn vc ∧ ll = m - k ∧ k ≤ m ∧ m - k ≤ kx ∧ ll ≤ lc ∧ lc ≤ 9223372036854775807 ∧ Hid (ItsAt w7 la (m - k) (l1.drop k) ∧ vn = k ∧ Row wr w7.heap.size (.slice va vn vc) (l1.take k) ∧ Below w7.heap.size w7 wr ∧ ovr l1 = k + ovr (l1.drop k)))
    case atStart => exact ⟨0, a, m, c, none, 0, 0, rfl, rfl, by omega, Nat.zero_le _, by omega, HC7.out.1, hc2, HI7.out, rfl, Row.nil _ _, Below.refl _ _, (Nat.zero_add _).symm⟩
    case round =>
      obtain ⟨k, la, ll, lc, va, vn, vc, rfl, rfl, hll, hkm, hkx, hlc, hlc2, I⟩ := hrel
      have HLL := hide hll
      have hl13 : ll ≤ 13 := by omega
      have hI8 := I.out.1
      rw [← hll] at hI8
      have cS := hide (rsize_any la ll lc (l1.drop k) (by omega) (fun z hz => HO1.out z (List.mem_of_mem_drop hz)) (fun z hz => by have := good_sizes (HALL.out z (List.mem_of_mem_drop hz)).2; unfold It.size; omega) wr (hI8.below I.out.2.2.2.1))
      obtain ⟨tt, htt⟩ : ∃ tt, tt = total (l1.drop k) := ⟨_, rfl⟩
      rw [← htt] at cS
      have HTT := hide htt
      have HI8 := hide hI8
      have hvn := I.out.2.1
      have HVN := hide hvn
      clear hll hI8 htt hvn
      go_wp2_with fail
      refine cS.out.mono ?_
      rintro e w8 ⟨rfl, b8⟩
      have B8 := hide (I.out.2.2.2.1.trans (b8.mono I.out.2.2.2.1.size))
      have R8 := hide (I.out.2.2.1.below b8)
      have OV := hide I.out.2.2.2.2
      clear b8 cS I
      by_cases hbig : 384 < tt
      · have hbig2 : (384 : Int) < (tt : Int) := by omega
        obtain ⟨x0, hx0, hdk, hov, htx⟩ := ovr_go l1 k (by rw [← HTT.out]; exact hbig)
        have hk1 : k < m := by have := (List.getElem?_eq_some_iff.1 hx0).1; rw [HN1.out] at this; exact this
        have hl2 : 2 ≤ ll := by
          rcases Nat.lt_or_ge ll 2 with h1 | h1
          · exfalso
            have hkm1 : k = ys.length := by have := HLL.out; have := HM.out; omega
            have hxx : x0 = x := by
              rw [HL1.out, hkm1, List.getElem?_append_right (Nat.le_refl _), Nat.sub_self] at hx0
              exact (Option.some.inj hx0).symm
            have hnil : l1.drop (k + 1) = [] := List.drop_eq_nil_of_le (by rw [HN1.out]; have := HM.out; omega)
            rw [hnil, hxx, ← HTT.out] at htx
            have := HX120.out
            have e0 : total [] = 0 := rfl
            omega
          · exact h1
        have hl1 : 1 ≤ ll := by omega
        have hlc3 : 2 ≤ lc := by omega
        obtain ⟨b0, o0, rfl, hb0, hcc⟩ := HI8.out.cell 0 x0 (by rw [hdk]; rfl)
        have hI9 := HI8.out
        rw [hdk] at hI9
        have HT9 := hide (its_tail hI9)
        have hcc2 := hcc.below B8.out hb0
        rw [Nat.zero_mul, Nat.add_zero] at hcc2
        obtain ⟨d0, d1, d2, d3, d4⟩ := hcc2.vals
        obtain ⟨ua, un, uc, w9, hrun, hun, hrow, hkp⟩ := app_one R8.out x0 (fun z hz => by simp only [List.mem_singleton] at hz; subst hz; exact HO1.out z (List.mem_of_getElem? hx0)) (by rw [List.length_take]; omega) B8.out.size
        have HR := hide hrun
        have htk : l1.take (k + 1) = l1.take k ++ [x0] := by rw [List.take_add_one, hx0]; rfl
        have T : Hid (ItsAt w7 (some ⟨b0, o0 + 5, none⟩) (m - (k + 1)) (l1.drop (k + 1)) ∧ un = k + 1 ∧ Row w9 w7.heap.size (.slice ua un uc) (l1.take (k + 1)) ∧ Below w7.heap.size w7 w9 ∧ ovr l1 = (k + 1) + ovr (l1.drop (k + 1))) := by
          refine ⟨?_, ?_, by rw [htk]; exact hrow, row_keep_bel R8.out B8.out hkp, by have := OV.out; omega⟩
          · have e : m - (k + 1) = ll - 1 := by have := HLL.out; omega
            rw [e]; exact HT9.out
          · rw [hun, List.length_take, HN1.out]; omega
        have hll1 : ll - 1 = m - (k + 1) := by have := HLL.out; omega
        have HLL1 := hide hll1
        clear hx0 hdk hov htx hcc hcc2 hI9 hrun hun hrow hkp htk hb0 hll1 HI8
        go_wp2_with (at_builtin; refine Lib.wpList_append_run _ rfl _ _ _ _ rfl _ _ rfl rfl _ _ HR.out ?_)
        go_roundg (m - (k + 1))
        case measure => omega
        case rel => exact ⟨k + 1, some ⟨b0, o0 + 5, none⟩, ll - 1, lc - 1, ua, un, uc, rfl, rfl, HLL1.out, by omega, by omega, by omega, by omega, T.out⟩
      · have hbig2 : ¬ (384 : Int) < (tt : Int) := by omega
        have hko : ovr l1 = k := by have h1 := OV.out; have e0 := ovr_stop (xs := l1.drop k) (by rw [← HTT.out]; exact hbig); rw [e0] at h1; omega
        have HKO := hide hko
        have hI9 := HI8.out.below B8.out
        have hfit : total (l1.drop k) ≤ 384 := by rw [← HTT.out]; omega
        have cY := hide (refLay_any la ll lc (l1.drop k) 384 (by omega) (by omega) (by omega) w8 ⟨hI9.len, fun z hz => (hI9.fits z hz).1, hI9.cell⟩)
        obtain ⟨tp, htp⟩ : ∃ tp, tp = pgB (l1.drop k) := ⟨_, rfl⟩
        have hlay : layS (l1.drop k) 384 = .tuple #[.string tp, .int .i64 0] := by
          have hgt : (l1.drop k).all It.good = true := List.all_eq_true.2 (fun z hz => (HALL.out z (List.mem_of_mem_drop hz)).2)
          unfold layS
          rw [if_neg (by omega), if_neg (by rw [hgt]; decide), if_pos (by omega), htp]
          rfl
        rw [hlay] at cY
        have HTP := hide htp
        obtain ⟨we, hwe⟩ : ∃ we, we = S2.writeErr ((first : Int) + (b : Int)) tp := ⟨_, rfl⟩
        have HWE := hide hwe
        have B78 := hide (HB7.out.beside (F := []) (Keep.of_below (F := []) (B8.out)) (by simp))
        clear hko hI9 hfit hlay htp hwe hbig
        go_wp2_with fail
        refine cY.out.mono ?_
        rintro e wL ⟨rfl, bL⟩
        have B9 := hide (B78.out.below bL)
        have K9 : Hid (Keep G W wL) := (HK7.out.trans (Keep.of_below B8.out) (fun x hx => .inl hx)).trans (Keep.of_below bL) (fun x hx => .inl hx)
        have R9 := hide (R8.out.below bL)
        have X9 := hide ((X7.out.same (B8.out.block _ X7.out.lt)).same (bL.block _ (X7.out.same (B8.out.block _ X7.out.lt)).lt))
        clear bL cY
        go_wp2_with fail
        obtain ⟨CJ, hCJ⟩ : ∃ CJ : List Value → World → Prop, CJ = fun us W' => match us with
          | [] => W' = wL.drew
          | [u] => u = .int .i64 we ∧ RfAt W' r G (S2.writeDo ((first : Int) + (b : Int)) tp) ∧ Keep G wL W'
          | [u, v] => v = u ∧ u = .int .i64 we ∧ RfAt W' r G (S2.writeDo ((first : Int) + (b : Int)) tp) ∧ Keep G wL W'
          | _ => False := ⟨_, rfl⟩
        have HJ0 : Hid (CJ [] { wL with drawn := wL.drawn + 1 }) := by show CJ [] _; rw [hCJ]; rfl
        have HBY : Hid (∀ us w', CJ us w' → Blk w' s (bxR r first n tv lo) 78) := fun us w' h => by
          rw [hCJ] at h
          match us, h with
          | [], h => have h : w' = wL.drew := h; rw [h]; exact B9.out.drew.box
          | [u], h => obtain ⟨_, h2, h4⟩ := h; exact (B9.out.read h2 (write_len _ _ _) h4).box
          | [u, v], h => obtain ⟨_, _, h2, h4⟩ := h; exact (B9.out.read h2 (write_len _ _ _) h4).box
        have HDL : Hid (∀ w', CJ [] w' → Calls Tryz.prog 43 #[.pointer (some ⟨r, 0, none⟩), .int .i64 ((first : Int) + (b : Int)), .string tp] w' fun e w2 => ∃ v, e = .returned v ∧ CJ ([] ++ [v]) w2) := fun w' h => by
          rw [hCJ] at h ⊢
          have h : w' = wL.drew := h
          subst h
          refine (rwrite_at r G S2 ((first : Int) + (b : Int)) tp _ B9.out.drew.dev).mono ?_
          rintro e w2 ⟨rfl, h1, h2⟩
          exact ⟨_, rfl, by rw [HWE.out], h1, (Keep.of_below (Below.refl _ wL).drew).trans h2 (fun x hx => .inl hx)⟩
        have HGI : Hid (∀ u w', CJ [u] w' → CJ ([u] ++ [u]) w') := fun u w' h => by
          rw [hCJ] at h ⊢
          exact ⟨rfl, h⟩
        have HENE : Hid (∀ us w', us.length = 2 → CJ us w' → us = [.int .i64 we, .int .i64 we] ∧ RfAt w' r G (S2.writeDo ((first : Int) + (b : Int)) tp) ∧ Keep G wL w') := fun us w' hl h => by
          match us, hl with
          | [u, v], _ =>
            rw [hCJ] at h
            obtain ⟨rfl, rfl, h1, h2⟩ := h
            exact ⟨rfl, h1, h2⟩
        clear hCJ
        refine wp_region_lin (by kernel_rfl) (by kernel_rfl) (fun jx => ([.pointer (some ⟨s, 0, none⟩), .pointer (some ⟨s, 0, none⟩), .pointer (some ⟨s, 0, none⟩), .pointer (some ⟨r, 0, none⟩), .pointer (some ⟨s, 0, none⟩), .pointer (some ⟨s, 0, none⟩), .pointer (some ⟨s, 1, none⟩), .int .i64 (first : Int), .int .i64 (b : Int), .int .i64 ((first : Int) + (b : Int)), .string tp, undef, undef] : List Value).getD jx undef) [11, 12] (by kernel_rfl) (by decide) (by decide) (CJ) (HJ0.out) ?_ ?_
        · intro jx ox hi us w' ev hc hul hbef haft hin hout hold hcst hfn
          have hltx : jx < 13 := by
            have := (Array.getElem?_eq_some_iff.1 hi).1
            simpa using this
          match jx, hltx with
          | 0, _ =>
            simp only [List.getElem?_toArray, List.getElem?_cons_zero, List.getElem?_cons_succ, Option.some.injEq] at hi
            subst hi
            have ha1 : us.length ≤ 1 := haft 1 12 rfl (by kernel_rfl)
            have e0 : ev (.tmp 0) = .pointer (some ⟨s, 0, none⟩) := hout 0 (by kernel_rfl) (show (0 : Nat) < 92 by decide)
            refine ⟨fun mx hmx => absurd hmx (by simp [zpos]), fun _ => ?_⟩
            simp [execOp, e0, hcst, go_sem]
          | 1, _ =>
            simp only [List.getElem?_toArray, List.getElem?_cons_zero, List.getElem?_cons_succ, Option.some.injEq] at hi
            subst hi
            have ha1 : us.length ≤ 1 := haft 1 12 rfl (by kernel_rfl)
            have e0 : ev (.tmp 59) = .pointer (some ⟨s, 0, none⟩) := hin 59 0 ⟨0, .data⟩ (by kernel_rfl) (by simp) rfl rfl (show (59 : Nat) < 92 by decide)
            refine ⟨fun mx hmx => absurd hmx (by simp [zpos]), fun _ => ?_⟩
            simp [execOp, e0, hcst, go_sem]
          | 2, _ =>
            simp only [List.getElem?_toArray, List.getElem?_cons_zero, List.getElem?_cons_succ, Option.some.injEq] at hi
            subst hi
            have ha1 : us.length ≤ 1 := haft 1 12 rfl (by kernel_rfl)
            have e0 : ev (.tmp 60) = .pointer (some ⟨s, 0, none⟩) := hin 60 1 ⟨1, .data⟩ (by kernel_rfl) (by simp) rfl rfl (show (60 : Nat) < 92 by decide)
            refine ⟨fun mx hmx => absurd hmx (by simp [zpos]), fun _ => ?_⟩
            simp [execOp, e0, hcst, go_sem]
          | 3, _ =>
            simp only [List.getElem?_toArray, List.getElem?_cons_zero, List.getElem?_cons_succ, Option.some.injEq] at hi
            subst hi
            have ha0 : us.length ≤ 0 := haft 0 11 rfl (by kernel_rfl)
            have ha1 : us.length ≤ 1 := haft 1 12 rfl (by kernel_rfl)
            have e0 : ev (.tmp 61) = .pointer (some ⟨s, 0, none⟩) := hin 61 2 ⟨2, .data⟩ (by kernel_rfl) (by simp) rfl rfl (show (61 : Nat) < 92 by decide)
            refine ⟨fun mx hmx => absurd hmx (by simp [zpos]), fun _ => ?_⟩
            have q := (HBY.out us w' hc).cell (i := 0) rfl
            simp [execOp, e0, hcst, go_sem, q, bxR]
          | 4, _ =>
            simp only [List.getElem?_toArray, List.getElem?_cons_zero, List.getElem?_cons_succ, Option.some.injEq] at hi
            subst hi
            have ha1 : us.length ≤ 1 := haft 1 12 rfl (by kernel_rfl)
            have e0 : ev (.tmp 0) = .pointer (some ⟨s, 0, none⟩) := hout 0 (by kernel_rfl) (show (0 : Nat) < 92 by decide)
            refine ⟨fun mx hmx => absurd hmx (by simp [zpos]), fun _ => ?_⟩
            simp [execOp, e0, hcst, go_sem]
          | 5, _ =>
            simp only [List.getElem?_toArray, List.getElem?_cons_zero, List.getElem?_cons_succ, Option.some.injEq] at hi
            subst hi
            have ha1 : us.length ≤ 1 := haft 1 12 rfl (by kernel_rfl)
            have e0 : ev (.tmp 63) = .pointer (some ⟨s, 0, none⟩) := hin 63 4 ⟨4, .data⟩ (by kernel_rfl) (by simp) rfl rfl (show (63 : Nat) < 92 by decide)
            refine ⟨fun mx hmx => absurd hmx (by simp [zpos]), fun _ => ?_⟩
            simp [execOp, e0, hcst, go_sem]
          | 6, _ =>
            simp only [List.getElem?_toArray, List.getElem?_cons_zero, List.getElem?_cons_succ, Option.some.injEq] at hi
            subst hi
            have ha1 : us.length ≤ 1 := haft 1 12 rfl (by kernel_rfl)
            have e0 : ev (.tmp 64) = .pointer (some ⟨s, 0, none⟩) := hin 64 5 ⟨5, .data⟩ (by kernel_rfl) (by simp) rfl rfl (show (64 : Nat) < 92 by decide)
            refine ⟨fun mx hmx => absurd hmx (by simp [zpos]), fun _ => ?_⟩
            simp [execOp, e0, hcst, go_sem]
          | 7, _ =>
            simp only [List.getElem?_toArray, List.getElem?_cons_zero, List.getElem?_cons_succ, Option.some.injEq] at hi
            subst hi
            have ha1 : us.length ≤ 1 := haft 1 12 rfl (by kernel_rfl)
            have e0 : ev (.tmp 65) = .pointer (some ⟨s, 1, none⟩) := hin 65 6 ⟨6, .data⟩ (by kernel_rfl) (by simp) rfl rfl (show (65 : Nat) < 92 by decide)
            refine ⟨fun mx hmx => absurd hmx (by simp [zpos]), fun _ => ?_⟩
            have q := (HBY.out us w' hc).cell (i := 1) rfl
            simp [execOp, e0, hcst, go_sem, q, bxR]
          | 8, _ =>
            simp only [List.getElem?_toArray, List.getElem?_cons_zero, List.getElem?_cons_succ, Option.some.injEq] at hi
            subst hi
            have ha1 : us.length ≤ 1 := haft 1 12 rfl (by kernel_rfl)
            have e0 : ev (.tmp 6) = .int .i64 (b : Int) := hout 6 (by kernel_rfl) (show (6 : Nat) < 92 by decide)
            refine ⟨fun mx hmx => absurd hmx (by simp [zpos]), fun _ => ?_⟩
            simp [execOp, e0, hcst, go_sem]
          | 9, _ =>
            simp only [List.getElem?_toArray, List.getElem?_cons_zero, List.getElem?_cons_succ, Option.some.injEq] at hi
            subst hi
            have ha0 : us.length ≤ 0 := haft 0 11 rfl (by kernel_rfl)
            have ha1 : us.length ≤ 1 := haft 1 12 rfl (by kernel_rfl)
            have e0 : ev (.tmp 66) = .int .i64 (first : Int) := hin 66 7 ⟨7, .data⟩ (by kernel_rfl) (by simp) rfl rfl (show (66 : Nat) < 92 by decide)
            have e1 : ev (.tmp 67) = .int .i64 (b : Int) := hin 67 8 ⟨8, .data⟩ (by kernel_rfl) (by simp) rfl rfl (show (67 : Nat) < 92 by decide)
            refine ⟨fun mx hmx => absurd hmx (by simp [zpos]), fun _ => ?_⟩
            have q := HWR.out
            simp [execOp, e0, e1, hcst, go_sem, q]
          | 10, _ =>
            simp only [List.getElem?_toArray, List.getElem?_cons_zero, List.getElem?_cons_succ, Option.some.injEq] at hi
            subst hi
            have ha0 : us.length ≤ 0 := haft 0 11 rfl (by kernel_rfl)
            have ha1 : us.length ≤ 1 := haft 1 12 rfl (by kernel_rfl)
            have e0 : ev (.tmp 9) = .string tp := hout 9 (by kernel_rfl) (show (9 : Nat) < 92 by decide)
            refine ⟨fun mx hmx => absurd hmx (by simp [zpos]), fun _ => ?_⟩
            simp [execOp, e0, hcst, go_sem]
          | 11, _ =>
            simp only [List.getElem?_toArray, List.getElem?_cons_zero, List.getElem?_cons_succ, Option.some.injEq] at hi
            subst hi
            have ha1 : us.length ≤ 1 := haft 1 12 rfl (by kernel_rfl)
            have e0 : ev (.tmp 62) = .pointer (some ⟨r, 0, none⟩) := hin 62 3 ⟨3, .data⟩ (by kernel_rfl) (by simp) rfl rfl (show (62 : Nat) < 92 by decide)
            have e1 : ev (.tmp 68) = .int .i64 ((first : Int) + (b : Int)) := hin 68 9 ⟨9, .data⟩ (by kernel_rfl) (by simp) rfl rfl (show (68 : Nat) < 92 by decide)
            have e2 : ev (.tmp 69) = .string tp := hin 69 10 ⟨10, .data⟩ (by kernel_rfl) (by simp) rfl rfl (show (69 : Nat) < 92 by decide)
            refine ⟨fun mx hmx hus => ?_, fun hno => absurd hno (by decide)⟩
            obtain rfl : 0 = mx := Option.some.inj hmx
            have h0 : us = [] := List.eq_nil_of_length_eq_zero hus
            subst h0
            refine .inr ⟨43, #[.pointer (some ⟨r, 0, none⟩), .int .i64 ((first : Int) + (b : Int)), .string tp], ?_, HDL.out w' hc⟩
            have ef := hfn 43
            simp [execOp, resolve, invoke, ef, hcst, e0, e1, e2, Result.andThen]
            exact enter43 _ _
          | 12, _ =>
            simp only [List.getElem?_toArray, List.getElem?_cons_zero, List.getElem?_cons_succ, Option.some.injEq] at hi
            subst hi
            have hb0 : 0 < us.length := hbef 0 11 rfl (by kernel_rfl)
            have e0 : ev (.tmp 70) = us.getD 0 undef := hin 70 11 ⟨11, .data⟩ (by kernel_rfl) (by simp) rfl rfl (show (70 : Nat) < 92 by decide)
            refine ⟨fun mx hmx hus => ?_, fun hno => absurd hno (by decide)⟩
            obtain rfl : 1 = mx := Option.some.inj hmx
            obtain ⟨u, rfl⟩ := List.length_eq_one_iff.1 hus
            refine .inl ⟨u, w', ?_, HGI.out u w' hc⟩
            simp only [List.getD_cons_zero] at e0
            simp [execOp, e0, hcst, go_sem]
        · intro us w9 husl hc
          obtain ⟨rfl, hR9, hK9⟩ := HENE.out us w9 husl hc
          rw [lexF_same (V' := fun jx => ([.pointer (some ⟨s, 0, none⟩), .pointer (some ⟨s, 0, none⟩), .pointer (some ⟨s, 0, none⟩), .pointer (some ⟨r, 0, none⟩), .pointer (some ⟨s, 0, none⟩), .pointer (some ⟨s, 0, none⟩), .pointer (some ⟨s, 1, none⟩), .int .i64 (first : Int), .int .i64 (b : Int), .int .i64 ((first : Int) + (b : Int)), .string tp, (.int .i64 we), (.int .i64 we)] : List Value).getD jx undef) _ 0 _ (fun jx _ hj => by
            have hlt : jx < 13 := by simpa using hj
            match jx, hlt with
            | 0, _ => rfl
            | 1, _ => rfl
            | 2, _ => rfl
            | 3, _ => rfl
            | 4, _ => rfl
            | 5, _ => rfl
            | 6, _ => rfl
            | 7, _ => rfl
            | 8, _ => rfl
            | 9, _ => rfl
            | 10, _ => rfl
            | 11, _ => rfl
            | 12, _ => rfl)]
          simp only [lexF, Act.put, List.setIfInBounds_toArray, List.set_cons_succ, List.set_cons_zero, List.getD_cons_succ, List.getD_cons_zero]
          have F9 := hide (B9.out.read hR9 (write_len _ _ _) hK9)
          have FK9 := hide (K9.out.trans hK9 (fun x hx => .inl hx))
          have FR9 : Hid (Row w9 w7.heap.size (.slice va vn vc) (l1.take k)) := R9.out.keep (fun q hq => hK9.block q (R9.out.lt q hq).2 (fun hg => by have := HB7.out.dev.lt q hg; have := (R9.out.lt q hq).1; omega))
          have FX9 := hide (X9.out.same (hK9.block _ X9.out.lt HNG.out))
          clear hR9 hK9 hc HENE HGI HDL HBY HJ0
          by_cases hw : ¬ we = 0
          · have hw2 : (we == 0) = false := beq_eq_false_iff_ne.2 hw
            have hw3 : (we != 0) = true := by simp [hw]
            have HW := hide hw
            clear hw
            go_wp2_with fail
            go_ret2
            refine ⟨S2, HL7.out, fun _ => ?_, fun h => ?_⟩
            · rw [HKO.out, ← HTP.out, ← HWE.out]
              exact ⟨rfl, F9.out, FK9.out⟩
            · rw [HKO.out, ← HTP.out, ← HWE.out] at h
              exact absurd h HW.out
          · obtain rfl : we = 0 := Decidable.of_not_not hw
            clear hw
            obtain ⟨v0, hv0⟩ : ∃ v0, vs[b]? = some v0 := ⟨_, List.getElem?_eq_getElem (by rw [F9.out.told.len, HLEN.out]; exact HBN.out.1)⟩
            have hvl : vs.length = n := by rw [F9.out.told.len, HLEN.out]
            obtain ⟨g, tq, htv, hgc, htc⟩ := own_cell1 F9.out.told.row hv0
            rw [hvl] at htv htc
            obtain ⟨i0, hi0, hp0⟩ := Option.map_eq_some_iff.1 info9s
            simp only [Prod.mk.injEq] at hp0
            have hrv := own_same1 (W' := w9.drew) (F9.out.told.inn b v0 t hv0 HTS.out) (fun _ _ => rfl)
            obtain ⟨va2, vc2, w3, r1, r2, r3, r4⟩ := app_one1 (t := 80) (e := 9) Tryz.underlying80 hi0 hp0.1 hp0.2.1 hp0.2.2 rfl hrv (.string (txt x.key)) rfl (by have := HTL.out; omega) (by omega) F9.out.bel.size
            have hts := F9.out.told_set hv0 HTS.out (Below.refl _ w9).drew (key := x.key) (by have := HXK.out; omega) r2 r3 r4 (by rw [hvl]; exact htv)
            have TS := hide hts
            have hgt : g ∈ tdF tv vs := List.mem_append.2 (.inl (by rw [htv]; simp [Value.ownBlock]))
            have hv0t : ∀ q ∈ v0.ownBlock.toList, q ∈ tdF tv vs := fun q hq => List.mem_append.2 (.inr (List.mem_flatMap.2 ⟨v0, List.mem_of_getElem? hv0, hq⟩))
            have hlt7 : ∀ q ∈ tdF tv vs, q < W.heap.size := fun q hq => H.out.lt q (by simp [ftR, hq])
            have hs9 : s < w9.heap.size := F9.out.box.lt
            have hsv : s ∉ v0.ownBlock.toList := fun hm => told_ne F9.out s (hv0t s hm) rfl
            have hsg : g ≠ s := told_ne F9.out g hgt
            have hgv : g ∉ v0.ownBlock.toList := fun hm => by
              obtain ⟨_, _, c1, hc1⟩ := own_blk1 (F9.out.told.inn b v0 t hv0 HTS.out) (Option.mem_toList.1 hm)
              obtain ⟨_, _, c2, hc2⟩ := own_blk1 F9.out.told.row (show tv.ownBlock = some g by rw [htv]; rfl)
              rw [hc1] at hc2
              have : (9 : TypeId) = 80 := by
                simp only [Option.some.injEq, Obj.cells.injEq] at hc2
                exact hc2.2.1
              exact absurd this (by decide)
            have hg9 : g < w9.heap.size := (F9.out.told.lt g hgt).2.1
            have hW9 : W.heap.size < w9.heap.size := FX9.out.lt
            have hbB : Below w9.heap.size w9.drew (w9.drew.alloc (.cells #[.string (txt x.key)] 9)) := (show Below w9.drew.heap.size w9.drew (w9.drew.alloc (.cells #[.string (txt x.key)] 9)) from (Below.refl _ _).alloc (Nat.le_refl _) _)
            obtain ⟨CT, hCT⟩ : ∃ CT : (Nat → Option Value) → World → Prop, CT = fun us W' => TelC us W' w9.drew (w9.drew.alloc (.cells #[.string (txt x.key)] 9)) w3 (w3.setCell ⟨g, b, none⟩ (.slice va2 (t.length + 1) vc2)) (.slice (some ⟨w9.drew.heap.size, 0, none⟩) 1 1) (.slice va2 (t.length + 1) vc2) := ⟨_, rfl⟩
            have HT0 : Hid (CT (fun _ => none) { w9 with drawn := w9.drawn + 1 }) := by show CT _ _; rw [hCT]; exact .inl ⟨rfl, rfl, rfl, rfl⟩
            have bs3 : Blk w3 s (bxR r first n tv lo) 78 := F9.out.box.same (r3.block s hs9 hsv)
            have HZX : Hid (∀ us w', CT us w' → Blk w' s (bxR r first n (.slice (some ⟨g, 0, none⟩) n tq) lo) 78) := fun us w' h => by
              rw [hCT] at h
              rw [← htv]
              exact TelC.all (X := fun W' => Blk W' s (bxR r first n tv lo) 78) h F9.out.drew.box (F9.out.box.same (hbB.block s hs9)) bs3 TS.out.1.box
            have HZN : Hid (∀ us w', CT us w' → Blk w' W.heap.size (itCells x) 39) := fun us w' h => by
              rw [hCT] at h
              have h3 : Blk w3 W.heap.size (itCells x) 39 := FX9.out.same (r3.block _ hW9 (fun hm => by have := hlt7 _ (hv0t _ hm); omega))
              exact TelC.all (X := fun W' => Blk W' W.heap.size (itCells x) 39) h (FX9.out.same rfl) (FX9.out.same (hbB.block _ hW9)) h3 (h3.same (blk_setCell_other _ _ _ _ (fun e => by have e : W.heap.size = g := e; have := hlt7 g hgt; omega)))
            have HZV : Hid (∀ us w', CT us w' → us 15 = none → w'.cell? ⟨g, b, none⟩ = some v0) := fun us w' h hz => by
              rw [hCT] at h
              have rw9 : w9.ownsRow w0.heap.size 80 1 (.slice (some ⟨g, 0, none⟩) n tq) n vs := by
                have := F9.out.told.row; rw [hvl, htv] at this; exact this
              exact TelC.two (X := fun W' => W'.cell? ⟨g, b, none⟩ = some v0) h hz (own_cf (own_same1 (W' := w9.drew) rw9 (fun _ _ => rfl)) hv0).1 (own_cf (own_same1 (W' := w9.drew.alloc (.cells #[.string (txt x.key)] 9)) rw9 (fun q hq => hbB.block q (own_blk1 rw9 hq).2.1)) hv0).1
            have HGC : Hid (w3.cell? ⟨g, b, none⟩ = some v0 ∧ w3.frozen? ⟨g, b, none⟩ = false) := by
              have rw9 : w9.ownsRow w0.heap.size 80 1 (.slice (some ⟨g, 0, none⟩) n tq) n vs := by
                have := F9.out.told.row; rw [hvl, htv] at this; exact this
              exact own_cf (own_same1 (W' := w3) rw9 (fun q hq => by
                have e : g = q := Option.some.inj hq
                rw [← e]; exact r3.block g hg9 hgv)) hv0
            have HZ14 : Hid (∀ us w', CT us w' → us 14 = none → w' = w9.drew ∧ CT (setU us 14 (.slice (some ⟨w9.drew.heap.size, 0, none⟩) 1 1)) (w9.drew.alloc (.cells #[.string (txt x.key)] 9))) := fun us w' h hz => by rw [hCT] at h ⊢; exact h.s14 hz
            have HZ15 : Hid (∀ us w' u, CT us w' → us 15 = none → us 14 = some u → u = .slice (some ⟨w9.drew.heap.size, 0, none⟩) 1 1 ∧ w' = w9.drew.alloc (.cells #[.string (txt x.key)] 9) ∧ CT (setU us 15 (.slice va2 (t.length + 1) vc2)) w3) := fun us w' u h hz hu => by rw [hCT] at h ⊢; exact h.s15 hz hu
            have HZ17 : Hid (∀ us w' u, CT us w' → us 17 = none → us 15 = some u → u = .slice va2 (t.length + 1) vc2 ∧ w' = w3 ∧ CT (setU us 17 undef) (w3.setCell ⟨g, b, none⟩ (.slice va2 (t.length + 1) vc2))) := fun us w' u h hz hu => by rw [hCT] at h ⊢; exact h.s17 hz hu
            have HTE : Hid (∀ us w', CT us w' → (∀ z, ([14, 15, 17] : List Nat).contains z = true → (us z).isSome = true) → ∃ u14, us 14 = some u14 ∧ us 15 = some (.slice va2 (t.length + 1) vc2) ∧ us 17 = some undef ∧ w' = w3.setCell ⟨g, b, none⟩ (.slice va2 (t.length + 1) vc2)) := fun us w' h hus => by
              rw [hCT] at h
              obtain ⟨h1, h2, h3, h4⟩ := h.fin hus
              exact ⟨_, h1, h2, h3, h4⟩
            have HR1 := hide r1
            have FRZ : Hid (Row (w3.setCell ⟨g, b, none⟩ (.slice va2 (t.length + 1) vc2)) W.heap.size (.slice va vn vc) (l1.take k)) := (FR9.out.keep (fun q hq => TS.out.2.block q (FR9.out.lt q hq).2 (fun hm => by
              have h1 := (FR9.out.lt q hq).1
              have h2 := HK7.out.size
              rcases List.mem_cons.1 hm with rfl | hm
              · have := hlt7 q hgt; omega
              · have := hlt7 q (hv0t q hm); omega))).low HK7.out.size
            have FKZ : Hid (Keep (G ++ tdF tv vs) W (w3.setCell ⟨g, b, none⟩ (.slice va2 (t.length + 1) vc2))) := (FK9.out.mono (fun q hq => .inl (List.mem_append.2 (.inl hq)))).trans TS.out.2 (fun q hq => .inl (List.mem_append.2 (.inr (by
              rcases List.mem_cons.1 hq with rfl | hq
              · exact hgt
              · exact hv0t q hq))))
            have FNW : Hid (∀ q ∈ tdF tv (vs.set b (.slice va2 (t.length + 1) vc2)), q ∈ tdF tv vs ∨ W.heap.size ≤ q) := fun q hq => by
              rcases List.mem_append.1 hq with h1 | h1
              · exact .inl (List.mem_append.2 (.inl h1))
              · obtain ⟨u, hu, hq2⟩ := List.mem_flatMap.1 h1
                rcases List.mem_or_eq_of_mem_set hu with h2 | h2
                · exact .inl (List.mem_append.2 (.inr (List.mem_flatMap.2 ⟨u, h2, hq2⟩)))
                · rw [h2] at hq2
                  rcases r4 q (Option.mem_toList.1 hq2) with h3 | h3
                  · exact .inl (hv0t q (Option.mem_toList.2 h3))
                  · have h4 : w9.heap.size ≤ q := h3
                    exact .inr (by omega)
            have FTS := hide TS.out.1
            clear hCT hts TS hi0 hp0 hrv r1 r2 r3 r4 bs3 hbB hgv hsg hsv hlt7 hv0t hgt htv hgc htc hvl hv0 hg9 hW9 hs9 F9 FK9 FR9 FX9 B9 K9 R9 X9
            go_wp2_with fail
            refine wp_region_par (by kernel_rfl) (by kernel_rfl) (fun jx => ([.pointer (some ⟨s, 0, none⟩), .pointer (some ⟨s, 0, none⟩), .pointer (some ⟨s, 3, none⟩), .slice (some ⟨g, 0, none⟩) n tq, .int .i64 (b : Int), .pointer (some ⟨s, 0, none⟩), .pointer (some ⟨s, 0, none⟩), .pointer (some ⟨s, 3, none⟩), .slice (some ⟨g, 0, none⟩) n tq, .int .i64 (b : Int), .pointer (some ⟨g, b, none⟩), v0, .pointer (some ⟨W.heap.size, 0, none⟩), .string (txt x.key), undef, undef, .pointer (some ⟨g, b, none⟩), undef] : List Value).getD jx undef) [14, 15, 17] (fun z hz => by simp at hz; rcases hz with rfl | rfl | rfl <;> decide) (CT) (HT0.out) ?_ ?_
            · intro jx ox hi us w' ev hc hbef haft hin hout hold hcst hfn
              have hltx : jx < 18 := by
                have := (Array.getElem?_eq_some_iff.1 hi).1
                simpa using this
              match jx, hltx with
              | 0, _ =>
                simp only [List.getElem?_toArray, List.getElem?_cons_zero, List.getElem?_cons_succ, Option.some.injEq] at hi
                subst hi
                have ha17 : us 17 = none := haft 17 rfl (by kernel_rfl)
                have e0 : ev (.tmp 0) = .pointer (some ⟨s, 0, none⟩) := hout 0 (by kernel_rfl) (show (0 : Nat) < 92 by decide)
                refine ⟨fun hno => absurd hno (by decide), fun _ => ?_⟩
                simp [execOp, e0, hcst, go_sem]
              | 1, _ =>
                simp only [List.getElem?_toArray, List.getElem?_cons_zero, List.getElem?_cons_succ, Option.some.injEq] at hi
                subst hi
                have ha17 : us 17 = none := haft 17 rfl (by kernel_rfl)
                have e0 : ev (.tmp 74) = .pointer (some ⟨s, 0, none⟩) := hin 74 0 ⟨0, .data⟩ (by kernel_rfl) (by simp) rfl rfl (show (74 : Nat) < 92 by decide)
                refine ⟨fun hno => absurd hno (by decide), fun _ => ?_⟩
                simp [execOp, e0, hcst, go_sem]
              | 2, _ =>
                simp only [List.getElem?_toArray, List.getElem?_cons_zero, List.getElem?_cons_succ, Option.some.injEq] at hi
                subst hi
                have ha17 : us 17 = none := haft 17 rfl (by kernel_rfl)
                have e0 : ev (.tmp 75) = .pointer (some ⟨s, 0, none⟩) := hin 75 1 ⟨1, .data⟩ (by kernel_rfl) (by simp) rfl rfl (show (75 : Nat) < 92 by decide)
                refine ⟨fun hno => absurd hno (by decide), fun _ => ?_⟩
                simp [execOp, e0, hcst, go_sem]
              | 3, _ =>
                simp only [List.getElem?_toArray, List.getElem?_cons_zero, List.getElem?_cons_succ, Option.some.injEq] at hi
                subst hi
                have ha17 : us 17 = none := haft 17 rfl (by kernel_rfl)
                have e0 : ev (.tmp 76) = .pointer (some ⟨s, 3, none⟩) := hin 76 2 ⟨2, .data⟩ (by kernel_rfl) (by simp) rfl rfl (show (76 : Nat) < 92 by decide)
                refine ⟨fun hno => absurd hno (by decide), fun _ => ?_⟩
                have q := (HZX.out us w' hc).cell (i := 3) rfl
                simp [execOp, e0, hcst, go_sem, q, bxR]
              | 4, _ =>
                simp only [List.getElem?_toArray, List.getElem?_cons_zero, List.getElem?_cons_succ, Option.some.injEq] at hi
                subst hi
                have ha17 : us 17 = none := haft 17 rfl (by kernel_rfl)
                have e0 : ev (.tmp 6) = .int .i64 (b : Int) := hout 6 (by kernel_rfl) (show (6 : Nat) < 92 by decide)
                refine ⟨fun hno => absurd hno (by decide), fun _ => ?_⟩
                simp [execOp, e0, hcst, go_sem]
              | 5, _ =>
                simp only [List.getElem?_toArray, List.getElem?_cons_zero, List.getElem?_cons_succ, Option.some.injEq] at hi
                subst hi
                have ha17 : us 17 = none := haft 17 rfl (by kernel_rfl)
                have e0 : ev (.tmp 0) = .pointer (some ⟨s, 0, none⟩) := hout 0 (by kernel_rfl) (show (0 : Nat) < 92 by decide)
                refine ⟨fun hno => absurd hno (by decide), fun _ => ?_⟩
                simp [execOp, e0, hcst, go_sem]
              | 6, _ =>
                simp only [List.getElem?_toArray, List.getElem?_cons_zero, List.getElem?_cons_succ, Option.some.injEq] at hi
                subst hi
                have ha17 : us 17 = none := haft 17 rfl (by kernel_rfl)
                have e0 : ev (.tmp 79) = .pointer (some ⟨s, 0, none⟩) := hin 79 5 ⟨5, .data⟩ (by kernel_rfl) (by simp) rfl rfl (show (79 : Nat) < 92 by decide)
                refine ⟨fun hno => absurd hno (by decide), fun _ => ?_⟩
                simp [execOp, e0, hcst, go_sem]
              | 7, _ =>
                simp only [List.getElem?_toArray, List.getElem?_cons_zero, List.getElem?_cons_succ, Option.some.injEq] at hi
                subst hi
                have ha17 : us 17 = none := haft 17 rfl (by kernel_rfl)
                have e0 : ev (.tmp 80) = .pointer (some ⟨s, 0, none⟩) := hin 80 6 ⟨6, .data⟩ (by kernel_rfl) (by simp) rfl rfl (show (80 : Nat) < 92 by decide)
                refine ⟨fun hno => absurd hno (by decide), fun _ => ?_⟩
                simp [execOp, e0, hcst, go_sem]
              | 8, _ =>
                simp only [List.getElem?_toArray, List.getElem?_cons_zero, List.getElem?_cons_succ, Option.some.injEq] at hi
                subst hi
                have ha17 : us 17 = none := haft 17 rfl (by kernel_rfl)
                have e0 : ev (.tmp 81) = .pointer (some ⟨s, 3, none⟩) := hin 81 7 ⟨7, .data⟩ (by kernel_rfl) (by simp) rfl rfl (show (81 : Nat) < 92 by decide)
                refine ⟨fun hno => absurd hno (by decide), fun _ => ?_⟩
                have q := (HZX.out us w' hc).cell (i := 3) rfl
                simp [execOp, e0, hcst, go_sem, q, bxR]
              | 9, _ =>
                simp only [List.getElem?_toArray, List.getElem?_cons_zero, List.getElem?_cons_succ, Option.some.injEq] at hi
                subst hi
                have ha17 : us 17 = none := haft 17 rfl (by kernel_rfl)
                have e0 : ev (.tmp 6) = .int .i64 (b : Int) := hout 6 (by kernel_rfl) (show (6 : Nat) < 92 by decide)
                refine ⟨fun hno => absurd hno (by decide), fun _ => ?_⟩
                simp [execOp, e0, hcst, go_sem]
              | 10, _ =>
                simp only [List.getElem?_toArray, List.getElem?_cons_zero, List.getElem?_cons_succ, Option.some.injEq] at hi
                subst hi
                have ha17 : us 17 = none := haft 17 rfl (by kernel_rfl)
                have e0 : ev (.tmp 82) = .slice (some ⟨g, 0, none⟩) n tq := hin 82 8 ⟨8, .data⟩ (by kernel_rfl) (by simp) rfl rfl (show (82 : Nat) < 92 by decide)
                have e1 : ev (.tmp 83) = .int .i64 (b : Int) := hin 83 9 ⟨9, .data⟩ (by kernel_rfl) (by simp) rfl rfl (show (83 : Nat) < 92 by decide)
                refine ⟨fun hno => absurd hno (by decide), fun _ => ?_⟩
                have q := hbv2
                have q2 : (0 : Int) ≤ (b : Int) := by omega
                simp [execOp, e0, e1, hcst, go_sem, q, q2]
              | 11, _ =>
                simp only [List.getElem?_toArray, List.getElem?_cons_zero, List.getElem?_cons_succ, Option.some.injEq] at hi
                subst hi
                have ha15 : us 15 = none := haft 15 rfl (by kernel_rfl)
                have ha17 : us 17 = none := haft 17 rfl (by kernel_rfl)
                have e0 : ev (.tmp 84) = .pointer (some ⟨g, b, none⟩) := hin 84 10 ⟨10, .data⟩ (by kernel_rfl) (by simp) rfl rfl (show (84 : Nat) < 92 by decide)
                refine ⟨fun hno => absurd hno (by decide), fun _ => ?_⟩
                have q := HZV.out us w' hc ha15
                simp [execOp, e0, hcst, go_sem, q]
              | 12, _ =>
                simp only [List.getElem?_toArray, List.getElem?_cons_zero, List.getElem?_cons_succ, Option.some.injEq] at hi
                subst hi
                have ha17 : us 17 = none := haft 17 rfl (by kernel_rfl)
                have e0 : ev (.tmp 3) = .pointer (some ⟨W.heap.size, 0, none⟩) := hout 3 (by kernel_rfl) (show (3 : Nat) < 92 by decide)
                refine ⟨fun hno => absurd hno (by decide), fun _ => ?_⟩
                simp [execOp, e0, hcst, go_sem]
              | 13, _ =>
                simp only [List.getElem?_toArray, List.getElem?_cons_zero, List.getElem?_cons_succ, Option.some.injEq] at hi
                subst hi
                have ha14 : us 14 = none := haft 14 rfl (by kernel_rfl)
                have ha17 : us 17 = none := haft 17 rfl (by kernel_rfl)
                have e0 : ev (.tmp 86) = .pointer (some ⟨W.heap.size, 0, none⟩) := hin 86 12 ⟨12, .data⟩ (by kernel_rfl) (by simp) rfl rfl (show (86 : Nat) < 92 by decide)
                refine ⟨fun hno => absurd hno (by decide), fun _ => ?_⟩
                have q := (HZN.out us w' hc).cell (i := 0) rfl
                simp [execOp, e0, hcst, go_sem, q, itCells]
              | 14, _ =>
                simp only [List.getElem?_toArray, List.getElem?_cons_zero, List.getElem?_cons_succ, Option.some.injEq] at hi
                subst hi
                have ha15 : us 15 = none := haft 15 rfl (by kernel_rfl)
                have ha17 : us 17 = none := haft 17 rfl (by kernel_rfl)
                have e0 : ev (.tmp 87) = .string (txt x.key) := hin 87 13 ⟨13, .data⟩ (by kernel_rfl) (by simp) rfl rfl (show (87 : Nat) < 92 by decide)
                refine ⟨fun _ hz => ?_, fun hno => absurd hno (by decide)⟩
                obtain ⟨rfl, hC2⟩ := HZ14.out us w' hc hz
                refine .inl (.inl ⟨_, _, ?_, hC2⟩)
                simp [execOp, e0, hcst, go_sem]
              | 15, _ =>
                simp only [List.getElem?_toArray, List.getElem?_cons_zero, List.getElem?_cons_succ, Option.some.injEq] at hi
                subst hi
                have hb14 : (us 14).isSome = true := hbef 14 rfl (by kernel_rfl)
                have ha17 : us 17 = none := haft 17 rfl (by kernel_rfl)
                have e0 : ev (.tmp 85) = v0 := hin 85 11 ⟨11, .data⟩ (by kernel_rfl) (by simp) rfl rfl (show (85 : Nat) < 92 by decide)
                have e1 : ev (.tmp 88) = (us 14).getD undef := hin 88 14 ⟨14, .data⟩ (by kernel_rfl) (by simp) rfl rfl (show (88 : Nat) < 92 by decide)
                refine ⟨fun _ hz => ?_, fun hno => absurd hno (by decide)⟩
                obtain ⟨u14, h14⟩ := Option.isSome_iff_exists.1 hb14
                obtain ⟨rfl, rfl, hC2⟩ := HZ15.out us w' u14 hc hz h14
                rw [h14] at e1
                simp only [Option.getD_some] at e1
                refine .inl (.inl ⟨_, _, ?_, hC2⟩)
                unfold execOp
                simp only [resolve, invoke, builtin, Sem.run_bind, Sem.run_pure, Result.andThen_ok, List.map_toArray, List.map_cons, List.map_nil, e0, e1, HR1.out]
              | 16, _ =>
                simp only [List.getElem?_toArray, List.getElem?_cons_zero, List.getElem?_cons_succ, Option.some.injEq] at hi
                subst hi
                have hb14 : (us 14).isSome = true := hbef 14 rfl (by kernel_rfl)
                have hb15 : (us 15).isSome = true := hbef 15 rfl (by kernel_rfl)
                have ha17 : us 17 = none := haft 17 rfl (by kernel_rfl)
                have e0 : ev (.tmp 77) = .slice (some ⟨g, 0, none⟩) n tq := hin 77 3 ⟨3, .data⟩ (by kernel_rfl) (by simp) rfl rfl (show (77 : Nat) < 92 by decide)
                have e1 : ev (.tmp 78) = .int .i64 (b : Int) := hin 78 4 ⟨4, .data⟩ (by kernel_rfl) (by simp) rfl rfl (show (78 : Nat) < 92 by decide)
                refine ⟨fun hno => absurd hno (by decide), fun _ => ?_⟩
                have q := hbv2
                have q2 : (0 : Int) ≤ (b : Int) := by omega
                simp [execOp, e0, e1, hcst, go_sem, q, q2]
              | 17, _ =>
                simp only [List.getElem?_toArray, List.getElem?_cons_zero, List.getElem?_cons_succ, Option.some.injEq] at hi
                subst hi
                have hb14 : (us 14).isSome = true := hbef 14 rfl (by kernel_rfl)
                have hb15 : (us 15).isSome = true := hbef 15 rfl (by kernel_rfl)
                have e0 : ev (.tmp 90) = .pointer (some ⟨g, b, none⟩) := hin 90 16 ⟨16, .data⟩ (by kernel_rfl) (by simp) rfl rfl (show (90 : Nat) < 92 by decide)
                have e1 : ev (.tmp 89) = (us 15).getD undef := hin 89 15 ⟨15, .data⟩ (by kernel_rfl) (by simp) rfl rfl (show (89 : Nat) < 92 by decide)
                refine ⟨fun _ hz => ?_, fun hno => absurd hno (by decide)⟩
                obtain ⟨u15, h15⟩ := Option.isSome_iff_exists.1 hb15
                obtain ⟨rfl, rfl, hC2⟩ := HZ17.out us w' u15 hc hz h15
                rw [h15] at e1
                simp only [Option.getD_some] at e1
                refine .inr ⟨_, ?_, hC2⟩
                have q := HGC.out.1
                have q2 := HGC.out.2
                simp [execOp, e0, e1, hcst, go_sem, q, q2]
            · intro us wZ hus hc
              obtain ⟨u14, h14, h15, h17, rfl⟩ := HTE.out us wZ hc hus
              rw [lexF_same (V' := fun jx => ([.pointer (some ⟨s, 0, none⟩), .pointer (some ⟨s, 0, none⟩), .pointer (some ⟨s, 3, none⟩), .slice (some ⟨g, 0, none⟩) n tq, .int .i64 (b : Int), .pointer (some ⟨s, 0, none⟩), .pointer (some ⟨s, 0, none⟩), .pointer (some ⟨s, 3, none⟩), .slice (some ⟨g, 0, none⟩) n tq, .int .i64 (b : Int), .pointer (some ⟨g, b, none⟩), v0, .pointer (some ⟨W.heap.size, 0, none⟩), .string (txt x.key), u14, (.slice va2 (t.length + 1) vc2), .pointer (some ⟨g, b, none⟩), undef] : List Value).getD jx undef) _ 0 _ (fun jx _ hj => by
                have hlt : jx < 18 := by simpa using hj
                match jx, hlt with
                | 0, _ => rfl
                | 1, _ => rfl
                | 2, _ => rfl
                | 3, _ => rfl
                | 4, _ => rfl
                | 5, _ => rfl
                | 6, _ => rfl
                | 7, _ => rfl
                | 8, _ => rfl
                | 9, _ => rfl
                | 10, _ => rfl
                | 11, _ => rfl
                | 12, _ => rfl
                | 13, _ => rfl
                | 14, _ => simp [parV, *]
                | 15, _ => simp [parV, *]
                | 16, _ => rfl
                | 17, _ => simp [parV, *]
                | jy + 18, hy => exact absurd hy (by omega))]
              simp only [lexF, Act.put, List.setIfInBounds_toArray, List.set_cons_succ, List.set_cons_zero, List.getD_cons_succ, List.getD_cons_zero]
              go_wp2_with fail
              go_ret2
              refine ⟨S2, HL7.out, fun h => ?_, fun _ => ?_⟩
              · rw [HKO.out, ← HTP.out, ← HWE.out] at h
                exact absurd rfl h
              · rw [HKO.out, ← HTP.out]
                exact ⟨_, _, rfl, HVN.out ▸ FRZ.out, FTS.out, FKZ.out, FNW.out⟩
end
end Go.Proofs.YtbccnfbombgdmaaGreat
