/- Texts joined: Awake. -/
import Derived.Test.YtbccnfbombgdmaaGreatJ22
/- 'awake' answers true and turns nothing that was there. -/
set_option linter.unusedVariables false
set_option linter.unusedSimpArgs false
set_option maxRecDepth 8000
namespace Go.Proofs.YtbccnfbombgdmaaGreat
open Go.RowKit Go.Deep Math

theorem enter21 (args : Array Value) (w : World) : (callFunc 22 args).run Tryz.prog w = .ok (.enter 22 args) w := enters_of Tryz.func22 (by kernel_rfl) rfl args w
theorem enter23 (args : Array Value) (w : World) : (callFunc 11 args).run Tryz.prog w = .ok (.enter 11 args) w := enters_of Tryz.func11 (by kernel_rfl) rfl args w
theorem enter17 (args : Array Value) (w : World) : (callFunc 16 args).run Tryz.prog w = .ok (.enter 16 args) w := enters_of Tryz.func16 (by kernel_rfl) rfl args w
/-- What is known while the last test is reckoned: two items are made, then a row of them. -/
structure CB (Wr : World) (N : Nat) (a b c : Bool) (w' : World) : Prop where
  bel : Below N Wr w'
  size : c = false → w'.heap.size = N + (if a = true then 1 else 0) + (if b = true then 1 else 0)
  row : c = true → Blk w' (N + 2) (itsCells [exI 98 2, exI 97 3]) 39
theorem CB.start {Wr : World} {N : Nat} (hN : N = Wr.heap.size) : CB Wr N false false false { Wr with drawn := Wr.drawn + 1 } :=
  ⟨⟨rfl, rfl, rfl, Nat.le_refl _, fun _ _ => rfl⟩, (fun _ => (by simp [hN])), fun h => by cases h⟩
theorem CB.it1 {Wr w' : World} {N : Nat} (h : CB Wr N false false false w') (o : Obj) : CB Wr N true false false (w'.alloc o) :=
  ⟨h.bel.alloc (by have := h.size rfl; simp at this; omega) o, (fun _ => (by have := h.size rfl; simp at this ⊢; omega)), fun h => by cases h⟩
theorem CB.it2 {Wr w' : World} {N : Nat} (h : CB Wr N true false false w') (o : Obj) : CB Wr N true true false (w'.alloc o) :=
  ⟨h.bel.alloc (by have := h.size rfl; simp at this; omega) o, (fun _ => (by have := h.size rfl; simp at this ⊢; omega)), fun h => by cases h⟩
theorem CB.row' {Wr w' : World} {N : Nat} (h : CB Wr N true true false w') (hN : w'.heap.size = N + 2) : CB Wr N true true true (w'.alloc (.cells (itsCells [exI 98 2, exI 97 3]).toArray 39)) :=
  ⟨h.bel.alloc (by omega) _, (fun h => (by cases h)), fun _ => by rw [← hN]; exact Blk.new w' _ 39⟩
theorem size_of {ops : Array Oper} {a0 : Act} {n : Nat} (h : ((List.range ops.size).all fun i => match (ops[i]?).bind (·.dst) with | some t => decide (t < n) | none => true) = true) (hn : a0.tmps.size = n) : ∀ (i : Nat) (o : Oper) (t : Nat), ops[i]? = some o → o.dst = some t → t < a0.tmps.size := fun i o t ho hd => by
  have hi : i < ops.size := (Array.getElem?_eq_some_iff.1 ho).1
  have := List.all_eq_true.1 h i (List.mem_range.2 hi)
  rw [ho] at this
  simp only [Option.bind_some, hd, decide_eq_true_eq] at this
  rw [hn]
  exact this
theorem CB.below {Wr w' w2 : World} {N : Nat} {a b c : Bool} (h : CB Wr N a b c w') (hc : c = true) (b2 : Below w'.heap.size w' w2) : CB Wr N a b c w2 :=
  ⟨h.bel.trans (b2.mono (by have := (h.row hc).lt; omega)), (fun h2 => (by rw [hc] at h2; cases h2)), fun _ => (h.row hc).same (b2.block _ (h.row hc).lt)⟩

/-- A block of the law's own, apart from the store's. -/
structure Apart (G : List Nat) (q : Nat) (W : World) : Prop where
  lt : q < W.heap.size
  off : q ∉ G
theorem Apart.move {G G' : List Nat} {q : Nat} {W W' : World} (h : Apart G q W) (m : Moves G G' W W') : Apart G' q W' ∧ W'.heap[q]? = W.heap[q]? := by
  refine ⟨⟨Nat.lt_of_lt_of_le h.lt m.keep.size, fun hf => ?_⟩, m.keep.block q h.lt h.off⟩
  rcases m.foot q hf with h1 | h1
  · exact h.off h1
  · have := h.lt; omega
theorem Apart.below {G : List Nat} {q : Nat} {W W' : World} (h : Apart G q W) (b : Below W.heap.size W W') : Apart G q W' ∧ W'.heap[q]? = W.heap[q]? := ⟨⟨Nat.lt_of_lt_of_le h.lt b.size, h.off⟩, b.block q h.lt⟩
/-- A row of the law's own. -/
structure RowA (G : List Nat) (W : World) (base : Nat) (v : Value) (xs : List It) : Prop where
  row : Row W base v xs
  off : ∀ q, v.ownBlock = some q → q ∉ G
theorem RowA.move {G G' : List Nat} {W W' : World} {base : Nat} {v : Value} {xs : List It} (h : RowA G W base v xs) (m : Moves G G' W W') : RowA G' W' base v xs :=
  ⟨h.row.keep (fun q hq => (Apart.move ⟨(h.row.lt q hq).2, h.off q hq⟩ m).2), fun q hq => (Apart.move ⟨(h.row.lt q hq).2, h.off q hq⟩ m).1.off⟩
theorem RowA.below {G : List Nat} {W W' : World} {base : Nat} {v : Value} {xs : List It} (h : RowA G W base v xs) (b : Below W.heap.size W W') : RowA G W' base v xs := ⟨h.row.below b, h.off⟩
variable {w0 W W' : World} {d s : Nat} {F F' : List Nat} {S S' : Dv} {first n : Nat} {f : Nat → List It} {bs : List (List Bool)} {G : List Nat}
theorem RowA.of_new {v : Value} {xs : List It} (h : Bu w0 W d s first n S f bs G) {W2 : World} (hr : Row W2 W.heap.size v xs) : RowA G W2 W.heap.size v xs := ⟨hr, fun q hq hg => by have h1 := (hr.lt q hq).1; have h2 := (h.lt q hg).1; omega⟩

theorem ex_put (h : Bu w0 W d s 0 1 S f bs G) (l : List Bool) (hl : bs = [l]) (x : It) (hx : x.fits ∧ x.good = true ∧ x.size ≤ 120) (ys : List It) (hys : (f 0).filter (notKey x.key) ++ [x] = ys) (ht : total ys ≤ 384) :
    Calls Tryz.prog 9 #[.pointer (some ⟨s, 0, none⟩), .agg #[.string (txt x.key), .string (txt x.value), .int .u32 x.flags, .int .i64 x.exp, .int .u64 x.ver]] W fun e W' => ∃ va vn vc, e = .returned (.tuple #[.slice va vn vc, .int .i64 0]) ∧ ∃ S' f' G', Bu w0 W' d s 0 1 S' f' [keyB l x] G' ∧ f' 0 = ys ∧ Moves G G' W W' := by
  refine (bu_put h x hx.1 hx.2.1 hx.2.2).mono ?_
  rintro e W' ⟨v, rfl, hr, S', bs', G', hb, hbs, hm, _, _⟩
  have e1 : putL 1 f x = ys := by unfold putL; rw [bkt_one]; exact hys
  have e0 : ovr ys = 0 := ovr_zero ht
  have hbs' := hbs l (by rw [bkt_one, hl]; rfl)
  rw [bkt_one, hl] at hbs'
  have hbs2 : bs' = [keyB l x] := hbs'
  rw [hbs2] at hb
  have ho : outL 1 f x = [] := by unfold outL; rw [e1, e0]; rfl
  rw [ho] at hr
  obtain ⟨a, c, rfl, _⟩ := hr.its (fun z hz => by simp at hz)
  refine ⟨a, _, c, rfl, S', _, G', hb, ?_, hm⟩
  unfold putF
  rw [bkt_one, if_pos rfl, e1, e0]
  rfl

set_option maxHeartbeats 8000000 in
theorem awake_any (w : World) : Calls Tryz.prog 4 #[] w fun e w' => e = .returned (.bool true) ∧ Below w.heap.size w w' := by
  have cN := hide (new_law (Below.refl w.heap.size w) 1 (by omega) (by omega))
  go_enter Tryz.func4, Tryz.ntmps4
  go_wp2_with fail
  refine cN.out.mono ?_
  rintro e w1 ⟨d, F1, rfl, hl1, _⟩
  have cO := hide (bu_open hl1 (Sure.fresh 1) 0 1 (by omega) (by omega) (by decide))
  clear hl1 cN
  have hb0 : Hid (((List.range 1).map (fun k => toldB ((Dv.fresh 1).its (0 + k)))) = [List.replicate 256 false]) := rfl
  go_wp2_with fail
  refine cO.out.mono ?_
  rintro e w2 ⟨s, S2, G2, rfl, hb2, _, _⟩
  rw [hb0.out] at hb2
  obtain ⟨f0, hf⟩ : ∃ f0, f0 = (fun k => (Dv.fresh 1).its (0 + k)) := ⟨_, rfl⟩
  rw [← hf] at hb2
  have hf0 : Hid (f0 0 = []) := by rw [hf]; rfl
  have U2 := hide hb2
  clear hb2 hf cO hb0
  have cI1 := hide (it_any ⟨#[97]⟩ 1)
  have cI2 := hide (it_any ⟨#[98]⟩ 2)
  have cI3 := hide (it_any ⟨#[97]⟩ 3)
  go_wp2_with fail
  refine (cI1.out _).mono ?_
  rintro e w3 ⟨rfl, hw3⟩
  have b3 : Below w2.heap.size w2 w3 := by rw [hw3]; exact (Below.refl _ _).alloc (Nat.le_refl _) _
  have cP := hide (ex_put (U2.out.below b3) _ rfl (exI 97 1) (exI_ok 97 1 (by omega) (by omega)) [exI 97 1] (by rw [hf0.out]; rfl) (by decide))
  clear hw3 b3 cI1
  go_wp2_with fail
  refine cP.out.mono ?_
  rintro e w4 ⟨va1, vn1, vc1, rfl, S4, f4, G4, hb4, hf4, _⟩
  have U4 := hide hb4
  have HF4 := hide hf4
  clear hb4 hf4 cP U2
  go_wp2_with fail
  refine (cI2.out _).mono ?_
  rintro e w5 ⟨rfl, hw5⟩
  have b5 : Below w4.heap.size w4 w5 := by rw [hw5]; exact (Below.refl _ _).alloc (Nat.le_refl _) _
  have cP := hide (ex_put (U4.out.below b5) _ rfl (exI 98 2) (exI_ok 98 2 (by omega) (by omega)) [exI 97 1, exI 98 2] (by rw [HF4.out]; rfl) (by decide))
  clear hw5 b5 cI2
  go_wp2_with fail
  refine cP.out.mono ?_
  rintro e w6 ⟨va2, vn2, vc2, rfl, S6, f6, G6, hb6, hf6, _⟩
  have U6 := hide hb6
  have HF6 := hide hf6
  clear hb6 hf6 cP U4
  go_wp2_with fail
  refine (cI3.out _).mono ?_
  rintro e w7 ⟨rfl, hw7⟩
  have b7 : Below w6.heap.size w6 w7 := by rw [hw7]; exact (Below.refl _ _).alloc (Nat.le_refl _) _
  have cP := hide (ex_put (U6.out.below b7) _ rfl (exI 97 3) (exI_ok 97 3 (by omega) (by omega)) [exI 98 2, exI 97 3] (by rw [HF6.out]; rfl) (by decide))
  clear hw7 b7 cI3
  go_wp2_with fail
  refine cP.out.mono ?_
  rintro e w8 ⟨va3, vn3, vc3, rfl, S8, f8, G8, hb8, hf8, _⟩
  have U8 := hide hb8
  have HF8 := hide hf8
  have cT := hide (bu_items hb8)
  have ha : Hid (allF 1 f8 = [exI 98 2, exI 97 3]) := by
    show (List.range 1).flatMap f8 = _
    simp [hf8]
  rw [ha.out] at cT
  clear hb8 hf8 cP U6
  go_wp2_with fail
  refine cT.out.mono ?_
  rintro e w9 ⟨v, rfl, hr, S9, hb9, _, _⟩
  have hoks : Oks [exI 98 2, exI 97 3] := Oks.of_good (fun x hx => by
    simp at hx
    rcases hx with rfl | rfl
    · exact ⟨(exI_ok 98 2 (by omega) (by omega)).1, (exI_ok 98 2 (by omega) (by omega)).2.1⟩
    · exact ⟨(exI_ok 97 3 (by omega) (by omega)).1, (exI_ok 97 3 (by omega) (by omega)).2.1⟩)
  have HOKS := hide hoks
  obtain ⟨la, lc, rfl, _, _, _, _⟩ := hr.its hoks
  have R9 := hide (RowA.of_new U8.out hr)
  have U9 := hide hb9
  have cG := hide (bu_get hb9 [98] (by decide))
  rw [bkt_one, HF8.out] at cG
  have eg : Hid (List.find? (isKey [98]) [exI 98 2, exI 97 3] = some (exI 98 2)) := rfl
  rw [eg.out] at cG
  clear hr hb9 cT hoks eg
  simp only [List.length_cons, List.length_nil, Nat.zero_add, Nat.reduceAdd] at R9 ⊢
  go_wp2_with fail
  refine cG.out.mono ?_
  rintro e w10 ⟨rfl, S10, hb10, _, m10⟩
  have U10 := hide hb10
  have R10 := hide (R9.out.move m10)
  clear hb10 m10 cG
  have hgv : getV (some (exI 98 2)) = .tuple #[.agg #[.string ⟨#[98]⟩, .string ⟨#[118]⟩, .int .u32 0, .int .i64 0, .int .u64 2], .int .i64 0] := rfl
  rw [hgv]
  clear hgv
  have hbx : Blk (w10.alloc (.cells #[.string ⟨#[98]⟩, .string ⟨#[118]⟩, .int .u32 0, .int .i64 0, .int .u64 2] 39)) w10.heap.size (itCells (exI 98 2)) 39 := Blk.new w10 _ 39
  have hbe : Below w10.heap.size w10 (w10.alloc (.cells #[.string ⟨#[98]⟩, .string ⟨#[118]⟩, .int .u32 0, .int .i64 0, .int .u64 2] 39)) := (Below.refl _ _).alloc (Nat.le_refl _) _
  have UB := hide (U10.out.below hbe)
  have RB := hide (R10.out.below hbe)
  have AB : Hid (Apart G8 w10.heap.size (w10.alloc (.cells #[.string ⟨#[98]⟩, .string ⟨#[118]⟩, .int .u32 0, .int .i64 0, .int .u64 2] 39))) := ⟨hbx.lt, fun hg => by have := (U10.out.lt _ hg).1; omega⟩
  have XB := hide hbx
  have cD := hide (bu_drop UB.out [98] (by decide))
  rw [bkt_one, HF8.out, if_neg (fun e => by have h2 := congrArg List.length e; have h3 : (List.filter (notKey [98]) [exI 98 2, exI 97 3]).length = 1 := rfl; rw [h3] at h2; simp at h2)] at cD
  go_wp2_with fail
  obtain ⟨wB, hwB⟩ : ∃ wB, wB = w10.alloc (.cells #[.string ⟨#[98]⟩, .string ⟨#[118]⟩, .int .u32 0, .int .i64 0, .int .u64 2] 39) := ⟨_, rfl⟩
  rw [← hwB] at cD UB RB AB XB ⊢
  obtain ⟨xb, hxb⟩ : ∃ xb, xb = w10.heap.size := ⟨_, rfl⟩
  rw [← hxb] at AB XB ⊢
  clear hwB hxb hbx hbe
  refine cD.out.mono ?_
  rintro e w11 ⟨rfl, S11, G11, hb11, m11, _, _⟩
  have hf11 : Hid (dropF 1 f8 [98] 0 = [exI 97 3]) := by
    show (if 0 = bkt [98] 1 then (f8 0).filter (notKey [98]) else f8 0) = _
    rw [bkt_one, if_pos rfl, HF8.out]; rfl
  have U11 := hide hb11
  have R11 := hide (RB.out.move m11)
  have A11 := hide (AB.out.move m11).1
  have X11 := hide (XB.out.same (AB.out.move m11).2)
  have cG := hide (bu_get hb11 [98] (by decide))
  rw [bkt_one, hf11.out] at cG
  have eg : Hid (List.find? (isKey [98]) [exI 97 3] = none) := rfl
  rw [eg.out] at cG
  clear hb11 m11 cD eg UB RB
  go_wp2_with fail
  refine cG.out.mono ?_
  rintro e w12 ⟨rfl, S12, hb12, _, m12⟩
  have U12 := hide hb12
  have R12 := hide (R11.out.move m12)
  have A12 := hide (A11.out.move m12).1
  have X12 := hide (X11.out.same (A11.out.move m12).2)
  clear hb12 m12 cG
  have hgv : getV none = .tuple #[.agg #[.string ⟨#[]⟩, .string ⟨#[]⟩, .int .u32 0, .int .i64 0, .int .u64 0], .int .i64 5] := rfl
  rw [hgv]
  clear hgv
  go_wp2_with fail
  have hbe : Below w12.heap.size w12 (w12.alloc (.cells #[.string ⟨#[]⟩, .string ⟨#[]⟩, .int .u32 0, .int .i64 0, .int .u64 0] 39)) := (Below.refl _ _).alloc (Nat.le_refl _) _
  have UR := hide (U12.out.below hbe)
  have RR := hide (R12.out.below hbe)
  have XR := hide (X12.out.same (A12.out.below hbe).2)
  obtain ⟨Wr, hWr⟩ : ∃ Wr, Wr = w12.alloc (.cells #[.string ⟨#[]⟩, .string ⟨#[]⟩, .int .u32 0, .int .i64 0, .int .u64 0] 39) := ⟨_, rfl⟩
  rw [← hWr] at UR RR XR ⊢
  obtain ⟨N, hN⟩ : ∃ N, N = Wr.heap.size := ⟨_, rfl⟩
  have HN := hide hN
  have NB : Hid (∀ V, Below N Wr V → Below Wr.heap.size Wr V) := fun V hV => by rw [← hN]; exact hV
  have cI : Hid (∀ V, Below N Wr V → Blk V (N + 2) (itsCells [exI 98 2, exI 97 3]) 39 → Calls Tryz.prog 11 #[.slice la 2 lc, .slice (some ⟨N + 2, 0, none⟩) 2 2] V fun e w' => e = .returned (.bool true) ∧ Below V.heap.size V w') := fun V hV hb => by
    obtain ⟨la', lc', hv, hI, _, _, _⟩ := RR.out.row.its HOKS.out
    simp only [Value.slice.injEq] at hv
    obtain ⟨rfl, _, rfl⟩ := hv
    exact items_same la (some ⟨N + 2, 0, none⟩) 2 lc 2 _ (by omega) V (hI.below (NB.out V hV)) (its_blk (pad := []) (by simpa using hb) rfl HOKS.out)
  have c40 : Hid (∀ V, Below N Wr V → Calls Tryz.prog 16 #[.pointer (some ⟨s, 0, none⟩), .string ⟨#[98]⟩] V fun e w' => e = .returned (.bool true) ∧ Below V.heap.size V w') := fun V hV => by
    have := bu_may (UR.out.below (NB.out V hV)) [98] (by decide) _ (by rw [bkt_one]; rfl)
    rw [show mayK (keyB (keyB (keyB (List.replicate 256 false) (exI 97 1)) (exI 98 2)) (exI 97 3)) [98] = true from mayK_keep (mayK_add (by rw [keyB_length]; simp) (exI 98 2)) _] at this
    exact this
  have c44 : Hid (∀ V, Below N Wr V → Calls Tryz.prog 16 #[.pointer (some ⟨s, 0, none⟩), .string ⟨#[122, 101, 98, 114, 97]⟩] V fun e w' => e = .returned (.bool false) ∧ Below V.heap.size V w') := fun V hV => by
    have := bu_may (UR.out.below (NB.out V hV)) [122, 101, 98, 114, 97] (by decide) _ (by rw [bkt_one]; rfl)
    rw [zebra_no] at this
    exact this
  have XC : Hid (∀ V, Below N Wr V → V.cell? ⟨xb, 0, none⟩ = some (.string ⟨#[98]⟩) ∧ V.cell? ⟨xb, 1, none⟩ = some (.string ⟨#[118]⟩) ∧ V.cell? ⟨xb, 2, none⟩ = some (.int .u32 0) ∧ V.cell? ⟨xb, 3, none⟩ = some (.int .i64 0) ∧ V.cell? ⟨xb, 4, none⟩ = some (.int .u64 2)) := fun V hV => by
    have hb := XR.out.same ((NB.out V hV).block xb XR.out.lt)
    exact ⟨hb.cell (i := 0) rfl, hb.cell (i := 1) rfl, hb.cell (i := 2) rfl, hb.cell (i := 3) rfl, hb.cell (i := 4) rfl⟩
  have BW := hide UR.out.bel
  clear hWr hN hbe
  refine wp_region_gl (by kernel_rfl) (by kernel_rfl) (fun i => ([.int .i64 0, .bool true, .bool true, .int .i64 0, .bool true, .bool true, .bool true, .int .i64 0, .bool true, .bool true, .bool true, .int .i64 0, .bool true, .bool true, .bool true, .slice la 2 lc, .agg #[.string ⟨#[98]⟩, .string ⟨#[118]⟩, .int .u32 0, .int .i64 0, .int .u64 2], .agg #[.string ⟨#[97]⟩, .string ⟨#[118]⟩, .int .u32 0, .int .i64 0, .int .u64 3], .slice (some ⟨N + 2, 0, none⟩) 2 2, .bool true, .bool true, .bool true, .int .i64 0, .bool true, .bool true, .bool true, .agg #[.string ⟨#[98]⟩, .string ⟨#[118]⟩, .int .u32 0, .int .i64 0, .int .u64 2], .agg #[.string ⟨#[98]⟩, .string ⟨#[118]⟩, .int .u32 0, .int .i64 0, .int .u64 2], .bool true, .bool true, .bool true, .int .i64 0, .bool true, .bool true, .bool true, .int .i64 5, .bool true, .bool true, .bool true, .pointer (some ⟨s, 0, none⟩), .bool true, .bool true, .bool true, .pointer (some ⟨s, 0, none⟩), .bool false, .bool true, .bool true, .bool true] : List Value).getD i undef) (fun listed w' => CB Wr N (listed.getD 16 false) (listed.getD 17 false) (listed.getD 18 false) w') (size_of (n := 115) (by kernel_rfl) rfl) (by simp only [repl_getD]; exact CB.start HN.out) ?_ ?_
  · intro i o hi listed w' ev hs hc hfr hdir hcl hin hout hcst hfn
    have hlt : i < 48 := by
      have := (Array.getElem?_eq_some_iff.1 hi).1
      simpa using this
    match i, hlt with
    | 0, _ =>
      simp only [List.getElem?_toArray, List.getElem?_cons_zero, List.getElem?_cons_succ, Option.some.injEq] at hi
      subst hi
      rw [if_pos (by first | rfl | simp [wantV])]
      have gset : ∀ j, (listed.setIfInBounds 0 true).getD j false = if j = 0 then true else listed.getD j false := fun j => getD_set listed 0 j (by rw [hs]; decide)
      have e0 : ev (.tmp 6) = .int .i64 0 := hout 6 (by kernel_rfl) (show (6 : Nat) < 115 by decide)
      have hst : ∀ w2, CB Wr N (listed.getD 16 false) (listed.getD 17 false) (listed.getD 18 false) w2 → CB Wr N ((listed.setIfInBounds 0 true).getD 16 false) ((listed.setIfInBounds 0 true).getD 17 false) ((listed.setIfInBounds 0 true).getD 18 false) w2 := fun w2 h2 => by
        rw [gset, gset, gset, if_neg (by decide), if_neg (by decide), if_neg (by decide)]
        exact h2
      refine .inl ⟨w', ?_, hst w' hc⟩
      show _ = Result.ok (Next.value (.int .i64 0)) w'
      simp [execOp, e0, hcst, go_sem]
    | 1, _ =>
      simp only [List.getElem?_toArray, List.getElem?_cons_zero, List.getElem?_cons_succ, Option.some.injEq] at hi
      subst hi
      rw [if_pos (by first | rfl | simp [wantV])]
      have gset : ∀ j, (listed.setIfInBounds 1 true).getD j false = if j = 1 then true else listed.getD j false := fun j => getD_set listed 1 j (by rw [hs]; decide)
      have e0 : ev (.tmp 68) = .int .i64 0 := hin 68 0 ⟨0, .data⟩ (by kernel_rfl) (by simp) rfl rfl (show (68 : Nat) < 115 by decide)
      have hst : ∀ w2, CB Wr N (listed.getD 16 false) (listed.getD 17 false) (listed.getD 18 false) w2 → CB Wr N ((listed.setIfInBounds 1 true).getD 16 false) ((listed.setIfInBounds 1 true).getD 17 false) ((listed.setIfInBounds 1 true).getD 18 false) w2 := fun w2 h2 => by
        rw [gset, gset, gset, if_neg (by decide), if_neg (by decide), if_neg (by decide)]
        exact h2
      refine .inl ⟨w', ?_, hst w' hc⟩
      show _ = Result.ok (Next.value (.bool true)) w'
      simp [execOp, e0, hcst, go_sem]
    | 2, _ =>
      simp only [List.getElem?_toArray, List.getElem?_cons_zero, List.getElem?_cons_succ, Option.some.injEq] at hi
      subst hi
      rw [if_pos (by first | rfl | simp [wantV])]
      have gset : ∀ j, (listed.setIfInBounds 2 true).getD j false = if j = 2 then true else listed.getD j false := fun j => getD_set listed 2 j (by rw [hs]; decide)
      have e0 : ev (.tmp 69) = .bool true := hin 69 1 ⟨1, .data⟩ (by kernel_rfl) (by simp) rfl rfl (show (69 : Nat) < 115 by decide)
      have hst : ∀ w2, CB Wr N (listed.getD 16 false) (listed.getD 17 false) (listed.getD 18 false) w2 → CB Wr N ((listed.setIfInBounds 2 true).getD 16 false) ((listed.setIfInBounds 2 true).getD 17 false) ((listed.setIfInBounds 2 true).getD 18 false) w2 := fun w2 h2 => by
        rw [gset, gset, gset, if_neg (by decide), if_neg (by decide), if_neg (by decide)]
        exact h2
      refine .inl ⟨w', ?_, hst w' hc⟩
      show _ = Result.ok (Next.value (.bool true)) w'
      simp [execOp, e0, hcst, go_sem]
    | 3, _ =>
      simp only [List.getElem?_toArray, List.getElem?_cons_zero, List.getElem?_cons_succ, Option.some.injEq] at hi
      subst hi
      rw [if_pos (by first | rfl | simp [wantV])]
      have gset : ∀ j, (listed.setIfInBounds 3 true).getD j false = if j = 3 then true else listed.getD j false := fun j => getD_set listed 3 j (by rw [hs]; decide)
      have e0 : ev (.tmp 8) = .int .i64 0 := hout 8 (by kernel_rfl) (show (8 : Nat) < 115 by decide)
      have hst : ∀ w2, CB Wr N (listed.getD 16 false) (listed.getD 17 false) (listed.getD 18 false) w2 → CB Wr N ((listed.setIfInBounds 3 true).getD 16 false) ((listed.setIfInBounds 3 true).getD 17 false) ((listed.setIfInBounds 3 true).getD 18 false) w2 := fun w2 h2 => by
        rw [gset, gset, gset, if_neg (by decide), if_neg (by decide), if_neg (by decide)]
        exact h2
      refine .inl ⟨w', ?_, hst w' hc⟩
      show _ = Result.ok (Next.value (.int .i64 0)) w'
      simp [execOp, e0, hcst, go_sem]
    | 4, _ =>
      simp only [List.getElem?_toArray, List.getElem?_cons_zero, List.getElem?_cons_succ, Option.some.injEq] at hi
      subst hi
      rw [if_pos (by first | rfl | simp [wantV])]
      have gset : ∀ j, (listed.setIfInBounds 4 true).getD j false = if j = 4 then true else listed.getD j false := fun j => getD_set listed 4 j (by rw [hs]; decide)
      have e0 : ev (.tmp 71) = .int .i64 0 := hin 71 3 ⟨3, .data⟩ (by kernel_rfl) (by simp) rfl rfl (show (71 : Nat) < 115 by decide)
      have hst : ∀ w2, CB Wr N (listed.getD 16 false) (listed.getD 17 false) (listed.getD 18 false) w2 → CB Wr N ((listed.setIfInBounds 4 true).getD 16 false) ((listed.setIfInBounds 4 true).getD 17 false) ((listed.setIfInBounds 4 true).getD 18 false) w2 := fun w2 h2 => by
        rw [gset, gset, gset, if_neg (by decide), if_neg (by decide), if_neg (by decide)]
        exact h2
      refine .inl ⟨w', ?_, hst w' hc⟩
      show _ = Result.ok (Next.value (.bool true)) w'
      simp [execOp, e0, hcst, go_sem]
    | 5, _ =>
      simp only [List.getElem?_toArray, List.getElem?_cons_zero, List.getElem?_cons_succ, Option.some.injEq] at hi
      subst hi
      rw [if_pos (by first | rfl | simp [wantV])]
      have gset : ∀ j, (listed.setIfInBounds 5 true).getD j false = if j = 5 then true else listed.getD j false := fun j => getD_set listed 5 j (by rw [hs]; decide)
      have e0 : ev (.tmp 70) = .bool true := hin 70 2 ⟨2, .data⟩ (by kernel_rfl) (by simp) rfl rfl (show (70 : Nat) < 115 by decide)
      have e1 : ev (.tmp 72) = .bool true := hin 72 4 ⟨4, .data⟩ (by kernel_rfl) (by simp) rfl rfl (show (72 : Nat) < 115 by decide)
      have hst : ∀ w2, CB Wr N (listed.getD 16 false) (listed.getD 17 false) (listed.getD 18 false) w2 → CB Wr N ((listed.setIfInBounds 5 true).getD 16 false) ((listed.setIfInBounds 5 true).getD 17 false) ((listed.setIfInBounds 5 true).getD 18 false) w2 := fun w2 h2 => by
        rw [gset, gset, gset, if_neg (by decide), if_neg (by decide), if_neg (by decide)]
        exact h2
      refine .inl ⟨w', ?_, hst w' hc⟩
      show _ = Result.ok (Next.value (.bool true)) w'
      simp [execOp, e0, e1, hcst, go_sem]
    | 6, _ =>
      simp only [List.getElem?_toArray, List.getElem?_cons_zero, List.getElem?_cons_succ, Option.some.injEq] at hi
      subst hi
      rw [if_pos (by first | rfl | simp [wantV])]
      have gset : ∀ j, (listed.setIfInBounds 6 true).getD j false = if j = 6 then true else listed.getD j false := fun j => getD_set listed 6 j (by rw [hs]; decide)
      have e0 : ev (.tmp 73) = .bool true := hin 73 5 ⟨5, .data⟩ (by kernel_rfl) (by simp) rfl rfl (show (73 : Nat) < 115 by decide)
      have hst : ∀ w2, CB Wr N (listed.getD 16 false) (listed.getD 17 false) (listed.getD 18 false) w2 → CB Wr N ((listed.setIfInBounds 6 true).getD 16 false) ((listed.setIfInBounds 6 true).getD 17 false) ((listed.setIfInBounds 6 true).getD 18 false) w2 := fun w2 h2 => by
        rw [gset, gset, gset, if_neg (by decide), if_neg (by decide), if_neg (by decide)]
        exact h2
      refine .inl ⟨w', ?_, hst w' hc⟩
      show _ = Result.ok (Next.value (.bool true)) w'
      simp [execOp, e0, hcst, go_sem]
    | 7, _ =>
      simp only [List.getElem?_toArray, List.getElem?_cons_zero, List.getElem?_cons_succ, Option.some.injEq] at hi
      subst hi
      rw [if_pos (by first | rfl | simp [wantV])]
      have gset : ∀ j, (listed.setIfInBounds 7 true).getD j false = if j = 7 then true else listed.getD j false := fun j => getD_set listed 7 j (by rw [hs]; decide)
      have e0 : ev (.tmp 10) = .int .i64 0 := hout 10 (by kernel_rfl) (show (10 : Nat) < 115 by decide)
      have hst : ∀ w2, CB Wr N (listed.getD 16 false) (listed.getD 17 false) (listed.getD 18 false) w2 → CB Wr N ((listed.setIfInBounds 7 true).getD 16 false) ((listed.setIfInBounds 7 true).getD 17 false) ((listed.setIfInBounds 7 true).getD 18 false) w2 := fun w2 h2 => by
        rw [gset, gset, gset, if_neg (by decide), if_neg (by decide), if_neg (by decide)]
        exact h2
      refine .inl ⟨w', ?_, hst w' hc⟩
      show _ = Result.ok (Next.value (.int .i64 0)) w'
      simp [execOp, e0, hcst, go_sem]
    | 8, _ =>
      simp only [List.getElem?_toArray, List.getElem?_cons_zero, List.getElem?_cons_succ, Option.some.injEq] at hi
      subst hi
      rw [if_pos (by first | rfl | simp [wantV])]
      have gset : ∀ j, (listed.setIfInBounds 8 true).getD j false = if j = 8 then true else listed.getD j false := fun j => getD_set listed 8 j (by rw [hs]; decide)
      have e0 : ev (.tmp 75) = .int .i64 0 := hin 75 7 ⟨7, .data⟩ (by kernel_rfl) (by simp) rfl rfl (show (75 : Nat) < 115 by decide)
      have hst : ∀ w2, CB Wr N (listed.getD 16 false) (listed.getD 17 false) (listed.getD 18 false) w2 → CB Wr N ((listed.setIfInBounds 8 true).getD 16 false) ((listed.setIfInBounds 8 true).getD 17 false) ((listed.setIfInBounds 8 true).getD 18 false) w2 := fun w2 h2 => by
        rw [gset, gset, gset, if_neg (by decide), if_neg (by decide), if_neg (by decide)]
        exact h2
      refine .inl ⟨w', ?_, hst w' hc⟩
      show _ = Result.ok (Next.value (.bool true)) w'
      simp [execOp, e0, hcst, go_sem]
    | 9, _ =>
      simp only [List.getElem?_toArray, List.getElem?_cons_zero, List.getElem?_cons_succ, Option.some.injEq] at hi
      subst hi
      rw [if_pos (by first | rfl | simp [wantV])]
      have gset : ∀ j, (listed.setIfInBounds 9 true).getD j false = if j = 9 then true else listed.getD j false := fun j => getD_set listed 9 j (by rw [hs]; decide)
      have e0 : ev (.tmp 74) = .bool true := hin 74 6 ⟨6, .data⟩ (by kernel_rfl) (by simp) rfl rfl (show (74 : Nat) < 115 by decide)
      have e1 : ev (.tmp 76) = .bool true := hin 76 8 ⟨8, .data⟩ (by kernel_rfl) (by simp) rfl rfl (show (76 : Nat) < 115 by decide)
      have hst : ∀ w2, CB Wr N (listed.getD 16 false) (listed.getD 17 false) (listed.getD 18 false) w2 → CB Wr N ((listed.setIfInBounds 9 true).getD 16 false) ((listed.setIfInBounds 9 true).getD 17 false) ((listed.setIfInBounds 9 true).getD 18 false) w2 := fun w2 h2 => by
        rw [gset, gset, gset, if_neg (by decide), if_neg (by decide), if_neg (by decide)]
        exact h2
      refine .inl ⟨w', ?_, hst w' hc⟩
      show _ = Result.ok (Next.value (.bool true)) w'
      simp [execOp, e0, e1, hcst, go_sem]
    | 10, _ =>
      simp only [List.getElem?_toArray, List.getElem?_cons_zero, List.getElem?_cons_succ, Option.some.injEq] at hi
      subst hi
      rw [if_pos (by first | rfl | simp [wantV])]
      have gset : ∀ j, (listed.setIfInBounds 10 true).getD j false = if j = 10 then true else listed.getD j false := fun j => getD_set listed 10 j (by rw [hs]; decide)
      have e0 : ev (.tmp 77) = .bool true := hin 77 9 ⟨9, .data⟩ (by kernel_rfl) (by simp) rfl rfl (show (77 : Nat) < 115 by decide)
      have hst : ∀ w2, CB Wr N (listed.getD 16 false) (listed.getD 17 false) (listed.getD 18 false) w2 → CB Wr N ((listed.setIfInBounds 10 true).getD 16 false) ((listed.setIfInBounds 10 true).getD 17 false) ((listed.setIfInBounds 10 true).getD 18 false) w2 := fun w2 h2 => by
        rw [gset, gset, gset, if_neg (by decide), if_neg (by decide), if_neg (by decide)]
        exact h2
      refine .inl ⟨w', ?_, hst w' hc⟩
      show _ = Result.ok (Next.value (.bool true)) w'
      simp [execOp, e0, hcst, go_sem]
    | 11, _ =>
      simp only [List.getElem?_toArray, List.getElem?_cons_zero, List.getElem?_cons_succ, Option.some.injEq] at hi
      subst hi
      rw [if_pos (by first | rfl | simp [wantV])]
      have gset : ∀ j, (listed.setIfInBounds 11 true).getD j false = if j = 11 then true else listed.getD j false := fun j => getD_set listed 11 j (by rw [hs]; decide)
      have e0 : ev (.tmp 12) = .int .i64 0 := hout 12 (by kernel_rfl) (show (12 : Nat) < 115 by decide)
      have hst : ∀ w2, CB Wr N (listed.getD 16 false) (listed.getD 17 false) (listed.getD 18 false) w2 → CB Wr N ((listed.setIfInBounds 11 true).getD 16 false) ((listed.setIfInBounds 11 true).getD 17 false) ((listed.setIfInBounds 11 true).getD 18 false) w2 := fun w2 h2 => by
        rw [gset, gset, gset, if_neg (by decide), if_neg (by decide), if_neg (by decide)]
        exact h2
      refine .inl ⟨w', ?_, hst w' hc⟩
      show _ = Result.ok (Next.value (.int .i64 0)) w'
      simp [execOp, e0, hcst, go_sem]
    | 12, _ =>
      simp only [List.getElem?_toArray, List.getElem?_cons_zero, List.getElem?_cons_succ, Option.some.injEq] at hi
      subst hi
      rw [if_pos (by first | rfl | simp [wantV])]
      have gset : ∀ j, (listed.setIfInBounds 12 true).getD j false = if j = 12 then true else listed.getD j false := fun j => getD_set listed 12 j (by rw [hs]; decide)
      have e0 : ev (.tmp 79) = .int .i64 0 := hin 79 11 ⟨11, .data⟩ (by kernel_rfl) (by simp) rfl rfl (show (79 : Nat) < 115 by decide)
      have hst : ∀ w2, CB Wr N (listed.getD 16 false) (listed.getD 17 false) (listed.getD 18 false) w2 → CB Wr N ((listed.setIfInBounds 12 true).getD 16 false) ((listed.setIfInBounds 12 true).getD 17 false) ((listed.setIfInBounds 12 true).getD 18 false) w2 := fun w2 h2 => by
        rw [gset, gset, gset, if_neg (by decide), if_neg (by decide), if_neg (by decide)]
        exact h2
      refine .inl ⟨w', ?_, hst w' hc⟩
      show _ = Result.ok (Next.value (.bool true)) w'
      simp [execOp, e0, hcst, go_sem]
    | 13, _ =>
      simp only [List.getElem?_toArray, List.getElem?_cons_zero, List.getElem?_cons_succ, Option.some.injEq] at hi
      subst hi
      rw [if_pos (by first | rfl | simp [wantV])]
      have gset : ∀ j, (listed.setIfInBounds 13 true).getD j false = if j = 13 then true else listed.getD j false := fun j => getD_set listed 13 j (by rw [hs]; decide)
      have e0 : ev (.tmp 78) = .bool true := hin 78 10 ⟨10, .data⟩ (by kernel_rfl) (by simp) rfl rfl (show (78 : Nat) < 115 by decide)
      have e1 : ev (.tmp 80) = .bool true := hin 80 12 ⟨12, .data⟩ (by kernel_rfl) (by simp) rfl rfl (show (80 : Nat) < 115 by decide)
      have hst : ∀ w2, CB Wr N (listed.getD 16 false) (listed.getD 17 false) (listed.getD 18 false) w2 → CB Wr N ((listed.setIfInBounds 13 true).getD 16 false) ((listed.setIfInBounds 13 true).getD 17 false) ((listed.setIfInBounds 13 true).getD 18 false) w2 := fun w2 h2 => by
        rw [gset, gset, gset, if_neg (by decide), if_neg (by decide), if_neg (by decide)]
        exact h2
      refine .inl ⟨w', ?_, hst w' hc⟩
      show _ = Result.ok (Next.value (.bool true)) w'
      simp [execOp, e0, e1, hcst, go_sem]
    | 14, _ =>
      simp only [List.getElem?_toArray, List.getElem?_cons_zero, List.getElem?_cons_succ, Option.some.injEq] at hi
      subst hi
      rw [if_pos (by first | rfl | simp [wantV])]
      have gset : ∀ j, (listed.setIfInBounds 14 true).getD j false = if j = 14 then true else listed.getD j false := fun j => getD_set listed 14 j (by rw [hs]; decide)
      have e0 : ev (.tmp 81) = .bool true := hin 81 13 ⟨13, .data⟩ (by kernel_rfl) (by simp) rfl rfl (show (81 : Nat) < 115 by decide)
      have hst : ∀ w2, CB Wr N (listed.getD 16 false) (listed.getD 17 false) (listed.getD 18 false) w2 → CB Wr N ((listed.setIfInBounds 14 true).getD 16 false) ((listed.setIfInBounds 14 true).getD 17 false) ((listed.setIfInBounds 14 true).getD 18 false) w2 := fun w2 h2 => by
        rw [gset, gset, gset, if_neg (by decide), if_neg (by decide), if_neg (by decide)]
        exact h2
      refine .inl ⟨w', ?_, hst w' hc⟩
      show _ = Result.ok (Next.value (.bool true)) w'
      simp [execOp, e0, hcst, go_sem]
    | 15, _ =>
      simp only [List.getElem?_toArray, List.getElem?_cons_zero, List.getElem?_cons_succ, Option.some.injEq] at hi
      subst hi
      rw [if_pos (by first | rfl | simp [wantV])]
      have gset : ∀ j, (listed.setIfInBounds 15 true).getD j false = if j = 15 then true else listed.getD j false := fun j => getD_set listed 15 j (by rw [hs]; decide)
      have e0 : ev (.tmp 11) = .slice la 2 lc := hout 11 (by kernel_rfl) (show (11 : Nat) < 115 by decide)
      have hst : ∀ w2, CB Wr N (listed.getD 16 false) (listed.getD 17 false) (listed.getD 18 false) w2 → CB Wr N ((listed.setIfInBounds 15 true).getD 16 false) ((listed.setIfInBounds 15 true).getD 17 false) ((listed.setIfInBounds 15 true).getD 18 false) w2 := fun w2 h2 => by
        rw [gset, gset, gset, if_neg (by decide), if_neg (by decide), if_neg (by decide)]
        exact h2
      refine .inl ⟨w', ?_, hst w' hc⟩
      show _ = Result.ok (Next.value (.slice la 2 lc)) w'
      simp [execOp, e0, hcst, go_sem]
    | 16, _ =>
      simp only [List.getElem?_toArray, List.getElem?_cons_zero, List.getElem?_cons_succ, Option.some.injEq] at hi
      subst hi
      rw [if_pos (by first | rfl | simp [wantV])]
      have gset : ∀ j, (listed.setIfInBounds 16 true).getD j false = if j = 16 then true else listed.getD j false := fun j => getD_set listed 16 j (by rw [hs]; decide)
      have n18 : listed.getD 18 false = false := by
        cases h : listed.getD 18 false with
        | false => rfl
        | true => have := hcl 18 16 (by kernel_rfl) h; rw [hfr] at this; cases this
      have n17 : listed.getD 17 false = false := by
        cases h : listed.getD 17 false with
        | false => rfl
        | true => have := hcl 17 16 (by kernel_rfl) h; rw [hfr] at this; cases this
      refine .inr (.inr ⟨22, #[.string ⟨#[98]⟩, .int .u64 2], ?_, ?_⟩)
      · have ef := hfn 22
        simp [execOp, resolve, invoke, ef, hcst, Result.andThen]
        exact enter21 _ _
      · refine (it_any ⟨#[98]⟩ 2 w').mono ?_
        rintro e w2 ⟨rfl, rfl⟩
        refine ⟨rfl, ?_⟩
        show CB _ _ _ _ _ _
        rw [gset, gset, gset, if_pos rfl, if_neg (by decide), if_neg (by decide), n17, n18]
        rw [hfr, n17, n18] at hc
        exact CB.it1 hc _
    | 17, _ =>
      simp only [List.getElem?_toArray, List.getElem?_cons_zero, List.getElem?_cons_succ, Option.some.injEq] at hi
      subst hi
      rw [if_pos (by first | rfl | simp [wantV])]
      have gset : ∀ j, (listed.setIfInBounds 17 true).getD j false = if j = 17 then true else listed.getD j false := fun j => getD_set listed 17 j (by rw [hs]; decide)
      have n18 : listed.getD 18 false = false := by
        cases h : listed.getD 18 false with
        | false => rfl
        | true => have := hcl 18 17 (by kernel_rfl) h; rw [hfr] at this; cases this
      have y16 : listed.getD 16 false = true := hdir 16 (by kernel_rfl)
      refine .inr (.inr ⟨22, #[.string ⟨#[97]⟩, .int .u64 3], ?_, ?_⟩)
      · have ef := hfn 22
        simp [execOp, resolve, invoke, ef, hcst, Result.andThen]
        exact enter21 _ _
      · refine (it_any ⟨#[97]⟩ 3 w').mono ?_
        rintro e w2 ⟨rfl, rfl⟩
        refine ⟨rfl, ?_⟩
        show CB _ _ _ _ _ _
        rw [gset, gset, gset, if_neg (by decide), if_pos rfl, if_neg (by decide), y16, n18]
        rw [hfr, y16, n18] at hc
        exact CB.it2 hc _
    | 18, _ =>
      simp only [List.getElem?_toArray, List.getElem?_cons_zero, List.getElem?_cons_succ, Option.some.injEq] at hi
      subst hi
      rw [if_pos (by first | rfl | simp [wantV])]
      have gset : ∀ j, (listed.setIfInBounds 18 true).getD j false = if j = 18 then true else listed.getD j false := fun j => getD_set listed 18 j (by rw [hs]; decide)
      have e0 : ev (.tmp 84) = .agg #[.string ⟨#[98]⟩, .string ⟨#[118]⟩, .int .u32 0, .int .i64 0, .int .u64 2] := hin 84 16 ⟨16, .data⟩ (by kernel_rfl) (by simp) rfl rfl (show (84 : Nat) < 115 by decide)
      have e1 : ev (.tmp 85) = .agg #[.string ⟨#[97]⟩, .string ⟨#[118]⟩, .int .u32 0, .int .i64 0, .int .u64 3] := hin 85 17 ⟨17, .data⟩ (by kernel_rfl) (by simp) rfl rfl (show (85 : Nat) < 115 by decide)
      have y16 : listed.getD 16 false = true := hdir 16 (by kernel_rfl)
      have y17 : listed.getD 17 false = true := hdir 17 (by kernel_rfl)
      rw [y16, y17, hfr] at hc
      have hN2 : w'.heap.size = N + 2 := by have := hc.size rfl; simpa using this
      refine .inl ⟨w'.alloc (.cells (itsCells [exI 98 2, exI 97 3]).toArray 39), ?_, ?_⟩
      · show _ = Result.ok (Next.value (.slice (some ⟨N + 2, 0, none⟩) 2 2)) _
        simp [execOp, e0, e1, hcst, go_sem, itsCells, itCells, exI, txt, hN2]
      · show CB _ _ _ _ _ _
        rw [gset, gset, gset, if_neg (by decide), if_neg (by decide), if_pos rfl, y16, y17]
        exact CB.row' hc hN2
    | 19, _ =>
      simp only [List.getElem?_toArray, List.getElem?_cons_zero, List.getElem?_cons_succ, Option.some.injEq] at hi
      subst hi
      rw [if_pos (by first | rfl | simp [wantV])]
      have gset : ∀ j, (listed.setIfInBounds 19 true).getD j false = if j = 19 then true else listed.getD j false := fun j => getD_set listed 19 j (by rw [hs]; decide)
      have e0 : ev (.tmp 83) = .slice la 2 lc := hin 83 15 ⟨15, .data⟩ (by kernel_rfl) (by simp) rfl rfl (show (83 : Nat) < 115 by decide)
      have e1 : ev (.tmp 86) = .slice (some ⟨N + 2, 0, none⟩) 2 2 := hin 86 18 ⟨18, .data⟩ (by kernel_rfl) (by simp) rfl rfl (show (86 : Nat) < 115 by decide)
      have hst : ∀ w2, CB Wr N (listed.getD 16 false) (listed.getD 17 false) (listed.getD 18 false) w2 → CB Wr N ((listed.setIfInBounds 19 true).getD 16 false) ((listed.setIfInBounds 19 true).getD 17 false) ((listed.setIfInBounds 19 true).getD 18 false) w2 := fun w2 h2 => by
        rw [gset, gset, gset, if_neg (by decide), if_neg (by decide), if_neg (by decide)]
        exact h2
      have y18 : listed.getD 18 false = true := hdir 18 (by kernel_rfl)
      refine .inr (.inr ⟨11, #[.slice la 2 lc, .slice (some ⟨N + 2, 0, none⟩) 2 2], ?_, ?_⟩)
      · have ef := hfn 11
        simp [execOp, resolve, invoke, ef, hcst, e0, e1, Result.andThen]
        exact enter23 _ _
      · refine (cI.out w' hc.bel (hc.row y18)).mono ?_
        rintro e w2 ⟨rfl, h2⟩
        exact ⟨rfl, hst _ (hc.below y18 h2)⟩
    | 20, _ =>
      simp only [List.getElem?_toArray, List.getElem?_cons_zero, List.getElem?_cons_succ, Option.some.injEq] at hi
      subst hi
      rw [if_pos (by first | rfl | simp [wantV])]
      have gset : ∀ j, (listed.setIfInBounds 20 true).getD j false = if j = 20 then true else listed.getD j false := fun j => getD_set listed 20 j (by rw [hs]; decide)
      have e0 : ev (.tmp 82) = .bool true := hin 82 14 ⟨14, .data⟩ (by kernel_rfl) (by simp) rfl rfl (show (82 : Nat) < 115 by decide)
      have e1 : ev (.tmp 87) = .bool true := hin 87 19 ⟨19, .data⟩ (by kernel_rfl) (by simp) rfl rfl (show (87 : Nat) < 115 by decide)
      have hst : ∀ w2, CB Wr N (listed.getD 16 false) (listed.getD 17 false) (listed.getD 18 false) w2 → CB Wr N ((listed.setIfInBounds 20 true).getD 16 false) ((listed.setIfInBounds 20 true).getD 17 false) ((listed.setIfInBounds 20 true).getD 18 false) w2 := fun w2 h2 => by
        rw [gset, gset, gset, if_neg (by decide), if_neg (by decide), if_neg (by decide)]
        exact h2
      refine .inl ⟨w', ?_, hst w' hc⟩
      show _ = Result.ok (Next.value (.bool true)) w'
      simp [execOp, e0, e1, hcst, go_sem]
    | 21, _ =>
      simp only [List.getElem?_toArray, List.getElem?_cons_zero, List.getElem?_cons_succ, Option.some.injEq] at hi
      subst hi
      rw [if_pos (by first | rfl | simp [wantV])]
      have gset : ∀ j, (listed.setIfInBounds 21 true).getD j false = if j = 21 then true else listed.getD j false := fun j => getD_set listed 21 j (by rw [hs]; decide)
      have e0 : ev (.tmp 88) = .bool true := hin 88 20 ⟨20, .data⟩ (by kernel_rfl) (by simp) rfl rfl (show (88 : Nat) < 115 by decide)
      have hst : ∀ w2, CB Wr N (listed.getD 16 false) (listed.getD 17 false) (listed.getD 18 false) w2 → CB Wr N ((listed.setIfInBounds 21 true).getD 16 false) ((listed.setIfInBounds 21 true).getD 17 false) ((listed.setIfInBounds 21 true).getD 18 false) w2 := fun w2 h2 => by
        rw [gset, gset, gset, if_neg (by decide), if_neg (by decide), if_neg (by decide)]
        exact h2
      refine .inl ⟨w', ?_, hst w' hc⟩
      show _ = Result.ok (Next.value (.bool true)) w'
      simp [execOp, e0, hcst, go_sem]
    | 22, _ =>
      simp only [List.getElem?_toArray, List.getElem?_cons_zero, List.getElem?_cons_succ, Option.some.injEq] at hi
      subst hi
      rw [if_pos (by first | rfl | simp [wantV])]
      have gset : ∀ j, (listed.setIfInBounds 22 true).getD j false = if j = 22 then true else listed.getD j false := fun j => getD_set listed 22 j (by rw [hs]; decide)
      have e0 : ev (.tmp 14) = .int .i64 0 := hout 14 (by kernel_rfl) (show (14 : Nat) < 115 by decide)
      have hst : ∀ w2, CB Wr N (listed.getD 16 false) (listed.getD 17 false) (listed.getD 18 false) w2 → CB Wr N ((listed.setIfInBounds 22 true).getD 16 false) ((listed.setIfInBounds 22 true).getD 17 false) ((listed.setIfInBounds 22 true).getD 18 false) w2 := fun w2 h2 => by
        rw [gset, gset, gset, if_neg (by decide), if_neg (by decide), if_neg (by decide)]
        exact h2
      refine .inl ⟨w', ?_, hst w' hc⟩
      show _ = Result.ok (Next.value (.int .i64 0)) w'
      simp [execOp, e0, hcst, go_sem]
    | 23, _ =>
      simp only [List.getElem?_toArray, List.getElem?_cons_zero, List.getElem?_cons_succ, Option.some.injEq] at hi
      subst hi
      rw [if_pos (by first | rfl | simp [wantV])]
      have gset : ∀ j, (listed.setIfInBounds 23 true).getD j false = if j = 23 then true else listed.getD j false := fun j => getD_set listed 23 j (by rw [hs]; decide)
      have e0 : ev (.tmp 90) = .int .i64 0 := hin 90 22 ⟨22, .data⟩ (by kernel_rfl) (by simp) rfl rfl (show (90 : Nat) < 115 by decide)
      have hst : ∀ w2, CB Wr N (listed.getD 16 false) (listed.getD 17 false) (listed.getD 18 false) w2 → CB Wr N ((listed.setIfInBounds 23 true).getD 16 false) ((listed.setIfInBounds 23 true).getD 17 false) ((listed.setIfInBounds 23 true).getD 18 false) w2 := fun w2 h2 => by
        rw [gset, gset, gset, if_neg (by decide), if_neg (by decide), if_neg (by decide)]
        exact h2
      refine .inl ⟨w', ?_, hst w' hc⟩
      show _ = Result.ok (Next.value (.bool true)) w'
      simp [execOp, e0, hcst, go_sem]
    | 24, _ =>
      simp only [List.getElem?_toArray, List.getElem?_cons_zero, List.getElem?_cons_succ, Option.some.injEq] at hi
      subst hi
      rw [if_pos (by first | rfl | simp [wantV])]
      have gset : ∀ j, (listed.setIfInBounds 24 true).getD j false = if j = 24 then true else listed.getD j false := fun j => getD_set listed 24 j (by rw [hs]; decide)
      have e0 : ev (.tmp 89) = .bool true := hin 89 21 ⟨21, .data⟩ (by kernel_rfl) (by simp) rfl rfl (show (89 : Nat) < 115 by decide)
      have e1 : ev (.tmp 91) = .bool true := hin 91 23 ⟨23, .data⟩ (by kernel_rfl) (by simp) rfl rfl (show (91 : Nat) < 115 by decide)
      have hst : ∀ w2, CB Wr N (listed.getD 16 false) (listed.getD 17 false) (listed.getD 18 false) w2 → CB Wr N ((listed.setIfInBounds 24 true).getD 16 false) ((listed.setIfInBounds 24 true).getD 17 false) ((listed.setIfInBounds 24 true).getD 18 false) w2 := fun w2 h2 => by
        rw [gset, gset, gset, if_neg (by decide), if_neg (by decide), if_neg (by decide)]
        exact h2
      refine .inl ⟨w', ?_, hst w' hc⟩
      show _ = Result.ok (Next.value (.bool true)) w'
      simp [execOp, e0, e1, hcst, go_sem]
    | 25, _ =>
      simp only [List.getElem?_toArray, List.getElem?_cons_zero, List.getElem?_cons_succ, Option.some.injEq] at hi
      subst hi
      rw [if_pos (by first | rfl | simp [wantV])]
      have gset : ∀ j, (listed.setIfInBounds 25 true).getD j false = if j = 25 then true else listed.getD j false := fun j => getD_set listed 25 j (by rw [hs]; decide)
      have e0 : ev (.tmp 92) = .bool true := hin 92 24 ⟨24, .data⟩ (by kernel_rfl) (by simp) rfl rfl (show (92 : Nat) < 115 by decide)
      have hst : ∀ w2, CB Wr N (listed.getD 16 false) (listed.getD 17 false) (listed.getD 18 false) w2 → CB Wr N ((listed.setIfInBounds 25 true).getD 16 false) ((listed.setIfInBounds 25 true).getD 17 false) ((listed.setIfInBounds 25 true).getD 18 false) w2 := fun w2 h2 => by
        rw [gset, gset, gset, if_neg (by decide), if_neg (by decide), if_neg (by decide)]
        exact h2
      refine .inl ⟨w', ?_, hst w' hc⟩
      show _ = Result.ok (Next.value (.bool true)) w'
      simp [execOp, e0, hcst, go_sem]
    | 26, _ =>
      simp only [List.getElem?_toArray, List.getElem?_cons_zero, List.getElem?_cons_succ, Option.some.injEq] at hi
      subst hi
      rw [if_pos (by first | rfl | simp [wantV])]
      have gset : ∀ j, (listed.setIfInBounds 26 true).getD j false = if j = 26 then true else listed.getD j false := fun j => getD_set listed 26 j (by rw [hs]; decide)
      have e0 : ev (.tmp 13) = .pointer (some ⟨xb, 0, none⟩) := hout 13 (by kernel_rfl) (show (13 : Nat) < 115 by decide)
      have hst : ∀ w2, CB Wr N (listed.getD 16 false) (listed.getD 17 false) (listed.getD 18 false) w2 → CB Wr N ((listed.setIfInBounds 26 true).getD 16 false) ((listed.setIfInBounds 26 true).getD 17 false) ((listed.setIfInBounds 26 true).getD 18 false) w2 := fun w2 h2 => by
        rw [gset, gset, gset, if_neg (by decide), if_neg (by decide), if_neg (by decide)]
        exact h2
      refine .inl ⟨w', ?_, hst w' hc⟩
      show _ = Result.ok (Next.value (.agg #[.string ⟨#[98]⟩, .string ⟨#[118]⟩, .int .u32 0, .int .i64 0, .int .u64 2])) w'
      obtain ⟨q0, q1, q2, q3, q4⟩ := XC.out w' hc.bel
      simp [execOp, e0, q0, q1, q2, q3, q4, hcst, go_sem]
    | 27, _ =>
      simp only [List.getElem?_toArray, List.getElem?_cons_zero, List.getElem?_cons_succ, Option.some.injEq] at hi
      subst hi
      rw [if_pos (by first | rfl | simp [wantV])]
      have gset : ∀ j, (listed.setIfInBounds 27 true).getD j false = if j = 27 then true else listed.getD j false := fun j => getD_set listed 27 j (by rw [hs]; decide)
      have hst : ∀ w2, CB Wr N (listed.getD 16 false) (listed.getD 17 false) (listed.getD 18 false) w2 → CB Wr N ((listed.setIfInBounds 27 true).getD 16 false) ((listed.setIfInBounds 27 true).getD 17 false) ((listed.setIfInBounds 27 true).getD 18 false) w2 := fun w2 h2 => by
        rw [gset, gset, gset, if_neg (by decide), if_neg (by decide), if_neg (by decide)]
        exact h2
      have y18 : listed.getD 18 false = true := hcl 19 18 (by kernel_rfl) (hcl 21 19 (by kernel_rfl) (hcl 25 21 (by kernel_rfl) (hdir 25 (by kernel_rfl))))
      refine .inr (.inr ⟨22, #[.string ⟨#[98]⟩, .int .u64 2], ?_, ?_⟩)
      · have ef := hfn 22
        simp [execOp, resolve, invoke, ef, hcst, Result.andThen]
        exact enter21 _ _
      · refine (it_any ⟨#[98]⟩ 2 w').mono ?_
        rintro e w2 ⟨rfl, rfl⟩
        exact ⟨rfl, hst _ (hc.below y18 ((Below.refl _ _).alloc (Nat.le_refl _) _))⟩
    | 28, _ =>
      simp only [List.getElem?_toArray, List.getElem?_cons_zero, List.getElem?_cons_succ, Option.some.injEq] at hi
      subst hi
      rw [if_pos (by first | rfl | simp [wantV])]
      have gset : ∀ j, (listed.setIfInBounds 28 true).getD j false = if j = 28 then true else listed.getD j false := fun j => getD_set listed 28 j (by rw [hs]; decide)
      have e0 : ev (.tmp 94) = .agg #[.string ⟨#[98]⟩, .string ⟨#[118]⟩, .int .u32 0, .int .i64 0, .int .u64 2] := hin 94 26 ⟨26, .data⟩ (by kernel_rfl) (by simp) rfl rfl (show (94 : Nat) < 115 by decide)
      have e1 : ev (.tmp 95) = .agg #[.string ⟨#[98]⟩, .string ⟨#[118]⟩, .int .u32 0, .int .i64 0, .int .u64 2] := hin 95 27 ⟨27, .data⟩ (by kernel_rfl) (by simp) rfl rfl (show (95 : Nat) < 115 by decide)
      have hst : ∀ w2, CB Wr N (listed.getD 16 false) (listed.getD 17 false) (listed.getD 18 false) w2 → CB Wr N ((listed.setIfInBounds 28 true).getD 16 false) ((listed.setIfInBounds 28 true).getD 17 false) ((listed.setIfInBounds 28 true).getD 18 false) w2 := fun w2 h2 => by
        rw [gset, gset, gset, if_neg (by decide), if_neg (by decide), if_neg (by decide)]
        exact h2
      refine .inl ⟨w', ?_, hst w' hc⟩
      show _ = Result.ok (Next.value (.bool true)) w'
      simp [execOp, e0, e1, hcst, go_sem]
    | 29, _ =>
      simp only [List.getElem?_toArray, List.getElem?_cons_zero, List.getElem?_cons_succ, Option.some.injEq] at hi
      subst hi
      rw [if_pos (by first | rfl | simp [wantV])]
      have gset : ∀ j, (listed.setIfInBounds 29 true).getD j false = if j = 29 then true else listed.getD j false := fun j => getD_set listed 29 j (by rw [hs]; decide)
      have e0 : ev (.tmp 93) = .bool true := hin 93 25 ⟨25, .data⟩ (by kernel_rfl) (by simp) rfl rfl (show (93 : Nat) < 115 by decide)
      have e1 : ev (.tmp 96) = .bool true := hin 96 28 ⟨28, .data⟩ (by kernel_rfl) (by simp) rfl rfl (show (96 : Nat) < 115 by decide)
      have hst : ∀ w2, CB Wr N (listed.getD 16 false) (listed.getD 17 false) (listed.getD 18 false) w2 → CB Wr N ((listed.setIfInBounds 29 true).getD 16 false) ((listed.setIfInBounds 29 true).getD 17 false) ((listed.setIfInBounds 29 true).getD 18 false) w2 := fun w2 h2 => by
        rw [gset, gset, gset, if_neg (by decide), if_neg (by decide), if_neg (by decide)]
        exact h2
      refine .inl ⟨w', ?_, hst w' hc⟩
      show _ = Result.ok (Next.value (.bool true)) w'
      simp [execOp, e0, e1, hcst, go_sem]
    | 30, _ =>
      simp only [List.getElem?_toArray, List.getElem?_cons_zero, List.getElem?_cons_succ, Option.some.injEq] at hi
      subst hi
      rw [if_pos (by first | rfl | simp [wantV])]
      have gset : ∀ j, (listed.setIfInBounds 30 true).getD j false = if j = 30 then true else listed.getD j false := fun j => getD_set listed 30 j (by rw [hs]; decide)
      have e0 : ev (.tmp 97) = .bool true := hin 97 29 ⟨29, .data⟩ (by kernel_rfl) (by simp) rfl rfl (show (97 : Nat) < 115 by decide)
      have hst : ∀ w2, CB Wr N (listed.getD 16 false) (listed.getD 17 false) (listed.getD 18 false) w2 → CB Wr N ((listed.setIfInBounds 30 true).getD 16 false) ((listed.setIfInBounds 30 true).getD 17 false) ((listed.setIfInBounds 30 true).getD 18 false) w2 := fun w2 h2 => by
        rw [gset, gset, gset, if_neg (by decide), if_neg (by decide), if_neg (by decide)]
        exact h2
      refine .inl ⟨w', ?_, hst w' hc⟩
      show _ = Result.ok (Next.value (.bool true)) w'
      simp [execOp, e0, hcst, go_sem]
    | 31, _ =>
      simp only [List.getElem?_toArray, List.getElem?_cons_zero, List.getElem?_cons_succ, Option.some.injEq] at hi
      subst hi
      rw [if_pos (by first | rfl | simp [wantV])]
      have gset : ∀ j, (listed.setIfInBounds 31 true).getD j false = if j = 31 then true else listed.getD j false := fun j => getD_set listed 31 j (by rw [hs]; decide)
      have e0 : ev (.tmp 15) = .int .i64 0 := hout 15 (by kernel_rfl) (show (15 : Nat) < 115 by decide)
      have hst : ∀ w2, CB Wr N (listed.getD 16 false) (listed.getD 17 false) (listed.getD 18 false) w2 → CB Wr N ((listed.setIfInBounds 31 true).getD 16 false) ((listed.setIfInBounds 31 true).getD 17 false) ((listed.setIfInBounds 31 true).getD 18 false) w2 := fun w2 h2 => by
        rw [gset, gset, gset, if_neg (by decide), if_neg (by decide), if_neg (by decide)]
        exact h2
      refine .inl ⟨w', ?_, hst w' hc⟩
      show _ = Result.ok (Next.value (.int .i64 0)) w'
      simp [execOp, e0, hcst, go_sem]
    | 32, _ =>
      simp only [List.getElem?_toArray, List.getElem?_cons_zero, List.getElem?_cons_succ, Option.some.injEq] at hi
      subst hi
      rw [if_pos (by first | rfl | simp [wantV])]
      have gset : ∀ j, (listed.setIfInBounds 32 true).getD j false = if j = 32 then true else listed.getD j false := fun j => getD_set listed 32 j (by rw [hs]; decide)
      have e0 : ev (.tmp 99) = .int .i64 0 := hin 99 31 ⟨31, .data⟩ (by kernel_rfl) (by simp) rfl rfl (show (99 : Nat) < 115 by decide)
      have hst : ∀ w2, CB Wr N (listed.getD 16 false) (listed.getD 17 false) (listed.getD 18 false) w2 → CB Wr N ((listed.setIfInBounds 32 true).getD 16 false) ((listed.setIfInBounds 32 true).getD 17 false) ((listed.setIfInBounds 32 true).getD 18 false) w2 := fun w2 h2 => by
        rw [gset, gset, gset, if_neg (by decide), if_neg (by decide), if_neg (by decide)]
        exact h2
      refine .inl ⟨w', ?_, hst w' hc⟩
      show _ = Result.ok (Next.value (.bool true)) w'
      simp [execOp, e0, hcst, go_sem]
    | 33, _ =>
      simp only [List.getElem?_toArray, List.getElem?_cons_zero, List.getElem?_cons_succ, Option.some.injEq] at hi
      subst hi
      rw [if_pos (by first | rfl | simp [wantV])]
      have gset : ∀ j, (listed.setIfInBounds 33 true).getD j false = if j = 33 then true else listed.getD j false := fun j => getD_set listed 33 j (by rw [hs]; decide)
      have e0 : ev (.tmp 98) = .bool true := hin 98 30 ⟨30, .data⟩ (by kernel_rfl) (by simp) rfl rfl (show (98 : Nat) < 115 by decide)
      have e1 : ev (.tmp 100) = .bool true := hin 100 32 ⟨32, .data⟩ (by kernel_rfl) (by simp) rfl rfl (show (100 : Nat) < 115 by decide)
      have hst : ∀ w2, CB Wr N (listed.getD 16 false) (listed.getD 17 false) (listed.getD 18 false) w2 → CB Wr N ((listed.setIfInBounds 33 true).getD 16 false) ((listed.setIfInBounds 33 true).getD 17 false) ((listed.setIfInBounds 33 true).getD 18 false) w2 := fun w2 h2 => by
        rw [gset, gset, gset, if_neg (by decide), if_neg (by decide), if_neg (by decide)]
        exact h2
      refine .inl ⟨w', ?_, hst w' hc⟩
      show _ = Result.ok (Next.value (.bool true)) w'
      simp [execOp, e0, e1, hcst, go_sem]
    | 34, _ =>
      simp only [List.getElem?_toArray, List.getElem?_cons_zero, List.getElem?_cons_succ, Option.some.injEq] at hi
      subst hi
      rw [if_pos (by first | rfl | simp [wantV])]
      have gset : ∀ j, (listed.setIfInBounds 34 true).getD j false = if j = 34 then true else listed.getD j false := fun j => getD_set listed 34 j (by rw [hs]; decide)
      have e0 : ev (.tmp 101) = .bool true := hin 101 33 ⟨33, .data⟩ (by kernel_rfl) (by simp) rfl rfl (show (101 : Nat) < 115 by decide)
      have hst : ∀ w2, CB Wr N (listed.getD 16 false) (listed.getD 17 false) (listed.getD 18 false) w2 → CB Wr N ((listed.setIfInBounds 34 true).getD 16 false) ((listed.setIfInBounds 34 true).getD 17 false) ((listed.setIfInBounds 34 true).getD 18 false) w2 := fun w2 h2 => by
        rw [gset, gset, gset, if_neg (by decide), if_neg (by decide), if_neg (by decide)]
        exact h2
      refine .inl ⟨w', ?_, hst w' hc⟩
      show _ = Result.ok (Next.value (.bool true)) w'
      simp [execOp, e0, hcst, go_sem]
    | 35, _ =>
      simp only [List.getElem?_toArray, List.getElem?_cons_zero, List.getElem?_cons_succ, Option.some.injEq] at hi
      subst hi
      rw [if_pos (by first | rfl | simp [wantV])]
      have gset : ∀ j, (listed.setIfInBounds 35 true).getD j false = if j = 35 then true else listed.getD j false := fun j => getD_set listed 35 j (by rw [hs]; decide)
      have e0 : ev (.tmp 17) = .int .i64 5 := hout 17 (by kernel_rfl) (show (17 : Nat) < 115 by decide)
      have hst : ∀ w2, CB Wr N (listed.getD 16 false) (listed.getD 17 false) (listed.getD 18 false) w2 → CB Wr N ((listed.setIfInBounds 35 true).getD 16 false) ((listed.setIfInBounds 35 true).getD 17 false) ((listed.setIfInBounds 35 true).getD 18 false) w2 := fun w2 h2 => by
        rw [gset, gset, gset, if_neg (by decide), if_neg (by decide), if_neg (by decide)]
        exact h2
      refine .inl ⟨w', ?_, hst w' hc⟩
      show _ = Result.ok (Next.value (.int .i64 5)) w'
      simp [execOp, e0, hcst, go_sem]
    | 36, _ =>
      simp only [List.getElem?_toArray, List.getElem?_cons_zero, List.getElem?_cons_succ, Option.some.injEq] at hi
      subst hi
      rw [if_pos (by first | rfl | simp [wantV])]
      have gset : ∀ j, (listed.setIfInBounds 36 true).getD j false = if j = 36 then true else listed.getD j false := fun j => getD_set listed 36 j (by rw [hs]; decide)
      have e0 : ev (.tmp 103) = .int .i64 5 := hin 103 35 ⟨35, .data⟩ (by kernel_rfl) (by simp) rfl rfl (show (103 : Nat) < 115 by decide)
      have hst : ∀ w2, CB Wr N (listed.getD 16 false) (listed.getD 17 false) (listed.getD 18 false) w2 → CB Wr N ((listed.setIfInBounds 36 true).getD 16 false) ((listed.setIfInBounds 36 true).getD 17 false) ((listed.setIfInBounds 36 true).getD 18 false) w2 := fun w2 h2 => by
        rw [gset, gset, gset, if_neg (by decide), if_neg (by decide), if_neg (by decide)]
        exact h2
      refine .inl ⟨w', ?_, hst w' hc⟩
      show _ = Result.ok (Next.value (.bool true)) w'
      simp [execOp, e0, hcst, go_sem]
    | 37, _ =>
      simp only [List.getElem?_toArray, List.getElem?_cons_zero, List.getElem?_cons_succ, Option.some.injEq] at hi
      subst hi
      rw [if_pos (by first | rfl | simp [wantV])]
      have gset : ∀ j, (listed.setIfInBounds 37 true).getD j false = if j = 37 then true else listed.getD j false := fun j => getD_set listed 37 j (by rw [hs]; decide)
      have e0 : ev (.tmp 102) = .bool true := hin 102 34 ⟨34, .data⟩ (by kernel_rfl) (by simp) rfl rfl (show (102 : Nat) < 115 by decide)
      have e1 : ev (.tmp 104) = .bool true := hin 104 36 ⟨36, .data⟩ (by kernel_rfl) (by simp) rfl rfl (show (104 : Nat) < 115 by decide)
      have hst : ∀ w2, CB Wr N (listed.getD 16 false) (listed.getD 17 false) (listed.getD 18 false) w2 → CB Wr N ((listed.setIfInBounds 37 true).getD 16 false) ((listed.setIfInBounds 37 true).getD 17 false) ((listed.setIfInBounds 37 true).getD 18 false) w2 := fun w2 h2 => by
        rw [gset, gset, gset, if_neg (by decide), if_neg (by decide), if_neg (by decide)]
        exact h2
      refine .inl ⟨w', ?_, hst w' hc⟩
      show _ = Result.ok (Next.value (.bool true)) w'
      simp [execOp, e0, e1, hcst, go_sem]
    | 38, _ =>
      simp only [List.getElem?_toArray, List.getElem?_cons_zero, List.getElem?_cons_succ, Option.some.injEq] at hi
      subst hi
      rw [if_pos (by first | rfl | simp [wantV])]
      have gset : ∀ j, (listed.setIfInBounds 38 true).getD j false = if j = 38 then true else listed.getD j false := fun j => getD_set listed 38 j (by rw [hs]; decide)
      have e0 : ev (.tmp 105) = .bool true := hin 105 37 ⟨37, .data⟩ (by kernel_rfl) (by simp) rfl rfl (show (105 : Nat) < 115 by decide)
      have hst : ∀ w2, CB Wr N (listed.getD 16 false) (listed.getD 17 false) (listed.getD 18 false) w2 → CB Wr N ((listed.setIfInBounds 38 true).getD 16 false) ((listed.setIfInBounds 38 true).getD 17 false) ((listed.setIfInBounds 38 true).getD 18 false) w2 := fun w2 h2 => by
        rw [gset, gset, gset, if_neg (by decide), if_neg (by decide), if_neg (by decide)]
        exact h2
      refine .inl ⟨w', ?_, hst w' hc⟩
      show _ = Result.ok (Next.value (.bool true)) w'
      simp [execOp, e0, hcst, go_sem]
    | 39, _ =>
      simp only [List.getElem?_toArray, List.getElem?_cons_zero, List.getElem?_cons_succ, Option.some.injEq] at hi
      subst hi
      rw [if_pos (by first | rfl | simp [wantV])]
      have gset : ∀ j, (listed.setIfInBounds 39 true).getD j false = if j = 39 then true else listed.getD j false := fun j => getD_set listed 39 j (by rw [hs]; decide)
      have e0 : ev (.tmp 3) = .pointer (some ⟨s, 0, none⟩) := hout 3 (by kernel_rfl) (show (3 : Nat) < 115 by decide)
      have hst : ∀ w2, CB Wr N (listed.getD 16 false) (listed.getD 17 false) (listed.getD 18 false) w2 → CB Wr N ((listed.setIfInBounds 39 true).getD 16 false) ((listed.setIfInBounds 39 true).getD 17 false) ((listed.setIfInBounds 39 true).getD 18 false) w2 := fun w2 h2 => by
        rw [gset, gset, gset, if_neg (by decide), if_neg (by decide), if_neg (by decide)]
        exact h2
      refine .inl ⟨w', ?_, hst w' hc⟩
      show _ = Result.ok (Next.value (.pointer (some ⟨s, 0, none⟩))) w'
      simp [execOp, e0, hcst, go_sem]
    | 40, _ =>
      simp only [List.getElem?_toArray, List.getElem?_cons_zero, List.getElem?_cons_succ, Option.some.injEq] at hi
      subst hi
      rw [if_pos (by first | rfl | simp [wantV])]
      have gset : ∀ j, (listed.setIfInBounds 40 true).getD j false = if j = 40 then true else listed.getD j false := fun j => getD_set listed 40 j (by rw [hs]; decide)
      have e0 : ev (.tmp 107) = .pointer (some ⟨s, 0, none⟩) := hin 107 39 ⟨39, .data⟩ (by kernel_rfl) (by simp) rfl rfl (show (107 : Nat) < 115 by decide)
      have hst : ∀ w2, CB Wr N (listed.getD 16 false) (listed.getD 17 false) (listed.getD 18 false) w2 → CB Wr N ((listed.setIfInBounds 40 true).getD 16 false) ((listed.setIfInBounds 40 true).getD 17 false) ((listed.setIfInBounds 40 true).getD 18 false) w2 := fun w2 h2 => by
        rw [gset, gset, gset, if_neg (by decide), if_neg (by decide), if_neg (by decide)]
        exact h2
      have y18 : listed.getD 18 false = true := hcl 19 18 (by kernel_rfl) (hcl 21 19 (by kernel_rfl) (hcl 25 21 (by kernel_rfl) (hcl 29 25 (by kernel_rfl) (hcl 30 29 (by kernel_rfl) (hcl 34 30 (by kernel_rfl) (hcl 38 34 (by kernel_rfl) (hdir 38 (by kernel_rfl))))))))
      refine .inr (.inr ⟨16, #[.pointer (some ⟨s, 0, none⟩), .string ⟨#[98]⟩], ?_, ?_⟩)
      · have ef := hfn 16
        simp [execOp, resolve, invoke, ef, hcst, e0, Result.andThen]
        exact enter17 _ _
      · refine (c40.out w' hc.bel).mono ?_
        rintro e w2 ⟨rfl, h2⟩
        exact ⟨rfl, hst _ (hc.below y18 h2)⟩
    | 41, _ =>
      simp only [List.getElem?_toArray, List.getElem?_cons_zero, List.getElem?_cons_succ, Option.some.injEq] at hi
      subst hi
      rw [if_pos (by first | rfl | simp [wantV])]
      have gset : ∀ j, (listed.setIfInBounds 41 true).getD j false = if j = 41 then true else listed.getD j false := fun j => getD_set listed 41 j (by rw [hs]; decide)
      have e0 : ev (.tmp 106) = .bool true := hin 106 38 ⟨38, .data⟩ (by kernel_rfl) (by simp) rfl rfl (show (106 : Nat) < 115 by decide)
      have e1 : ev (.tmp 108) = .bool true := hin 108 40 ⟨40, .data⟩ (by kernel_rfl) (by simp) rfl rfl (show (108 : Nat) < 115 by decide)
      have hst : ∀ w2, CB Wr N (listed.getD 16 false) (listed.getD 17 false) (listed.getD 18 false) w2 → CB Wr N ((listed.setIfInBounds 41 true).getD 16 false) ((listed.setIfInBounds 41 true).getD 17 false) ((listed.setIfInBounds 41 true).getD 18 false) w2 := fun w2 h2 => by
        rw [gset, gset, gset, if_neg (by decide), if_neg (by decide), if_neg (by decide)]
        exact h2
      refine .inl ⟨w', ?_, hst w' hc⟩
      show _ = Result.ok (Next.value (.bool true)) w'
      simp [execOp, e0, e1, hcst, go_sem]
    | 42, _ =>
      simp only [List.getElem?_toArray, List.getElem?_cons_zero, List.getElem?_cons_succ, Option.some.injEq] at hi
      subst hi
      rw [if_pos (by first | rfl | simp [wantV])]
      have gset : ∀ j, (listed.setIfInBounds 42 true).getD j false = if j = 42 then true else listed.getD j false := fun j => getD_set listed 42 j (by rw [hs]; decide)
      have e0 : ev (.tmp 109) = .bool true := hin 109 41 ⟨41, .data⟩ (by kernel_rfl) (by simp) rfl rfl (show (109 : Nat) < 115 by decide)
      have hst : ∀ w2, CB Wr N (listed.getD 16 false) (listed.getD 17 false) (listed.getD 18 false) w2 → CB Wr N ((listed.setIfInBounds 42 true).getD 16 false) ((listed.setIfInBounds 42 true).getD 17 false) ((listed.setIfInBounds 42 true).getD 18 false) w2 := fun w2 h2 => by
        rw [gset, gset, gset, if_neg (by decide), if_neg (by decide), if_neg (by decide)]
        exact h2
      refine .inl ⟨w', ?_, hst w' hc⟩
      show _ = Result.ok (Next.value (.bool true)) w'
      simp [execOp, e0, hcst, go_sem]
    | 43, _ =>
      simp only [List.getElem?_toArray, List.getElem?_cons_zero, List.getElem?_cons_succ, Option.some.injEq] at hi
      subst hi
      rw [if_pos (by first | rfl | simp [wantV])]
      have gset : ∀ j, (listed.setIfInBounds 43 true).getD j false = if j = 43 then true else listed.getD j false := fun j => getD_set listed 43 j (by rw [hs]; decide)
      have e0 : ev (.tmp 3) = .pointer (some ⟨s, 0, none⟩) := hout 3 (by kernel_rfl) (show (3 : Nat) < 115 by decide)
      have hst : ∀ w2, CB Wr N (listed.getD 16 false) (listed.getD 17 false) (listed.getD 18 false) w2 → CB Wr N ((listed.setIfInBounds 43 true).getD 16 false) ((listed.setIfInBounds 43 true).getD 17 false) ((listed.setIfInBounds 43 true).getD 18 false) w2 := fun w2 h2 => by
        rw [gset, gset, gset, if_neg (by decide), if_neg (by decide), if_neg (by decide)]
        exact h2
      refine .inl ⟨w', ?_, hst w' hc⟩
      show _ = Result.ok (Next.value (.pointer (some ⟨s, 0, none⟩))) w'
      simp [execOp, e0, hcst, go_sem]
    | 44, _ =>
      simp only [List.getElem?_toArray, List.getElem?_cons_zero, List.getElem?_cons_succ, Option.some.injEq] at hi
      subst hi
      rw [if_pos (by first | rfl | simp [wantV])]
      have gset : ∀ j, (listed.setIfInBounds 44 true).getD j false = if j = 44 then true else listed.getD j false := fun j => getD_set listed 44 j (by rw [hs]; decide)
      have e0 : ev (.tmp 111) = .pointer (some ⟨s, 0, none⟩) := hin 111 43 ⟨43, .data⟩ (by kernel_rfl) (by simp) rfl rfl (show (111 : Nat) < 115 by decide)
      have hst : ∀ w2, CB Wr N (listed.getD 16 false) (listed.getD 17 false) (listed.getD 18 false) w2 → CB Wr N ((listed.setIfInBounds 44 true).getD 16 false) ((listed.setIfInBounds 44 true).getD 17 false) ((listed.setIfInBounds 44 true).getD 18 false) w2 := fun w2 h2 => by
        rw [gset, gset, gset, if_neg (by decide), if_neg (by decide), if_neg (by decide)]
        exact h2
      have y18 : listed.getD 18 false = true := hcl 19 18 (by kernel_rfl) (hcl 21 19 (by kernel_rfl) (hcl 25 21 (by kernel_rfl) (hcl 29 25 (by kernel_rfl) (hcl 30 29 (by kernel_rfl) (hcl 34 30 (by kernel_rfl) (hcl 38 34 (by kernel_rfl) (hcl 41 38 (by kernel_rfl) (hcl 42 41 (by kernel_rfl) (hdir 42 (by kernel_rfl))))))))))
      refine .inr (.inr ⟨16, #[.pointer (some ⟨s, 0, none⟩), .string ⟨#[122, 101, 98, 114, 97]⟩], ?_, ?_⟩)
      · have ef := hfn 16
        simp [execOp, resolve, invoke, ef, hcst, e0, Result.andThen]
        exact enter17 _ _
      · refine (c44.out w' hc.bel).mono ?_
        rintro e w2 ⟨rfl, h2⟩
        exact ⟨rfl, hst _ (hc.below y18 h2)⟩
    | 45, _ =>
      simp only [List.getElem?_toArray, List.getElem?_cons_zero, List.getElem?_cons_succ, Option.some.injEq] at hi
      subst hi
      rw [if_pos (by first | rfl | simp [wantV])]
      have gset : ∀ j, (listed.setIfInBounds 45 true).getD j false = if j = 45 then true else listed.getD j false := fun j => getD_set listed 45 j (by rw [hs]; decide)
      have e0 : ev (.tmp 112) = .bool false := hin 112 44 ⟨44, .data⟩ (by kernel_rfl) (by simp) rfl rfl (show (112 : Nat) < 115 by decide)
      have hst : ∀ w2, CB Wr N (listed.getD 16 false) (listed.getD 17 false) (listed.getD 18 false) w2 → CB Wr N ((listed.setIfInBounds 45 true).getD 16 false) ((listed.setIfInBounds 45 true).getD 17 false) ((listed.setIfInBounds 45 true).getD 18 false) w2 := fun w2 h2 => by
        rw [gset, gset, gset, if_neg (by decide), if_neg (by decide), if_neg (by decide)]
        exact h2
      refine .inl ⟨w', ?_, hst w' hc⟩
      show _ = Result.ok (Next.value (.bool true)) w'
      simp [execOp, e0, hcst, go_sem]
    | 46, _ =>
      simp only [List.getElem?_toArray, List.getElem?_cons_zero, List.getElem?_cons_succ, Option.some.injEq] at hi
      subst hi
      rw [if_pos (by first | rfl | simp [wantV])]
      have gset : ∀ j, (listed.setIfInBounds 46 true).getD j false = if j = 46 then true else listed.getD j false := fun j => getD_set listed 46 j (by rw [hs]; decide)
      have e0 : ev (.tmp 110) = .bool true := hin 110 42 ⟨42, .data⟩ (by kernel_rfl) (by simp) rfl rfl (show (110 : Nat) < 115 by decide)
      have e1 : ev (.tmp 113) = .bool true := hin 113 45 ⟨45, .data⟩ (by kernel_rfl) (by simp) rfl rfl (show (113 : Nat) < 115 by decide)
      have hst : ∀ w2, CB Wr N (listed.getD 16 false) (listed.getD 17 false) (listed.getD 18 false) w2 → CB Wr N ((listed.setIfInBounds 46 true).getD 16 false) ((listed.setIfInBounds 46 true).getD 17 false) ((listed.setIfInBounds 46 true).getD 18 false) w2 := fun w2 h2 => by
        rw [gset, gset, gset, if_neg (by decide), if_neg (by decide), if_neg (by decide)]
        exact h2
      refine .inl ⟨w', ?_, hst w' hc⟩
      show _ = Result.ok (Next.value (.bool true)) w'
      simp [execOp, e0, e1, hcst, go_sem]
    | 47, _ =>
      simp only [List.getElem?_toArray, List.getElem?_cons_zero, List.getElem?_cons_succ, Option.some.injEq] at hi
      subst hi
      rw [if_pos (by first | rfl | simp [wantV])]
      have gset : ∀ j, (listed.setIfInBounds 47 true).getD j false = if j = 47 then true else listed.getD j false := fun j => getD_set listed 47 j (by rw [hs]; decide)
      have e0 : ev (.tmp 114) = .bool true := hin 114 46 ⟨46, .data⟩ (by kernel_rfl) (by simp) rfl rfl (show (114 : Nat) < 115 by decide)
      have hst : ∀ w2, CB Wr N (listed.getD 16 false) (listed.getD 17 false) (listed.getD 18 false) w2 → CB Wr N ((listed.setIfInBounds 47 true).getD 16 false) ((listed.setIfInBounds 47 true).getD 17 false) ((listed.setIfInBounds 47 true).getD 18 false) w2 := fun w2 h2 => by
        rw [gset, gset, gset, if_neg (by decide), if_neg (by decide), if_neg (by decide)]
        exact h2
      refine .inl ⟨w', ?_, hst w' hc⟩
      show _ = Result.ok (Next.value (.bool true)) w'
      simp [execOp, e0, hcst, go_sem]
  · intro w7 hc
    simp only [lexF, Act.put, List.setIfInBounds_toArray, List.set_cons_succ, List.set_cons_zero, List.getD_cons_succ, List.getD_cons_zero]
    have T := hide hc.bel
    clear hc cI c40 c44 XC
    go_wp2
    go_ret
    exact ⟨rfl, BW.out.trans (T.out.mono (by rw [HN.out]; exact BW.out.size))⟩
end Go.Proofs.YtbccnfbombgdmaaGreat
