/- Texts joined: Del, Del2. -/
import Derived.Test.YtbccnfbombgdmaaGreatJ05
import Derived.Lib.SliceRun
/- A list without a key: the closure, IndexFunc. -/
set_option linter.unusedVariables false
set_option linter.unusedSimpArgs false
set_option maxRecDepth 8000
namespace Go.Proofs.YtbccnfbombgdmaaGreat
open Go.RowKit Go.Deep Math

set_option maxHeartbeats 400000 in
theorem del_any (x : It) (key : List UInt8) (B : Nat) (w : World) (hB : w.cell? ⟨B, 0, none⟩ = some (.string (txt key))) :
    Calls Tryz.prog 66 #[x.val, .pointer (some ⟨B, 0, none⟩)] w fun e w' => e = .returned (.bool (decide (x.key = key))) ∧ Below w.heap.size w w' := by
  unfold It.val itV
  have hlt : B < w.heap.size := block_lt_of_cell hB
  go_enter Tryz.func66, Tryz.ntmps66
  go_wp2
  go_ret
  refine ⟨?_, (Below.refl _ _).alloc (Nat.le_refl _) _⟩
  rw [txt_list, txt_list]
  congr 2
  by_cases h : x.key = key <;> simp [h]

theorem OneIt.vals {w : World} {b o : Nat} {x : It} (h : OneIt w b o x) : w.cell? ⟨b, o, none⟩ = some (.string (txt x.key)) ∧ w.cell? ⟨b, o + 1, none⟩ = some (.string (txt x.value)) ∧ w.cell? ⟨b, o + 2, none⟩ = some (.int .u32 x.flags) ∧ w.cell? ⟨b, o + 3, none⟩ = some (.int .i64 x.exp) ∧ w.cell? ⟨b, o + 4, none⟩ = some (.int .u64 x.ver) := ⟨h.c0, h.c1, h.c2, h.c3, h.c4⟩
set_option maxHeartbeats 1000000 in
theorem idx_any (a : Option Addr) (n cap : Nat) (xs : List It) (key : List UInt8) (B : Nat) (hn63 : n ≤ 1048576) (w : World) (h : ItsAt w a n xs) (hB : w.cell? ⟨B, 0, none⟩ = some (.string (txt key))) :
    Calls Tryz.prog 83 #[.slice a n cap, .func (.func 66) #[] #[.pointer (some ⟨B, 0, none⟩)]] w fun e w' => (∃ k : Int, e = .returned (.int .i64 k) ∧ ((k = -1 ∧ ∀ x ∈ xs, x.key ≠ key) ∨ ∃ i x, k = (i : Nat) ∧ xs[i]? = some x ∧ x.key = key ∧ ∀ y ∈ xs.take i, y.key ≠ key)) ∧ Below w.heap.size w w' := by
  have H := hide h
  have hBl : B < w.heap.size := block_lt_of_cell hB
  have cD : Hid (∀ (x : It) (W : World), Below w.heap.size w W → Calls Tryz.prog 66 #[.agg #[.string (txt x.key), .string (txt x.value), .int .u32 x.flags, .int .i64 x.exp, .int .u64 x.ver], .pointer (some ⟨B, 0, none⟩)] W fun e w' => e = .returned (.bool (decide (x.key = key))) ∧ Below W.heap.size W w') := fun x W b => del_any x key B W ((b.cell (p := ⟨B, 0, none⟩) hBl).trans hB)
  clear h hB
  go_enter Tryz.func83, Tryz.ntmps83
  go_wp2_with fail
  go_loopg [8] n (fun kx s8 wr => ∃ i : Nat, s8 = .int .i64 i ∧ i ≤ n ∧ n - i ≤ kx ∧ Hid ((∀ y ∈ xs.take i, y.key ≠ key) ∧ Below w.heap.size w wr))
  case atStart => exact ⟨0, rfl, Nat.zero_le _, by omega, by simp, Below.refl _ _⟩
  case round =>
    obtain ⟨i, rfl, hin, hg, I⟩ := hrel
    by_cases hlt : i < n
    · have hlt2 : (i : Int) < (n : Int) := by omega
      obtain ⟨x, hx⟩ : ∃ x, xs[i]? = some x := ⟨_, List.getElem?_eq_getElem (by rw [← H.out.len]; exact hlt)⟩
      obtain ⟨b, o, rfl, hb, hc⟩ := H.out.cell i x hx
      obtain ⟨c0, c1, c2, c3, c4⟩ := (hc.below I.out.2 hb).vals
      have hbw : b < wr.heap.size := Nat.lt_of_lt_of_le hb I.out.2.size
      have cx := hide (cD.out x wr I.out.2)
      have HX := hide hx
      clear hc hx
      by_cases hk : x.key = key
      · have HK := hide hk
        rw [decide_eq_true hk] at cx
        clear hk
        go_wp2_with fail
        refine cx.out.mono ?_
        rintro e w1 ⟨rfl, h1⟩
        have B1 := hide (I.out.2.trans (h1.mono I.out.2.size))
        clear h1
        go_wp2
        go_ret
        exact ⟨⟨(i : Int), rfl, .inr ⟨i, x, rfl, HX.out, HK.out, I.out.1⟩⟩, B1.out⟩
      · have HK := hide hk
        rw [decide_eq_false hk] at cx
        clear hk
        go_wp2_with fail
        refine cx.out.mono ?_
        rintro e w1 ⟨rfl, h1⟩
        have B1 := hide (I.out.2.trans (h1.mono I.out.2.size))
        clear h1
        go_wp2
        go_roundg (n - (i + 1))
        case measure => omega
        case rel =>
          refine ⟨i + 1, rfl, by omega, by omega, fun y hy => ?_, B1.out⟩
          rw [List.take_add_one, HX.out] at hy
          simp only [List.mem_append, Option.toList_some, List.mem_singleton] at hy
          rcases hy with hy | rfl
          · exact I.out.1 y hy
          · exact HK.out
    · obtain rfl : i = n := by omega
      have hlt2 : ¬ (i : Int) < (i : Int) := by omega
      go_wp2
      go_ret
      refine ⟨⟨-1, rfl, .inl ⟨rfl, fun y hy => I.out.1 y ?_⟩⟩, I.out.2⟩
      rw [H.out.len, List.take_length]; exact hy
end Go.Proofs.YtbccnfbombgdmaaGreat

/- slices.DeleteFunc over a row of items. -/
set_option linter.unusedVariables false
set_option linter.unusedSimpArgs false
set_option maxRecDepth 8000
namespace Go.Proofs.YtbccnfbombgdmaaGreat
open Go.RowKit Go.Deep Math

/-- 'clear(s)', s a slice of n > 0 items. -/
theorem run_clear_its (w : World) (b o n c : Nat) (hn : 0 < n) (hc : ∀ j, j < n * 5 → (w.cell? ⟨b, o + j, none⟩).isSome = true) (hf : ∀ j, j < n * 5 → w.frozen? ⟨b, o + j, none⟩ = false) (ty : TypeId) :
    ∃ L : List Value, L.length = n * 5 ∧ (Builtin.clear_ #[45] ty #[.slice (some ⟨b, o, none⟩) n c]).run Tryz.prog w = .ok (.tuple #[]) (w.setCells b o L) := by
  obtain ⟨L, hL⟩ : ∃ L, (Builtin.zeroCells (Value.agg #[.string ⟨#[]⟩, .string ⟨#[]⟩, .int .u32 0, .int .i64 0, .int .u64 0]).cells n).toList = L := ⟨_, rfl⟩
  have hzc : L.length = n * 5 := by rw [← hL]; simp [Builtin.zeroCells]; rfl
  have h1 : ∀ v ∈ L, v.oneCell' = true := by
    rw [← hL]
    intro v hv
    simp only [Builtin.zeroCells, Array.toList_map, List.mem_map] at hv
    obtain ⟨i, hi, rfl⟩ := hv
    have h5 : (Value.agg #[.string ⟨#[]⟩, .string ⟨#[]⟩, .int .u32 0, .int .i64 0, .int .u64 0]).cells = #[.string ⟨#[]⟩, .string ⟨#[]⟩, .int .u32 0, .int .i64 0, .int .u64 0] := rfl
    rw [h5]
    have : i % 5 < 5 := Nat.mod_lt _ (by decide)
    show (#[Value.string ⟨#[]⟩, .string ⟨#[]⟩, .int .u32 0, .int .i64 0, .int .u64 0][i % 5]!).oneCell' = true
    generalize i % 5 = k at this
    match k, this with
    | 0, _ => rfl
    | 1, _ => rfl
    | 2, _ => rfl
    | 3, _ => rfl
    | 4, _ => rfl
  have hst := run_storeCells_cells (P := Tryz.prog) b o L 0 w (by rw [hzc]; simpa using hc) (by rw [hzc]; simpa using hf) h1
  simp only [Nat.add_zero] at hst
  obtain ⟨m, rfl⟩ : ∃ m, n = m + 1 := ⟨n - 1, by omega⟩
  refine ⟨L, hzc, ?_⟩
  simp [Builtin.clear_, run_underlying Tryz.underlying45, Tryz.zeroValue39, hL, hst]

/-- A row of items in a block. -/
theorem its_blk {w : World} {g n : Nat} {xs : List It} {pad : List Value} (h : Blk w g (itsCells xs ++ pad) 39) (hn : n = xs.length) (hs : ∀ x ∈ xs, x.fits ∧ x.key.length ≤ 140737488351232 ∧ x.value.length ≤ 140737488351232) : ItsAt w (some ⟨g, 0, none⟩) n xs := by
  refine ⟨hn, hs, fun i x hx => ⟨g, 0, rfl, h.lt, ?_⟩⟩
  obtain ⟨A, B, rfl, hA⟩ : ∃ A B, xs = A ++ x :: B ∧ A.length = i := by
    obtain ⟨hi, he⟩ := List.getElem?_eq_some_iff.1 hx
    refine ⟨xs.take i, xs.drop (i + 1), ?_, by simp; omega⟩
    rw [← he, ← List.drop_eq_getElem_cons hi, List.take_append_drop]
  have key : ∀ j v, j < 5 → (itCells x)[j]? = some v → w.cell? ⟨g, 0 + i * 5 + j, none⟩ = some v := fun j v hj hv => by
    rw [Nat.zero_add]
    refine h.cell ?_
    rw [← hA, ← hv]
    exact flat_getP itCells 5 (fun _ => rfl) A x B pad j hj
  exact ⟨key 0 _ (by omega) rfl, key 1 _ (by omega) rfl, key 2 _ (by omega) rfl, key 3 _ (by omega) rfl, key 4 _ (by omega) rfl⟩
/-- An item is stored over another one. -/
theorem its_set {w : World} {g : Nat} {A B : List It} {y : It} {pad : List Value} (h : Blk w g (itsCells (A ++ y :: B) ++ pad) 39) (x : It) (i : Nat) (hi : i = A.length) :
    Blk (((((w.setCell ⟨g, i * 5, none⟩ (.string (txt x.key))).setCell ⟨g, i * 5 + 1, none⟩ (.string (txt x.value))).setCell ⟨g, i * 5 + 2, none⟩ (.int .u32 x.flags)).setCell ⟨g, i * 5 + 3, none⟩ (.int .i64 x.exp)).setCell ⟨g, i * 5 + 4, none⟩ (.int .u64 x.ver)) g (itsCells (A ++ x :: B) ++ pad) 39 := by
  have e : ∀ z : It, itsCells (A ++ z :: B) ++ pad = itsCells A ++ itCells z ++ (itsCells B ++ pad) := fun z => by simp [itsCells]
  rw [e] at h ⊢
  have hl : i * 5 = (itsCells A).length := by rw [itsCells_length, hi]
  rw [hl]
  exact Blk.sets (itCells x) (itsCells A) (itCells y) (itsCells B ++ pad) w rfl h
def notKey (key : List UInt8) (x : It) : Bool := decide (x.key ≠ key)

set_option maxHeartbeats 4000000 in
theorem delf_any (g n cap : Nat) (xs : List It) (pad : List Value) (key : List UInt8) (B : Nat) (hn : n = xs.length) (hn63 : n ≤ 1048576) (w : World) (hs : ∀ x ∈ xs, x.fits ∧ x.key.length ≤ 140737488351232 ∧ x.value.length ≤ 140737488351232)
    (h : Blk w g (itsCells xs ++ pad) 39) (hne : B ≠ g) (hc : n ≤ cap) (hcp : cap ≤ 9223372036854775807) (hB : w.cell? ⟨B, 0, none⟩ = some (.string (txt key))) :
    Calls Tryz.prog 65 #[.slice (some ⟨g, 0, none⟩) n cap, .func (.func 66) #[] #[.pointer (some ⟨B, 0, none⟩)]] w fun e w' => ∃ pad', e = .returned (.slice (some ⟨g, 0, none⟩) (xs.filter (notKey key)).length cap) ∧
      Blk w' g (itsCells (xs.filter (notKey key)) ++ pad') 39 ∧ (itsCells (xs.filter (notKey key)) ++ pad').length = (itsCells xs ++ pad).length ∧ Keep [g] w w' := by
  have hI : ItsAt w (some ⟨g, 0, none⟩) n xs := its_blk h hn hs
  have cI := hide (idx_any (some ⟨g, 0, none⟩) n cap xs key B hn63 w hI hB)
  have hBl : B < w.heap.size := block_lt_of_cell hB
  have H := hide h
  have HS := hide hs
  have HN := hide hn
  have HNE := hide hne
  have HB := hide hB
  clear hI h hs hB hn hne
  go_enter Tryz.func65, Tryz.ntmps65
  go_wp2_with fail
  refine cI.out.mono ?_
  rintro e w1 ⟨⟨k, rfl, hk⟩, b1⟩
  have B1 := hide b1
  clear b1 cI
  rcases hk with ⟨rfl, hk⟩ | ⟨i0, x0, rfl, hx, hxk, hk⟩
  · have E : Hid (xs.filter (notKey key) = xs) := List.filter_eq_self.2 (fun x hx => by simp [notKey, hk x hx])
    clear hk
    go_wp2
    go_ret
    rw [E.out]
    exact ⟨pad, congrArg (fun m => Ending.returned (.slice (some ⟨g, 0, none⟩) m cap)) HN.out, H.out.same (B1.out.block g H.out.lt), rfl, Keep.of_below B1.out⟩
  · have HK := hide (show xs[i0]? = some x0 ∧ x0.key = key ∧ ∀ y ∈ xs.take i0, y.key ≠ key from ⟨hx, hxk, hk⟩)
    have hi0 : i0 < n := by rw [HN.out]; exact (List.getElem?_eq_some_iff.1 hx).1
    clear hx hxk hk
    go_wp2_with fail
    go_loopg [5, 6] n (fun kx s5 s6 wr => ∃ i j : Nat, s5 = .int .i64 i ∧ s6 = .int .i64 j ∧ i < j ∧ j ≤ n ∧ n - j ≤ kx ∧ ∃ zs : List It, Hid (i = ((xs.take j).filter (notKey key)).length ∧ zs.length = j - i ∧ (∀ z ∈ zs, z ∈ xs) ∧ Blk wr g (itsCells ((xs.take j).filter (notKey key) ++ (zs ++ xs.drop j)) ++ pad) 39 ∧ Keep [g] w wr))
    case atStart =>
      have hk := HK.out
      have e1 : (xs.take (i0 + 1)).filter (notKey key) = xs.take i0 := by
        rw [List.take_add_one, hk.1, List.filter_append]
        have : (xs.take i0).filter (notKey key) = xs.take i0 := List.filter_eq_self.2 (fun x hx => by simp [notKey, hk.2.2 x hx])
        rw [this]
        simp [notKey, hk.2.1]
      have hl : (xs.take i0).length = i0 := by rw [List.length_take]; have := HN.out; omega
      refine ⟨i0, i0 + 1, rfl, by go_num, by omega, by omega, by omega, [x0], by rw [e1, hl], by simp, fun z hz => by simp at hz; rw [hz]; exact List.mem_of_getElem? hk.1, ?_, Keep.of_below B1.out⟩
      rw [e1]
      have e2 : xs.take i0 ++ ([x0] ++ xs.drop (i0 + 1)) = xs := by
        obtain ⟨h1, h2⟩ := List.getElem?_eq_some_iff.1 hk.1
        rw [← h2]
        show xs.take i0 ++ (xs[i0] :: xs.drop (i0 + 1)) = xs
        rw [← List.drop_eq_getElem_cons h1, List.take_append_drop]
      rw [e2]
      exact H.out.same (B1.out.block g H.out.lt)
    case round =>
      obtain ⟨i, j, rfl, rfl, hij, hjn, hg, zs, I⟩ := hrel
      by_cases hlt : j < n
      · have hlt2 : (j : Int) < (n : Int) := by omega
        obtain ⟨x, hx⟩ : ∃ x, xs[j]? = some x := ⟨_, List.getElem?_eq_getElem (by have := HN.out; omega)⟩
        have hL : Hid (((xs.take j).filter (notKey key) ++ (zs ++ xs.drop j)).length = n) := by
          show _ = _
          have := I.out.1; have := I.out.2.1; have := HN.out
          simp only [List.length_append, List.length_drop]
          omega
        have IA := its_blk I.out.2.2.2.1 hL.out.symm (fun y hy => by
          rcases List.mem_append.1 hy with h1 | h1
          · exact HS.out y (List.mem_of_mem_take (List.mem_filter.1 h1).1)
          · rcases List.mem_append.1 h1 with h2 | h2
            · exact HS.out y (I.out.2.2.1 y h2)
            · exact HS.out y (List.mem_of_mem_drop h2))
        have hxj : ((xs.take j).filter (notKey key) ++ (zs ++ xs.drop j))[j]? = some x := by
          have h1 := I.out.1; have h2 := I.out.2.1
          rw [List.getElem?_append_right (by omega), List.getElem?_append_right (by omega), List.getElem?_drop, ← hx]
          congr 1
          omega
        obtain ⟨_, _, he, hgw, hc⟩ := IA.cell j x hxj
        cases he
        obtain ⟨c0, c1, c2, c3, c4⟩ := hc.vals
        rw [Nat.zero_add] at c0 c1 c2 c3 c4
        have HX := hide hx
        have hBw : Hid (wr.cell? ⟨B, 0, none⟩ = some (.string (txt key))) := by
          show _ = _
          rw [← HB.out]
          have := I.out.2.2.2.2.block B hBl (by simpa using HNE.out)
          simp only [World.cell?, this]
        have hBw2 : B < wr.heap.size := Nat.lt_of_lt_of_le hBl I.out.2.2.2.2.size
        obtain ⟨y, zr, hz⟩ : ∃ y zr, zs = y :: zr := by
          cases zs with
          | nil => have := I.out.2.1; simp at this; omega
          | cons y zr => exact ⟨y, zr, rfl⟩
        have BW : Hid (Blk wr g (itsCells ((xs.take j).filter (notKey key) ++ y :: (zr ++ xs.drop j)) ++ pad) 39) := by
          have := I.out.2.2.2.1
          rw [hz] at this
          exact this
        obtain ⟨_, _, he, _, hcy⟩ := IA.cell i y (by have h1 := I.out.1; rw [List.getElem?_append_right (by omega), hz, h1]; simp)
        cases he
        have cx := hide (del_any x key B (wr.alloc (.cells #[.string (txt x.key), .string (txt x.value), .int .u32 x.flags, .int .i64 x.exp, .int .u64 x.ver] 39)) (Lib.cell?_alloc_some _ hBw.out))
        have HY := hide hcy
        have HZ := hide hz
        unfold It.val itV at cx
        have HD : Hid (xs.drop j = x :: xs.drop (j + 1)) := by
          show _ = _
          obtain ⟨h1, h2⟩ := List.getElem?_eq_some_iff.1 HX.out
          rw [← h2]; exact List.drop_eq_getElem_cons h1
        have HT : Hid ((xs.take (j + 1)).filter (notKey key) = (xs.take j).filter (notKey key) ++ [x].filter (notKey key)) := by
          show _ = _
          rw [List.take_add_one, HX.out, List.filter_append]; rfl
        clear hc hx hxj IA hz hcy
        by_cases hk : x.key = key
        · rw [decide_eq_true hk] at cx
          have HF : Hid ([x].filter (notKey key) = []) := by show _ = _; simp [notKey, hk]
          clear hk
          go_wp2_with fail
          refine cx.out.mono ?_
          rintro e w2 ⟨rfl, h2⟩
          have B2 := hide h2
          clear h2 cx
          go_wp2
          go_roundg (n - (j + 1))
          case measure => omega
          case rel =>
            refine ⟨i, j + 1, rfl, rfl, by omega, by omega, by omega, zs ++ [x], ?_, ?_, ?_, ?_, ?_⟩
            · rw [HT.out, HF.out, List.append_nil]; exact I.out.1
            · have := I.out.2.1; simp; omega
            · intro z hz
              rcases List.mem_append.1 hz with h1 | h1
              · exact I.out.2.2.1 z h1
              · simp at h1; rw [h1]; exact List.mem_of_getElem? HX.out
            · have h1 := (I.out.2.2.2.1.alloc (.cells #[.string (txt x.key), .string (txt x.value), .int .u32 x.flags, .int .i64 x.exp, .int .u64 x.ver] 39)).same (B2.out.block g (by simp; omega))
              rw [HT.out, HF.out, List.append_nil, List.append_assoc]
              show Blk w2 g (itsCells ((xs.take j).filter (notKey key) ++ (zs ++ (x :: xs.drop (j + 1)))) ++ pad) 39
              rw [← HD.out]; exact h1
            · exact (I.out.2.2.2.2.alloc _).trans (Keep.of_below (F := []) B2.out) (by simp)
        · rw [decide_eq_false hk] at cx
          have HF : Hid ([x].filter (notKey key) = [x]) := by show _ = _; simp [notKey, hk]
          clear hk
          go_wp2_with fail
          refine cx.out.mono ?_
          rintro e w2 ⟨rfl, h2⟩
          have B2 := hide h2
          clear h2 cx
          have bx := (Blk.new wr [.string (txt x.key), .string (txt x.value), .int .u32 x.flags, .int .i64 x.exp, .int .u64 x.ver] 39).same (B2.out.block wr.heap.size (by simp))
          have d0 := bx.cell (i := 0) rfl
          have d1 := bx.cell (i := 1) rfl
          have d2 := bx.cell (i := 2) rfl
          have d3 := bx.cell (i := 3) rfl
          have d4 := bx.cell (i := 4) rfl
          have G2 := hide ((BW.out.alloc (.cells #[.string (txt x.key), .string (txt x.value), .int .u32 x.flags, .int .i64 x.exp, .int .u64 x.ver] 39)).same (B2.out.block g (by simp; omega)))
          have IA2 := its_blk (n := n) G2.out (by rw [← hL.out, HZ.out]; rfl) (fun z hz => by
            have hz' : z ∈ (xs.take j).filter (notKey key) ++ (zs ++ xs.drop j) := by rw [HZ.out]; exact hz
            rcases List.mem_append.1 hz' with h1 | h1
            · exact HS.out z (List.mem_of_mem_take (List.mem_filter.1 h1).1)
            · rcases List.mem_append.1 h1 with h2 | h2
              · exact HS.out z (I.out.2.2.1 z h2)
              · exact HS.out z (List.mem_of_mem_drop h2))
          obtain ⟨_, _, he, _, hcy⟩ := IA2.cell i y (by have h1 := I.out.1; rw [List.getElem?_append_right (by omega), h1]; simp)
          cases he
          obtain ⟨e0, e1, e2, e3, e4⟩ := hcy.vals
          rw [Nat.zero_add] at e0 e1 e2 e3 e4
          have z0 := G2.out.frozen (i * 5)
          have z1 := G2.out.frozen (i * 5 + 1)
          have z2 := G2.out.frozen (i * 5 + 2)
          have z3 := G2.out.frozen (i * 5 + 3)
          have z4 := G2.out.frozen (i * 5 + 4)
          have hin : (i : Int) < (n : Int) := by omega
          have hg2 : g < w2.heap.size := G2.out.lt
          clear bx IA2 hcy
          go_wp2
          go_roundg (n - (j + 1))
          case measure => omega
          case rel =>
            refine ⟨i + 1, j + 1, rfl, rfl, by omega, by omega, by omega, zr ++ [x], ?_, ?_, ?_, ?_, ?_⟩
            · rw [HT.out, HF.out, List.length_append, ← I.out.1]; rfl
            · have := I.out.2.1; rw [HZ.out] at this; simp at this ⊢; omega
            · intro z hz
              rcases List.mem_append.1 hz with h1 | h1
              · exact I.out.2.2.1 z (by rw [HZ.out]; simp [h1])
              · simp at h1; rw [h1]; exact List.mem_of_getElem? HX.out
            · have h1 := its_set G2.out x i I.out.1
              rw [HT.out, HF.out]
              have e9 : List.filter (notKey key) (xs.take j) ++ [x] ++ (zr ++ [x] ++ xs.drop (j + 1)) = List.filter (notKey key) (xs.take j) ++ x :: (zr ++ xs.drop j) := by rw [HD.out]; simp
              rw [e9]
              exact h1
            · have k1 := (I.out.2.2.2.2.alloc (.cells #[.string (txt x.key), .string (txt x.value), .int .u32 x.flags, .int .i64 x.exp, .int .u64 x.ver] 39)).trans (Keep.of_below (F := []) B2.out) (by simp)
              exact ((((k1.setCell (.inl (by simp)) _).setCell (.inl (by simp)) _).setCell (.inl (by simp)) _).setCell (.inl (by simp)) _).setCell (.inl (by simp)) _
      · obtain rfl : j = n := by omega
        have hlt2 : ¬ (j : Int) < (j : Int) := by omega
        have hT : xs.take j = xs := by rw [HN.out, List.take_length]
        have hDr : xs.drop j = [] := by rw [HN.out, List.drop_length]
        have I' := I.out
        rw [hT, hDr, List.append_nil] at I'
        have II := hide I'
        have hzl : (itsCells zs).length = (j - i) * 5 := by rw [itsCells_length, II.out.2.1]
        have e0 : itsCells (xs.filter (notKey key) ++ zs) ++ pad = itsCells (xs.filter (notKey key)) ++ itsCells zs ++ pad := by simp [itsCells]
        have BK := II.out.2.2.2.1
        rw [e0] at BK
        have hfl : (itsCells (xs.filter (notKey key))).length = i * 5 := by rw [itsCells_length, ← II.out.1]
        obtain ⟨L, hL, hcl⟩ := run_clear_its wr g (i * 5) (j - i) (cap - i) (by omega) (fun t ht => by
          rw [BK.cell (v := (itsCells (xs.filter (notKey key)) ++ itsCells zs ++ pad)[i * 5 + t]'(by rw [List.length_append, List.length_append, hfl, hzl]; omega)) (List.getElem?_eq_getElem _)]; rfl) (fun t _ => BK.frozen _) 0
        have S2 := hide (Blk.sets L (itsCells (xs.filter (notKey key))) (itsCells zs) pad wr (by rw [hzl, hL]) BK)
        rw [hfl] at S2
        have HL := hide hL
        have K2 := hide (II.out.2.2.2.2.setCells (b := g) (.inl (by simp)) (i * 5) L)
        have hgw : g < wr.heap.size := BK.lt
        have HH := hide (And.intro hzl (And.intro hfl e0))
        clear BK hL I' hT hDr hzl hfl e0
        go_wp2
        go_ret
        refine ⟨congrArg (fun m => Ending.returned (.slice (some ⟨g, 0, none⟩) m cap)) II.out.1, L ++ pad, ?_, ?_, K2.out⟩
        · rw [← List.append_assoc]; exact S2.out
        · have h1 := HH.out.2.1; have h2 := HL.out; have h3 := HN.out
          rw [List.length_append, itsCells_length xs, ← h3, h2, h1]
          omega
end Go.Proofs.YtbccnfbombgdmaaGreat
