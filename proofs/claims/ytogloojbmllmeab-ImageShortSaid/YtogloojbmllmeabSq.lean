/- Two pages laid one behind the other: what Load tells of them. -/
import Derived.Test.YtogloojbmllmeabLq
import Derived.Deep.AppendLies
import Derived.Deep.RegionHeld3
set_option linter.unusedVariables false
set_option linter.unusedSimpArgs false
set_option maxRecDepth 8000
namespace Go.Proofs.Ytogloojbmllmeab
open Go.RowKit Go.Deep Math

theorem blk_bs {w : World} {g : Nat} {l : List UInt8} (hb : Blk w g (bCells l) 5) (hl : l.length = 384) : BS w (some ⟨g, 0, none⟩) 384 384 l := by
  have hb2 : Buf w g l 0 := by unfold Buf; rw [show zc 0 = [] from rfl, List.append_nil]; exact hb
  exact BS.mk' hl.symm (Nat.le_refl _) (by have := hb2.reads 0; rwa [List.drop_zero] at this)
theorem poke {w0 w : World} {d g : Nat} {F : List Nat} {S : Dv} {l : List UInt8} (L : Lw w0 w d F S) (hb : Blk w g (bCells l) 5) (hg : g ∉ F) (h0 : w0.heap.size ≤ g) (i : Nat) (v : UInt8) :
    Lw w0 (w.setCell ⟨g, i, none⟩ (.int .u8 (v.toNat : Int))) d F S ∧ Blk (w.setCell ⟨g, i, none⟩ (.int .u8 (v.toNat : Int))) g (bCells (l.set i v)) 5 := by
  have K : Keep [g] w (w.setCell ⟨g, i, none⟩ (.int .u8 (v.toNat : Int))) := (Keep.refl [g] w).setCell (.inl (by simp)) _
  refine ⟨⟨L.dev.same (fun k hk => blk_setCell_other _ _ _ _ (fun e => hg (by rw [← show k = g from e]; exact hk))), L.bel.trans (K.below (fun k hk => ?_) L.bel.size), L.new⟩, ?_⟩
  · simp only [List.mem_singleton] at hk
    omega
  · have := hb.set i (.int .u8 (v.toNat : Int))
    have e : (bCells l).set i (.int .u8 (v.toNat : Int)) = bCells (l.set i v) := by simp [bCells, List.map_set]
    rwa [e] at this
theorem bget (l : List UInt8) (i : Nat) (hl : l.length = 384) (hi : i < 384) : (bCells l)[i]? = some (.int .u8 ((l.getD i 0).toNat : Int)) := by
  simp [bCells, List.getD_eq_getElem?_getD, List.getElem?_eq_getElem (show i < l.length by omega)]

theorem partI_whole (c : List UInt8) (h : c.length ≤ 376) : partI c 0 = c := by
  unfold partI
  rw [Nat.mul_zero, List.drop_zero, List.take_of_length_le h]
theorem page_one (n : Nat) (R : List UInt8) : ([73, 77] ++ (low n 2 ++ (low 0 4 ++ R))).set 4 1 = [73, 77] ++ (low n 2 ++ (low 1 4 ++ R)) := by
  have e0 : low 0 4 = [0, 0, 0, 0] := by decide
  have e1 : low 1 4 = [1, 0, 0, 0] := by decide
  rw [e0, e1]
  rfl
/-- What stands: page 0 of an image, and behind it a page of another that bears place 1 now. -/
structure Both (S : Dv) (c1 c2 : List UInt8) : Prop where
  off : S.off = false
  in_ : 2 ≤ S.cs.length
  p0 : S.part ((0 : Nat) : Int) 0 = some c1
  p1 : S.part ((1 : Nat) : Int) 1 = some c2
theorem Both.short {S : Dv} {c1 c2 : List UInt8} (h : Both S c1 c2) (hl : c1.length < 376) : S.loadErr ((0 : Nat) : Int) ((2 : Nat) : Int) = 3 ∧ S.loadIts ((0 : Nat) : Int) ((2 : Nat) : Int) = [] := by
  have hj : S.joined 0 2 2 = none := by
    have h1 : S.joined 0 2 1 = none := by
      rw [Dv.joined, Dv.joined]
      simp only
      rw [show ((0 + 0 : Nat) : Int) = ((0 : Nat) : Int) from rfl, h.p0]
      simp only
      rw [if_pos (by omega)]
    rw [Dv.joined, h1]
  refine ⟨?_, ?_⟩
  · unfold Dv.loadErr
    rw [if_neg (by rw [withinB_nat h.in_]; simp), if_neg (by rw [h.off]; simp), Int.toNat_natCast, Int.toNat_natCast, hj]
  · unfold Dv.loadIts
    rw [if_neg (by rw [withinB_nat h.in_]; simp), if_neg (by rw [h.off]; simp), Int.toNat_natCast, Int.toNat_natCast, hj]
theorem Both.whole {S : Dv} {c1 c2 : List UInt8} (h : Both S c1 c2) (hl : ¬ c1.length < 376) (ys : List It) (hc : c1 ++ c2 = encs ys) (hy : ∀ x ∈ ys, x.fits ∧ x.good = true) : S.loadErr ((0 : Nat) : Int) ((2 : Nat) : Int) = 0 ∧ S.loadIts ((0 : Nat) : Int) ((2 : Nat) : Int) = ys := by
  have hj : S.joined 0 2 2 = some (c1 ++ c2) := by
    have h1 : S.joined 0 2 1 = some c1 := by
      rw [Dv.joined, Dv.joined]
      simp only
      rw [show ((0 + 0 : Nat) : Int) = ((0 : Nat) : Int) from rfl, h.p0]
      simp only
      rw [if_neg (by omega), List.nil_append]
    rw [Dv.joined, h1]
    simp only
    rw [show ((0 + 1 : Nat) : Int) = ((1 : Nat) : Int) from rfl, h.p1]
    simp only
    rw [if_neg (by omega)]
  have hl2 : lsi (c1 ++ c2) = some ys := by rw [hc]; exact lsi_encs ys hy
  refine ⟨?_, ?_⟩
  · unfold Dv.loadErr
    rw [if_neg (by rw [withinB_nat h.in_]; simp), if_neg (by rw [h.off]; simp), Int.toNat_natCast, Int.toNat_natCast, hj]
    simp only
    rw [hl2]
  · unfold Dv.loadIts
    rw [if_neg (by rw [withinB_nat h.in_]; simp), if_neg (by rw [h.off]; simp), Int.toNat_natCast, Int.toNat_natCast, hj]
    simp only
    rw [hl2]
    rfl
/-- Page 0 stands, page 1 is written. -/
theorem both_of {S : Dv} {n : Nat} (hC : Calm S n) (hn : 2 ≤ n) (c1 c2 : List UInt8) (h1 : c1.length ≤ 376) (h2 : c2.length ≤ 376) (hp : S.pg 0 = some (.whole ⟨(pageI 0 c1).toArray⟩)) (l : List UInt8) (hl : l.length = 384) (hi : imP l 1 = some c2) : Both (S.writeDo ((1 : Nat) : Int) ⟨l.toArray⟩) c1 c2 := by
  have hkl : 1 < S.cs.length := by rw [hC.len]; omega
  have hsz : (⟨l.toArray⟩ : ByteArray).size = 384 := by show l.toArray.size = 384; rw [List.size_toArray, hl]
  rcases write_step S hC.off 1 hkl ⟨l.toArray⟩ (by omega) with ⟨_, e1, e2, _⟩ | ⟨_, h⟩
  · refine ⟨e2, by rw [e1, putAt_length, hC.len]; exact hn, ?_, ?_⟩
    · refine part_page e2 h1 (by omega) ?_
      unfold Dv.pg at hp ⊢
      rw [e1, putAt_get, if_neg (by omega)]
      exact hp
    · rw [part_read (b := ⟨l.toArray⟩) e2 (by unfold Dv.pg; rw [e1, putAt_get, if_pos ⟨rfl, hkl⟩]), full_data, hsz]
      simpa using hi
  · exact absurd hC.armed h
theorem sum_wrap (tot k v s : Nat) (hk : k ≤ 250) (hv : v ≤ 1024) (ht : tot ≤ 10448) (hs : s = 32 + k + v) : IntKind.i64.wrap (IntKind.i64.wrap (IntKind.i64.wrap ((tot : Int) + 32) + (k : Int)) + (v : Int)) = ((tot + s : Nat) : Int) := by
  have e : ∀ z : Int, 0 ≤ z → z ≤ 20000 → IntKind.i64.wrap z = z := by
    intro z h1 h2
    rw [IntKind.wrap_i64]
    omega
  rw [e ((tot : Int) + 32) (by omega) (by omega), e ((tot : Int) + 32 + (k : Int)) (by omega) (by omega), e _ (by omega) (by omega)]
  omega
theorem step_append_g {P : Program} {w : World} {ops : Array Oper} {o : Oper} {a : Act} {K : Act → World → Prop} {Q : Exit → Act → World → Prop} {E : Prop} (hw : Region.wanted o (yielded ops a.tmps) = true) (s x : Operand) (t : TypeId)
    (ho : o.op = .call { callee := .builtin .append, args := #[s, x], argTypes := #[t, t] })
    (base : Nat) (e : TypeId) (i : TypeInfo) (z : Value) (size bytes : Nat) (ht : P.underlying t = some (.slice e)) (hi : P.info? e = some i) (hz : i.zero = some z)
    (hsize : i.size = size) (hby : i.bytes = bytes) (hzs : z.cells.size = size) (hsz : 0 < size)
    (v : Value) (n : Nat) (xs : List Value) (hs : a.eval s = v) (hown : w.ownsRow base e size v n xs)
    (ad : Addr) (m c : Nat) (news : List Value) (hx : a.eval x = .slice (some ad) m c) (hl : news.length = m * size) (hnews : ∀ j u, news[j]? = some u → w.cell? (ad.add j) = some u) (h1 : ∀ u ∈ news, u.oneCell' = true)
    (hm : 0 < m) (h63 : n + m ≤ maxLen) (hbytes : (n + m) * bytes ≤ 140737488355328) (hbase : base ≤ w.heap.size)
    (h : ∀ g cap w', w'.ownsRow base e size (.slice (some ⟨g, 0, none⟩) (n + m) cap) (n + m) (xs ++ news) → w.grownBy w' v.ownBlock → g < w'.heap.size → K (a.put o.dst (.slice (some ⟨g, 0, none⟩) (n + m) cap)) w') :
    if Region.wanted o (yielded ops a.tmps) = true then Oper.wp P o a w K Q else E := by
  rw [if_pos hw]
  exact wp_append_lies w s x t ho base e i z size bytes ht hi hz hsize hby hzs hsz v n xs hs hown ad m c news hx hl hnews h1 hm h63 hbytes hbase _ rfl (fun g cap w' h2 h3 _ h5 => h g cap w' h2 h3 h5)
end Go.Proofs.Ytogloojbmllmeab
