/- Joined texts. -/
import Derived.Test.YtcdghalnneilpaaGreatK24
set_option linter.unusedVariables false
set_option linter.unusedSimpArgs false
set_option maxRecDepth 8000
set_option maxHeartbeats 8000000
namespace Go.Proofs.YtcdghalnneilpaaGreat
open Go.RowKit Go.Deep Math
def Lg.hasIt (T : Lg) (k : List UInt8) (o : Option It) : Prop := (T.has k = none /\ o = none) \/ ∃ t ∈ T.all, T.has k = some t.pos /\ t.it.key = k /\ o = some t.it
theorem getV_is (o : Option It) : getV o = .tuple #[itV (txt (o.getD It.zero).key) (txt (o.getD It.zero).value) (o.getD It.zero).flags (o.getD It.zero).exp (o.getD It.zero).ver, .int .i64 (if o.isSome then 0 else 5)] := by
 cases o <;> simp [getV, itV, It.zero, txt]
theorem lget_any {w : World} {l d m : Nat} {v5 v6 v7 : Value} {T : Lg} (h : LgIn w l d m v5 v6 v7 T) (k : List UInt8) (hk : k.length <= 140737488351232) {o : Option It} (ho : T.hasIt k o) :
  Calls Tryz.prog 113 #[.pointer (some ⟨l, 0, none⟩), .string (txt k)] w fun e w' => e = .returned (getV o) /\ Below w.heap.size w w' := by
 rcases ho with ⟨h1, rfl⟩ | ⟨t, ht, h1, h2, rfl⟩
 ·refine (get_none h k hk h1).mono ?_
  rintro e w' ⟨rfl, hb⟩
  exact ⟨by simp [getV, It.val, It.zero, itV, txt], hb⟩
 ·refine (get_some h k hk t (h.ths t ht) h1).mono ?_
  rintro e w' ⟨rfl, hb⟩
  exact ⟨rfl, hb⟩
structure EnAt (w0 W : World) (x d : Nat) (E : En) (j m nj : Nat) (J : Jr) (s first n : Nat) (S : Dv) (f : Nat -> List It) (bs : List (List Bool)) (G : List Nat) (l ml : Nat) (v5 v6 v7 : Value) (T : Lg) : Prop where
 box : Blk W x (enL d E (.pointer (some ⟨j, 0, none⟩)) (.pointer (some ⟨s, 0, none⟩)) (.pointer (some ⟨l, 0, none⟩)) (.map none)) 104
 jr : JrAt W j d m nj J
 bu : Bu w0 W d s first n S f bs G
 lg : LgIn W l d ml v5 v6 v7 T
 xG : x ∉ G
 jG : j ∉ G
 mG : m ∉ G
 lG : ∀ q ∈ lblocks l ml v5 v6 v7 T, q ∉ G
 low : ∀ q, (q = x \/ q = j \/ q = m \/ q ∈ lblocks l ml v5 v6 v7 T) -> w0.heap.size <= q
 xL : x ∉ lblocks l ml v5 v6 v7 T
 jL : j ∉ lblocks l ml v5 v6 v7 T
 mL : m ∉ lblocks l ml v5 v6 v7 T
 xm : x ≠ m
section
variable {w0 w w' : World} {x d : Nat} {E : En} {j m nj : Nat} {J : Jr} {s first n : Nat} {S S' : Dv} {f : Nat -> List It} {bs : List (List Bool)} {G : List Nat} {l ml : Nat} {v5 v6 v7 : Value} {T : Lg}
theorem EnAt.below (h : EnAt w0 w x d E j m nj J s first n S f bs G l ml v5 v6 v7 T) (b : Below w.heap.size w w') : EnAt w0 w' x d E j m nj J s first n S f bs G l ml v5 v6 v7 T :=
 ⟨h.box.same (b.block _ h.box.lt), h.jr.below b, h.bu.below b, h.lg.below b, h.xG, h.jG, h.mG, h.lG, h.low, h.xL, h.jL, h.mL, h.xm⟩
theorem EnAt.read (h : EnAt w0 w x d E j m nj J s first n S f bs G l ml v5 v6 v7 T) (hb : Bu w0 w' d s first n S' f bs G) (k : Moves G G w w') : EnAt w0 w' x d E j m nj J s first n S' f bs G l ml v5 v6 v7 T :=
 ⟨h.box.same (k.keep.block _ h.box.lt h.xG), h.jr.keep k.keep h.jG h.mG, hb, h.lg.same (fun q hq => k.keep.block q (h.lg.lt q hq) (h.lG q hq)), h.xG, h.jG, h.mG, h.lG, h.low, h.xL, h.jL, h.mL, h.xm⟩
def fndI (y z : It) : It := if y.ver < z.ver then z else y
def En.fnd (E : En) (J : Jr) (y z : It) : Value := if E.counts J (fndI y z) = true then .tuple #[(fndI y z).val, .bool (decide (y.ver < z.ver)), .int .i64 0] else .tuple #[It.zero.val, .bool false, .int .i64 5]
theorem zero_counts (E : En) (J : Jr) : E.counts J It.zero = false := by
 unfold En.counts
 have : ¬ E.b.hor < It.zero.ver := Nat.not_lt_zero _
 simp [this]
def put5 (w : World) (g : Nat) (y : It) : World := ((((w.setCell ⟨g, 0, none⟩ (.string (txt y.key))).setCell ⟨g, 1, none⟩ (.string (txt y.value))).setCell ⟨g, 2, none⟩ (.int .u32 y.flags)).setCell ⟨g, 3, none⟩ (.int .i64 y.exp)).setCell ⟨g, 4, none⟩ (.int .u64 y.ver)
def itL (y : It) : List Value := [.string (txt y.key), .string (txt y.value), .int .u32 y.flags, .int .i64 y.exp, .int .u64 y.ver]
theorem put5_keep {F : List Nat} {a w : World} {g : Nat} (h : Keep F a w) (hg : g ∈ F \/ a.heap.size <= g) (y : It) : Keep F a (put5 w g y) :=
 ((((h.setCell hg _).setCell hg _).setCell hg _).setCell hg _).setCell hg _
theorem put5_blk {w : World} {g : Nat} {x : It} (h : Blk w g (itL x) 39) (y : It) : Blk (put5 w g y) g (itL y) 39 :=
 ((((h.set 0 _).set 1 _).set 2 _).set 3 _).set 4 _
theorem cells5 {w : World} {g : Nat} {y : It} (h : Blk w g (itL y) 39) :
  w.cell? ⟨g, 0, none⟩ = some (.string (txt y.key)) /\ w.cell? ⟨g, 1, none⟩ = some (.string (txt y.value)) /\ w.cell? ⟨g, 2, none⟩ = some (.int .u32 y.flags) /\ w.cell? ⟨g, 3, none⟩ = some (.int .i64 y.exp) /\ w.cell? ⟨g, 4, none⟩ = some (.int .u64 y.ver) /\
  w.frozen? ⟨g, 0, none⟩ = false /\ w.frozen? ⟨g, 1, none⟩ = false /\ w.frozen? ⟨g, 2, none⟩ = false /\ w.frozen? ⟨g, 3, none⟩ = false /\ w.frozen? ⟨g, 4, none⟩ = false :=
 ⟨h.cell rfl, h.cell rfl, h.cell rfl, h.cell rfl, h.cell rfl, h.frozen 0, h.frozen 1, h.frozen 2, h.frozen 3, h.frozen 4⟩
theorem put5_below {a w : World} {B g : Nat} (h : Below B a w) (hg : B <= g) (hB : B <= w.heap.size) (y : It) : Below B a (put5 w g y) := h.trans ((put5_keep (Keep.refl [g] w) (.inl (List.mem_singleton.2 rfl)) y).below (fun k hk => by rw [List.mem_singleton.1 hk]; exact hg) hB)
theorem EnAt.lt (h : EnAt w0 w x d E j m nj J s first n S f bs G l ml v5 v6 v7 T) : ∀ q, (q = x \/ q = j \/ q = m \/ q ∈ G \/ q ∈ lblocks l ml v5 v6 v7 T) -> q < w.heap.size := fun q hq => by
 rcases hq with rfl | rfl | rfl | hq | hq
 ·exact h.box.lt
 ·exact h.jr.blk.lt
 ·exact h.jr.mlt
 ·exact (h.bu.lt q hq).1
 ·exact h.lg.lt q hq
theorem EnAt.off (h : EnAt w0 w x d E j m nj J s first n S f bs G l ml v5 v6 v7 T) {N : Nat} (k : Keep [N] w w') (hN : ∀ q, (q = x \/ q = j \/ q = m \/ q ∈ G \/ q ∈ lblocks l ml v5 v6 v7 T) -> q ≠ N) (h0 : w0.heap.size <= N) : EnAt w0 w' x d E j m nj J s first n S f bs G l ml v5 v6 v7 T :=
 ⟨h.box.same (k.block _ h.box.lt (by simpa using hN x (.inl rfl))), h.jr.keep k (by simpa using hN j (.inr (.inl rfl))) (by simpa using hN m (.inr (.inr (.inl rfl)))), h.bu.keep k (fun q hq => by
  rw [List.mem_singleton.1 hq]
  exact ⟨fun hg => hN N (.inr (.inr (.inr (.inl hg)))) rfl, h0⟩), h.lg.same (fun q hq => k.block q (h.lg.lt q hq) (by simpa using hN q (.inr (.inr (.inr (.inr hq)))))), h.xG, h.jG, h.mG, h.lG, h.low, h.xL, h.jL, h.mL, h.xm⟩
theorem find_any (h : EnAt w0 w x d E j m nj J s first n S f bs G l ml v5 v6 v7 T) (key : List UInt8) (hk : key.length <= maxLen) (hk2 : key.length <= 140737488351232) (sm gr : Option It) (hsm : (f (bkt key n)).find? (isKey key) = sm) (hgr : T.hasIt key gr) (hy : (sm.getD It.zero).key.length <= maxLen) (hz : (gr.getD It.zero).key.length <= maxLen) :
  Calls Tryz.prog 54 #[.pointer (some ⟨x, 0, none⟩), .string (txt key)] w fun e w' => e = .returned (E.fnd J (sm.getD It.zero) (gr.getD It.zero)) /\ ∃ S', EnAt w0 w' x d E j m nj J s first n S' f bs G l ml v5 v6 v7 T /\ LikeB S S' /\ Moves G G w w' := by
 have BA := (Below.refl w.heap.size w).alloc (Nat.le_refl _) (.cells #[.string ⟨#[]⟩, .string ⟨#[]⟩, .int .u32 0, .int .i64 0, .int .u64 0] 39)
 have hA := h.below BA
 have c11 := hA.box.cell (i := 11) rfl
 have cG := bu_get hA.bu key hk
 rw [hsm, getV_is] at cG
 have CG := hide cG
 have HA := hide hA
 have HBA := hide BA
 have HK := hide hk2
 have HKM := hide hk
 have HGR := hide hgr
 have HY := hide hy
 have HZ := hide hz
 have hN0 : Hid (Blk (w.alloc (.cells #[.string ⟨#[]⟩, .string ⟨#[]⟩, .int .u32 0, .int .i64 0, .int .u64 0] 39)) w.heap.size [.string ⟨#[]⟩, .string ⟨#[]⟩, .int .u32 0, .int .i64 0, .int .u64 0] 39) := Blk.new w _ 39
 have hNG : Hid (w.heap.size ∉ G) := fun hq => by have := (h.bu.lt _ hq).1; omega
 have HLT := hide h.lt
 have HW0 : Hid (w0.heap.size <= w.heap.size) := h.bu.bel.size
 clear h BA hA cG hk2 hk hsm hgr hy hz
 generalize hsy : sm.getD It.zero = y at *
 generalize hgz : gr.getD It.zero = z at *
 generalize hse : (if sm.isSome = true then (0 : Int) else 5) = e1 at *
 have he1 : e1 = 0 \/ e1 = 5 := by rw [<- hse]; split <;> simp
 have HGZ := hide hgz
 clear hsy hse hgz
 unfold itV at CG
 go_enter Tryz.func54, Tryz.ntmps54
 go_wp2_with fail
 refine CG.out.mono ?_
 rintro r w1 ⟨rfl, S1, hB1, hlk1, hm1⟩
 have h1 := HA.out.read hB1 hm1
 have hszA : w.heap.size < w1.heap.size := by
  have h2 := hm1.keep.size
  rw [nblk_alloc] at h2
  omega
 have hN1 : Blk w1 w.heap.size (itL It.zero) 39 := hN0.out.same (hm1.keep.block _ (by rw [nblk_alloc]; omega) hNG.out)
 have hM1 : Moves G G w w1 := (Moves.of_keep (Keep.of_below HBA.out)).trans hm1
 have H1 := hide h1
 have HN1 := hide hN1
 have HM1 := hide hM1
 have HS1 := hide hszA
 have HLK := hide hlk1
 have B3 : Below w1.heap.size w1 ((w1.alloc (.cells #[.string (txt y.key), .string (txt y.value), .int .u32 y.flags, .int .i64 y.exp, .int .u64 y.ver] 39)).alloc (.cells #[.string (txt y.key), .string (txt y.value), .int .u32 y.flags, .int .i64 y.exp, .int .u64 y.ver] 39)) := ((Below.refl _ _).alloc (Nat.le_refl _) _).alloc (by rw [nblk_alloc]; omega) _
 have h3 := h1.below B3
 have c12 := h3.box.cell (i := 12) rfl
 have cL := lget_any h3.lg key HK.out HGR.out
 rw [getV_is, HGZ.out] at cL
 unfold itV at cL
 have CL := hide cL
 have HB3 := hide B3
 have hsz3 : ((w1.alloc (.cells #[.string (txt y.key), .string (txt y.value), .int .u32 y.flags, .int .i64 y.exp, .int .u64 y.ver] 39)).alloc (.cells #[.string (txt y.key), .string (txt y.value), .int .u32 y.flags, .int .i64 y.exp, .int .u64 y.ver] 39)).heap.size = w1.heap.size + 2 := by rw [nblk_alloc, nblk_alloc]
 have HZ3 := hide hsz3
 have HY1 : Hid (Blk ((w1.alloc (.cells #[.string (txt y.key), .string (txt y.value), .int .u32 y.flags, .int .i64 y.exp, .int .u64 y.ver] 39)).alloc (.cells #[.string (txt y.key), .string (txt y.value), .int .u32 y.flags, .int .i64 y.exp, .int .u64 y.ver] 39)) w1.heap.size (itL y) 39) := (Blk.new w1 (itL y) 39).same (blk_alloc_lt _ _ _ (by rw [nblk_alloc]; omega))
 have HY2 : Hid (Blk ((w1.alloc (.cells #[.string (txt y.key), .string (txt y.value), .int .u32 y.flags, .int .i64 y.exp, .int .u64 y.ver] 39)).alloc (.cells #[.string (txt y.key), .string (txt y.value), .int .u32 y.flags, .int .i64 y.exp, .int .u64 y.ver] 39)) (w1.heap.size + 1) (itL y) 39) := by
  have := Blk.new (w1.alloc (.cells #[.string (txt y.key), .string (txt y.value), .int .u32 y.flags, .int .i64 y.exp, .int .u64 y.ver] 39)) (itL y) 39
  rw [nblk_alloc] at this
  exact this
 clear h1 hN1 hM1 hszA hlk1 B3 h3 cL hsz3 hB1 hm1 HA HBA hN0 hNG CG c11 HGR HGZ
 generalize hge : (if gr.isSome = true then (0 : Int) else 5) = e2 at *
 clear hge
 obtain ⟨N0, hN0e⟩ : ∃ N0, w.heap.size = N0 := ⟨_, rfl⟩
 rcases he1 with rfl | rfl
 ·simp only [hN0e]
  go_wp2_with fail
  refine CL.out.mono ?_
  rintro r w4 ⟨rfl, b4⟩
  have hs4 := b4.size
  rw [HZ3.out] at hs4
  have hb4 : Below w1.heap.size w1 w4 := HB3.out.trans (b4.mono (by rw [HZ3.out]; omega))
  have hy4 : Blk w4 w1.heap.size (itL y) 39 := HY1.out.same (b4.block _ (by rw [HZ3.out]; omega))
  have hy5 : Blk w4 (w1.heap.size + 1) (itL y) 39 := HY2.out.same (b4.block _ (by rw [HZ3.out]; omega))
  have hyA : Blk (w4.alloc (.cells #[.string (txt z.key), .string (txt z.value), .int .u32 z.flags, .int .i64 z.exp, .int .u64 z.ver] 39)) w1.heap.size (itL y) 39 := hy4.same (blk_alloc_lt _ _ _ hy4.lt)
  have hyB : Blk (w4.alloc (.cells #[.string (txt z.key), .string (txt z.value), .int .u32 z.flags, .int .i64 z.exp, .int .u64 z.ver] 39)) (w1.heap.size + 1) (itL y) 39 := hy5.same (blk_alloc_lt _ _ _ hy5.lt)
  have hb5 : Below w1.heap.size w1 (w4.alloc (.cells #[.string (txt z.key), .string (txt z.value), .int .u32 z.flags, .int .i64 z.exp, .int .u64 z.ver] 39)) := hb4.alloc (by omega) _
  have cA := hyA.cell (i := 4) rfl
  obtain ⟨p0, p1, p2, p3, p4, q0, q1, q2, q3, q4⟩ := cells5 hyB
  have HYB := hide hyB
  have HB5 := hide hb5
  have hN12 : Hid (w1.heap.size <= w1.heap.size + 1) := Nat.le_succ _
  clear CL HB3 HZ3 HY1 HY2 b4 hs4 hb4 hy4 hy5 hyA hyB hb5 c12
  have HS1' : Hid (N0 < w1.heap.size) := by rw [<- hN0e]; exact HS1.out
  by_cases hv : y.ver < z.ver
  ·have e5 : ((y.ver : Int) < (z.ver : Int)) = True := eq_true (by omega)
   go_wp2_with fail
   have B6 : Below w1.heap.size w1 (put5 (w4.alloc (.cells #[.string (txt z.key), .string (txt z.value), .int .u32 z.flags, .int .i64 z.exp, .int .u64 z.ver] 39)) (w1.heap.size + 1) z) := put5_below HB5.out hN12.out HB5.out.size z
   have h6 := H1.out.below B6
   refine (counts_any h6.box h6.jr z HZ.out).mono ?_
   rintro r w7 ⟨rfl, b7⟩
   have B7 : Below w1.heap.size w1 w7 := B6.trans (b7.mono B6.size)
   have hz6 := put5_blk HYB.out z
   have hr7 : Blk w7 (w1.heap.size + 1) (itL z) 39 := hz6.same (b7.block _ hz6.lt)
   clear b7 B6 h6 hz6 e5 cA p0 p1 p2 p3 p4 q0 q1 q2 q3 q4
   have hN7 : Blk w7 N0 (itL It.zero) 39 := by rw [<- hN0e]; exact HN1.out.same (B7.block _ HS1.out)
   have h7 := H1.out.below B7
   have H7 := hide h7
   have HLT7 : Hid (∀ q, (q = x \/ q = j \/ q = m \/ q ∈ G \/ q ∈ lblocks l ml v5 v6 v7 T) -> q ≠ N0) := fun q hq e => by have := HLT.out q hq; omega
   have HV7 := hide hN7
   have HM7 : Hid (Moves G G w w7) := HM1.out.trans (Moves.of_keep (Keep.of_below B7))
   have HB7 := hide B7
   have HR := hide hr7
   obtain ⟨a0, a1, a2, a3, a4, k0, k1, k2, k3, k4⟩ := cells5 hN7
   obtain ⟨r0, r1, r2, r3, r4, _⟩ := cells5 hr7
   have c13 := h7.box.cell (i := 13) rfl
   have hlk : (Instr.lookup 102 (.map none) (.string (txt key)) false).run Tryz.prog w7 = .ok (.agg #[.string ⟨#[]⟩, .string ⟨#[]⟩, .int .u32 0, .int .i64 0, .int .u64 0]) w7 := look_none key HKM.out false w7
   have cz : Hid (Calls Tryz.prog 114 #[.pointer (some ⟨x, 0, none⟩), .agg #[.string ⟨#[]⟩, .string ⟨#[]⟩, .int .u32 0, .int .i64 0, .int .u64 0]] w7 fun e w' => e = .returned (.bool false) /\ Below w7.heap.size w7 w') := by
    have := counts_any h7.box h7.jr It.zero (Nat.zero_le _)
    rw [zero_counts] at this
    exact this
   clear hN7 h7 hr7 B7
   cases hc : E.counts J z with
   | true =>
    have hfn : E.fnd J y z = .tuple #[.agg #[.string (txt z.key), .string (txt z.value), .int .u32 z.flags, .int .i64 z.exp, .int .u64 z.ver], .bool true, .int .i64 0] := by
     unfold En.fnd fndI
     rw [if_pos hv, if_pos hc, decide_eq_true hv]
     rfl
    have HFN := hide hfn
    clear hfn hc cz hlk c13 hv
    simp only [It.zero] at a0 a1 a2 a3 a4
    go_wp2
    refine bodyPost_ret (v := .tuple #[.agg #[.string (txt z.key), .string (txt z.value), .int .u32 z.flags, .int .i64 z.exp, .int .u64 z.ver], .bool true, .int .i64 0]) (by simp [results, Tryz.results54, go_sem, *]) rfl ⟨by rw [HFN.out], S1, ?_, HLK.out, ?_⟩
    ·exact H7.out.off (put5_keep (Keep.refl [N0] w7) (.inl (List.mem_singleton.2 rfl)) z) HLT7.out (by rw [<- hN0e]; exact HW0.out)
    ·exact ⟨put5_keep HM7.out.keep (.inr (by omega)) z, HM7.out.foot⟩
   | false =>
    have hfn : E.fnd J y z = .tuple #[.agg #[.string ⟨#[]⟩, .string ⟨#[]⟩, .int .u32 0, .int .i64 0, .int .u64 0], .bool false, .int .i64 5] := by
     unfold En.fnd fndI
     rw [if_pos hv, if_neg (by rw [hc]; decide)]
     rfl
    have HFN := hide hfn
    clear hfn hc hv a0 a1 a2 a3 a4 k0 k1 k2 k3 k4
    go_wp2_with fail
    refine cz.out.mono ?_
    rintro r w8 ⟨rfl, b8⟩
    have hN8 : Blk w8 N0 (itL It.zero) 39 := HV7.out.same (b8.block _ HV7.out.lt)
    obtain ⟨a0, a1, a2, a3, a4, k0, k1, k2, k3, k4⟩ := cells5 hN8
    simp only [It.zero] at a0 a1 a2 a3 a4
    have H8 := hide (H7.out.below b8)
    have HM8 : Hid (Moves G G w w8) := HM7.out.trans (Moves.of_keep (Keep.of_below b8))
    clear b8 hN8 cz hlk c13 r0 r1 r2 r3 r4
    go_wp2
    refine bodyPost_ret (v := .tuple #[.agg #[.string ⟨#[]⟩, .string ⟨#[]⟩, .int .u32 0, .int .i64 0, .int .u64 0], .bool false, .int .i64 5]) (by simp [results, Tryz.results54, go_sem, *]) rfl ⟨by rw [HFN.out], S1, ?_, HLK.out, ?_⟩
    ·exact H8.out.off (put5_keep (Keep.refl [N0] w8) (.inl (List.mem_singleton.2 rfl)) It.zero) HLT7.out (by rw [<- hN0e]; exact HW0.out)
    ·exact ⟨put5_keep HM8.out.keep (.inr (by omega)) It.zero, HM8.out.foot⟩
  ·have e5 : ((y.ver : Int) < (z.ver : Int)) = False := eq_false (by omega)
   go_wp2_with fail
   have h6 := H1.out.below HB5.out
   refine (counts_any h6.box h6.jr y HY.out).mono ?_
   rintro r w7 ⟨rfl, b7⟩
   have B7 : Below w1.heap.size w1 w7 := HB5.out.trans (b7.mono HB5.out.size)
   have hr7 : Blk w7 (w1.heap.size + 1) (itL y) 39 := HYB.out.same (b7.block _ HYB.out.lt)
   clear b7 h6 e5 cA p0 p1 p2 p3 p4 q0 q1 q2 q3 q4
   have hN7 : Blk w7 N0 (itL It.zero) 39 := by rw [<- hN0e]; exact HN1.out.same (B7.block _ HS1.out)
   have h7 := H1.out.below B7
   have H7 := hide h7
   have HLT7 : Hid (∀ q, (q = x \/ q = j \/ q = m \/ q ∈ G \/ q ∈ lblocks l ml v5 v6 v7 T) -> q ≠ N0) := fun q hq e => by have := HLT.out q hq; omega
   have HV7 := hide hN7
   have HM7 : Hid (Moves G G w w7) := HM1.out.trans (Moves.of_keep (Keep.of_below B7))
   have HB7 := hide B7
   have HR := hide hr7
   obtain ⟨a0, a1, a2, a3, a4, k0, k1, k2, k3, k4⟩ := cells5 hN7
   obtain ⟨r0, r1, r2, r3, r4, _⟩ := cells5 hr7
   have c13 := h7.box.cell (i := 13) rfl
   have hlk : (Instr.lookup 102 (.map none) (.string (txt key)) false).run Tryz.prog w7 = .ok (.agg #[.string ⟨#[]⟩, .string ⟨#[]⟩, .int .u32 0, .int .i64 0, .int .u64 0]) w7 := look_none key HKM.out false w7
   have cz : Hid (Calls Tryz.prog 114 #[.pointer (some ⟨x, 0, none⟩), .agg #[.string ⟨#[]⟩, .string ⟨#[]⟩, .int .u32 0, .int .i64 0, .int .u64 0]] w7 fun e w' => e = .returned (.bool false) /\ Below w7.heap.size w7 w') := by
    have := counts_any h7.box h7.jr It.zero (Nat.zero_le _)
    rw [zero_counts] at this
    exact this
   clear hN7 h7 hr7 B7
   cases hc : E.counts J y with
   | true =>
    have hfn : E.fnd J y z = .tuple #[.agg #[.string (txt y.key), .string (txt y.value), .int .u32 y.flags, .int .i64 y.exp, .int .u64 y.ver], .bool false, .int .i64 0] := by
     unfold En.fnd fndI
     rw [if_neg hv, if_pos hc, decide_eq_false hv]
     rfl
    have HFN := hide hfn
    clear hfn hc cz hlk c13 hv
    simp only [It.zero] at a0 a1 a2 a3 a4
    go_wp2
    refine bodyPost_ret (v := .tuple #[.agg #[.string (txt y.key), .string (txt y.value), .int .u32 y.flags, .int .i64 y.exp, .int .u64 y.ver], .bool false, .int .i64 0]) (by simp [results, Tryz.results54, go_sem, *]) rfl ⟨by rw [HFN.out], S1, ?_, HLK.out, ?_⟩
    ·exact H7.out.off (put5_keep (Keep.refl [N0] w7) (.inl (List.mem_singleton.2 rfl)) y) HLT7.out (by rw [<- hN0e]; exact HW0.out)
    ·exact ⟨put5_keep HM7.out.keep (.inr (by omega)) y, HM7.out.foot⟩
   | false =>
    have hfn : E.fnd J y z = .tuple #[.agg #[.string ⟨#[]⟩, .string ⟨#[]⟩, .int .u32 0, .int .i64 0, .int .u64 0], .bool false, .int .i64 5] := by
     unfold En.fnd fndI
     rw [if_neg hv, if_neg (by rw [hc]; decide)]
     rfl
    have HFN := hide hfn
    clear hfn hc hv a0 a1 a2 a3 a4 k0 k1 k2 k3 k4
    go_wp2_with fail
    refine cz.out.mono ?_
    rintro r w8 ⟨rfl, b8⟩
    have hN8 : Blk w8 N0 (itL It.zero) 39 := HV7.out.same (b8.block _ HV7.out.lt)
    obtain ⟨a0, a1, a2, a3, a4, k0, k1, k2, k3, k4⟩ := cells5 hN8
    simp only [It.zero] at a0 a1 a2 a3 a4
    have H8 := hide (H7.out.below b8)
    have HM8 : Hid (Moves G G w w8) := HM7.out.trans (Moves.of_keep (Keep.of_below b8))
    clear b8 hN8 cz hlk c13 r0 r1 r2 r3 r4
    go_wp2
    refine bodyPost_ret (v := .tuple #[.agg #[.string ⟨#[]⟩, .string ⟨#[]⟩, .int .u32 0, .int .i64 0, .int .u64 0], .bool false, .int .i64 5]) (by simp [results, Tryz.results54, go_sem, *]) rfl ⟨by rw [HFN.out], S1, ?_, HLK.out, ?_⟩
    ·exact H8.out.off (put5_keep (Keep.refl [N0] w8) (.inl (List.mem_singleton.2 rfl)) It.zero) HLT7.out (by rw [<- hN0e]; exact HW0.out)
    ·exact ⟨put5_keep HM8.out.keep (.inr (by omega)) It.zero, HM8.out.foot⟩
 ·simp only [hN0e]
  go_wp2_with fail
  refine CL.out.mono ?_
  rintro r w4 ⟨rfl, b4⟩
  have hs4 := b4.size
  rw [HZ3.out] at hs4
  have hb4 : Below w1.heap.size w1 w4 := HB3.out.trans (b4.mono (by rw [HZ3.out]; omega))
  have hy4 : Blk w4 w1.heap.size (itL y) 39 := HY1.out.same (b4.block _ (by rw [HZ3.out]; omega))
  have hy5 : Blk w4 (w1.heap.size + 1) (itL y) 39 := HY2.out.same (b4.block _ (by rw [HZ3.out]; omega))
  have hyA : Blk (w4.alloc (.cells #[.string (txt z.key), .string (txt z.value), .int .u32 z.flags, .int .i64 z.exp, .int .u64 z.ver] 39)) w1.heap.size (itL y) 39 := hy4.same (blk_alloc_lt _ _ _ hy4.lt)
  have hyB : Blk (w4.alloc (.cells #[.string (txt z.key), .string (txt z.value), .int .u32 z.flags, .int .i64 z.exp, .int .u64 z.ver] 39)) (w1.heap.size + 1) (itL y) 39 := hy5.same (blk_alloc_lt _ _ _ hy5.lt)
  have hb5 : Below w1.heap.size w1 (w4.alloc (.cells #[.string (txt z.key), .string (txt z.value), .int .u32 z.flags, .int .i64 z.exp, .int .u64 z.ver] 39)) := hb4.alloc (by omega) _
  have cA := hyA.cell (i := 4) rfl
  obtain ⟨p0, p1, p2, p3, p4, q0, q1, q2, q3, q4⟩ := cells5 hyB
  have HYB := hide hyB
  have HB5 := hide hb5
  have hN12 : Hid (w1.heap.size <= w1.heap.size + 1) := Nat.le_succ _
  clear CL HB3 HZ3 HY1 HY2 b4 hs4 hb4 hy4 hy5 hyA hyB hb5 c12
  have HS1' : Hid (N0 < w1.heap.size) := by rw [<- hN0e]; exact HS1.out
  by_cases hv : y.ver < z.ver
  ·have e5 : ((y.ver : Int) < (z.ver : Int)) = True := eq_true (by omega)
   go_wp2_with fail
   have B6 : Below w1.heap.size w1 (put5 (w4.alloc (.cells #[.string (txt z.key), .string (txt z.value), .int .u32 z.flags, .int .i64 z.exp, .int .u64 z.ver] 39)) (w1.heap.size + 1) z) := put5_below HB5.out hN12.out HB5.out.size z
   have h6 := H1.out.below B6
   refine (counts_any h6.box h6.jr z HZ.out).mono ?_
   rintro r w7 ⟨rfl, b7⟩
   have B7 : Below w1.heap.size w1 w7 := B6.trans (b7.mono B6.size)
   have hz6 := put5_blk HYB.out z
   have hr7 : Blk w7 (w1.heap.size + 1) (itL z) 39 := hz6.same (b7.block _ hz6.lt)
   clear b7 B6 h6 hz6 e5 cA p0 p1 p2 p3 p4 q0 q1 q2 q3 q4
   have hN7 : Blk w7 N0 (itL It.zero) 39 := by rw [<- hN0e]; exact HN1.out.same (B7.block _ HS1.out)
   have h7 := H1.out.below B7
   have H7 := hide h7
   have HLT7 : Hid (∀ q, (q = x \/ q = j \/ q = m \/ q ∈ G \/ q ∈ lblocks l ml v5 v6 v7 T) -> q ≠ N0) := fun q hq e => by have := HLT.out q hq; omega
   have HV7 := hide hN7
   have HM7 : Hid (Moves G G w w7) := HM1.out.trans (Moves.of_keep (Keep.of_below B7))
   have HB7 := hide B7
   have HR := hide hr7
   obtain ⟨a0, a1, a2, a3, a4, k0, k1, k2, k3, k4⟩ := cells5 hN7
   obtain ⟨r0, r1, r2, r3, r4, _⟩ := cells5 hr7
   have c13 := h7.box.cell (i := 13) rfl
   have hlk : (Instr.lookup 102 (.map none) (.string (txt key)) false).run Tryz.prog w7 = .ok (.agg #[.string ⟨#[]⟩, .string ⟨#[]⟩, .int .u32 0, .int .i64 0, .int .u64 0]) w7 := look_none key HKM.out false w7
   have cz : Hid (Calls Tryz.prog 114 #[.pointer (some ⟨x, 0, none⟩), .agg #[.string ⟨#[]⟩, .string ⟨#[]⟩, .int .u32 0, .int .i64 0, .int .u64 0]] w7 fun e w' => e = .returned (.bool false) /\ Below w7.heap.size w7 w') := by
    have := counts_any h7.box h7.jr It.zero (Nat.zero_le _)
    rw [zero_counts] at this
    exact this
   clear hN7 h7 hr7 B7
   cases hc : E.counts J z with
   | true =>
    have hfn : E.fnd J y z = .tuple #[.agg #[.string (txt z.key), .string (txt z.value), .int .u32 z.flags, .int .i64 z.exp, .int .u64 z.ver], .bool true, .int .i64 0] := by
     unfold En.fnd fndI
     rw [if_pos hv, if_pos hc, decide_eq_true hv]
     rfl
    have HFN := hide hfn
    clear hfn hc cz hlk c13 hv
    simp only [It.zero] at a0 a1 a2 a3 a4
    go_wp2
    refine bodyPost_ret (v := .tuple #[.agg #[.string (txt z.key), .string (txt z.value), .int .u32 z.flags, .int .i64 z.exp, .int .u64 z.ver], .bool true, .int .i64 0]) (by simp [results, Tryz.results54, go_sem, *]) rfl ⟨by rw [HFN.out], S1, ?_, HLK.out, ?_⟩
    ·exact H7.out.off (put5_keep (Keep.refl [N0] w7) (.inl (List.mem_singleton.2 rfl)) z) HLT7.out (by rw [<- hN0e]; exact HW0.out)
    ·exact ⟨put5_keep HM7.out.keep (.inr (by omega)) z, HM7.out.foot⟩
   | false =>
    have hfn : E.fnd J y z = .tuple #[.agg #[.string ⟨#[]⟩, .string ⟨#[]⟩, .int .u32 0, .int .i64 0, .int .u64 0], .bool false, .int .i64 5] := by
     unfold En.fnd fndI
     rw [if_pos hv, if_neg (by rw [hc]; decide)]
     rfl
    have HFN := hide hfn
    clear hfn hc hv a0 a1 a2 a3 a4 k0 k1 k2 k3 k4
    go_wp2_with fail
    refine cz.out.mono ?_
    rintro r w8 ⟨rfl, b8⟩
    have hN8 : Blk w8 N0 (itL It.zero) 39 := HV7.out.same (b8.block _ HV7.out.lt)
    obtain ⟨a0, a1, a2, a3, a4, k0, k1, k2, k3, k4⟩ := cells5 hN8
    simp only [It.zero] at a0 a1 a2 a3 a4
    have H8 := hide (H7.out.below b8)
    have HM8 : Hid (Moves G G w w8) := HM7.out.trans (Moves.of_keep (Keep.of_below b8))
    clear b8 hN8 cz hlk c13 r0 r1 r2 r3 r4
    go_wp2
    refine bodyPost_ret (v := .tuple #[.agg #[.string ⟨#[]⟩, .string ⟨#[]⟩, .int .u32 0, .int .i64 0, .int .u64 0], .bool false, .int .i64 5]) (by simp [results, Tryz.results54, go_sem, *]) rfl ⟨by rw [HFN.out], S1, ?_, HLK.out, ?_⟩
    ·exact H8.out.off (put5_keep (Keep.refl [N0] w8) (.inl (List.mem_singleton.2 rfl)) It.zero) HLT7.out (by rw [<- hN0e]; exact HW0.out)
    ·exact ⟨put5_keep HM8.out.keep (.inr (by omega)) It.zero, HM8.out.foot⟩
  ·have e5 : ((y.ver : Int) < (z.ver : Int)) = False := eq_false (by omega)
   go_wp2_with fail
   have h6 := H1.out.below HB5.out
   refine (counts_any h6.box h6.jr y HY.out).mono ?_
   rintro r w7 ⟨rfl, b7⟩
   have B7 : Below w1.heap.size w1 w7 := HB5.out.trans (b7.mono HB5.out.size)
   have hr7 : Blk w7 (w1.heap.size + 1) (itL y) 39 := HYB.out.same (b7.block _ HYB.out.lt)
   clear b7 h6 e5 cA p0 p1 p2 p3 p4 q0 q1 q2 q3 q4
   have hN7 : Blk w7 N0 (itL It.zero) 39 := by rw [<- hN0e]; exact HN1.out.same (B7.block _ HS1.out)
   have h7 := H1.out.below B7
   have H7 := hide h7
   have HLT7 : Hid (∀ q, (q = x \/ q = j \/ q = m \/ q ∈ G \/ q ∈ lblocks l ml v5 v6 v7 T) -> q ≠ N0) := fun q hq e => by have := HLT.out q hq; omega
   have HV7 := hide hN7
   have HM7 : Hid (Moves G G w w7) := HM1.out.trans (Moves.of_keep (Keep.of_below B7))
   have HB7 := hide B7
   have HR := hide hr7
   obtain ⟨a0, a1, a2, a3, a4, k0, k1, k2, k3, k4⟩ := cells5 hN7
   obtain ⟨r0, r1, r2, r3, r4, _⟩ := cells5 hr7
   have c13 := h7.box.cell (i := 13) rfl
   have hlk : (Instr.lookup 102 (.map none) (.string (txt key)) false).run Tryz.prog w7 = .ok (.agg #[.string ⟨#[]⟩, .string ⟨#[]⟩, .int .u32 0, .int .i64 0, .int .u64 0]) w7 := look_none key HKM.out false w7
   have cz : Hid (Calls Tryz.prog 114 #[.pointer (some ⟨x, 0, none⟩), .agg #[.string ⟨#[]⟩, .string ⟨#[]⟩, .int .u32 0, .int .i64 0, .int .u64 0]] w7 fun e w' => e = .returned (.bool false) /\ Below w7.heap.size w7 w') := by
    have := counts_any h7.box h7.jr It.zero (Nat.zero_le _)
    rw [zero_counts] at this
    exact this
   clear hN7 h7 hr7 B7
   cases hc : E.counts J y with
   | true =>
    have hfn : E.fnd J y z = .tuple #[.agg #[.string (txt y.key), .string (txt y.value), .int .u32 y.flags, .int .i64 y.exp, .int .u64 y.ver], .bool false, .int .i64 0] := by
     unfold En.fnd fndI
     rw [if_neg hv, if_pos hc, decide_eq_false hv]
     rfl
    have HFN := hide hfn
    clear hfn hc cz hlk c13 hv
    simp only [It.zero] at a0 a1 a2 a3 a4
    go_wp2
    refine bodyPost_ret (v := .tuple #[.agg #[.string (txt y.key), .string (txt y.value), .int .u32 y.flags, .int .i64 y.exp, .int .u64 y.ver], .bool false, .int .i64 0]) (by simp [results, Tryz.results54, go_sem, *]) rfl ⟨by rw [HFN.out], S1, ?_, HLK.out, ?_⟩
    ·exact H7.out.off (put5_keep (Keep.refl [N0] w7) (.inl (List.mem_singleton.2 rfl)) y) HLT7.out (by rw [<- hN0e]; exact HW0.out)
    ·exact ⟨put5_keep HM7.out.keep (.inr (by omega)) y, HM7.out.foot⟩
   | false =>
    have hfn : E.fnd J y z = .tuple #[.agg #[.string ⟨#[]⟩, .string ⟨#[]⟩, .int .u32 0, .int .i64 0, .int .u64 0], .bool false, .int .i64 5] := by
     unfold En.fnd fndI
     rw [if_neg hv, if_neg (by rw [hc]; decide)]
     rfl
    have HFN := hide hfn
    clear hfn hc hv a0 a1 a2 a3 a4 k0 k1 k2 k3 k4
    go_wp2_with fail
    refine cz.out.mono ?_
    rintro r w8 ⟨rfl, b8⟩
    have hN8 : Blk w8 N0 (itL It.zero) 39 := HV7.out.same (b8.block _ HV7.out.lt)
    obtain ⟨a0, a1, a2, a3, a4, k0, k1, k2, k3, k4⟩ := cells5 hN8
    simp only [It.zero] at a0 a1 a2 a3 a4
    have H8 := hide (H7.out.below b8)
    have HM8 : Hid (Moves G G w w8) := HM7.out.trans (Moves.of_keep (Keep.of_below b8))
    clear b8 hN8 cz hlk c13 r0 r1 r2 r3 r4
    go_wp2
    refine bodyPost_ret (v := .tuple #[.agg #[.string ⟨#[]⟩, .string ⟨#[]⟩, .int .u32 0, .int .i64 0, .int .u64 0], .bool false, .int .i64 5]) (by simp [results, Tryz.results54, go_sem, *]) rfl ⟨by rw [HFN.out], S1, ?_, HLK.out, ?_⟩
    ·exact H8.out.off (put5_keep (Keep.refl [N0] w8) (.inl (List.mem_singleton.2 rfl)) It.zero) HLT7.out (by rw [<- hN0e]; exact HW0.out)
    ·exact ⟨put5_keep HM8.out.keep (.inr (by omega)) It.zero, HM8.out.foot⟩
end
section
variable {w0 w w' : World} {x d : Nat} {E : En} {j m nj : Nat} {J : Jr} {s first n : Nat} {S S' : Dv} {f : Nat -> List It} {bs : List (List Bool)} {G : List Nat} {l ml : Nat} {v5 v6 v7 : Value} {T : Lg}
def En.gets (E : En) (J : Jr) (y z : It) : Option It := if E.counts J (fndI y z) = true then some (fndI y z) else none
def En.fndB (E : En) (J : Jr) (y z : It) : Bool := E.counts J (fndI y z) && decide (y.ver < z.ver)
theorem fnd_is (E : En) (J : Jr) (y z : It) : E.fnd J y z = .tuple #[.agg #[.string (txt ((E.gets J y z).getD It.zero).key), .string (txt ((E.gets J y z).getD It.zero).value), .int .u32 ((E.gets J y z).getD It.zero).flags, .int .i64 ((E.gets J y z).getD It.zero).exp, .int .u64 ((E.gets J y z).getD It.zero).ver], .bool (E.fndB J y z), .int .i64 (if (E.gets J y z).isSome then 0 else 5)] := by
 unfold En.fnd En.gets En.fndB
 cases E.counts J (fndI y z) <;> rfl
theorem get_any (h : EnAt w0 w x d E j m nj J s first n S f bs G l ml v5 v6 v7 T) (key : List UInt8) (hk : key.length <= maxLen) (hk2 : key.length <= 140737488351232) (sm gr : Option It) (hsm : (f (bkt key n)).find? (isKey key) = sm) (hgr : T.hasIt key gr) (hy : (sm.getD It.zero).key.length <= maxLen) (hz : (gr.getD It.zero).key.length <= maxLen) :
  Calls Tryz.prog 14 #[.pointer (some ⟨x, 0, none⟩), .string (txt key)] w fun e w' => e = .returned (getV (E.gets J (sm.getD It.zero) (gr.getD It.zero))) /\ ∃ S', EnAt w0 w' x d E j m nj J s first n S' f bs G l ml v5 v6 v7 T /\ LikeB S S' /\ Moves G G w w' := by
 have BA := (Below.refl w.heap.size w).alloc (Nat.le_refl _) (.cells #[.string ⟨#[]⟩, .string ⟨#[]⟩, .int .u32 0, .int .i64 0, .int .u64 0] 39)
 have hA := h.below BA
 have cF := find_any hA key hk hk2 sm gr hsm hgr hy hz
 rw [fnd_is] at cF
 rw [getV_is]
 unfold itV
 have CF := hide cF
 have HBA := hide BA
 have HLT := hide h.lt
 have HW0 : Hid (w0.heap.size <= w.heap.size) := h.bu.bel.size
 have hN0 : Hid (Blk (w.alloc (.cells #[.string ⟨#[]⟩, .string ⟨#[]⟩, .int .u32 0, .int .i64 0, .int .u64 0] 39)) w.heap.size (itL It.zero) 39) := Blk.new w _ 39
 have hNG : Hid (w.heap.size ∉ G) := fun hq => by have := (h.bu.lt _ hq).1; omega
 clear h hA BA cF hk hk2 hsm hgr hy hz
 generalize (E.gets J (sm.getD It.zero) (gr.getD It.zero)).getD It.zero = c at *
 generalize E.fndB J (sm.getD It.zero) (gr.getD It.zero) = fb at *
 generalize (if (E.gets J (sm.getD It.zero) (gr.getD It.zero)).isSome = true then (0 : Int) else 5) = er at *
 go_enter Tryz.func14, Tryz.ntmps14
 go_wp2_with fail
 refine CF.out.mono ?_
 rintro r w1 ⟨rfl, S1, h1, hlk1, hm1⟩
 have hN1 : Blk w1 w.heap.size (itL It.zero) 39 := hN0.out.same (hm1.keep.block _ (by rw [nblk_alloc]; omega) hNG.out)
 have hN2 : Blk (w1.alloc (.cells #[.string (txt c.key), .string (txt c.value), .int .u32 c.flags, .int .i64 c.exp, .int .u64 c.ver] 39)) w.heap.size (itL It.zero) 39 := hN1.same (blk_alloc_lt _ _ _ hN1.lt)
 have b2 := (Below.refl w1.heap.size w1).alloc (Nat.le_refl _) (.cells #[.string (txt c.key), .string (txt c.value), .int .u32 c.flags, .int .i64 c.exp, .int .u64 c.ver] 39)
 have H2 := hide (h1.below b2)
 have HM : Hid (Moves G G w (w1.alloc (.cells #[.string (txt c.key), .string (txt c.value), .int .u32 c.flags, .int .i64 c.exp, .int .u64 c.ver] 39))) := ((Moves.of_keep (Keep.of_below HBA.out)).trans hm1).trans (Moves.of_keep (Keep.of_below b2))
 have HLK := hide hlk1
 obtain ⟨N0, hN0e⟩ : ∃ N0, w.heap.size = N0 := ⟨_, rfl⟩
 rw [hN0e] at hN2
 obtain ⟨a0, a1, a2, a3, a4, k0, k1, k2, k3, k4⟩ := cells5 hN2
 simp only [It.zero] at a0 a1 a2 a3 a4
 have HLT7 : Hid (∀ q, (q = x \/ q = j \/ q = m \/ q ∈ G \/ q ∈ lblocks l ml v5 v6 v7 T) -> q ≠ N0) := fun q hq e => by have := HLT.out q hq; omega
 simp only [hN0e]
 clear hN1 hN2 hm1 b2 h1 hlk1 hN0 hNG HBA CF HLT
 go_wp2
 refine bodyPost_ret (v := .tuple #[.agg #[.string (txt c.key), .string (txt c.value), .int .u32 c.flags, .int .i64 c.exp, .int .u64 c.ver], .int .i64 er]) (by simp [results, Tryz.results14, go_sem, *]) rfl ⟨rfl, S1, ?_, HLK.out, ?_⟩
 ·exact H2.out.off (put5_keep (Keep.refl [N0] _) (.inl (List.mem_singleton.2 rfl)) c) HLT7.out (by rw [<- hN0e]; exact HW0.out)
 ·exact ⟨put5_keep HM.out.keep (.inr (by omega)) c, HM.out.foot⟩
end
variable {P : Program} {ops : Array Oper} {Q : Exit -> Act -> World -> Prop}
def OpRunsY (P : Program) (ev : Operand -> Value) (o : Oper) (w : World) (C : Value -> World -> Prop) : Prop :=
 (∃ v w', (execOp ev o).run P w = .ok (.value v) w' /\ C v w') \/ (∃ w', (execOp ev o).run P w = .ok .skip w' /\ C undef w') \/
 (∃ f args, (execOp ev o).run P w = .ok (.enter f args) w /\ Calls P f args w fun e w' => ∃ v, e = .returned v /\ C v w')
theorem OpRunsY.mono {ev : Operand -> Value} {o : Oper} {w : World} {C D : Value -> World -> Prop} (h : OpRunsY P ev o w C) (hcd : ∀ v w', C v w' -> D v w') : OpRunsY P ev o w D := by
 rcases h with ⟨v, w', h1, h2⟩ | ⟨w', h1, h2⟩ | ⟨f, args, h1, h2⟩
 ·exact .inl ⟨v, w', h1, hcd _ _ h2⟩
 ·exact .inr (.inl ⟨w', h1, hcd _ _ h2⟩)
 ·exact .inr (.inr ⟨f, args, h1, h2.mono fun e w3 ⟨v, h3, h4⟩ => ⟨v, h3, hcd _ _ h4⟩⟩)
theorem wp_region_ey {id : Nat} {a0 : Act} {w : World} (hm : P.follows .mixedOrders = true) (hp : plainRegion ops = true) (J : Array Bool -> (Nat -> Value) -> World -> Prop)
  (hJ0 : J (Array.replicate ops.size false) (fun _ => undef) { w with drawn := w.drawn + 1 })
  (hops : ∀ i o, ops[i]? = some o -> ∀ (listed : Array Bool) (V : Nat -> Value) (w' : World) (ev : Operand -> Value), listed.size = ops.size -> J listed V w' -> listed.getD i false = false -> (∀ k, edgeOf ops i k = true -> listed.getD k false = true) ->
   (∀ t j e, (_ : ownOf ops t = some j := by kernel_rfl) -> (_ : e ∈ o.after.toList := by simp) -> (_ : Region.binds .any e = true := by rfl) -> (_ : e.on = j := by rfl) -> (_ : t < a0.tmps.size := by simp) -> ev (.tmp t) = V j) ->
   (∀ t, (_ : ownOf ops t = none := by kernel_rfl) -> (_ : t < a0.tmps.size := by simp) -> ev (.tmp t) = a0.eval (.tmp t)) -> (∀ t j, ownOf ops t = some j -> listed.getD j false = false -> t < a0.tmps.size -> ev (.tmp t) = a0.eval (.tmp t)) -> (∀ v, ev (.const v) = v) -> (∀ f, ev (.func f) = .func (.func f) #[] #[]) ->
   OpRunsY P ev o w' fun v w'' => J (listed.setIfInBounds i true) (setV V i v) w'')
  (hend : ∀ V w', J (Array.replicate ops.size true) V w' -> Q .normal (lexF V 0 ops.toList a0) w') : (Code.region id ops true).wp P Q a0 w := by
 refine wp_region_any hm ?_
 refine wpAny_by (fun listed a w' => listed.size = ops.size /\ ∃ V, a = frameOf (ownOf ops) V a0 listed /\ J listed V w') ?_ ?_ _ _ _ _ ⟨by simp, _, (frame_none _ _ _ _).symm, hJ0⟩ ?_
 ·rintro listed a w' ⟨hs, V, rfl, hc⟩ hr
  have := all_listed hs hp hr
  subst this
  rw [frame_lex hp]
  exact hend V w' hc
 ·rintro listed a w' ⟨hs, V, rfl, hc⟩ i hi
  obtain ⟨hlt, hfree, haft⟩ := ready_free hi
  have ho : ops[i]? = some ops[i] := Array.getElem?_eq_getElem hlt
  have hpi := List.all_eq_true.1 hp i (List.mem_range.2 hlt)
  rw [ho] at hpi
  simp only [Bool.and_eq_true] at hpi
  rw [ho] at haft
  simp only [Option.map_some, Option.getD_some] at haft
  have hbind : ∀ e ∈ (ops[i]).after.toList, Region.binds .any e = true -> listed.getD e.on false = true := by
   intro e he hb
   obtain ⟨j, hj, hje⟩ := List.getElem_of_mem he
   have hx := (Array.all_eq_true.1 haft) j (by simpa using hj)
   have hje' : (ops[i]).after[j]'(by simpa using hj) = e := by simpa using hje
   rw [hje', hb] at hx
   simpa using hx
  have hdir : ∀ k, edgeOf ops i k = true -> listed.getD k false = true := by
   intro k hk
   unfold edgeOf at hk
   rw [ho] at hk
   obtain ⟨x, hx, hxe⟩ := Array.any_eq_true.1 hk
   simp only [Bool.and_eq_true, beq_iff_eq] at hxe
   have := hbind ((ops[i]).after[x]) (by simp) hxe.2
   rw [hxe.1] at this
   exact this
  have hfr : listed.getD i false = false := by
   simp only [Array.getD_eq_getD_getElem?] at hfree ⊢
   rw [Array.getElem?_eq_getElem (by omega)] at hfree ⊢
   simpa using hfree
  have hrun := hops i ops[i] ho listed V w' (frameOf (ownOf ops) V a0 listed).eval hs hc hfr hdir
   (fun t j e hown he hb hej ht => by rw [frame_eval _ _ _ _ _ ht]; unfold pickSlot; rw [hown]; simp only; rw [if_pos (hej ▸ hbind e he hb)])
   (fun t hown ht => by rw [frame_eval _ _ _ _ _ ht]; unfold pickSlot; rw [hown]) (fun t j hown hj ht => by rw [frame_eval _ _ _ _ _ ht]; unfold pickSlot; rw [hown]; simp only; rw [if_neg (by rw [hj]; decide)]) (fun v => rfl) (fun f => rfl)
  have hw : Region.wanted ops[i] (yielded ops (frameOf (ownOf ops) V a0 listed).tmps) = true := by
   have hg : ops[i].guard = none := by simpa using hpi.1.2
   simp [Region.wanted, hg]
  have hput : ∀ v, (frameOf (ownOf ops) V a0 listed).put ops[i].dst v = frameOf (ownOf ops) (setV V i v) a0 (listed.setIfInBounds i true) := fun v => by
   have e : frameOf (ownOf ops) V a0 listed = frameOf (ownOf ops) (setV V i v) a0 listed := frame_congr (fun j hj => by
    rw [setV_other]
    rintro rfl
    rw [hfr] at hj; cases hj)
   rw [e]
   have := frame_step (V := setV V i v) (a0 := a0) hp hs ho
   rw [setV_same] at this
   exact this
  unfold wpOp
  rw [ho]
  simp only [hw, if_true]
  left
  unfold Oper.wp
  rcases hrun with ⟨v, w2, hr, hc2⟩ | ⟨w2, hr, hc2⟩ | ⟨f, args, hr, hcalls⟩
  ·rw [hr]
   exact ⟨by simpa using hs, _, hput v, hc2⟩
  ·rw [hr]
   exact ⟨by simpa using hs, _, hput undef, hc2⟩
  ·rw [hr]
   refine hcalls.mono ?_
   rintro e w2 ⟨v, rfl, hc2⟩
   exact ⟨by simpa using hs, _, hput v, hc2⟩
 ·unfold todo
  simp
def depOk (ops : Array Oper) (z0 : Nat) (ds : List Nat) : Bool := ds.all fun i => edgeOf ops i z0 || ds.any fun k => edgeOf ops i k
theorem wp_region_cx {id : Nat} {a0 : Act} {w : World} (hm : P.follows .mixedOrders = true) (hp : plainRegion ops = true) (V : Value -> Nat -> Value) (z0 : Nat) (zs ds : List Nat) (hz : chainOk ops zs = true) (hd : depOk ops z0 ds = true) (hz0 : zs[0]? = some z0) (hV0 : ∀ v, V v z0 = v) (hVc : ∀ v v' i, i ∉ ds -> i ≠ z0 -> V v i = V v' i) (C : Nat -> Value -> World -> Prop)
  (hC0 : C 0 undef { w with drawn := w.drawn + 1 })
  (hops : ∀ (i : Nat) (o : Oper), ops[i]? = some o -> ∀ (s : Nat) (v : Value) (w' : World) (ev : Operand -> Value), s <= lim ops zs i -> (∀ k, zs[k]? = some i -> s = k) -> (i ∈ ds -> 0 < s) -> C s v w' ->
   (∀ t j e, (_ : ownOf ops t = some j := by kernel_rfl) -> (_ : e ∈ o.after.toList := by simp) -> (_ : Region.binds .any e = true := by rfl) -> (_ : e.on = j := by rfl) -> (_ : t < a0.tmps.size := by simp) -> ev (.tmp t) = V v j) ->
   (∀ t, (_ : ownOf ops t = none := by kernel_rfl) -> (_ : t < a0.tmps.size := by simp) -> ev (.tmp t) = a0.eval (.tmp t)) -> (∀ v, ev (.const v) = v) -> (∀ f, ev (.func f) = .func (.func f) #[] #[]) ->
   OpRunsY P ev o w' (fun u w'' => if i = z0 then C 1 u w'' else u = V v i /\ C (if i ∈ zs then s + 1 else s) v w''))
  (hend : ∀ v w', C zs.length v w' -> Q .normal (lexF (V v) 0 ops.toList a0) w') : (Code.region id ops true).wp P Q a0 w := by
 simp only [chainOk, Bool.and_eq_true, decide_eq_true_eq] at hz
 obtain ⟨⟨hz1, hz2⟩, hnd⟩ := hz
 have hzlt : ∀ z ∈ zs, z < ops.size := fun z h => by simpa using List.all_eq_true.1 hz1 z h
 have er : ∀ j, (Array.replicate ops.size false).getD j false = false := fun j => by simp only [Array.getD_eq_getD_getElem?, Array.getElem?_replicate]; split <;> rfl
 have hlen0 : 0 < zs.length := (List.getElem?_eq_some_iff.1 hz0).1
 refine wp_region_ey hm hp (fun listed V' W => (∀ j k, edgeOf ops j k = true -> listed.getD j false = true -> listed.getD k false = true) /\ ∃ s v, s <= zs.length /\ (∀ k z, zs[k]? = some z -> (listed.getD z false = true ↔ k < s)) /\ C s v W /\ (∀ k, listed.getD k false = true -> V' k = V v k) /\ (∀ k ∈ ds, listed.getD k false = true -> 0 < s)) ?_ ?_ ?_
 ·refine ⟨fun j k _ hj => (by rw [er] at hj; cases hj), 0, undef, Nat.zero_le _, fun k z _ => ?_, hC0, fun k hk => (by rw [er] at hk; cases hk), fun k _ hk => (by rw [er] at hk; cases hk)⟩
  rw [er]
  simp
 ·intro i o hi listed V' w' ev hs hc hff hdir hin hout _ hcst hfn
  have hilt : i < ops.size := (Array.getElem?_eq_some_iff.1 hi).1
  obtain ⟨hcl, s, v, hsl, hst, hC, hVl, hds⟩ := hc
  have hlim : s <= lim ops zs i := by
   unfold lim
   cases hf : zs.findIdx? (fun z => edgeOf ops z i || (List.range ops.size).any fun j => edgeOf ops z j && edgeOf ops j i) with
   | none => simpa using hsl
   | some k =>
    simp only [Option.getD_some]
    have hk := List.findIdx?_eq_some_iff_getElem.1 hf
    obtain ⟨hkl, hke, _⟩ := hk
    rcases Nat.lt_or_ge k s with h | h
    ·have h1 := (hst k zs[k] (List.getElem?_eq_getElem hkl)).2 h
     have h2 : listed.getD i false = true := by
      simp only [Bool.or_eq_true] at hke
      rcases hke with hke | hke
      ·exact hcl _ _ hke h1
      ·obtain ⟨j, _, hj⟩ := List.any_eq_true.1 hke
       simp only [Bool.and_eq_true] at hj
       exact hcl _ _ hj.2 (hcl _ _ hj.1 h1)
     rw [hff] at h2; cases h2
    ·exact h
  have hk : ∀ k, zs[k]? = some i -> s = k := fun k hk => by
   have h1 : ¬ k < s := fun h => by
    have := (hst k i hk).2 h
    rw [hff] at this; cases this
   cases k with
   | zero => omega
   | succ k =>
    have hkl : k + 1 < zs.length := (List.getElem?_eq_some_iff.1 hk).1
    have h2 := List.all_eq_true.1 hz2 k (List.mem_range.2 (by omega))
    simp only [Bool.or_eq_true, beq_iff_eq] at h2
    rcases h2 with h2 | h2
    ·omega
    ·rw [List.getD_eq_getElem?_getD, hk, List.getD_eq_getElem?_getD, List.getElem?_eq_getElem (by omega : k < zs.length)] at h2
     simp only [Option.getD_some] at h2
     have h3 := hdir _ h2
     have h4 := (hst k _ (List.getElem?_eq_getElem (by omega : k < zs.length))).1 h3
     omega
  have hdep : i ∈ ds -> 0 < s := fun hid => by
   have h1 := List.all_eq_true.1 hd i hid
   simp only [Bool.or_eq_true] at h1
   rcases h1 with h1 | h1
   ·exact (hst 0 z0 hz0).1 (hdir _ h1)
   ·obtain ⟨k, hkd, hke⟩ := List.any_eq_true.1 h1
    exact hds k hkd (hdir _ hke)
  have hrun := hops i o hi s v w' ev hlim hk hdep hC (fun t j e hown he hb hej ht => by
   rw [hin t j e hown he hb hej ht]
   refine hVl j (hdir j ?_)
   unfold edgeOf
   rw [hi]
   simp only [Option.map_some, Option.getD_some]
   obtain ⟨q, hq, hqe⟩ := List.getElem_of_mem he
   exact Array.any_eq_true.2 ⟨q, by simpa using hq, by
    have : o.after[q]'(by simpa using hq) = e := by simpa using hqe
    rw [this, hej, hb]; simp⟩) @hout hcst hfn
  have hcl' : ∀ j k, edgeOf ops j k = true -> (listed.setIfInBounds i true).getD j false = true -> (listed.setIfInBounds i true).getD k false = true := by
   intro j k hjk hj
   rw [getD_set _ _ _ (by omega)] at hj ⊢
   split
   ·rfl
   ·by_cases h : j = i
    ·subst h; exact hdir k hjk
    ·rw [if_neg h] at hj; exact hcl j k hjk hj
  refine hrun.mono ?_
  intro u W hW
  refine ⟨hcl', ?_⟩
  by_cases hi0 : i = z0
  ·subst hi0
   rw [if_pos rfl] at hW
   have hs0 : s = 0 := hk 0 hz0
   subst hs0
   refine ⟨1, u, hlen0, fun k z hkz => ?_, hW, fun k hkl => ?_, fun _ _ _ => Nat.one_pos⟩
   ·rw [getD_set _ _ _ (by omega)]
    by_cases hzi : z = i
    ·subst hzi
     have := hk k hkz
     rw [if_pos rfl]
     constructor
     ·intro _; omega
     ·intro _; rfl
    ·rw [if_neg hzi, hst k z hkz]
     constructor
     ·intro h; omega
     ·intro h
      have e : k = 0 := by omega
      subst e
      rw [hz0] at hkz
      exact absurd (Option.some.inj hkz).symm hzi
   ·rw [getD_set _ _ _ (by omega)] at hkl
    by_cases hki : k = i
    ·subst hki; rw [setV_same, hV0]
    ·rw [if_neg hki] at hkl
     rw [setV_other _ _ _ _ hki, hVl k hkl]
     exact hVc _ _ k (fun hkd => absurd (hds k hkd hkl) (by omega)) hki
  ·rw [if_neg hi0] at hW
   obtain ⟨hu, hW⟩ := hW
   have hval : ∀ k, (listed.setIfInBounds i true).getD k false = true -> setV V' i u k = V v k := fun k hkl => by
    rw [getD_set _ _ _ (by omega)] at hkl
    by_cases hki : k = i
    ·subst hki; rw [setV_same, hu]
    ·rw [if_neg hki] at hkl
     rw [setV_other _ _ _ _ hki, hVl k hkl]
   have hdn : ∀ k ∈ ds, (listed.setIfInBounds i true).getD k false = true -> 0 < s := fun k hkd hkl => by
    rw [getD_set _ _ _ (by omega)] at hkl
    by_cases hki : k = i
    ·subst hki; exact hdep hkd
    ·rw [if_neg hki] at hkl; exact hds k hkd hkl
   by_cases hmem : i ∈ zs
   ·rw [if_pos hmem] at hW
    obtain ⟨k0, hk0⟩ := List.getElem?_of_mem hmem
    have hs0 := hk k0 hk0
    subst hs0
    have hk0l : s < zs.length := (List.getElem?_eq_some_iff.1 hk0).1
    refine ⟨s + 1, v, hk0l, fun k z hkz => ?_, hW, hval, fun _ _ _ => Nat.succ_pos _⟩
    rw [getD_set _ _ _ (by omega)]
    by_cases hzi : z = i
    ·subst hzi
     have := hk k hkz
     rw [if_pos rfl]
     constructor
     ·intro _; omega
     ·intro _; rfl
    ·rw [if_neg hzi, hst k z hkz]
     constructor
     ·intro h; omega
     ·intro h
      rcases Nat.lt_or_ge k s with h1 | h1
      ·exact h1
      ·have e : k = s := by omega
       subst e
       rw [hk0] at hkz
       exact absurd (Option.some.inj hkz).symm hzi
   ·rw [if_neg hmem] at hW
    refine ⟨s, v, hsl, fun k z hkz => ?_, hW, hval, hdn⟩
    have hzi : z ≠ i := fun e => hmem (e ▸ List.mem_of_getElem? hkz)
    rw [getD_set _ _ _ (by omega), if_neg hzi]
    exact hst k z hkz
 ·intro V' w' hc
  obtain ⟨_, s, v, hsl, hst, hC, hVl, _⟩ := hc
  have : s = zs.length := by
   rcases Nat.lt_or_ge s zs.length with h | h
   ·have h1 := hst s zs[s] (List.getElem?_eq_getElem h)
    have h2 : (Array.replicate ops.size true).getD zs[s] false = true := by
     have := hzlt zs[s] (by simp)
     simp [Array.getD_eq_getD_getElem?, Array.getElem?_replicate, this]
    have := h1.1 h2
    omega
   ·omega
  subst this
  have e : lexF V' 0 ops.toList a0 = lexF (V v) 0 ops.toList a0 := by
   rw [<- frame_lex hp V' a0, <- frame_lex hp (V v) a0]
   exact frame_congr hVl
  rw [e]
  exact hend v w' hC
end Go.Proofs.YtcdghalnneilpaaGreat
