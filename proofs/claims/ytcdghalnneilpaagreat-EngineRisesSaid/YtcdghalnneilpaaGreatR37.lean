/- Joined texts. -/
import Derived.Test.YtcdghalnneilpaaGreatR36
set_option linter.unusedVariables false
set_option linter.unusedSimpArgs false
set_option maxRecDepth 8000
set_option maxHeartbeats 8000000
namespace Go.Proofs.YtcdghalnneilpaaGreat
open Go.RowKit Go.Deep Math
def Lg.hasIt (T : Lg) (k : List UInt8) (o : Option It) : Prop := (T.has k = none /\ o = none) \/ ∃ t ∈ T.all, T.has k = some t.pos /\ t.it.key = k /\ o = some t.it
theorem getV_is (o : Option It) : getV o = .tuple #[itV (txt (o.getD It.zero).key) (txt (o.getD It.zero).value) (o.getD It.zero).flags (o.getD It.zero).exp (o.getD It.zero).ver, .int .i64 (if o.isSome then 0 else 5)] := by
 cases o <;> simp [getV, itV, It.zero, txt]
theorem lget_any {w : World} {l d m : Nat} {v5 v6 v7 : Value} {T : Lg} (h : LgIn w l d m v5 v6 v7 T) (k : List UInt8) (hk : k.length <= 140737488351232) {o : Option It} (ho : T.hasIt k o) :
  Calls Tryz.prog 113 #[.pointer (some ⟨l, 0, none⟩), .string (txt k)] w fun e w' => e = .returned (getV o) /\ Below w.heap.size w w' := by
 rcases ho with ⟨h1, rfl⟩ | ⟨t, ht, h1, h2, rfl⟩
 ·refine (get_none h k hk h1).mono ?_
  rintro e w' ⟨rfl, hb⟩
  exact ⟨by simp [getV, It.val, It.zero, itV, txt], hb⟩
 ·refine (get_some h k hk t (h.ths t ht) h1).mono ?_
  rintro e w' ⟨rfl, hb⟩
  exact ⟨rfl, hb⟩
structure EnAt (w0 W : World) (x d : Nat) (E : En) (j m nj : Nat) (J : Jr) (s first n : Nat) (S : Dv) (f : Nat -> List It) (bs : List (List Bool)) (G : List Nat) (l ml : Nat) (v5 v6 v7 : Value) (T : Lg) : Prop where
 box : Blk W x (enL d E (.pointer (some ⟨j, 0, none⟩)) (.pointer (some ⟨s, 0, none⟩)) (.pointer (some ⟨l, 0, none⟩)) (.map none)) 104
 jr : JrAt W j d m nj J
 bu : Bu w0 W d s first n S f bs G
 lg : LgIn W l d ml v5 v6 v7 T
 xG : x ∉ G
 jG : j ∉ G
 mG : m ∉ G
 lG : ∀ q ∈ lblocks l ml v5 v6 v7 T, q ∉ G
 low : ∀ q, (q = x \/ q = j \/ q = m \/ q ∈ lblocks l ml v5 v6 v7 T) -> w0.heap.size <= q
 xL : x ∉ lblocks l ml v5 v6 v7 T
 jL : j ∉ lblocks l ml v5 v6 v7 T
 mL : m ∉ lblocks l ml v5 v6 v7 T
 xm : x ≠ m
section
variable {w0 w w' : World} {x d : Nat} {E : En} {j m nj : Nat} {J : Jr} {s first n : Nat} {S S' : Dv} {f : Nat -> List It} {bs : List (List Bool)} {G : List Nat} {l ml : Nat} {v5 v6 v7 : Value} {T : Lg}
theorem EnAt.below (h : EnAt w0 w x d E j m nj J s first n S f bs G l ml v5 v6 v7 T) (b : Below w.heap.size w w') : EnAt w0 w' x d E j m nj J s first n S f bs G l ml v5 v6 v7 T :=
 ⟨h.box.same (b.block _ h.box.lt), h.jr.below b, h.bu.below b, h.lg.below b, h.xG, h.jG, h.mG, h.lG, h.low, h.xL, h.jL, h.mL, h.xm⟩
theorem EnAt.read (h : EnAt w0 w x d E j m nj J s first n S f bs G l ml v5 v6 v7 T) (hb : Bu w0 w' d s first n S' f bs G) (k : Moves G G w w') : EnAt w0 w' x d E j m nj J s first n S' f bs G l ml v5 v6 v7 T :=
 ⟨h.box.same (k.keep.block _ h.box.lt h.xG), h.jr.keep k.keep h.jG h.mG, hb, h.lg.same (fun q hq => k.keep.block q (h.lg.lt q hq) (h.lG q hq)), h.xG, h.jG, h.mG, h.lG, h.low, h.xL, h.jL, h.mL, h.xm⟩
def fndI (y z : It) : It := if y.ver < z.ver then z else y
def En.fnd (E : En) (J : Jr) (y z : It) : Value := if E.counts J (fndI y z) = true then .tuple #[(fndI y z).val, .bool (decide (y.ver < z.ver)), .int .i64 0] else .tuple #[It.zero.val, .bool false, .int .i64 5]
theorem zero_counts (E : En) (J : Jr) : E.counts J It.zero = false := by
 unfold En.counts
 have : ¬ E.b.hor < It.zero.ver := Nat.not_lt_zero _
 simp [this]
def put5 (w : World) (g : Nat) (y : It) : World := ((((w.setCell ⟨g, 0, none⟩ (.string (txt y.key))).setCell ⟨g, 1, none⟩ (.string (txt y.value))).setCell ⟨g, 2, none⟩ (.int .u32 y.flags)).setCell ⟨g, 3, none⟩ (.int .i64 y.exp)).setCell ⟨g, 4, none⟩ (.int .u64 y.ver)
def itL (y : It) : List Value := [.string (txt y.key), .string (txt y.value), .int .u32 y.flags, .int .i64 y.exp, .int .u64 y.ver]
theorem put5_keep {F : List Nat} {a w : World} {g : Nat} (h : Keep F a w) (hg : g ∈ F \/ a.heap.size <= g) (y : It) : Keep F a (put5 w g y) :=
 ((((h.setCell hg _).setCell hg _).setCell hg _).setCell hg _).setCell hg _
theorem put5_blk {w : World} {g : Nat} {x : It} (h : Blk w g (itL x) 39) (y : It) : Blk (put5 w g y) g (itL y) 39 :=
 ((((h.set 0 _).set 1 _).set 2 _).set 3 _).set 4 _
theorem cells5 {w : World} {g : Nat} {y : It} (h : Blk w g (itL y) 39) :
  w.cell? ⟨g, 0, none⟩ = some (.string (txt y.key)) /\ w.cell? ⟨g, 1, none⟩ = some (.string (txt y.value)) /\ w.cell? ⟨g, 2, none⟩ = some (.int .u32 y.flags) /\ w.cell? ⟨g, 3, none⟩ = some (.int .i64 y.exp) /\ w.cell? ⟨g, 4, none⟩ = some (.int .u64 y.ver) /\
  w.frozen? ⟨g, 0, none⟩ = false /\ w.frozen? ⟨g, 1, none⟩ = false /\ w.frozen? ⟨g, 2, none⟩ = false /\ w.frozen? ⟨g, 3, none⟩ = false /\ w.frozen? ⟨g, 4, none⟩ = false :=
 ⟨h.cell rfl, h.cell rfl, h.cell rfl, h.cell rfl, h.cell rfl, h.frozen 0, h.frozen 1, h.frozen 2, h.frozen 3, h.frozen 4⟩
theorem put5_below {a w : World} {B g : Nat} (h : Below B a w) (hg : B <= g) (hB : B <= w.heap.size) (y : It) : Below B a (put5 w g y) := h.trans ((put5_keep (Keep.refl [g] w) (.inl (List.mem_singleton.2 rfl)) y).below (fun k hk => by rw [List.mem_singleton.1 hk]; exact hg) hB)
theorem EnAt.lt (h : EnAt w0 w x d E j m nj J s first n S f bs G l ml v5 v6 v7 T) : ∀ q, (q = x \/ q = j \/ q = m \/ q ∈ G \/ q ∈ lblocks l ml v5 v6 v7 T) -> q < w.heap.size := fun q hq => by
 rcases hq with rfl | rfl | rfl | hq | hq
 ·exact h.box.lt
 ·exact h.jr.blk.lt
 ·exact h.jr.mlt
 ·exact (h.bu.lt q hq).1
 ·exact h.lg.lt q hq
theorem EnAt.off (h : EnAt w0 w x d E j m nj J s first n S f bs G l ml v5 v6 v7 T) {N : Nat} (k : Keep [N] w w') (hN : ∀ q, (q = x \/ q = j \/ q = m \/ q ∈ G \/ q ∈ lblocks l ml v5 v6 v7 T) -> q ≠ N) (h0 : w0.heap.size <= N) : EnAt w0 w' x d E j m nj J s first n S f bs G l ml v5 v6 v7 T :=
 ⟨h.box.same (k.block _ h.box.lt (by simpa using hN x (.inl rfl))), h.jr.keep k (by simpa using hN j (.inr (.inl rfl))) (by simpa using hN m (.inr (.inr (.inl rfl)))), h.bu.keep k (fun q hq => by
  rw [List.mem_singleton.1 hq]
  exact ⟨fun hg => hN N (.inr (.inr (.inr (.inl hg)))) rfl, h0⟩), h.lg.same (fun q hq => k.block q (h.lg.lt q hq) (by simpa using hN q (.inr (.inr (.inr (.inr hq)))))), h.xG, h.jG, h.mG, h.lG, h.low, h.xL, h.jL, h.mL, h.xm⟩
theorem find_any (h : EnAt w0 w x d E j m nj J s first n S f bs G l ml v5 v6 v7 T) (key : List UInt8) (hk : key.length <= maxLen) (hk2 : key.length <= 140737488351232) (sm gr : Option It) (hsm : (f (bkt key n)).find? (isKey key) = sm) (hgr : T.hasIt key gr) (hy : (sm.getD It.zero).key.length <= maxLen) (hz : (gr.getD It.zero).key.length <= maxLen) :
  Calls Tryz.prog 54 #[.pointer (some ⟨x, 0, none⟩), .string (txt key)] w fun e w' => e = .returned (E.fnd J (sm.getD It.zero) (gr.getD It.zero)) /\ ∃ S', EnAt w0 w' x d E j m nj J s first n S' f bs G l ml v5 v6 v7 T /\ LikeB S S' /\ Moves G G w w' := by
 have BA := (Below.refl w.heap.size w).alloc (Nat.le_refl _) (.cells #[.string ⟨#[]⟩, .string ⟨#[]⟩, .int .u32 0, .int .i64 0, .int .u64 0] 39)
 have hA := h.below BA
 have c11 := hA.box.cell (i := 11) rfl
 have cG := bu_get hA.bu key hk
 rw [hsm, getV_is] at cG
 have CG := hide cG
 have HA := hide hA
 have HBA := hide BA
 have HK := hide hk2
 have HKM := hide hk
 have HGR := hide hgr
 have HY := hide hy
 have HZ := hide hz
 have hN0 : Hid (Blk (w.alloc (.cells #[.string ⟨#[]⟩, .string ⟨#[]⟩, .int .u32 0, .int .i64 0, .int .u64 0] 39)) w.heap.size [.string ⟨#[]⟩, .string ⟨#[]⟩, .int .u32 0, .int .i64 0, .int .u64 0] 39) := Blk.new w _ 39
 have hNG : Hid (w.heap.size ∉ G) := fun hq => by have := (h.bu.lt _ hq).1; omega
 have HLT := hide h.lt
 have HW0 : Hid (w0.heap.size <= w.heap.size) := h.bu.bel.size
 clear h BA hA cG hk2 hk hsm hgr hy hz
 generalize hsy : sm.getD It.zero = y at *
 generalize hgz : gr.getD It.zero = z at *
 generalize hse : (if sm.isSome = true then (0 : Int) else 5) = e1 at *
 have he1 : e1 = 0 \/ e1 = 5 := by rw [<- hse]; split <;> simp
 have HGZ := hide hgz
 clear hsy hse hgz
 unfold itV at CG
 go_enter Tryz.func54, Tryz.ntmps54
 go_wp2_with fail
 refine CG.out.mono ?_
 rintro r w1 ⟨rfl, S1, hB1, hlk1, hm1⟩
 have h1 := HA.out.read hB1 hm1
 have hszA : w.heap.size < w1.heap.size := by
  have h2 := hm1.keep.size
  rw [nblk_alloc] at h2
  omega
 have hN1 : Blk w1 w.heap.size (itL It.zero) 39 := hN0.out.same (hm1.keep.block _ (by rw [nblk_alloc]; omega) hNG.out)
 have hM1 : Moves G G w w1 := (Moves.of_keep (Keep.of_below HBA.out)).trans hm1
 have H1 := hide h1
 have HN1 := hide hN1
 have HM1 := hide hM1
 have HS1 := hide hszA
 have HLK := hide hlk1
 have B3 : Below w1.heap.size w1 ((w1.alloc (.cells #[.string (txt y.key), .string (txt y.value), .int .u32 y.flags, .int .i64 y.exp, .int .u64 y.ver] 39)).alloc (.cells #[.string (txt y.key), .string (txt y.value), .int .u32 y.flags, .int .i64 y.exp, .int .u64 y.ver] 39)) := ((Below.refl _ _).alloc (Nat.le_refl _) _).alloc (by rw [nblk_alloc]; omega) _
 have h3 := h1.below B3
 have c12 := h3.box.cell (i := 12) rfl
 have cL := lget_any h3.lg key HK.out HGR.out
 rw [getV_is, HGZ.out] at cL
 unfold itV at cL
 have CL := hide cL
 have HB3 := hide B3
 have hsz3 : ((w1.alloc (.cells #[.string (txt y.key), .string (txt y.value), .int .u32 y.flags, .int .i64 y.exp, .int .u64 y.ver] 39)).alloc (.cells #[.string (txt y.key), .string (txt y.value), .int .u32 y.flags, .int .i64 y.exp, .int .u64 y.ver] 39)).heap.size = w1.heap.size + 2 := by rw [nblk_alloc, nblk_alloc]
 have HZ3 := hide hsz3
 have HY1 : Hid (Blk ((w1.alloc (.cells #[.string (txt y.key), .string (txt y.value), .int .u32 y.flags, .int .i64 y.exp, .int .u64 y.ver] 39)).alloc (.cells #[.string (txt y.key), .string (txt y.value), .int .u32 y.flags, .int .i64 y.exp, .int .u64 y.ver] 39)) w1.heap.size (itL y) 39) := (Blk.new w1 (itL y) 39).same (blk_alloc_lt _ _ _ (by rw [nblk_alloc]; omega))
 have HY2 : Hid (Blk ((w1.alloc (.cells #[.string (txt y.key), .string (txt y.value), .int .u32 y.flags, .int .i64 y.exp, .int .u64 y.ver] 39)).alloc (.cells #[.string (txt y.key), .string (txt y.value), .int .u32 y.flags, .int .i64 y.exp, .int .u64 y.ver] 39)) (w1.heap.size + 1) (itL y) 39) := by
  have := Blk.new (w1.alloc (.cells #[.string (txt y.key), .string (txt y.value), .int .u32 y.flags, .int .i64 y.exp, .int .u64 y.ver] 39)) (itL y) 39
  rw [nblk_alloc] at this
  exact this
 clear h1 hN1 hM1 hszA hlk1 B3 h3 cL hsz3 hB1 hm1 HA HBA hN0 hNG CG c11 HGR HGZ
 generalize hge : (if gr.isSome = true then (0 : Int) else 5) = e2 at *
 clear hge
 obtain ⟨N0, hN0e⟩ : ∃ N0, w.heap.size = N0 := ⟨_, rfl⟩
 rcases he1 with rfl | rfl
 ·simp only [hN0e]
  go_wp2_with fail
  refine CL.out.mono ?_
  rintro r w4 ⟨rfl, b4⟩
  have hs4 := b4.size
  rw [HZ3.out] at hs4
  have hb4 : Below w1.heap.size w1 w4 := HB3.out.trans (b4.mono (by rw [HZ3.out]; omega))
  have hy4 : Blk w4 w1.heap.size (itL y) 39 := HY1.out.same (b4.block _ (by rw [HZ3.out]; omega))
  have hy5 : Blk w4 (w1.heap.size + 1) (itL y) 39 := HY2.out.same (b4.block _ (by rw [HZ3.out]; omega))
  have hyA : Blk (w4.alloc (.cells #[.string (txt z.key), .string (txt z.value), .int .u32 z.flags, .int .i64 z.exp, .int .u64 z.ver] 39)) w1.heap.size (itL y) 39 := hy4.same (blk_alloc_lt _ _ _ hy4.lt)
  have hyB : Blk (w4.alloc (.cells #[.string (txt z.key), .string (txt z.value), .int .u32 z.flags, .int .i64 z.exp, .int .u64 z.ver] 39)) (w1.heap.size + 1) (itL y) 39 := hy5.same (blk_alloc_lt _ _ _ hy5.lt)
  have hb5 : Below w1.heap.size w1 (w4.alloc (.cells #[.string (txt z.key), .string (txt z.value), .int .u32 z.flags, .int .i64 z.exp, .int .u64 z.ver] 39)) := hb4.alloc (by omega) _
  have cA := hyA.cell (i := 4) rfl
  obtain ⟨p0, p1, p2, p3, p4, q0, q1, q2, q3, q4⟩ := cells5 hyB
  have HYB := hide hyB
  have HB5 := hide hb5
  have hN12 : Hid (w1.heap.size <= w1.heap.size + 1) := Nat.le_succ _
  clear CL HB3 HZ3 HY1 HY2 b4 hs4 hb4 hy4 hy5 hyA hyB hb5 c12
  have HS1' : Hid (N0 < w1.heap.size) := by rw [<- hN0e]; exact HS1.out
  by_cases hv : y.ver < z.ver
  ·have e5 : ((y.ver : Int) < (z.ver : Int)) = True := eq_true (by omega)
   go_wp2_with fail
   have B6 : Below w1.heap.size w1 (put5 (w4.alloc (.cells #[.string (txt z.key), .string (txt z.value), .int .u32 z.flags, .int .i64 z.exp, .int .u64 z.ver] 39)) (w1.heap.size + 1) z) := put5_below HB5.out hN12.out HB5.out.size z
   have h6 := H1.out.below B6
   refine (counts_any h6.box h6.jr z HZ.out).mono ?_
   rintro r w7 ⟨rfl, b7⟩
   have B7 : Below w1.heap.size w1 w7 := B6.trans (b7.mono B6.size)
   have hz6 := put5_blk HYB.out z
   have hr7 : Blk w7 (w1.heap.size + 1) (itL z) 39 := hz6.same (b7.block _ hz6.lt)
   clear b7 B6 h6 hz6 e5 cA p0 p1 p2 p3 p4 q0 q1 q2 q3 q4
   have hN7 : Blk w7 N0 (itL It.zero) 39 := by rw [<- hN0e]; exact HN1.out.same (B7.block _ HS1.out)
   have h7 := H1.out.below B7
   have H7 := hide h7
   have HLT7 : Hid (∀ q, (q = x \/ q = j \/ q = m \/ q ∈ G \/ q ∈ lblocks l ml v5 v6 v7 T) -> q ≠ N0) := fun q hq e => by have := HLT.out q hq; omega
   have HV7 := hide hN7
   have HM7 : Hid (Moves G G w w7) := HM1.out.trans (Moves.of_keep (Keep.of_below B7))
   have HB7 := hide B7
   have HR := hide hr7
   obtain ⟨a0, a1, a2, a3, a4, k0, k1, k2, k3, k4⟩ := cells5 hN7
   obtain ⟨r0, r1, r2, r3, r4, _⟩ := cells5 hr7
   have c13 := h7.box.cell (i := 13) rfl
   have hlk : (Instr.lookup 102 (.map none) (.string (txt key)) false).run Tryz.prog w7 = .ok (.agg #[.string ⟨#[]⟩, .string ⟨#[]⟩, .int .u32 0, .int .i64 0, .int .u64 0]) w7 := look_none key HKM.out false w7
   have cz : Hid (Calls Tryz.prog 114 #[.pointer (some ⟨x, 0, none⟩), .agg #[.string ⟨#[]⟩, .string ⟨#[]⟩, .int .u32 0, .int .i64 0, .int .u64 0]] w7 fun e w' => e = .returned (.bool false) /\ Below w7.heap.size w7 w') := by
    have := counts_any h7.box h7.jr It.zero (Nat.zero_le _)
    rw [zero_counts] at this
    exact this
   clear hN7 h7 hr7 B7
   cases hc : E.counts J z with
   | true =>
    have hfn : E.fnd J y z = .tuple #[.agg #[.string (txt z.key), .string (txt z.value), .int .u32 z.flags, .int .i64 z.exp, .int .u64 z.ver], .bool true, .int .i64 0] := by
     unfold En.fnd fndI
     rw [if_pos hv, if_pos hc, decide_eq_true hv]
     rfl
    have HFN := hide hfn
    clear hfn hc cz hlk c13 hv
    simp only [It.zero] at a0 a1 a2 a3 a4
    go_wp2
    refine bodyPost_ret (v := .tuple #[.agg #[.string (txt z.key), .string (txt z.value), .int .u32 z.flags, .int .i64 z.exp, .int .u64 z.ver], .bool true, .int .i64 0]) (by simp [results, Tryz.results54, go_sem, *]) rfl ⟨by rw [HFN.out], S1, ?_, HLK.out, ?_⟩
    ·exact H7.out.off (put5_keep (Keep.refl [N0] w7) (.inl (List.mem_singleton.2 rfl)) z) HLT7.out (by rw [<- hN0e]; exact HW0.out)
    ·exact ⟨put5_keep HM7.out.keep (.inr (by omega)) z, HM7.out.foot⟩
   | false =>
    have hfn : E.fnd J y z = .tuple #[.agg #[.string ⟨#[]⟩, .string ⟨#[]⟩, .int .u32 0, .int .i64 0, .int .u64 0], .bool false, .int .i64 5] := by
     unfold En.fnd fndI
     rw [if_pos hv, if_neg (by rw [hc]; decide)]
     rfl
    have HFN := hide hfn
    clear hfn hc hv a0 a1 a2 a3 a4 k0 k1 k2 k3 k4
    go_wp2_with fail
    refine cz.out.mono ?_
    rintro r w8 ⟨rfl, b8⟩
    have hN8 : Blk w8 N0 (itL It.zero) 39 := HV7.out.same (b8.block _ HV7.out.lt)
    obtain ⟨a0, a1, a2, a3, a4, k0, k1, k2, k3, k4⟩ := cells5 hN8
    simp only [It.zero] at a0 a1 a2 a3 a4
    have H8 := hide (H7.out.below b8)
    have HM8 : Hid (Moves G G w w8) := HM7.out.trans (Moves.of_keep (Keep.of_below b8))
    clear b8 hN8 cz hlk c13 r0 r1 r2 r3 r4
    go_wp2
    refine bodyPost_ret (v := .tuple #[.agg #[.string ⟨#[]⟩, .string ⟨#[]⟩, .int .u32 0, .int .i64 0, .int .u64 0], .bool false, .int .i64 5]) (by simp [results, Tryz.results54, go_sem, *]) rfl ⟨by rw [HFN.out], S1, ?_, HLK.out, ?_⟩
    ·exact H8.out.off (put5_keep (Keep.refl [N0] w8) (.inl (List.mem_singleton.2 rfl)) It.zero) HLT7.out (by rw [<- hN0e]; exact HW0.out)
    ·exact ⟨put5_keep HM8.out.keep (.inr (by omega)) It.zero, HM8.out.foot⟩
  ·have e5 : ((y.ver : Int) < (z.ver : Int)) = False := eq_false (by omega)
   go_wp2_with fail
   have h6 := H1.out.below HB5.out
   refine (counts_any h6.box h6.jr y HY.out).mono ?_
   rintro r w7 ⟨rfl, b7⟩
   have B7 : Below w1.heap.size w1 w7 := HB5.out.trans (b7.mono HB5.out.size)
   have hr7 : Blk w7 (w1.heap.size + 1) (itL y) 39 := HYB.out.same (b7.block _ HYB.out.lt)
   clear b7 h6 e5 cA p0 p1 p2 p3 p4 q0 q1 q2 q3 q4
   have hN7 : Blk w7 N0 (itL It.zero) 39 := by rw [<- hN0e]; exact HN1.out.same (B7.block _ HS1.out)
   have h7 := H1.out.below B7
   have H7 := hide h7
   have HLT7 : Hid (∀ q, (q = x \/ q = j \/ q = m \/ q ∈ G \/ q ∈ lblocks l ml v5 v6 v7 T) -> q ≠ N0) := fun q hq e => by have := HLT.out q hq; omega
   have HV7 := hide hN7
   have HM7 : Hid (Moves G G w w7) := HM1.out.trans (Moves.of_keep (Keep.of_below B7))
   have HB7 := hide B7
   have HR := hide hr7
   obtain ⟨a0, a1, a2, a3, a4, k0, k1, k2, k3, k4⟩ := cells5 hN7
   obtain ⟨r0, r1, r2, r3, r4, _⟩ := cells5 hr7
   have c13 := h7.box.cell (i := 13) rfl
   have hlk : (Instr.lookup 102 (.map none) (.string (txt key)) false).run Tryz.prog w7 = .ok (.agg #[.string ⟨#[]⟩, .string ⟨#[]⟩, .int .u32 0, .int .i64 0, .int .u64 0]) w7 := look_none key HKM.out false w7
   have cz : Hid (Calls Tryz.prog 114 #[.pointer (some ⟨x, 0, none⟩), .agg #[.string ⟨#[]⟩, .string ⟨#[]⟩, .int .u32 0, .int .i64 0, .int .u64 0]] w7 fun e w' => e = .returned (.bool false) /\ Below w7.heap.size w7 w') := by
    have := counts_any h7.box h7.jr It.zero (Nat.zero_le _)
    rw [zero_counts] at this
    exact this
   clear hN7 h7 hr7 B7
   cases hc : E.counts J y with
   | true =>
    have hfn : E.fnd J y z = .tuple #[.agg #[.string (txt y.key), .string (txt y.value), .int .u32 y.flags, .int .i64 y.exp, .int .u64 y.ver], .bool false, .int .i64 0] := by
     unfold En.fnd fndI
     rw [if_neg hv, if_pos hc, decide_eq_false hv]
     rfl
    have HFN := hide hfn
    clear hfn hc cz hlk c13 hv
    simp only [It.zero] at a0 a1 a2 a3 a4
    go_wp2
    refine bodyPost_ret (v := .tuple #[.agg #[.string (txt y.key), .string (txt y.value), .int .u32 y.flags, .int .i64 y.exp, .int .u64 y.ver], .bool false, .int .i64 0]) (by simp [results, Tryz.results54, go_sem, *]) rfl ⟨by rw [HFN.out], S1, ?_, HLK.out, ?_⟩
    ·exact H7.out.off (put5_keep (Keep.refl [N0] w7) (.inl (List.mem_singleton.2 rfl)) y) HLT7.out (by rw [<- hN0e]; exact HW0.out)
    ·exact ⟨put5_keep HM7.out.keep (.inr (by omega)) y, HM7.out.foot⟩
   | false =>
    have hfn : E.fnd J y z = .tuple #[.agg #[.string ⟨#[]⟩, .string ⟨#[]⟩, .int .u32 0, .int .i64 0, .int .u64 0], .bool false, .int .i64 5] := by
     unfold En.fnd fndI
     rw [if_neg hv, if_neg (by rw [hc]; decide)]
     rfl
    have HFN := hide hfn
    clear hfn hc hv a0 a1 a2 a3 a4 k0 k1 k2 k3 k4
    go_wp2_with fail
    refine cz.out.mono ?_
    rintro r w8 ⟨rfl, b8⟩
    have hN8 : Blk w8 N0 (itL It.zero) 39 := HV7.out.same (b8.block _ HV7.out.lt)
    obtain ⟨a0, a1, a2, a3, a4, k0, k1, k2, k3, k4⟩ := cells5 hN8
    simp only [It.zero] at a0 a1 a2 a3 a4
    have H8 := hide (H7.out.below b8)
    have HM8 : Hid (Moves G G w w8) := HM7.out.trans (Moves.of_keep (Keep.of_below b8))
    clear b8 hN8 cz hlk c13 r0 r1 r2 r3 r4
    go_wp2
    refine bodyPost_ret (v := .tuple #[.agg #[.string ⟨#[]⟩, .string ⟨#[]⟩, .int .u32 0, .int .i64 0, .int .u64 0], .bool false, .int .i64 5]) (by simp [results, Tryz.results54, go_sem, *]) rfl ⟨by rw [HFN.out], S1, ?_, HLK.out, ?_⟩
    ·exact H8.out.off (put5_keep (Keep.refl [N0] w8) (.inl (List.mem_singleton.2 rfl)) It.zero) HLT7.out (by rw [<- hN0e]; exact HW0.out)
    ·exact ⟨put5_keep HM8.out.keep (.inr (by omega)) It.zero, HM8.out.foot⟩
 ·simp only [hN0e]
  go_wp2_with fail
  refine CL.out.mono ?_
  rintro r w4 ⟨rfl, b4⟩
  have hs4 := b4.size
  rw [HZ3.out] at hs4
  have hb4 : Below w1.heap.size w1 w4 := HB3.out.trans (b4.mono (by rw [HZ3.out]; omega))
  have hy4 : Blk w4 w1.heap.size (itL y) 39 := HY1.out.same (b4.block _ (by rw [HZ3.out]; omega))
  have hy5 : Blk w4 (w1.heap.size + 1) (itL y) 39 := HY2.out.same (b4.block _ (by rw [HZ3.out]; omega))
  have hyA : Blk (w4.alloc (.cells #[.string (txt z.key), .string (txt z.value), .int .u32 z.flags, .int .i64 z.exp, .int .u64 z.ver] 39)) w1.heap.size (itL y) 39 := hy4.same (blk_alloc_lt _ _ _ hy4.lt)
  have hyB : Blk (w4.alloc (.cells #[.string (txt z.key), .string (txt z.value), .int .u32 z.flags, .int .i64 z.exp, .int .u64 z.ver] 39)) (w1.heap.size + 1) (itL y) 39 := hy5.same (blk_alloc_lt _ _ _ hy5.lt)
  have hb5 : Below w1.heap.size w1 (w4.alloc (.cells #[.string (txt z.key), .string (txt z.value), .int .u32 z.flags, .int .i64 z.exp, .int .u64 z.ver] 39)) := hb4.alloc (by omega) _
  have cA := hyA.cell (i := 4) rfl
  obtain ⟨p0, p1, p2, p3, p4, q0, q1, q2, q3, q4⟩ := cells5 hyB
  have HYB := hide hyB
  have HB5 := hide hb5
  have hN12 : Hid (w1.heap.size <= w1.heap.size + 1) := Nat.le_succ _
  clear CL HB3 HZ3 HY1 HY2 b4 hs4 hb4 hy4 hy5 hyA hyB hb5 c12
  have HS1' : Hid (N0 < w1.heap.size) := by rw [<- hN0e]; exact HS1.out
  by_cases hv : y.ver < z.ver
  ·have e5 : ((y.ver : Int) < (z.ver : Int)) = True := eq_true (by omega)
   go_wp2_with fail
   have B6 : Below w1.heap.size w1 (put5 (w4.alloc (.cells #[.string (txt z.key), .string (txt z.value), .int .u32 z.flags, .int .i64 z.exp, .int .u64 z.ver] 39)) (w1.heap.size + 1) z) := put5_below HB5.out hN12.out HB5.out.size z
   have h6 := H1.out.below B6
   refine (counts_any h6.box h6.jr z HZ.out).mono ?_
   rintro r w7 ⟨rfl, b7⟩
   have B7 : Below w1.heap.size w1 w7 := B6.trans (b7.mono B6.size)
   have hz6 := put5_blk HYB.out z
   have hr7 : Blk w7 (w1.heap.size + 1) (itL z) 39 := hz6.same (b7.block _ hz6.lt)
   clear b7 B6 h6 hz6 e5 cA p0 p1 p2 p3 p4 q0 q1 q2 q3 q4
   have hN7 : Blk w7 N0 (itL It.zero) 39 := by rw [<- hN0e]; exact HN1.out.same (B7.block _ HS1.out)
   have h7 := H1.out.below B7
   have H7 := hide h7
   have HLT7 : Hid (∀ q, (q = x \/ q = j \/ q = m \/ q ∈ G \/ q ∈ lblocks l ml v5 v6 v7 T) -> q ≠ N0) := fun q hq e => by have := HLT.out q hq; omega
   have HV7 := hide hN7
   have HM7 : Hid (Moves G G w w7) := HM1.out.trans (Moves.of_keep (Keep.of_below B7))
   have HB7 := hide B7
   have HR := hide hr7
   obtain ⟨a0, a1, a2, a3, a4, k0, k1, k2, k3, k4⟩ := cells5 hN7
   obtain ⟨r0, r1, r2, r3, r4, _⟩ := cells5 hr7
   have c13 := h7.box.cell (i := 13) rfl
   have hlk : (Instr.lookup 102 (.map none) (.string (txt key)) false).run Tryz.prog w7 = .ok (.agg #[.string ⟨#[]⟩, .string ⟨#[]⟩, .int .u32 0, .int .i64 0, .int .u64 0]) w7 := look_none key HKM.out false w7
   have cz : Hid (Calls Tryz.prog 114 #[.pointer (some ⟨x, 0, none⟩), .agg #[.string ⟨#[]⟩, .string ⟨#[]⟩, .int .u32 0, .int .i64 0, .int .u64 0]] w7 fun e w' => e = .returned (.bool false) /\ Below w7.heap.size w7 w') := by
    have := counts_any h7.box h7.jr It.zero (Nat.zero_le _)
    rw [zero_counts] at this
    exact this
   clear hN7 h7 hr7 B7
   cases hc : E.counts J z with
   | true =>
    have hfn : E.fnd J y z = .tuple #[.agg #[.string (txt z.key), .string (txt z.value), .int .u32 z.flags, .int .i64 z.exp, .int .u64 z.ver], .bool true, .int .i64 0] := by
     unfold En.fnd fndI
     rw [if_pos hv, if_pos hc, decide_eq_true hv]
     rfl
    have HFN := hide hfn
    clear hfn hc cz hlk c13 hv
    simp only [It.zero] at a0 a1 a2 a3 a4
    go_wp2
    refine bodyPost_ret (v := .tuple #[.agg #[.string (txt z.key), .string (txt z.value), .int .u32 z.flags, .int .i64 z.exp, .int .u64 z.ver], .bool true, .int .i64 0]) (by simp [results, Tryz.results54, go_sem, *]) rfl ⟨by rw [HFN.out], S1, ?_, HLK.out, ?_⟩
    ·exact H7.out.off (put5_keep (Keep.refl [N0] w7) (.inl (List.mem_singleton.2 rfl)) z) HLT7.out (by rw [<- hN0e]; exact HW0.out)
    ·exact ⟨put5_keep HM7.out.keep (.inr (by omega)) z, HM7.out.foot⟩
   | false =>
    have hfn : E.fnd J y z = .tuple #[.agg #[.string ⟨#[]⟩, .string ⟨#[]⟩, .int .u32 0, .int .i64 0, .int .u64 0], .bool false, .int .i64 5] := by
     unfold En.fnd fndI
     rw [if_pos hv, if_neg (by rw [hc]; decide)]
     rfl
    have HFN := hide hfn
    clear hfn hc hv a0 a1 a2 a3 a4 k0 k1 k2 k3 k4
    go_wp2_with fail
    refine cz.out.mono ?_
    rintro r w8 ⟨rfl, b8⟩
    have hN8 : Blk w8 N0 (itL It.zero) 39 := HV7.out.same (b8.block _ HV7.out.lt)
    obtain ⟨a0, a1, a2, a3, a4, k0, k1, k2, k3, k4⟩ := cells5 hN8
    simp only [It.zero] at a0 a1 a2 a3 a4
    have H8 := hide (H7.out.below b8)
    have HM8 : Hid (Moves G G w w8) := HM7.out.trans (Moves.of_keep (Keep.of_below b8))
    clear b8 hN8 cz hlk c13 r0 r1 r2 r3 r4
    go_wp2
    refine bodyPost_ret (v := .tuple #[.agg #[.string ⟨#[]⟩, .string ⟨#[]⟩, .int .u32 0, .int .i64 0, .int .u64 0], .bool false, .int .i64 5]) (by simp [results, Tryz.results54, go_sem, *]) rfl ⟨by rw [HFN.out], S1, ?_, HLK.out, ?_⟩
    ·exact H8.out.off (put5_keep (Keep.refl [N0] w8) (.inl (List.mem_singleton.2 rfl)) It.zero) HLT7.out (by rw [<- hN0e]; exact HW0.out)
    ·exact ⟨put5_keep HM8.out.keep (.inr (by omega)) It.zero, HM8.out.foot⟩
  ·have e5 : ((y.ver : Int) < (z.ver : Int)) = False := eq_false (by omega)
   go_wp2_with fail
   have h6 := H1.out.below HB5.out
   refine (counts_any h6.box h6.jr y HY.out).mono ?_
   rintro r w7 ⟨rfl, b7⟩
   have B7 : Below w1.heap.size w1 w7 := HB5.out.trans (b7.mono HB5.out.size)
   have hr7 : Blk w7 (w1.heap.size + 1) (itL y) 39 := HYB.out.same (b7.block _ HYB.out.lt)
   clear b7 h6 e5 cA p0 p1 p2 p3 p4 q0 q1 q2 q3 q4
   have hN7 : Blk w7 N0 (itL It.zero) 39 := by rw [<- hN0e]; exact HN1.out.same (B7.block _ HS1.out)
   have h7 := H1.out.below B7
   have H7 := hide h7
   have HLT7 : Hid (∀ q, (q = x \/ q = j \/ q = m \/ q ∈ G \/ q ∈ lblocks l ml v5 v6 v7 T) -> q ≠ N0) := fun q hq e => by have := HLT.out q hq; omega
   have HV7 := hide hN7
   have HM7 : Hid (Moves G G w w7) := HM1.out.trans (Moves.of_keep (Keep.of_below B7))
   have HB7 := hide B7
   have HR := hide hr7
   obtain ⟨a0, a1, a2, a3, a4, k0, k1, k2, k3, k4⟩ := cells5 hN7
   obtain ⟨r0, r1, r2, r3, r4, _⟩ := cells5 hr7
   have c13 := h7.box.cell (i := 13) rfl
   have hlk : (Instr.lookup 102 (.map none) (.string (txt key)) false).run Tryz.prog w7 = .ok (.agg #[.string ⟨#[]⟩, .string ⟨#[]⟩, .int .u32 0, .int .i64 0, .int .u64 0]) w7 := look_none key HKM.out false w7
   have cz : Hid (Calls Tryz.prog 114 #[.pointer (some ⟨x, 0, none⟩), .agg #[.string ⟨#[]⟩, .string ⟨#[]⟩, .int .u32 0, .int .i64 0, .int .u64 0]] w7 fun e w' => e = .returned (.bool false) /\ Below w7.heap.size w7 w') := by
    have := counts_any h7.box h7.jr It.zero (Nat.zero_le _)
    rw [zero_counts] at this
    exact this
   clear hN7 h7 hr7 B7
   cases hc : E.counts J y with
   | true =>
    have hfn : E.fnd J y z = .tuple #[.agg #[.string (txt y.key), .string (txt y.value), .int .u32 y.flags, .int .i64 y.exp, .int .u64 y.ver], .bool false, .int .i64 0] := by
     unfold En.fnd fndI
     rw [if_neg hv, if_pos hc, decide_eq_false hv]
     rfl
    have HFN := hide hfn
    clear hfn hc cz hlk c13 hv
    simp only [It.zero] at a0 a1 a2 a3 a4
    go_wp2
    refine bodyPost_ret (v := .tuple #[.agg #[.string (txt y.key), .string (txt y.value), .int .u32 y.flags, .int .i64 y.exp, .int .u64 y.ver], .bool false, .int .i64 0]) (by simp [results, Tryz.results54, go_sem, *]) rfl ⟨by rw [HFN.out], S1, ?_, HLK.out, ?_⟩
    ·exact H7.out.off (put5_keep (Keep.refl [N0] w7) (.inl (List.mem_singleton.2 rfl)) y) HLT7.out (by rw [<- hN0e]; exact HW0.out)
    ·exact ⟨put5_keep HM7.out.keep (.inr (by omega)) y, HM7.out.foot⟩
   | false =>
    have hfn : E.fnd J y z = .tuple #[.agg #[.string ⟨#[]⟩, .string ⟨#[]⟩, .int .u32 0, .int .i64 0, .int .u64 0], .bool false, .int .i64 5] := by
     unfold En.fnd fndI
     rw [if_neg hv, if_neg (by rw [hc]; decide)]
     rfl
    have HFN := hide hfn
    clear hfn hc hv a0 a1 a2 a3 a4 k0 k1 k2 k3 k4
    go_wp2_with fail
    refine cz.out.mono ?_
    rintro r w8 ⟨rfl, b8⟩
    have hN8 : Blk w8 N0 (itL It.zero) 39 := HV7.out.same (b8.block _ HV7.out.lt)
    obtain ⟨a0, a1, a2, a3, a4, k0, k1, k2, k3, k4⟩ := cells5 hN8
    simp only [It.zero] at a0 a1 a2 a3 a4
    have H8 := hide (H7.out.below b8)
    have HM8 : Hid (Moves G G w w8) := HM7.out.trans (Moves.of_keep (Keep.of_below b8))
    clear b8 hN8 cz hlk c13 r0 r1 r2 r3 r4
    go_wp2
    refine bodyPost_ret (v := .tuple #[.agg #[.string ⟨#[]⟩, .string ⟨#[]⟩, .int .u32 0, .int .i64 0, .int .u64 0], .bool false, .int .i64 5]) (by simp [results, Tryz.results54, go_sem, *]) rfl ⟨by rw [HFN.out], S1, ?_, HLK.out, ?_⟩
    ·exact H8.out.off (put5_keep (Keep.refl [N0] w8) (.inl (List.mem_singleton.2 rfl)) It.zero) HLT7.out (by rw [<- hN0e]; exact HW0.out)
    ·exact ⟨put5_keep HM8.out.keep (.inr (by omega)) It.zero, HM8.out.foot⟩
end
end Go.Proofs.YtcdghalnneilpaaGreat
