/- Joined texts. -/
import Derived.LaidEqlPtr
import Derived.Test.YtcdghalnneilpaaGreatR11
set_option linter.unusedVariables false
set_option linter.unusedSimpArgs false
set_option maxRecDepth 8000
set_option maxHeartbeats 8000000
namespace Go.Proofs.YtcdghalnneilpaaGreat
open Go.RowKit Go.Deep Math
theorem wpList_delete_run {P : Program} {w : World} {ops : Array Oper} {rest : List Oper} {o : Oper} {a : Act} {Q : Exit -> Act -> World -> Prop} (hg : o.guard = none) (m x : Operand) (t k : TypeId) (hop : o.op = Op.call { callee := Callee.builtin Builtin.delete, args := #[m, x], argTypes := #[t, k] })
  (vm vk : Value) (hm : a.eval m = vm) (hx : a.eval x = vk) (w' : World) (hr : (Builtin.delete_ #[t, k] o.type #[vm, vk]).run P w = .ok (.tuple #[]) w') (h : wpList P ops Q rest (a.put o.dst (.tuple #[])) w') : wpList P ops Q (o :: rest) a w := by
 refine wpList_plain hg fun K' hK' => ?_
 unfold Oper.wp
 simp [execOp, hop, resolve, invoke, builtin, hm, hx, hr, Result.andThen]
 exact hK' _ _ h
section
variable {w : World} {l d m : Nat} {v5 v6 v7 : Value} {T : Lg}
theorem where_any (h : LgIn w l d m v5 v6 v7 T) (place at0 : Nat) (hf : T.first <= 4096) (hp : place <= 64) (ha : at0 <= 4) :
  Calls Tryz.prog 174 #[.pointer (some ⟨l, 0, none⟩), .int .i64 place, .int .i64 at0] w fun e w' => e = .returned (.int .i64 (T.first + 4 * place + at0 : Nat)) /\ w' = w := by
 have c2 := h.box.cell (i := 2) rfl
 obtain ⟨k, hk⟩ : ∃ k, k = T.first + 4 * place + at0 := ⟨_, rfl⟩
 have e1 : wrap64 (4 * (place : Int)) = 4 * (place : Int) := by unfold wrap64; omega
 generalize T.first = f at *
 have HK := hide hk
 have HF := hide hf
 have HP := hide hp
 have HA := hide ha
 rw [<- hk]
 clear h hk hf
 go_enter Tryz.func174, Tryz.ntmps174
 have hf2 : (f : Int) <= 4096 := by have := HF.out; omega
 go_wp2
 go_ret
 refine ⟨ret_int ?_, rfl⟩
 have := HK.out
 omega
theorem may_log (h : LgIn w l d m v5 v6 v7 T) (k : List UInt8) (hk : k.length <= 140737488351232) : Calls Tryz.prog 86 #[.pointer (some ⟨l, 0, none⟩), .string (txt k)] w fun e w' => e = .returned (.bool (T.has k).isSome) /\ w' = w := by
 have c8 := h.box.cell (i := 8) rfl
 have hl := h.map.look_ok k (Nat.le_trans hk (by decide))
 clear h
 generalize txt k = kb at *
 generalize hv : ptrV (T.has k) = pv at *
 generalize hb : (T.has k).isSome = pb at *
 clear hv hb
 go_enter Tryz.func86, Tryz.ntmps86
 go_wp2
 go_ret
 exact ⟨rfl, rfl⟩
theorem get_none (h : LgIn w l d m v5 v6 v7 T) (k : List UInt8) (hk : k.length <= 140737488351232) (hn : T.has k = none) : Calls Tryz.prog 113 #[.pointer (some ⟨l, 0, none⟩), .string (txt k)] w fun e w' => e = .returned (.tuple #[It.zero.val, .int .i64 5]) /\ Below w.heap.size w w' := by
 have hA := h.alloc (.cells #[.string ⟨#[]⟩, .string ⟨#[]⟩, .int .u32 0, .int .i64 0, .int .u64 0] 39)
 have c8 := hA.box.cell (i := 8) rfl
 have hl := hA.map.look_ok k (Nat.le_trans hk (by decide))
 rw [hn] at hl
 have B := hide ((Below.refl w.heap.size w).alloc (Nat.le_refl _) (.cells #[.string ⟨#[]⟩, .string ⟨#[]⟩, .int .u32 0, .int .i64 0, .int .u64 0] 39))
 clear h hA hn
 simp only [ptrV, Option.isSome_none] at hl
 generalize txt k = kb at *
 go_enter Tryz.func113, Tryz.ntmps113
 go_wp2
 exact bodyPost_ret (v := .tuple #[It.zero.val, .int .i64 5]) (by simp [results, Tryz.results113, go_sem, It.val, It.zero, itV, txt]) rfl ⟨rfl, B.out⟩
theorem get_some (h : LgIn w l d m v5 v6 v7 T) (k : List UInt8) (hk : k.length <= 140737488351232) (t : Th) (ht : ThAt w t) (hn : T.has k = some t.pos) : Calls Tryz.prog 113 #[.pointer (some ⟨l, 0, none⟩), .string (txt k)] w fun e w' => e = .returned (.tuple #[t.it.val, .int .i64 0]) /\ Below w.heap.size w w' := by
 have hA := h.alloc (.cells #[.string ⟨#[]⟩, .string ⟨#[]⟩, .int .u32 0, .int .i64 0, .int .u64 0] 39)
 have hT := ht.same (w' := w.alloc (.cells #[.string ⟨#[]⟩, .string ⟨#[]⟩, .int .u32 0, .int .i64 0, .int .u64 0] 39)) (blk_alloc_lt _ _ _ ht.lt)
 have c8 := hA.box.cell (i := 8) rfl
 have hl := hA.map.look_ok k (Nat.le_trans hk (by decide))
 rw [hn] at hl
 obtain ⟨t0, t1, t2, t3, t4⟩ := hT.one.vals
 have B := hide ((Below.refl w.heap.size w).alloc (Nat.le_refl _) (.cells #[.string ⟨#[]⟩, .string ⟨#[]⟩, .int .u32 0, .int .i64 0, .int .u64 0] 39))
 have hlt := ht.lt
 obtain ⟨tb, to, x⟩ := t
 simp only at t0 t1 t2 t3 t4 hlt
 clear h hA hn ht hT
 simp only [ptrV, Th.pos, Option.isSome_some] at hl
 generalize txt k = kb at *
 have ev : x.val = itV (txt x.key) (txt x.value) x.flags x.exp x.ver := rfl
 simp only
 rw [ev]
 generalize txt x.key = xk at *
 generalize txt x.value = xv at *
 go_enter Tryz.func113, Tryz.ntmps113
 go_wp2
 exact bodyPost_ret (v := .tuple #[itV xk xv x.flags x.exp x.ver, .int .i64 0]) (by simp [results, Tryz.results113, go_sem, itV]) rfl ⟨rfl, (Below.refl _ _).alloc (Nat.le_refl _) _⟩
theorem LgIn.notM (h : LgIn w l d m v5 v6 v7 T) {q : Nat} {c : Array Value} {e : TypeId} {f : Nat × Nat} (hq : w.heap[q]? = some (.cells c e f)) : q ≠ m := by
 rintro rfl
 obtain ⟨es, c', hm⟩ := h.map.isMap
 rw [hq] at hm
 cases hm
theorem LgIn.mapTurn {w' : World} {n' : Nat} {M' : List UInt8 -> Option (Nat × Nat)} (h : LgIn w l d m v5 v6 v7 T) (hm : MapAt w' m n' M') (k : Keep [m] w w') (ha : ∀ k p, M' k = some p -> ∃ t ∈ T.all, t.pos = p /\ t.it.key = k) : LgIn w' l d m v5 v6 v7 { T with cap := n', has := M' } := by
 have sm : ∀ {q : Nat} {c : Array Value} {e : TypeId} {f : Nat × Nat}, w.heap[q]? = some (.cells c e f) -> w'.heap[q]? = w.heap[q]? := fun {q c e f} hq => k.block q (Array.getElem?_eq_some_iff.1 hq).1 (by simpa using h.notM hq)
 refine ⟨h.box.same (sm h.box), own_same h.sld (fun q hq => ?_), fun r hr => own_same (h.rows r hr) (fun q hq => ?_), own_same h.opn (fun q hq => ?_), own_same h.cont (fun q hq => ?_), hm, fun t ht => ?_, h.apart, ha⟩
 ·obtain ⟨c, hc⟩ := own_ty h.sld hq; exact sm hc
 ·obtain ⟨c, hc⟩ := own_ty (h.rows r hr) hq; exact sm hc
 ·obtain ⟨c, hc⟩ := own_ty h.opn hq; exact sm hc
 ·obtain ⟨c, hc⟩ := own_ty h.cont hq; exact sm hc
 ·obtain ⟨c, hc⟩ := (h.ths t ht).ty
  exact (h.ths t ht).same (sm hc)
def Lg.drop (T : Lg) (k : List UInt8) : Lg := { T with has := updK T.has k none }
theorem drop_log (h : LgIn w l d m v5 v6 v7 T) (k : List UInt8) (hk : k.length <= 140737488351232) : Calls Tryz.prog 111 #[.pointer (some ⟨l, 0, none⟩), .string (txt k)] w fun e w' => e = .returned (.tuple #[]) /\ LgIn w' l d m v5 v6 v7 (T.drop k) /\ Keep [m] w w' := by
 have c8 := h.box.cell (i := 8) rfl
 obtain ⟨w2, hrun, hm, hkp, _⟩ := h.map.drop k (Nat.le_trans hk (by decide)) 0
 have E := hide (h.mapTurn hm hkp (fun x p hx => by
  by_cases e : x = k
  ·rw [e, updK_same] at hx; cases hx
  ·rw [updK_other _ _ _ _ e] at hx; exact h.hasAt x p hx))
 have K := hide hkp
 have HR := hide hrun
 clear h hm hkp hrun
 generalize txt k = kb at *
 go_enter Tryz.func111, Tryz.ntmps111
 go_wp2_with (at_delete; refine wpList_delete_run rfl _ _ _ _ rfl _ _ rfl rfl _ HR.out ?_)
 go_end0
 exact ⟨rfl, E.out, K.out⟩
end
end Go.Proofs.YtcdghalnneilpaaGreat
namespace Go.Proofs.YtcdghalnneilpaaGreat
open Go.RowKit Go.Deep Math
def Lg.cur (T : Lg) (t : Th) : Bool := decide (T.has t.it.key = some t.pos)
def Lg.hadOf (T : Lg) (ths : List Th) : List It := (ths.filter T.cur).map Th.it
theorem hadOf_append (T : Lg) (a b : List Th) : T.hadOf (a ++ b) = T.hadOf a ++ T.hadOf b := by simp [Lg.hadOf]
theorem hadOf_length (T : Lg) (a : List Th) : (T.hadOf a).length <= a.length := by unfold Lg.hadOf; rw [List.length_map]; exact List.length_filter_le _ _
theorem info36 : ∃ j, Tryz.prog.info? 39 = some j /\ j.size ≠ 0 := by
 obtain ⟨i0, hi0, hp0⟩ := Option.map_eq_some_iff.1 info30
 simp only [Prod.mk.injEq] at hp0
 exact ⟨i0, hi0, by rw [hp0.2.1]; decide⟩
theorem eq_ptr {W : World} {p : Option (Nat × Nat)} {t : Th} (ht : ThAt W t) (hp : ∀ q, p = some q -> ∃ u, ThAt W u /\ u.pos = q) : (binOp .eql 211 (ptrV p) t.ptr).run Tryz.prog W = .ok (.bool (decide (p = some t.pos))) W := by
 obtain ⟨j, hj, hsz⟩ := info36
 cases p with
 | none =>
  simp only [ptrV, Th.ptr]
  have h : ∀ d : Nat, (Go.Op.equalIn (d + 1) 211 (.pointer none) (.pointer (some ⟨t.blk, t.off, none⟩))).run Tryz.prog W = .ok false W := fun d => by
   simp [Go.Op.equalIn, run_underlying Tryz.underlying211]
  simp only [binOp]
  simp [Go.Op.equal, Go.Op.maxDepth, h 9999]
 | some q =>
  obtain ⟨u, hu, rfl⟩ := hp q rfl
  by_cases e : u.pos = t.pos
  ·have e2 : (⟨u.pos.1, u.pos.2, none⟩ : Addr) = ⟨t.blk, t.off, none⟩ := by rw [e]; rfl
   simp only [ptrV, Th.ptr]
   rw [e2, run_eql_ptr_same W _ Tryz.underlying211 hj]
   simp [e]
  ·obtain ⟨c1, h1⟩ := hu.ty
   obtain ⟨c2, h2⟩ := ht.ty
   simp only [ptrV, Th.ptr]
   rw [run_eql_ptr_other W (a := ⟨u.pos.1, u.pos.2, none⟩) (b := ⟨t.blk, t.off, none⟩) Tryz.underlying211 hj hsz (fun h => e (by simp at h; exact Prod.ext h.1 h.2)) h1 h2]
   simp [e]
theorem ptr_cell {w : World} {base : Nat} {v : Value} {n : Nat} {ths : List Th} (h : w.ownsRow base 211 1 v n (ptrCells ths)) {i : Nat} {t : Th} (ht : ths[i]? = some t) : ∃ g c, v = .slice (some ⟨g, 0, none⟩) n c /\ w.cell? ⟨g, i, none⟩ = some t.ptr /\ g ∈ own v /\ n <= c := by
 have hi : i < n := by
  have h1 := (List.getElem?_eq_some_iff.1 ht).1
  have h2 := h.1
  rw [ptrCells_length, Nat.mul_one] at h2
  omega
 rcases h.2 with ⟨_, h0⟩ | ⟨g, cap, cur, rfl, hb, hh, hc, hm, hs, htk⟩
 ·omega
 ·refine ⟨g, cap, rfl, ?_, by simp [own, Value.ownBlock], hc⟩
  have e : cur.toList[i]? = some t.ptr := by
   have h1 : (cur.toList.take (n * 1))[i]? = some t.ptr := by
    rw [htk]
    simp [ptrCells, List.getElem?_map, ht]
   rw [List.getElem?_take] at h1
   split at h1
   ·exact h1
   ·cases h1
  simp [World.cell?, hh, <- Array.getElem?_toList, e]
section
variable {w : World} {l d m : Nat} {v5 v6 v7 : Value} {T : Lg}
theorem had_any (h : LgIn w l d m v5 v6 v7 T) (B : Nat) (hB : ∀ q ∈ lblocks l m v5 v6 v7 T, q < B) (hBw : B <= w.heap.size) (ta : Option Addr) (tn tc : Nat) (xs : List It) (hto : Row w B (.slice ta tn tc) xs)
  (a : Option Addr) (n c : Nat) (ths : List Th) (hrow : w.ownsRow 0 211 1 (.slice a n c) n (ptrCells ths)) (hths : ∀ t ∈ ths, t ∈ T.all) (hrb : ∀ q ∈ own (.slice a n c), q ∈ lblocks l m v5 v6 v7 T) (hcap : xs.length + n <= 100000) :
  Calls Tryz.prog 149 #[.pointer (some ⟨l, 0, none⟩), .slice ta tn tc, .slice a n c] w fun e w' => ∃ va vn vc, e = .returned (.slice va vn vc) /\ Row w' B (.slice va vn vc) (xs ++ T.hadOf ths) /\ Keep (own (.slice ta tn tc)) w w' /\ ∀ q ∈ own (.slice va vn vc), q ∈ own (.slice ta tn tc) \/ w.heap.size <= q := by
 have hn : n = ths.length := by have := hrow.1; rw [ptrCells_length] at this; omega
 have hlow : ∀ q ∈ own (.slice ta tn tc), B <= q := fun q hq => (hto.lt q (mem_own.1 hq)).1
 have HL : Hid (∀ wr, Keep (own (.slice ta tn tc)) w wr -> LgIn wr l d m v5 v6 v7 T) := fun wr k => h.same (fun q hq => k.block q (h.lt q hq) (fun hf => by have := hlow q hf; have := hB q hq; omega))
 have HR : Hid (∀ wr, Keep (own (.slice ta tn tc)) w wr -> wr.ownsRow 0 211 1 (.slice a n c) n (ptrCells ths)) := fun wr k => own_same hrow (fun q hq => by
  have h1 := hrb q (mem_own.2 hq)
  exact k.block q (h.lt q h1) (fun hf => by have := hlow q hf; have := hB q h1; omega))
 have HT := hide hths
 have HN := hide hn
 have HC := hide hcap
 have hn5 : n <= 100000 := by omega
 have HBW := hide hBw
 have HTO := hide hto
 clear h hto hrow hths hrb hB hlow hn hcap hBw
 go_enter Tryz.func149, Tryz.ntmps149
 go_wp2_with fail
 go_loopg [1, 11] n (fun kx s1 s11 wr => ∃ (i : Nat) (va : Option Addr) (vn vc : Nat), s1 = .slice va vn vc /\ s11 = .int .i64 i /\ i <= n /\ n - i <= kx /\ Hid (Row wr B (.slice va vn vc) (xs ++ T.hadOf (ths.take i)) /\ Keep (own (.slice ta tn tc)) w wr /\ ∀ q ∈ own (.slice va vn vc), q ∈ own (.slice ta tn tc) \/ w.heap.size <= q))
 case atStart => exact ⟨0, ta, tn, tc, rfl, rfl, Nat.zero_le _, by omega, by simpa [Lg.hadOf] using HTO.out, Keep.refl _ _, fun q hq => .inl hq⟩
 case round =>
  obtain ⟨i, va, vn, vc, rfl, rfl, hin, hg, I⟩ := hrel
  by_cases hlt : i < n
  ·have hlt2 : (i : Int) < (n : Int) := by omega
   obtain ⟨t, ht⟩ : ∃ t, ths[i]? = some t := ⟨_, List.getElem?_eq_getElem (by rw [<- HN.out]; exact hlt)⟩
   obtain ⟨g, c', hv, hc, _, _⟩ := ptr_cell (HR.out wr I.out.2.1) ht
   simp only [Value.slice.injEq, true_and] at hv
   obtain ⟨rfl, rfl⟩ := hv
   have hL := HL.out wr I.out.2.1
   have hTA := hL.ths t (HT.out t (List.mem_of_getElem? ht))
   have hLd : LgIn wr.drew l d m v5 v6 v7 T := hL.heap rfl
   have c8 := hLd.box.cell (i := 8) rfl
   have hlk := hLd.map.look t.it.key (Nat.le_trans hTA.key (by decide))
   have heq := eq_ptr (W := wr.drew) (p := T.has t.it.key) (hLd.ths t (HT.out t (List.mem_of_getElem? ht))) (fun q hq => by
    obtain ⟨u, hu, hp, _⟩ := hLd.hasAt _ q hq
    exact ⟨u, hLd.ths u hu, hp⟩)
   have ET : Hid (ths.take (i + 1) = ths.take i ++ [t]) := by show _ = _; rw [List.take_add_one, ht]; rfl
   obtain ⟨t0, t1, t2, t3, t4⟩ := hTA.one.vals
   have d0 : wr.drew.cell? ⟨t.blk, t.off, none⟩ = some (.string (txt t.it.key)) := t0
   have hlen : (xs ++ T.hadOf (ths.take i)).length <= 100000 := by
    have h1 := hadOf_length T (ths.take i)
    have h2 : (ths.take i).length <= i := by rw [List.length_take]; omega
    rw [List.length_append]
    have := HC.out
    omega
   have HLEN := hide hlen
   have e0 := hide (show T.cur t = decide (T.has t.it.key = some t.pos) from rfl)
   have O := hide (show Oks [t.it] from fun z hz => by simp at hz; rw [hz]; exact ⟨hTA.fits, hTA.key, hTA.val⟩)
   have hblt := hTA.lt
   clear hTA hLd ht hL hlen
   simp only [Th.ptr] at hc heq
   obtain ⟨po, hpo⟩ : ∃ po, ptrV (T.has t.it.key) = .pointer po := by cases T.has t.it.key <;> exact ⟨_, rfl⟩
   rw [hpo] at hlk heq
   generalize hcu : decide (T.has t.it.key = some t.pos) = cu at *
   clear hpo hcu
   cases cu with
   | false =>
    have E : Hid (T.hadOf (ths.take (i + 1)) = T.hadOf (ths.take i)) := by show _ = _; rw [ET.out, hadOf_append]; simp [Lg.hadOf, e0.out]
    clear e0
    go_wp2_with fail
    go_region
    all_goals go_wp2
    all_goals go_roundg (n - (i + 1))
    all_goals first
     | omega
     | exact ⟨i + 1, va, vn, vc, rfl, rfl, by omega, by omega, by rw [E.out]; exact ⟨I.out.1.keep (fun _ _ => rfl), I.out.2.1.drew, I.out.2.2⟩⟩
   | true =>
    have E : Hid (T.hadOf (ths.take (i + 1)) = T.hadOf (ths.take i) ++ [t.it]) := by show _ = _; rw [ET.out, hadOf_append]; simp [Lg.hadOf, e0.out]
    have t0d : wr.drew.cell? ⟨t.blk, t.off, none⟩ = some (.string (txt t.it.key)) := t0
    have t1d : wr.drew.cell? ⟨t.blk, t.off + 1, none⟩ = some (.string (txt t.it.value)) := t1
    have t2d : wr.drew.cell? ⟨t.blk, t.off + 2, none⟩ = some (.int .u32 t.it.flags) := t2
    have t3d : wr.drew.cell? ⟨t.blk, t.off + 3, none⟩ = some (.int .i64 t.it.exp) := t3
    have t4d : wr.drew.cell? ⟨t.blk, t.off + 4, none⟩ = some (.int .u64 t.it.ver) := t4
    have hRd : Row wr.drew B (.slice va vn vc) (xs ++ T.hadOf (ths.take i)) := I.out.1.keep (fun _ _ => rfl)
    have hsz := I.out.2.1.size
    obtain ⟨ua, uc, w2, hrun, hrow, hkp, hblk, _⟩ := app_it hRd t.it (by have := HLEN.out; omega) (Nat.le_trans HBW.out hsz)
    have HRUN := hide hrun
    have TT : Hid (Row w2 B (.slice ua ((xs ++ T.hadOf (ths.take i)).length + 1) uc) (xs ++ T.hadOf (ths.take (i + 1))) /\ Keep (own (.slice ta tn tc)) w w2 /\ ∀ q ∈ own (.slice ua ((xs ++ T.hadOf (ths.take i)).length + 1) uc), q ∈ own (.slice ta tn tc) \/ w.heap.size <= q) := by
     refine ⟨by rw [E.out, <- List.append_assoc]; exact hrow, I.out.2.1.drew.trans hkp I.out.2.2, fun q hq => ?_⟩
     rcases hblk q hq with h1 | h1
     ·exact I.out.2.2 q h1
     ·exact .inr (Nat.le_trans hsz h1)
    clear e0 hrun hrow hkp hblk hRd hsz
    generalize (xs ++ T.hadOf (ths.take i)).length + 1 = un at *
    go_wp2_with fail
    go_region
    all_goals go_wp2_with (at_builtin; refine Lib.wpList_append_run _ rfl _ _ _ _ rfl _ _ rfl rfl _ _ (HRUN.out _) ?_)
    all_goals go_roundg (n - (i + 1))
    all_goals first
     | omega
     | exact ⟨i + 1, ua, un, uc, rfl, rfl, by omega, by omega, TT.out⟩
  ·obtain rfl : i = n := by omega
   have hlt2 : ¬ (i : Int) < (i : Int) := by omega
   have I' := I.out
   rw [HN.out, List.take_length] at I'
   have II := hide I'
   clear I'
   go_wp2
   go_ret
   exact ⟨va, vn, vc, rfl, II.out⟩
end
end Go.Proofs.YtcdghalnneilpaaGreat
namespace Go.Proofs.YtcdghalnneilpaaGreat
open Go.RowKit Go.Deep Math
def Lg.items (T : Lg) : List It := T.hadOf T.all
theorem rg_cell {w : World} {base : Nat} {v : Value} {n : Nat} {rs : List Rg} (h : w.ownsRow base 206 3 v n (rgRow rs)) {i : Nat} {r : Rg} (hr : rs[i]? = some r) : ∃ g c, v = .slice (some ⟨g, 0, none⟩) n c /\ w.cell? ⟨g, i * 3, none⟩ = some (.int .i64 r.place) /\ w.cell? ⟨g, i * 3 + 1, none⟩ = some (.int .u64 r.num) /\ w.cell? ⟨g, i * 3 + 2, none⟩ = some r.v /\ g ∈ own v /\ n <= c := by
 have hi : i < rs.length := (List.getElem?_eq_some_iff.1 hr).1
 have hn : n = rs.length := by have := h.1; rw [rgRow_length] at this; omega
 rcases h.2 with ⟨_, h0⟩ | ⟨g, cap, cur, rfl, hb, hh, hc, hm, hs, htk⟩
 ·omega
 ·obtain ⟨A, B, e, hA⟩ : ∃ A B, rs = A ++ r :: B /\ A.length = i := by
   obtain ⟨hi, he⟩ := List.getElem?_eq_some_iff.1 hr
   refine ⟨rs.take i, rs.drop (i + 1), ?_, by simp; omega⟩
   rw [<- he, <- List.drop_eq_getElem_cons hi, List.take_append_drop]
  have key : ∀ j v, j < 3 -> (rgCells r)[j]? = some v -> w.cell? ⟨g, i * 3 + j, none⟩ = some v := fun j v hj hv => by
   have h1 : (cur.toList.take (n * 3))[i * 3 + j]? = some v := by
    rw [htk, e, <- hA, <- hv]
    exact flat_get rgCells 3 (fun _ => rfl) A r B j hj
   rw [List.getElem?_take] at h1
   split at h1
   ·simp [World.cell?, hh, <- Array.getElem?_toList, h1]
   ·cases h1
  exact ⟨g, cap, rfl, key 0 _ (by omega) rfl, key 1 _ (by omega) rfl, key 2 _ (by omega) rfl, by simp [own, Value.ownBlock], hc⟩
theorem own_slice {w : World} {base : Nat} {e : TypeId} {sz : Nat} {v : Value} {n : Nat} {xs : List Value} (h : w.ownsRow base e sz v n xs) : ∃ a c, v = .slice a n c := by
 rcases h.2 with ⟨h1, h0⟩ | ⟨g, cap, cur, hv, _⟩
 ·exact ⟨none, 0, by rw [h1, h0]⟩
 ·exact ⟨_, _, hv⟩
theorem mem_all_regs {T : Lg} {r : Rg} (hr : r ∈ T.regs) {t : Th} (ht : t ∈ r.ths) : t ∈ T.all := List.mem_append.2 (.inl (List.mem_flatMap.2 ⟨r, hr, ht⟩))
section
variable {w : World} {l d m : Nat} {v5 v6 v7 : Value} {T : Lg}
theorem items_log (h : LgIn w l d m v5 v6 v7 T) (hcap : T.all.length <= 40000) (hr64 : T.regs.length <= 100) :
  Calls Tryz.prog 96 #[.pointer (some ⟨l, 0, none⟩)] w fun e w' => ∃ va vn vc, e = .returned (.slice va vn vc) /\ vn = T.items.length /\ Row w' w.heap.size (.slice va vn vc) T.items /\ Below w.heap.size w w' := by
 obtain ⟨a5, c5', rfl⟩ := own_slice h.sld
 obtain ⟨a6, c6', rfl⟩ := own_slice h.opn
 have c5 := h.box.cell (i := 5) rfl
 have H := hide h
 have hall : (T.regs.flatMap Rg.ths).length + T.opn.length <= 40000 := by rw [<- List.length_append]; exact hcap
 have HC := hide hall
 have HB : Hid (∀ wr, Below w.heap.size w wr -> LgIn wr l d m (.slice a5 T.regs.length c5') (.slice a6 T.opn.length c6') v7 T) := fun wr b => h.below b
 clear h hcap hall
 obtain ⟨n5, hn5⟩ : ∃ n5, n5 = T.regs.length := ⟨_, rfl⟩
 obtain ⟨n6, hn6⟩ : ∃ n6, n6 = T.opn.length := ⟨_, rfl⟩
 have HN5 := hide hn5
 have HN6 := hide hn6
 rw [<- hn5] at c5 H HB hr64
 rw [<- hn6] at H HB
 have ITM : Hid (T.items = T.hadOf (T.regs.flatMap Rg.ths) ++ T.hadOf T.opn) := by show _ = _; unfold Lg.items Lg.all; rw [hadOf_append]
 clear hn5 hn6
 go_enter Tryz.func96, Tryz.ntmps96
 go_wp2_with fail
 go_loopg [3, 11] n5 (fun kx s3 s11 wr => ∃ (i : Nat) (va : Option Addr) (vn vc : Nat), s3 = .slice va vn vc /\ s11 = .int .i64 i /\ i <= n5 /\ n5 - i <= kx /\ Hid (Row wr w.heap.size (.slice va vn vc) (T.hadOf ((T.regs.take i).flatMap Rg.ths)) /\ Below w.heap.size w wr))
 case atStart => exact ⟨0, none, 0, 0, rfl, rfl, Nat.zero_le _, by omega, Row.nil _ _, Below.refl _ _⟩
 case round =>
  obtain ⟨i, va, vn, vc, rfl, rfl, hin, hg, I⟩ := hrel
  by_cases hlt : i < n5
  ·have hlt2 : (i : Int) < (n5 : Int) := by omega
   obtain ⟨r, hr⟩ : ∃ r, T.regs[i]? = some r := ⟨_, List.getElem?_eq_getElem (by rw [<- HN5.out]; exact hlt)⟩
   have hmem := List.mem_of_getElem? hr
   have hL := HB.out wr I.out.2
   have hsl := hL.sld
   rw [<- HN5.out] at hsl
   obtain ⟨g, c', hv, k0, k1, k2, _, _⟩ := rg_cell hsl hr
   simp only [Value.slice.injEq, true_and] at hv
   obtain ⟨rfl, rfl⟩ := hv
   have hrow := hL.rows r hmem
   obtain ⟨ra, rc, hrv⟩ := own_slice hrow
   rw [hrv] at k2 hrow
   have ET : Hid ((T.regs.take (i + 1)).flatMap Rg.ths = (T.regs.take i).flatMap Rg.ths ++ r.ths) := by show _ = _; rw [List.take_add_one, hr]; simp
   have hlenT : ((T.regs.take (i + 1)).flatMap Rg.ths).length <= 40000 := by
    have h1 : (T.regs.flatMap Rg.ths).length = ((T.regs.take (i + 1)).flatMap Rg.ths).length + ((T.regs.drop (i + 1)).flatMap Rg.ths).length := by
     rw [<- List.length_append, <- List.flatMap_append, List.take_append_drop]
    have := HC.out
    omega
   rw [ET.out, List.length_append] at hlenT
   have hhl := hadOf_length T ((T.regs.take i).flatMap Rg.ths)
   have hrb : ∀ q ∈ own (.slice ra r.ths.length rc), q ∈ lblocks l m (.slice (some ⟨g, 0, none⟩) n5 c5') (.slice a6 n6 c6') v7 T := fun q hq => List.mem_append.2 (.inr (List.mem_append.2 (.inl (List.mem_flatMap.2 ⟨r, hmem, by rw [hrv]; exact hq⟩))))
   have cH : Hid (∀ W, Below wr.heap.size wr W -> Calls Tryz.prog 149 #[.pointer (some ⟨l, 0, none⟩), .slice va vn vc, .slice ra r.ths.length rc] W fun e w' => ∃ va' vn' vc', e = .returned (.slice va' vn' vc') /\ Row w' w.heap.size (.slice va' vn' vc') (T.hadOf ((T.regs.take (i + 1)).flatMap Rg.ths)) /\ Below w.heap.size w w') := fun W b => by
    have bw := I.out.2.trans (b.mono I.out.2.size)
    have hRW := I.out.1.below b
    refine (had_any (hL.below b) w.heap.size (fun q hq => H.out.lt q hq) bw.size va vn vc _ hRW ra _ rc r.ths (own_same hrow (fun q hq => b.block q (hL.lt q (hrb q (mem_own.2 hq))))) (fun t ht => mem_all_regs hmem ht) hrb (by omega)).mono ?_
    rintro e w' ⟨va', vn', vc', rfl, h1, h2, _⟩
    refine ⟨va', vn', vc', rfl, by rw [ET.out, hadOf_append]; exact h1, bw.trans (h2.below (fun q hq => (hRW.lt q (mem_own.1 hq)).1) bw.size)⟩
   clear hL hsl hrow hrb hlenT hhl hr hmem hrv ET
   generalize r.ths.length = rn at *
   generalize (r.place : Int) = rp at *
   generalize (r.num : Int) = rnum at *
   go_wp2_with fail
   refine (cH.out _ ((Below.refl _ _).alloc (Nat.le_refl _) _)).mono ?_
   rintro e w2 ⟨va', vn', vc', rfl, h1, h2⟩
   have H1 := hide (And.intro h1 h2)
   clear h1 h2 cH
   go_wp2
   go_roundg (n5 - (i + 1))
   case measure => omega
   case rel => exact ⟨i + 1, va', vn', vc', rfl, rfl, by omega, by omega, H1.out⟩
  ·obtain rfl : i = n5 := by omega
   have hlt2 : ¬ (i : Int) < (i : Int) := by omega
   have I' := I.out
   rw [HN5.out, List.take_length] at I'
   have hL := HB.out wr I'.2
   have c6 := hL.box.cell (i := 6) rfl
   have hop := hL.opn
   have hhl := hadOf_length T (T.regs.flatMap Rg.ths)
   have hcc := HC.out
   have cH := hide (had_any hL w.heap.size (fun q hq => H.out.lt q hq) I'.2.size va vn vc _ I'.1 a6 T.opn.length c6' T.opn (by rw [<- HN6.out] at hop ⊢; exact hop) (fun t ht => List.mem_append.2 (.inr ht)) (fun q hq => List.mem_append.2 (.inl (by rw [<- HN6.out] at hq; simp [lfoot, hq]))) (by omega))
   rw [<- HN6.out] at cH
   have II := hide I'
   clear I' hL hop hhl hcc
   go_wp2_with fail
   refine cH.out.mono ?_
   rintro e w2 ⟨va', vn', vc', rfl, h1, h2, _⟩
   have T1 : Hid (vn' = T.items.length /\ Row w2 w.heap.size (.slice va' vn' vc') T.items /\ Below w.heap.size w w2) := by
    rw [<- ITM.out] at h1
    obtain ⟨_, _, he⟩ := h1.sl
    simp only [Value.slice.injEq] at he
    exact ⟨he.2.1, h1, II.out.2.trans (h2.below (fun q hq => (II.out.1.lt q (mem_own.1 hq)).1) II.out.2.size)⟩
   clear h1 h2 cH
   go_wp2
   go_ret
   exact ⟨va', vn', vc', rfl, T1.out⟩
end
end Go.Proofs.YtcdghalnneilpaaGreat
namespace Go.Proofs.YtcdghalnneilpaaGreat
open Go.RowKit Go.Deep Math
def isForm (l : List UInt8) : Bool := decide (sl l 0 2 = [82, 71]) && (decide (l.getD 3 0 = 0) && decide (up (sl l 4 8) <= 368))
def fmPlace (l : List UInt8) : Nat := (l.getD 2 0).toNat
def fmNum (l : List UInt8) : Nat := up (sl l 8 16)
def fmLen (l : List UInt8) : Nat := up (sl l 4 8)
def fmV (g : Nat) (l : List UInt8) : Value := .agg #[.int .u8 (fmPlace l), .int .u64 (fmNum l), .slice (some ⟨g, 16, none⟩) (fmLen l) 368]
theorem fmLen_lt (l : List UInt8) : fmLen l < 18446744073709551616 := by
 have h1 := up_lt (sl l 4 8)
 have h2 : (sl l 4 8).length <= 8 := by unfold sl; rw [List.length_drop, List.length_take]; omega
 exact Nat.lt_of_lt_of_le h1 (Nat.le_trans (Nat.pow_le_pow_right (by decide) h2) (by decide))
theorem formed_no (g : Nat) (l : List UInt8) (w : World) (h : BS w (some ⟨g, 0, none⟩) 384 384 l) (hf : isForm l = false) :
  Calls Tryz.prog 185 #[.slice (some ⟨g, 0, none⟩) 384 384] w fun e w' => e = .returned (.tuple #[.agg #[.int .u8 0, .int .u64 0, .slice none 0 0], .bool false]) /\ Below w.heap.size w w' := by
 have b := (Below.refl w.heap.size w).alloc (Nat.le_refl _) (.cells #[.int .u8 0, .int .u64 0, .slice none 0 0] 259)
 have hA := h.later b
 have c1 := hide (number9 (some ⟨g, 4, none⟩) 4 380 (sl l 4 8) (by rw [sl_length _ _ _ (by rw [<- h.len]; omega)]) (by omega) _ (hA.sub 4 8 4 4 380 rfl (by omega) (by omega) rfl (by omega)).reads)
 have cs := str_bs (hA.sub 0 2 0 2 384 rfl (by omega) (by omega) rfl (by omega)) (fun h => by cases h)
 obtain ⟨b3, o3, e3, _, hc3⟩ := hA.cell 3 (by omega)
 cases e3
 rw [Nat.zero_add] at hc3
 have hlt := fmLen_lt l
 have he : ((txt (sl l 0 2)).toList == [82, 71]) = decide (sl l 0 2 = [82, 71]) := by rw [txt_list]; by_cases e : sl l 0 2 = [82, 71] <;> simp [e]
 have hz : (((l.getD 3 0).toNat : Int) = 0) = (l.getD 3 0 = 0) := by
  apply propext
  constructor
  ·intro e
   have : (l.getD 3 0).toNat = 0 := by omega
   exact UInt8.toNat_inj.1 this
  ·intro e; rw [e]; rfl
 unfold isForm at hf
 have B := hide b
 clear h hA b
 unfold fmLen at hlt
 generalize up (sl l 4 8) = n at *
 generalize txt (sl l 0 2) = s2 at *
 by_cases q1 : sl l 0 2 = [82, 71]
 ·rw [decide_eq_true q1] at he hf
  clear q1
  by_cases q2 : l.getD 3 0 = 0
  ·rw [decide_eq_true q2] at hf
   have q3 : ¬ n <= 368 := by simpa using hf
   have hz2 : ((l.getD 3 0).toNat : Int) = 0 := by rw [hz]; exact q2
   rw [hz2] at hc3
   have q4 : (368 : Int) < (n : Int) := by omega
   clear q2 q3 hz hz2 hf
   go_enter Tryz.func185, Tryz.ntmps185
   go_wp2_with (go_at_call 206; refine c1.out.mono ?_; rintro e w' ⟨rfl, h1⟩; obtain rfl := h1.symm; clear h1)
   exact bodyPost_ret (v := .tuple #[.agg #[.int .u8 0, .int .u64 0, .slice none 0 0], .bool false]) (by simp [results, Tryz.results185, go_sem]) rfl ⟨rfl, B.out⟩
  ·have hz2 : ¬ ((l.getD 3 0).toNat : Int) = 0 := by rw [hz]; exact q2
   clear q2 hz hf
   generalize ((l.getD 3 0).toNat : Int) = x3 at *
   go_enter Tryz.func185, Tryz.ntmps185
   go_wp2_with (go_at_call 206; refine c1.out.mono ?_; rintro e w' ⟨rfl, h1⟩; obtain rfl := h1.symm; clear h1)
   exact bodyPost_ret (v := .tuple #[.agg #[.int .u8 0, .int .u64 0, .slice none 0 0], .bool false]) (by simp [results, Tryz.results185, go_sem]) rfl ⟨rfl, B.out⟩
 ·rw [decide_eq_false q1] at he hf
  clear q1 hf hz
  go_enter Tryz.func185, Tryz.ntmps185
  go_wp2_with (go_at_call 206; refine c1.out.mono ?_; rintro e w' ⟨rfl, h1⟩; obtain rfl := h1.symm; clear h1)
  exact bodyPost_ret (v := .tuple #[.agg #[.int .u8 0, .int .u64 0, .slice none 0 0], .bool false]) (by simp [results, Tryz.results185, go_sem]) rfl ⟨rfl, B.out⟩
theorem formed_yes (g : Nat) (l : List UInt8) (w : World) (h : BS w (some ⟨g, 0, none⟩) 384 384 l) (hf : isForm l = true) :
  Calls Tryz.prog 185 #[.slice (some ⟨g, 0, none⟩) 384 384] w fun e w' => e = .returned (.tuple #[fmV g l, .bool true]) /\ Below w.heap.size w w' := by
 have b := (Below.refl w.heap.size w).alloc (Nat.le_refl _) (.cells #[.int .u8 0, .int .u64 0, .slice none 0 0] 259)
 have hA := h.later b
 have c1 := hide (number9 (some ⟨g, 4, none⟩) 4 380 (sl l 4 8) (by rw [sl_length _ _ _ (by rw [<- h.len]; omega)]) (by omega) _ (hA.sub 4 8 4 4 380 rfl (by omega) (by omega) rfl (by omega)).reads)
 have hAd : ∀ W : World, W.heap = (w.alloc (.cells #[.int .u8 0, .int .u64 0, .slice none 0 0] 259)).heap -> BS W (some ⟨g, 0, none⟩) 384 384 l := fun W hW => hA.heap hW
 have c2 : Hid (∀ W : World, W.heap = (w.alloc (.cells #[.int .u8 0, .int .u64 0, .slice none 0 0] 259)).heap -> Calls Tryz.prog 206 #[.slice (some ⟨g, 8, none⟩) 8 376] W fun e w' => e = .returned (.int .u64 (up (sl l 8 16) : Int)) /\ w' = W) := fun W hW =>
  number9 (some ⟨g, 8, none⟩) 8 376 (sl l 8 16) (by rw [sl_length _ _ _ (by rw [<- h.len]; omega)]) (by omega) _ ((hAd W hW).sub 8 16 8 8 376 rfl (by omega) (by omega) rfl (by omega)).reads
 have cs := str_bs (hA.sub 0 2 0 2 384 rfl (by omega) (by omega) rfl (by omega)) (fun h => by cases h)
 obtain ⟨b3, o3, e3, _, hc3⟩ := hA.cell 3 (by omega)
 cases e3
 obtain ⟨b2, o2, e2, _, hc2⟩ := hA.cell 2 (by omega)
 cases e2
 have HC2 : Hid (∀ o, (w.alloc o).drew.cell? ⟨g, 2, none⟩ = some (.int .u8 ((l.getD 2 0).toNat : Int))) := fun o => by
  obtain ⟨b2, o2, e2, _, hc2⟩ := (h.later ((Below.refl w.heap.size w).alloc (Nat.le_refl _) o)).cell 2 (by omega)
  cases e2
  rw [Nat.zero_add] at hc2
  exact hc2
 rw [Nat.zero_add] at hc3 hc2
 simp only [isForm, Bool.and_eq_true, decide_eq_true_eq] at hf
 obtain ⟨q1, q2, q3⟩ := hf
 have he : ((txt (sl l 0 2)).toList == [82, 71]) = true := by rw [txt_list, q1]; rfl
 rw [q2, show (((0 : UInt8).toNat : Nat) : Int) = 0 from rfl] at hc3
 have EV : Hid (fmV g l = .agg #[.int .u8 ((l.getD 2 0).toNat : Int), .int .u64 (up (sl l 8 16) : Int), .slice (some ⟨g, 16, none⟩) (up (sl l 4 8)) 368]) := rfl
 have B := hide b
 clear h hA b hAd q1 q2
 rw [EV.out]
 clear EV
 generalize up (sl l 4 8) = n at *
 generalize txt (sl l 0 2) = s2 at *
 generalize ((l.getD 2 0).toNat : Int) = x2 at *
 generalize (up (sl l 8 16) : Int) = x8 at *
 have q4 : ¬ (368 : Int) < (n : Int) := by omega
 have q5 : IntKind.u64.wrap (16 + (n : Int)) = 16 + (n : Int) := by rw [IntKind.wrap_u64]; omega
 go_enter Tryz.func185, Tryz.ntmps185
 go_wp2_with (go_at_call 206; refine c1.out.mono ?_; rintro e w' ⟨rfl, h1⟩; obtain rfl := h1.symm; clear h1)
 go_region_held (fun W => W.cell? ⟨g, 2, none⟩ = some (.int .u8 x2)) (first | exact hc2 | exact HC2.out _ | go_keep)
  (first | (go_at_call 206; refine (c2.out _ ?_).mono ?_; (rfl); rintro e w' ⟨rfl, h1⟩; obtain rfl := h1.symm; clear h1))
 all_goals try (exfalso; omega)
 all_goals go_wp2
 all_goals exact bodyPost_ret (v := .tuple #[.agg #[.int .u8 x2, .int .u64 x8, .slice (some ⟨g, 16, none⟩) n 368], .bool true]) (by simp [results, Tryz.results185, go_sem]) rfl ⟨rfl, ((Below.refl _ _).alloc (Nat.le_refl _) _).drew⟩
end Go.Proofs.YtcdghalnneilpaaGreat
