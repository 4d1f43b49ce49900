/- Joined texts. -/
import Derived.Maps.Own
import Derived.StringKeys
import Derived.Maps.OwnOps
import Derived.Maps.OwnSet
import Derived.Maps.Views
import Derived.Test.YtcdghalnneilpaaGreatR08
set_option linter.unusedVariables false
set_option linter.unusedSimpArgs false
set_option maxRecDepth 8000
set_option maxHeartbeats 8000000
namespace Go.Proofs.YtcdghalnneilpaaGreat
open Go.RowKit Go.Deep Math
structure Th where
 blk : Nat
 off : Nat
 it : It
def Th.pos (t : Th) : Nat × Nat := (t.blk, t.off)
def ptrV : Option (Nat × Nat) -> Value
 | none => .pointer none
 | some p => .pointer (some ⟨p.1, p.2, none⟩)
def Th.ptr (t : Th) : Value := .pointer (some ⟨t.blk, t.off, none⟩)
def ptrCells (l : List Th) : List Value := l.map Th.ptr
theorem ptrCells_length (l : List Th) : (ptrCells l).length = l.length := by simp [ptrCells]
def ptrD : Option (Nat × Nat) -> DataW Unit
 | none => .agg []
 | some p => .agg [.lit (.int .i64 (p.1 : Int)), .lit (.int .i64 (p.2 : Int))]
def ptrElem : Value -> Option (DataW Unit × List MemPlace)
 | .pointer none => some (ptrD none, [])
 | .pointer (some ⟨b, o, none⟩) => some (ptrD (some (b, o)), [])
 | _ => none
theorem ptrElem_mk (p : Option (Nat × Nat)) : ptrElem (ptrV p) = some (ptrD p, []) := by
 cases p with
 | none => rfl
 | some q => rfl
theorem ptrElem_inv {v : Value} {p : Option (Nat × Nat)} {ps : List MemPlace} (h : ptrElem v = some (ptrD p, ps)) : v = ptrV p := by
 unfold ptrElem at h
 split at h
 ·cases p with
  | none => rfl
  | some q => simp [ptrD] at h
 ·rename_i b o
  cases p with
  | none => simp [ptrD] at h
  | some q =>
   obtain ⟨x, y⟩ := q
   simp [ptrD] at h
   obtain ⟨⟨h1, h2⟩, _⟩ := h
   simp [ptrV, h1, h2]
 ·cases h
def strL (k : List UInt8) : Lit := .string k
structure HasIs (D : DataW Unit) (M : List UInt8 -> Option (Nat × Nat)) : Prop where
 isMap : Maps.IsMap D
 has : ∀ k, Maps.has D (strL k) = (M k).isSome
 val : ∀ k, D.atKey (strL k) (ptrD none) = ptrD (M k)
def updK (M : List UInt8 -> Option (Nat × Nat)) (k : List UInt8) (p : Option (Nat × Nat)) : List UInt8 -> Option (Nat × Nat) := fun x => if x = k then p else M x
theorem updK_same (M : List UInt8 -> Option (Nat × Nat)) (k : List UInt8) (p : Option (Nat × Nat)) : updK M k p k = p := by simp [updK]
theorem updK_other (M : List UInt8 -> Option (Nat × Nat)) (k x : List UInt8) (p : Option (Nat × Nat)) (h : x ≠ k) : updK M k p x = M x := by simp [updK, h]
theorem strL_inj {a b : List UInt8} (h : strL a = strL b) : a = b := by simpa [strL] using h
theorem keyLit (k : List UInt8) : WideAt.IsKeyLit (strL k) := by simp [strL, WideAt.IsKeyLit]
theorem HasIs.put {D : DataW Unit} {M : List UInt8 -> Option (Nat × Nat)} (h : HasIs D M) (k : List UInt8) (p : Nat × Nat) : HasIs (D.put (strL k) (ptrD (some p))) (updK M k (some p)) := by
 refine ⟨h.isMap.put _ _, fun x => ?_, fun x => ?_⟩
 ·by_cases e : x = k
  ·subst e; rw [Maps.has_put_same h.isMap (keyLit x), updK_same]; rfl
  ·rw [Maps.has_put_other (fun e' => e (strL_inj e')), updK_other _ _ _ _ e, h.has]
 ·by_cases e : x = k
  ·subst e; rw [Maps.atKey_put_same h.isMap (keyLit x), updK_same]
  ·rw [Maps.atKey_put_other (fun e' => e (strL_inj e')), updK_other _ _ _ _ e, h.val]
theorem HasIs.del {D : DataW Unit} {M : List UInt8 -> Option (Nat × Nat)} (h : HasIs D M) (k : List UInt8) : HasIs (D.del (strL k)) (updK M k none) := by
 refine ⟨h.isMap.del _, fun x => ?_, fun x => ?_⟩
 ·by_cases e : x = k
  ·subst e; rw [Maps.has_del_same, updK_same]; rfl
  ·rw [Maps.has_del_other (fun e' => e (strL_inj e')), updK_other _ _ _ _ e, h.has]
 ·by_cases e : x = k
  ·subst e; rw [Maps.atKey_del_same, updK_same]
  ·rw [Maps.atKey_del_other (fun e' => e (strL_inj e')), updK_other _ _ _ _ e, h.val]
theorem HasIs.empty : HasIs (.map []) (fun _ => none) := ⟨⟨[], rfl⟩, fun _ => rfl, fun _ => rfl⟩
theorem keyed9 : Maps.Keyed Tryz.prog 9 := Maps.string_keyed Tryz.underlying9
theorem key9 (k : List UInt8) (h : k.length <= maxLen) : keyOf Tryz.prog 9 (.string (txt k)) = some (strL k) := by
 have := WideMaps.keyOf_string_mk (P := Tryz.prog) (k := 9) Tryz.underlying9 (s := txt k) (by rw [txt_size]; exact h)
 rw [this]
 simp [strL, txt]
theorem zero71 (w : World) : (zeroValue 211).run Tryz.prog w = .ok (.pointer none) w := by go_simp
def MapAt (w : World) (m n : Nat) (M : List UInt8 -> Option (Nat × Nat)) : Prop := ∃ D : DataW Unit, w.ownsMap Tryz.prog 9 ptrElem m n D /\ HasIs D M
section
variable {w w' : World} {m n : Nat} {M : List UInt8 -> Option (Nat × Nat)}
theorem MapAt.same (h : MapAt w m n M) (e : w'.heap[m]? = w.heap[m]?) : MapAt w' m n M := by
 obtain ⟨D, ⟨es, c, h1, h2⟩, h3⟩ := h
 exact ⟨D, ⟨es, c, e.trans h1, h2⟩, h3⟩
theorem MapAt.lt (h : MapAt w m n M) : m < w.heap.size := by
 obtain ⟨D, h1, _⟩ := h
 exact h1.lt
theorem MapAt.isMap (h : MapAt w m n M) : ∃ es c, w.heap[m]? = some (.map es c) := by
 obtain ⟨D, ⟨es, c, h1, h2⟩, h3⟩ := h
 exact ⟨es, c, h1⟩
theorem MapAt.look_ok (h : MapAt w m n M) (k : List UInt8) (hk : k.length <= maxLen) :
  (Instr.lookup 200 (.map (some m)) (.string (txt k)) true).run Tryz.prog w = .ok (.tuple #[ptrV (M k), .bool (M k).isSome]) w := by
 obtain ⟨D, hD, hM⟩ := h
 obtain ⟨x, ps, hrun, hx⟩ := hD.look_ok (t := 200) keyed9 Tryz.underlying200 (zero71 w) (ptrElem_mk none) (key9 k hk)
 rw [hM.val k] at hx
 rw [ptrElem_inv hx, hM.has k] at hrun
 exact hrun
theorem MapAt.look (h : MapAt w m n M) (k : List UInt8) (hk : k.length <= maxLen) :
  (Instr.lookup 200 (.map (some m)) (.string (txt k)) false).run Tryz.prog w = .ok (ptrV (M k)) w := by
 obtain ⟨D, hD, hM⟩ := h
 obtain ⟨x, ps, hrun, hx⟩ := hD.lookup (t := 200) keyed9 Tryz.underlying200 (zero71 w) (ptrElem_mk none) (key9 k hk)
 rw [hM.val k] at hx
 rw [ptrElem_inv hx] at hrun
 exact hrun
theorem MapAt.drop (h : MapAt w m n M) (k : List UInt8) (hk : k.length <= maxLen) (ty : TypeId) :
  ∃ w', (Builtin.delete_ #[200, 9] ty #[.map (some m), .string (txt k)]).run Tryz.prog w = .ok (.tuple #[]) w' /\ MapAt w' m n (updK M k none) /\ Keep [m] w w' /\ w'.heap.size = w.heap.size := by
 obtain ⟨D, hD, hM⟩ := h
 obtain ⟨w', hrun, ho, ht⟩ := hD.drop (t := 200) keyed9 Tryz.underlying200 (key9 k hk) ty
 refine ⟨w', hrun, ⟨_, ho, hM.del k⟩, (Keep.refl [m] w).grown ht.grown (fun x hx => .inl (by cases hx; simp)), ?_⟩
 obtain ⟨es, c, es', c', _, rfl⟩ := ht
 simp [ChangeMaps.setBlock]
theorem MapAt.store (h : MapAt w m n M) (k : List UInt8) (hk : k.length <= maxLen) (hn : n < 1000000) (p : Nat × Nat) :
  ∃ w', (Instr.mapUpdate 200 (.map (some m)) (.string (txt k)) (ptrV (some p))).run Tryz.prog w = .ok () w' /\ MapAt w' m (n + 1) (updK M k (some p)) /\ Keep [m] w w' /\ w'.heap.size = w.heap.size := by
 obtain ⟨D, hD, hM⟩ := h
 obtain ⟨w', hrun, ho, ht⟩ := hD.store (t := 200) keyed9 Tryz.underlying200 (Nat.lt_trans hn (by decide)) (key9 k hk) (ptrElem_mk (some p))
 refine ⟨w', hrun, ⟨_, ho, hM.put k p⟩, (Keep.refl [m] w).grown ht.grown (fun x hx => .inl (by cases hx; simp)), ?_⟩
 obtain ⟨es, c, es', c', _, rfl⟩ := ht
 simp [ChangeMaps.setBlock]
end
structure Rg where
 place : Nat
 num : Nat
 v : Value
 ths : List Th
structure Lg where
 losses : Int
 first : Nat
 regions : Nat
 num : Nat
 regs : List Rg
 opn : List Th
 cap : Nat
 has : List UInt8 -> Option (Nat × Nat)
def Lg.all (T : Lg) : List Th := T.regs.flatMap Rg.ths ++ T.opn
def rgCells (r : Rg) : List Value := [.int .i64 r.place, .int .u64 r.num, r.v]
def rgRow (l : List Rg) : List Value := l.flatMap rgCells
theorem rgRow_length (l : List Rg) : (rgRow l).length = l.length * 3 := flat_length rgCells 3 (fun _ => rfl) l
theorem rgRow_append (a b : List Rg) : rgRow (a ++ b) = rgRow a ++ rgRow b := by simp [rgRow]
def Lg.cont (T : Lg) : List UInt8 := encs (T.opn.map Th.it)
structure ThAt (w : World) (t : Th) : Prop where
 fits : t.it.fits
 key : t.it.key.length <= 140737488351232
 val : t.it.value.length <= 140737488351232
 ty : ∃ c, w.heap[t.blk]? = some (.cells c 39 (0, 0))
 one : OneIt w t.blk t.off t.it
theorem cell_same {w w' : World} {b o : Nat} (e : w'.heap[b]? = w.heap[b]?) : w'.cell? ⟨b, o, none⟩ = w.cell? ⟨b, o, none⟩ := by
 unfold World.cell?
 simp only [e]
theorem OneIt.same {w w' : World} {b o : Nat} {x : It} (h : OneIt w b o x) (e : w'.heap[b]? = w.heap[b]?) : OneIt w' b o x :=
 ⟨(cell_same e).trans h.c0, (cell_same e).trans h.c1, (cell_same e).trans h.c2, (cell_same e).trans h.c3, (cell_same e).trans h.c4⟩
theorem ThAt.same {w w' : World} {t : Th} (h : ThAt w t) (e : w'.heap[t.blk]? = w.heap[t.blk]?) : ThAt w' t := by
 obtain ⟨c, hc⟩ := h.ty
 exact ⟨h.fits, h.key, h.val, ⟨c, e.trans hc⟩, h.one.same e⟩
theorem ThAt.lt {w : World} {t : Th} (h : ThAt w t) : t.blk < w.heap.size := by
 obtain ⟨c, hc⟩ := h.ty
 exact (Array.getElem?_eq_some_iff.1 hc).1
def own (v : Value) : List Nat := v.ownBlock.toList
def lfoot (l m : Nat) (v5 v6 v7 : Value) : List Nat := l :: m :: (own v5 ++ (own v6 ++ own v7))
def lgCells (d m : Nat) (v5 v6 v7 : Value) (T : Lg) : List Value :=
 [.pointer (some ⟨d, 0, none⟩), .int .i64 T.losses, .int .i64 T.first, .int .i64 T.regions, .int .u64 T.num, v5, v6, v7, .map (some m)]
structure LgIn (w : World) (l d m : Nat) (v5 v6 v7 : Value) (T : Lg) : Prop where
 box : Blk w l (lgCells d m v5 v6 v7 T) 202
 sld : w.ownsRow 0 206 3 v5 T.regs.length (rgRow T.regs)
 rows : ∀ r ∈ T.regs, w.ownsRow 0 211 1 r.v r.ths.length (ptrCells r.ths)
 opn : w.ownsRow 0 211 1 v6 T.opn.length (ptrCells T.opn)
 cont : w.ownsRow 0 5 1 v7 T.cont.length (bCells T.cont)
 map : MapAt w m T.cap T.has
 ths : ∀ t ∈ T.all, ThAt w t
 apart : ∀ r ∈ T.regs, ∀ q, r.v.ownBlock = some q -> v6.ownBlock ≠ some q
 hasAt : ∀ k p, T.has k = some p -> ∃ t ∈ T.all, t.pos = p /\ t.it.key = k
theorem own_same {w w' : World} {base : Nat} {e : TypeId} {size : Nat} {v : Value} {n : Nat} {xs : List Value} (h : w.ownsRow base e size v n xs) (k : ∀ q, v.ownBlock = some q -> w'.heap[q]? = w.heap[q]?) : w'.ownsRow base e size v n xs := by
 refine ⟨h.1, ?_⟩
 rcases h.2 with h2 | ⟨g, cap, cur, hv, hg, hh, r⟩
 ·exact .inl h2
 ·exact .inr ⟨g, cap, cur, hv, hg, by rw [k g (by rw [hv]; rfl)]; exact hh, r⟩
theorem own_ty {w : World} {base : Nat} {e : TypeId} {size : Nat} {v : Value} {n : Nat} {xs : List Value} (h : w.ownsRow base e size v n xs) {q : Nat} (hq : v.ownBlock = some q) : ∃ c, w.heap[q]? = some (.cells c e (0, 0)) := by
 rcases h.2 with ⟨h2, _⟩ | ⟨g, cap, cur, hv, hg, hh, r⟩
 ·rw [h2] at hq; cases hq
 ·rw [hv] at hq
  simp [Value.ownBlock] at hq
  subst hq
  exact ⟨cur, hh⟩
theorem mem_own {v : Value} {q : Nat} : q ∈ own v ↔ v.ownBlock = some q := by simp [own, Option.mem_toList]
def lblocks (l m : Nat) (v5 v6 v7 : Value) (T : Lg) : List Nat := lfoot l m v5 v6 v7 ++ (T.regs.flatMap (fun r => own r.v) ++ T.all.map Th.blk)
section
variable {w w' : World} {l d m : Nat} {v5 v6 v7 : Value} {T : Lg}
theorem LgIn.same (h : LgIn w l d m v5 v6 v7 T) (k : ∀ q ∈ lblocks l m v5 v6 v7 T, w'.heap[q]? = w.heap[q]?) : LgIn w' l d m v5 v6 v7 T := by
 refine ⟨h.box.same (k l (by simp [lblocks, lfoot])), own_same h.sld (fun q hq => k q (by simp [lblocks, lfoot, mem_own, hq])), fun r hr => own_same (h.rows r hr) (fun q hq => k q ?_),
  own_same h.opn (fun q hq => k q (by simp [lblocks, lfoot, mem_own, hq])), own_same h.cont (fun q hq => k q (by simp [lblocks, lfoot, mem_own, hq])), h.map.same (k m (by simp [lblocks, lfoot])), fun t ht => (h.ths t ht).same (k _ ?_), h.apart, h.hasAt⟩
 ·refine List.mem_append.2 (.inr (List.mem_append.2 (.inl (List.mem_flatMap.2 ⟨r, hr, mem_own.2 hq⟩))))
 ·exact List.mem_append.2 (.inr (List.mem_append.2 (.inr (List.mem_map.2 ⟨t, ht, rfl⟩))))
theorem LgIn.kinds (h : LgIn w l d m v5 v6 v7 T) : ∀ q ∈ lblocks l m v5 v6 v7 T, (∃ es c, w.heap[q]? = some (.map es c)) \/ ∃ c e, w.heap[q]? = some (.cells c e (0, 0)) /\ (e = 202 \/ e = 206 \/ e = 211 \/ e = 5 \/ e = 39) := by
 intro q hq
 rcases List.mem_append.1 hq with hq | hq
 ·simp only [lfoot, List.mem_cons, List.mem_append, mem_own] at hq
  rcases hq with rfl | rfl | hq | hq | hq
  ·exact .inr ⟨_, _, h.box, .inl rfl⟩
  ·exact .inl h.map.isMap
  ·obtain ⟨c, hc⟩ := own_ty h.sld hq; exact .inr ⟨c, _, hc, .inr (.inl rfl)⟩
  ·obtain ⟨c, hc⟩ := own_ty h.opn hq; exact .inr ⟨c, _, hc, .inr (.inr (.inl rfl))⟩
  ·obtain ⟨c, hc⟩ := own_ty h.cont hq; exact .inr ⟨c, _, hc, .inr (.inr (.inr (.inl rfl)))⟩
 ·rcases List.mem_append.1 hq with hq | hq
  ·obtain ⟨r, hr, hq⟩ := List.mem_flatMap.1 hq
   obtain ⟨c, hc⟩ := own_ty (h.rows r hr) (mem_own.1 hq)
   exact .inr ⟨c, _, hc, .inr (.inr (.inl rfl))⟩
  ·obtain ⟨t, ht, rfl⟩ := List.mem_map.1 hq
   obtain ⟨c, hc⟩ := (h.ths t ht).ty
   exact .inr ⟨c, _, hc, .inr (.inr (.inr (.inr rfl)))⟩
theorem LgIn.lt (h : LgIn w l d m v5 v6 v7 T) : ∀ q ∈ lblocks l m v5 v6 v7 T, q < w.heap.size := by
 intro q hq
 rcases h.kinds q hq with ⟨es, c, hh⟩ | ⟨c, e, hh, _⟩
 ·exact (Array.getElem?_eq_some_iff.1 hh).1
 ·exact (Array.getElem?_eq_some_iff.1 hh).1
theorem LgIn.below (h : LgIn w l d m v5 v6 v7 T) (b : Below w.heap.size w w') : LgIn w' l d m v5 v6 v7 T := h.same (fun q hq => b.block q (h.lt q hq))
theorem LgIn.alloc (h : LgIn w l d m v5 v6 v7 T) (o : Obj) : LgIn (w.alloc o) l d m v5 v6 v7 T := h.below ((Below.refl _ _).alloc (Nat.le_refl _) _)
theorem LgIn.heap (h : LgIn w l d m v5 v6 v7 T) (e : w'.heap = w.heap) : LgIn w' l d m v5 v6 v7 T := h.same (fun q hq => by rw [e])
end
theorem DvAt.kinds {w : World} {d : Nat} {F : List Nat} {S : Dv} (h : DvAt w d F S) : ∀ q ∈ F, ∃ c e, w.heap[q]? = some (.cells c e (0, 0)) /\ (e = 95 \/ e = 225 \/ e = 227) := by
 obtain ⟨p, pd, wa, wc, rfl, h⟩ := h
 intro q hq
 simp only [foot, List.mem_cons] at hq
 rcases hq with rfl | rfl | hq
 ·exact ⟨_, _, h.dev, .inl rfl⟩
 ·exact ⟨_, _, h.row, .inr (.inl rfl)⟩
 ·cases wa with
  | none => simp at hq
  | some a =>
   simp at hq
   subst hq
   obtain ⟨c, hc⟩ := own_ty h.own (q := a.block) rfl
   exact ⟨c, _, hc, .inr (.inr rfl)⟩
theorem LgIn.off {w : World} {l d m d' : Nat} {v5 v6 v7 : Value} {T : Lg} {F : List Nat} {S : Dv} (h : LgIn w l d m v5 v6 v7 T) (hd : DvAt w d' F S) : ∀ q ∈ lblocks l m v5 v6 v7 T, q ∉ F := by
 intro q hq hF
 obtain ⟨c, e, h1, h2⟩ := hd.kinds q hF
 rcases h.kinds q hq with ⟨es, c', hh⟩ | ⟨c', e', hh, he⟩
 ·rw [h1] at hh; cases hh
 ·rw [h1] at hh
  simp only [Option.some.injEq, Obj.cells.injEq] at hh
  have := hh.2.1
  rcases h2 with rfl | rfl | rfl <;> rcases he with rfl | rfl | rfl | rfl | rfl <;> cases this
theorem LgIn.dev {w w' : World} {l d m d' : Nat} {v5 v6 v7 : Value} {T : Lg} {F : List Nat} {S : Dv} (h : LgIn w l d m v5 v6 v7 T) (hd : DvAt w d' F S) (k : Keep F w w') : LgIn w' l d m v5 v6 v7 T :=
 h.same (fun q hq => k.block q (h.lt q hq) (h.off hd q hq))
theorem list_cap (ht : TakeIs) (a : Option Addr) (n cap : Nat) (l : List UInt8) (hcap : cap <= 9223372036854775807) (hn20 : n <= 1048576) (w : World) (h : BS w a n cap l) :
  Calls Tryz.prog 181 #[.slice a n cap] w (ListPost w (lst l)) := by
 have H := hide h
 clear h
 go_enter Tryz.func181, Tryz.ntmps181
 go_wp2_with fail
 obtain ⟨i0, hi0, hp0⟩ := Option.map_eq_some_iff.1 info30
 simp only [Prod.mk.injEq] at hp0
 obtain ⟨hz0, hz1, hz2⟩ := hp0
 have hn : n <= cap := H.out.cap
 go_loopg [0, 4] n (fun kx s0 s4 wr => ∃ (a' : Option Addr) (n' c' : Nat) (va : Option Addr) (vk vc : Nat), s0 = .slice a' n' c' /\ s4 = .slice va vk vc /\ n' <= kx /\ n' <= c' /\ c' <= 9223372036854775807 /\ ∃ (acc : List It) (r : List UInt8), Hid (BS w a' n' c' r /\ wr.ownsRow w.heap.size 39 5 (.slice va vk vc) acc.length (itsCells acc) /\ lst l = (lst r).map (acc ++ ·) /\ Below w.heap.size w wr /\ acc.length + n' <= n))
 case atStart => exact ⟨a, n, cap, none, 0, 0, rfl, rfl, Nat.le_refl _, hn, hcap, [], l, H.out, World.ownsRow_nil _ _ _ _, by cases lst l <;> simp, Below.refl _ _, by simp⟩
 case round =>
  obtain ⟨a', n', c', va, vk, vc, rfl, rfl, hk, hnc, hc20, acc, r, I⟩ := hrel
  have ce := hide (ended_any a' n' c' r wr (I.out.1.later I.out.2.2.2.1))
  cases hE : ended r with
  | true =>
   rw [hE] at ce
   have E : Hid (lst l = some acc) := by
    show _ = _
    rw [I.out.2.2.1, lst_none (by simp [take, hE])]
    simp
   clear hE
   go_wp2_with (go_at_call 204; refine ce.out.mono ?_; rintro r1 w1 ⟨rfl, h1⟩; obtain rfl : wr = w1 := h1.symm; clear h1)
   go_ret2
   rw [E.out]
   exact ⟨I.out.2.2.2.1, _, rfl, I.out.2.1⟩
  | false =>
   rw [hE] at ce
   have ct := hide (ht a' n' c' r (by omega) wr (I.out.1.later I.out.2.2.2.1))
   have hpos : 0 < n' := by
    rcases Nat.eq_zero_or_pos n' with h0 | h0
    ·have := I.out.1.len
     rw [h0] at this
     have h2 : r = [] := List.eq_nil_of_length_eq_zero this.symm
     rw [h2] at hE
     simp [ended] at hE
    ·exact h0
   obtain ⟨b, off, rfl, _, _⟩ := I.out.1.cell 0 hpos
   rcases hT : take r with ⟨_ | _ | ⟨x, sz⟩⟩
   ·simp [take, hE] at hT; split at hT <;> (try split at hT) <;> simp at hT
   ·
    rw [hT] at ct
    have E : Hid (lst l = none) := by
     show _ = _
     rw [I.out.2.2.1, lst_bad hT]
     rfl
    have etk : tkV Tk.bad = .tuple #[.agg #[.string (txt []), .string (txt []), .int .u32 0, .int .i64 0, .int .u64 0], .int .i64 0, .int .i64 3] := rfl
    rw [etk] at ct
    clear hE hT etk
    generalize txt [] = nb at ct
    go_wp2_with (first
     | (go_at_call 204; refine ce.out.mono ?_; rintro r1 w1 ⟨rfl, h1⟩; obtain rfl : wr = w1 := h1.symm; clear h1)
     | (go_at_call 205; refine ct.out.mono ?_; rintro r1 w1 ⟨rfl, b1⟩; have B1 := hide b1; clear b1))
    go_ret2
    rw [E.out]
    exact ⟨((I.out.2.2.2.1.trans (B1.out.mono I.out.2.2.2.1.size)).alloc (Nat.le_trans I.out.2.2.2.1.size B1.out.size) _), rfl⟩
   ·
    obtain ⟨t1, t2, t3, t4, t5⟩ := take_ok hT
    rw [hT] at ct
    have E : Hid (lst l = (lst (r.drop sz)).map ((acc ++ [x]) ++ ·)) := by
     show _ = _
     rw [I.out.2.2.1, lst_ok hT]
     cases lst (r.drop sz) <;> simp
    have etk : tkV (Tk.ok x sz) = .tuple #[.agg #[.string (txt x.key), .string (txt x.value), .int .u32 x.flags, .int .i64 x.exp, .int .u64 x.ver], .int .i64 sz, .int .i64 0] := rfl
    rw [etk] at ct
    have hsz : sz <= n' := by rw [I.out.1.len]; exact t4
    have hsp : 0 < sz := by rw [t3]; exact x.size_pos
    have hszi : (sz : Int) <= (n' : Int) := by omega
    have SP := hide hsp
    have SZ := hide hsz
    clear hE hT etk t1 t2 t3 t4 t5 hsp hsz
    have hac : acc.length <= 1048576 := by have := I.out.2.2.2.2; omega
    go_wp2_with (first
     | (go_at_call 204; refine ce.out.mono ?_; rintro r1 w1 ⟨rfl, h1⟩; obtain rfl : wr = w1 := h1.symm; clear h1)
     | (go_at_call 205; refine ct.out.mono ?_; rintro r1 w1 ⟨rfl, b1⟩; have B1 := hide b1; clear b1)
     | (at_builtin; refine wpList_append_own _ rfl _ _ 72 rfl w.heap.size 39 i0 _ 5 56 Tryz.underlying72 hi0 hz0 hz1 hz2 rfl (by decide) _ _ _ rfl (((rown_below I.out.2.1 B1.out).alloc _).alloc _) ⟨w1.heap.size + 1, 0, none⟩ 1 1 (itCells x) rfl ?qc1 ?qc2 ?qc3 ?qc4 ?qc5 ?qc6 ?_))
    case qc1 => rfl
    case qc2 =>
     intro j u hj
     rw [Addr.add_lit, Nat.zero_add]
     have hh := (Blk.new (w1.alloc (.cells #[.string (txt x.key), .string (txt x.value), .int .u32 x.flags, .int .i64 x.exp, .int .u64 x.ver] 39)) (itCells x) 39).cell hj
     rw [nblk_alloc] at hh
     exact hh
    case qc3 => intro u hu; simp [itCells] at hu; rcases hu with rfl | rfl | rfl | rfl | rfl <;> rfl
    case qc4 => unfold maxLen; omega
    case qc5 => omega
    case qc6 => have := I.out.2.2.2.1.size; have := B1.out.size; simp; omega
    intro v' w2 hown hgrow hnil
    obtain ⟨g2, cp2, rfl⟩ : ∃ g2 cp2, v' = .slice (some ⟨g2, 0, none⟩) (acc.length + 1) cp2 := by
     rcases hown.2 with ⟨_, h0⟩ | ⟨g2, cp2, _, hv, _⟩
     ·omega
     ·exact ⟨g2, cp2, hv⟩
    have hB2 : Below w.heap.size w w2 := by
     have h1 := I.out.2.2.2.1.trans (B1.out.mono I.out.2.2.2.1.size)
     have h2 := (h1.alloc h1.size (.cells #[.string (txt x.key), .string (txt x.value), .int .u32 x.flags, .int .i64 x.exp, .int .u64 x.ver] 39))
     have h3 := (h2.alloc h2.size (.cells #[.string (txt x.key), .string (txt x.value), .int .u32 x.flags, .int .i64 x.exp, .int .u64 x.ver] 39))
     exact h3.grown hgrow h3.size (fun k hk => (I.out.2.1.lt k hk).1)
    rw [itsCells_snoc] at hown
    have FO := hide hown
    have FB := hide hB2
    clear hown hgrow hnil hB2
    have hl : Hid (acc.length + 1 = (acc ++ [x]).length) := by show _ = _; simp
    have szl : Hid (n' - sz = (r.drop sz).length) := by show _ = _; rw [List.length_drop, <- I.out.1.len]
    by_cases hce : c' = sz
    ·have hc2 : (c' = sz) = True := eq_true hce
     have HCE := hide hce
     clear hce
     go_wp2
     go_roundg (n' - sz)
     case measure => have := SP.out; omega
     case rel =>
      refine ⟨_, n' - sz, c' - sz, _, _, _, rfl, rfl, Nat.le_refl _, by omega, by omega, acc ++ [x], r.drop sz, ?_, ?_, E.out, FB.out, ?_⟩
      ·have h0 : r.drop sz = [] := List.eq_nil_of_length_eq_zero (by have := szl.out; have := HCE.out; omega)
       rw [h0]
       have := HCE.out
       exact ⟨by simp; omega, by omega, Reads.nil _ _, fun i hi => absurd hi (by omega)⟩
      ·rw [<- hl.out]; exact FO.out
      ·rw [<- hl.out]; have := I.out.2.2.2.2; have := SP.out; have := SZ.out; omega
    ·go_wp2
     go_roundg (n' - sz)
     case measure => have := SP.out; omega
     case rel =>
      refine ⟨_, n' - sz, c' - sz, _, _, _, rfl, rfl, Nat.le_refl _, by omega, by omega, acc ++ [x], r.drop sz, ?_, ?_, E.out, FB.out, ?_⟩
      ·have h0 := I.out.1.sub sz n' (off + sz) (n' - sz) (c' - sz) rfl SZ.out (Nat.le_refl _) rfl (by omega)
       rw [show sl r sz n' = r.drop sz by unfold sl; rw [I.out.1.len, List.take_length]] at h0
       exact h0
      ·rw [<- hl.out]; exact FO.out
      ·rw [<- hl.out]; have := I.out.2.2.2.2; have := SP.out; have := SZ.out; omega
end Go.Proofs.YtcdghalnneilpaaGreat
