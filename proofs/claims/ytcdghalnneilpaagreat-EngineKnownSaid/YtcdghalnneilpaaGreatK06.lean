/- Joined texts. -/
import Derived.Maps.Own
import Derived.StringKeys
import Derived.Maps.OwnOps
import Derived.Maps.OwnSet
import Derived.Maps.Views
import Derived.Test.YtcdghalnneilpaaGreatK05
set_option linter.unusedVariables false
set_option linter.unusedSimpArgs false
set_option maxRecDepth 8000
set_option maxHeartbeats 8000000
namespace Go.Proofs.YtcdghalnneilpaaGreat
open Go.RowKit Go.Deep Math
structure Th where
 blk : Nat
 off : Nat
 it : It
def Th.pos (t : Th) : Nat × Nat := (t.blk, t.off)
def ptrV : Option (Nat × Nat) -> Value
 | none => .pointer none
 | some p => .pointer (some ⟨p.1, p.2, none⟩)
def Th.ptr (t : Th) : Value := .pointer (some ⟨t.blk, t.off, none⟩)
def ptrCells (l : List Th) : List Value := l.map Th.ptr
theorem ptrCells_length (l : List Th) : (ptrCells l).length = l.length := by simp [ptrCells]
def ptrD : Option (Nat × Nat) -> DataW Unit
 | none => .agg []
 | some p => .agg [.lit (.int .i64 (p.1 : Int)), .lit (.int .i64 (p.2 : Int))]
def ptrElem : Value -> Option (DataW Unit × List MemPlace)
 | .pointer none => some (ptrD none, [])
 | .pointer (some ⟨b, o, none⟩) => some (ptrD (some (b, o)), [])
 | _ => none
theorem ptrElem_mk (p : Option (Nat × Nat)) : ptrElem (ptrV p) = some (ptrD p, []) := by
 cases p with
 | none => rfl
 | some q => rfl
theorem ptrElem_inv {v : Value} {p : Option (Nat × Nat)} {ps : List MemPlace} (h : ptrElem v = some (ptrD p, ps)) : v = ptrV p := by
 unfold ptrElem at h
 split at h
 ·cases p with
  | none => rfl
  | some q => simp [ptrD] at h
 ·rename_i b o
  cases p with
  | none => simp [ptrD] at h
  | some q =>
   obtain ⟨x, y⟩ := q
   simp [ptrD] at h
   obtain ⟨⟨h1, h2⟩, _⟩ := h
   simp [ptrV, h1, h2]
 ·cases h
def strL (k : List UInt8) : Lit := .string k
structure HasIs (D : DataW Unit) (M : List UInt8 -> Option (Nat × Nat)) : Prop where
 isMap : Maps.IsMap D
 has : ∀ k, Maps.has D (strL k) = (M k).isSome
 val : ∀ k, D.atKey (strL k) (ptrD none) = ptrD (M k)
def updK (M : List UInt8 -> Option (Nat × Nat)) (k : List UInt8) (p : Option (Nat × Nat)) : List UInt8 -> Option (Nat × Nat) := fun x => if x = k then p else M x
theorem updK_same (M : List UInt8 -> Option (Nat × Nat)) (k : List UInt8) (p : Option (Nat × Nat)) : updK M k p k = p := by simp [updK]
theorem updK_other (M : List UInt8 -> Option (Nat × Nat)) (k x : List UInt8) (p : Option (Nat × Nat)) (h : x ≠ k) : updK M k p x = M x := by simp [updK, h]
theorem strL_inj {a b : List UInt8} (h : strL a = strL b) : a = b := by simpa [strL] using h
theorem keyLit (k : List UInt8) : WideAt.IsKeyLit (strL k) := by simp [strL, WideAt.IsKeyLit]
theorem HasIs.put {D : DataW Unit} {M : List UInt8 -> Option (Nat × Nat)} (h : HasIs D M) (k : List UInt8) (p : Nat × Nat) : HasIs (D.put (strL k) (ptrD (some p))) (updK M k (some p)) := by
 refine ⟨h.isMap.put _ _, fun x => ?_, fun x => ?_⟩
 ·by_cases e : x = k
  ·subst e; rw [Maps.has_put_same h.isMap (keyLit x), updK_same]; rfl
  ·rw [Maps.has_put_other (fun e' => e (strL_inj e')), updK_other _ _ _ _ e, h.has]
 ·by_cases e : x = k
  ·subst e; rw [Maps.atKey_put_same h.isMap (keyLit x), updK_same]
  ·rw [Maps.atKey_put_other (fun e' => e (strL_inj e')), updK_other _ _ _ _ e, h.val]
theorem HasIs.del {D : DataW Unit} {M : List UInt8 -> Option (Nat × Nat)} (h : HasIs D M) (k : List UInt8) : HasIs (D.del (strL k)) (updK M k none) := by
 refine ⟨h.isMap.del _, fun x => ?_, fun x => ?_⟩
 ·by_cases e : x = k
  ·subst e; rw [Maps.has_del_same, updK_same]; rfl
  ·rw [Maps.has_del_other (fun e' => e (strL_inj e')), updK_other _ _ _ _ e, h.has]
 ·by_cases e : x = k
  ·subst e; rw [Maps.atKey_del_same, updK_same]
  ·rw [Maps.atKey_del_other (fun e' => e (strL_inj e')), updK_other _ _ _ _ e, h.val]
theorem HasIs.empty : HasIs (.map []) (fun _ => none) := ⟨⟨[], rfl⟩, fun _ => rfl, fun _ => rfl⟩
theorem keyed9 : Maps.Keyed Tryz.prog 9 := Maps.string_keyed Tryz.underlying9
theorem key9 (k : List UInt8) (h : k.length <= maxLen) : keyOf Tryz.prog 9 (.string (txt k)) = some (strL k) := by
 have := WideMaps.keyOf_string_mk (P := Tryz.prog) (k := 9) Tryz.underlying9 (s := txt k) (by rw [txt_size]; exact h)
 rw [this]
 simp [strL, txt]
theorem zero71 (w : World) : (zeroValue 211).run Tryz.prog w = .ok (.pointer none) w := by go_simp
def MapAt (w : World) (m n : Nat) (M : List UInt8 -> Option (Nat × Nat)) : Prop := ∃ D : DataW Unit, w.ownsMap Tryz.prog 9 ptrElem m n D /\ HasIs D M
section
variable {w w' : World} {m n : Nat} {M : List UInt8 -> Option (Nat × Nat)}
theorem MapAt.same (h : MapAt w m n M) (e : w'.heap[m]? = w.heap[m]?) : MapAt w' m n M := by
 obtain ⟨D, ⟨es, c, h1, h2⟩, h3⟩ := h
 exact ⟨D, ⟨es, c, e.trans h1, h2⟩, h3⟩
theorem MapAt.lt (h : MapAt w m n M) : m < w.heap.size := by
 obtain ⟨D, h1, _⟩ := h
 exact h1.lt
theorem MapAt.isMap (h : MapAt w m n M) : ∃ es c, w.heap[m]? = some (.map es c) := by
 obtain ⟨D, ⟨es, c, h1, h2⟩, h3⟩ := h
 exact ⟨es, c, h1⟩
theorem MapAt.look_ok (h : MapAt w m n M) (k : List UInt8) (hk : k.length <= maxLen) :
  (Instr.lookup 200 (.map (some m)) (.string (txt k)) true).run Tryz.prog w = .ok (.tuple #[ptrV (M k), .bool (M k).isSome]) w := by
 obtain ⟨D, hD, hM⟩ := h
 obtain ⟨x, ps, hrun, hx⟩ := hD.look_ok (t := 200) keyed9 Tryz.underlying200 (zero71 w) (ptrElem_mk none) (key9 k hk)
 rw [hM.val k] at hx
 rw [ptrElem_inv hx, hM.has k] at hrun
 exact hrun
theorem MapAt.look (h : MapAt w m n M) (k : List UInt8) (hk : k.length <= maxLen) :
  (Instr.lookup 200 (.map (some m)) (.string (txt k)) false).run Tryz.prog w = .ok (ptrV (M k)) w := by
 obtain ⟨D, hD, hM⟩ := h
 obtain ⟨x, ps, hrun, hx⟩ := hD.lookup (t := 200) keyed9 Tryz.underlying200 (zero71 w) (ptrElem_mk none) (key9 k hk)
 rw [hM.val k] at hx
 rw [ptrElem_inv hx] at hrun
 exact hrun
theorem MapAt.drop (h : MapAt w m n M) (k : List UInt8) (hk : k.length <= maxLen) (ty : TypeId) :
  ∃ w', (Builtin.delete_ #[200, 9] ty #[.map (some m), .string (txt k)]).run Tryz.prog w = .ok (.tuple #[]) w' /\ MapAt w' m n (updK M k none) /\ Keep [m] w w' /\ w'.heap.size = w.heap.size := by
 obtain ⟨D, hD, hM⟩ := h
 obtain ⟨w', hrun, ho, ht⟩ := hD.drop (t := 200) keyed9 Tryz.underlying200 (key9 k hk) ty
 refine ⟨w', hrun, ⟨_, ho, hM.del k⟩, (Keep.refl [m] w).grown ht.grown (fun x hx => .inl (by cases hx; simp)), ?_⟩
 obtain ⟨es, c, es', c', _, rfl⟩ := ht
 simp [ChangeMaps.setBlock]
theorem MapAt.store (h : MapAt w m n M) (k : List UInt8) (hk : k.length <= maxLen) (hn : n < 1000000) (p : Nat × Nat) :
  ∃ w', (Instr.mapUpdate 200 (.map (some m)) (.string (txt k)) (ptrV (some p))).run Tryz.prog w = .ok () w' /\ MapAt w' m (n + 1) (updK M k (some p)) /\ Keep [m] w w' /\ w'.heap.size = w.heap.size := by
 obtain ⟨D, hD, hM⟩ := h
 obtain ⟨w', hrun, ho, ht⟩ := hD.store (t := 200) keyed9 Tryz.underlying200 (Nat.lt_trans hn (by decide)) (key9 k hk) (ptrElem_mk (some p))
 refine ⟨w', hrun, ⟨_, ho, hM.put k p⟩, (Keep.refl [m] w).grown ht.grown (fun x hx => .inl (by cases hx; simp)), ?_⟩
 obtain ⟨es, c, es', c', _, rfl⟩ := ht
 simp [ChangeMaps.setBlock]
end
structure Rg where
 place : Nat
 num : Nat
 v : Value
 ths : List Th
structure Lg where
 losses : Int
 first : Nat
 regions : Nat
 num : Nat
 regs : List Rg
 opn : List Th
 cap : Nat
 has : List UInt8 -> Option (Nat × Nat)
def Lg.all (T : Lg) : List Th := T.regs.flatMap Rg.ths ++ T.opn
def rgCells (r : Rg) : List Value := [.int .i64 r.place, .int .u64 r.num, r.v]
def rgRow (l : List Rg) : List Value := l.flatMap rgCells
theorem rgRow_length (l : List Rg) : (rgRow l).length = l.length * 3 := flat_length rgCells 3 (fun _ => rfl) l
theorem rgRow_append (a b : List Rg) : rgRow (a ++ b) = rgRow a ++ rgRow b := by simp [rgRow]
def Lg.cont (T : Lg) : List UInt8 := encs (T.opn.map Th.it)
structure ThAt (w : World) (t : Th) : Prop where
 fits : t.it.fits
 key : t.it.key.length <= 140737488351232
 val : t.it.value.length <= 140737488351232
 ty : ∃ c, w.heap[t.blk]? = some (.cells c 39 (0, 0))
 one : OneIt w t.blk t.off t.it
theorem cell_same {w w' : World} {b o : Nat} (e : w'.heap[b]? = w.heap[b]?) : w'.cell? ⟨b, o, none⟩ = w.cell? ⟨b, o, none⟩ := by
 unfold World.cell?
 simp only [e]
theorem OneIt.same {w w' : World} {b o : Nat} {x : It} (h : OneIt w b o x) (e : w'.heap[b]? = w.heap[b]?) : OneIt w' b o x :=
 ⟨(cell_same e).trans h.c0, (cell_same e).trans h.c1, (cell_same e).trans h.c2, (cell_same e).trans h.c3, (cell_same e).trans h.c4⟩
theorem ThAt.same {w w' : World} {t : Th} (h : ThAt w t) (e : w'.heap[t.blk]? = w.heap[t.blk]?) : ThAt w' t := by
 obtain ⟨c, hc⟩ := h.ty
 exact ⟨h.fits, h.key, h.val, ⟨c, e.trans hc⟩, h.one.same e⟩
theorem ThAt.lt {w : World} {t : Th} (h : ThAt w t) : t.blk < w.heap.size := by
 obtain ⟨c, hc⟩ := h.ty
 exact (Array.getElem?_eq_some_iff.1 hc).1
def own (v : Value) : List Nat := v.ownBlock.toList
def lfoot (l m : Nat) (v5 v6 v7 : Value) : List Nat := l :: m :: (own v5 ++ (own v6 ++ own v7))
def lgCells (d m : Nat) (v5 v6 v7 : Value) (T : Lg) : List Value :=
 [.pointer (some ⟨d, 0, none⟩), .int .i64 T.losses, .int .i64 T.first, .int .i64 T.regions, .int .u64 T.num, v5, v6, v7, .map (some m)]
structure LgIn (w : World) (l d m : Nat) (v5 v6 v7 : Value) (T : Lg) : Prop where
 box : Blk w l (lgCells d m v5 v6 v7 T) 202
 sld : w.ownsRow 0 206 3 v5 T.regs.length (rgRow T.regs)
 rows : ∀ r ∈ T.regs, w.ownsRow 0 211 1 r.v r.ths.length (ptrCells r.ths)
 opn : w.ownsRow 0 211 1 v6 T.opn.length (ptrCells T.opn)
 cont : w.ownsRow 0 5 1 v7 T.cont.length (bCells T.cont)
 map : MapAt w m T.cap T.has
 ths : ∀ t ∈ T.all, ThAt w t
 apart : ∀ r ∈ T.regs, ∀ q, r.v.ownBlock = some q -> v6.ownBlock ≠ some q
 hasAt : ∀ k p, T.has k = some p -> ∃ t ∈ T.all, t.pos = p /\ t.it.key = k
theorem own_same {w w' : World} {base : Nat} {e : TypeId} {size : Nat} {v : Value} {n : Nat} {xs : List Value} (h : w.ownsRow base e size v n xs) (k : ∀ q, v.ownBlock = some q -> w'.heap[q]? = w.heap[q]?) : w'.ownsRow base e size v n xs := by
 refine ⟨h.1, ?_⟩
 rcases h.2 with h2 | ⟨g, cap, cur, hv, hg, hh, r⟩
 ·exact .inl h2
 ·exact .inr ⟨g, cap, cur, hv, hg, by rw [k g (by rw [hv]; rfl)]; exact hh, r⟩
theorem own_ty {w : World} {base : Nat} {e : TypeId} {size : Nat} {v : Value} {n : Nat} {xs : List Value} (h : w.ownsRow base e size v n xs) {q : Nat} (hq : v.ownBlock = some q) : ∃ c, w.heap[q]? = some (.cells c e (0, 0)) := by
 rcases h.2 with ⟨h2, _⟩ | ⟨g, cap, cur, hv, hg, hh, r⟩
 ·rw [h2] at hq; cases hq
 ·rw [hv] at hq
  simp [Value.ownBlock] at hq
  subst hq
  exact ⟨cur, hh⟩
theorem mem_own {v : Value} {q : Nat} : q ∈ own v ↔ v.ownBlock = some q := by simp [own, Option.mem_toList]
def lblocks (l m : Nat) (v5 v6 v7 : Value) (T : Lg) : List Nat := lfoot l m v5 v6 v7 ++ (T.regs.flatMap (fun r => own r.v) ++ T.all.map Th.blk)
section
variable {w w' : World} {l d m : Nat} {v5 v6 v7 : Value} {T : Lg}
theorem LgIn.same (h : LgIn w l d m v5 v6 v7 T) (k : ∀ q ∈ lblocks l m v5 v6 v7 T, w'.heap[q]? = w.heap[q]?) : LgIn w' l d m v5 v6 v7 T := by
 refine ⟨h.box.same (k l (by simp [lblocks, lfoot])), own_same h.sld (fun q hq => k q (by simp [lblocks, lfoot, mem_own, hq])), fun r hr => own_same (h.rows r hr) (fun q hq => k q ?_),
  own_same h.opn (fun q hq => k q (by simp [lblocks, lfoot, mem_own, hq])), own_same h.cont (fun q hq => k q (by simp [lblocks, lfoot, mem_own, hq])), h.map.same (k m (by simp [lblocks, lfoot])), fun t ht => (h.ths t ht).same (k _ ?_), h.apart, h.hasAt⟩
 ·refine List.mem_append.2 (.inr (List.mem_append.2 (.inl (List.mem_flatMap.2 ⟨r, hr, mem_own.2 hq⟩))))
 ·exact List.mem_append.2 (.inr (List.mem_append.2 (.inr (List.mem_map.2 ⟨t, ht, rfl⟩))))
theorem LgIn.kinds (h : LgIn w l d m v5 v6 v7 T) : ∀ q ∈ lblocks l m v5 v6 v7 T, (∃ es c, w.heap[q]? = some (.map es c)) \/ ∃ c e, w.heap[q]? = some (.cells c e (0, 0)) /\ (e = 202 \/ e = 206 \/ e = 211 \/ e = 5 \/ e = 39) := by
 intro q hq
 rcases List.mem_append.1 hq with hq | hq
 ·simp only [lfoot, List.mem_cons, List.mem_append, mem_own] at hq
  rcases hq with rfl | rfl | hq | hq | hq
  ·exact .inr ⟨_, _, h.box, .inl rfl⟩
  ·exact .inl h.map.isMap
  ·obtain ⟨c, hc⟩ := own_ty h.sld hq; exact .inr ⟨c, _, hc, .inr (.inl rfl)⟩
  ·obtain ⟨c, hc⟩ := own_ty h.opn hq; exact .inr ⟨c, _, hc, .inr (.inr (.inl rfl))⟩
  ·obtain ⟨c, hc⟩ := own_ty h.cont hq; exact .inr ⟨c, _, hc, .inr (.inr (.inr (.inl rfl)))⟩
 ·rcases List.mem_append.1 hq with hq | hq
  ·obtain ⟨r, hr, hq⟩ := List.mem_flatMap.1 hq
   obtain ⟨c, hc⟩ := own_ty (h.rows r hr) (mem_own.1 hq)
   exact .inr ⟨c, _, hc, .inr (.inr (.inl rfl))⟩
  ·obtain ⟨t, ht, rfl⟩ := List.mem_map.1 hq
   obtain ⟨c, hc⟩ := (h.ths t ht).ty
   exact .inr ⟨c, _, hc, .inr (.inr (.inr (.inr rfl)))⟩
theorem LgIn.lt (h : LgIn w l d m v5 v6 v7 T) : ∀ q ∈ lblocks l m v5 v6 v7 T, q < w.heap.size := by
 intro q hq
 rcases h.kinds q hq with ⟨es, c, hh⟩ | ⟨c, e, hh, _⟩
 ·exact (Array.getElem?_eq_some_iff.1 hh).1
 ·exact (Array.getElem?_eq_some_iff.1 hh).1
theorem LgIn.below (h : LgIn w l d m v5 v6 v7 T) (b : Below w.heap.size w w') : LgIn w' l d m v5 v6 v7 T := h.same (fun q hq => b.block q (h.lt q hq))
theorem LgIn.alloc (h : LgIn w l d m v5 v6 v7 T) (o : Obj) : LgIn (w.alloc o) l d m v5 v6 v7 T := h.below ((Below.refl _ _).alloc (Nat.le_refl _) _)
theorem LgIn.heap (h : LgIn w l d m v5 v6 v7 T) (e : w'.heap = w.heap) : LgIn w' l d m v5 v6 v7 T := h.same (fun q hq => by rw [e])
end
theorem DvAt.kinds {w : World} {d : Nat} {F : List Nat} {S : Dv} (h : DvAt w d F S) : ∀ q ∈ F, ∃ c e, w.heap[q]? = some (.cells c e (0, 0)) /\ (e = 95 \/ e = 225 \/ e = 227) := by
 obtain ⟨p, pd, wa, wc, rfl, h⟩ := h
 intro q hq
 simp only [foot, List.mem_cons] at hq
 rcases hq with rfl | rfl | hq
 ·exact ⟨_, _, h.dev, .inl rfl⟩
 ·exact ⟨_, _, h.row, .inr (.inl rfl)⟩
 ·cases wa with
  | none => simp at hq
  | some a =>
   simp at hq
   subst hq
   obtain ⟨c, hc⟩ := own_ty h.own (q := a.block) rfl
   exact ⟨c, _, hc, .inr (.inr rfl)⟩
theorem LgIn.off {w : World} {l d m d' : Nat} {v5 v6 v7 : Value} {T : Lg} {F : List Nat} {S : Dv} (h : LgIn w l d m v5 v6 v7 T) (hd : DvAt w d' F S) : ∀ q ∈ lblocks l m v5 v6 v7 T, q ∉ F := by
 intro q hq hF
 obtain ⟨c, e, h1, h2⟩ := hd.kinds q hF
 rcases h.kinds q hq with ⟨es, c', hh⟩ | ⟨c', e', hh, he⟩
 ·rw [h1] at hh; cases hh
 ·rw [h1] at hh
  simp only [Option.some.injEq, Obj.cells.injEq] at hh
  have := hh.2.1
  rcases h2 with rfl | rfl | rfl <;> rcases he with rfl | rfl | rfl | rfl | rfl <;> cases this
theorem LgIn.dev {w w' : World} {l d m d' : Nat} {v5 v6 v7 : Value} {T : Lg} {F : List Nat} {S : Dv} (h : LgIn w l d m v5 v6 v7 T) (hd : DvAt w d' F S) (k : Keep F w w') : LgIn w' l d m v5 v6 v7 T :=
 h.same (fun q hq => k.block q (h.lt q hq) (h.off hd q hq))
theorem list_cap (ht : TakeIs) (a : Option Addr) (n cap : Nat) (l : List UInt8) (hcap : cap <= 9223372036854775807) (hn20 : n <= 1048576) (w : World) (h : BS w a n cap l) :
  Calls Tryz.prog 181 #[.slice a n cap] w (ListPost w (lst l)) := by
 have H := hide h
 clear h
 go_enter Tryz.func181, Tryz.ntmps181
 go_wp2_with fail
 obtain ⟨i0, hi0, hp0⟩ := Option.map_eq_some_iff.1 info30
 simp only [Prod.mk.injEq] at hp0
 obtain ⟨hz0, hz1, hz2⟩ := hp0
 have hn : n <= cap := H.out.cap
 go_loopg [0, 4] n (fun kx s0 s4 wr => ∃ (a' : Option Addr) (n' c' : Nat) (va : Option Addr) (vk vc : Nat), s0 = .slice a' n' c' /\ s4 = .slice va vk vc /\ n' <= kx /\ n' <= c' /\ c' <= 9223372036854775807 /\ ∃ (acc : List It) (r : List UInt8), Hid (BS w a' n' c' r /\ wr.ownsRow w.heap.size 39 5 (.slice va vk vc) acc.length (itsCells acc) /\ lst l = (lst r).map (acc ++ ·) /\ Below w.heap.size w wr /\ acc.length + n' <= n))
 case atStart => exact ⟨a, n, cap, none, 0, 0, rfl, rfl, Nat.le_refl _, hn, hcap, [], l, H.out, World.ownsRow_nil _ _ _ _, by cases lst l <;> simp, Below.refl _ _, by simp⟩
 case round =>
  obtain ⟨a', n', c', va, vk, vc, rfl, rfl, hk, hnc, hc20, acc, r, I⟩ := hrel
  have ce := hide (ended_any a' n' c' r wr (I.out.1.later I.out.2.2.2.1))
  cases hE : ended r with
  | true =>
   rw [hE] at ce
   have E : Hid (lst l = some acc) := by
    show _ = _
    rw [I.out.2.2.1, lst_none (by simp [take, hE])]
    simp
   clear hE
   go_wp2_with (go_at_call 204; refine ce.out.mono ?_; rintro r1 w1 ⟨rfl, h1⟩; obtain rfl : wr = w1 := h1.symm; clear h1)
   go_ret2
   rw [E.out]
   exact ⟨I.out.2.2.2.1, _, rfl, I.out.2.1⟩
  | false =>
   rw [hE] at ce
   have ct := hide (ht a' n' c' r (by omega) wr (I.out.1.later I.out.2.2.2.1))
   have hpos : 0 < n' := by
    rcases Nat.eq_zero_or_pos n' with h0 | h0
    ·have := I.out.1.len
     rw [h0] at this
     have h2 : r = [] := List.eq_nil_of_length_eq_zero this.symm
     rw [h2] at hE
     simp [ended] at hE
    ·exact h0
   obtain ⟨b, off, rfl, _, _⟩ := I.out.1.cell 0 hpos
   rcases hT : take r with ⟨_ | _ | ⟨x, sz⟩⟩
   ·simp [take, hE] at hT; split at hT <;> (try split at hT) <;> simp at hT
   ·
    rw [hT] at ct
    have E : Hid (lst l = none) := by
     show _ = _
     rw [I.out.2.2.1, lst_bad hT]
     rfl
    have etk : tkV Tk.bad = .tuple #[.agg #[.string (txt []), .string (txt []), .int .u32 0, .int .i64 0, .int .u64 0], .int .i64 0, .int .i64 3] := rfl
    rw [etk] at ct
    clear hE hT etk
    generalize txt [] = nb at ct
    go_wp2_with (first
     | (go_at_call 204; refine ce.out.mono ?_; rintro r1 w1 ⟨rfl, h1⟩; obtain rfl : wr = w1 := h1.symm; clear h1)
     | (go_at_call 205; refine ct.out.mono ?_; rintro r1 w1 ⟨rfl, b1⟩; have B1 := hide b1; clear b1))
    go_ret2
    rw [E.out]
    exact ⟨((I.out.2.2.2.1.trans (B1.out.mono I.out.2.2.2.1.size)).alloc (Nat.le_trans I.out.2.2.2.1.size B1.out.size) _), rfl⟩
   ·
    obtain ⟨t1, t2, t3, t4, t5⟩ := take_ok hT
    rw [hT] at ct
    have E : Hid (lst l = (lst (r.drop sz)).map ((acc ++ [x]) ++ ·)) := by
     show _ = _
     rw [I.out.2.2.1, lst_ok hT]
     cases lst (r.drop sz) <;> simp
    have etk : tkV (Tk.ok x sz) = .tuple #[.agg #[.string (txt x.key), .string (txt x.value), .int .u32 x.flags, .int .i64 x.exp, .int .u64 x.ver], .int .i64 sz, .int .i64 0] := rfl
    rw [etk] at ct
    have hsz : sz <= n' := by rw [I.out.1.len]; exact t4
    have hsp : 0 < sz := by rw [t3]; exact x.size_pos
    have hszi : (sz : Int) <= (n' : Int) := by omega
    have SP := hide hsp
    have SZ := hide hsz
    clear hE hT etk t1 t2 t3 t4 t5 hsp hsz
    have hac : acc.length <= 1048576 := by have := I.out.2.2.2.2; omega
    go_wp2_with (first
     | (go_at_call 204; refine ce.out.mono ?_; rintro r1 w1 ⟨rfl, h1⟩; obtain rfl : wr = w1 := h1.symm; clear h1)
     | (go_at_call 205; refine ct.out.mono ?_; rintro r1 w1 ⟨rfl, b1⟩; have B1 := hide b1; clear b1)
     | (at_builtin; refine wpList_append_own _ rfl _ _ 72 rfl w.heap.size 39 i0 _ 5 56 Tryz.underlying72 hi0 hz0 hz1 hz2 rfl (by decide) _ _ _ rfl (((rown_below I.out.2.1 B1.out).alloc _).alloc _) ⟨w1.heap.size + 1, 0, none⟩ 1 1 (itCells x) rfl ?qc1 ?qc2 ?qc3 ?qc4 ?qc5 ?qc6 ?_))
    case qc1 => rfl
    case qc2 =>
     intro j u hj
     rw [Addr.add_lit, Nat.zero_add]
     have hh := (Blk.new (w1.alloc (.cells #[.string (txt x.key), .string (txt x.value), .int .u32 x.flags, .int .i64 x.exp, .int .u64 x.ver] 39)) (itCells x) 39).cell hj
     rw [nblk_alloc] at hh
     exact hh
    case qc3 => intro u hu; simp [itCells] at hu; rcases hu with rfl | rfl | rfl | rfl | rfl <;> rfl
    case qc4 => unfold maxLen; omega
    case qc5 => omega
    case qc6 => have := I.out.2.2.2.1.size; have := B1.out.size; simp; omega
    intro v' w2 hown hgrow hnil
    obtain ⟨g2, cp2, rfl⟩ : ∃ g2 cp2, v' = .slice (some ⟨g2, 0, none⟩) (acc.length + 1) cp2 := by
     rcases hown.2 with ⟨_, h0⟩ | ⟨g2, cp2, _, hv, _⟩
     ·omega
     ·exact ⟨g2, cp2, hv⟩
    have hB2 : Below w.heap.size w w2 := by
     have h1 := I.out.2.2.2.1.trans (B1.out.mono I.out.2.2.2.1.size)
     have h2 := (h1.alloc h1.size (.cells #[.string (txt x.key), .string (txt x.value), .int .u32 x.flags, .int .i64 x.exp, .int .u64 x.ver] 39))
     have h3 := (h2.alloc h2.size (.cells #[.string (txt x.key), .string (txt x.value), .int .u32 x.flags, .int .i64 x.exp, .int .u64 x.ver] 39))
     exact h3.grown hgrow h3.size (fun k hk => (I.out.2.1.lt k hk).1)
    rw [itsCells_snoc] at hown
    have FO := hide hown
    have FB := hide hB2
    clear hown hgrow hnil hB2
    have hl : Hid (acc.length + 1 = (acc ++ [x]).length) := by show _ = _; simp
    have szl : Hid (n' - sz = (r.drop sz).length) := by show _ = _; rw [List.length_drop, <- I.out.1.len]
    by_cases hce : c' = sz
    ·have hc2 : (c' = sz) = True := eq_true hce
     have HCE := hide hce
     clear hce
     go_wp2
     go_roundg (n' - sz)
     case measure => have := SP.out; omega
     case rel =>
      refine ⟨_, n' - sz, c' - sz, _, _, _, rfl, rfl, Nat.le_refl _, by omega, by omega, acc ++ [x], r.drop sz, ?_, ?_, E.out, FB.out, ?_⟩
      ·have h0 : r.drop sz = [] := List.eq_nil_of_length_eq_zero (by have := szl.out; have := HCE.out; omega)
       rw [h0]
       have := HCE.out
       exact ⟨by simp; omega, by omega, Reads.nil _ _, fun i hi => absurd hi (by omega)⟩
      ·rw [<- hl.out]; exact FO.out
      ·rw [<- hl.out]; have := I.out.2.2.2.2; have := SP.out; have := SZ.out; omega
    ·go_wp2
     go_roundg (n' - sz)
     case measure => have := SP.out; omega
     case rel =>
      refine ⟨_, n' - sz, c' - sz, _, _, _, rfl, rfl, Nat.le_refl _, by omega, by omega, acc ++ [x], r.drop sz, ?_, ?_, E.out, FB.out, ?_⟩
      ·have h0 := I.out.1.sub sz n' (off + sz) (n' - sz) (c' - sz) rfl SZ.out (Nat.le_refl _) rfl (by omega)
       rw [show sl r sz n' = r.drop sz by unfold sl; rw [I.out.1.len, List.take_length]] at h0
       exact h0
      ·rw [<- hl.out]; exact FO.out
      ·rw [<- hl.out]; have := I.out.2.2.2.2; have := SP.out; have := SZ.out; omega
end Go.Proofs.YtcdghalnneilpaaGreat
set_option maxRecDepth 100000
namespace Go.Proofs.YtcdghalnneilpaaGreat
open Go.RowKit Go.Deep Math
theorem take_good1 (a : Option Addr) (n cap : Nat) (l : List UInt8) (hcap : cap <= 9223372036854775807) (w : World) (h : BS w a n cap l) (hE : ended l = false) (hF : form1 l = true) (hF2 : form2 l = true) (hce0 : ¬ cap = 32 + tkKey l) :
  Calls Tryz.prog 205 #[.slice a n cap] w fun e w' => e = .returned (tkV (.ok (tkItem l) (tkLen l))) /\ Below w.heap.size w w' := by
 have HCE := hide hce0
 clear hce0
 have hnl := h.len
 have hcp := h.cap
 obtain ⟨f1, f2, f3⟩ := form1_of hF
 have ce := hide (fun (W : World) (hW : W.heap = (w.alloc zeroBox).heap) => ended_any a n cap l W ((h.later ((Below.refl _ _).alloc (Nat.le_refl _) _)).heap hW))
 rw [hE] at ce
 obtain ⟨b, off, rfl, hb, hc0⟩ := h.cell 0 (by omega)
 obtain ⟨b', off', ha, _, hc3⟩ := h.cell 3 (by omega)
 simp only [Option.some.injEq, Addr.mk.injEq, and_true] at ha
 obtain ⟨rfl, rfl⟩ := ha
 rw [f2] at hc3
 have hc3' : w.cell? ⟨b, off + 3, none⟩ = some (.int .u8 82) := hc3
 rw [Nat.add_zero] at hc0
 have L : Look w (w.alloc zeroBox) b off n cap l := ⟨h.later ((Below.refl _ _).alloc (Nat.le_refl _) _), by omega⟩
 obtain ⟨UU, hUU⟩ : ∃ UU : Nat -> Nat -> Nat, UU = fun i m => up (sl l i (i + m)) := ⟨_, rfl⟩
 have cA : Hid (∀ (W : World) (i m c : Nat), W.heap = (w.alloc zeroBox).heap -> i + m <= n -> m <= 8 -> m <= c -> Calls Tryz.prog 218 #[.slice (some ⟨b, off + i, none⟩) m c] W fun e w' => e = .returned (.int .u64 (UU i m : Int)) /\ w' = W) := fun W i m c hW h1 h2 h3 => by
  rw [hUU]
  exact L.number i (i + m) c (by omega) h1 (by omega) (by omega) hW m (off + i) (by omega) rfl
 have u24 : up (sl l 24 28) = UU 24 4 := by rw [hUU]
 have u1 : up (sl l 1 3) = UU 1 2 := by rw [hUU]
 have u16 : up (sl l 16 24) = UU 16 8 := by rw [hUU]
 have u28 : up (sl l 28 32) = UU 28 4 := by rw [hUU]
 have cc := hide (fun (W : World) (hW : W.heap = (w.alloc zeroBox).heap) => L.crc 0 24 cap (by omega) (by omega) (by omega) (by omega) hW 24 off rfl rfl)
 have hcl := crcN_lt (sl l 0 24)
 rw [<- f3] at cc hcl
 rw [u24] at cc hcl
 have hcw : IntKind.u64.wrap (UU 24 4 : Int) = (UU 24 4 : Int) := by rw [IntKind.wrap_u64]; omega
 have hx0 := (l.getD 0 0).toNat_lt
 have hv0 : up (sl l 1 3) <= 65535 := by have := up_lt (sl l 1 3); rw [sl_length _ _ _ (by omega)] at this; simp at this; omega
 have eF : form2 l = (mayBe (tkKey l) (tkVal l) (tkVer l) && decide (tkLen l <= l.length) && decide (up (sl l 28 32) = crcN (sl l 32 (tkLen l)))) := rfl
 have ek : tkKey l = (l.getD 0 0).toNat := rfl
 have ev : tkVal l = up (sl l 1 3) := rfl
 have er : tkVer l = up (sl l 16 24) := rfl
 have el : tkLen l = 32 + tkKey l + tkVal l := rfl
 have cm := hide (mayBe_any (tkKey l) (tkVal l) (tkVer l))
 have cc2 : Hid (∀ (W : World) (m : Nat), W.heap = (w.alloc zeroBox).heap -> m = tkKey l + tkVal l -> tkLen l <= n -> Calls Tryz.prog 179 #[.slice (some ⟨b, off + 32, none⟩) m (cap - 32)] W fun e w' => e = .returned (.int .u32 (crcN (sl l 32 (tkLen l)) : Int)) /\ w' = W) := fun W m hW hm hle =>
  L.crc 32 (tkLen l) (cap - 32) (by omega) hle (by omega) (by omega) hW m (off + 32) (by omega) rfl
 have hi32 : (32 : Int) <= (n : Int) := by omega
 have hlt : ((n : Int) < 32) = False := eq_false (by omega)
 have hi3 : (3 : Int) < (n : Int) := by omega
 have hi0 : 0 < n := by omega
 have hc32 : (32 : Int) <= (cap : Int) := by omega
 have hc28 : (28 : Int) <= (cap : Int) := by omega
 have hc24 : (24 : Int) <= (cap : Int) := by omega
 have hcc3 : (3 : Int) <= (cap : Int) := by omega
 rw [<- ek] at hc0 hx0
 rw [<- ev] at hv0
 rw [eF] at hF2
 have HEL := hide el
 have hcl2 := crcN_lt (sl l 32 (tkLen l))
 obtain ⟨n32, hn32⟩ : ∃ x, x = l.length := ⟨_, rfl⟩
 generalize crcN (sl l 32 (tkLen l)) = cq at cc2 hF2 hcl2
 rw [u28] at hF2
 rw [u1] at ev
 rw [u16] at er
 generalize hk : tkKey l = k at *
 rw [ev] at hv0 cm cc2 HEL hF2
 rw [er] at cm hF2
 have HNL := hide hnl
 have HCL := hide hcl
 have HCL2 := hide hcl2
 have HF1 := hide f1
 have LL := hide L
 have F0 : (tkItem l).flags = UU 4 4 := by show up (sl l 4 8) = _; rw [hUU]
 have X0 : (tkItem l).exp = i64 (UU 8 8) := by show i64 (up (sl l 8 16)) = _; rw [hUU]
 have R0 : (tkItem l).ver = UU 16 8 := by show tkVer l = _; rw [er]
 have F1 : UU 4 4 < 4294967296 := by rw [hUU]; have := up_lt (sl l 4 (4 + 4)); rw [sl_length _ _ _ (by omega)] at this; exact this
 have X1 : UU 8 8 < 18446744073709551616 := by rw [hUU]; have := up_lt (sl l 8 (8 + 8)); rw [sl_length _ _ _ (by omega)] at this; exact this
 have KB0 : (tkItem l).key = sl l 32 (32 + k) := by show sl l 32 (32 + tkKey l) = _; rw [hk]
 have VB0 : (tkItem l).value = sl l (32 + k) (32 + k + UU 1 2) := by show sl l (32 + tkKey l) (tkLen l) = _; rw [hk, HEL.out]
 obtain ⟨kb, hkb⟩ : ∃ kb, kb = txt (sl l 32 (32 + k)) := ⟨_, rfl⟩
 obtain ⟨vb, hvb⟩ : ∃ vb, vb = txt (sl l (32 + k) (32 + k + UU 1 2)) := ⟨_, rfl⟩
 have EV : Hid (tkV (.ok (tkItem l) (tkLen l)) = .tuple #[.agg #[.string kb, .string vb, .int .u32 (IntKind.u32.wrap (UU 4 4 : Int)), .int .i64 (IntKind.i64.wrap (UU 8 8 : Int)), .int .u64 (UU 16 8 : Int)], .int .i64 ((32 : Int) + (k : Int) + (UU 1 2 : Int)), .int .i64 0]) := by
  show Value.tuple #[itV (txt (tkItem l).key) (txt (tkItem l).value) ((tkItem l).flags : Int) (tkItem l).exp ((tkItem l).ver : Int), .int .i64 (tkLen l : Int), .int .i64 0] = _
  have e1 : IntKind.u32.wrap (UU 4 4 : Int) = (UU 4 4 : Int) := by rw [IntKind.wrap_u32']; omega
  have e2 : IntKind.i64.wrap (UU 8 8 : Int) = i64 (UU 8 8) := by rw [IntKind.wrap_i64]; unfold i64; split <;> omega
  have e3 : (tkLen l : Int) = (32 : Int) + (k : Int) + (UU 1 2 : Int) := by rw [HEL.out]; omega
  rw [KB0, VB0, F0, X0, R0, e1, e2, e3, <- hkb, <- hvb]
  rfl
 clear F0 X0 R0 F1 X1
 have KB := hide hkb
 have VB := hide hvb
 have KB1 := hide KB0
 have VB1 := hide VB0
 clear hkb hvb KB0 VB0
 clear hk eF ek ev er h hE hF f2 f3 hc3 L u24 u1 u16 u28 hUU hnl hcl hcl2 f1 hn32 n32 el
 have e1 : ¬ cap = 1 := by omega
 have e16 : ¬ cap = 16 := by omega
 have e28 : ¬ cap = 28 := by omega
 have e24 : ¬ cap = 24 := by omega
 have hwk : IntKind.i64.wrap (k : Int) = (k : Int) := by rw [IntKind.wrap_i64]; omega
 have hwv : IntKind.i64.wrap (UU 1 2 : Int) = (UU 1 2 : Int) := by rw [IntKind.wrap_i64]; omega
 have hk255 : k <= 255 := by omega
 simp only [Bool.and_eq_true, decide_eq_true_eq] at hF2
 obtain ⟨⟨hmb, hsz0⟩, heq⟩ := hF2
 rw [hmb] at cm
 have hsz : 32 + k + UU 1 2 <= n := by rw [<- HEL.out, HNL.out]; exact hsz0
 have hk1 : 1 <= k := by
  simp only [mayBe, Bool.and_eq_true, decide_eq_true_eq] at hmb
  exact hmb.1.1.1
 have hlt2 : ((n : Int) < 32 + (k : Int) + (UU 1 2 : Int)) = False := eq_false (by omega)
 have hle2 : (32 : Int) + (k : Int) + (UU 1 2 : Int) <= (cap : Int) := by omega
 have hcqw : IntKind.u64.wrap (cq : Int) = (cq : Int) := by rw [IntKind.wrap_u64]; have := HCL2.out; omega
 have hlen : Hid (tkLen l <= n) := by show _ <= _; rw [HEL.out]; exact hsz
 have e32 : ¬ cap = 32 := by omega
 have heqi : (UU 28 4 : Int) = (cq : Int) := by omega
 clear hmb hx0 hsz0 heq
 go_enter Tryz.func205, Tryz.ntmps205
 go_wp2_with (go_at_call 204; refine (ce.out _ ?_).mono ?_; rfl; rintro r w1 ⟨rfl, rfl⟩)
 go_quiet (first
  | (go_at_call 218; refine Calls.quiet_of_same (cA.out _ _ _ _ ?_ ?_ ?_ ?_); rfl; omega; omega; omega)
  | (go_at_call 179; refine Calls.quiet_of_same (cc.out _ ?_); rfl))
 go_wp2
 have A1 := hide (At.new (w := w) (nq := nq))
 generalize (w.alloc (.cells #[.string ⟨#[]⟩, .string ⟨#[]⟩, .int .u32 0, .int .i64 0, .int .u64 0] 39)).drewN nq = W1 at A1 ⊢
 obtain ⟨hb1, hd0⟩ := A1.out.cell hb hc0
 go_quiet (first
  | (go_at_call 218; refine Calls.quiet_of_same (cA.out _ _ _ _ ?_ ?_ ?_ ?_); exact A1.out.heap; omega; omega; omega))
 go_wp2
 have A2 := hide (A1.out.more nq)
 generalize W1.drewN nq = W2 at A2 ⊢
 clear A1 hb1 hd0
 go_quiet (first
  | (go_at_call 107; exact Calls.quiet_of_same (cm.out _))
  | (go_at_call 218; refine Calls.quiet_of_same (cA.out _ _ _ _ ?_ ?_ ?_ ?_); exact A2.out.heap; omega; omega; omega)
  | (go_at_call 179; refine Calls.quiet_of_same (cc2.out _ _ ?_ ?_ ?_); exact A2.out.heap; omega; exact hlen.out))
 go_wp2
 have A3 := hide (A2.out.more nq)
 generalize W2.drewN nq = W3 at A3 ⊢
 clear A2
 obtain ⟨x0, x1, x2, x3, x4⟩ : W3.cell? ⟨w.heap.size, 0, none⟩ = some (.string ⟨#[]⟩) /\ W3.cell? ⟨w.heap.size, 1, none⟩ = some (.string ⟨#[]⟩) /\ W3.cell? ⟨w.heap.size, 2, none⟩ = some (.int .u32 0) /\ W3.cell? ⟨w.heap.size, 3, none⟩ = some (.int .i64 0) /\ W3.cell? ⟨w.heap.size, 4, none⟩ = some (.int .u64 0) := ⟨A3.out.box.cell rfl, A3.out.box.cell rfl, A3.out.box.cell rfl, A3.out.box.cell rfl, A3.out.box.cell rfl⟩
 have y0 := A3.out.box.frozen 0
 have y1 := A3.out.box.frozen 1
 have y2 := A3.out.box.frozen 2
 have y3 := A3.out.box.frozen 3
 have y4 := A3.out.box.frozen 4
 have bs3 : BS W3.drew (some ⟨b, off, none⟩) n cap l := LL.out.bs.heap A3.out.heap
 have bs30 : BS W3 (some ⟨b, off, none⟩) n cap l := LL.out.bs.heap A3.out.heap
 have bsX := bs_box (w := w) bs30 (show b ≠ w.heap.size by omega)
 clear bs30
 have hq1 : (32 : Int) + (k : Int) <= (cap : Int) := by omega
 have hq9 : ((32 : Int) + (k : Int)).toNat = 32 + k := by omega
 have hq10 : ((32 : Int) + (k : Int) + (UU 1 2 : Int)).toNat = 32 + k + UU 1 2 := by omega
 have hw32 : IntKind.i64.wrap ((32 : Int) + (k : Int)) = (32 : Int) + (k : Int) := by rw [IntKind.wrap_i64]; omega
 have hq3 : (32 : Int) + (k : Int) <= (32 : Int) + (k : Int) + (UU 1 2 : Int) := by omega
 have e4 : ¬ cap = 4 := by omega
 have e8 : ¬ cap = 8 := by omega
 have hc8 : (8 : Int) <= (cap : Int) := by omega
 have hc16 : (16 : Int) <= (cap : Int) := by omega
 have cK : ∀ W, BS W (some ⟨b, off, none⟩) n cap l -> (convert 40 9 (.slice (some ⟨b, off + 32, none⟩) k (cap - 32))).run Tryz.prog W = .ok (.string kb) W := fun W hW => by
  rw [KB.out]; exact str_bs (hW.sub 32 (32 + k) (off + 32) k (cap - 32) rfl (by omega) (by omega) (by omega) (by omega)) (fun h => by cases h)
 have cK2 : Hid (∀ W, BS W (some ⟨b, off, none⟩) n cap l -> (convert 40 9 (.slice (some ⟨b, off + 32, none⟩) k k)).run Tryz.prog W = .ok (.string kb) W) := fun W hW => by
  rw [KB.out]; exact str_bs (hW.sub 32 (32 + k) (off + 32) k k rfl (by omega) (by omega) (by omega) (by omega)) (fun h => by cases h)
 have cE0 : Hid (∀ (W : World), (convert 40 9 (.slice (some ⟨b, off, none⟩) 0 0)).run Tryz.prog W = .ok (.string ⟨#[]⟩) W) := fun W => str_bs (w := W) (a := some ⟨b, off, none⟩) (n := 0) (cap := 0) (l := []) ⟨rfl, Nat.le_refl _, Reads.nil _ _, fun i hi => absurd hi (by omega)⟩ (fun h => by cases h)
 have CK := hide cK
 have BX := hide bsX
 have B3 := hide bs3
 clear cK bsX bs3
 have hce := HCE.out
 have cV : Hid (∀ W, BS W (some ⟨b, off, none⟩) n cap l -> (convert 40 9 (.slice (some ⟨b, off + (32 + k), none⟩) (UU 1 2) (cap - (32 + k)))).run Tryz.prog W = .ok (.string vb) W) := fun W hW => by
  rw [VB.out]; exact str_bs (hW.sub (32 + k) (32 + k + UU 1 2) (off + (32 + k)) (UU 1 2) (cap - (32 + k)) rfl (by omega) (by omega) (by omega) (by omega)) (fun h => by cases h)
 have sK3 : (convert 40 9 (.slice (some ⟨b, off + 32, none⟩) k (cap - 32))).run Tryz.prog W3.drew = .ok (.string kb) W3.drew := CK.out _ B3.out
 have sV3 : (convert 40 9 (.slice (some ⟨b, off + (32 + k), none⟩) (UU 1 2) (cap - (32 + k)))).run Tryz.prog W3.drew = .ok (.string vb) W3.drew := cV.out _ B3.out
 have sKX : ∀ p1 p2 p3 p4 p5 : Value, (convert 40 9 (.slice (some ⟨b, off + 32, none⟩) k (cap - 32))).run Tryz.prog (((((W3.setCell ⟨w.heap.size, 0, none⟩ p1).setCell ⟨w.heap.size, 1, none⟩ p2).setCell ⟨w.heap.size, 2, none⟩ p3).setCell ⟨w.heap.size, 3, none⟩ p4).setCell ⟨w.heap.size, 4, none⟩ p5).drew = .ok (.string kb) (((((W3.setCell ⟨w.heap.size, 0, none⟩ p1).setCell ⟨w.heap.size, 1, none⟩ p2).setCell ⟨w.heap.size, 2, none⟩ p3).setCell ⟨w.heap.size, 3, none⟩ p4).setCell ⟨w.heap.size, 4, none⟩ p5).drew := fun p1 p2 p3 p4 p5 => CK.out _ (BX.out p1 p2 p3 p4 p5)
 have sVX : ∀ p1 p2 p3 p4 p5 : Value, (convert 40 9 (.slice (some ⟨b, off + (32 + k), none⟩) (UU 1 2) (cap - (32 + k)))).run Tryz.prog (((((W3.setCell ⟨w.heap.size, 0, none⟩ p1).setCell ⟨w.heap.size, 1, none⟩ p2).setCell ⟨w.heap.size, 2, none⟩ p3).setCell ⟨w.heap.size, 3, none⟩ p4).setCell ⟨w.heap.size, 4, none⟩ p5).drew = .ok (.string vb) (((((W3.setCell ⟨w.heap.size, 0, none⟩ p1).setCell ⟨w.heap.size, 1, none⟩ p2).setCell ⟨w.heap.size, 2, none⟩ p3).setCell ⟨w.heap.size, 3, none⟩ p4).setCell ⟨w.heap.size, 4, none⟩ p5).drew := fun p1 p2 p3 p4 p5 => cV.out _ (BX.out p1 p2 p3 p4 p5)
 go_region_held (fun W => (convert 40 9 (.slice (some ⟨b, off + 32, none⟩) k (cap - 32))).run Tryz.prog W = .ok (.string kb) W /\ (convert 40 9 (.slice (some ⟨b, off + (32 + k), none⟩) (UU 1 2) (cap - (32 + k)))).run Tryz.prog W = .ok (.string vb) W)
  (simp only [sK3, sV3, sKX, sVX, and_self])
  (first
  | (go_at_call 218; refine (cA.out _ _ _ _ ?_ ?_ ?_ ?_).mono ?_; exact A3.out.heap; omega; omega; omega; rintro r wx ⟨rfl, rfl⟩))
 all_goals go_wp2
 all_goals (
  refine bodyPost_ret (v := tkV (.ok (tkItem l) (tkLen l))) ?_ rfl ⟨rfl, ?_⟩
  ·rw [EV.out]
   have ew1 : IntKind.u32.wrap (UU 4 4 : Int) = (UU 4 4 : Int) % 4294967296 := IntKind.wrap_u32' _
   have ew2 : IntKind.i64.wrap (UU 8 8 : Int) = wrap64 (UU 8 8 : Int) := by rw [IntKind.wrap_i64]; unfold wrap64; omega
   simp [results, Tryz.results205, go_sem, x0, x1, x2, x3, x4, ew1, ew2]
  ·exact (below_box (w := w) (V := W3) A3.out.below _ _ _ _ _).drew)
end Go.Proofs.YtcdghalnneilpaaGreat
set_option maxRecDepth 100000
namespace Go.Proofs.YtcdghalnneilpaaGreat
open Go.RowKit Go.Deep Math
theorem take_good2 (a : Option Addr) (n cap : Nat) (l : List UInt8) (hcap : cap <= 9223372036854775807) (w : World) (h : BS w a n cap l) (hE : ended l = false) (hF : form1 l = true) (hF2 : form2 l = true) (hce0 : cap = 32 + tkKey l) :
  Calls Tryz.prog 205 #[.slice a n cap] w fun e w' => e = .returned (tkV (.ok (tkItem l) (tkLen l))) /\ Below w.heap.size w w' := by
 have HCE := hide hce0
 clear hce0
 have hnl := h.len
 have hcp := h.cap
 obtain ⟨f1, f2, f3⟩ := form1_of hF
 have ce := hide (fun (W : World) (hW : W.heap = (w.alloc zeroBox).heap) => ended_any a n cap l W ((h.later ((Below.refl _ _).alloc (Nat.le_refl _) _)).heap hW))
 rw [hE] at ce
 obtain ⟨b, off, rfl, hb, hc0⟩ := h.cell 0 (by omega)
 obtain ⟨b', off', ha, _, hc3⟩ := h.cell 3 (by omega)
 simp only [Option.some.injEq, Addr.mk.injEq, and_true] at ha
 obtain ⟨rfl, rfl⟩ := ha
 rw [f2] at hc3
 have hc3' : w.cell? ⟨b, off + 3, none⟩ = some (.int .u8 82) := hc3
 rw [Nat.add_zero] at hc0
 have L : Look w (w.alloc zeroBox) b off n cap l := ⟨h.later ((Below.refl _ _).alloc (Nat.le_refl _) _), by omega⟩
 obtain ⟨UU, hUU⟩ : ∃ UU : Nat -> Nat -> Nat, UU = fun i m => up (sl l i (i + m)) := ⟨_, rfl⟩
 have cA : Hid (∀ (W : World) (i m c : Nat), W.heap = (w.alloc zeroBox).heap -> i + m <= n -> m <= 8 -> m <= c -> Calls Tryz.prog 218 #[.slice (some ⟨b, off + i, none⟩) m c] W fun e w' => e = .returned (.int .u64 (UU i m : Int)) /\ w' = W) := fun W i m c hW h1 h2 h3 => by
  rw [hUU]
  exact L.number i (i + m) c (by omega) h1 (by omega) (by omega) hW m (off + i) (by omega) rfl
 have u24 : up (sl l 24 28) = UU 24 4 := by rw [hUU]
 have u1 : up (sl l 1 3) = UU 1 2 := by rw [hUU]
 have u16 : up (sl l 16 24) = UU 16 8 := by rw [hUU]
 have u28 : up (sl l 28 32) = UU 28 4 := by rw [hUU]
 have cc := hide (fun (W : World) (hW : W.heap = (w.alloc zeroBox).heap) => L.crc 0 24 cap (by omega) (by omega) (by omega) (by omega) hW 24 off rfl rfl)
 have hcl := crcN_lt (sl l 0 24)
 rw [<- f3] at cc hcl
 rw [u24] at cc hcl
 have hcw : IntKind.u64.wrap (UU 24 4 : Int) = (UU 24 4 : Int) := by rw [IntKind.wrap_u64]; omega
 have hx0 := (l.getD 0 0).toNat_lt
 have hv0 : up (sl l 1 3) <= 65535 := by have := up_lt (sl l 1 3); rw [sl_length _ _ _ (by omega)] at this; simp at this; omega
 have eF : form2 l = (mayBe (tkKey l) (tkVal l) (tkVer l) && decide (tkLen l <= l.length) && decide (up (sl l 28 32) = crcN (sl l 32 (tkLen l)))) := rfl
 have ek : tkKey l = (l.getD 0 0).toNat := rfl
 have ev : tkVal l = up (sl l 1 3) := rfl
 have er : tkVer l = up (sl l 16 24) := rfl
 have el : tkLen l = 32 + tkKey l + tkVal l := rfl
 have cm := hide (mayBe_any (tkKey l) (tkVal l) (tkVer l))
 have cc2 : Hid (∀ (W : World) (m : Nat), W.heap = (w.alloc zeroBox).heap -> m = tkKey l + tkVal l -> tkLen l <= n -> Calls Tryz.prog 179 #[.slice (some ⟨b, off + 32, none⟩) m (cap - 32)] W fun e w' => e = .returned (.int .u32 (crcN (sl l 32 (tkLen l)) : Int)) /\ w' = W) := fun W m hW hm hle =>
  L.crc 32 (tkLen l) (cap - 32) (by omega) hle (by omega) (by omega) hW m (off + 32) (by omega) rfl
 have hi32 : (32 : Int) <= (n : Int) := by omega
 have hlt : ((n : Int) < 32) = False := eq_false (by omega)
 have hi3 : (3 : Int) < (n : Int) := by omega
 have hi0 : 0 < n := by omega
 have hc32 : (32 : Int) <= (cap : Int) := by omega
 have hc28 : (28 : Int) <= (cap : Int) := by omega
 have hc24 : (24 : Int) <= (cap : Int) := by omega
 have hcc3 : (3 : Int) <= (cap : Int) := by omega
 rw [<- ek] at hc0 hx0
 rw [<- ev] at hv0
 rw [eF] at hF2
 have HEL := hide el
 have hcl2 := crcN_lt (sl l 32 (tkLen l))
 obtain ⟨n32, hn32⟩ : ∃ x, x = l.length := ⟨_, rfl⟩
 generalize crcN (sl l 32 (tkLen l)) = cq at cc2 hF2 hcl2
 rw [u28] at hF2
 rw [u1] at ev
 rw [u16] at er
 generalize hk : tkKey l = k at *
 rw [ev] at hv0 cm cc2 HEL hF2
 rw [er] at cm hF2
 have HNL := hide hnl
 have HCL := hide hcl
 have HCL2 := hide hcl2
 have HF1 := hide f1
 have LL := hide L
 have F0 : (tkItem l).flags = UU 4 4 := by show up (sl l 4 8) = _; rw [hUU]
 have X0 : (tkItem l).exp = i64 (UU 8 8) := by show i64 (up (sl l 8 16)) = _; rw [hUU]
 have R0 : (tkItem l).ver = UU 16 8 := by show tkVer l = _; rw [er]
 have F1 : UU 4 4 < 4294967296 := by rw [hUU]; have := up_lt (sl l 4 (4 + 4)); rw [sl_length _ _ _ (by omega)] at this; exact this
 have X1 : UU 8 8 < 18446744073709551616 := by rw [hUU]; have := up_lt (sl l 8 (8 + 8)); rw [sl_length _ _ _ (by omega)] at this; exact this
 have KB0 : (tkItem l).key = sl l 32 (32 + k) := by show sl l 32 (32 + tkKey l) = _; rw [hk]
 have VB0 : (tkItem l).value = sl l (32 + k) (32 + k + UU 1 2) := by show sl l (32 + tkKey l) (tkLen l) = _; rw [hk, HEL.out]
 obtain ⟨kb, hkb⟩ : ∃ kb, kb = txt (sl l 32 (32 + k)) := ⟨_, rfl⟩
 obtain ⟨vb, hvb⟩ : ∃ vb, vb = txt (sl l (32 + k) (32 + k + UU 1 2)) := ⟨_, rfl⟩
 have EV : Hid (tkV (.ok (tkItem l) (tkLen l)) = .tuple #[.agg #[.string kb, .string vb, .int .u32 (IntKind.u32.wrap (UU 4 4 : Int)), .int .i64 (IntKind.i64.wrap (UU 8 8 : Int)), .int .u64 (UU 16 8 : Int)], .int .i64 ((32 : Int) + (k : Int) + (UU 1 2 : Int)), .int .i64 0]) := by
  show Value.tuple #[itV (txt (tkItem l).key) (txt (tkItem l).value) ((tkItem l).flags : Int) (tkItem l).exp ((tkItem l).ver : Int), .int .i64 (tkLen l : Int), .int .i64 0] = _
  have e1 : IntKind.u32.wrap (UU 4 4 : Int) = (UU 4 4 : Int) := by rw [IntKind.wrap_u32']; omega
  have e2 : IntKind.i64.wrap (UU 8 8 : Int) = i64 (UU 8 8) := by rw [IntKind.wrap_i64]; unfold i64; split <;> omega
  have e3 : (tkLen l : Int) = (32 : Int) + (k : Int) + (UU 1 2 : Int) := by rw [HEL.out]; omega
  rw [KB0, VB0, F0, X0, R0, e1, e2, e3, <- hkb, <- hvb]
  rfl
 clear F0 X0 R0 F1 X1
 have KB := hide hkb
 have VB := hide hvb
 have KB1 := hide KB0
 have VB1 := hide VB0
 clear hkb hvb KB0 VB0
 clear hk eF ek ev er h hE hF f2 f3 hc3 L u24 u1 u16 u28 hUU hnl hcl hcl2 f1 hn32 n32 el
 have e1 : ¬ cap = 1 := by omega
 have e16 : ¬ cap = 16 := by omega
 have e28 : ¬ cap = 28 := by omega
 have e24 : ¬ cap = 24 := by omega
 have hwk : IntKind.i64.wrap (k : Int) = (k : Int) := by rw [IntKind.wrap_i64]; omega
 have hwv : IntKind.i64.wrap (UU 1 2 : Int) = (UU 1 2 : Int) := by rw [IntKind.wrap_i64]; omega
 have hk255 : k <= 255 := by omega
 simp only [Bool.and_eq_true, decide_eq_true_eq] at hF2
 obtain ⟨⟨hmb, hsz0⟩, heq⟩ := hF2
 rw [hmb] at cm
 have hsz : 32 + k + UU 1 2 <= n := by rw [<- HEL.out, HNL.out]; exact hsz0
 have hk1 : 1 <= k := by
  simp only [mayBe, Bool.and_eq_true, decide_eq_true_eq] at hmb
  exact hmb.1.1.1
 have hlt2 : ((n : Int) < 32 + (k : Int) + (UU 1 2 : Int)) = False := eq_false (by omega)
 have hle2 : (32 : Int) + (k : Int) + (UU 1 2 : Int) <= (cap : Int) := by omega
 have hcqw : IntKind.u64.wrap (cq : Int) = (cq : Int) := by rw [IntKind.wrap_u64]; have := HCL2.out; omega
 have hlen : Hid (tkLen l <= n) := by show _ <= _; rw [HEL.out]; exact hsz
 have e32 : ¬ cap = 32 := by omega
 have heqi : (UU 28 4 : Int) = (cq : Int) := by omega
 clear hmb hx0 hsz0 heq
 go_enter Tryz.func205, Tryz.ntmps205
 go_wp2_with (go_at_call 204; refine (ce.out _ ?_).mono ?_; rfl; rintro r w1 ⟨rfl, rfl⟩)
 go_quiet (first
  | (go_at_call 218; refine Calls.quiet_of_same (cA.out _ _ _ _ ?_ ?_ ?_ ?_); rfl; omega; omega; omega)
  | (go_at_call 179; refine Calls.quiet_of_same (cc.out _ ?_); rfl))
 go_wp2
 have A1 := hide (At.new (w := w) (nq := nq))
 generalize (w.alloc (.cells #[.string ⟨#[]⟩, .string ⟨#[]⟩, .int .u32 0, .int .i64 0, .int .u64 0] 39)).drewN nq = W1 at A1 ⊢
 obtain ⟨hb1, hd0⟩ := A1.out.cell hb hc0
 go_quiet (first
  | (go_at_call 218; refine Calls.quiet_of_same (cA.out _ _ _ _ ?_ ?_ ?_ ?_); exact A1.out.heap; omega; omega; omega))
 go_wp2
 have A2 := hide (A1.out.more nq)
 generalize W1.drewN nq = W2 at A2 ⊢
 clear A1 hb1 hd0
 go_quiet (first
  | (go_at_call 107; exact Calls.quiet_of_same (cm.out _))
  | (go_at_call 218; refine Calls.quiet_of_same (cA.out _ _ _ _ ?_ ?_ ?_ ?_); exact A2.out.heap; omega; omega; omega)
  | (go_at_call 179; refine Calls.quiet_of_same (cc2.out _ _ ?_ ?_ ?_); exact A2.out.heap; omega; exact hlen.out))
 go_wp2
 have A3 := hide (A2.out.more nq)
 generalize W2.drewN nq = W3 at A3 ⊢
 clear A2
 obtain ⟨x0, x1, x2, x3, x4⟩ : W3.cell? ⟨w.heap.size, 0, none⟩ = some (.string ⟨#[]⟩) /\ W3.cell? ⟨w.heap.size, 1, none⟩ = some (.string ⟨#[]⟩) /\ W3.cell? ⟨w.heap.size, 2, none⟩ = some (.int .u32 0) /\ W3.cell? ⟨w.heap.size, 3, none⟩ = some (.int .i64 0) /\ W3.cell? ⟨w.heap.size, 4, none⟩ = some (.int .u64 0) := ⟨A3.out.box.cell rfl, A3.out.box.cell rfl, A3.out.box.cell rfl, A3.out.box.cell rfl, A3.out.box.cell rfl⟩
 have y0 := A3.out.box.frozen 0
 have y1 := A3.out.box.frozen 1
 have y2 := A3.out.box.frozen 2
 have y3 := A3.out.box.frozen 3
 have y4 := A3.out.box.frozen 4
 have bs3 : BS W3.drew (some ⟨b, off, none⟩) n cap l := LL.out.bs.heap A3.out.heap
 have bs30 : BS W3 (some ⟨b, off, none⟩) n cap l := LL.out.bs.heap A3.out.heap
 have bsX := bs_box (w := w) bs30 (show b ≠ w.heap.size by omega)
 clear bs30
 have hq1 : (32 : Int) + (k : Int) <= (cap : Int) := by omega
 have hq9 : ((32 : Int) + (k : Int)).toNat = 32 + k := by omega
 have hq10 : ((32 : Int) + (k : Int) + (UU 1 2 : Int)).toNat = 32 + k + UU 1 2 := by omega
 have hw32 : IntKind.i64.wrap ((32 : Int) + (k : Int)) = (32 : Int) + (k : Int) := by rw [IntKind.wrap_i64]; omega
 have hq3 : (32 : Int) + (k : Int) <= (32 : Int) + (k : Int) + (UU 1 2 : Int) := by omega
 have e4 : ¬ cap = 4 := by omega
 have e8 : ¬ cap = 8 := by omega
 have hc8 : (8 : Int) <= (cap : Int) := by omega
 have hc16 : (16 : Int) <= (cap : Int) := by omega
 have cK : ∀ W, BS W (some ⟨b, off, none⟩) n cap l -> (convert 40 9 (.slice (some ⟨b, off + 32, none⟩) k (cap - 32))).run Tryz.prog W = .ok (.string kb) W := fun W hW => by
  rw [KB.out]; exact str_bs (hW.sub 32 (32 + k) (off + 32) k (cap - 32) rfl (by omega) (by omega) (by omega) (by omega)) (fun h => by cases h)
 have cK2 : Hid (∀ W, BS W (some ⟨b, off, none⟩) n cap l -> (convert 40 9 (.slice (some ⟨b, off + 32, none⟩) k k)).run Tryz.prog W = .ok (.string kb) W) := fun W hW => by
  rw [KB.out]; exact str_bs (hW.sub 32 (32 + k) (off + 32) k k rfl (by omega) (by omega) (by omega) (by omega)) (fun h => by cases h)
 have cE0 : Hid (∀ (W : World), (convert 40 9 (.slice (some ⟨b, off, none⟩) 0 0)).run Tryz.prog W = .ok (.string ⟨#[]⟩) W) := fun W => str_bs (w := W) (a := some ⟨b, off, none⟩) (n := 0) (cap := 0) (l := []) ⟨rfl, Nat.le_refl _, Reads.nil _ _, fun i hi => absurd hi (by omega)⟩ (fun h => by cases h)
 have CK := hide cK
 have BX := hide bsX
 have B3 := hide bs3
 clear cK bsX bs3
 have hce : (cap = 32 + k) = True := eq_true HCE.out
 have cV : Hid (∀ W, (convert 40 9 (.slice (some ⟨b, off, none⟩) (UU 1 2) (cap - (32 + k)))).run Tryz.prog W = .ok (.string vb) W) := fun W => by
  have hu0 : UU 1 2 = 0 := by have := HCE.out; omega
  rw [VB.out, hu0, Nat.add_zero]
  have : sl l (32 + k) (32 + k) = [] := by unfold sl; rw [List.drop_eq_nil_of_le (by rw [List.length_take]; omega)]
  rw [this]
  exact str_bs (w := W) (a := some ⟨b, off, none⟩) (n := 0) (cap := cap - (32 + k)) (l := []) ⟨rfl, Nat.zero_le _, Reads.nil _ _, fun i hi => absurd hi (by omega)⟩ (fun h => by cases h)
 have sK3 : (convert 40 9 (.slice (some ⟨b, off + 32, none⟩) k (cap - 32))).run Tryz.prog W3.drew = .ok (.string kb) W3.drew := CK.out _ B3.out
 have sV3 : (convert 40 9 (.slice (some ⟨b, off, none⟩) (UU 1 2) (cap - (32 + k)))).run Tryz.prog W3.drew = .ok (.string vb) W3.drew := cV.out _
 have sKX : ∀ p1 p2 p3 p4 p5 : Value, (convert 40 9 (.slice (some ⟨b, off + 32, none⟩) k (cap - 32))).run Tryz.prog (((((W3.setCell ⟨w.heap.size, 0, none⟩ p1).setCell ⟨w.heap.size, 1, none⟩ p2).setCell ⟨w.heap.size, 2, none⟩ p3).setCell ⟨w.heap.size, 3, none⟩ p4).setCell ⟨w.heap.size, 4, none⟩ p5).drew = .ok (.string kb) (((((W3.setCell ⟨w.heap.size, 0, none⟩ p1).setCell ⟨w.heap.size, 1, none⟩ p2).setCell ⟨w.heap.size, 2, none⟩ p3).setCell ⟨w.heap.size, 3, none⟩ p4).setCell ⟨w.heap.size, 4, none⟩ p5).drew := fun p1 p2 p3 p4 p5 => CK.out _ (BX.out p1 p2 p3 p4 p5)
 have sVX : ∀ p1 p2 p3 p4 p5 : Value, (convert 40 9 (.slice (some ⟨b, off, none⟩) (UU 1 2) (cap - (32 + k)))).run Tryz.prog (((((W3.setCell ⟨w.heap.size, 0, none⟩ p1).setCell ⟨w.heap.size, 1, none⟩ p2).setCell ⟨w.heap.size, 2, none⟩ p3).setCell ⟨w.heap.size, 3, none⟩ p4).setCell ⟨w.heap.size, 4, none⟩ p5).drew = .ok (.string vb) (((((W3.setCell ⟨w.heap.size, 0, none⟩ p1).setCell ⟨w.heap.size, 1, none⟩ p2).setCell ⟨w.heap.size, 2, none⟩ p3).setCell ⟨w.heap.size, 3, none⟩ p4).setCell ⟨w.heap.size, 4, none⟩ p5).drew := fun p1 p2 p3 p4 p5 => cV.out _
 go_region_held (fun W => (convert 40 9 (.slice (some ⟨b, off + 32, none⟩) k (cap - 32))).run Tryz.prog W = .ok (.string kb) W /\ (convert 40 9 (.slice (some ⟨b, off, none⟩) (UU 1 2) (cap - (32 + k)))).run Tryz.prog W = .ok (.string vb) W)
  (simp only [sK3, sV3, sKX, sVX, and_self])
  (first
  | (go_at_call 218; refine (cA.out _ _ _ _ ?_ ?_ ?_ ?_).mono ?_; exact A3.out.heap; omega; omega; omega; rintro r wx ⟨rfl, rfl⟩))
 all_goals go_wp2
 all_goals (
  refine bodyPost_ret (v := tkV (.ok (tkItem l) (tkLen l))) ?_ rfl ⟨rfl, ?_⟩
  ·rw [EV.out]
   have ew1 : IntKind.u32.wrap (UU 4 4 : Int) = (UU 4 4 : Int) % 4294967296 := IntKind.wrap_u32' _
   have ew2 : IntKind.i64.wrap (UU 8 8 : Int) = wrap64 (UU 8 8 : Int) := by rw [IntKind.wrap_i64]; unfold wrap64; omega
   simp [results, Tryz.results205, go_sem, x0, x1, x2, x3, x4, ew1, ew2]
  ·exact (below_box (w := w) (V := W3) A3.out.below _ _ _ _ _).drew)
end Go.Proofs.YtcdghalnneilpaaGreat
namespace Go.Proofs.YtcdghalnneilpaaGreat
open Go.RowKit Go.Deep Math
theorem take_is : TakeIs := by
 intro a n cap l hcap w h
 cases hE : ended l with
 | true => rw [show take l = .none by simp [take, hE]]; exact take_none a n cap l w h hE
 | false =>
  cases hF : form1 l with
  | false => rw [show take l = .bad by simp [take, hE, hF]]; exact take_bad1 a n cap l hcap w h hE hF
  | true =>
   cases hG : form2 l with
   | false => rw [show take l = .bad by simp [take, hE, hF, hG]]; exact take_bad2 a n cap l hcap w h hE hF hG
   | true =>
    rw [show take l = .ok (tkItem l) (tkLen l) by simp [take, hE, hF, hG]]
    by_cases hc : cap = 32 + tkKey l
    ·exact take_good2 a n cap l hcap w h hE hF hG hc
    ·exact take_good1 a n cap l hcap w h hE hF hG hc
end Go.Proofs.YtcdghalnneilpaaGreat
