/- Joined texts. -/
import Derived.Test.YtcdghalnneilpaaGreatR45
set_option linter.unusedVariables false
set_option linter.unusedSimpArgs false
set_option maxRecDepth 8000
set_option maxHeartbeats 8000000
namespace Go.Proofs.YtcdghalnneilpaaGreat
open Go.RowKit
variable {P : Program} {ops : Array Oper} {Q : Exit -> Act -> World -> Prop}
theorem wp_region_chainp {id : Nat} {a0 : Act} {w : World} (hm : P.follows .mixedOrders = true) (hp : plainRegion ops = true) (V : Nat -> Value) (zs : List Nat) (hz : chainOk ops zs = true) (C : Nat -> World -> Prop)
  (hC0 : C 0 { w with drawn := w.drawn + 1 })
  (hops : ∀ (i : Nat) (o : Oper), ops[i]? = some o -> ∀ (s : Nat) (w' : World) (ev : Operand -> Value), s <= lim ops zs i -> (∀ k, zs[k]? = some i -> s = k) -> C s w' ->
   (∀ t j e, (_ : ownOf ops t = some j := by kernel_rfl) -> (_ : e ∈ o.after.toList := by simp) -> (_ : Region.binds .any e = true := by rfl) -> (_ : e.on = j := by rfl) -> (_ : t < a0.tmps.size := by simp) -> ev (.tmp t) = V j) ->
   (∀ t, (_ : ownOf ops t = none := by kernel_rfl) -> (_ : t < a0.tmps.size := by simp) -> ev (.tmp t) = a0.eval (.tmp t)) -> (∀ t j, ownOf ops t = some j -> edgeOf ops j i = true -> t < a0.tmps.size -> ev (.tmp t) = a0.eval (.tmp t)) -> (∀ v, ev (.const v) = v) -> (∀ f, ev (.func f) = .func (.func f) #[] #[]) ->
   OpRuns P ev o (V i) w' (C (if i ∈ zs then s + 1 else s)))
  (hend : ∀ w', C zs.length w' -> Q .normal (lexF V 0 ops.toList a0) w') : (Code.region id ops true).wp P Q a0 w := by
 simp only [chainOk, Bool.and_eq_true, decide_eq_true_eq] at hz
 obtain ⟨⟨hz1, hz2⟩, hnd⟩ := hz
 have hzlt : ∀ z ∈ zs, z < ops.size := fun z h => by simpa using List.all_eq_true.1 hz1 z h
 have er : ∀ j, (Array.replicate ops.size false).getD j false = false := fun j => by simp only [Array.getD_eq_getD_getElem?, Array.getElem?_replicate]; split <;> rfl
 refine wp_region_by hm hp V (fun listed W => (∀ j k, edgeOf ops j k = true -> listed.getD j false = true -> listed.getD k false = true) /\ ∃ s, s <= zs.length /\ (∀ k z, zs[k]? = some z -> (listed.getD z false = true ↔ k < s)) /\ C s W) ?_ ?_ ?_
 ·refine ⟨fun j k _ hj => (by rw [er] at hj; cases hj), 0, Nat.zero_le _, fun k z _ => ?_, hC0⟩
  rw [er]
  simp
 ·intro i o hi listed w' ev hs hc hfree hbind hev hcst hfn
  have hilt : i < ops.size := (Array.getElem?_eq_some_iff.1 hi).1
  have hff : listed.getD i false = false := by
   simp only [Array.getD_eq_getD_getElem?] at hfree ⊢
   rw [Array.getElem?_eq_getElem (by omega)] at hfree ⊢
   simpa using hfree
  obtain ⟨hcl, s, hsl, hst, hC⟩ := hc
  have hdir : ∀ k, edgeOf ops i k = true -> listed.getD k false = true := fun k hk => by
   obtain ⟨e, he, hb, hon⟩ := edge_mem hi hk
   rw [<- hon]
   exact hbind e he hb
  have hlim : s <= lim ops zs i := by
   unfold lim
   cases hf : zs.findIdx? (fun z => edgeOf ops z i || (List.range ops.size).any fun j => edgeOf ops z j && edgeOf ops j i) with
   | none => simpa using hsl
   | some k =>
    simp only [Option.getD_some]
    have hk := List.findIdx?_eq_some_iff_getElem.1 hf
    obtain ⟨hkl, hke, _⟩ := hk
    rcases Nat.lt_or_ge k s with h | h
    ·have h1 := (hst k zs[k] (List.getElem?_eq_getElem hkl)).2 h
     have h2 : listed.getD i false = true := by
      simp only [Bool.or_eq_true] at hke
      rcases hke with hke | hke
      ·exact hcl _ _ hke h1
      ·obtain ⟨j, _, hj⟩ := List.any_eq_true.1 hke
       simp only [Bool.and_eq_true] at hj
       exact hcl _ _ hj.2 (hcl _ _ hj.1 h1)
     rw [hff] at h2; cases h2
    ·exact h
  have hk : ∀ k, zs[k]? = some i -> s = k := fun k hk => by
   have h1 : ¬ k < s := fun h => by
    have := (hst k i hk).2 h
    rw [hff] at this; cases this
   cases k with
   | zero => omega
   | succ k =>
    have hkl : k + 1 < zs.length := (List.getElem?_eq_some_iff.1 hk).1
    have h2 := List.all_eq_true.1 hz2 k (List.mem_range.2 (by omega))
    simp only [Bool.or_eq_true, beq_iff_eq] at h2
    rcases h2 with h2 | h2
    ·omega
    ·rw [List.getD_eq_getElem?_getD, hk, List.getD_eq_getElem?_getD, List.getElem?_eq_getElem (by omega : k < zs.length)] at h2
     simp only [Option.getD_some] at h2
     have h3 := hdir _ h2
     have h4 := (hst k _ (List.getElem?_eq_getElem (by omega : k < zs.length))).1 h3
     omega
  have hrun := hops i o hi s w' ev hlim hk hC
   (fun t j e hown he hb hej ht => by rw [hev t ht]; unfold pickSlot; rw [hown]; simp only; rw [if_pos (hej ▸ hbind e he hb)])
   (fun t hown ht => by rw [hev t ht]; unfold pickSlot; rw [hown]) (fun t j hown hed ht => by rw [hev t ht]; unfold pickSlot; rw [hown]; simp only; rw [if_neg (fun hl => by have := hcl j i hed hl; rw [hff] at this; cases this)]) hcst hfn
  have hcl' : ∀ j k, edgeOf ops j k = true -> (listed.setIfInBounds i true).getD j false = true -> (listed.setIfInBounds i true).getD k false = true := by
   intro j k hjk hj
   rw [getD_set _ _ _ (by omega)] at hj ⊢
   split
   ·rfl
   ·by_cases h : j = i
    ·subst h; exact hdir k hjk
    ·rw [if_neg h] at hj; exact hcl j k hjk hj
  have key : ∀ W, C (if i ∈ zs then s + 1 else s) W -> (∀ j k, edgeOf ops j k = true -> (listed.setIfInBounds i true).getD j false = true -> (listed.setIfInBounds i true).getD k false = true) /\ ∃ s, s <= zs.length /\ (∀ k z, zs[k]? = some z -> ((listed.setIfInBounds i true).getD z false = true ↔ k < s)) /\ C s W := by
   intro W hW
   refine ⟨hcl', ?_⟩
   by_cases hmem : i ∈ zs
   ·rw [if_pos hmem] at hW
    obtain ⟨k0, hk0⟩ := List.getElem?_of_mem hmem
    have hs0 := hk k0 hk0
    subst hs0
    have hk0l : s < zs.length := (List.getElem?_eq_some_iff.1 hk0).1
    refine ⟨s + 1, hk0l, fun k z hkz => ?_, hW⟩
    rw [getD_set _ _ _ (by omega)]
    by_cases hzi : z = i
    ·subst hzi
     have := hk k hkz
     rw [if_pos rfl]
     constructor
     ·intro _; omega
     ·intro _; rfl
    ·rw [if_neg hzi, hst k z hkz]
     constructor
     ·intro h; omega
     ·intro h
      rcases Nat.lt_or_ge k s with h1 | h1
      ·exact h1
      ·have e : k = s := by omega
       subst e
       rw [hk0] at hkz
       exact absurd (Option.some.inj hkz).symm hzi
   ·rw [if_neg hmem] at hW
    refine ⟨s, hsl, fun k z hkz => ?_, hW⟩
    have hzi : z ≠ i := fun e => hmem (e ▸ List.mem_of_getElem? hkz)
    rw [getD_set _ _ _ (by omega), if_neg hzi]
    exact hst k z hkz
  rcases hrun with ⟨w2, h1, h2⟩ | ⟨hv, w2, h1, h2⟩ | ⟨f, args, h1, h2⟩
  ·exact .inl ⟨w2, h1, key w2 h2⟩
  ·exact .inr (.inl ⟨hv, w2, h1, key w2 h2⟩)
  ·exact .inr (.inr ⟨f, args, h1, h2.mono fun e w3 h3 => ⟨h3.1, key w3 h3.2⟩⟩)
 ·intro w' hc
  obtain ⟨_, s, hsl, hst, hC⟩ := hc
  have : s = zs.length := by
   rcases Nat.lt_or_ge s zs.length with h | h
   ·have h1 := hst s zs[s] (List.getElem?_eq_getElem h)
    have h2 : (Array.replicate ops.size true).getD zs[s] false = true := by
     have := hzlt zs[s] (by simp)
     simp [Array.getD_eq_getD_getElem?, Array.getElem?_replicate, this]
    have := h1.1 h2
    omega
   ·omega
  subst this
  exact hend w' hC
end Go.Proofs.YtcdghalnneilpaaGreat
namespace Go.Proofs.YtcdghalnneilpaaGreat
open Go.RowKit Go.Deep Math
theorem enz116 (args : Array Value) (w : World) : (callFunc 116 args).run Tryz.prog w = .ok (.enter 116 args) w := enters_of Tryz.func116 (by kernel_rfl) rfl args w
def intElem : Value -> Option (DataW Unit × List MemPlace)
 | .int .i64 a => some (.lit (.int .i64 a), [])
 | _ => none
theorem intElem_inv {v : Value} {a : Int} {ps : List MemPlace} (h : intElem v = some (.lit (.int .i64 a), ps)) : v = .int .i64 a := by
 unfold intElem at h
 split at h
 ·simp at h
  rw [h.1]
 ·cases h
structure CntIs (D : DataW Unit) (C : List UInt8 -> Nat) : Prop where
 isMap : Maps.IsMap D
 val : ∀ k, D.atKey (strL k) (.lit (.int .i64 0)) = .lit (.int .i64 ((C k : Nat) : Int))
def updC (C : List UInt8 -> Nat) (k : List UInt8) (v : Nat) : List UInt8 -> Nat := fun x => if x = k then v else C x
theorem CntIs.put {D : DataW Unit} {C : List UInt8 -> Nat} (h : CntIs D C) (k : List UInt8) (v : Nat) : CntIs (D.put (strL k) (.lit (.int .i64 (v : Int)))) (updC C k v) := by
 refine ⟨h.isMap.put _ _, fun x => ?_⟩
 by_cases e : x = k
 ·subst e; rw [Maps.atKey_put_same h.isMap (keyLit x)]; simp [updC]
 ·rw [Maps.atKey_put_other (fun e' => e (strL_inj e')), h.val]; simp [updC, e]
theorem CntIs.empty : CntIs (.map []) (fun _ => 0) := ⟨⟨[], rfl⟩, fun _ => rfl⟩
theorem zero3 (w : World) : (zeroValue 3).run Tryz.prog w = .ok (.int .i64 0) w := by go_simp
theorem und163 : Tryz.prog.underlying 163 = some (.map 9 3) := by kernel_rfl
theorem und113 : Tryz.prog.underlying 113 = some (.slice 115) := by kernel_rfl
theorem info115 : (Tryz.prog.info? 115).map (fun i => (i.zero, i.size, i.bytes)) = some (some (.agg #[.int .u64 0, .int .u64 0]), 2, 16) := by kernel_rfl
def CntAt (w : World) (m n : Nat) (C : List UInt8 -> Nat) : Prop := ∃ D : DataW Unit, w.ownsMap Tryz.prog 9 intElem m n D /\ CntIs D C
section
variable {w w' : World} {m n : Nat} {C : List UInt8 -> Nat}
theorem CntAt.same (h : CntAt w m n C) (e : w'.heap[m]? = w.heap[m]?) : CntAt w' m n C := by
 obtain ⟨D, ⟨es, c, h1, h2⟩, h3⟩ := h
 exact ⟨D, ⟨es, c, e.trans h1, h2⟩, h3⟩
theorem CntAt.lt (h : CntAt w m n C) : m < w.heap.size := by
 obtain ⟨D, h1, _⟩ := h
 exact h1.lt
theorem CntAt.new (w : World) : CntAt (w.alloc (.map #[] 0)) w.heap.size 0 (fun _ => 0) := ⟨.map [], World.ownsMap_made w Tryz.prog 9 intElem, CntIs.empty⟩
theorem CntAt.look (h : CntAt w m n C) (k : List UInt8) (hk : k.length <= maxLen) :
  (Instr.lookup 163 (.map (some m)) (.string (txt k)) false).run Tryz.prog w = .ok (.int .i64 ((C k : Nat) : Int)) w := by
 obtain ⟨D, hD, hM⟩ := h
 obtain ⟨x, ps, hrun, hx⟩ := hD.lookup (t := 163) keyed9 und163 (zero3 w) (show intElem (.int .i64 0) = some (.lit (.int .i64 0), []) from rfl) (key9 k hk)
 rw [hM.val k] at hx
 rw [intElem_inv hx] at hrun
 exact hrun
theorem CntAt.store (h : CntAt w m n C) (k : List UInt8) (hk : k.length <= maxLen) (hn : n < 1000000) (v : Nat) :
  ∃ w', (Instr.mapUpdate 163 (.map (some m)) (.string (txt k)) (.int .i64 (v : Int))).run Tryz.prog w = .ok () w' /\ CntAt w' m (n + 1) (updC C k v) /\ Keep [m] w w' /\ w'.heap.size = w.heap.size := by
 obtain ⟨D, hD, hM⟩ := h
 obtain ⟨w', hrun, ho, ht⟩ := hD.store (t := 163) keyed9 und163 (Nat.lt_trans hn (by decide)) (key9 k hk) (show intElem (.int .i64 (v : Int)) = some (.lit (.int .i64 (v : Int)), []) from rfl)
 refine ⟨w', hrun, ⟨_, ho, hM.put k v⟩, (Keep.refl [m] w).grown ht.grown (fun x hx => .inl (by cases hx; simp)), ?_⟩
 obtain ⟨es, c, es', c', _, rfl⟩ := ht
 simp [ChangeMaps.setBlock]
end
def mkCs (ms : List Mk) : List Value := ms.flatMap (fun x => [.int .u64 (x.1 : Int), .int .u64 (x.2 : Int)])
def MRow (w : World) (base : Nat) (v : Value) (ms : List Mk) : Prop := w.ownsRow base 115 2 v ms.length (mkCs ms)
theorem MRow.keep {w w' : World} {base : Nat} {v : Value} {ms : List Mk} (h : MRow w base v ms) (k : ∀ q, v.ownBlock = some q -> w'.heap[q]? = w.heap[q]?) : MRow w' base v ms := own_same h k
theorem MRow.lt {w : World} {base : Nat} {v : Value} {ms : List Mk} (h : MRow w base v ms) : ∀ q, v.ownBlock = some q -> base <= q /\ q < w.heap.size := fun q hq => by
 obtain ⟨c, hc⟩ := own_ty h hq
 exact ⟨own_base h q (mem_own.2 hq), (Array.getElem?_eq_some_iff.1 hc).1⟩
theorem MRow.mono {w : World} {base base' : Nat} {v : Value} {ms : List Mk} (h : MRow w base v ms) (hb : base' <= base) : MRow w base' v ms := by
 refine ⟨h.1, ?_⟩
 rcases h.2 with h2 | ⟨g, cap, cur, hv, hg, r⟩
 ·exact .inl h2
 ·exact .inr ⟨g, cap, cur, hv, Nat.le_trans hb hg, r⟩
theorem app_mk {w : World} {base : Nat} {v : Value} {ms : List Mk} (h : MRow w base v ms) (x : Mk) (hn : ms.length + 1 <= 1048576) (hb : base <= w.heap.size) :
  ∃ va vc w', (∀ ty, (Builtin.append_ #[113, 113] ty #[v, .slice (some ⟨w.heap.size, 0, none⟩) 1 1]).run Tryz.prog (w.alloc (.cells #[.int .u64 (x.1 : Int), .int .u64 (x.2 : Int)] 115)) = .ok (.slice va (ms.length + 1) vc) w') /\
   MRow w' base (.slice va (ms.length + 1) vc) (ms ++ [x]) /\ Keep (own v) w w' /\ (∀ q ∈ own (.slice va (ms.length + 1) vc), q ∈ own v \/ w.heap.size <= q) /\ w.heap.size < w'.heap.size := by
 obtain ⟨i0, hi0, hp0⟩ := Option.map_eq_some_iff.1 info115
 simp only [Prod.mk.injEq] at hp0
 obtain ⟨va, vc, w', h1, h2, h3, h4⟩ := app_gen und113 hi0 hp0.1 hp0.2.1 hp0.2.2 rfl (by decide) h [.int .u64 (x.1 : Int), .int .u64 (x.2 : Int)] rfl (by simp; exact ⟨rfl, rfl⟩) hn (by decide) hb
 refine ⟨va, vc, w', h1, ?_, h3, h4⟩
 unfold MRow
 rw [List.length_append, show mkCs (ms ++ [x]) = mkCs ms ++ [.int .u64 (x.1 : Int), .int .u64 (x.2 : Int)] by simp [mkCs]]
 exact h2
structure KeysAt (w : World) (a : Option Addr) (ks : List (List UInt8)) : Prop where
 fits : ∀ k ∈ ks, k.length <= 140737488351232
 cell : ∀ i k, ks[i]? = some k -> ∃ b o, a = some ⟨b, o, none⟩ /\ b < w.heap.size /\ w.cell? ⟨b, o + i, none⟩ = some (.string (txt k))
theorem KeysAt.below {w w' : World} {a : Option Addr} {ks : List (List UInt8)} (h : KeysAt w a ks) {B : Nat} (hB : B = w.heap.size) (b : Below B w w') : KeysAt w' a ks := ⟨h.fits, fun i k hk => by
 subst hB
 obtain ⟨q, o, ha, hq, hc⟩ := h.cell i k hk
 exact ⟨q, o, ha, Nat.lt_of_lt_of_le hq b.size, (b.cell (p := ⟨q, o + i, none⟩) hq).trans hc⟩⟩
def cntK (ks : List (List UInt8)) (i : Nat) (k : List UInt8) : Nat := ((ks.take i).filter (fun z => decide (z = k))).length
theorem cntK_succ {ks : List (List UInt8)} {i : Nat} {k : List UInt8} (hk : ks[i]? = some k) : cntK ks (i + 1) = updC (cntK ks i) k (cntK ks i k + 1) := by
 funext x
 unfold cntK updC
 rw [List.take_add_one, hk]
 by_cases e : x = k
 ·subst e; simp
 ·simp [e, Ne.symm e]
theorem cntK_le (ks : List (List UInt8)) (i : Nat) (k : List UInt8) : cntK ks i k <= i := by
 unfold cntK
 have h1 := List.length_filter_le (fun z => decide (z = k)) (ks.take i)
 rw [List.length_take] at h1
 omega
def mksTo (may : List UInt8 -> Bool) (last : Nat) (ks : List (List UInt8)) : Nat -> List Mk
 | 0 => []
 | i + 1 => mksTo may last ks i ++ (match ks[i]? with
  | some k => if cntK ks i k = 0 /\ may k = true then [(hsh k, last)] else []
  | none => [])
theorem mksTo_len (may : List UInt8 -> Bool) (last : Nat) (ks : List (List UInt8)) : ∀ i, (mksTo may last ks i).length <= i
 | 0 => Nat.le_refl _
 | i + 1 => by
  have := mksTo_len may last ks i
  unfold mksTo
  rw [List.length_append]
  split
  ·split <;> simp <;> omega
  ·simp; omega
def MkC (W0 W1 W2 : World) (s : Nat) (W : World) : Prop := if s = 0 then W = W0.drew else if s = 1 then W = W1 else W = W2
section
variable {w0 w : World} {x d : Nat} {E : En} {j m nj : Nat} {J : Jr} {s first n : Nat} {S : Dv} {f : Nat -> List It} {bs : List (List Bool)} {G : List Nat} {l ml : Nat} {v5 v6 v7 : Value} {T : Lg}
theorem mayE_any (h : EnAt w0 w x d E j m nj J s first n S f bs G l ml v5 v6 v7 T) (key : List UInt8) (hk2 : key.length <= 140737488351232) :
  Calls Tryz.prog 32 #[.pointer (some ⟨x, 0, none⟩), .string (txt key)] w fun e w' => e = .returned (.bool (mayK ((bs[bkt key n]?).getD []) key || (T.has key).isSome)) /\ Below w.heap.size w w' := by
 obtain ⟨F, M, hu, _⟩ := h.bu
 have hb := bkt_lt key n hu.n1
 obtain ⟨lb, hlb⟩ : ∃ lb, bs[bkt key n]? = some lb := ⟨_, List.getElem?_eq_getElem (by rw [<- hu.bits, List.length_map, hu.len]; exact hb)⟩
 have := may_any h.box h.bu h.lg key (Nat.le_trans hk2 (by decide)) hk2 lb hlb
 rw [hlb]
 exact this
def mayF (bs : List (List Bool)) (n : Nat) (T : Lg) (key : List UInt8) : Bool := mayK ((bs[bkt key n]?).getD []) key || (T.has key).isSome
theorem marks_en (h : EnAt w0 w x d E j m nj J s first n S f bs G l ml v5 v6 v7 T) (a : Option Addr) (kn kc : Nat) (ks : List (List UInt8)) (hks : KeysAt w a ks) (hkn : kn = ks.length) (hkc : kn <= kc) (hmax : kn <= 40000) :
  Calls Tryz.prog 56 #[.pointer (some ⟨x, 0, none⟩), .slice a kn kc] w fun e w' => ∃ va vn vc, e = .returned (.slice va vn vc) /\ MRow w' w.heap.size (.slice va vn vc) (mksTo (mayF bs n T) E.last ks kn) /\ Below w.heap.size w w' := by
 have hmk := run_makeMap (P := Tryz.prog) 163 w
 have B1 : Below w.heap.size w (w.alloc (.map #[] 0)) := (Below.refl _ _).alloc (Nat.le_refl _) _
 have HB1 := hide B1
 have C1 := hide (CntAt.new w)
 have HN1 : Hid ((w.alloc (.map #[] 0)).heap.size = w.heap.size + 1) := nblk_alloc _ _
 have HE := hide h
 have HKS := hide hks
 have HKN := hide hkn
 clear h hks hkn B1
 go_enter Tryz.func56, Tryz.ntmps56
 go_wp2_with fail
 clear hmk
 obtain ⟨N0, hN0⟩ : ∃ N0, w.heap.size = N0 := ⟨_, rfl⟩
 obtain ⟨w1, hw1⟩ : ∃ w1, w.alloc (.map #[] 0) = w1 := ⟨_, rfl⟩
 simp only [hN0, hw1] at C1 HB1 HN1 ⊢
 go_loopg [5, 12] kn (fun kx s5 s12 wr => ∃ (i : Nat) (va : Option Addr) (vn vc : Nat), s5 = .slice va vn vc /\ s12 = .int .i64 i /\ i <= kn /\ kn - i <= kx /\ Hid (MRow wr (N0 + 1) (.slice va vn vc) (mksTo (mayF bs n T) E.last ks i) /\ CntAt wr N0 i (cntK ks i) /\ Below N0 w wr))
 case atStart => exact ⟨0, none, 0, 0, rfl, rfl, Nat.zero_le _, by omega, World.ownsRow_nil _ _ _ _, C1.out, HB1.out⟩
 case round =>
  obtain ⟨i, va, vn, vc, rfl, rfl, hin, hg, I⟩ := hrel
  by_cases hlt : i < kn
  ·have hlt2 : (i : Int) < (kn : Int) := by omega
   obtain ⟨k, hk⟩ : ∃ k, ks[i]? = some k := ⟨_, List.getElem?_eq_getElem (by rw [<- HKN.out]; exact hlt)⟩
   obtain ⟨hRi, hCi, hBi⟩ := I.out
   have hKw := HKS.out.below hN0.symm hBi
   have hkl := HKS.out.fits k (List.mem_of_getElem? hk)
   obtain ⟨b, o, rfl, hbl, hkc2⟩ := hKw.cell i k hk
   have hlk := hCi.look k (Nat.le_trans hkl (by decide))
   obtain ⟨w3, hst, hC3, hk3, hs3⟩ := hCi.store k (Nat.le_trans hkl (by decide)) (by omega) (cntK ks i k + 1)
   have hlk3 := hC3.look k (Nat.le_trans hkl (by decide))
   have hup : updC (cntK ks i) k (cntK ks i k + 1) k = cntK ks i k + 1 := by simp [updC]
   rw [hup] at hlk3
   rw [<- cntK_succ hk] at hC3
   have hc0 : cntK ks i k <= 40000 := Nat.le_trans (cntK_le ks i k) (by omega)
   have hNl := hCi.lt
   have hB3 : Below N0 w w3 := hBi.trans (hk3.below (fun q hq => by rw [List.mem_singleton.1 hq]; exact Nat.le_refl _) (by omega))
   have hR3 : MRow w3 (N0 + 1) (.slice va vn vc) (mksTo (mayF bs n T) E.last ks i) := hRi.keep (fun q hq => hk3.block q (hRi.lt q hq).2 (by have := (hRi.lt q hq).1; simp only [List.mem_singleton]; omega))
   have hE3 := HE.out.below (w' := w3) (by rw [hN0]; exact hB3)
   have cM := hide (mayE_any hE3 k hkl)
   have EM : Hid (mksTo (mayF bs n T) E.last ks (i + 1) = mksTo (mayF bs n T) E.last ks i ++ (if cntK ks i k = 0 /\ mayF bs n T k = true then [(hsh k, E.last)] else [])) := by
    show mksTo _ _ _ (i + 1) = _
    rw [mksTo, hk]
   have HH3 := hide (And.intro hR3 (And.intro hC3 (And.intro hB3 (And.intro hE3 hkl))))
   have HLEN := hide (mksTo_len (mayF bs n T) E.last ks i)
   have EF : Hid (mayF bs n T k = (mayK ((bs[bkt k n]?).getD []) k || (T.has k).isSome)) := rfl
   generalize (mayK ((bs[bkt k n]?).getD []) k || (T.has k).isSome) = mb at *
   generalize cntK ks i k = c0 at *
   clear hRi hCi hBi hKw hk hC3 hk3 hs3 hup hB3 hR3 hE3
   by_cases hz : c0 = 0
   ·subst hz
    have hst' : (Instr.mapUpdate 163 (.map (some N0)) (.string (txt k)) (.int .i64 1)).run Tryz.prog wr = .ok () w3 := hst
    have hlk3' : (Instr.lookup 163 (.map (some N0)) (.string (txt k)) false).run Tryz.prog w3 = .ok (.int .i64 1) w3 := hlk3
    clear hst hlk3
    go_wp2_with fail
    refine cM.out.mono ?_
    rintro e w4 ⟨rfl, b4⟩
    have hN4 : N0 < w3.heap.size := HH3.out.2.1.lt
    have hR4 : MRow w4 (N0 + 1) (.slice va vn vc) (mksTo (mayF bs n T) E.last ks i) := HH3.out.1.keep (fun q hq => b4.block q (HH3.out.1.lt q hq).2)
    have hC4 : CntAt w4 N0 (i + 1) (cntK ks (i + 1)) := HH3.out.2.1.same (b4.block _ hN4)
    have hB4 : Below N0 w w4 := HH3.out.2.2.1.trans (b4.mono (by omega))
    have hE4 := HH3.out.2.2.2.1.below b4
    have hkl := HH3.out.2.2.2.2
    cases mb with
    | false =>
     have TT : Hid (MRow w4 (N0 + 1) (.slice va vn vc) (mksTo (mayF bs n T) E.last ks (i + 1)) /\ CntAt w4 N0 (i + 1) (cntK ks (i + 1)) /\ Below N0 w w4) := ⟨by rw [EM.out, EF.out]; simpa using hR4, hC4, hB4⟩
     clear hR4 hC4 hB4 hE4 b4 HH3 EM EF hlk hlk3' hst'
     go_wp2
     go_roundg (kn - (i + 1))
     case measure => omega
     case rel => exact ⟨i + 1, va, vn, vc, rfl, rfl, by omega, by omega, TT.out⟩
    | true =>
     have hRd : MRow w4.drew (N0 + 1) (.slice va vn vc) (mksTo (mayF bs n T) E.last ks i) := hR4.keep (fun _ _ => rfl)
     have hs4 : w4.drew.heap.size = w4.heap.size := rfl
     have hw4s := b4.size
     obtain ⟨ua, uc, W7, hrun, hrow, hkp, hblk, hsz7⟩ := app_mk hRd (hsh k, E.last) (by have := HLEN.out; omega) (by omega)
     have TT : Hid (MRow W7 (N0 + 1) (.slice ua ((mksTo (mayF bs n T) E.last ks i).length + 1) uc) (mksTo (mayF bs n T) E.last ks (i + 1)) /\ CntAt W7 N0 (i + 1) (cntK ks (i + 1)) /\ Below N0 w W7) := by
      have hown : ∀ q ∈ own (.slice va vn vc), N0 + 1 <= q := fun q hq => (hR4.lt q (mem_own.1 hq)).1
      refine ⟨by rw [EM.out, EF.out]; simpa using hrow, hC4.same ((hkp.block N0 (by omega) (fun ho => by have := hown _ ho; omega)).trans rfl), (hB4.drew).trans (hkp.below (fun q hq => by have := hown q hq; omega) (by omega))⟩
     have cH : Hid (∀ V : World, Calls Tryz.prog 116 #[.string (txt k)] V fun e w' => e = .returned (.int .u64 ((hsh k : Nat) : Int)) /\ w' = V) := fun V => by
      have hh := Bl.hashK_range (txt k)
      have := Bl.hash_any (txt k) V (by rw [txt_size]; exact Nat.le_trans hkl (by decide))
      have e : ((hsh k : Nat) : Int) = Bl.hashK (txt k) := by unfold hsh; omega
      rw [e]
      exact this
     have hC9 := hE4.box.cell (i := 9) rfl
     have HC9 : Hid (∀ sx w', MkC w4 (w4.drew.alloc (.cells #[.int .u64 ((hsh k : Nat) : Int), .int .u64 ((E.last : Nat) : Int)] 115)) W7 sx w' -> sx <= 0 -> w'.cell? ⟨x, 9, none⟩ = some (.int .u64 ((E.last : Nat) : Int))) := fun sx w' hc hs => by
      obtain rfl : sx = 0 := by omega
      cases (show w' = w4.drew from hc)
      exact hC9
     have cA : Hid (∀ w', MkC w4 (w4.drew.alloc (.cells #[.int .u64 ((hsh k : Nat) : Int), .int .u64 ((E.last : Nat) : Int)] 115)) W7 0 w' -> MkC w4 (w4.drew.alloc (.cells #[.int .u64 ((hsh k : Nat) : Int), .int .u64 ((E.last : Nat) : Int)] 115)) W7 1 (w'.alloc (.cells #[.int .u64 ((hsh k : Nat) : Int), .int .u64 ((E.last : Nat) : Int)] 115)) /\ w'.heap.size = w4.heap.size) := fun w' hc => by
      cases (show w' = w4.drew from hc)
      exact ⟨rfl, rfl⟩
     have cB : Hid (∀ w', MkC w4 (w4.drew.alloc (.cells #[.int .u64 ((hsh k : Nat) : Int), .int .u64 ((E.last : Nat) : Int)] 115)) W7 1 w' -> MkC w4 (w4.drew.alloc (.cells #[.int .u64 ((hsh k : Nat) : Int), .int .u64 ((E.last : Nat) : Int)] 115)) W7 2 W7 /\ (Builtin.append_ #[113, 113] 113 #[.slice va vn vc, .slice (some ⟨w4.heap.size, 0, none⟩) 1 1]).run Tryz.prog w' = .ok (.slice ua ((mksTo (mayF bs n T) E.last ks i).length + 1) uc) W7) := fun w' hc => by
      cases (show w' = w4.drew.alloc (.cells #[.int .u64 ((hsh k : Nat) : Int), .int .u64 ((E.last : Nat) : Int)] 115) from hc)
      exact ⟨rfl, hrun 113⟩
     clear hrun hrow hkp hblk hRd hR4 hC4 hB4 hE4 b4 HH3 EM EF hlk hlk3' hst' hC9
     generalize (mksTo (mayF bs n T) E.last ks i).length + 1 = un at *
     obtain ⟨W6a, hW6a⟩ : ∃ W6a, w4.drew.alloc (.cells #[.int .u64 ((hsh k : Nat) : Int), .int .u64 ((E.last : Nat) : Int)] 115) = W6a := ⟨_, rfl⟩
     rw [hW6a] at HC9 cA cB
     generalize hsh k = hk0 at *
     generalize E.last = la at *
     obtain ⟨N6, hN6⟩ : ∃ N6, w4.heap.size = N6 := ⟨_, rfl⟩
     rw [hN6] at cA cB
     clear hW6a
     go_wp2_with fail
     refine wp_region_chainp (by kernel_rfl) (by kernel_rfl) (fun jx => ([.slice va vn vc, .string (txt k), .int .u64 (hk0 : Int), .pointer (some ⟨x, 0, none⟩), .pointer (some ⟨x, 0, none⟩), .pointer (some ⟨x, 9, none⟩), .int .u64 (la : Int), .agg #[.int .u64 (hk0 : Int), .int .u64 (la : Int)], .slice (some ⟨N6, 0, none⟩) 1 1, .slice ua un uc, .slice ua un uc] : List Value).getD jx undef) [8, 9] (by kernel_rfl) (MkC w4 W6a W7) (rfl) ?_ ?_
     ·intro jx ox hi sx w' ev hlm hks hc hin hout hpre hcst hfn
      have hltx : jx < 11 := by
       have := (Array.getElem?_eq_some_iff.1 hi).1
       simpa using this
      match jx, hltx with
      | 0, _ =>
       cases hi
       have e0 : ev (.tmp 5) = .slice va vn vc := hpre 5 10 (by kernel_rfl) (by kernel_rfl) (show (5 : Nat) < 41 by decide)
       rw [if_neg (by decide)]
       refine .inl ⟨w', ?_, hc⟩
       simp [execOp, e0, hcst, go_sem]
      | 1, _ =>
       cases hi
       have e0 : ev (.tmp 8) = .string (txt k) := hout 8
       rw [if_neg (by decide)]
       refine .inl ⟨w', ?_, hc⟩
       simp [execOp, e0, hcst, go_sem]
      | 2, _ =>
       cases hi
       have e0 : ev (.tmp 30) = .string (txt k) := hin 30 1 ⟨1, .data⟩
       rw [if_neg (by decide)]
       refine .inr (.inr ⟨116, #[.string (txt k)], ?_, ?_⟩)
       ·have ef := hfn 116
        simp [execOp, resolve, invoke, ef, hcst, e0, Result.andThen]
        exact enz116 _ _
       ·have hl2 : sx <= 0 := Nat.le_trans hlm (Nat.le_of_eq (by kernel_rfl))
        refine (cH.out w').mono ?_
        rintro e W' ⟨rfl, rfl⟩
        exact ⟨rfl, hc⟩
      | 3, _ =>
       cases hi
       have e0 : ev (.tmp 0) = .pointer (some ⟨x, 0, none⟩) := hout 0
       rw [if_neg (by decide)]
       refine .inl ⟨w', ?_, hc⟩
       simp [execOp, e0, hcst, go_sem]
      | 4, _ =>
       cases hi
       have e0 : ev (.tmp 32) = .pointer (some ⟨x, 0, none⟩) := hin 32 3 ⟨3, .data⟩
       rw [if_neg (by decide)]
       refine .inl ⟨w', ?_, hc⟩
       simp [execOp, e0, hcst, go_sem]
      | 5, _ =>
       cases hi
       have e0 : ev (.tmp 33) = .pointer (some ⟨x, 0, none⟩) := hin 33 4 ⟨4, .data⟩
       rw [if_neg (by decide)]
       refine .inl ⟨w', ?_, hc⟩
       simp [execOp, e0, hcst, go_sem]
      | 6, _ =>
       cases hi
       have e0 : ev (.tmp 34) = .pointer (some ⟨x, 9, none⟩) := hin 34 5 ⟨5, .data⟩
       rw [if_neg (by decide)]
       have hl2 : sx <= 0 := Nat.le_trans hlm (Nat.le_of_eq (by kernel_rfl))
       refine .inl ⟨w', ?_, hc⟩
       show _ = Result.ok (Next.value (.int .u64 (la : Int))) w'
       have hq : w'.cell? ⟨x, 9, none⟩ = some (.int .u64 (la : Int)) := HC9.out sx w' hc (by omega)
       simp [execOp, e0, hcst, hq, go_sem]
      | 7, _ =>
       cases hi
       have e0 : ev (.tmp 31) = .int .u64 (hk0 : Int) := hin 31 2 ⟨2, .data⟩
       have e1 : ev (.tmp 35) = .int .u64 (la : Int) := hin 35 6 ⟨6, .data⟩
       rw [if_neg (by decide)]
       refine .inl ⟨w', ?_, hc⟩
       simp [execOp, e0, e1, hcst, go_sem]
      | 8, _ =>
       cases hi
       have e0 : ev (.tmp 36) = .agg #[.int .u64 (hk0 : Int), .int .u64 (la : Int)] := hin 36 7 ⟨7, .data⟩
       rw [if_pos (by decide)]
       have hsx : sx = 0 := hks 0 rfl
       subst hsx
       have q := cA.out w' hc
       refine .inl ⟨_, ?_, q.1⟩
       have hsz := q.2
       simp [execOp, e0, hcst, go_sem, hsz]
      | 9, _ =>
       cases hi
       have e0 : ev (.tmp 29) = .slice va vn vc := hin 29 0 ⟨0, .data⟩
       have e1 : ev (.tmp 37) = .slice (some ⟨N6, 0, none⟩) 1 1 := hin 37 8 ⟨8, .data⟩
       rw [if_pos (by decide)]
       have hsx : sx = 1 := hks 1 rfl
       subst hsx
       have q := cB.out w' hc
       refine .inl ⟨_, ?_, q.1⟩
       have hrn := q.2
       simp [execOp, e0, e1, hcst, resolve, invoke, builtin, Result.andThen, hrn]
      | 10, _ =>
       cases hi
       have e0 : ev (.tmp 38) = .slice ua un uc := hin 38 9 ⟨9, .data⟩
       rw [if_neg (by decide)]
       refine .inl ⟨w', ?_, hc⟩
       simp [execOp, e0, hcst, go_sem]
     ·intro w9 hc
      simp only [lexF, Act.put, List.setIfInBounds_toArray, List.set_cons_succ, List.set_cons_zero, List.getD_cons_succ, List.getD_cons_zero]
      obtain rfl : w9 = W7 := hc
      go_wp2
      go_roundg (kn - (i + 1))
      case measure => omega
      case rel => exact ⟨i + 1, ua, un, uc, rfl, rfl, by omega, by omega, TT.out⟩
   ·have hst' : (Instr.mapUpdate 163 (.map (some N0)) (.string (txt k)) (.int .i64 ((c0 : Int) + 1))).run Tryz.prog wr = .ok () w3 := hst
    have hlk3' : (Instr.lookup 163 (.map (some N0)) (.string (txt k)) false).run Tryz.prog w3 = .ok (.int .i64 ((c0 : Int) + 1)) w3 := hlk3
    have hne : ((c0 : Int) + 1 == 1) = false := by simp; omega
    have hne2 : ¬ (c0 : Int) + 1 = 1 := by omega
    have hne3 : ¬ c0 = 0 := hz
    have TT : Hid (MRow w3 (N0 + 1) (.slice va vn vc) (mksTo (mayF bs n T) E.last ks (i + 1)) /\ CntAt w3 N0 (i + 1) (cntK ks (i + 1)) /\ Below N0 w w3) := ⟨by rw [EM.out]; simpa [hz] using HH3.out.1, HH3.out.2.1, HH3.out.2.2.1⟩
    clear hst hlk3 HH3 EM EF cM
    go_wp2
    go_roundg (kn - (i + 1))
    case measure => omega
    case rel => exact ⟨i + 1, va, vn, vc, rfl, rfl, by omega, by omega, TT.out⟩
  ·obtain rfl : i = kn := by omega
   have hlt2 : ¬ (i : Int) < (i : Int) := by omega
   have II := hide I.out
   go_wp2
   go_ret
   exact ⟨va, vn, vc, rfl, II.out.1.mono (by omega), II.out.2.2⟩
end
end Go.Proofs.YtcdghalnneilpaaGreat
