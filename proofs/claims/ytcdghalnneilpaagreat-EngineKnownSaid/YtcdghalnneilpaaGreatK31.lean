/- Joined texts. -/
import Derived.Deep.RegionLaw
import Derived.Test.YtcdghalnneilpaaGreatK30
set_option linter.unusedVariables false
set_option linter.unusedSimpArgs false
set_option maxRecDepth 8000
set_option maxHeartbeats 8000000
namespace Go.Proofs.YtcdghalnneilpaaGreat
open Go.RowKit Go.Deep Math
def Lg.put (T : Lg) (t : Th) : Lg := { T with opn := T.opn ++ [t], cap := T.cap + 1, has := updK T.has t.it.key (some t.pos) }
theorem put_state {W w3 w5 w7 : World} {l d m : Nat} {v5 v6 v7 v6' v7' : Value} {T : Lg} (h : LgIn W l d m v5 v6 v7 T) (t : Th) (ht : ThAt W t)
  (h3 : w3.ownsRow 0 5 1 v7' (T.cont ++ t.it.enc).length (bCells (T.cont ++ t.it.enc))) (k3 : Keep (own v7) W w3)
  (h5 : w5.ownsRow 0 211 1 v6' (T.opn.length + 1) (ptrCells T.opn ++ [t.ptr])) (k5 : Keep (own v6) (w3.setCell ⟨l, 7, none⟩ v7') w5) (hv6 : ∀ q ∈ own v6', q ∈ own v6 \/ W.heap.size <= q)
  (h7 : MapAt w7 m (T.cap + 1) (updK T.has t.it.key (some t.pos))) (k7 : Keep [m] (w5.setCell ⟨l, 6, none⟩ v6') w7) :
  LgIn w7 l d m v5 v6' v7' (T.put t) /\ Keep (l :: m :: (own v6 ++ own v7)) W w7 := by
 have hl3 : Blk w3 l (lgCells d m v5 v6 v7 T) 202 := h.box.same (k3.block l h.box.lt (own_notin h.cont h.box (by decide)))
 have hl4 := hl3.set 7 v7'
 have own6 : ∀ q ∈ own v6, ∃ c, W.heap[q]? = some (.cells c 211 (0, 0)) := fun q hq => own_ty h.opn (mem_own.1 hq)
 have sz3 := k3.size
 have sz5 := k5.size
 rw [nblk_setCell] at sz5
 have hl5 : Blk w5 l ((lgCells d m v5 v6 v7 T).set 7 v7') 202 := hl4.same (k5.block l hl4.lt (fun hm => by
  obtain ⟨c, hc⟩ := own6 l hm
  exact ty_ne hc h.box (by decide) rfl))
 have hl6 := hl5.set 6 v6'
 have notL : ∀ {q : Nat} {w' : World} {c c' : Array Value} {e : TypeId}, w'.heap[q]? = some (.cells c e (0, 0)) -> w'.heap[l]? = some (.cells c' 202 (0, 0)) -> e ≠ 202 -> q ≠ l := fun hq hl hne => ty_ne hq hl hne
 have to7 : ∀ q, q ≠ l -> q ≠ m -> q < w5.heap.size -> w7.heap[q]? = w5.heap[q]? := fun q h1 h2 h3 => by
  refine (k7.block q (by rw [nblk_setCell]; exact h3) (by simpa using h2)).trans ?_
  exact blk_setCell_other w5 ⟨l, 6, none⟩ _ q h1
 have to5 : ∀ q, q ≠ l -> q ∉ own v6 -> q < w3.heap.size -> w5.heap[q]? = w3.heap[q]? := fun q h1 h2 h3 => by
  refine (k5.block q (by rw [nblk_setCell]; exact h3) h2).trans ?_
  exact blk_setCell_other w3 ⟨l, 7, none⟩ _ q h1
 have sm : ∀ {q : Nat} {c : Array Value} {e : TypeId}, W.heap[q]? = some (.cells c e (0, 0)) -> e ≠ 5 -> e ≠ 202 -> q ∉ own v6 -> w7.heap[q]? = W.heap[q]? := fun {q c e} hq h1 h2 h3 => by
  have hlt := (Array.getElem?_eq_some_iff.1 hq).1
  have hql : q ≠ l := ty_ne hq h.box h2
  rw [to7 q hql (h.notM hq) (by omega), to5 q hql h3 (by omega)]
  exact k3.block q hlt (own_notin h.cont hq h1)
 have n6 : ∀ {q : Nat} {c : Array Value} {e : TypeId}, W.heap[q]? = some (.cells c e (0, 0)) -> e ≠ 211 -> q ∉ own v6 := fun hq hne => own_notin h.opn hq hne
 have ec : (T.put t).cont = T.cont ++ t.it.enc := by
  show encs ((T.opn ++ [t]).map Th.it) = encs (T.opn.map Th.it) ++ t.it.enc
  rw [List.map_append, encs_append]
  simp [encs]
 have hall : ∀ u, u ∈ (T.put t).all ↔ u ∈ T.all \/ u = t := fun u => by
  show u ∈ T.regs.flatMap Rg.ths ++ (T.opn ++ [t]) ↔ u ∈ T.regs.flatMap Rg.ths ++ T.opn \/ u = t
  simp only [List.mem_append, List.mem_singleton]
  constructor
  ·rintro (h | h | h)
   ·exact .inl (.inl h)
   ·exact .inl (.inr h)
   ·exact .inr h
  ·rintro ((h | h) | h)
   ·exact .inl h
   ·exact .inr (.inl h)
   ·exact .inr (.inr h)
 constructor
 ·refine ⟨?_, own_same h.sld (fun q hq => ?_), fun r hr => own_same (h.rows r hr) (fun q hq => ?_), ?_, ?_, h7, fun u hu => ?_, fun r hr q hq => ?_, fun k p hkp => ?_⟩
  ·have hlt6 : l < w5.heap.size := hl5.lt
   have e7 : w7.heap[l]? = (w5.setCell ⟨l, 6, none⟩ v6').heap[l]? := k7.block l (by rw [nblk_setCell]; exact hlt6) (by simpa using h.notM h.box)
   exact hl6.same e7
  ·obtain ⟨c, hc⟩ := own_ty h.sld hq; exact sm hc (by decide) (by decide) (n6 hc (by decide))
  ·obtain ⟨c, hc⟩ := own_ty (h.rows r hr) hq
   exact sm hc (by decide) (by decide) (fun hm => h.apart r hr q hq (mem_own.1 hm))
  ·have e : ptrCells (T.opn ++ [t]) = ptrCells T.opn ++ [t.ptr] := by simp [ptrCells]
   show w7.ownsRow 0 211 1 v6' (T.opn ++ [t]).length (ptrCells (T.opn ++ [t]))
   rw [e, List.length_append]
   refine own_same h5 (fun q hq => ?_)
   obtain ⟨c, hc⟩ := own_ty h5 hq
   refine to7 q (ty_ne hc hl5 (by decide)) ?_ (Array.getElem?_eq_some_iff.1 hc).1
   rintro rfl
   obtain ⟨es, cl, hm⟩ := h.map.isMap
   have h1 : w5.heap[q]? = W.heap[q]? := by
    rw [to5 q (ty_ne hc hl5 (by decide)) (fun hm' => by
     obtain ⟨c2, hc2⟩ := own6 q hm'
     rw [hm] at hc2; cases hc2) (by have := h.map.lt; omega)]
    refine k3.block q h.map.lt (fun hm' => ?_)
    obtain ⟨c2, hc2⟩ := own_ty h.cont (mem_own.1 hm')
    rw [hm] at hc2; cases hc2
   rw [hc, hm] at h1
   cases h1
  ·rw [ec]
   refine own_same h3 (fun q hq => ?_)
   obtain ⟨c, hc⟩ := own_ty h3 hq
   have hql : q ≠ l := ty_ne hc hl3 (by decide)
   have hlt := (Array.getElem?_eq_some_iff.1 hc).1
   have hq6 : q ∉ own v6 := fun hm' => by
    obtain ⟨c2, hc2⟩ := own6 q hm'
    have : w3.heap[q]? = W.heap[q]? := k3.block q (Array.getElem?_eq_some_iff.1 hc2).1 (own_notin h.cont hc2 (by decide))
    rw [hc, hc2] at this
    cases this
   have hqm : q ≠ m := by
    rintro rfl
    obtain ⟨es, cl, hm⟩ := h.map.isMap
    have : w3.heap[q]? = W.heap[q]? := k3.block q h.map.lt (fun hm' => by
     obtain ⟨c2, hc2⟩ := own_ty h.cont (mem_own.1 hm')
     rw [hm] at hc2; cases hc2)
    rw [hc, hm] at this
    cases this
   rw [to7 q hql hqm (by omega), to5 q hql hq6 hlt]
  ·have hu' : ThAt W u := by
    rcases (hall u).1 hu with h1 | h1
    ·exact h.ths u h1
    ·rw [h1]; exact ht
   obtain ⟨c, hc⟩ := hu'.ty
   exact hu'.same (sm hc (by decide) (by decide) (n6 hc (by decide)))
  ·intro hq6
   rcases hv6 q (mem_own.2 hq6) with h1 | h1
   ·exact h.apart r hr q hq (mem_own.1 h1)
   ·have := own_lt (h.rows r hr) q (mem_own.2 hq)
    omega
  ·by_cases e : k = t.it.key
   ·subst e
    have : updK T.has t.it.key (some t.pos) t.it.key = some p := hkp
    rw [updK_same] at this
    exact ⟨t, (hall t).2 (.inr rfl), Option.some.inj this, rfl⟩
   ·have : updK T.has t.it.key (some t.pos) k = some p := hkp
    rw [updK_other _ _ _ _ e] at this
    obtain ⟨u, hu, h1, h2⟩ := h.hasAt k p this
    exact ⟨u, (hall u).2 (.inl hu), h1, h2⟩
 ·have a3 : Keep (l :: m :: (own v6 ++ own v7)) W w3 := k3.mono (fun q hq => .inl (by simp [hq]))
  have a4 := a3.setCell (p := ⟨l, 7, none⟩) (.inl (by simp)) v7'
  have a5 := a4.trans k5 (fun q hq => .inl (by simp [hq]))
  have a6 := a5.setCell (p := ⟨l, 6, none⟩) (.inl (by simp)) v6'
  exact a6.trans k7 (fun q hq => .inl (by simp at hq; simp [hq]))
theorem put_mid {W w3 w5 : World} {l d m : Nat} {v5 v6 v7 v6' v7' : Value} {T : Lg} (h : LgIn W l d m v5 v6 v7 T) (t : Th) (ht : ThAt W t) (k3 : Keep (own v7) W w3) (k5 : Keep (own v6) (w3.setCell ⟨l, 7, none⟩ v7') w5) :
  MapAt (w5.setCell ⟨l, 6, none⟩ v6') m T.cap T.has /\ ThAt (w5.setCell ⟨l, 6, none⟩ v6') t /\ Blk w5 l ((lgCells d m v5 v6 v7 T).set 7 v7') 202 := by
 have hl3 : Blk w3 l (lgCells d m v5 v6 v7 T) 202 := h.box.same (k3.block l h.box.lt (own_notin h.cont h.box (by decide)))
 have hl4 := hl3.set 7 v7'
 have own6 : ∀ q ∈ own v6, ∃ c, W.heap[q]? = some (.cells c 211 (0, 0)) := fun q hq => own_ty h.opn (mem_own.1 hq)
 have sz3 := k3.size
 have hl5 : Blk w5 l ((lgCells d m v5 v6 v7 T).set 7 v7') 202 := hl4.same (k5.block l hl4.lt (fun hm => by
  obtain ⟨c, hc⟩ := own6 l hm
  exact ty_ne hc h.box (by decide) rfl))
 have to6 : ∀ q, q ≠ l -> q ∉ own v6 -> q ∉ own v7 -> q < W.heap.size -> (w5.setCell ⟨l, 6, none⟩ v6').heap[q]? = W.heap[q]? := fun q h1 h2 h3 h4 => by
  refine (blk_setCell_other w5 ⟨l, 6, none⟩ _ q h1).trans ?_
  refine (k5.block q (by rw [nblk_setCell]; omega) h2).trans ?_
  refine (blk_setCell_other w3 ⟨l, 7, none⟩ _ q h1).trans ?_
  exact k3.block q h4 h3
 refine ⟨h.map.same (to6 m (Ne.symm (h.notM h.box)) (fun hm => ?_) (fun hm => ?_) h.map.lt), ?_, hl5⟩
 ·obtain ⟨c, hc⟩ := own6 m hm; exact h.notM hc rfl
 ·obtain ⟨c, hc⟩ := own_ty h.cont (mem_own.1 hm); exact h.notM hc rfl
 ·obtain ⟨c, hc⟩ := ht.ty
  exact ht.same (to6 _ (ty_ne hc h.box (by decide)) (own_notin h.opn hc (by decide)) (own_notin h.cont hc (by decide)) ht.lt)
theorem put_bad {w : World} {l : Nat} (kb vb : ByteArray) (f e : Int) (v : Nat) (hg : mayBe kb.size vb.size v = false) :
  Calls Tryz.prog 108 #[.pointer (some ⟨l, 0, none⟩), itV kb vb f e v] w fun r w' => r = .returned (.tuple #[.slice none 0 0, .int .i64 1]) /\ Below w.heap.size w w' := by
 have cg := hide (fun W => rput_bad kb vb f e v hg W)
 unfold itV at cg ⊢
 have B0 := hide ((Below.refl w.heap.size w).alloc (Nat.le_refl _) (.cells #[.string kb, .string vb, .int .u32 f, .int .i64 e, .int .u64 v] 39))
 clear hg
 go_enter Tryz.func108, Tryz.ntmps108
 go_wp2_with (go_at_call 158; refine (cg.out _).mono ?_; rintro r w1 ⟨rfl, b1⟩; have B1 := hide b1; clear b1)
 go_ret2
 exact ⟨rfl, B0.out.trans (B1.out.mono (by rw [nblk_alloc]; omega))⟩
theorem put_room {w : World} {l d m : Nat} {v5 v6 v7 : Value} {T : Lg} (h : LgIn w l d m v5 v6 v7 T) (x : It) (hf : x.fits) (hg : x.good = true) (hroom : T.cont.length + x.size <= 1472) (hcap : T.cap < 1000000) (hop : T.opn.length <= 1000) :
  Calls Tryz.prog 108 #[.pointer (some ⟨l, 0, none⟩), x.val] w fun e w' => e = .returned (.tuple #[.slice none 0 0, .int .i64 0]) /\ ∃ v6' v7', LgIn w' l d m v5 v6' v7' (T.put ⟨w.heap.size, 0, x⟩) /\ Keep (l :: m :: (own v6 ++ own v7)) w w' /\ (∀ q ∈ own v6', q ∈ own v6 \/ w.heap.size <= q) /\ (∀ q ∈ own v7', q ∈ own v7 \/ w.heap.size <= q) := by
 have gs := good_sizes hg
 have hsz : x.size = 32 + x.key.length + x.value.length := rfl
 obtain ⟨A, hA⟩ : ∃ A, A = w.alloc (.cells #[.string (txt x.key), .string (txt x.value), .int .u32 x.flags, .int .i64 x.exp, .int .u64 x.ver] 39) := ⟨_, rfl⟩
 have bA : Below w.heap.size w A := by rw [hA]; exact (Below.refl _ _).alloc (Nat.le_refl _) _
 have hszA : A.heap.size = w.heap.size + 1 := by rw [hA, nblk_alloc]
 have bkA : Blk A w.heap.size (itCells x) 39 := by rw [hA]; exact Blk.new w (itCells x) 39
 have tA : ThAt A ⟨w.heap.size, 0, x⟩ := ⟨hf, by show x.key.length <= _; omega, by show x.value.length <= _; omega, ⟨_, bkA⟩, bkA.cell (i := 0) rfl, bkA.cell (i := 1) rfl, bkA.cell (i := 2) rfl, bkA.cell (i := 3) rfl, bkA.cell (i := 4) rfl⟩
 have cP := hide (rput_ok x hf hg A)
 have EV : Hid (x.val = .agg #[.string (txt x.key), .string (txt x.value), .int .u32 x.flags, .int .i64 x.exp, .int .u64 x.ver]) := rfl
 rw [EV.out] at cP ⊢
 have H := hide h
 have HF := hide hf
 have HROOM := hide hroom
 have HCAP := hide hcap
 have HOP := hide hop
 have BA := hide bA
 have SZA := hide hszA
 have TA := hide tA
 have BKA := hide bkA
 have GS := hide gs
 have HSZ := hide hsz
 have hsz2 : (x.size : Int) <= 1472 := by omega
 clear h hf hg hroom hcap hop bA hszA tA bkA gs hsz EV
 subst hA
 go_enter Tryz.func108, Tryz.ntmps108
 go_wp2_with fail
 refine cP.out.mono ?_
 rintro e w2 ⟨g, rfl, hg0, hbuf, b2⟩
 have bW : Below w.heap.size w w2 := BA.out.trans (b2.mono (by rw [SZA.out]; omega))
 have hL2 := H.out.below bW
 have t2 : ThAt w2 ⟨w.heap.size, 0, x⟩ := TA.out.same (b2.block _ TA.out.lt)
 obtain ⟨a7, c7, rfl⟩ := own_slice hL2.cont
 obtain ⟨a6, c6, rfl⟩ := own_slice hL2.opn
 have hbs : BS w2 (some ⟨g, 0, none⟩) x.size x.size x.enc := buf_bs hbuf (x.enc_length).symm (Nat.le_refl _)
 obtain ⟨ua7, uc7, w3, hrun7, hrow7, hkp7, hblk7⟩ := app_bytes hL2.cont hbs (by have := HROOM.out; omega) (Nat.zero_le _)
 have hl3 : Blk w3 l (lgCells d m v5 (.slice a6 T.opn.length c6) (.slice a7 T.cont.length c7) T) 202 := hL2.box.same (hkp7.block l hL2.box.lt (own_notin hL2.cont hL2.box (by decide)))
 have hl4 := hl3.set 7 (.slice ua7 (T.cont.length + x.size) uc7)
 obtain ⟨W4, hW4⟩ : ∃ W4, w3.setCell ⟨l, 7, none⟩ (.slice ua7 (T.cont.length + x.size) uc7) = W4 := ⟨_, rfl⟩
 rw [hW4] at hl4
 have h64 : W4.ownsRow 0 211 1 (.slice a6 T.opn.length c6) T.opn.length (ptrCells T.opn) := own_same hL2.opn (fun q hq => by
  obtain ⟨c, hc⟩ := own_ty hL2.opn hq
  rw [<- hW4]
  refine (blk_setCell_other w3 ⟨l, 7, none⟩ _ q (ty_ne hc hL2.box (by decide))).trans ?_
  exact hkp7.block q (Array.getElem?_eq_some_iff.1 hc).1 (own_notin hL2.cont hc (by decide)))
 obtain ⟨ua6, uc6, w5, hrun6, hrow6, hkp6, hblk6, hsz6⟩ := app_ptr h64 (.pointer (some ⟨w.heap.size, 0, none⟩)) rfl (by have := HOP.out; omega) (Nat.zero_le _)
 have hkp6' : Keep (own (.slice a6 T.opn.length c6)) (w3.setCell ⟨l, 7, none⟩ (.slice ua7 (T.cont.length + x.size) uc7)) w5 := by rw [hW4]; exact hkp6
 obtain ⟨hm6, ht6, hl5⟩ := put_mid (v6' := .slice ua6 (T.opn.length + 1) uc6) hL2 ⟨w.heap.size, 0, x⟩ t2 hkp7 hkp6'
 obtain ⟨W6, hW6⟩ : ∃ W6, w5.setCell ⟨l, 6, none⟩ (.slice ua6 (T.opn.length + 1) uc6) = W6 := ⟨_, rfl⟩
 have hl6 := hl5.set 6 (.slice ua6 (T.opn.length + 1) uc6)
 rw [hW6] at hm6 ht6 hl6
 have hm6d : MapAt W6.drew m T.cap T.has := hm6.same rfl
 obtain ⟨W7, hupd0, hmap7, hkp7m, _⟩ := hm6d.store x.key (by have := GS.out; unfold maxLen; omega) HCAP.out (w.heap.size, 0)
 have hupd : (Instr.mapUpdate 200 (.map (some m)) (.string (txt x.key)) (.pointer (some ⟨w.heap.size, 0, none⟩))).run Tryz.prog W6.drew = .ok () W7 := hupd0
 have k7m : Keep [m] (w5.setCell ⟨l, 6, none⟩ (.slice ua6 (T.opn.length + 1) uc6)) W7 := by
  rw [hW6]
  exact ((Keep.refl [m] W6).drew).trans hkp7m (fun q hq => .inl hq)
 have hw2 := bW.size
 have hb6 : ∀ q ∈ own (.slice ua6 (T.opn.length + 1) uc6), q ∈ own (.slice a6 T.opn.length c6) \/ w2.heap.size <= q := fun q hq => by
  rcases hblk6 q hq with h1 | h1
  ·exact .inl h1
  ·refine .inr (Nat.le_trans hkp7.size ?_)
   rw [<- hW4, nblk_setCell] at h1
   exact h1
 have TT : Hid (∃ v6' v7', LgIn W7 l d m v5 v6' v7' (T.put ⟨w.heap.size, 0, x⟩) /\ Keep (l :: m :: (own (.slice a6 T.opn.length c6) ++ own (.slice a7 T.cont.length c7))) w W7 /\ (∀ q ∈ own v6', q ∈ own (.slice a6 T.opn.length c6) \/ w.heap.size <= q) /\ (∀ q ∈ own v7', q ∈ own (.slice a7 T.cont.length c7) \/ w.heap.size <= q)) := by
  have e7 : (T.cont ++ x.enc).length = T.cont.length + x.size := by rw [List.length_append, x.enc_length]
  obtain ⟨f1, f2⟩ := put_state (v7' := .slice ua7 (T.cont.length + x.size) uc7) (v6' := .slice ua6 (T.opn.length + 1) uc6) hL2 ⟨w.heap.size, 0, x⟩ t2 (by simp only; rw [e7]; exact hrow7) hkp7 hrow6 hkp6' hb6 hmap7 k7m
  refine ⟨_, _, f1, (Keep.of_below bW).trans f2 (fun q hq => .inl hq), fun q hq => ?_, fun q hq => ?_⟩
  ·rcases hb6 q hq with h1 | h1
   ·exact .inl h1
   ·exact .inr (by omega)
  ·rcases hblk7 q hq with h1 | h1
   ·exact .inl h1
   ·exact .inr (by omega)
 have k7 := hL2.box.cell (i := 7) rfl
 have c7c := hl3.cell (i := 7) rfl
 have f7c := hl3.frozen 7
 have c64 : (w3.setCell ⟨l, 7, none⟩ (.slice ua7 (T.cont.length + x.size) uc7)).cell? ⟨l, 6, none⟩ = some (.slice a6 T.opn.length c6) := by rw [hW4]; exact hl4.cell (i := 6) rfl
 have c65 := hl5.cell (i := 6) rfl
 have f65 := hl5.frozen 6
 have g8 : W6.drew.cell? ⟨l, 8, none⟩ = some (.map (some m)) := hl6.cell (i := 8) rfl
 have bx0 : W6.drew.cell? ⟨w.heap.size, 0, none⟩ = some (.string (txt x.key)) := ht6.one.c0
 have HR7 := hide hrun7
 have hrun6' : ∀ ty, (Builtin.append_ #[199, 199] ty #[.slice a6 T.opn.length c6, .slice (some ⟨w3.heap.size, 0, none⟩) 1 1]).run Tryz.prog ((w3.setCell ⟨l, 7, none⟩ (.slice ua7 (T.cont.length + x.size) uc7)).alloc (.cells #[.pointer (some ⟨w.heap.size, 0, none⟩)] 211)) = .ok (.slice ua6 (T.opn.length + 1) uc6) w5 := by
  have e : w3.heap.size = W4.heap.size := by rw [<- hW4, nblk_setCell]
  rw [hW4, e]
  exact hrun6
 have HR6 := hide hrun6'
 have HW6D : Hid ((w5.setCell ⟨l, 6, none⟩ (.slice ua6 (T.opn.length + 1) uc6)).drew = W6.drew) := by show _ = _; rw [hW6]
 have q1 : ¬ (1472 : Int) < (x.size : Int) := by omega
 have q2 : ¬ ((1472 : Int) - (T.cont.length : Int)) < (x.size : Int) := by have := HROOM.out; omega
 have q3 : (T.cont.length : Int) <= 1472 := by have := HROOM.out; omega
 clear hrun6 hrun6' hrun7 hrow7 hkp7 hblk7 hl3 hl4 hl5 hl6 hrow6 hkp6 hkp6' hblk6 hsz6 hm6 ht6 hm6d hupd0 hmap7 hkp7m k7m hb6 hw2 bW hL2 t2 hbs hg0 hbuf b2 h64 cP hW4 hW6
 obtain ⟨n7, hn7⟩ : ∃ n7, n7 = T.cont.length := ⟨_, rfl⟩
 rw [<- hn7] at k7 c7c c64 HR7 HR6 q2 q3
 clear hn7
 obtain ⟨n6, hn6⟩ : ∃ n6, n6 = T.opn.length := ⟨_, rfl⟩
 rw [<- hn6] at c64 c65 HR6 HW6D
 clear hn6
 generalize x.size = xn at *
 generalize txt x.key = kb at *
 go_wp2_with (at_builtin; first
  | refine Lib.wpList_append_run _ rfl _ _ _ _ rfl _ _ rfl rfl _ _ (HR7.out _) ?_
  | refine Lib.wpList_append_run _ rfl _ _ _ _ rfl _ _ rfl rfl _ _ (HR6.out _) ?_)
 refine wp_region_last (by kernel_rfl) (by kernel_rfl) (fun jx => ([.pointer (some ⟨l, 0, none⟩), .pointer (some ⟨l, 0, none⟩), .pointer (some ⟨l, 8, none⟩), .map (some m), .pointer (some ⟨w.heap.size, 0, none⟩), .string kb, undef] : List Value).getD jx undef) 6 (by decide) (by kernel_rfl) (fun w' => w' = W6.drew) (fun w' => w' = W7) (HW6D.out) ?_ ?_
 ·intro jx ox hi w' ev hc hin hout hcst hfn
  have hltx : jx < 7 := by
   have := (Array.getElem?_eq_some_iff.1 hi).1
   simpa using this
  match jx, hltx with
  | 0, _ =>
   cases hi
   have e0 : ev (.tmp 0) = .pointer (some ⟨l, 0, none⟩) := hout 0
   rw [if_neg (by decide)]
   refine .inl ⟨w', ?_, hc⟩
   simp [execOp, e0, hcst, go_sem]
  | 1, _ =>
   cases hi
   have e0 : ev (.tmp 57) = .pointer (some ⟨l, 0, none⟩) := hin 57 0 ⟨0, .data⟩
   rw [if_neg (by decide)]
   refine .inl ⟨w', ?_, hc⟩
   simp [execOp, e0, hcst, go_sem]
  | 2, _ =>
   cases hi
   have e0 : ev (.tmp 58) = .pointer (some ⟨l, 0, none⟩) := hin 58 1 ⟨1, .data⟩
   rw [if_neg (by decide)]
   refine .inl ⟨w', ?_, hc⟩
   simp [execOp, e0, hcst, go_sem]
  | 3, _ =>
   cases hi
   have e0 : ev (.tmp 59) = .pointer (some ⟨l, 8, none⟩) := hin 59 2 ⟨2, .data⟩
   rw [if_neg (by decide)]
   refine .inl ⟨w', ?_, hc⟩
   show _ = Result.ok (Next.value (.map (some m))) w'
   subst hc
   simp [execOp, e0, g8, hcst, go_sem]
  | 4, _ =>
   cases hi
   have e0 : ev (.tmp 3) = .pointer (some ⟨w.heap.size, 0, none⟩) := hout 3
   rw [if_neg (by decide)]
   refine .inl ⟨w', ?_, hc⟩
   simp [execOp, e0, hcst, go_sem]
  | 5, _ =>
   cases hi
   have e0 : ev (.tmp 61) = .pointer (some ⟨w.heap.size, 0, none⟩) := hin 61 4 ⟨4, .data⟩
   rw [if_neg (by decide)]
   refine .inl ⟨w', ?_, hc⟩
   show _ = Result.ok (Next.value (.string kb)) w'
   subst hc
   simp [execOp, e0, bx0, hcst, go_sem]
  | 6, _ =>
   cases hi
   have e0 : ev (.tmp 60) = .map (some m) := hin 60 3 ⟨3, .data⟩
   have e1 : ev (.tmp 62) = .string kb := hin 62 5 ⟨5, .data⟩
   have e2 : ev (.tmp 3) = .pointer (some ⟨w.heap.size, 0, none⟩) := hout 3
   rw [if_pos rfl]
   subst hc
   refine .inr (.inl ⟨rfl, W7, ?_, rfl⟩)
   simp [execOp, e0, e1, e2, hcst, hupd, Result.andThen]
 ·intro w9 hc
  simp only [lexF, Act.put, List.setIfInBounds_toArray, List.set_cons_succ, List.set_cons_zero, List.getD_cons_succ, List.getD_cons_zero]
  obtain rfl := hc
  clear hupd g8 bx0 HW6D
  go_wp2
  go_ret2
  exact ⟨rfl, TT.out⟩
section
variable {w : World} {l d m : Nat} {v5 v6 v7 : Value} {T : Lg}
end
theorem fresh_get (n k : Nat) {c : Cl} (h : (Dv.fresh n).cs[k]? = some c) : c = ⟨.blank, none⟩ := by
 have := List.mem_of_getElem? h
 exact List.eq_of_mem_replicate this
theorem fresh_fm (n k : Nat) : fmAt (Dv.fresh n).cs k = none := by
 unfold fmAt
 cases h : (Dv.fresh n).cs[k]? with
 | none => rfl
 | some c => rw [fresh_get n k h]; rfl
theorem forms_none {cs : List Cl} {base : Nat} : ∀ k, (∀ j, j < k -> fmAt cs (base + j) = none) -> forms cs base k = []
 | 0, _ => rfl
 | k + 1, h => by rw [forms, forms_none k (fun j hj => h j (by omega)), h k (by omega)]; rfl
theorem cnt_none {cs : List Cl} {base : Nat} (h : forms cs base 4 = []) : cnt cs base = none := by unfold cnt; rw [h]; rfl
theorem fresh_cnts (n first : Nat) : ∀ k, cnts (Dv.fresh n).cs first k = [] /\ numTo (Dv.fresh n).cs first k = 0
 | 0 => ⟨rfl, rfl⟩
 | k + 1 => by
  have hf := forms_none (cs := (Dv.fresh n).cs) (base := first + 4 * k) 4 (fun j _ => fresh_fm n _)
  have ih := fresh_cnts n first k
  refine ⟨?_, ?_⟩
  ·rw [cnts, ih.1, cnt_none hf]; rfl
  ·rw [numTo, ih.2, hf]; rfl
structure Calm (S : Dv) : Prop where
 armed : S.armed = 0
 off : S.off = false
theorem flush_calm {S : Dv} (h : Calm S) : S.flushErr = 0 /\ S.flushDo.cs = S.cs.map Cl.flush /\ Calm S.flushDo /\ S.flushDo.losses = S.losses := by
 have hg : S.gone = false := by simp [Dv.gone, h.armed, h.off]
 have hu : S.used = S := by unfold Dv.used; rw [if_pos (.inr h.armed)]
 refine ⟨by simp [Dv.flushErr, hg], by simp [Dv.flushDo, hg], ?_, by simp [Dv.flushDo, hg, hu]⟩
 simp [Dv.flushDo, hg, hu]; exact ⟨h.armed, h.off⟩
structure EnMv (G L G' L' : List Nat) (w w' : World) : Prop where
 keep : Keep (L ++ G) w w'
 new : ∀ q, q ∈ G' \/ q ∈ L' -> (q ∈ G \/ q ∈ L) \/ w.heap.size <= q
theorem EnMv.trans {G L G' L' G2 L2 : List Nat} {w w1 w2 : World} (h : EnMv G L G' L' w w1) (k : EnMv G' L' G2 L2 w1 w2) : EnMv G L G2 L2 w w2 := by
 have hs := h.keep.size
 have o : ∀ q, (q ∈ G' \/ q ∈ L') \/ w1.heap.size <= q -> (q ∈ G \/ q ∈ L) \/ w.heap.size <= q := fun q hq => by
  rcases hq with hq | hq
  ·exact h.new q hq
  ·exact .inr (by omega)
 refine ⟨h.keep.trans k.keep (fun q hq => ?_), fun q hq => o q (k.new q hq)⟩
 rcases o q (.inl ((List.mem_append.1 hq).symm)) with (h1 | h1) | h1
 ·exact .inl (List.mem_append.2 (.inr h1))
 ·exact .inl (List.mem_append.2 (.inl h1))
 ·exact .inr h1
theorem EnMv.below {G L : List Nat} {w w' : World} (b : Below w.heap.size w w') : EnMv G L G L w w' := ⟨Keep.of_below b, fun q hq => .inl hq⟩
section
variable {w0 w w' : World} {x d : Nat} {E : En} {j m nj : Nat} {J : Jr} {s first n : Nat} {S S' : Dv} {f : Nat -> List It} {bs : List (List Bool)} {F F' G : List Nat} {M : SM} {l ml : Nat} {v5 v6 v7 v5' v6' v7' : Value} {T T' : Lg}
theorem EnAt.logs (h : EnAt w0 w x d E j m nj J s first n S f bs G l ml v5 v6 v7 T) (hu : BuIn w0 w d F S s first n M f bs) (hG : G = F ++ M.foot s) (hL : LgIn w' l d ml v5' v6' v7' T') (hd : DvAt w' d F' S') {H : List Nat} (hk : Keep (F ++ H) w w') (hH : ∀ q ∈ H, q ∈ lblocks l ml v5 v6 v7 T)
  (hN : ∀ q ∈ lblocks l ml v5' v6' v7' T', q ∈ lblocks l ml v5 v6 v7 T \/ w.heap.size <= q) (hF : ∀ q ∈ F', q ∈ F \/ w.heap.size <= q) (hS : Sure S') (hlo : S'.losses = S.losses) (hle : S'.cs.length = S.cs.length) (hit : ∀ k, k < n -> S'.its (first + k) = S.its (first + k)) :
  EnAt w0 w' x d E j m nj J s first n S' f bs (F' ++ M.foot s) l ml v5' v6' v7' T' /\ EnMv G (lblocks l ml v5 v6 v7 T) (F' ++ M.foot s) (lblocks l ml v5' v6' v7' T') w w' := by
 have hbel := hu.bk.law.bel
 have h0 := hbel.size
 have inF : ∀ q, q ∈ F -> q ∈ G := fun q hF => by rw [hG]; exact List.mem_append.2 (.inl hF)
 have inM : ∀ q, q ∈ M.foot s -> q ∈ G := fun q hM => by rw [hG]; exact List.mem_append.2 (.inr hM)
 have out : ∀ q, q ∉ G -> q ∉ lblocks l ml v5 v6 v7 T -> q ∉ F ++ H := fun q h1 h2 h3 => by
  rcases List.mem_append.1 h3 with h4 | h4
  ·exact h1 (inF q h4)
  ·exact h2 (hH q h4)
 have hfG : ∀ k ∈ F' ++ M.foot s, k ∈ G \/ w.heap.size <= k := fun k hk2 => by
  rcases List.mem_append.1 hk2 with h1 | h1
  ·rcases hF k h1 with h3 | h3
   ·exact .inl (inF k h3)
   ·exact .inr h3
  ·exact .inl (inM k h1)
 have far : ∀ q, q < w.heap.size -> q ∉ G -> q ∉ F' ++ M.foot s := fun q hq hg hg' => by
  rcases hfG q hg' with h1 | h1
  ·exact hg h1
  ·omega
 have hst : StIn w' s d S.losses first M := hu.bk.st.same (fun q hq => hk.block q (hu.bk.st.lt q hq) (fun hm => by
  rcases List.mem_append.1 hm with h1 | h1
  ·exact hu.bk.off q hq h1
  ·exact h.lG q (hH q h1) (inM q hq)))
 have hu' : BuIn w0 w' d F' S' s first n M f bs := by
  refine ⟨⟨⟨hd, fun k hkF => ?_, ?_⟩, ?_, hu.bk.new, fun q hqM hqF => ?_⟩, hS, hu.len, hu.n1, hu.n2, by rw [hle]; exact hu.fit, fun k hkn => ?_, hu.bits, hu.told⟩
  ·rcases hF k hkF with h1 | h1
   ·exact hu.bk.law.low k h1
   ·omega
  ·exact hbel.trans (hk.below (fun k hkx => by
    rcases List.mem_append.1 hkx with h1 | h1
    ·exact hu.bk.law.low k h1
    ·exact h.low k (.inr (.inr (.inr (hH k h1))))) h0)
  ·rw [hlo]; exact hst
  ·rcases hF q hqF with h1 | h1
   ·exact hu.bk.off q hqM h1
   ·have := hu.bk.st.lt q hqM; omega
  ·rw [hit k hkn]; exact hu.its k hkn
 have hlt := h.lt
 have nL : ∀ q, q < w.heap.size -> q ∉ lblocks l ml v5 v6 v7 T -> q ∉ lblocks l ml v5' v6' v7' T' := fun q h1 h2 h3 => by
  rcases hN q h3 with h4 | h4
  ·exact h2 h4
  ·omega
 refine ⟨⟨h.box.same (hk.block _ h.box.lt (out x h.xG h.xL)), h.jr.keep hk (out j h.jG h.jL) (out m h.mG h.mL), ⟨F', M, hu', rfl⟩, hL, far x h.box.lt h.xG, far j h.jr.blk.lt h.jG, far m h.jr.mlt h.mG, fun q hq hg => ?_, fun q hq => ?_, nL x h.box.lt h.xL, nL j h.jr.blk.lt h.jL, nL m h.jr.mlt h.mL, h.xm⟩, ⟨hk.mono (fun q hq => .inl ?_), fun q hq => ?_⟩⟩
 ·rcases List.mem_append.1 hg with h1 | h1
  ·exact hL.off hd q hq h1
  ·rcases hN q hq with h4 | h4
   ·exact h.lG q h4 (inM q h1)
   ·have := hu.bk.st.lt q h1; omega
 ·rcases hq with rfl | rfl | rfl | hq
  ·exact h.low _ (.inl rfl)
  ·exact h.low _ (.inr (.inl rfl))
  ·exact h.low _ (.inr (.inr (.inl rfl)))
  ·rcases hN q hq with h4 | h4
   ·exact h.low _ (.inr (.inr (.inr h4)))
   ·omega
 ·rcases List.mem_append.1 hq with h1 | h1
  ·exact List.mem_append.2 (.inr (inF q h1))
  ·exact List.mem_append.2 (.inl (hH q h1))
 ·rcases hq with hq | hq
  ·rcases hfG q hq with h1 | h1
   ·exact .inl (.inl h1)
   ·exact .inr h1
  ·rcases hN q hq with h1 | h1
   ·exact .inl (.inr h1)
   ·exact .inr h1
theorem lb_put {t : Th} {N : Nat} (h6 : ∀ q ∈ own v6', q ∈ own v6 \/ N <= q) (h7 : ∀ q ∈ own v7', q ∈ own v7 \/ N <= q) (ht : N <= t.blk) : ∀ q ∈ lblocks l ml v5 v6' v7' (T.put t), q ∈ lblocks l ml v5 v6 v7 T \/ N <= q := fun q hq => by
 unfold lblocks lfoot Lg.all Lg.put at hq
 simp only [List.mem_append, List.mem_cons, List.map_append, List.map_cons, List.map_nil, List.not_mem_nil, or_false] at hq
 unfold lblocks lfoot Lg.all
 simp only [List.mem_append, List.mem_cons, List.map_append]
 rcases hq with (h1 | h1 | h1 | h1 | h1) | h1 | h1 | h1 | h1
 ·exact .inl (.inl (.inl h1))
 ·exact .inl (.inl (.inr (.inl h1)))
 ·exact .inl (.inl (.inr (.inr (.inl h1))))
 ·rcases h6 q h1 with h2 | h2
  ·exact .inl (.inl (.inr (.inr (.inr (.inl h2)))))
  ·exact .inr h2
 ·rcases h7 q h1 with h2 | h2
  ·exact .inl (.inl (.inr (.inr (.inr (.inr h2)))))
  ·exact .inr h2
 ·exact .inl (.inr (.inl h1))
 ·exact .inl (.inr (.inr (.inl h1)))
 ·exact .inl (.inr (.inr (.inr h1)))
 ·exact .inr (by rw [h1]; exact ht)
theorem lf_mem {q : Nat} (hq : q ∈ lfoot l ml v5 v6 v7) : q ∈ lblocks l ml v5 v6 v7 T := List.mem_append.2 (.inl hq)
theorem EnAt.put_room (h : EnAt w0 w x d E j m nj J s first n S f bs G l ml v5 v6 v7 T) (y : It) (hyf : y.fits) (hyg : y.good = true) (hroom : T.cont.length + y.size <= 1472) (hcap : T.cap < 1000000) (hop : T.opn.length <= 1000) :
  Calls Tryz.prog 108 #[.pointer (some ⟨l, 0, none⟩), y.val] w fun e w' => e = .returned (.tuple #[.slice none 0 0, .int .i64 0]) /\ ∃ v6' v7', EnAt w0 w' x d E j m nj J s first n S f bs G l ml v5 v6' v7' (T.put ⟨w.heap.size, 0, y⟩) /\ EnMv G (lblocks l ml v5 v6 v7 T) G (lblocks l ml v5 v6' v7' (T.put ⟨w.heap.size, 0, y⟩)) w w' := by
 obtain ⟨F, M, hu, hG⟩ := h.bu
 refine (Go.Proofs.YtcdghalnneilpaaGreat.put_room h.lg y hyf hyg hroom hcap hop).mono ?_
 rintro e w' ⟨rfl, v6', v7', hL, hk, h6, h7⟩
 have hH : ∀ q ∈ l :: ml :: (own v6 ++ own v7), q ∈ lblocks l ml v5 v6 v7 T := fun q hq => lf_mem (by
  simp only [List.mem_cons, List.mem_append] at hq
  simp only [lfoot, List.mem_cons, List.mem_append]
  rcases hq with h1 | h1 | h1 | h1
  ·exact .inl h1
  ·exact .inr (.inl h1)
  ·exact .inr (.inr (.inr (.inl h1)))
  ·exact .inr (.inr (.inr (.inr h1))))
 have hd : DvAt w' d F S := hu.bk.law.dev.same (fun q hq => hk.block q (hu.bk.law.dev.lt q hq) (fun hm => h.lG q (hH q hm) (by rw [hG]; exact List.mem_append.2 (.inl hq))))
 have r := h.logs hu hG hL hd (hk.mono (G := F ++ (l :: ml :: (own v6 ++ own v7))) (fun q hq => .inl (List.mem_append.2 (.inr hq)))) hH (lb_put h6 h7 (Nat.le_refl _)) (fun q hq => .inl hq) hu.sure rfl rfl (fun k _ => rfl)
 rw [<- hG] at r
 exact ⟨rfl, v6', v7', r.1, r.2⟩
end
theorem Sure.calm {S : Dv} (h : Sure S) : Calm S := ⟨h.armed, h.off⟩
section
variable {w0 w w' : World} {x d : Nat} {E : En} {j m nj : Nat} {J : Jr} {s first n : Nat} {S S' : Dv} {f : Nat -> List It} {bs : List (List Bool)} {F F' G : List Nat} {M : SM} {l ml : Nat} {v5 v6 v7 v5' v6' v7' : Value} {T T' : Lg}
theorem dropF_none (h : Bu w0 w d s first n S f bs G) (key : List UInt8) (lb : List Bool) (hb : bs[bkt key n]? = some lb) (hm : mayK lb key = false) : dropF n f key = f := by
 obtain ⟨F, M, h, rfl⟩ := h
 funext k
 unfold dropF
 split
 ·rename_i hk
  rw [List.filter_eq_self]
  intro z hz
  unfold notKey
  refine decide_eq_true (fun e => ?_)
  have := h.told k lb z (by rw [hk]; exact hb) hz
  rw [e, hm] at this
  cases this
 ·rfl
theorem putGreat_en (h : EnAt w0 w x d E j m nj J s first n S f bs G l ml v5 v6 v7 T) (hl : S.losses = E.losses) (y : It) (hk : y.key.length <= maxLen) (lb : List Bool) (hlb : bs[bkt y.key n]? = some lb) (R : Dv -> Lg -> Nat -> Prop)
  (cP : ∀ W, Below w.heap.size w W -> Calls Tryz.prog 108 #[.pointer (some ⟨l, 0, none⟩), y.val] W fun e w' => ∃ v S' G' v5' v6' v7' T', e = .returned (.tuple #[v, .int .i64 0]) /\ EnAt w0 w' x d E j m nj J s first n S' f bs G' l ml v5' v6' v7' T' /\ EnMv G (lblocks l ml v5 v6 v7 T) G' (lblocks l ml v5' v6' v7' T') W w' /\ R S' T' W.heap.size) :
  Calls Tryz.prog 52 #[.pointer (some ⟨x, 0, none⟩), .agg #[.string (txt y.key), .string (txt y.value), .int .u32 y.flags, .int .i64 y.exp, .int .u64 y.ver]] w fun e w' => e = .returned (.int .i64 0) /\ ∃ S' S2 G' v5' v6' v7' T' N, EnAt w0 w' x d E j m nj J s first n S2 (dropF n f y.key) bs G' l ml v5' v6' v7' T' /\ EnMv G (lblocks l ml v5 v6 v7 T) G' (lblocks l ml v5' v6' v7' T') w w' /\ R S' T' N /\ w.heap.size <= N /\ S2.losses = S'.losses /\ Dv.far first n S' S2 := by
 obtain ⟨F, M, hu, hG⟩ := h.bu
 have BA : Below w.heap.size w (w.alloc (.cells #[.string (txt y.key), .string (txt y.value), .int .u32 y.flags, .int .i64 y.exp, .int .u64 y.ver] 39)).drew := by
  have b := (Below.refl w.heap.size w).alloc (Nat.le_refl _) (.cells #[.string (txt y.key), .string (txt y.value), .int .u32 y.flags, .int .i64 y.exp, .int .u64 y.ver] 39)
  exact ⟨b.os, b.tape, b.output, b.size, b.block⟩
 have hA := h.below BA
 have hNB : Blk (w.alloc (.cells #[.string (txt y.key), .string (txt y.value), .int .u32 y.flags, .int .i64 y.exp, .int .u64 y.ver] 39)).drew w.heap.size (itL y) 39 := (Blk.new w (itL y) 39)
 obtain ⟨WA, hWA⟩ : ∃ WA, (w.alloc (.cells #[.string (txt y.key), .string (txt y.value), .int .u32 y.flags, .int .i64 y.exp, .int .u64 y.ver] 39)).drew = WA := ⟨_, rfl⟩
 rw [hWA] at BA hA hNB
 have hlt := h.lt
 refine (putGreat_two (F := F) (S := S) y (mayK lb y.key) h.box hl (fun W => Below WA.heap.size WA W)
  (fun v W => ∃ S' G' v5' v6' v7' T' N, EnAt w0 W x d E j m nj J s first n S' f bs G' l ml v5' v6' v7' T' /\ EnMv G (lblocks l ml v5 v6 v7 T) G' (lblocks l ml v5' v6' v7' T') w W /\ R S' T' N /\ w.heap.size <= N /\ Blk W w.heap.size (itL y) 39)
  (fun _ w' => ∃ S' S2 G' v5' v6' v7' T' N, EnAt w0 w' x d E j m nj J s first n S2 (dropF n f y.key) bs G' l ml v5' v6' v7' T' /\ EnMv G (lblocks l ml v5 v6 v7 T) G' (lblocks l ml v5' v6' v7' T') w w' /\ R S' T' N /\ w.heap.size <= N /\ S2.losses = S'.losses /\ Dv.far first n S' S2) ?_ ?_ ?_ ?_ ?_).mono ?_
 ·rw [hWA]
  exact bu_may hA.bu y.key hk lb hlb
 ·intro W hW
  exact ⟨(hu.bk.law.dev.below BA).below hW, (hA.below hW).box, hNB.same (hW.block _ hNB.lt)⟩
 ·intro W q hW
  have B1 : Below w.heap.size w (W.drewN q) := (BA.trans (hW.mono BA.size)).trans ((below_q2 W q).mono (by have := BA.size; have := hW.size; omega))
  refine (cP _ B1).mono ?_
  rintro e w' ⟨v, S', G', v5', v6', v7', T', rfl, hE, hM, hR⟩
  have hB2 : Blk (W.drewN q) w.heap.size (itL y) 39 := (hNB.same (hW.block _ hNB.lt)).same rfl
  refine ⟨v, rfl, S', G', v5', v6', v7', T', _, hE, (EnMv.below B1).trans hM, hR, B1.size, hB2.same (hM.keep.block _ hB2.lt (fun hm => ?_))⟩
  rcases List.mem_append.1 hm with h1 | h1
  ·have := hlt _ (.inr (.inr (.inr (.inr h1))))
   omega
  ·have := hlt _ (.inr (.inr (.inr (.inl h1))))
   omega
 ·rintro v W ⟨S', G', v5', v6', v7', T', N, hE, hM, hR, hN, hB⟩
  exact ⟨hE.box, hB⟩
 ·rintro v W ⟨S', G', v5', v6', v7', T', N, hE, hM, hR, hN, hB⟩ hmb
  have hE' := hE.below (w' := W.drew) ((Below.refl _ _).drew)
  refine (bu_drop hE'.bu y.key hk).mono ?_
  rintro e w' ⟨rfl, S2, G2, hb2, hm2, hl2, hf2⟩
  refine ⟨_, rfl, ?_, S', S2, G2, v5', v6', v7', T', N, hE'.turn hb2 hm2, (hM.trans (EnMv.below ((Below.refl _ _).drew))).trans ⟨hm2.keep.mono (fun q hq => .inl (List.mem_append.2 (.inr hq))), fun q hq => ?_⟩, hR, hN, hl2, hf2⟩
  ·split
   ·exact .inr rfl
   ·exact .inl rfl
  ·rcases hq with hq | hq
   ·rcases hm2.foot q hq with h1 | h1
    ·exact .inl (.inl h1)
    ·exact .inr h1
   ·exact .inl (.inr hq)
 ·rintro e w' ⟨rfl, v, W, ⟨S', G', v5', v6', v7', T', N, hE, hM, hR, hN, hB⟩, hif⟩
  refine ⟨rfl, ?_⟩
  cases hmb : mayK lb y.key with
  | true =>
   rw [hmb, if_pos rfl] at hif
   exact hif
  | false =>
   rw [hmb, if_neg (by decide)] at hif
   subst hif
   rw [dropF_none hE.bu y.key lb hlb hmb]
   exact ⟨S', S', G', v5', v6', v7', T', N, hE, hM, hR, hN, rfl, Dv.far.refl _ _ _⟩
end
section
variable {w0 w w' : World} {x d : Nat} {E : En} {j m nj : Nat} {J : Jr} {s first n : Nat} {S S' : Dv} {f : Nat -> List It} {bs : List (List Bool)} {F F' G : List Nat} {M : SM} {l ml : Nat} {v5 v6 v7 v5' v6' v7' : Value} {T T' : Lg}
def SetEn (w0 w : World) (x d : Nat) (E : En) (j m nj : Nat) (J : Jr) (s first n : Nat) (f : Nat -> List It) (bs : List (List Bool)) (G : List Nat) (l ml : Nat) (L : List Nat) (R : Dv -> Lg -> Prop) (w' : World) : Prop :=
 ∃ S' S2 G' v5' v6' v7' T', EnAt w0 w' x d E j m nj J s first n S2 f bs G' l ml v5' v6' v7' T' /\ EnMv G L G' (lblocks l ml v5' v6' v7' T') w w' /\ R S' T' /\ S2.losses = S'.losses /\ Dv.far first n S' S2 /\ ∀ c ∈ S2.cs, c.last = none
theorem settle_of (h : EnAt w0 w x d E j m nj J s first n S f bs G l ml v5 v6 v7 T) (hl : S.losses = E.losses) (R : Dv -> Lg -> Prop)
  (cS : ∀ q, Calls Tryz.prog 81 #[.pointer (some ⟨l, 0, none⟩)] (w.drewN q) fun e w' => ∃ v S' G' v5' v6' v7' T', e = .returned (.tuple #[v, .int .i64 0]) /\ EnAt w0 w' x d E j m nj J s first n S' f bs G' l ml v5' v6' v7' T' /\ EnMv G (lblocks l ml v5 v6 v7 T) G' (lblocks l ml v5' v6' v7' T') (w.drewN q) w' /\ R S' T') :
  Calls Tryz.prog 30 #[.pointer (some ⟨x, 0, none⟩)] w fun e w' => e = .returned (.int .i64 0) /\ SetEn w0 w x d E j m nj J s first n f bs G l ml (lblocks l ml v5 v6 v7 T) R w' := by
 obtain ⟨F, M, hu, hG⟩ := h.bu
 refine (settle_two h.box hu.bk.law.dev hl (fun W => ∃ S' G' v5' v6' v7' T', EnAt w0 W x d E j m nj J s first n S' f bs G' l ml v5' v6' v7' T' /\ EnMv G (lblocks l ml v5 v6 v7 T) G' (lblocks l ml v5' v6' v7' T') w W /\ R S' T') (fun _ er w' => er = 0 /\ SetEn w0 w x d E j m nj J s first n f bs G l ml (lblocks l ml v5 v6 v7 T) R w') ?_ ?_ ?_).mono ?_
 ·intro q
  refine (cS q).mono ?_
  rintro e w' ⟨v, S', G', v5', v6', v7', T', rfl, hE, hM, hR⟩
  exact ⟨v, rfl, S', G', v5', v6', v7', T', hE, (EnMv.below (below_q2 w q)).trans hM, hR⟩
 ·rintro W ⟨S', G', v5', v6', v7', T', hE, hM, hR⟩
  exact hE.box
 ·rintro W ⟨S', G', v5', v6', v7', T', hE, hM, hR⟩
  refine (bu_flush hE.bu).mono ?_
  rintro e w' ⟨rfl, S2, G2, hb2, hm2, hl2, hf2, hla⟩
  refine ⟨0, rfl, rfl, S', S2, G2, v5', v6', v7', T', hE.turn hb2 hm2, hM.trans ⟨hm2.keep.mono (fun q hq => .inl (List.mem_append.2 (.inr hq))), fun q hq => ?_⟩, hR, hl2, hf2, hla⟩
  rcases hq with hq | hq
  ·rcases hm2.foot q hq with h1 | h1
   ·exact .inl (.inl h1)
   ·exact .inr h1
  ·exact .inl (.inr hq)
 ·rintro e w' ⟨er, W, rfl, _, rfl, hS⟩
  exact ⟨rfl, hS⟩
theorem settle_idle (h : EnAt w0 w x d E j m nj J s first n S f bs G l ml v5 v6 v7 T) (hl : S.losses = E.losses) (ho : T.opn = []) :
  Calls Tryz.prog 30 #[.pointer (some ⟨x, 0, none⟩)] w fun e w' => e = .returned (.int .i64 0) /\ SetEn w0 w x d E j m nj J s first n f bs G l ml (lblocks l ml v5 v6 v7 T) (fun S' T' => S' = S /\ T' = T) w' := by
 refine settle_of h hl _ (fun q => ?_)
 have hE := h.below (below_q2 w q)
 refine (seal_idle hE.lg ho).mono ?_
 rintro e w' ⟨rfl, rfl⟩
 exact ⟨_, S, G, v5, v6, v7, T, rfl, hE, ⟨Keep.refl _ _, fun q hq => .inl hq⟩, rfl, rfl⟩
def PutGr (w0 w : World) (x d : Nat) (E : En) (j m nj : Nat) (J : Jr) (s first n : Nat) (f : Nat -> List It) (bs : List (List Bool)) (G : List Nat) (l ml : Nat) (L : List Nat) (y : It) (R : Dv -> Lg -> Nat -> Prop) (w' : World) : Prop :=
 ∃ S' S2 G' v5' v6' v7' T' N, EnAt w0 w' x d E j m nj J s first n S2 (dropF n f y.key) bs G' l ml v5' v6' v7' T' /\ EnMv G L G' (lblocks l ml v5' v6' v7' T') w w' /\ R S' T' N /\ w.heap.size <= N /\ S2.losses = S'.losses /\ Dv.far first n S' S2
theorem eput_of (h : EnAt w0 w x d E j m nj J s first n S f bs G l ml v5 v6 v7 T) (hl : S.losses = E.losses) (y : It) (hyg : y.good = true) (hk : y.key.length <= maxLen) (hk2 : y.key.length <= 140737488351232) (hv : y.value.length <= 140737488351232) (hs1 : 120 < y.size) (hs2 : y.size <= 1472) (lb : List Bool) (hlb : bs[bkt y.key n]? = some lb) (R : Dv -> Lg -> Nat -> Prop)
  (cP : ∀ W, Below w.heap.size w W -> Calls Tryz.prog 108 #[.pointer (some ⟨l, 0, none⟩), y.val] W fun e w' => ∃ v S' G' v5' v6' v7' T', e = .returned (.tuple #[v, .int .i64 0]) /\ EnAt w0 w' x d E j m nj J s first n S' f bs G' l ml v5' v6' v7' T' /\ EnMv G (lblocks l ml v5 v6 v7 T) G' (lblocks l ml v5' v6' v7' T') W w' /\ R S' T' W.heap.size) :
  Calls Tryz.prog 13 #[.pointer (some ⟨x, 0, none⟩), .agg #[.string (txt y.key), .string (txt y.value), .int .u32 y.flags, .int .i64 y.exp, .int .u64 y.ver]] w fun e w' => e = .returned (.int .i64 0) /\ PutGr w0 w x d E j m nj J s first n f bs G l ml (lblocks l ml v5 v6 v7 T) y R w' := by
 refine (eput_go y hyg hk2 hv hs2 (fun v w' => v = .int .i64 0 /\ PutGr w0 w x d E j m nj J s first n f bs G l ml (lblocks l ml v5 v6 v7 T) y R w') ?_).mono ?_
 ·intro W hW
  rw [if_pos hs1]
  refine (putGreat_en (h.below hW) hl y hk lb hlb R (fun W2 hW2 => cP W2 (hW.trans (hW2.mono hW.size)))).mono ?_
  rintro e w' ⟨rfl, S', S2, G', v5', v6', v7', T', N, hE, hM, hR, hN, h1, h2⟩
  exact ⟨_, rfl, rfl, S', S2, G', v5', v6', v7', T', N, hE, (EnMv.below hW).trans hM, hR, Nat.le_trans hW.size hN, h1, h2⟩
 ·rintro e w' ⟨v, rfl, rfl, hp⟩
  exact ⟨rfl, hp⟩
theorem eput_room (h : EnAt w0 w x d E j m nj J s first n S f bs G l ml v5 v6 v7 T) (hl : S.losses = E.losses) (y : It) (hyf : y.fits) (hyg : y.good = true) (hk : y.key.length <= maxLen) (hk2 : y.key.length <= 140737488351232) (hv : y.value.length <= 140737488351232) (hs1 : 120 < y.size) (hs2 : y.size <= 1472) (lb : List Bool) (hlb : bs[bkt y.key n]? = some lb) (hroom : T.cont.length + y.size <= 1472) (hcap : T.cap < 1000000) (hop : T.opn.length <= 1000) :
  Calls Tryz.prog 13 #[.pointer (some ⟨x, 0, none⟩), .agg #[.string (txt y.key), .string (txt y.value), .int .u32 y.flags, .int .i64 y.exp, .int .u64 y.ver]] w fun e w' => e = .returned (.int .i64 0) /\ PutGr w0 w x d E j m nj J s first n f bs G l ml (lblocks l ml v5 v6 v7 T) y (fun S' T' N => S' = S /\ T' = T.put ⟨N, 0, y⟩) w' := by
 refine eput_of h hl y hyg hk hk2 hv hs1 hs2 lb hlb _ (fun W hW => ?_)
 refine ((h.below hW).put_room y hyf hyg hroom hcap hop).mono ?_
 rintro e w' ⟨rfl, v6', v7', hE, hM⟩
 exact ⟨_, S, G, v5, v6', v7', _, rfl, hE, hM, rfl, rfl⟩
end
end Go.Proofs.YtcdghalnneilpaaGreat
