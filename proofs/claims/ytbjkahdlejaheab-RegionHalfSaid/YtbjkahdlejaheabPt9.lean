/- Put. -/
import Derived.Test.YtbjkahdlejaheabSl9
set_option linter.unusedVariables false
set_option linter.unusedSimpArgs false
set_option maxRecDepth 8000
namespace Go.Proofs.Ytbjkahdlejaheab
open Go.RowKit Go.Deep Math

/-- What Put leaves: one thing more. -/
def Lg.put (T : Lg) (t : Th) : Lg := { T with opn := T.opn ++ [t], cap := T.cap + 1, has := updK T.has t.it.key (some t.pos) }
theorem put_state {W w3 w5 w7 : World} {l d m : Nat} {v5 v6 v7 v6' v7' : Value} {T : Lg} (h : LgIn W l d m v5 v6 v7 T) (t : Th) (ht : ThAt W t)
    (h3 : w3.ownsRow 0 5 1 v7' (T.cont ++ t.it.enc).length (bCells (T.cont ++ t.it.enc))) (k3 : Keep (own v7) W w3)
    (h5 : w5.ownsRow 0 73 1 v6' (T.opn.length + 1) (ptrCells T.opn ++ [t.ptr])) (k5 : Keep (own v6) (w3.setCell ⟨l, 7, none⟩ v7') w5) (hv6 : ∀ q ∈ own v6', q ∈ own v6 ∨ W.heap.size ≤ q)
    (h7 : MapAt w7 m (T.cap + 1) (updK T.has t.it.key (some t.pos))) (k7 : Keep [m] (w5.setCell ⟨l, 6, none⟩ v6') w7) :
    LgIn w7 l d m v5 v6' v7' (T.put t) ∧ Keep (l :: m :: (own v6 ++ own v7)) W w7 := by
  have hl3 : Blk w3 l (lgCells d m v5 v6 v7 T) 67 := h.box.same (k3.block l h.box.lt (own_notin h.cont h.box (by decide)))
  have hl4 := hl3.set 7 v7'
  have own6 : ∀ q ∈ own v6, ∃ c, W.heap[q]? = some (.cells c 73 (0, 0)) := fun q hq => own_ty h.opn (mem_own.1 hq)
  have sz3 := k3.size
  have sz5 := k5.size
  rw [nblk_setCell] at sz5
  have hl5 : Blk w5 l ((lgCells d m v5 v6 v7 T).set 7 v7') 67 := hl4.same (k5.block l hl4.lt (fun hm => by
    obtain ⟨c, hc⟩ := own6 l hm
    exact ty_ne hc h.box (by decide) rfl))
  have hl6 := hl5.set 6 v6'
  have notL : ∀ {q : Nat} {w' : World} {c c' : Array Value} {e : TypeId}, w'.heap[q]? = some (.cells c e (0, 0)) → w'.heap[l]? = some (.cells c' 67 (0, 0)) → e ≠ 67 → q ≠ l := fun hq hl hne => ty_ne hq hl hne
  have to7 : ∀ q, q ≠ l → q ≠ m → q < w5.heap.size → w7.heap[q]? = w5.heap[q]? := fun q h1 h2 h3 => by
    refine (k7.block q (by rw [nblk_setCell]; exact h3) (by simpa using h2)).trans ?_
    exact blk_setCell_other w5 ⟨l, 6, none⟩ _ q h1
  have to5 : ∀ q, q ≠ l → q ∉ own v6 → q < w3.heap.size → w5.heap[q]? = w3.heap[q]? := fun q h1 h2 h3 => by
    refine (k5.block q (by rw [nblk_setCell]; exact h3) h2).trans ?_
    exact blk_setCell_other w3 ⟨l, 7, none⟩ _ q h1
  have sm : ∀ {q : Nat} {c : Array Value} {e : TypeId}, W.heap[q]? = some (.cells c e (0, 0)) → e ≠ 5 → e ≠ 67 → q ∉ own v6 → w7.heap[q]? = W.heap[q]? := fun {q c e} hq h1 h2 h3 => by
    have hlt := (Array.getElem?_eq_some_iff.1 hq).1
    have hql : q ≠ l := ty_ne hq h.box h2
    rw [to7 q hql (h.notM hq) (by omega), to5 q hql h3 (by omega)]
    exact k3.block q hlt (own_notin h.cont hq h1)
  have n6 : ∀ {q : Nat} {c : Array Value} {e : TypeId}, W.heap[q]? = some (.cells c e (0, 0)) → e ≠ 73 → q ∉ own v6 := fun hq hne => own_notin h.opn hq hne
  have ec : (T.put t).cont = T.cont ++ t.it.enc := by
    show encs ((T.opn ++ [t]).map Th.it) = encs (T.opn.map Th.it) ++ t.it.enc
    rw [List.map_append, encs_append]
    simp [encs]
  have hall : ∀ u, u ∈ (T.put t).all ↔ u ∈ T.all ∨ u = t := fun u => by
    show u ∈ T.regs.flatMap Rg.ths ++ (T.opn ++ [t]) ↔ u ∈ T.regs.flatMap Rg.ths ++ T.opn ∨ u = t
    simp only [List.mem_append, List.mem_singleton]
    constructor
    · rintro (h | h | h)
      · exact .inl (.inl h)
      · exact .inl (.inr h)
      · exact .inr h
    · rintro ((h | h) | h)
      · exact .inl h
      · exact .inr (.inl h)
      · exact .inr (.inr h)
  constructor
  · refine ⟨?_, own_same h.sld (fun q hq => ?_), fun r hr => own_same (h.rows r hr) (fun q hq => ?_), ?_, ?_, h7, fun u hu => ?_, fun r hr q hq => ?_, fun k p hkp => ?_⟩
    · have hlt6 : l < w5.heap.size := hl5.lt
      have e7 : w7.heap[l]? = (w5.setCell ⟨l, 6, none⟩ v6').heap[l]? := k7.block l (by rw [nblk_setCell]; exact hlt6) (by simpa using h.notM h.box)
      exact hl6.same e7
    · obtain ⟨c, hc⟩ := own_ty h.sld hq; exact sm hc (by decide) (by decide) (n6 hc (by decide))
    · obtain ⟨c, hc⟩ := own_ty (h.rows r hr) hq
      exact sm hc (by decide) (by decide) (fun hm => h.apart r hr q hq (mem_own.1 hm))
    · have e : ptrCells (T.opn ++ [t]) = ptrCells T.opn ++ [t.ptr] := by simp [ptrCells]
      show w7.ownsRow 0 73 1 v6' (T.opn ++ [t]).length (ptrCells (T.opn ++ [t]))
      rw [e, List.length_append]
      refine own_same h5 (fun q hq => ?_)
      obtain ⟨c, hc⟩ := own_ty h5 hq
      refine to7 q (ty_ne hc hl5 (by decide)) ?_ (Array.getElem?_eq_some_iff.1 hc).1
      rintro rfl
      obtain ⟨es, cl, hm⟩ := h.map.isMap
      have h1 : w5.heap[q]? = W.heap[q]? := by
        rw [to5 q (ty_ne hc hl5 (by decide)) (fun hm' => by
          obtain ⟨c2, hc2⟩ := own6 q hm'
          rw [hm] at hc2; cases hc2) (by have := h.map.lt; omega)]
        refine k3.block q h.map.lt (fun hm' => ?_)
        obtain ⟨c2, hc2⟩ := own_ty h.cont (mem_own.1 hm')
        rw [hm] at hc2; cases hc2
      rw [hc, hm] at h1
      cases h1
    · rw [ec]
      refine own_same h3 (fun q hq => ?_)
      obtain ⟨c, hc⟩ := own_ty h3 hq
      have hql : q ≠ l := ty_ne hc hl3 (by decide)
      have hlt := (Array.getElem?_eq_some_iff.1 hc).1
      have hq6 : q ∉ own v6 := fun hm' => by
        obtain ⟨c2, hc2⟩ := own6 q hm'
        have : w3.heap[q]? = W.heap[q]? := k3.block q (Array.getElem?_eq_some_iff.1 hc2).1 (own_notin h.cont hc2 (by decide))
        rw [hc, hc2] at this
        cases this
      have hqm : q ≠ m := by
        rintro rfl
        obtain ⟨es, cl, hm⟩ := h.map.isMap
        have : w3.heap[q]? = W.heap[q]? := k3.block q h.map.lt (fun hm' => by
          obtain ⟨c2, hc2⟩ := own_ty h.cont (mem_own.1 hm')
          rw [hm] at hc2; cases hc2)
        rw [hc, hm] at this
        cases this
      rw [to7 q hql hqm (by omega), to5 q hql hq6 hlt]
    · have hu' : ThAt W u := by
        rcases (hall u).1 hu with h1 | h1
        · exact h.ths u h1
        · rw [h1]; exact ht
      obtain ⟨c, hc⟩ := hu'.ty
      exact hu'.same (sm hc (by decide) (by decide) (n6 hc (by decide)))
    · intro hq6
      rcases hv6 q (mem_own.2 hq6) with h1 | h1
      · exact h.apart r hr q hq (mem_own.1 h1)
      · have := own_lt (h.rows r hr) q (mem_own.2 hq)
        omega
    · by_cases e : k = t.it.key
      · subst e
        have : updK T.has t.it.key (some t.pos) t.it.key = some p := hkp
        rw [updK_same] at this
        exact ⟨t, (hall t).2 (.inr rfl), Option.some.inj this, rfl⟩
      · have : updK T.has t.it.key (some t.pos) k = some p := hkp
        rw [updK_other _ _ _ _ e] at this
        obtain ⟨u, hu, h1, h2⟩ := h.hasAt k p this
        exact ⟨u, (hall u).2 (.inl hu), h1, h2⟩
  · have a3 : Keep (l :: m :: (own v6 ++ own v7)) W w3 := k3.mono (fun q hq => .inl (by simp [hq]))
    have a4 := a3.setCell (p := ⟨l, 7, none⟩) (.inl (by simp)) v7'
    have a5 := a4.trans k5 (fun q hq => .inl (by simp [hq]))
    have a6 := a5.setCell (p := ⟨l, 6, none⟩) (.inl (by simp)) v6'
    exact a6.trans k7 (fun q hq => .inl (by simp at hq; simp [hq]))
theorem put_mid {W w3 w5 : World} {l d m : Nat} {v5 v6 v7 v6' v7' : Value} {T : Lg} (h : LgIn W l d m v5 v6 v7 T) (t : Th) (ht : ThAt W t) (k3 : Keep (own v7) W w3) (k5 : Keep (own v6) (w3.setCell ⟨l, 7, none⟩ v7') w5) :
    MapAt (w5.setCell ⟨l, 6, none⟩ v6') m T.cap T.has ∧ ThAt (w5.setCell ⟨l, 6, none⟩ v6') t ∧ Blk w5 l ((lgCells d m v5 v6 v7 T).set 7 v7') 67 := by
  have hl3 : Blk w3 l (lgCells d m v5 v6 v7 T) 67 := h.box.same (k3.block l h.box.lt (own_notin h.cont h.box (by decide)))
  have hl4 := hl3.set 7 v7'
  have own6 : ∀ q ∈ own v6, ∃ c, W.heap[q]? = some (.cells c 73 (0, 0)) := fun q hq => own_ty h.opn (mem_own.1 hq)
  have sz3 := k3.size
  have hl5 : Blk w5 l ((lgCells d m v5 v6 v7 T).set 7 v7') 67 := hl4.same (k5.block l hl4.lt (fun hm => by
    obtain ⟨c, hc⟩ := own6 l hm
    exact ty_ne hc h.box (by decide) rfl))
  have to6 : ∀ q, q ≠ l → q ∉ own v6 → q ∉ own v7 → q < W.heap.size → (w5.setCell ⟨l, 6, none⟩ v6').heap[q]? = W.heap[q]? := fun q h1 h2 h3 h4 => by
    refine (blk_setCell_other w5 ⟨l, 6, none⟩ _ q h1).trans ?_
    refine (k5.block q (by rw [nblk_setCell]; omega) h2).trans ?_
    refine (blk_setCell_other w3 ⟨l, 7, none⟩ _ q h1).trans ?_
    exact k3.block q h4 h3
  refine ⟨h.map.same (to6 m (Ne.symm (h.notM h.box)) (fun hm => ?_) (fun hm => ?_) h.map.lt), ?_, hl5⟩
  · obtain ⟨c, hc⟩ := own6 m hm; exact h.notM hc rfl
  · obtain ⟨c, hc⟩ := own_ty h.cont (mem_own.1 hm); exact h.notM hc rfl
  · obtain ⟨c, hc⟩ := ht.ty
    exact ht.same (to6 _ (ty_ne hc h.box (by decide)) (own_notin h.opn hc (by decide)) (own_notin h.cont hc (by decide)) ht.lt)
set_option maxHeartbeats 400000 in
theorem put_bad {w : World} {l : Nat} (kb vb : ByteArray) (f e : Int) (v : Nat) (hg : mayBe kb.size vb.size v = false) :
    Calls Try.prog 10 #[.pointer (some ⟨l, 0, none⟩), itV kb vb f e v] w fun r w' => r = .returned (.tuple #[.slice none 0 0, .int .i64 1]) ∧ Below w.heap.size w w' := by
  have cg := hide (fun W => rput_bad kb vb f e v hg W)
  unfold itV at cg ⊢
  have B0 := hide ((Below.refl w.heap.size w).alloc (Nat.le_refl _) (.cells #[.string kb, .string vb, .int .u32 f, .int .i64 e, .int .u64 v] 36))
  clear hg
  go_enter Try.func10, Try.ntmps10
  go_wp2_with (go_at_call 32; refine (cg.out _).mono ?_; rintro r w1 ⟨rfl, b1⟩; have B1 := hide b1; clear b1)
  go_ret2
  exact ⟨rfl, B0.out.trans (B1.out.mono (by rw [nblk_alloc]; omega))⟩
set_option maxHeartbeats 8000000 in
theorem put_room {w : World} {l d m : Nat} {v5 v6 v7 : Value} {T : Lg} (h : LgIn w l d m v5 v6 v7 T) (x : It) (hf : x.fits) (hg : x.good = true) (hroom : T.cont.length + x.size ≤ 1472) (hcap : T.cap < 1000000) (hop : T.opn.length ≤ 1000) :
    Calls Try.prog 10 #[.pointer (some ⟨l, 0, none⟩), x.val] w fun e w' => e = .returned (.tuple #[.slice none 0 0, .int .i64 0]) ∧ ∃ v6' v7', LgIn w' l d m v5 v6' v7' (T.put ⟨w.heap.size, 0, x⟩) ∧ Keep (l :: m :: (own v6 ++ own v7)) w w' ∧ (∀ q ∈ own v6', q ∈ own v6 ∨ w.heap.size ≤ q) ∧ (∀ q ∈ own v7', q ∈ own v7 ∨ w.heap.size ≤ q) := by
  have gs := good_sizes hg
  have hsz : x.size = 32 + x.key.length + x.value.length := rfl
  obtain ⟨A, hA⟩ : ∃ A, A = w.alloc (.cells #[.string (txt x.key), .string (txt x.value), .int .u32 x.flags, .int .i64 x.exp, .int .u64 x.ver] 36) := ⟨_, rfl⟩
  have bA : Below w.heap.size w A := by rw [hA]; exact (Below.refl _ _).alloc (Nat.le_refl _) _
  have hszA : A.heap.size = w.heap.size + 1 := by rw [hA, nblk_alloc]
  have bkA : Blk A w.heap.size (itCells x) 36 := by rw [hA]; exact Blk.new w (itCells x) 36
  have tA : ThAt A ⟨w.heap.size, 0, x⟩ := ⟨hf, by show x.key.length ≤ _; omega, by show x.value.length ≤ _; omega, ⟨_, bkA⟩, bkA.cell (i := 0) rfl, bkA.cell (i := 1) rfl, bkA.cell (i := 2) rfl, bkA.cell (i := 3) rfl, bkA.cell (i := 4) rfl⟩
  have cP := hide (rput_ok x hf hg A)
  have EV : Hid (x.val = .agg #[.string (txt x.key), .string (txt x.value), .int .u32 x.flags, .int .i64 x.exp, .int .u64 x.ver]) := rfl
  rw [EV.out] at cP ⊢
  have H := hide h
  have HF := hide hf
  have HROOM := hide hroom
  have HCAP := hide hcap
  have HOP := hide hop
  have BA := hide bA
  have SZA := hide hszA
  have TA := hide tA
  have BKA := hide bkA
  have GS := hide gs
  have HSZ := hide hsz
  have hsz2 : (x.size : Int) ≤ 1472 := by omega
  clear h hf hg hroom hcap hop bA hszA tA bkA gs hsz EV
  subst hA
  go_enter Try.func10, Try.ntmps10
  go_wp2_with fail
  refine cP.out.mono ?_
  rintro e w2 ⟨g, rfl, hg0, hbuf, b2⟩
  have bW : Below w.heap.size w w2 := BA.out.trans (b2.mono (by rw [SZA.out]; omega))
  have hL2 := H.out.below bW
  have t2 : ThAt w2 ⟨w.heap.size, 0, x⟩ := TA.out.same (b2.block _ TA.out.lt)
  obtain ⟨a7, c7, rfl⟩ := own_slice hL2.cont
  obtain ⟨a6, c6, rfl⟩ := own_slice hL2.opn
  have hbs : BS w2 (some ⟨g, 0, none⟩) x.size x.size x.enc := buf_bs hbuf (x.enc_length).symm (Nat.le_refl _)
  obtain ⟨ua7, uc7, w3, hrun7, hrow7, hkp7, hblk7⟩ := app_bytes hL2.cont hbs (by have := HROOM.out; omega) (Nat.zero_le _)
  have hl3 : Blk w3 l (lgCells d m v5 (.slice a6 T.opn.length c6) (.slice a7 T.cont.length c7) T) 67 := hL2.box.same (hkp7.block l hL2.box.lt (own_notin hL2.cont hL2.box (by decide)))
  have hl4 := hl3.set 7 (.slice ua7 (T.cont.length + x.size) uc7)
  obtain ⟨W4, hW4⟩ : ∃ W4, w3.setCell ⟨l, 7, none⟩ (.slice ua7 (T.cont.length + x.size) uc7) = W4 := ⟨_, rfl⟩
  rw [hW4] at hl4
  have h64 : W4.ownsRow 0 73 1 (.slice a6 T.opn.length c6) T.opn.length (ptrCells T.opn) := own_same hL2.opn (fun q hq => by
    obtain ⟨c, hc⟩ := own_ty hL2.opn hq
    rw [← hW4]
    refine (blk_setCell_other w3 ⟨l, 7, none⟩ _ q (ty_ne hc hL2.box (by decide))).trans ?_
    exact hkp7.block q (Array.getElem?_eq_some_iff.1 hc).1 (own_notin hL2.cont hc (by decide)))
  obtain ⟨ua6, uc6, w5, hrun6, hrow6, hkp6, hblk6, hsz6⟩ := app_ptr h64 (.pointer (some ⟨w.heap.size, 0, none⟩)) rfl (by have := HOP.out; omega) (Nat.zero_le _)
  have hkp6' : Keep (own (.slice a6 T.opn.length c6)) (w3.setCell ⟨l, 7, none⟩ (.slice ua7 (T.cont.length + x.size) uc7)) w5 := by rw [hW4]; exact hkp6
  obtain ⟨hm6, ht6, hl5⟩ := put_mid (v6' := .slice ua6 (T.opn.length + 1) uc6) hL2 ⟨w.heap.size, 0, x⟩ t2 hkp7 hkp6'
  obtain ⟨W6, hW6⟩ : ∃ W6, w5.setCell ⟨l, 6, none⟩ (.slice ua6 (T.opn.length + 1) uc6) = W6 := ⟨_, rfl⟩
  have hl6 := hl5.set 6 (.slice ua6 (T.opn.length + 1) uc6)
  rw [hW6] at hm6 ht6 hl6
  have hm6d : MapAt W6.drew m T.cap T.has := hm6.same rfl
  obtain ⟨W7, hupd0, hmap7, hkp7m, _⟩ := hm6d.store x.key (by have := GS.out; unfold maxLen; omega) HCAP.out (w.heap.size, 0)
  have hupd : (Instr.mapUpdate 63 (.map (some m)) (.string (txt x.key)) (.pointer (some ⟨w.heap.size, 0, none⟩))).run Try.prog W6.drew = .ok () W7 := hupd0
  have k7m : Keep [m] (w5.setCell ⟨l, 6, none⟩ (.slice ua6 (T.opn.length + 1) uc6)) W7 := by
    rw [hW6]
    exact ((Keep.refl [m] W6).drew).trans hkp7m (fun q hq => .inl hq)
  have hw2 := bW.size
  have hb6 : ∀ q ∈ own (.slice ua6 (T.opn.length + 1) uc6), q ∈ own (.slice a6 T.opn.length c6) ∨ w2.heap.size ≤ q := fun q hq => by
    rcases hblk6 q hq with h1 | h1
    · exact .inl h1
    · refine .inr (Nat.le_trans hkp7.size ?_)
      rw [← hW4, nblk_setCell] at h1
      exact h1
  have TT : Hid (∃ v6' v7', LgIn W7 l d m v5 v6' v7' (T.put ⟨w.heap.size, 0, x⟩) ∧ Keep (l :: m :: (own (.slice a6 T.opn.length c6) ++ own (.slice a7 T.cont.length c7))) w W7 ∧ (∀ q ∈ own v6', q ∈ own (.slice a6 T.opn.length c6) ∨ w.heap.size ≤ q) ∧ (∀ q ∈ own v7', q ∈ own (.slice a7 T.cont.length c7) ∨ w.heap.size ≤ q)) := by
    have e7 : (T.cont ++ x.enc).length = T.cont.length + x.size := by rw [List.length_append, x.enc_length]
    obtain ⟨f1, f2⟩ := put_state (v7' := .slice ua7 (T.cont.length + x.size) uc7) (v6' := .slice ua6 (T.opn.length + 1) uc6) hL2 ⟨w.heap.size, 0, x⟩ t2 (by simp only; rw [e7]; exact hrow7) hkp7 hrow6 hkp6' hb6 hmap7 k7m
    refine ⟨_, _, f1, (Keep.of_below bW).trans f2 (fun q hq => .inl hq), fun q hq => ?_, fun q hq => ?_⟩
    · rcases hb6 q hq with h1 | h1
      · exact .inl h1
      · exact .inr (by omega)
    · rcases hblk7 q hq with h1 | h1
      · exact .inl h1
      · exact .inr (by omega)
  have k7 := hL2.box.cell (i := 7) rfl
  have c7c := hl3.cell (i := 7) rfl
  have f7c := hl3.frozen 7
  have c64 : (w3.setCell ⟨l, 7, none⟩ (.slice ua7 (T.cont.length + x.size) uc7)).cell? ⟨l, 6, none⟩ = some (.slice a6 T.opn.length c6) := by rw [hW4]; exact hl4.cell (i := 6) rfl
  have c65 := hl5.cell (i := 6) rfl
  have f65 := hl5.frozen 6
  have g8 : W6.drew.cell? ⟨l, 8, none⟩ = some (.map (some m)) := hl6.cell (i := 8) rfl
  have bx0 : W6.drew.cell? ⟨w.heap.size, 0, none⟩ = some (.string (txt x.key)) := ht6.one.c0
  have HR7 := hide hrun7
  have hrun6' : ∀ ty, (Builtin.append_ #[65, 65] ty #[.slice a6 T.opn.length c6, .slice (some ⟨w3.heap.size, 0, none⟩) 1 1]).run Try.prog ((w3.setCell ⟨l, 7, none⟩ (.slice ua7 (T.cont.length + x.size) uc7)).alloc (.cells #[.pointer (some ⟨w.heap.size, 0, none⟩)] 73)) = .ok (.slice ua6 (T.opn.length + 1) uc6) w5 := by
    have e : w3.heap.size = W4.heap.size := by rw [← hW4, nblk_setCell]
    rw [hW4, e]
    exact hrun6
  have HR6 := hide hrun6'
  have HW6D : Hid ((w5.setCell ⟨l, 6, none⟩ (.slice ua6 (T.opn.length + 1) uc6)).drew = W6.drew) := by show _ = _; rw [hW6]
  have q1 : ¬ (1472 : Int) < (x.size : Int) := by omega
  have q2 : ¬ ((1472 : Int) - (T.cont.length : Int)) < (x.size : Int) := by have := HROOM.out; omega
  have q3 : (T.cont.length : Int) ≤ 1472 := by have := HROOM.out; omega
  clear hrun6 hrun6' hrun7 hrow7 hkp7 hblk7 hl3 hl4 hl5 hl6 hrow6 hkp6 hkp6' hblk6 hsz6 hm6 ht6 hm6d hupd0 hmap7 hkp7m k7m hb6 hw2 bW hL2 t2 hbs hg0 hbuf b2 h64 cP hW4 hW6
  obtain ⟨n7, hn7⟩ : ∃ n7, n7 = T.cont.length := ⟨_, rfl⟩
  rw [← hn7] at k7 c7c c64 HR7 HR6 q2 q3
  clear hn7
  obtain ⟨n6, hn6⟩ : ∃ n6, n6 = T.opn.length := ⟨_, rfl⟩
  rw [← hn6] at c64 c65 HR6 HW6D
  clear hn6
  generalize x.size = xn at *
  generalize txt x.key = kb at *
  go_wp2_with (at_builtin; first
    | refine Lib.wpList_append_run _ rfl _ _ _ _ rfl _ _ rfl rfl _ _ (HR7.out _) ?_
    | refine Lib.wpList_append_run _ rfl _ _ _ _ rfl _ _ rfl rfl _ _ (HR6.out _) ?_)
  refine wp_region_last (by kernel_rfl) (by kernel_rfl) (fun jx => ([.pointer (some ⟨l, 0, none⟩), .pointer (some ⟨l, 0, none⟩), .pointer (some ⟨l, 8, none⟩), .map (some m), .pointer (some ⟨w.heap.size, 0, none⟩), .string kb, undef] : List Value).getD jx undef) 6 (by decide) (by kernel_rfl) (fun w' => w' = W6.drew) (fun w' => w' = W7) (HW6D.out) ?_ ?_
  · intro jx ox hi w' ev hc hin hout hcst hfn
    have hltx : jx < 7 := by
      have := (Array.getElem?_eq_some_iff.1 hi).1
      simpa using this
    match jx, hltx with
    | 0, _ =>
      simp only [List.getElem?_toArray, List.getElem?_cons_zero, List.getElem?_cons_succ, Option.some.injEq] at hi
      subst hi
      have e0 : ev (.tmp 0) = .pointer (some ⟨l, 0, none⟩) := hout 0 (by kernel_rfl) (show (0 : Nat) < 64 by decide)
      rw [if_neg (by decide)]
      refine .inl ⟨w', ?_, hc⟩
      show _ = Result.ok (Next.value (.pointer (some ⟨l, 0, none⟩))) w'
      simp [execOp, e0, hcst, go_sem]
    | 1, _ =>
      simp only [List.getElem?_toArray, List.getElem?_cons_zero, List.getElem?_cons_succ, Option.some.injEq] at hi
      subst hi
      have e0 : ev (.tmp 57) = .pointer (some ⟨l, 0, none⟩) := hin 57 0 ⟨0, .data⟩ (by kernel_rfl) (by simp) rfl rfl (show (57 : Nat) < 64 by decide)
      rw [if_neg (by decide)]
      refine .inl ⟨w', ?_, hc⟩
      show _ = Result.ok (Next.value (.pointer (some ⟨l, 0, none⟩))) w'
      simp [execOp, e0, hcst, go_sem]
    | 2, _ =>
      simp only [List.getElem?_toArray, List.getElem?_cons_zero, List.getElem?_cons_succ, Option.some.injEq] at hi
      subst hi
      have e0 : ev (.tmp 58) = .pointer (some ⟨l, 0, none⟩) := hin 58 1 ⟨1, .data⟩ (by kernel_rfl) (by simp) rfl rfl (show (58 : Nat) < 64 by decide)
      rw [if_neg (by decide)]
      refine .inl ⟨w', ?_, hc⟩
      show _ = Result.ok (Next.value (.pointer (some ⟨l, 8, none⟩))) w'
      simp [execOp, e0, hcst, go_sem]
    | 3, _ =>
      simp only [List.getElem?_toArray, List.getElem?_cons_zero, List.getElem?_cons_succ, Option.some.injEq] at hi
      subst hi
      have e0 : ev (.tmp 59) = .pointer (some ⟨l, 8, none⟩) := hin 59 2 ⟨2, .data⟩ (by kernel_rfl) (by simp) rfl rfl (show (59 : Nat) < 64 by decide)
      rw [if_neg (by decide)]
      refine .inl ⟨w', ?_, hc⟩
      show _ = Result.ok (Next.value (.map (some m))) w'
      subst hc
      simp [execOp, e0, g8, hcst, go_sem]
    | 4, _ =>
      simp only [List.getElem?_toArray, List.getElem?_cons_zero, List.getElem?_cons_succ, Option.some.injEq] at hi
      subst hi
      have e0 : ev (.tmp 3) = .pointer (some ⟨w.heap.size, 0, none⟩) := hout 3 (by kernel_rfl) (show (3 : Nat) < 64 by decide)
      rw [if_neg (by decide)]
      refine .inl ⟨w', ?_, hc⟩
      show _ = Result.ok (Next.value (.pointer (some ⟨w.heap.size, 0, none⟩))) w'
      simp [execOp, e0, hcst, go_sem]
    | 5, _ =>
      simp only [List.getElem?_toArray, List.getElem?_cons_zero, List.getElem?_cons_succ, Option.some.injEq] at hi
      subst hi
      have e0 : ev (.tmp 61) = .pointer (some ⟨w.heap.size, 0, none⟩) := hin 61 4 ⟨4, .data⟩ (by kernel_rfl) (by simp) rfl rfl (show (61 : Nat) < 64 by decide)
      rw [if_neg (by decide)]
      refine .inl ⟨w', ?_, hc⟩
      show _ = Result.ok (Next.value (.string kb)) w'
      subst hc
      simp [execOp, e0, bx0, hcst, go_sem]
    | 6, _ =>
      simp only [List.getElem?_toArray, List.getElem?_cons_zero, List.getElem?_cons_succ, Option.some.injEq] at hi
      subst hi
      have e0 : ev (.tmp 60) = .map (some m) := hin 60 3 ⟨3, .data⟩ (by kernel_rfl) (by simp) rfl rfl (show (60 : Nat) < 64 by decide)
      have e1 : ev (.tmp 62) = .string kb := hin 62 5 ⟨5, .data⟩ (by kernel_rfl) (by simp) rfl rfl (show (62 : Nat) < 64 by decide)
      have e2 : ev (.tmp 3) = .pointer (some ⟨w.heap.size, 0, none⟩) := hout 3 (by kernel_rfl) (show (3 : Nat) < 64 by decide)
      rw [if_pos rfl]
      subst hc
      refine .inr (.inl ⟨rfl, W7, ?_, rfl⟩)
      simp [execOp, e0, e1, e2, hcst, hupd, Result.andThen]
  · intro w9 hc
    simp only [lexF, Act.put, List.setIfInBounds_toArray, List.set_cons_succ, List.set_cons_zero, List.getD_cons_succ, List.getD_cons_zero]
    obtain rfl := hc
    clear hupd g8 bx0 HW6D
    go_wp2
    go_ret2
    exact ⟨rfl, TT.out⟩
end Go.Proofs.Ytbjkahdlejaheab
