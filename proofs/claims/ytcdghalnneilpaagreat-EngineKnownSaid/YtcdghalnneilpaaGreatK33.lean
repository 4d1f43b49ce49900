/- Joined texts. -/
import Derived.RangeFuncWrites
import Derived.Test.YtcdghalnneilpaaGreatK32
set_option linter.unusedVariables false
set_option linter.unusedSimpArgs false
set_option maxRecDepth 8000
set_option maxHeartbeats 8000000
namespace Go.Proofs.YtcdghalnneilpaaGreat
open Go.RowKit Go.Deep Math
theorem enz116 (args : Array Value) (w : World) : (callFunc 116 args).run Tryz.prog w = .ok (.enter 116 args) w := enters_of Tryz.func116 (by kernel_rfl) rfl args w
def intElem : Value -> Option (DataW Unit × List MemPlace)
 | .int .i64 a => some (.lit (.int .i64 a), [])
 | _ => none
theorem intElem_inv {v : Value} {a : Int} {ps : List MemPlace} (h : intElem v = some (.lit (.int .i64 a), ps)) : v = .int .i64 a := by
 unfold intElem at h
 split at h
 ·simp at h
  rw [h.1]
 ·cases h
structure CntIs (D : DataW Unit) (C : List UInt8 -> Nat) : Prop where
 isMap : Maps.IsMap D
 val : ∀ k, D.atKey (strL k) (.lit (.int .i64 0)) = .lit (.int .i64 ((C k : Nat) : Int))
def updC (C : List UInt8 -> Nat) (k : List UInt8) (v : Nat) : List UInt8 -> Nat := fun x => if x = k then v else C x
theorem CntIs.put {D : DataW Unit} {C : List UInt8 -> Nat} (h : CntIs D C) (k : List UInt8) (v : Nat) : CntIs (D.put (strL k) (.lit (.int .i64 (v : Int)))) (updC C k v) := by
 refine ⟨h.isMap.put _ _, fun x => ?_⟩
 by_cases e : x = k
 ·subst e; rw [Maps.atKey_put_same h.isMap (keyLit x)]; simp [updC]
 ·rw [Maps.atKey_put_other (fun e' => e (strL_inj e')), h.val]; simp [updC, e]
theorem CntIs.empty : CntIs (.map []) (fun _ => 0) := ⟨⟨[], rfl⟩, fun _ => rfl⟩
theorem zero3 (w : World) : (zeroValue 3).run Tryz.prog w = .ok (.int .i64 0) w := by go_simp
theorem und163 : Tryz.prog.underlying 163 = some (.map 9 3) := by kernel_rfl
theorem und113 : Tryz.prog.underlying 113 = some (.slice 115) := by kernel_rfl
theorem info115 : (Tryz.prog.info? 115).map (fun i => (i.zero, i.size, i.bytes)) = some (some (.agg #[.int .u64 0, .int .u64 0]), 2, 16) := by kernel_rfl
def CntAt (w : World) (m n : Nat) (C : List UInt8 -> Nat) : Prop := ∃ D : DataW Unit, w.ownsMap Tryz.prog 9 intElem m n D /\ CntIs D C
section
variable {w w' : World} {m n : Nat} {C : List UInt8 -> Nat}
theorem CntAt.same (h : CntAt w m n C) (e : w'.heap[m]? = w.heap[m]?) : CntAt w' m n C := by
 obtain ⟨D, ⟨es, c, h1, h2⟩, h3⟩ := h
 exact ⟨D, ⟨es, c, e.trans h1, h2⟩, h3⟩
theorem CntAt.lt (h : CntAt w m n C) : m < w.heap.size := by
 obtain ⟨D, h1, _⟩ := h
 exact h1.lt
theorem CntAt.new (w : World) : CntAt (w.alloc (.map #[] 0)) w.heap.size 0 (fun _ => 0) := ⟨.map [], World.ownsMap_made w Tryz.prog 9 intElem, CntIs.empty⟩
theorem CntAt.look (h : CntAt w m n C) (k : List UInt8) (hk : k.length <= maxLen) :
  (Instr.lookup 163 (.map (some m)) (.string (txt k)) false).run Tryz.prog w = .ok (.int .i64 ((C k : Nat) : Int)) w := by
 obtain ⟨D, hD, hM⟩ := h
 obtain ⟨x, ps, hrun, hx⟩ := hD.lookup (t := 163) keyed9 und163 (zero3 w) (show intElem (.int .i64 0) = some (.lit (.int .i64 0), []) from rfl) (key9 k hk)
 rw [hM.val k] at hx
 rw [intElem_inv hx] at hrun
 exact hrun
theorem CntAt.store (h : CntAt w m n C) (k : List UInt8) (hk : k.length <= maxLen) (hn : n < 1000000) (v : Nat) :
  ∃ w', (Instr.mapUpdate 163 (.map (some m)) (.string (txt k)) (.int .i64 (v : Int))).run Tryz.prog w = .ok () w' /\ CntAt w' m (n + 1) (updC C k v) /\ Keep [m] w w' /\ w'.heap.size = w.heap.size := by
 obtain ⟨D, hD, hM⟩ := h
 obtain ⟨w', hrun, ho, ht⟩ := hD.store (t := 163) keyed9 und163 (Nat.lt_trans hn (by decide)) (key9 k hk) (show intElem (.int .i64 (v : Int)) = some (.lit (.int .i64 (v : Int)), []) from rfl)
 refine ⟨w', hrun, ⟨_, ho, hM.put k v⟩, (Keep.refl [m] w).grown ht.grown (fun x hx => .inl (by cases hx; simp)), ?_⟩
 obtain ⟨es, c, es', c', _, rfl⟩ := ht
 simp [ChangeMaps.setBlock]
end
def mkCs (ms : List Mk) : List Value := ms.flatMap (fun x => [.int .u64 (x.1 : Int), .int .u64 (x.2 : Int)])
def MRow (w : World) (base : Nat) (v : Value) (ms : List Mk) : Prop := w.ownsRow base 115 2 v ms.length (mkCs ms)
theorem MRow.keep {w w' : World} {base : Nat} {v : Value} {ms : List Mk} (h : MRow w base v ms) (k : ∀ q, v.ownBlock = some q -> w'.heap[q]? = w.heap[q]?) : MRow w' base v ms := own_same h k
theorem MRow.lt {w : World} {base : Nat} {v : Value} {ms : List Mk} (h : MRow w base v ms) : ∀ q, v.ownBlock = some q -> base <= q /\ q < w.heap.size := fun q hq => by
 obtain ⟨c, hc⟩ := own_ty h hq
 exact ⟨own_base h q (mem_own.2 hq), (Array.getElem?_eq_some_iff.1 hc).1⟩
theorem MRow.mono {w : World} {base base' : Nat} {v : Value} {ms : List Mk} (h : MRow w base v ms) (hb : base' <= base) : MRow w base' v ms := by
 refine ⟨h.1, ?_⟩
 rcases h.2 with h2 | ⟨g, cap, cur, hv, hg, r⟩
 ·exact .inl h2
 ·exact .inr ⟨g, cap, cur, hv, Nat.le_trans hb hg, r⟩
theorem app_mk {w : World} {base : Nat} {v : Value} {ms : List Mk} (h : MRow w base v ms) (x : Mk) (hn : ms.length + 1 <= 1048576) (hb : base <= w.heap.size) :
  ∃ va vc w', (∀ ty, (Builtin.append_ #[113, 113] ty #[v, .slice (some ⟨w.heap.size, 0, none⟩) 1 1]).run Tryz.prog (w.alloc (.cells #[.int .u64 (x.1 : Int), .int .u64 (x.2 : Int)] 115)) = .ok (.slice va (ms.length + 1) vc) w') /\
   MRow w' base (.slice va (ms.length + 1) vc) (ms ++ [x]) /\ Keep (own v) w w' /\ (∀ q ∈ own (.slice va (ms.length + 1) vc), q ∈ own v \/ w.heap.size <= q) /\ w.heap.size < w'.heap.size := by
 obtain ⟨i0, hi0, hp0⟩ := Option.map_eq_some_iff.1 info115
 simp only [Prod.mk.injEq] at hp0
 obtain ⟨va, vc, w', h1, h2, h3, h4⟩ := app_gen und113 hi0 hp0.1 hp0.2.1 hp0.2.2 rfl (by decide) h [.int .u64 (x.1 : Int), .int .u64 (x.2 : Int)] rfl (by simp; exact ⟨rfl, rfl⟩) hn (by decide) hb
 refine ⟨va, vc, w', h1, ?_, h3, h4⟩
 unfold MRow
 rw [List.length_append, show mkCs (ms ++ [x]) = mkCs ms ++ [.int .u64 (x.1 : Int), .int .u64 (x.2 : Int)] by simp [mkCs]]
 exact h2
structure KeysAt (w : World) (a : Option Addr) (ks : List (List UInt8)) : Prop where
 fits : ∀ k ∈ ks, k.length <= 140737488351232
 cell : ∀ i k, ks[i]? = some k -> ∃ b o, a = some ⟨b, o, none⟩ /\ b < w.heap.size /\ w.cell? ⟨b, o + i, none⟩ = some (.string (txt k))
theorem KeysAt.below {w w' : World} {a : Option Addr} {ks : List (List UInt8)} (h : KeysAt w a ks) {B : Nat} (hB : B = w.heap.size) (b : Below B w w') : KeysAt w' a ks := ⟨h.fits, fun i k hk => by
 subst hB
 obtain ⟨q, o, ha, hq, hc⟩ := h.cell i k hk
 exact ⟨q, o, ha, Nat.lt_of_lt_of_le hq b.size, (b.cell (p := ⟨q, o + i, none⟩) hq).trans hc⟩⟩
def cntK (ks : List (List UInt8)) (i : Nat) (k : List UInt8) : Nat := ((ks.take i).filter (fun z => decide (z = k))).length
theorem cntK_succ {ks : List (List UInt8)} {i : Nat} {k : List UInt8} (hk : ks[i]? = some k) : cntK ks (i + 1) = updC (cntK ks i) k (cntK ks i k + 1) := by
 funext x
 unfold cntK updC
 rw [List.take_add_one, hk]
 by_cases e : x = k
 ·subst e; simp
 ·simp [e, Ne.symm e]
theorem cntK_le (ks : List (List UInt8)) (i : Nat) (k : List UInt8) : cntK ks i k <= i := by
 unfold cntK
 have h1 := List.length_filter_le (fun z => decide (z = k)) (ks.take i)
 rw [List.length_take] at h1
 omega
def mksTo (may : List UInt8 -> Bool) (last : Nat) (ks : List (List UInt8)) : Nat -> List Mk
 | 0 => []
 | i + 1 => mksTo may last ks i ++ (match ks[i]? with
  | some k => if cntK ks i k = 0 /\ may k = true then [(hsh k, last)] else []
  | none => [])
theorem mksTo_len (may : List UInt8 -> Bool) (last : Nat) (ks : List (List UInt8)) : ∀ i, (mksTo may last ks i).length <= i
 | 0 => Nat.le_refl _
 | i + 1 => by
  have := mksTo_len may last ks i
  unfold mksTo
  rw [List.length_append]
  split
  ·split <;> simp <;> omega
  ·simp; omega
def MkC (W0 W1 W2 : World) (s : Nat) (W : World) : Prop := if s = 0 then W = W0.drew else if s = 1 then W = W1 else W = W2
section
variable {w0 w : World} {x d : Nat} {E : En} {j m nj : Nat} {J : Jr} {s first n : Nat} {S : Dv} {f : Nat -> List It} {bs : List (List Bool)} {G : List Nat} {l ml : Nat} {v5 v6 v7 : Value} {T : Lg}
theorem mayE_any (h : EnAt w0 w x d E j m nj J s first n S f bs G l ml v5 v6 v7 T) (key : List UInt8) (hk2 : key.length <= 140737488351232) :
  Calls Tryz.prog 32 #[.pointer (some ⟨x, 0, none⟩), .string (txt key)] w fun e w' => e = .returned (.bool (mayK ((bs[bkt key n]?).getD []) key || (T.has key).isSome)) /\ Below w.heap.size w w' := by
 obtain ⟨F, M, hu, _⟩ := h.bu
 have hb := bkt_lt key n hu.n1
 obtain ⟨lb, hlb⟩ : ∃ lb, bs[bkt key n]? = some lb := ⟨_, List.getElem?_eq_getElem (by rw [<- hu.bits, List.length_map, hu.len]; exact hb)⟩
 have := may_any h.box h.bu h.lg key (Nat.le_trans hk2 (by decide)) hk2 lb hlb
 rw [hlb]
 exact this
def mayF (bs : List (List Bool)) (n : Nat) (T : Lg) (key : List UInt8) : Bool := mayK ((bs[bkt key n]?).getD []) key || (T.has key).isSome
theorem marks_en (h : EnAt w0 w x d E j m nj J s first n S f bs G l ml v5 v6 v7 T) (a : Option Addr) (kn kc : Nat) (ks : List (List UInt8)) (hks : KeysAt w a ks) (hkn : kn = ks.length) (hkc : kn <= kc) (hmax : kn <= 40000) :
  Calls Tryz.prog 56 #[.pointer (some ⟨x, 0, none⟩), .slice a kn kc] w fun e w' => ∃ va vn vc, e = .returned (.slice va vn vc) /\ MRow w' w.heap.size (.slice va vn vc) (mksTo (mayF bs n T) E.last ks kn) /\ Below w.heap.size w w' := by
 have hmk := run_makeMap (P := Tryz.prog) 163 w
 have B1 : Below w.heap.size w (w.alloc (.map #[] 0)) := (Below.refl _ _).alloc (Nat.le_refl _) _
 have HB1 := hide B1
 have C1 := hide (CntAt.new w)
 have HN1 : Hid ((w.alloc (.map #[] 0)).heap.size = w.heap.size + 1) := nblk_alloc _ _
 have HE := hide h
 have HKS := hide hks
 have HKN := hide hkn
 clear h hks hkn B1
 go_enter Tryz.func56, Tryz.ntmps56
 go_wp2_with fail
 clear hmk
 obtain ⟨N0, hN0⟩ : ∃ N0, w.heap.size = N0 := ⟨_, rfl⟩
 obtain ⟨w1, hw1⟩ : ∃ w1, w.alloc (.map #[] 0) = w1 := ⟨_, rfl⟩
 simp only [hN0, hw1] at C1 HB1 HN1 ⊢
 go_loopg [5, 12] kn (fun kx s5 s12 wr => ∃ (i : Nat) (va : Option Addr) (vn vc : Nat), s5 = .slice va vn vc /\ s12 = .int .i64 i /\ i <= kn /\ kn - i <= kx /\ Hid (MRow wr (N0 + 1) (.slice va vn vc) (mksTo (mayF bs n T) E.last ks i) /\ CntAt wr N0 i (cntK ks i) /\ Below N0 w wr))
 case atStart => exact ⟨0, none, 0, 0, rfl, rfl, Nat.zero_le _, by omega, World.ownsRow_nil _ _ _ _, C1.out, HB1.out⟩
 case round =>
  obtain ⟨i, va, vn, vc, rfl, rfl, hin, hg, I⟩ := hrel
  by_cases hlt : i < kn
  ·have hlt2 : (i : Int) < (kn : Int) := by omega
   obtain ⟨k, hk⟩ : ∃ k, ks[i]? = some k := ⟨_, List.getElem?_eq_getElem (by rw [<- HKN.out]; exact hlt)⟩
   obtain ⟨hRi, hCi, hBi⟩ := I.out
   have hKw := HKS.out.below hN0.symm hBi
   have hkl := HKS.out.fits k (List.mem_of_getElem? hk)
   obtain ⟨b, o, rfl, hbl, hkc2⟩ := hKw.cell i k hk
   have hlk := hCi.look k (Nat.le_trans hkl (by decide))
   obtain ⟨w3, hst, hC3, hk3, hs3⟩ := hCi.store k (Nat.le_trans hkl (by decide)) (by omega) (cntK ks i k + 1)
   have hlk3 := hC3.look k (Nat.le_trans hkl (by decide))
   have hup : updC (cntK ks i) k (cntK ks i k + 1) k = cntK ks i k + 1 := by simp [updC]
   rw [hup] at hlk3
   rw [<- cntK_succ hk] at hC3
   have hc0 : cntK ks i k <= 40000 := Nat.le_trans (cntK_le ks i k) (by omega)
   have hNl := hCi.lt
   have hB3 : Below N0 w w3 := hBi.trans (hk3.below (fun q hq => by rw [List.mem_singleton.1 hq]; exact Nat.le_refl _) (by omega))
   have hR3 : MRow w3 (N0 + 1) (.slice va vn vc) (mksTo (mayF bs n T) E.last ks i) := hRi.keep (fun q hq => hk3.block q (hRi.lt q hq).2 (by have := (hRi.lt q hq).1; simp only [List.mem_singleton]; omega))
   have hE3 := HE.out.below (w' := w3) (by rw [hN0]; exact hB3)
   have cM := hide (mayE_any hE3 k hkl)
   have EM : Hid (mksTo (mayF bs n T) E.last ks (i + 1) = mksTo (mayF bs n T) E.last ks i ++ (if cntK ks i k = 0 /\ mayF bs n T k = true then [(hsh k, E.last)] else [])) := by
    show mksTo _ _ _ (i + 1) = _
    rw [mksTo, hk]
   have HH3 := hide (And.intro hR3 (And.intro hC3 (And.intro hB3 (And.intro hE3 hkl))))
   have HLEN := hide (mksTo_len (mayF bs n T) E.last ks i)
   have EF : Hid (mayF bs n T k = (mayK ((bs[bkt k n]?).getD []) k || (T.has k).isSome)) := rfl
   generalize (mayK ((bs[bkt k n]?).getD []) k || (T.has k).isSome) = mb at *
   generalize cntK ks i k = c0 at *
   clear hRi hCi hBi hKw hk hC3 hk3 hs3 hup hB3 hR3 hE3
   by_cases hz : c0 = 0
   ·subst hz
    have hst' : (Instr.mapUpdate 163 (.map (some N0)) (.string (txt k)) (.int .i64 1)).run Tryz.prog wr = .ok () w3 := hst
    have hlk3' : (Instr.lookup 163 (.map (some N0)) (.string (txt k)) false).run Tryz.prog w3 = .ok (.int .i64 1) w3 := hlk3
    clear hst hlk3
    go_wp2_with fail
    refine cM.out.mono ?_
    rintro e w4 ⟨rfl, b4⟩
    have hN4 : N0 < w3.heap.size := HH3.out.2.1.lt
    have hR4 : MRow w4 (N0 + 1) (.slice va vn vc) (mksTo (mayF bs n T) E.last ks i) := HH3.out.1.keep (fun q hq => b4.block q (HH3.out.1.lt q hq).2)
    have hC4 : CntAt w4 N0 (i + 1) (cntK ks (i + 1)) := HH3.out.2.1.same (b4.block _ hN4)
    have hB4 : Below N0 w w4 := HH3.out.2.2.1.trans (b4.mono (by omega))
    have hE4 := HH3.out.2.2.2.1.below b4
    have hkl := HH3.out.2.2.2.2
    cases mb with
    | false =>
     have TT : Hid (MRow w4 (N0 + 1) (.slice va vn vc) (mksTo (mayF bs n T) E.last ks (i + 1)) /\ CntAt w4 N0 (i + 1) (cntK ks (i + 1)) /\ Below N0 w w4) := ⟨by rw [EM.out, EF.out]; simpa using hR4, hC4, hB4⟩
     clear hR4 hC4 hB4 hE4 b4 HH3 EM EF hlk hlk3' hst'
     go_wp2
     go_roundg (kn - (i + 1))
     case measure => omega
     case rel => exact ⟨i + 1, va, vn, vc, rfl, rfl, by omega, by omega, TT.out⟩
    | true =>
     have hRd : MRow w4.drew (N0 + 1) (.slice va vn vc) (mksTo (mayF bs n T) E.last ks i) := hR4.keep (fun _ _ => rfl)
     have hs4 : w4.drew.heap.size = w4.heap.size := rfl
     have hw4s := b4.size
     obtain ⟨ua, uc, W7, hrun, hrow, hkp, hblk, hsz7⟩ := app_mk hRd (hsh k, E.last) (by have := HLEN.out; omega) (by omega)
     have TT : Hid (MRow W7 (N0 + 1) (.slice ua ((mksTo (mayF bs n T) E.last ks i).length + 1) uc) (mksTo (mayF bs n T) E.last ks (i + 1)) /\ CntAt W7 N0 (i + 1) (cntK ks (i + 1)) /\ Below N0 w W7) := by
      have hown : ∀ q ∈ own (.slice va vn vc), N0 + 1 <= q := fun q hq => (hR4.lt q (mem_own.1 hq)).1
      refine ⟨by rw [EM.out, EF.out]; simpa using hrow, hC4.same ((hkp.block N0 (by omega) (fun ho => by have := hown _ ho; omega)).trans rfl), (hB4.drew).trans (hkp.below (fun q hq => by have := hown q hq; omega) (by omega))⟩
     have cH : Hid (∀ V : World, Calls Tryz.prog 116 #[.string (txt k)] V fun e w' => e = .returned (.int .u64 ((hsh k : Nat) : Int)) /\ w' = V) := fun V => by
      have hh := Bl.hashK_range (txt k)
      have := Bl.hash_any (txt k) V (by rw [txt_size]; exact Nat.le_trans hkl (by decide))
      have e : ((hsh k : Nat) : Int) = Bl.hashK (txt k) := by unfold hsh; omega
      rw [e]
      exact this
     have hC9 := hE4.box.cell (i := 9) rfl
     have HC9 : Hid (∀ sx w', MkC w4 (w4.drew.alloc (.cells #[.int .u64 ((hsh k : Nat) : Int), .int .u64 ((E.last : Nat) : Int)] 115)) W7 sx w' -> sx <= 0 -> w'.cell? ⟨x, 9, none⟩ = some (.int .u64 ((E.last : Nat) : Int))) := fun sx w' hc hs => by
      obtain rfl : sx = 0 := by omega
      cases (show w' = w4.drew from hc)
      exact hC9
     have cA : Hid (∀ w', MkC w4 (w4.drew.alloc (.cells #[.int .u64 ((hsh k : Nat) : Int), .int .u64 ((E.last : Nat) : Int)] 115)) W7 0 w' -> MkC w4 (w4.drew.alloc (.cells #[.int .u64 ((hsh k : Nat) : Int), .int .u64 ((E.last : Nat) : Int)] 115)) W7 1 (w'.alloc (.cells #[.int .u64 ((hsh k : Nat) : Int), .int .u64 ((E.last : Nat) : Int)] 115)) /\ w'.heap.size = w4.heap.size) := fun w' hc => by
      cases (show w' = w4.drew from hc)
      exact ⟨rfl, rfl⟩
     have cB : Hid (∀ w', MkC w4 (w4.drew.alloc (.cells #[.int .u64 ((hsh k : Nat) : Int), .int .u64 ((E.last : Nat) : Int)] 115)) W7 1 w' -> MkC w4 (w4.drew.alloc (.cells #[.int .u64 ((hsh k : Nat) : Int), .int .u64 ((E.last : Nat) : Int)] 115)) W7 2 W7 /\ (Builtin.append_ #[113, 113] 113 #[.slice va vn vc, .slice (some ⟨w4.heap.size, 0, none⟩) 1 1]).run Tryz.prog w' = .ok (.slice ua ((mksTo (mayF bs n T) E.last ks i).length + 1) uc) W7) := fun w' hc => by
      cases (show w' = w4.drew.alloc (.cells #[.int .u64 ((hsh k : Nat) : Int), .int .u64 ((E.last : Nat) : Int)] 115) from hc)
      exact ⟨rfl, hrun 113⟩
     clear hrun hrow hkp hblk hRd hR4 hC4 hB4 hE4 b4 HH3 EM EF hlk hlk3' hst' hC9
     generalize (mksTo (mayF bs n T) E.last ks i).length + 1 = un at *
     obtain ⟨W6a, hW6a⟩ : ∃ W6a, w4.drew.alloc (.cells #[.int .u64 ((hsh k : Nat) : Int), .int .u64 ((E.last : Nat) : Int)] 115) = W6a := ⟨_, rfl⟩
     rw [hW6a] at HC9 cA cB
     generalize hsh k = hk0 at *
     generalize E.last = la at *
     obtain ⟨N6, hN6⟩ : ∃ N6, w4.heap.size = N6 := ⟨_, rfl⟩
     rw [hN6] at cA cB
     clear hW6a
     go_wp2_with fail
     refine wp_region_chainp (by kernel_rfl) (by kernel_rfl) (fun jx => ([.slice va vn vc, .string (txt k), .int .u64 (hk0 : Int), .pointer (some ⟨x, 0, none⟩), .pointer (some ⟨x, 0, none⟩), .pointer (some ⟨x, 9, none⟩), .int .u64 (la : Int), .agg #[.int .u64 (hk0 : Int), .int .u64 (la : Int)], .slice (some ⟨N6, 0, none⟩) 1 1, .slice ua un uc, .slice ua un uc] : List Value).getD jx undef) [8, 9] (by kernel_rfl) (MkC w4 W6a W7) (rfl) ?_ ?_
     ·intro jx ox hi sx w' ev hlm hks hc hin hout hpre hcst hfn
      have hltx : jx < 11 := by
       have := (Array.getElem?_eq_some_iff.1 hi).1
       simpa using this
      match jx, hltx with
      | 0, _ =>
       cases hi
       have e0 : ev (.tmp 5) = .slice va vn vc := hpre 5 10 (by kernel_rfl) (by kernel_rfl) (show (5 : Nat) < 41 by decide)
       rw [if_neg (by decide)]
       refine .inl ⟨w', ?_, hc⟩
       simp [execOp, e0, hcst, go_sem]
      | 1, _ =>
       cases hi
       have e0 : ev (.tmp 8) = .string (txt k) := hout 8
       rw [if_neg (by decide)]
       refine .inl ⟨w', ?_, hc⟩
       simp [execOp, e0, hcst, go_sem]
      | 2, _ =>
       cases hi
       have e0 : ev (.tmp 30) = .string (txt k) := hin 30 1 ⟨1, .data⟩
       rw [if_neg (by decide)]
       refine .inr (.inr ⟨116, #[.string (txt k)], ?_, ?_⟩)
       ·have ef := hfn 116
        simp [execOp, resolve, invoke, ef, hcst, e0, Result.andThen]
        exact enz116 _ _
       ·have hl2 : sx <= 0 := Nat.le_trans hlm (Nat.le_of_eq (by kernel_rfl))
        refine (cH.out w').mono ?_
        rintro e W' ⟨rfl, rfl⟩
        exact ⟨rfl, hc⟩
      | 3, _ =>
       cases hi
       have e0 : ev (.tmp 0) = .pointer (some ⟨x, 0, none⟩) := hout 0
       rw [if_neg (by decide)]
       refine .inl ⟨w', ?_, hc⟩
       simp [execOp, e0, hcst, go_sem]
      | 4, _ =>
       cases hi
       have e0 : ev (.tmp 32) = .pointer (some ⟨x, 0, none⟩) := hin 32 3 ⟨3, .data⟩
       rw [if_neg (by decide)]
       refine .inl ⟨w', ?_, hc⟩
       simp [execOp, e0, hcst, go_sem]
      | 5, _ =>
       cases hi
       have e0 : ev (.tmp 33) = .pointer (some ⟨x, 0, none⟩) := hin 33 4 ⟨4, .data⟩
       rw [if_neg (by decide)]
       refine .inl ⟨w', ?_, hc⟩
       simp [execOp, e0, hcst, go_sem]
      | 6, _ =>
       cases hi
       have e0 : ev (.tmp 34) = .pointer (some ⟨x, 9, none⟩) := hin 34 5 ⟨5, .data⟩
       rw [if_neg (by decide)]
       have hl2 : sx <= 0 := Nat.le_trans hlm (Nat.le_of_eq (by kernel_rfl))
       refine .inl ⟨w', ?_, hc⟩
       show _ = Result.ok (Next.value (.int .u64 (la : Int))) w'
       have hq : w'.cell? ⟨x, 9, none⟩ = some (.int .u64 (la : Int)) := HC9.out sx w' hc (by omega)
       simp [execOp, e0, hcst, hq, go_sem]
      | 7, _ =>
       cases hi
       have e0 : ev (.tmp 31) = .int .u64 (hk0 : Int) := hin 31 2 ⟨2, .data⟩
       have e1 : ev (.tmp 35) = .int .u64 (la : Int) := hin 35 6 ⟨6, .data⟩
       rw [if_neg (by decide)]
       refine .inl ⟨w', ?_, hc⟩
       simp [execOp, e0, e1, hcst, go_sem]
      | 8, _ =>
       cases hi
       have e0 : ev (.tmp 36) = .agg #[.int .u64 (hk0 : Int), .int .u64 (la : Int)] := hin 36 7 ⟨7, .data⟩
       rw [if_pos (by decide)]
       have hsx : sx = 0 := hks 0 rfl
       subst hsx
       have q := cA.out w' hc
       refine .inl ⟨_, ?_, q.1⟩
       have hsz := q.2
       simp [execOp, e0, hcst, go_sem, hsz]
      | 9, _ =>
       cases hi
       have e0 : ev (.tmp 29) = .slice va vn vc := hin 29 0 ⟨0, .data⟩
       have e1 : ev (.tmp 37) = .slice (some ⟨N6, 0, none⟩) 1 1 := hin 37 8 ⟨8, .data⟩
       rw [if_pos (by decide)]
       have hsx : sx = 1 := hks 1 rfl
       subst hsx
       have q := cB.out w' hc
       refine .inl ⟨_, ?_, q.1⟩
       have hrn := q.2
       simp [execOp, e0, e1, hcst, resolve, invoke, builtin, Result.andThen, hrn]
      | 10, _ =>
       cases hi
       have e0 : ev (.tmp 38) = .slice ua un uc := hin 38 9 ⟨9, .data⟩
       rw [if_neg (by decide)]
       refine .inl ⟨w', ?_, hc⟩
       simp [execOp, e0, hcst, go_sem]
     ·intro w9 hc
      simp only [lexF, Act.put, List.setIfInBounds_toArray, List.set_cons_succ, List.set_cons_zero, List.getD_cons_succ, List.getD_cons_zero]
      obtain rfl : w9 = W7 := hc
      go_wp2
      go_roundg (kn - (i + 1))
      case measure => omega
      case rel => exact ⟨i + 1, ua, un, uc, rfl, rfl, by omega, by omega, TT.out⟩
   ·have hst' : (Instr.mapUpdate 163 (.map (some N0)) (.string (txt k)) (.int .i64 ((c0 : Int) + 1))).run Tryz.prog wr = .ok () w3 := hst
    have hlk3' : (Instr.lookup 163 (.map (some N0)) (.string (txt k)) false).run Tryz.prog w3 = .ok (.int .i64 ((c0 : Int) + 1)) w3 := hlk3
    have hne : ((c0 : Int) + 1 == 1) = false := by simp; omega
    have hne2 : ¬ (c0 : Int) + 1 = 1 := by omega
    have hne3 : ¬ c0 = 0 := hz
    have TT : Hid (MRow w3 (N0 + 1) (.slice va vn vc) (mksTo (mayF bs n T) E.last ks (i + 1)) /\ CntAt w3 N0 (i + 1) (cntK ks (i + 1)) /\ Below N0 w w3) := ⟨by rw [EM.out]; simpa [hz] using HH3.out.1, HH3.out.2.1, HH3.out.2.2.1⟩
    clear hst hlk3 HH3 EM EF cM
    go_wp2
    go_roundg (kn - (i + 1))
    case measure => omega
    case rel => exact ⟨i + 1, va, vn, vc, rfl, rfl, by omega, by omega, TT.out⟩
  ·obtain rfl : i = kn := by omega
   have hlt2 : ¬ (i : Int) < (i : Int) := by omega
   have II := hide I.out
   go_wp2
   go_ret
   exact ⟨va, vn, vc, rfl, II.out.1.mono (by omega), II.out.2.2⟩
end
section
variable {w0 w w' : World} {x d : Nat} {E : En} {j m nj : Nat} {J : Jr} {s first n : Nat} {S S' : Dv} {f : Nat -> List It} {bs : List (List Bool)} {F F' G : List Nat} {M : SM} {l ml : Nat} {v5 v6 v7 : Value} {T : Lg}
theorem bu_turn (h : BuIn w0 w d F S s first n M f bs) (hd : DvAt w' d F' S') {xs : List Nat} (hk : Keep (xs ++ F) w w') (hxs : ∀ y ∈ xs, y ∉ M.foot s /\ w0.heap.size <= y) (hfoot : ∀ k ∈ F', k ∈ F \/ w.heap.size <= k) (hS : Sure S') (hlo : S'.losses = S.losses) (hle : S'.cs.length = S.cs.length) (hit : ∀ k, k < n -> S'.its (first + k) = S.its (first + k)) : BuIn w0 w' d F' S' s first n M f bs := by
 have hbel := h.bk.law.bel
 have hst : StIn w' s d S.losses first M := h.bk.st.same (fun q hq => hk.block q (h.bk.st.lt q hq) (fun hm => by
  rcases List.mem_append.1 hm with h1 | h1
  ·exact (hxs q h1).1 hq
  ·exact h.bk.off q hq h1))
 refine ⟨⟨⟨hd, fun k hkF => ?_, ?_⟩, ?_, h.bk.new, fun q hqM hqF => ?_⟩, hS, h.len, h.n1, h.n2, by rw [hle]; exact h.fit, fun k hkn => ?_, h.bits, h.told⟩
 ·rcases hfoot k hkF with h1 | h1
  ·exact h.bk.law.low k h1
  ·exact Nat.le_trans hbel.size h1
 ·exact hbel.trans (hk.below (fun k hkx => by
   rcases List.mem_append.1 hkx with h1 | h1
   ·exact (hxs k h1).2
   ·exact h.bk.law.low k h1) hbel.size)
 ·rw [hlo]; exact hst
 ·rcases hfoot q hqF with h1 | h1
  ·exact h.bk.off q hqM h1
  ·have := h.bk.st.lt q hqM; omega
 ·rw [hit k hkn]; exact h.its k hkn
theorem add_calm (hS : Sure S) (q : Nat) (hq : q < S.cs.length) (pg : ByteArray) (hp : pg.size <= 384) :
  addEr S q pg = 0 /\ (addDv S q pg).cs = (putAt S.cs q (.whole pg)).map Cl.flush /\ Sure (addDv S q pg) /\ (addDv S q pg).losses = S.losses /\ ∀ (J : Jr) (xs : List Mk), addJr J S q pg xs = ({ J with used := J.used + 1 } : Jr).keeps xs := by
 obtain ⟨e1, e2⟩ := sure_write hS q hq pg hp
 have hS2 : Sure (S.writeDo (q : Int) pg) := by rw [e2]; exact ⟨hS.off, hS.armed⟩
 obtain ⟨f1, f2, f3, f4⟩ := flush_calm hS2.calm
 have n1 : ¬ S.writeErr (q : Int) pg ≠ 0 := by simp [e1]
 have n2 : ¬ (S.writeDo (q : Int) pg).flushErr ≠ 0 := by simp [f1]
 have eD : addDv S q pg = (S.writeDo (q : Int) pg).flushDo := by unfold addDv; rw [if_neg n1]
 refine ⟨by unfold addEr; rw [if_neg n1, f1], ?_, ?_, ?_, fun J xs => by unfold addJr; rw [if_neg n1, if_neg n2]⟩
 ·rw [eD, f2, e2]
 ·rw [eD]; exact ⟨f3.off, f3.armed⟩
 ·rw [eD, f4, e2]
theorem add_en (h : EnAt w0 w x d E j m nj J s first n S f bs G l ml v5 v6 v7 T) (jf jp u : Nat) (ho : J.ok S jf jp u) (hu : u < jp) (hfp : jf + jp <= first) (hgen : J.gen < 18446744073709551616) (a : Option Addr) (len cap : Nat) (xs : List Mk) (h1 : 1 <= len) (h23 : len <= 23) (hl : S.losses = J.losses) (hn : nj < 900000) (hx : MksAt w a len xs) (hoff : ∀ b o, a = some ⟨b, o, none⟩ -> b ∉ G /\ b ≠ j /\ b ≠ m) (hpg : (pgOf J.gen xs).size <= 384) :
  Calls Tryz.prog 57 #[.pointer (some ⟨j, 0, none⟩), .slice a len cap] w fun e w' => e = .returned (.int .i64 0) /\ ∃ S' G' n', EnAt w0 w' x d E j m n' (({ J with used := J.used + 1 } : Jr).keeps xs) s first n S' f bs G' l ml v5 v6 v7 T /\ n' <= nj + len /\ S'.cs = (putAt S.cs (jf + u) (.whole (pgOf J.gen xs))).map Cl.flush /\ S'.losses = S.losses /\ Keep (j :: m :: G) w w' /\ ∀ k ∈ G', k ∈ G \/ w.heap.size <= k := by
 obtain ⟨F, M, hu0, hG⟩ := h.bu
 have inF : ∀ q, q ∈ F -> q ∈ G := fun q hF => by rw [hG]; exact List.mem_append.2 (.inl hF)
 have inM : ∀ q, q ∈ M.foot s -> q ∈ G := fun q hM => by rw [hG]; exact List.mem_append.2 (.inr hM)
 have hfit := ho.fits
 obtain ⟨t1, t2, t3, t4, t5⟩ := add_calm hu0.sure (jf + u) (by omega) (pgOf J.gen xs) hpg
 refine (add_go j d m nj F J S jf jp u ho hu hgen a len cap xs h1 h23 hl hn w ⟨hx, fun b o e => ⟨fun hF => (hoff b o e).1 (inF b hF), (hoff b o e).2⟩⟩ ⟨h.jr, hu0.bk.law.dev, fun hF => h.jG (inF j hF), fun hF => h.mG (inF m hF)⟩).mono ?_
 rintro e w' ⟨rfl, F', n', hJ, hk, hfo, hn'⟩
 rw [t5] at hJ
 have hfG : ∀ k ∈ F' ++ M.foot s, k ∈ G \/ w.heap.size <= k := fun k hk2 => by
  rcases List.mem_append.1 hk2 with h1 | h1
  ·rcases hfo k h1 with h3 | h3
   ·exact .inl (inF k h3)
   ·exact .inr h3
  ·exact .inl (inM k h1)
 have far : ∀ q, q < w.heap.size -> q ∉ G -> q ∉ F' ++ M.foot s := fun q hq hg hg' => by
  rcases hfG q hg' with h1 | h1
  ·exact hg h1
  ·omega
 have hu' := bu_turn hu0 hJ.dev (xs := [j, m]) hk (fun y hy => by
  simp only [List.mem_cons, List.not_mem_nil, or_false] at hy
  rcases hy with rfl | rfl
  ·exact ⟨fun hM => h.jG (inM _ hM), h.low _ (.inr (.inl rfl))⟩
  ·exact ⟨fun hM => h.mG (inM _ hM), h.low _ (.inr (.inr (.inl rfl)))⟩) hfo t3 t4 (by rw [t2, List.length_map, putAt_length]) (fun k hkn => by
   have q : ∀ A : Dv, A.its (first + k) = (((A.cs[first + k]?).map (·.now)).map Pg.its).getD [] := fun A => by
    unfold Dv.its
    cases A.cs[first + k]? <;> rfl
   rw [q, q, t2, flush_get, putAt_get, if_neg (by omega)])
 have nin : ∀ q, q ≠ j -> q ≠ m -> q ∉ G -> q ∉ j :: m :: F := fun q h1 h2 h3 h4 => by
  simp only [List.mem_cons] at h4
  rcases h4 with h4 | h4 | h4
  ·exact h1 h4
  ·exact h2 h4
  ·exact h3 (inF q h4)
 refine ⟨by rw [t1], _, F' ++ M.foot s, n', ⟨h.box.same (hk.block _ h.box.lt (nin x h.xj h.xm h.xG)), hJ.jr, ⟨F', M, hu', rfl⟩, h.lg.same (fun q hq => hk.block q (h.lg.lt q hq) (nin q (fun e => h.jL (e ▸ hq)) (fun e => h.mL (e ▸ hq)) (h.lG q hq))), far x h.box.lt h.xG, far j h.jr.blk.lt h.jG, far m h.jr.mlt h.mG, fun q hq => far q (h.lg.lt q hq) (h.lG q hq), h.low, h.xL, h.jL, h.mL, h.xm⟩, hn', t2, t4, hk.mono (fun y hy => .inl ?_), hfG⟩
 simp only [List.mem_cons] at hy ⊢
 rcases hy with h1 | h1 | h1
 ·exact .inl h1
 ·exact .inr (.inl h1)
 ·exact .inr (.inr (inF y h1))
theorem MRow.at_ {base : Nat} {va : Option Addr} {vn vc : Nat} {ms : List Mk} (h : MRow w base (.slice va vn vc) ms) (hf : ∀ y ∈ ms, Mk.fits y) (hne : ms ≠ []) : ∃ g, va = some ⟨g, 0, none⟩ /\ base <= g /\ ∀ i k, i + k <= ms.length -> MksAt w (some ⟨g, i * 2, none⟩) k ((ms.drop i).take k) := by
 rcases h.2 with ⟨_, h0⟩ | ⟨g, cap, cur, hv, hb, hh, hc, hm, hs, ht⟩
 ·exact absurd (List.length_eq_zero_iff.1 h0) hne
 ·cases hv
  have hgl : g < w.heap.size := (Array.getElem?_eq_some_iff.1 hh).1
  have hcell : ∀ i y, ms[i]? = some y -> OneMk w g (i * 2) y := fun i y hy => by
   have hi := (List.getElem?_eq_some_iff.1 hy).1
   have hli : (ms.take i).length = i := by rw [List.length_take]; omega
   have hsp : ms = ms.take i ++ y :: ms.drop (i + 1) := by
    have h1 := List.take_append_drop i ms
    rw [List.drop_eq_getElem_cons hi, (List.getElem?_eq_some_iff.1 hy).2] at h1
    exact h1.symm
   have e : ∀ r v, r < 2 -> [Value.int .u64 (y.1 : Int), .int .u64 (y.2 : Int)][r]? = some v -> w.cell? ⟨g, i * 2 + r, none⟩ = some v := fun r v hr hv => by
    have e1 : (mkCs ms)[i * 2 + r]? = some v := by
     rw [<- hv]
     have := flat_get (fun z : Mk => [Value.int .u64 (z.1 : Int), .int .u64 (z.2 : Int)]) 2 (fun _ => rfl) (ms.take i) y (ms.drop (i + 1)) r hr
     rw [hli, <- hsp] at this
     exact this
    have e2 : cur.toList[i * 2 + r]? = some v := by
     have h1 : (cur.toList.take (ms.length * 2))[i * 2 + r]? = some v := by rw [ht]; exact e1
     rw [List.getElem?_take] at h1
     split at h1
     ·exact h1
     ·cases h1
    simp [World.cell?, hh, <- Array.getElem?_toList, e2]
   exact ⟨e 0 _ (by decide) rfl, e 1 _ (by decide) rfl⟩
  refine ⟨g, rfl, hb, fun i k hik => ⟨by rw [List.length_take, List.length_drop]; omega, fun y hy => hf y (List.mem_of_mem_drop (List.mem_of_mem_take hy)), fun r y hy => ⟨g, i * 2, rfl, hgl, ?_⟩⟩⟩
  have hr : r < k := by
   have := (List.getElem?_eq_some_iff.1 hy).1
   rw [List.length_take] at this
   omega
  rw [List.getElem?_take, if_pos hr, List.getElem?_drop] at hy
  have := hcell (i + r) y hy
  rw [show i * 2 + r * 2 = (i + r) * 2 by omega]
  exact this
end
section
variable {w0 w w' : World} {x d : Nat} {E : En} {j m nj : Nat} {J : Jr} {s first n : Nat} {S S' : Dv} {f : Nat -> List It} {bs : List (List Bool)} {F F' G : List Nat} {M : SM} {l ml : Nat} {v5 v6 v7 : Value} {T : Lg}
theorem EnAt.small (h : EnAt w0 w x d E j m nj J s first n S f bs G l ml v5 v6 v7 T) : m ≠ ml /\ w0.heap.size <= ml := ⟨fun e => h.mL (e ▸ ml_mem), h.low ml (.inr (.inr (.inr ml_mem)))⟩
theorem eput_sm (h : EnAt w0 w x d E j m nj J s first n S f bs G l ml v5 v6 v7 T) (y : It) (hyf : y.fits) (hyg : y.good = true) (hys : y.size <= 120) :
  Calls Tryz.prog 13 #[.pointer (some ⟨x, 0, none⟩), .agg #[.string (txt y.key), .string (txt y.value), .int .u32 y.flags, .int .i64 y.exp, .int .u64 y.ver]] w fun e w' => e = .returned (.int .i64 0) /\ ∃ S' bs' G', EnAt w0 w' x d E j m nj J s first n S' (putF n f y) bs' G' l ml v5 v6 v7 (T.drop y.key) /\ (∀ lb, bs[bkt y.key n]? = some lb -> bs' = bs.set (bkt y.key n) (keyB lb y)) /\ S'.losses = S.losses /\ Dv.far first n S S' /\ EnMv G (lblocks l ml v5 v6 v7 T) G' (lblocks l ml v5 v6 v7 (T.drop y.key)) w w' := by
 have gs := good_sizes hyg
 refine (eput_small h y hyf hyg hys h.small.1 h.small.2 (by omega) (by omega)).mono ?_
 rintro e w' ⟨rfl, W, hW, S', bs', G', hE, hb, hl, hf, hk, hn⟩
 refine ⟨rfl, S', bs', G', hE, hb, hl, hf, (EnMv.below hW).trans ⟨hk.mono (fun q hq => .inl ?_), fun q hq => ?_⟩⟩
 ·rcases List.mem_cons.1 hq with rfl | h1
  ·exact List.mem_append.2 (.inl ml_mem)
  ·exact List.mem_append.2 (.inr h1)
 ·rcases hq with hq | hq
  ·rcases hn q hq with h1 | h1
   ·exact .inl (.inl h1)
   ·exact .inr h1
  ·exact .inl (.inr hq)
end
end Go.Proofs.YtcdghalnneilpaaGreat
namespace Go.Proofs.YtcdghalnneilpaaGreat
open Go.RowKit Go.Shelf Go.Deep Math
attribute [local go_sem] Oper.semAt_some
def chN (len : Nat) : Nat := (len + 22) / 23
def chV (g len k : Nat) : Value := .slice (some ⟨g, k * 46, none⟩) (min 23 (len - 23 * k)) (min 23 (len - 23 * k))
def KpC (sb nb : Nat) (W W' : World) : Prop := W'.cell? ⟨sb, 0, none⟩ = W.cell? ⟨sb, 0, none⟩ /\ W'.cell? ⟨nb, 0, none⟩ = W.cell? ⟨nb, 0, none⟩
theorem KpC.t {sb nb : Nat} {A B C : World} (h : KpC sb nb A B) (k : KpC sb nb B C) : KpC sb nb A C := ⟨k.1.trans h.1, k.2.trans h.2⟩
def uptoF (t k : Nat) : List (Fin t) := (List.range k).filterMap (fun i => if h : i < t then some ⟨i, h⟩ else none)
theorem uptoF_succ {t k : Nat} (h : k < t) : uptoF t (k + 1) = uptoF t k ++ [⟨k, h⟩] := by
 unfold uptoF
 rw [List.range_succ, List.filterMap_append]
 simp [h]
theorem uptoF_length {t : Nat} : ∀ {k : Nat}, k <= t -> (uptoF t k).length = k
 | 0, _ => rfl
 | k + 1, h => by
  rw [uptoF_succ (show k < t by omega), List.length_append, uptoF_length (k := k) (by omega)]
  rfl
set_option maxRecDepth 100000 in
theorem chunk_in (m : Nat) (hm : 1 <= m) (l sb nb g len cap t : Nat) (a : Option Addr) (ha : 0 < len -> a = some ⟨g, 0, none⟩) (ht : t = chN len) (hlen : len <= 40000) (hcap : 0 < len -> len <= cap) (J Jx : List (Fin t) -> World -> Prop)
  (hJd : ∀ pre W, J pre W -> J pre W.drew)
  (hY : ∀ pre x W, J pre W -> pre.length < t -> YieldAt Fence.wide (m - 1) Tryz.prog l #[chV g len (x : Fin t).val] W fun e W' =>
   (e = .returned (.bool true) /\ J (pre ++ [x]) W' /\ KpC sb nb W W') \/ (e = .returned (.bool false) /\ Jx (pre ++ [x]) W'))
  (W : World) (hsb : W.cell? ⟨sb, 0, none⟩ = some (.slice a len cap)) (hnb : W.cell? ⟨nb, 0, none⟩ = some (.int .i64 23)) (h0 : J [] W) :
  CallsIn Fence.wide m Tryz.prog 115 #[.func (.yield l) #[] #[], .pointer (some ⟨sb, 0, none⟩), .pointer (some ⟨nb, 0, none⟩)] W fun e W' => (∃ v, e = .returned v) /\
   ((∃ ys, ys = uptoF t t /\ J ys W') \/ (∃ pre, (∃ k, k <= t /\ pre = uptoF t k) /\ Jx pre W')) := by
 have hmx : Tryz.prog.follows .mixedOrders = true := by kernel_rfl
 refine callsIn_of_wp Tryz.func115 rfl trivial ?_ rfl
 simp only [Tryz.ntmps115, List.size_toArray, List.length_cons, List.length_nil, Nat.reduceAdd, Nat.reduceSub, Array.replicate_succ, Array.replicate_zero, List.push_toArray, List.append_toArray, List.nil_append, List.cons_append]
 gi_wp2
 gi_loopw [4] (fun i wr => ∃ k : Nat, k <= t /\ i = .int .i64 ((23 * k : Nat) : Int) /\ Hid (J (uptoF t k) wr) /\ Hid (KpC sb nb W wr))
   (fun i _ => 23 * t - (intOf i).toNat)
 case atStart => exact ⟨0, Nat.zero_le _, rfl, h0, rfl, rfl⟩
 case round =>
  obtain ⟨k, hk, rfl, hJs, hK⟩ := hrel
  have hsb' := hK.out.1.trans hsb
  have hnb' := hK.out.2.trans hnb
  by_cases hlt : k < t
  ·obtain ⟨i0, hi0⟩ : ∃ i0, i0 = 23 * k := ⟨_, rfl⟩
   have hlt2 : ((i0 : Nat) : Int) < (len : Int) := by unfold chN at ht; omega
   have hlt3 : i0 < len := by omega
   have hcap := hcap (by omega)
   obtain rfl := ha (by omega)
   have hlt4 : i0 <= len := by omega
   have hlt5 : i0 < cap := by omega
   obtain ⟨e0, he0⟩ : ∃ e0, e0 = min 23 (len - i0) := ⟨_, rfl⟩
   have HE0 : Hid (e0 = min 23 (len - i0)) := he0
   have he1 : min (23 : Int) ((len - i0 : Nat) : Int) = (e0 : Int) := by omega
   have he2 : i0 + e0 <= len := by omega
   have he3 : 0 < e0 := by omega
   have hi1 : i0 <= 40000 := by omega
   have hV : chV g len k = .slice (some ⟨g, i0 * 2, none⟩) e0 e0 := by
    unfold chV
    rw [<- hi0, <- he0, show k * 46 = i0 * 2 by omega]
   have hc1 : ¬ cap = i0 := by omega
   have hc2 : ¬ i0 + e0 = i0 := by omega
   have hc3 : i0 + e0 - i0 = e0 := by omega
   have hc4 : i0 + e0 <= cap := by omega
   have hY0 := hY _ ⟨k, hlt⟩ wr.drew (hJd _ _ hJs.out) (by rw [uptoF_length hk]; exact hlt)
   simp only [hV] at hY0
   obtain ⟨fn, tmps, assign, body, hy, hR⟩ := hY0
   rw [<- hi0]
   have HI0 := hide hi0
   clear hi0 he0 hV
   gi_wp2
   gi_region_with_o fail
   all_goals simp only [Act.put, List.setIfInBounds_toArray, List.set_cons_succ, List.set_cons_zero, List.getElem_toArray, List.getElem_cons_succ, List.getElem_cons_zero]
   all_goals gi_wp2
   all_goals
    refine hR.mono ?_
    rintro e W3 (⟨rfl, hJ3, hk3⟩ | ⟨rfl, hJx3⟩)
    ·have J3 := hide hJ3
     have hK3 : KpC sb nb W W3 := hK.out.t hk3
     have K3 := hide hK3
     have hnb3 := hK3.2.trans hnb
     clear hJ3 hk3 hK3
     gi_wp2
     go_roundw
     case rel => exact ⟨k + 1, by omega, by rw [HI0.out]; simp only [Value.int.injEq, true_and]; omega, by rw [uptoF_succ hlt]; exact J3.out, K3.out⟩
     case measure => simp [intOf]; have := HI0.out; omega
    ·gi_wp2
     refine bodyPost_ret (results_none rfl _ _ _) rfl ?_
     exact ⟨⟨_, rfl⟩, .inr ⟨_, ⟨k + 1, by omega, (uptoF_succ hlt).symm⟩, hJx3⟩⟩
  ·obtain rfl : k = t := by omega
   have hge : ¬ ((23 * k : Nat) : Int) < (len : Int) := by unfold chN at ht; omega
   have hge2 : ¬ 23 * (k : Int) < (len : Int) := by unfold chN at ht; omega
   clear ht
   gi_wp2
   go_end0
   exact ⟨⟨_, rfl⟩, .inl hJs.out⟩
theorem chunk_any (a : Option Addr) (n c : Nat) (w : World) :
  Calls Tryz.prog 55 #[.slice a n c, .int .i64 23] w fun e w' => e = .returned (.func (.func 115) #[] #[.pointer (some ⟨w.heap.size, 0, none⟩), .pointer (some ⟨w.heap.size + 1, 0, none⟩)]) /\
   w' = (w.alloc (.cells #[.slice a n c] 113)).alloc (.cells #[.int .i64 23] 3) := by
 have hb : ((w.alloc (.cells #[.slice a n c] 113)).alloc (.cells #[.int .i64 23] 3)).cell? ⟨w.heap.size + 1, 0, none⟩ = some (.int .i64 23) := by
  have := (Blk.new (w.alloc (.cells #[.slice a n c] 113)) [.int .i64 23] 3).cell (i := 0) rfl
  rw [nblk_alloc] at this
  exact this
 go_enter Tryz.func55, Tryz.ntmps55
 go_wp2
 go_ret
 exact ⟨rfl, rfl⟩
end Go.Proofs.YtcdghalnneilpaaGreat
namespace Go.Proofs.YtcdghalnneilpaaGreat
open Go Go.RowKit
variable {F : Fence} {n : Nat} {P : Program}
def OwnBut {β : Type} (L : Nat) (I : β -> World -> Prop) : Prop :=
 ∀ s W W' row, I s W -> W.grownBy W' row -> (∀ r, row = some r -> r = L /\ ∃ o : Obj, W.heap[r]? = some o /\ o.isCells = false) -> I s W'
theorem OwnBut.put {β : Type} {L : Nat} {I : β -> World -> Prop} (h : OwnBut L I) {s : β} {W : World} {o0 : Obj} (o : Obj) (hs : I s W) (hl : W.heap[L]? = some o0) (hc : o0.isCells = false) : I s (W.putObj L o) :=
 h s W _ (some L) hs (grownBy_putObj' W L o) (fun r e => by cases e; exact ⟨rfl, o0, hl, hc⟩)
theorem OwnBut.drew {β : Type} {L : Nat} {I : β -> World -> Prop} (h : OwnBut L I) {s : β} {W : World} (hs : I s W) : I s W.drew :=
 h s W _ none hs ⟨rfl, rfl, rfl, Nat.le_refl _, fun _ _ _ => rfl⟩ (fun r e => by cases e)
def SeqNear {α : Type} (F : Fence) (n : Nat) (P : Program) (g : Nat) (lb : Array Value) (encs : α -> Array Value) (Kp : World -> World -> Prop) (S Sp : List α -> Prop) (N : Nat) (w : World) : Prop :=
 ∀ (l : Nat) (J Jx : List α -> World -> Prop) (W : World), Below w.heap.size w W -> (∀ pre V, J pre V -> J pre V.drew) ->
  (∀ pre x V, J pre V -> pre.length < N -> YieldAt F (n - 1) P l (encs x) V fun e V' => (e = .returned (.bool true) /\ J (pre ++ [x]) V' /\ Kp V V') \/ (e = .returned (.bool false) /\ Jx (pre ++ [x]) V')) ->
  J [] W -> CallsIn F n P g (#[.func (.yield l) #[] #[]] ++ lb) W fun e W' => (∃ v, e = .returned v) /\ ((∃ xs, S xs /\ J xs W') \/ (∃ pre, Sp pre /\ Jx pre W'))
def butPost {α : Type} (D : Nat) (Kp : World -> World -> Prop) (I Ix : List α -> World -> Prop) (xs : List α) (W : World) : Exit -> Act -> World -> Prop
 | .normal, _, W' => W'.heap[D]? = W.heap[D]? /\ W'.heap[D + 1]? = W.heap[D + 1]? /\ Kp W W' /\ I xs W'
 | .ret, _, W' => W'.heap[D]? = W.heap[D]? /\ W'.heap[D + 1]? = W.heap[D + 1]? /\ Ix xs W'
 | _, _, _ => False
theorem range_but {α : Type} {g : Operand} {ps : Array Tmp} {assign body : Code} {Q : Exit -> Act -> World -> Prop} {a : Act} {w : World}
  (hro : F.round = none) (h1 : 1 <= n) {gf : Nat} {lb : Array Value} (hg : a.eval g = .func (.func gf) #[] lb) (hFg : F.fn gf) (eg : ∀ args w, (callFunc gf args).run P w = .ok (.enter gf args) w)
  {encs : α -> Array Value} {Kp : World -> World -> Prop} {S Sp : List α -> Prop} {N : Nat} {w0 : World} (hseq : SeqNear F (n - 1) P gf lb encs Kp S Sp N w0)
  (hKt : ∀ {A B C : World}, Kp A B -> Kp B C -> Kp A C) (hKb : ∀ (W : World) (o' : Obj), Kp W (W.putObj (w.heap.size + 1) o')) (hb0 : Below w0.heap.size w0 w) (hps : ∀ x, (encs x).size = ps.size)
  (I Ix : List α -> World -> Prop) (hI : OwnBut (w.heap.size + 1) I) (hIx : OwnBut (w.heap.size + 1) Ix) (h0 : ∀ o, I [] ((w.alloc (.deferred (some []))).alloc o)) (a₁ : α -> Act)
  (hassign : ∀ (l : Nat) (x : α) (W : World) (K : Act -> World -> Prop), K (a₁ x) W ->
   assign.wpIn (F.inRound l) (n - 1 - 1) P (Exit.then K (fun _ _ _ => False)) { tmps := (ps.zip (encs x)).foldl (fun t (p, v) => t.setIfInBounds p v) a.tmps, defers := [] } W)
  (hbody : ∀ (l : Nat) (pre : List α) (x : α) (W : World), I pre W -> pre.length < N -> (∃ o : Obj, W.heap[w.heap.size]? = some o /\ o.isCells = false) -> (∃ o : Obj, W.heap[w.heap.size + 1]? = some o /\ o.isCells = false) -> body.wpIn (F.inRound l) (n - 1 - 1) P (butPost w.heap.size Kp I Ix (pre ++ [x]) W) (a₁ x) W)
  (hdone : ∀ (xs : List α) (W : World), S xs -> I xs W -> W.heap[w.heap.size]? = some (.deferred (some [])) -> Q .normal { a with defers := { target := .collected w.heap.size, args := #[] } :: a.defers } W)
  (hstop : ∀ (pre : List α) (W : World), Sp pre -> Ix pre W -> W.heap[w.heap.size]? = some (.deferred (some [])) -> Code.ret.wpIn F n P Q { a with defers := { target := .collected w.heap.size, args := #[] } :: a.defers } W) :
  (Code.rangeFunc g ps assign body).wpIn F n P Q a w := by
 refine wpIn_rangeFunc fun fn hfn => ?_
 rw [hro]
 obtain ⟨D, hD⟩ : ∃ D, D = w.heap.size := ⟨_, rfl⟩
 obtain ⟨rc, hrc⟩ : ∃ rc : LoopState -> Option Code -> Loop, rc = fun st pe => { state := st, pending := pe, fn, tmps := a.tmps, params := ps, assign, body, defers := w.heap.size } := ⟨_, rfl⟩
 obtain ⟨V, hV⟩ : ∃ V, V = (w.alloc (.deferred (some []))).alloc (.loop (rc .ready none)) := ⟨_, rfl⟩
 have vL : V.heap[w.heap.size + 1]? = some (.loop (rc .ready none)) := by
  have := World.alloc_heap_new (w.alloc (.deferred (some []))) (.loop (rc .ready none))
  rw [World.size_alloc, <- hV] at this
  exact this
 have vD : V.heap[w.heap.size]? = some (.deferred (some [])) := by
  rw [hV]; exact (Below.heap_alloc _ _ _ (by simp)).trans (World.alloc_heap_new w _)
 have vS : V.heap.size = w.heap.size + 2 := by rw [hV]; simp
 have vI : I [] V := by rw [hV]; exact h0 _
 have vB : Below w0.heap.size w0 V := by
  rw [hV]; exact hb0.trans ((((Below.refl _ w).alloc (Nat.le_refl _) _).alloc (by simp) _).mono hb0.size)
 refine ⟨w.heap.size + 1, [{ target := .collected w.heap.size, args := #[] }], V, { target := .fn (.func gf) lb, args := #[.func (.yield (w.heap.size + 1)) #[] #[]] }, V, gf, #[.func (.yield (w.heap.size + 1)) #[] #[]] ++ lb, V, ?_, ?_, ?_, ?_, fun _ => h1, ?_⟩
 ·rw [hV, hrc]; exact run_enterLoop_outer _ _ _ _ _
 ·simp only [resolve, hg]
  simp [go_sem]
 ·intro f' hf'; simp [Target.leads] at hf'; subst hf'; exact hFg
 ·simp [invoke, go_sem, eg]
 have bel : w.heap.size + 1 < V.heap.size := by omega
 refine (hseq (w.heap.size + 1)
  (fun pre W => I pre W /\ W.heap[w.heap.size + 1]? = some (.loop (rc .ready none)) /\ W.heap[w.heap.size]? = some (.deferred (some [])))
  (fun pre W => Ix pre W /\ W.heap[w.heap.size + 1]? = some (.loop (rc .done (some .ret))) /\ W.heap[w.heap.size]? = some (.deferred (some [])))
  V vB
  (fun s A hs => ⟨hI.drew hs.1, hs.2.1, hs.2.2⟩)
  ?_ ⟨vI, vL, vD⟩).mono ?_
 ·rintro pre x W ⟨hi, hl, hk⟩ hlen
  have hlt : w.heap.size + 1 < W.heap.size := (Array.getElem?_eq_some_iff.1 hl).1
  have hy := run_yield (P := P) (args := encs x) hl (by rw [hrc]; exact hps x)
  rw [hrc] at hy
  refine ⟨fn, _, assign, body, hy, roundIn_of_wpIn hfn (hassign _ x W _ ⟨_, run_beginRound hl (by rw [hrc]), ?_⟩)⟩
  obtain ⟨U, hU⟩ : ∃ U, U = W.putObj (w.heap.size + 1) (.loop { rc .ready none with state := .busy }) := ⟨_, rfl⟩
  have uL : U.heap[w.heap.size + 1]? = some (.loop { rc .ready none with state := .busy }) := by rw [hU]; exact World.putObj_heap_same hlt
  have uD : U.heap[w.heap.size]? = some (.deferred (some [])) := by rw [hU]; exact (World.putObj_heap_other (by omega)).trans hk
  have uK : Kp W U := by rw [hU]; exact hKb _ _
  have uI : I pre U := by rw [hU]; exact hI.put _ hi hl rfl
  rw [<- hU]
  refine wpIn_mono (hbody _ pre x U uI hlen ⟨_, uD, rfl⟩ ⟨_, uL, rfl⟩) ?_
  intro e a3 W3 hp
  cases e with
  | normal =>
   obtain ⟨k1, k2, hkp, hi3⟩ := hp
   have l3 := k2.trans uL
   have hr := run_endRound (P := P) none l3
   have hlt3 := (Array.getElem?_eq_some_iff.1 l3).1
   refine ⟨_, _, hr, .inl ⟨rfl, ⟨hI.put _ hi3 l3 rfl, ?_, (World.putObj_heap_other (by omega)).trans (k1.trans uD)⟩, hKt (hKt uK hkp) (hKb _ _)⟩⟩
   rw [World.putObj_heap_same hlt3, hrc]; rfl
  | ret =>
   obtain ⟨k1, k2, hi3⟩ := hp
   have l3 := k2.trans uL
   have hr := run_endRound (P := P) (some .ret) l3
   have hlt3 := (Array.getElem?_eq_some_iff.1 l3).1
   refine ⟨_, _, hr, .inr ⟨rfl, hIx.put _ hi3 l3 rfl, ?_, (World.putObj_heap_other (by omega)).trans (k1.trans uD)⟩⟩
   rw [World.putObj_heap_same hlt3, hrc]; rfl
  | exit id => exact hp.elim
  | goto t => exact hp.elim
  | panic ch => exact hp.elim
  | outgrown => exact hp.elim
 ·rintro e W2 ⟨⟨v, rfl⟩, (⟨xs, hS, hi, hl, hk⟩ | ⟨pre, hSp, hi, hl, hk⟩)⟩
  ·exact ⟨none, _, by have := run_endLoop (P := P) hl (by rw [hrc]; simp); rw [hrc] at this; exact this, hdone xs _ hS (hI.put _ hi hl rfl) ((World.putObj_heap_other (by omega)).trans hk)⟩
  ·exact ⟨some .ret, _, by have := run_endLoop (P := P) hl (by rw [hrc]; simp); rw [hrc] at this; exact this, hstop pre _ hSp (hIx.put _ hi hl rfl) ((World.putObj_heap_other (by omega)).trans hk)⟩
end Go.Proofs.YtcdghalnneilpaaGreat
