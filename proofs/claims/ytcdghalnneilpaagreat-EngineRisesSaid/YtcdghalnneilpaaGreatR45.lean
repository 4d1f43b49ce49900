/- Joined texts. -/
import Derived.Deep.RegionLaw
import Derived.Test.YtcdghalnneilpaaGreatR44
set_option linter.unusedVariables false
set_option linter.unusedSimpArgs false
set_option maxRecDepth 8000
set_option maxHeartbeats 8000000
namespace Go.Proofs.YtcdghalnneilpaaGreat
open Go.RowKit Go.Deep Math
section
variable {w : World} {l d m : Nat} {v5 v6 v7 : Value} {T : Lg}
end
theorem seal_idle {w : World} {l d m : Nat} {v5 v6 v7 : Value} {T : Lg} (h : LgIn w l d m v5 v6 v7 T) (ho : T.opn = []) :
  Calls Tryz.prog 81 #[.pointer (some ⟨l, 0, none⟩)] w fun e w' => e = .returned (.tuple #[.slice none 0 0, .int .i64 0]) /\ w' = w := by
 obtain ⟨a6, c6, rfl⟩ := own_slice h.opn
 have k6 := h.box.cell (i := 6) rfl
 rw [ho] at k6
 clear h ho
 simp only [List.length_nil] at k6
 go_enter Tryz.func81, Tryz.ntmps81
 go_wp2
 go_ret2
 exact ⟨rfl, rfl⟩
section
variable {w : World} {l d m : Nat} {v5 v6 v7 : Value} {T : Lg}
end
theorem fresh_get (n k : Nat) {c : Cl} (h : (Dv.fresh n).cs[k]? = some c) : c = ⟨.blank, none⟩ := by
 have := List.mem_of_getElem? h
 exact List.eq_of_mem_replicate this
theorem fresh_fm (n k : Nat) : fmAt (Dv.fresh n).cs k = none := by
 unfold fmAt
 cases h : (Dv.fresh n).cs[k]? with
 | none => rfl
 | some c => rw [fresh_get n k h]; rfl
theorem forms_none {cs : List Cl} {base : Nat} : ∀ k, (∀ j, j < k -> fmAt cs (base + j) = none) -> forms cs base k = []
 | 0, _ => rfl
 | k + 1, h => by rw [forms, forms_none k (fun j hj => h j (by omega)), h k (by omega)]; rfl
theorem cnt_none {cs : List Cl} {base : Nat} (h : forms cs base 4 = []) : cnt cs base = none := by unfold cnt; rw [h]; rfl
theorem fresh_cnts (n first : Nat) : ∀ k, cnts (Dv.fresh n).cs first k = [] /\ numTo (Dv.fresh n).cs first k = 0
 | 0 => ⟨rfl, rfl⟩
 | k + 1 => by
  have hf := forms_none (cs := (Dv.fresh n).cs) (base := first + 4 * k) 4 (fun j _ => fresh_fm n _)
  have ih := fresh_cnts n first k
  refine ⟨?_, ?_⟩
  ·rw [cnts, ih.1, cnt_none hf]; rfl
  ·rw [numTo, ih.2, hf]; rfl
structure Calm (S : Dv) : Prop where
 armed : S.armed = 0
 off : S.off = false
theorem flush_calm {S : Dv} (h : Calm S) : S.flushErr = 0 /\ S.flushDo.cs = S.cs.map Cl.flush /\ Calm S.flushDo /\ S.flushDo.losses = S.losses := by
 have hg : S.gone = false := by simp [Dv.gone, h.armed, h.off]
 have hu : S.used = S := by unfold Dv.used; rw [if_pos (.inr h.armed)]
 refine ⟨by simp [Dv.flushErr, hg], by simp [Dv.flushDo, hg], ?_, by simp [Dv.flushDo, hg, hu]⟩
 simp [Dv.flushDo, hg, hu]; exact ⟨h.armed, h.off⟩
structure EnMv (G L G' L' : List Nat) (w w' : World) : Prop where
 keep : Keep (L ++ G) w w'
 new : ∀ q, q ∈ G' \/ q ∈ L' -> (q ∈ G \/ q ∈ L) \/ w.heap.size <= q
theorem EnMv.trans {G L G' L' G2 L2 : List Nat} {w w1 w2 : World} (h : EnMv G L G' L' w w1) (k : EnMv G' L' G2 L2 w1 w2) : EnMv G L G2 L2 w w2 := by
 have hs := h.keep.size
 have o : ∀ q, (q ∈ G' \/ q ∈ L') \/ w1.heap.size <= q -> (q ∈ G \/ q ∈ L) \/ w.heap.size <= q := fun q hq => by
  rcases hq with hq | hq
  ·exact h.new q hq
  ·exact .inr (by omega)
 refine ⟨h.keep.trans k.keep (fun q hq => ?_), fun q hq => o q (k.new q hq)⟩
 rcases o q (.inl ((List.mem_append.1 hq).symm)) with (h1 | h1) | h1
 ·exact .inl (List.mem_append.2 (.inr h1))
 ·exact .inl (List.mem_append.2 (.inl h1))
 ·exact .inr h1
theorem EnMv.below {G L : List Nat} {w w' : World} (b : Below w.heap.size w w') : EnMv G L G L w w' := ⟨Keep.of_below b, fun q hq => .inl hq⟩
section
variable {w0 w w' : World} {x d : Nat} {E : En} {j m nj : Nat} {J : Jr} {s first n : Nat} {S S' : Dv} {f : Nat -> List It} {bs : List (List Bool)} {F F' G : List Nat} {M : SM} {l ml : Nat} {v5 v6 v7 v5' v6' v7' : Value} {T T' : Lg}
end
theorem Sure.calm {S : Dv} (h : Sure S) : Calm S := ⟨h.armed, h.off⟩
section
variable {w0 w w' : World} {x d : Nat} {E : En} {j m nj : Nat} {J : Jr} {s first n : Nat} {S S' : Dv} {f : Nat -> List It} {bs : List (List Bool)} {F F' G : List Nat} {M : SM} {l ml : Nat} {v5 v6 v7 v5' v6' v7' : Value} {T T' : Lg}
end
section
variable {w0 w w' : World} {x d : Nat} {E : En} {j m nj : Nat} {J : Jr} {s first n : Nat} {S S' : Dv} {f : Nat -> List It} {bs : List (List Bool)} {F F' G : List Nat} {M : SM} {l ml : Nat} {v5 v6 v7 v5' v6' v7' : Value} {T T' : Lg}
def SetEn (w0 w : World) (x d : Nat) (E : En) (j m nj : Nat) (J : Jr) (s first n : Nat) (f : Nat -> List It) (bs : List (List Bool)) (G : List Nat) (l ml : Nat) (L : List Nat) (R : Dv -> Lg -> Prop) (w' : World) : Prop :=
 ∃ S' S2 G' v5' v6' v7' T', EnAt w0 w' x d E j m nj J s first n S2 f bs G' l ml v5' v6' v7' T' /\ EnMv G L G' (lblocks l ml v5' v6' v7' T') w w' /\ R S' T' /\ S2.losses = S'.losses /\ Dv.far first n S' S2 /\ ∀ c ∈ S2.cs, c.last = none
theorem settle_of (h : EnAt w0 w x d E j m nj J s first n S f bs G l ml v5 v6 v7 T) (hl : S.losses = E.losses) (R : Dv -> Lg -> Prop)
  (cS : ∀ q, Calls Tryz.prog 81 #[.pointer (some ⟨l, 0, none⟩)] (w.drewN q) fun e w' => ∃ v S' G' v5' v6' v7' T', e = .returned (.tuple #[v, .int .i64 0]) /\ EnAt w0 w' x d E j m nj J s first n S' f bs G' l ml v5' v6' v7' T' /\ EnMv G (lblocks l ml v5 v6 v7 T) G' (lblocks l ml v5' v6' v7' T') (w.drewN q) w' /\ R S' T') :
  Calls Tryz.prog 30 #[.pointer (some ⟨x, 0, none⟩)] w fun e w' => e = .returned (.int .i64 0) /\ SetEn w0 w x d E j m nj J s first n f bs G l ml (lblocks l ml v5 v6 v7 T) R w' := by
 obtain ⟨F, M, hu, hG⟩ := h.bu
 refine (settle_two h.box hu.bk.law.dev hl (fun W => ∃ S' G' v5' v6' v7' T', EnAt w0 W x d E j m nj J s first n S' f bs G' l ml v5' v6' v7' T' /\ EnMv G (lblocks l ml v5 v6 v7 T) G' (lblocks l ml v5' v6' v7' T') w W /\ R S' T') (fun _ er w' => er = 0 /\ SetEn w0 w x d E j m nj J s first n f bs G l ml (lblocks l ml v5 v6 v7 T) R w') ?_ ?_ ?_).mono ?_
 ·intro q
  refine (cS q).mono ?_
  rintro e w' ⟨v, S', G', v5', v6', v7', T', rfl, hE, hM, hR⟩
  exact ⟨v, rfl, S', G', v5', v6', v7', T', hE, (EnMv.below (below_q2 w q)).trans hM, hR⟩
 ·rintro W ⟨S', G', v5', v6', v7', T', hE, hM, hR⟩
  exact hE.box
 ·rintro W ⟨S', G', v5', v6', v7', T', hE, hM, hR⟩
  refine (bu_flush hE.bu).mono ?_
  rintro e w' ⟨rfl, S2, G2, hb2, hm2, hl2, hf2, hla⟩
  refine ⟨0, rfl, rfl, S', S2, G2, v5', v6', v7', T', hE.turn hb2 hm2, hM.trans ⟨hm2.keep.mono (fun q hq => .inl (List.mem_append.2 (.inr hq))), fun q hq => ?_⟩, hR, hl2, hf2, hla⟩
  rcases hq with hq | hq
  ·rcases hm2.foot q hq with h1 | h1
   ·exact .inl (.inl h1)
   ·exact .inr h1
  ·exact .inl (.inr hq)
 ·rintro e w' ⟨er, W, rfl, _, rfl, hS⟩
  exact ⟨rfl, hS⟩
theorem settle_idle (h : EnAt w0 w x d E j m nj J s first n S f bs G l ml v5 v6 v7 T) (hl : S.losses = E.losses) (ho : T.opn = []) :
  Calls Tryz.prog 30 #[.pointer (some ⟨x, 0, none⟩)] w fun e w' => e = .returned (.int .i64 0) /\ SetEn w0 w x d E j m nj J s first n f bs G l ml (lblocks l ml v5 v6 v7 T) (fun S' T' => S' = S /\ T' = T) w' := by
 refine settle_of h hl _ (fun q => ?_)
 have hE := h.below (below_q2 w q)
 refine (seal_idle hE.lg ho).mono ?_
 rintro e w' ⟨rfl, rfl⟩
 exact ⟨_, S, G, v5, v6, v7, T, rfl, hE, ⟨Keep.refl _ _, fun q hq => .inl hq⟩, rfl, rfl⟩
end
def En.getK (E : En) (J : Jr) (n : Nat) (f : Nat -> List It) (gr : List UInt8 -> Option It) (key : List UInt8) : Option It := E.gets J (((f (bkt key n)).find? (isKey key)).getD It.zero) ((gr key).getD It.zero)
def En.logK (E : En) (J : Jr) (n : Nat) (f : Nat -> List It) (gr : List UInt8 -> Option It) (key : List UInt8) : Bool := E.fndB J (((f (bkt key n)).find? (isKey key)).getD It.zero) ((gr key).getD It.zero)
def En.itS (E : En) (J : Jr) (n : Nat) (f : Nat -> List It) (gr : List UInt8 -> Option It) (y : It) : Bool := itEq ((E.getK J n f gr y.key).getD It.zero) y
def En.itG (E : En) (J : Jr) (n : Nat) (f : Nat -> List It) (gr : List UInt8 -> Option It) (y : It) : Bool := E.logK J n f gr y.key
section
variable {w0 w w' : World} {x d : Nat} {E : En} {j m nj : Nat} {J : Jr} {s first n : Nat} {S S' : Dv} {f : Nat -> List It} {bs : List (List Bool)} {F F' G : List Nat} {M : SM} {l ml : Nat} {v5 v6 v7 v5' v6' v7' : Value} {T T' : Lg}
theorem EnAt.away (h : EnAt w0 w x d E j m nj J s first n S f bs G l ml v5 v6 v7 T) {H : List Nat} (k : Keep H w w') (hN : ∀ q, (q = x \/ q = j \/ q = m \/ q ∈ G \/ q ∈ lblocks l ml v5 v6 v7 T) -> q ∉ H) (h0 : ∀ q ∈ H, w0.heap.size <= q) : EnAt w0 w' x d E j m nj J s first n S f bs G l ml v5 v6 v7 T :=
 ⟨h.box.same (k.block _ h.box.lt (hN x (.inl rfl))), h.jr.keep k (hN j (.inr (.inl rfl))) (hN m (.inr (.inr (.inl rfl)))), h.bu.keep k (fun q hq => ⟨fun hg => hN q (.inr (.inr (.inr (.inl hg)))) hq, h0 q hq⟩), h.lg.same (fun q hq => k.block q (h.lg.lt q hq) (hN q (.inr (.inr (.inr (.inr hq)))))), h.xG, h.jG, h.mG, h.lG, h.low, h.xL, h.jL, h.mL, h.xm⟩
theorem allF_oks (h : Bu w0 w d s first n S f bs G) : Oks (allF n f) := fun y hy => by
 obtain ⟨k, hk, hy⟩ := List.mem_flatMap.1 hy
 have h1 := (h.f_all (List.mem_range.1 hk)).2 y hy
 have h2 := good_sizes h1.2
 exact ⟨h1.1, by omega, by omega⟩
theorem sm_len (h : Bu w0 w d s first n S f bs G) (key : List UInt8) : (((f (bkt key n)).find? (isKey key)).getD It.zero).key.length <= maxLen := by
 cases e : (f (bkt key n)).find? (isKey key) with
 | none => exact Nat.zero_le _
 | some z =>
  obtain ⟨F, M, hu, _⟩ := h
  have h1 := (hu.f_all (bkt_lt key n hu.n1)).2 z (List.mem_of_find?_eq_some e)
  have h2 := good_sizes h1.2
  exact Nat.le_trans h2.1 (by decide)
theorem gr_len (h : LgIn w l d ml v5 v6 v7 T) {o : Option It} {key : List UInt8} (ho : T.hasIt key o) : (o.getD It.zero).key.length <= maxLen := by
 rcases ho with ⟨_, rfl⟩ | ⟨t, ht, _, _, rfl⟩
 ·exact Nat.zero_le _
 ·exact Nat.le_trans (h.ths t ht).key (by decide)
theorem items_oks (h : LgIn w l d ml v5 v6 v7 T) : Oks T.items := fun y hy => by
 obtain ⟨t, ht, rfl⟩ := List.mem_map.1 hy
 have h1 := h.ths t (List.mem_filter.1 ht).1
 exact ⟨h1.fits, h1.key, h1.val⟩
theorem row_at {W : World} {B : Nat} {va : Option Addr} {vn vc : Nat} {xs : List It} (h : Row W B (.slice va vn vc) xs) (ho : Oks xs) (hn : vn = xs.length) {i : Nat} {y : It} (hy : xs[i]? = some y) : ∃ g, va = some ⟨g, 0, none⟩ /\ vn <= vc /\ OneIt W g (i * 5) y := by
 obtain ⟨a, c, e, hI, hq, hc, _⟩ := h.its ho
 cases e
 obtain ⟨b, o, rfl, _, h1⟩ := hI.cell i y hy
 have := hq b rfl
 simp only [Option.some.injEq, Addr.mk.injEq] at this
 obtain ⟨_, rfl, _⟩ := this
 rw [Nat.zero_add] at h1
 exact ⟨b, rfl, hc, h1⟩
theorem items_en (h : EnAt w0 w x d E j m nj J s first n S f bs G l ml v5 v6 v7 T) (gr : List UInt8 -> Option It) (hgr : ∀ k, T.hasIt k (gr k)) (hbig : T.all.length <= 40000) (hrl : T.regs.length <= 100) (hsm : (allF n f).length <= 40000) :
  Calls Tryz.prog 39 #[.pointer (some ⟨x, 0, none⟩)] w fun e w' => ∃ va vn vc, e = .returned (.slice va vn vc) /\ Row w' w.heap.size (.slice va vn vc) ((allF n f).filter (E.itS J n f gr) ++ T.items.filter (E.itG J n f gr)) /\ ∃ S', EnAt w0 w' x d E j m nj J s first n S' f bs G l ml v5 v6 v7 T /\ LikeB S S' /\ Moves G G w w' := by
 have hlt := h.lt
 have hG : ∀ q ∈ G, q < w.heap.size := fun q hq => hlt q (.inr (.inr (.inr (.inl hq))))
 have h0 := h.bu.bel.size
 have cS := hide (bu_items h.bu)
 have cG : Hid (∀ W S', EnAt w0 W x d E j m nj J s first n S' f bs G l ml v5 v6 v7 T -> ∀ key : List UInt8, key.length <= 140737488351232 -> Calls Tryz.prog 14 #[.pointer (some ⟨x, 0, none⟩), .string (txt key)] W fun e w' => e = .returned (.tuple #[.agg #[.string (txt ((E.getK J n f gr key).getD It.zero).key), .string (txt ((E.getK J n f gr key).getD It.zero).value), .int .u32 ((E.getK J n f gr key).getD It.zero).flags, .int .i64 ((E.getK J n f gr key).getD It.zero).exp, .int .u64 ((E.getK J n f gr key).getD It.zero).ver], .int .i64 (if (E.getK J n f gr key).isSome then 0 else 5)]) /\ ∃ S2, EnAt w0 w' x d E j m nj J s first n S2 f bs G l ml v5 v6 v7 T /\ LikeB S' S2 /\ Moves G G W w') := fun W S' hE key hk => by
  have := get_any hE key (Nat.le_trans hk (by decide)) hk _ (gr key) rfl (hgr key) (sm_len hE.bu key) (gr_len hE.lg (hgr key))
  rw [getV_is] at this
  exact this
 have cF : Hid (∀ W S', EnAt w0 W x d E j m nj J s first n S' f bs G l ml v5 v6 v7 T -> ∀ key : List UInt8, key.length <= 140737488351232 -> Calls Tryz.prog 54 #[.pointer (some ⟨x, 0, none⟩), .string (txt key)] W fun e w' => e = .returned (.tuple #[.agg #[.string (txt ((E.getK J n f gr key).getD It.zero).key), .string (txt ((E.getK J n f gr key).getD It.zero).value), .int .u32 ((E.getK J n f gr key).getD It.zero).flags, .int .i64 ((E.getK J n f gr key).getD It.zero).exp, .int .u64 ((E.getK J n f gr key).getD It.zero).ver], .bool (E.logK J n f gr key), .int .i64 (if (E.getK J n f gr key).isSome then 0 else 5)]) /\ ∃ S2, EnAt w0 w' x d E j m nj J s first n S2 f bs G l ml v5 v6 v7 T /\ LikeB S' S2 /\ Moves G G W w') := fun W S' hE key hk => by
  have := find_any hE key (Nat.le_trans hk (by decide)) hk _ (gr key) rfl (hgr key) (sm_len hE.bu key) (gr_len hE.lg (hgr key))
  rw [fnd_is] at this
  exact this
 have HOS := hide (allF_oks h.bu)
 have HOG := hide (items_oks h.lg)
 have hil : T.items.length <= 40000 := Nat.le_trans (hadOf_length T T.all) hbig
 obtain ⟨gs, hgs⟩ : ∃ gs, gs = T.items := ⟨_, rfl⟩
 have cI : Hid (∀ W S', EnAt w0 W x d E j m nj J s first n S' f bs G l ml v5 v6 v7 T -> Calls Tryz.prog 96 #[.pointer (some ⟨l, 0, none⟩)] W fun e w' => ∃ va vn vc, e = .returned (.slice va vn vc) /\ vn = gs.length /\ Row w' W.heap.size (.slice va vn vc) gs /\ Below W.heap.size W w') := fun W S' hE => by rw [hgs]; exact items_log hE.lg hbig hrl
 rw [<- hgs] at hil HOG ⊢
 obtain ⟨xs, hxs⟩ : ∃ xs, xs = allF n f := ⟨_, rfl⟩
 rw [<- hxs] at hsm HOS cS ⊢
 have c11 := h.box.cell (i := 11) rfl
 have HLT : Hid (∀ q, (q = x \/ q = j \/ q = m \/ q ∈ G \/ q ∈ lblocks l ml v5 v6 v7 T) -> q < w.heap.size) := hlt
 have HG := hide hG
 have HE := hide h
 clear h hlt hG hbig hrl hgr hxs hgs
 go_enter Tryz.func39, Tryz.ntmps39
 go_wp2_with fail
 refine cS.out.mono ?_
 rintro e w1 ⟨v, rfl, hR1, S1, hb1, hl1, hm1⟩
 obtain ⟨sa, sc, rfl⟩ := hR1.sl
 have hE1 := HE.out.turn hb1 hm1
 have hs1 := hm1.keep.size
 have HE1 := hide hE1
 have HR1 := hide hR1
 have HL1 := hide hl1
 have HM1 := hide hm1
 clear hE1 hR1 hl1 hm1 hb1 cS c11
 obtain ⟨sn, hsn⟩ : ∃ sn, sn = xs.length := ⟨_, rfl⟩
 rw [<- hsn] at HR1 ⊢
 have HSN := hide hsn
 rw [<- hsn] at hsm
 clear hsn
 go_wp2_with fail
 go_loopg [5, 27] sn (fun kx s5 s27 wr => ∃ (i : Nat) (va : Option Addr) (vn vc : Nat), s5 = .slice va vn vc /\ s27 = .int .i64 i /\ i <= sn /\ sn - i <= kx /\ Hid (Row wr w1.heap.size (.slice va vn vc) ((xs.take i).filter (E.itS J n f gr)) /\ Keep G w1 wr /\ ∃ S', EnAt w0 wr x d E j m nj J s first n S' f bs G l ml v5 v6 v7 T /\ LikeB S S'))
 case atStart => exact ⟨0, none, 0, 0, rfl, rfl, Nat.zero_le _, by omega, Row.nil _ _, Keep.refl _ _, S1, HE1.out, HL1.out⟩
 case round =>
  obtain ⟨i, va, vn, vc, rfl, rfl, hin, hg, I⟩ := hrel
  by_cases hlt : i < sn
  ·have hlt2 : (i : Int) < (sn : Int) := by omega
   obtain ⟨y, hy⟩ : ∃ y, xs[i]? = some y := ⟨_, List.getElem?_eq_getElem (by rw [<- HSN.out]; exact hlt)⟩
   obtain ⟨hRi, hKi, S2, hE2, hL2⟩ := I.out
   have hRx : Row wr w.heap.size (.slice sa sn sc) xs := HR1.out.keep (fun q hq => hKi.block q (HR1.out.lt q hq).2 (fun hg => by have := (HR1.out.lt q hq).1; have := HG.out q hg; omega))
   obtain ⟨g, rfl, hsc, hO⟩ := row_at hRx HOS.out HSN.out hy
   obtain ⟨t0, t1, t2, t3, t4⟩ := hO.vals
   have hyo := HOS.out y (List.mem_of_getElem? hy)
   have ET : Hid (xs.take (i + 1) = xs.take i ++ [y]) := by show _ = _; rw [List.take_add_one, hy]; rfl
   have B2 : Below wr.heap.size wr (wr.alloc (.cells #[.string (txt y.key), .string (txt y.value), .int .u32 y.flags, .int .i64 y.exp, .int .u64 y.ver] 39)) := (Below.refl _ _).alloc (Nat.le_refl _) _
   have hB3 : Blk (wr.alloc (.cells #[.string (txt y.key), .string (txt y.value), .int .u32 y.flags, .int .i64 y.exp, .int .u64 y.ver] 39)) wr.heap.size (itL y) 39 := Blk.new wr (itL y) 39
   have k3 := hB3.cell (i := 0) rfl
   have HB3 := hide hB3
   have CG := hide (cG.out _ S2 (hE2.below B2) y.key hyo.2.1)
   have HB2 := hide B2
   have hws := hKi.size
   have HII := hide (And.intro hRi (And.intro hKi hL2))
   have EC : Hid (E.itS J n f gr y = itEq ((E.getK J n f gr y.key).getD It.zero) y) := rfl
   have hlen : ((xs.take i).filter (E.itS J n f gr)).length <= 40000 := by
    have h1 := List.length_filter_le (E.itS J n f gr) (xs.take i)
    rw [List.length_take] at h1
    omega
   have HLEN := hide hlen
   generalize (E.getK J n f gr y.key).getD It.zero = c at *
   generalize (if (E.getK J n f gr y.key).isSome = true then (0 : Int) else 5) = er at *
   clear hRi hKi hE2 hL2 hRx hO hyo B2 hB3 hlen hy
   go_wp2_with fail
   refine CG.out.mono ?_
   rintro e w4 ⟨rfl, S3, hE4, hL4, hM4⟩
   have hN4 : wr.heap.size ∉ G := fun hq => by have := HG.out _ hq; omega
   have hB4 : Blk w4 wr.heap.size (itL y) 39 := HB3.out.same (hM4.keep.block _ HB3.out.lt hN4)
   have b5 : Below w4.heap.size w4 (w4.alloc (.cells #[.string (txt c.key), .string (txt c.value), .int .u32 c.flags, .int .i64 c.exp, .int .u64 c.ver] 39)) := (Below.refl _ _).alloc (Nat.le_refl _) _
   have hB5 : Blk (w4.alloc (.cells #[.string (txt c.key), .string (txt c.value), .int .u32 c.flags, .int .i64 c.exp, .int .u64 c.ver] 39)) wr.heap.size (itL y) 39 := hB4.same (b5.block _ hB4.lt)
   have hB6 : Blk (w4.alloc (.cells #[.string (txt c.key), .string (txt c.value), .int .u32 c.flags, .int .i64 c.exp, .int .u64 c.ver] 39)) w4.heap.size (itL c) 39 := Blk.new w4 (itL c) 39
   have hE5 := hE4.below b5
   have hK5 : Keep G wr (w4.alloc (.cells #[.string (txt c.key), .string (txt c.value), .int .u32 c.flags, .int .i64 c.exp, .int .u64 c.ver] 39)) := ((Keep.of_below HB2.out).trans hM4.keep (fun q hq => .inl hq)).trans (Keep.of_below (F := []) b5) (fun q hq => by cases hq)
   have hQ : ∀ W, (binOp .eql 39 (.agg #[.string (txt c.key), .string (txt c.value), .int .u32 c.flags, .int .i64 c.exp, .int .u64 c.ver]) (.agg #[.string (txt y.key), .string (txt y.value), .int .u32 y.flags, .int .i64 y.exp, .int .u64 y.ver])).run Tryz.prog W = .ok (.bool (itEq c y)) W := fun W => run_eql_items c y W
   obtain ⟨N1, hN1⟩ : ∃ N1, wr.heap.size = N1 := ⟨_, rfl⟩
   obtain ⟨N2, hN2⟩ : ∃ N2, w4.heap.size = N2 := ⟨_, rfl⟩
   obtain ⟨W5, hW5⟩ : ∃ W5, w4.alloc (.cells #[.string (txt c.key), .string (txt c.value), .int .u32 c.flags, .int .i64 c.exp, .int .u64 c.ver] 39) = W5 := ⟨_, rfl⟩
   rw [hN1, hW5] at hB5
   rw [hN2, hW5] at hB6
   rw [hW5] at hE5 hK5
   obtain ⟨a0, a1, a2, a3, a4, _⟩ := cells5 hB5
   obtain ⟨c0, c1, c2, c3, c4, _⟩ := cells5 hB6
   have HE5 := hide hE5
   have HK5 := hide hK5
   have HL4 := hide hL4
   simp only [hN1, hN2, hW5]
   clear hE5 hK5 hE4 hL4 hM4 hB4 b5 hB5 hB6 k3 t0 t1 t2 t3 t4 CG HB3
   generalize itEq c y = bq at *
   cases bq with
   | false =>
    have EF : Hid ((xs.take (i + 1)).filter (E.itS J n f gr) = (xs.take i).filter (E.itS J n f gr)) := by show _ = _; rw [ET.out, List.filter_append]; simp [EC.out]
    have TT : Hid (Row W5 w1.heap.size (.slice va vn vc) ((xs.take (i + 1)).filter (E.itS J n f gr)) /\ Keep G w1 W5 /\ ∃ S', EnAt w0 W5 x d E j m nj J s first n S' f bs G l ml v5 v6 v7 T /\ LikeB S S') := by
     refine ⟨by rw [EF.out]; exact HII.out.1.keep (fun q hq => HK5.out.block q (HII.out.1.lt q hq).2 (fun hg => by have := (HII.out.1.lt q hq).1; have := HG.out q hg; omega)), HII.out.2.1.trans HK5.out (fun q hq => .inl hq), S3, HE5.out, HII.out.2.2.trans HL4.out⟩
    clear EC ET
    go_wp2
    go_roundg (sn - (i + 1))
    case measure => omega
    case rel => exact ⟨i + 1, va, vn, vc, rfl, rfl, by omega, by omega, TT.out⟩
   | true =>
    have EF : Hid ((xs.take (i + 1)).filter (E.itS J n f gr) = (xs.take i).filter (E.itS J n f gr) ++ [y]) := by show _ = _; rw [ET.out, List.filter_append]; simp [EC.out]
    have hR5 : Row W5 w1.heap.size (.slice va vn vc) ((xs.take i).filter (E.itS J n f gr)) := HII.out.1.keep (fun q hq => HK5.out.block q (HII.out.1.lt q hq).2 (fun hg => by have := (HII.out.1.lt q hq).1; have := HG.out q hg; omega))
    have hs5 := HK5.out.size
    obtain ⟨ua, uc, w6, hrun, hrow, hkp, hblk, _⟩ := app_it hR5 y (by have := HLEN.out; omega) (by omega)
    have hown : ∀ q ∈ own (.slice va vn vc), w1.heap.size <= q := fun q hq => (hR5.lt q (mem_own.1 hq)).1
    have TT : Hid (Row w6 w1.heap.size (.slice ua (((xs.take i).filter (E.itS J n f gr)).length + 1) uc) ((xs.take (i + 1)).filter (E.itS J n f gr)) /\ Keep G w1 w6 /\ ∃ S', EnAt w0 w6 x d E j m nj J s first n S' f bs G l ml v5 v6 v7 T /\ LikeB S S') := by
     refine ⟨by rw [EF.out]; exact hrow, (HII.out.2.1.trans HK5.out (fun q hq => .inl hq)).trans hkp (fun q hq => .inr (hown q hq)), S3, HE5.out.away hkp (fun q hq ho => ?_) (fun q hq => ?_), HII.out.2.2.trans HL4.out⟩
     ·have := HLT.out q hq
      have := hown q ho
      omega
     ·have := hown q hq
      omega
    have HRUN := hide hrun
    clear EC ET hrun hrow hkp hblk hR5 hown EF
    generalize ((xs.take i).filter (E.itS J n f gr)).length + 1 = un at *
    go_wp2_with (at_builtin; refine Lib.wpList_append_run _ rfl _ _ _ _ rfl _ _ rfl rfl _ _ (HRUN.out _) ?_)
    go_roundg (sn - (i + 1))
    case measure => omega
    case rel => exact ⟨i + 1, ua, un, uc, rfl, rfl, by omega, by omega, TT.out⟩
  ·obtain rfl : i = sn := by omega
   have hlt2 : ¬ (i : Int) < (i : Int) := by omega
   obtain ⟨wo, hwo⟩ : ∃ wo, wo = wr := ⟨_, rfl⟩
   subst hwo
   obtain ⟨hRi, hKi, S2, hE2, hL2⟩ := I.out
   rw [HSN.out, List.take_length] at hRi
   have c12 := hE2.box.cell (i := 12) rfl
   have CI := hide (cI.out wo S2 hE2)
   have hws := hKi.size
   have HII := hide (And.intro hRi (And.intro hKi (And.intro hE2 hL2)))
   clear hRi hKi hE2 hL2 cI
   go_wp2_with fail
   refine CI.out.mono ?_
   rintro e w2 ⟨ga, gn, gc, rfl, hgn, hRg, hBg⟩
   have hs2 := hBg.size
   obtain ⟨A, hA⟩ : ∃ A, A = xs.filter (E.itS J n f gr) := ⟨_, rfl⟩
   have hAl : A.length <= 40000 := by
    rw [hA]
    exact Nat.le_trans (List.length_filter_le _ _) (by rw [<- HSN.out]; exact hsm)
   have Z0 : Hid (Row w2 w1.heap.size (.slice va vn vc) (A ++ (gs.take 0).filter (E.itG J n f gr)) /\ (∀ q ∈ own (.slice va vn vc), q < wo.heap.size \/ w2.heap.size <= q) /\ Row w2 wo.heap.size (.slice ga gn gc) gs /\ Keep G w1 w2 /\ ∃ S', EnAt w0 w2 x d E j m nj J s first n S' f bs G l ml v5 v6 v7 T /\ LikeB S S') := by
    refine ⟨?_, fun q hq => .inl (HII.out.1.lt q (mem_own.1 hq)).2, hRg, HII.out.2.1.trans (Keep.of_below (F := []) hBg) (fun q hq => by cases hq), S2, HII.out.2.2.1.below hBg, HII.out.2.2.2⟩
    rw [hA]
    simpa using HII.out.1.below hBg
   have HGN := hide hgn
   have HA := hide hA
   have HAL := hide hAl
   rw [<- hgn] at hil
   clear hRg hBg hgn hA hAl CI c12 HII
   go_wp2_with fail
   go_loopg [5, 52] gn (fun kx s5 s52 wr => ∃ (k : Nat) (va : Option Addr) (vn vc : Nat), s5 = .slice va vn vc /\ s52 = .int .i64 k /\ k <= gn /\ gn - k <= kx /\ Hid (Row wr w1.heap.size (.slice va vn vc) (A ++ (gs.take k).filter (E.itG J n f gr)) /\ (∀ q ∈ own (.slice va vn vc), q < wo.heap.size \/ w2.heap.size <= q) /\ Row wr wo.heap.size (.slice ga gn gc) gs /\ Keep G w1 wr /\ w2.heap.size <= wr.heap.size /\ (∀ q, (Value.slice ga gn gc).ownBlock = some q -> q < w2.heap.size) /\ ∃ S', EnAt w0 wr x d E j m nj J s first n S' f bs G l ml v5 v6 v7 T /\ LikeB S S'))
   case atStart => exact ⟨0, va, vn, vc, rfl, rfl, Nat.zero_le _, by omega, Z0.out.1, Z0.out.2.1, Z0.out.2.2.1, Z0.out.2.2.2.1, Nat.le_refl _, fun q hq => (Z0.out.2.2.1.lt q hq).2, Z0.out.2.2.2.2⟩
   case round =>
    obtain ⟨k, va, vn, vc, rfl, rfl, hkn, hkg, Z⟩ := hrel
    obtain ⟨hRi, hOw, hRg, hKi, hsz, hgb, S2, hE2, hL2⟩ := Z.out
    by_cases hlk : k < gn
    ·have hlk2 : (k : Int) < (gn : Int) := by omega
     obtain ⟨y, hy⟩ : ∃ y, gs[k]? = some y := ⟨_, List.getElem?_eq_getElem (by rw [<- HGN.out]; exact hlk)⟩
     obtain ⟨g, rfl, hgc, hO⟩ := row_at hRg HOG.out HGN.out hy
     obtain ⟨t0, t1, t2, t3, t4⟩ := hO.vals
     have hyo := HOG.out y (List.mem_of_getElem? hy)
     have ET : Hid (gs.take (k + 1) = gs.take k ++ [y]) := by show _ = _; rw [List.take_add_one, hy]; rfl
     have B2 : Below wr.heap.size wr (wr.alloc (.cells #[.string (txt y.key), .string (txt y.value), .int .u32 y.flags, .int .i64 y.exp, .int .u64 y.ver] 39)) := (Below.refl _ _).alloc (Nat.le_refl _) _
     have hB3 : Blk (wr.alloc (.cells #[.string (txt y.key), .string (txt y.value), .int .u32 y.flags, .int .i64 y.exp, .int .u64 y.ver] 39)) wr.heap.size (itL y) 39 := Blk.new wr (itL y) 39
     have k3 := hB3.cell (i := 0) rfl
     have HB3 := hide hB3
     have CF := hide (cF.out _ S2 (hE2.below B2) y.key hyo.2.1)
     have HB2 := hide B2
     have EC : Hid (E.itG J n f gr y = E.logK J n f gr y.key) := rfl
     have hlen : (A ++ (gs.take k).filter (E.itG J n f gr)).length <= 80000 := by
      have h1 := List.length_filter_le (E.itG J n f gr) (gs.take k)
      rw [List.length_take] at h1
      rw [List.length_append]
      have := HAL.out
      omega
     have HLEN := hide hlen
     have HII := hide (And.intro hRi (And.intro hRg (And.intro hKi (And.intro hL2 (And.intro hOw hgb)))))
     have hwz := hKi.size
     generalize (E.getK J n f gr y.key).getD It.zero = c at *
     generalize (if (E.getK J n f gr y.key).isSome = true then (0 : Int) else 5) = er at *
     generalize E.logK J n f gr y.key = bq at *
     clear hRi hKi hE2 hL2 hRg hO hyo B2 hB3 hlen hy hOw hgb
     go_wp2_with fail
     refine CF.out.mono ?_
     rintro e w4 ⟨rfl, S3, hE4, hL4, hM4⟩
     have hN4 : wr.heap.size ∉ G := fun hq => by have := HG.out _ hq; omega
     have hB4 : Blk w4 wr.heap.size (itL y) 39 := HB3.out.same (hM4.keep.block _ HB3.out.lt hN4)
     have b5 : Below w4.heap.size w4 (w4.alloc (.cells #[.string (txt c.key), .string (txt c.value), .int .u32 c.flags, .int .i64 c.exp, .int .u64 c.ver] 39)) := (Below.refl _ _).alloc (Nat.le_refl _) _
     have hB5 : Blk (w4.alloc (.cells #[.string (txt c.key), .string (txt c.value), .int .u32 c.flags, .int .i64 c.exp, .int .u64 c.ver] 39)) wr.heap.size (itL y) 39 := hB4.same (b5.block _ hB4.lt)
     have hE5 := hE4.below b5
     have hK5 : Keep G wr (w4.alloc (.cells #[.string (txt c.key), .string (txt c.value), .int .u32 c.flags, .int .i64 c.exp, .int .u64 c.ver] 39)) := ((Keep.of_below HB2.out).trans hM4.keep (fun q hq => .inl hq)).trans (Keep.of_below (F := []) b5) (fun q hq => by cases hq)
     obtain ⟨N1, hN1⟩ : ∃ N1, wr.heap.size = N1 := ⟨_, rfl⟩
     obtain ⟨N2, hN2⟩ : ∃ N2, w4.heap.size = N2 := ⟨_, rfl⟩
     obtain ⟨W5, hW5⟩ : ∃ W5, w4.alloc (.cells #[.string (txt c.key), .string (txt c.value), .int .u32 c.flags, .int .i64 c.exp, .int .u64 c.ver] 39) = W5 := ⟨_, rfl⟩
     rw [hN1, hW5] at hB5
     rw [hW5] at hE5 hK5
     obtain ⟨a0, a1, a2, a3, a4, _⟩ := cells5 hB5
     have HE5 := hide hE5
     have HK5 := hide hK5
     have HL4 := hide hL4
     have hs5 := hK5.size
     have hR5 : Row W5 w1.heap.size (.slice va vn vc) (A ++ (gs.take k).filter (E.itG J n f gr)) := HII.out.1.keep (fun q hq => hK5.block q (HII.out.1.lt q hq).2 (fun hg => by have := (HII.out.1.lt q hq).1; have := HG.out q hg; omega))
     have hG5 : Row W5 wo.heap.size (.slice (some ⟨g, 0, none⟩) gn gc) gs := HII.out.2.1.keep (fun q hq => hK5.block q (HII.out.2.1.lt q hq).2 (fun hg => by have := (HII.out.2.1.lt q hq).1; have := HG.out q hg; omega))
     simp only [hN1, hN2, hW5]
     clear hE5 hK5 hE4 hL4 hM4 hB4 b5 hB5 k3 t0 t1 t2 t3 t4 CF HB3
     cases bq with
     | false =>
      have EF : Hid ((gs.take (k + 1)).filter (E.itG J n f gr) = (gs.take k).filter (E.itG J n f gr)) := by show _ = _; rw [ET.out, List.filter_append]; simp [EC.out]
      have TT : Hid (Row W5 w1.heap.size (.slice va vn vc) (A ++ (gs.take (k + 1)).filter (E.itG J n f gr)) /\ (∀ q ∈ own (.slice va vn vc), q < wo.heap.size \/ w2.heap.size <= q) /\ Row W5 wo.heap.size (.slice (some ⟨g, 0, none⟩) gn gc) gs /\ Keep G w1 W5 /\ w2.heap.size <= W5.heap.size /\ (∀ q, (Value.slice (some ⟨g, 0, none⟩) gn gc).ownBlock = some q -> q < w2.heap.size) /\ ∃ S', EnAt w0 W5 x d E j m nj J s first n S' f bs G l ml v5 v6 v7 T /\ LikeB S S') :=
       ⟨by rw [EF.out]; exact hR5, HII.out.2.2.2.2.1, hG5, HII.out.2.2.1.trans HK5.out (fun q hq => .inl hq), by omega, HII.out.2.2.2.2.2, S3, HE5.out, HII.out.2.2.2.1.trans HL4.out⟩
      clear EC ET hR5 hG5
      go_wp2
      go_roundg (gn - (k + 1))
      case measure => omega
      case rel => exact ⟨k + 1, va, vn, vc, rfl, rfl, by omega, by omega, TT.out⟩
     | true =>
      have EF : Hid ((gs.take (k + 1)).filter (E.itG J n f gr) = (gs.take k).filter (E.itG J n f gr) ++ [y]) := by show _ = _; rw [ET.out, List.filter_append]; simp [EC.out]
      obtain ⟨ua, uc, w6, hrun, hrow, hkp, hblk, hsz6⟩ := app_it hR5 y (by have := HLEN.out; omega) (by omega)
      have hown : ∀ q ∈ own (.slice va vn vc), w1.heap.size <= q := fun q hq => (hR5.lt q (mem_own.1 hq)).1
      have TT : Hid (Row w6 w1.heap.size (.slice ua ((A ++ (gs.take k).filter (E.itG J n f gr)).length + 1) uc) (A ++ (gs.take (k + 1)).filter (E.itG J n f gr)) /\ (∀ q ∈ own (.slice ua ((A ++ (gs.take k).filter (E.itG J n f gr)).length + 1) uc), q < wo.heap.size \/ w2.heap.size <= q) /\ Row w6 wo.heap.size (.slice (some ⟨g, 0, none⟩) gn gc) gs /\ Keep G w1 w6 /\ w2.heap.size <= w6.heap.size /\ (∀ q, (Value.slice (some ⟨g, 0, none⟩) gn gc).ownBlock = some q -> q < w2.heap.size) /\ ∃ S', EnAt w0 w6 x d E j m nj J s first n S' f bs G l ml v5 v6 v7 T /\ LikeB S S') := by
       refine ⟨by rw [EF.out, <- List.append_assoc]; exact hrow, fun q hq => ?_, hG5.keep (fun q hq => hkp.block q (hG5.lt q hq).2 (fun ho => ?_)), (HII.out.2.2.1.trans HK5.out (fun q hq => .inl hq)).trans hkp (fun q hq => .inr (hown q hq)), by omega, HII.out.2.2.2.2.2, S3, HE5.out.away hkp (fun q hq ho => ?_) (fun q hq => ?_), HII.out.2.2.2.1.trans HL4.out⟩
       ·rcases hblk q hq with h1 | h1
        ·exact HII.out.2.2.2.2.1 q h1
        ·exact .inr (by omega)
       ·have h1 := (hG5.lt q hq).1
        have h2 := HII.out.2.2.2.2.2 q hq
        rcases HII.out.2.2.2.2.1 q ho with h3 | h3 <;> omega
       ·have := HLT.out q hq
        have := hown q ho
        omega
       ·have := hown q hq
        omega
      have HRUN := hide hrun
      clear EC ET hrun hrow hkp hblk hR5 hG5 hown EF
      generalize (A ++ (gs.take k).filter (E.itG J n f gr)).length + 1 = un at *
      go_wp2_with (at_builtin; refine Lib.wpList_append_run _ rfl _ _ _ _ rfl _ _ rfl rfl _ _ (HRUN.out _) ?_)
      go_roundg (gn - (k + 1))
      case measure => omega
      case rel => exact ⟨k + 1, ua, un, uc, rfl, rfl, by omega, by omega, TT.out⟩
    ·obtain rfl : k = gn := by omega
     have hlk2 : ¬ (k : Int) < (k : Int) := by omega
     rw [HGN.out, List.take_length, HA.out] at hRi
     have ZZ : Hid (Row wr w.heap.size (.slice va vn vc) (xs.filter (E.itS J n f gr) ++ gs.filter (E.itG J n f gr)) /\ ∃ S', EnAt w0 wr x d E j m nj J s first n S' f bs G l ml v5 v6 v7 T /\ LikeB S S' /\ Moves G G w wr) := ⟨hRi.mono (by omega), S2, hE2, hL2, HM1.out.trans (Moves.of_keep hKi)⟩
     clear hRi hOw hRg hKi hgb hE2 hL2
     go_wp2
     go_ret
     exact ⟨va, vn, vc, rfl, ZZ.out⟩
end
end Go.Proofs.YtcdghalnneilpaaGreat
