/- leave, push, moveTo of three rings. -/
import Derived.Test.YtdkiegkgnimapabDoorRg3
set_option linter.unusedVariables false
set_option linter.unusedSimpArgs false
set_option maxRecDepth 8000
namespace Go.Proofs.YtdkiegkgnimapabDoor.Sgg
open Go.RowKit Go.Deep
theorem Tn.drew {ex : List (Pl × Nat)} {w a : World} (h : Tn ex w a) : Tn ex w a.drew := h.heap rfl
section
variable {w w' : World} {f m k j : Nat} {L : Nat → List En} {F : List Nat} {A B : List En} {x : En}
theorem NdAt.same {e : En} (h : NdAt w e) (hb : w'.heap[e.b]? = w.heap[e.b]?) : NdAt w' e := ⟨h.sh.same hb, (fc_heap hb).trans h.c0, (fc_heap hb).trans h.c1⟩
theorem SgIn.same (h : SgIn w f m L F) (hf : w'.heap[f]? = w.heap[f]?) (he : ∀ k, k < 3 → ∀ e ∈ L k, w'.heap[e.b]? = w.heap[e.b]?) : SgIn w' f m L F := by
  have hp : ∀ k, k < 3 → ∀ p ∈ plc f L k, w'.heap[p.1]? = w.heap[p.1]? := fun k hk p hp => by
    rcases h.plc_at hk hp with ⟨h1, _⟩ | ⟨e, h1, rfl⟩
    · rw [h1]; exact hf
    · exact he k hk e h1
  refine ⟨h.own.same hf, (fc_heap hf).trans h.mp, fun k hk => (fc_heap hf).trans (h.cnt k hk), fun k hk => (h.ring k hk).same (fun q hq => fc_heap (hp k hk q hq)) (fun q hq => fc_heap (hp k hk q ?_)), fun k hk e h1 => (h.node k hk e h1).same (he k hk e h1), fun k hk e h1 => (fc_heap (he k hk e h1)).trans (h.lin k hk e h1), h.nd, h.ap, h.fF, h.eF⟩
  rcases List.mem_append.1 hq with e | e
  · exact List.mem_cons_of_mem _ e
  · rw [List.mem_singleton.1 e]; exact List.mem_cons_self ..
theorem SgIn.heap (h : SgIn w f m L F) (e : w'.heap = w.heap) : SgIn w' f m L F := h.same (by rw [e]) (fun _ _ _ _ => by rw [e])
theorem SgIn.leave (h : SgIn w f m L F) (hk : k < 3) (hs : L k = A ++ x :: B) (hn : (L k).length ≤ 1000000) :
    Calls Tryd.prog 70 #[.pointer (some ⟨x.b, 0, none⟩)] w fun e w' => e = .returned (.tuple #[]) ∧ SgIn w' f m (upL L k (A ++ B)) F ∧ NdAt w' x ∧ (∀ j, j < 3 → ∀ e ∈ upL L k (A ++ B) j, e.b ≠ x.b) ∧ Keep F w w' := by
  have ia := prv_in (f := f) hs
  have ic := nxt_in (f := f) hs
  have hR := h.ring k hk
  rw [hs, List.map_append, List.map_cons] at hR
  have hm := h.leave_mem hk hs
  obtain ⟨h1, h2⟩ := Lk.app.1 hR
  have l3 := h1.last.2
  have l4 := h2.head.1
  have hx : x ∈ L k := by rw [hs]; simp
  have nx : prv (P3 f k) (A.map pl) ≠ pl x := fun e => by
    have nd := h.plc_nd hk
    unfold plc at nd
    rw [hs, List.map_append, List.map_cons, ← List.cons_append, List.nodup_append] at nd
    exact nd.2.2 _ (prv_mem _ _) _ (List.mem_cons_self ..) e
  have nc : nxt (B.map pl) (P3 f k) ≠ pl x := fun e => by
    have nd := h.plc_nd hk
    unfold plc at nd
    rw [hs, List.map_append, List.map_cons, List.nodup_cons, List.nodup_append, List.nodup_cons] at nd
    rcases List.mem_append.1 (nxt_mem (B.map pl) (P3 f k)) with h5 | h5
    · rw [e] at h5; exact nd.2.2.1.1 h5
    · rw [e] at h5; exact pl_ne_P3 (h.off hk hx) (List.mem_singleton.1 h5)
  obtain ⟨a, ea⟩ : ∃ a, a = prv (P3 f k) (A.map pl) := ⟨_, rfl⟩
  obtain ⟨c, ec⟩ : ∃ c, c = nxt (B.map pl) (P3 f k) := ⟨_, rfl⟩
  rw [← ea] at ia l3 nx hm
  rw [← ec] at ic l4 nc hm
  obtain ⟨wa, Fa, _⟩ := h.plc_wr hk ia (r := 4) (by decide)
  obtain ⟨wc, Fc, _⟩ := h.plc_wr hk ic (r := 3) (by decide)
  have T2 := (((Tn.refl w).heap (b := w.drew) rfl).set a 4 (ptr c) (plc_six ia) (by decide)).set c 3 (ptr a) (plc_six ic) (by decide)
  have hlen : ((L k).length : Int) - 1 = ((A ++ B).length : Int) := by rw [hs]; simp; omega
  have h1n : (1 : Int) ≤ ((L k).length : Int) := by rw [hs]; simp; omega
  have ne1 : a.1 ≠ x.b := fun e => by
    rcases h.plc_at hk ia with ⟨h5, h6⟩ | ⟨e', he', h5⟩
    · exact h.off hk hx (e.symm.trans h5)
    · exact nx (by rw [h5]; unfold pl; rw [h5] at e; exact Prod.ext e rfl)
  have hn2 : ((L k).length : Int) ≤ 1000000 := by omega
  refine (leave_raw x.b a.1 a.2 c.1 c.2 f (6 * k) ((L k).length : Int) w l3 l4 ne1 wa wc ?_ ?_ (h.own.wr (by omega)) h1n hn2).mono ?_
  · exact (T2.fld (pl x) 2 (six_pl x) (by decide) (by simp)).trans (h.lin k hk x hx)
  · exact (T2.fld (P3 f k) 5 (six_P3 f k) (by decide) (by simp)).trans (h.cnt k hk)
  · rintro e w' ⟨rfl, rfl⟩
    rw [hlen]
    refine ⟨rfl, hm.1, hm.2.1, hm.2.2, ?_⟩
    exact ((((Keep.refl F w).drew).setCell (.inl Fa) _).setCell (.inl Fc) _).setCell (.inl h.fF) _

/-! ### push -/
def wPush (w : World) (x c P : Pl) (n : Int) : World :=
  ((((((w.drew.setCell ⟨x.1, x.2 + 2, none⟩ (ptr P)).setCell ⟨x.1, x.2 + 3, none⟩ (ptr P)).setCell ⟨x.1, x.2 + 4, none⟩ (ptr c)).drew.setCell ⟨P.1, P.2 + 4, none⟩ (ptr x)).setCell ⟨c.1, c.2 + 3, none⟩ (ptr x)).setCell ⟨P.1, P.2 + 5, none⟩ (.int .i64 n))
theorem tn_push (x c P : Pl) (n : Int) (hx : Six x) (hc : Six c) (hP : Six P) : Tn [(P, 5), (c, 3), (P, 4), (x, 4), (x, 3), (x, 2)] w (wPush w x c P n) :=
  ((((((((Tn.refl w).heap (b := w.drew) rfl).set x 2 (ptr P) hx (by decide)).set x 3 (ptr P) hx (by decide)).set x 4 (ptr c) hx (by decide)).heap (b := World.drew _) rfl).set P 4 (ptr x) hP (by decide)).set c 3 (ptr x) hc (by decide)).set P 5 _ hP (by decide)
theorem fld_push {x c P : Pl} (n : Int) (hx : Six x) (hc : Six c) (hP : Six P) (xc : x ≠ c) (xP : x ≠ P) {n1 n2 n3 : Nat} {t1 t2 t3 : TypeId} (s1 : Sh w x.1 n1 t1) (l1 : x.2 + 4 < n1) (s2 : Sh w c.1 n2 t2) (l2 : c.2 + 3 < n2) (s3 : Sh w P.1 n3 t3) (l3 : P.2 + 5 < n3) :
    fc (wPush w x c P n) x 2 = some (ptr P) ∧ fc (wPush w x c P n) x 3 = some (ptr P) ∧ fc (wPush w x c P n) x 4 = some (ptr c) ∧ fc (wPush w x c P n) P 4 = some (ptr x) ∧ fc (wPush w x c P n) c 3 = some (ptr x) ∧ fc (wPush w x c P n) P 5 = some (.int .i64 n) := by
  unfold wPush
  have d : ∀ {W : World} {q : Pl} {s : Nat}, fc W.drew q s = fc W q s := fun {W q s} => rfl
  have s1' : Sh w.drew x.1 n1 t1 := s1
  have s2' : Sh w.drew c.1 n2 t2 := s2
  have s3' : Sh w.drew P.1 n3 t3 := s3
  refine ⟨?_, ?_, ?_, ?_, ?_, ?_⟩
  · rw [fc_other hP hx (by decide) (by decide) (.inr (by decide)), fc_other hc hx (by decide) (by decide) (.inr (by decide)), fc_other hP hx (by decide) (by decide) (.inr (by decide)), d, fc_other hx hx (by decide) (by decide) (.inr (by decide)), fc_other hx hx (by decide) (by decide) (.inr (by decide))]
    exact fc_same s1' (by omega)
  · rw [fc_other hP hx (by decide) (by decide) (.inr (by decide)), fc_other hc hx (by decide) (by decide) (.inl xc), fc_other hP hx (by decide) (by decide) (.inr (by decide)), d, fc_other hx hx (by decide) (by decide) (.inr (by decide))]
    exact fc_same (s1'.set _ _ _) (by omega)
  · rw [fc_other hP hx (by decide) (by decide) (.inr (by decide)), fc_other hc hx (by decide) (by decide) (.inr (by decide)), fc_other hP hx (by decide) (by decide) (.inl xP), d]
    exact fc_same ((s1'.set _ _ _).set _ _ _) (by omega)
  · rw [fc_other hP hP (by decide) (by decide) (.inr (by decide)), fc_other hc hP (by decide) (by decide) (.inr (by decide))]
    refine fc_same (n := n3) (t := t3) ?_ (by omega)
    exact ((s3'.set _ _ _).set _ _ _).set _ _ _
  · rw [fc_other hP hc (by decide) (by decide) (.inr (by decide))]
    refine fc_same (n := n2) (t := t2) (Sh.set ?_ _ _ _) (by omega)
    exact ((s2'.set _ _ _).set _ _ _).set _ _ _
  · refine fc_same (n := n3) (t := t3) ((Sh.set ?_ _ _ _).set _ _ _) (by omega)
    exact ((s3'.set _ _ _).set _ _ _).set _ _ _
theorem not_px {q x c P : Pl} {s : Nat} (hx : q ≠ x ∨ s < 2) (h5 : q ≠ P ∨ s ≠ 5) (h3 : q ≠ c ∨ s ≠ 3) (h4 : q ≠ P ∨ s ≠ 4) : (q, s) ∉ [(P, 5), (c, 3), (P, 4), (x, 4), (x, 3), (x, 2)] := by
  simp only [List.mem_cons, Prod.mk.injEq, List.not_mem_nil, or_false, not_or]
  refine ⟨?_, ?_, ?_, ?_, ?_, ?_⟩
  · rintro ⟨rfl, rfl⟩; simp at h5
  · rintro ⟨rfl, rfl⟩; simp at h3
  · rintro ⟨rfl, rfl⟩; simp at h4
  · rintro ⟨rfl, rfl⟩; simp at hx
  · rintro ⟨rfl, rfl⟩; simp at hx
  · rintro ⟨rfl, rfl⟩; simp at hx
theorem SgIn.push_mem (h : SgIn w f m L F) (hk : k < 3) (hx : NdAt w x) (hfr : ∀ j, j < 3 → ∀ e ∈ L j, e.b ≠ x.b) (hF : x.b ∈ F) :
    SgIn (wPush w (pl x) (nxt ((L k).map pl) (P3 f k)) (P3 f k) ((x :: L k).length : Int)) f m (upL L k (x :: L k)) F := by
  have ic := head_in (f := f) (L := L) (k := k)
  have xf : x.b ≠ f := hx.sh.ne h.own (by decide)
  have nin : ∀ j, j < 3 → ∀ q ∈ plc f L j, q ≠ pl x := fun j hj q hq => by
    rcases h.plc_at hj hq with ⟨h1, _⟩ | ⟨e, he, rfl⟩
    · exact fun e => xf (by rw [← h1, e]; rfl)
    · exact fun e1 => hfr j hj e he (pl_inj e1)
  have hR := h.ring k hk
  obtain ⟨c, ec⟩ : ∃ c, c = nxt ((L k).map pl) (P3 f k) := ⟨_, rfl⟩
  rw [← ec] at ic ⊢
  obtain ⟨_, _, nc, tc, sc, lc⟩ := h.plc_wr hk ic (r := 3) (by decide)
  have T := tn_push (w := w) (pl x) c (P3 f k) ((x :: L k).length : Int) (six_pl x) (plc_six ic) (six_P3 f k)
  obtain ⟨g2, g3, g4, p4, c3, p5⟩ := fld_push (w := w) (x := pl x) (c := c) (P := P3 f k) ((x :: L k).length : Int) (six_pl x) (plc_six ic) (six_P3 f k) (nin k hk c ic).symm (nin k hk _ ends_in).symm hx.sh (by simp [pl]) sc lc h.own (by simp only [P3]; omega)
  generalize wPush w (pl x) c (P3 f k) ((x :: L k).length : Int) = W at *
  have nodeW : ∀ e, NdAt w e → NdAt W e := fun e he =>
    ⟨T.sh _ _ _ he.sh, (T.fld _ 0 (six_pl e) (by decide) (not_px (.inr (by decide)) (.inr (by decide)) (.inr (by decide)) (.inr (by decide)))).trans he.c0, (T.fld _ 1 (six_pl e) (by decide) (not_px (.inr (by decide)) (.inr (by decide)) (.inr (by decide)) (.inr (by decide)))).trans he.c1⟩
  have cases2 : ∀ j, j < 3 → ∀ e ∈ upL L k (x :: L k) j, (j = k ∧ e = x) ∨ e ∈ L j := fun j hj e he => by
    by_cases hjk : j = k
    · subst hjk; rw [upL_same] at he
      rcases List.mem_cons.1 he with h1 | h1
      · exact .inl ⟨rfl, h1⟩
      · exact .inr h1
    · rw [upL_other _ _ hjk] at he; exact .inr he
  refine ⟨T.sh _ _ _ h.own, ?_, fun j hj => ?_, fun j hj => ?_, fun j hj e he => ?_, fun j hj e he => ?_, fun j hj => ?_, fun i j hi hj hij e he e' he' => ?_, h.fF, fun j hj e he => ?_⟩
  · refine (T.fld (f, 18) 0 (six_18 f) (by decide) (not_px (.inl ?_) (.inr (by decide)) (.inr (by decide)) (.inr (by decide)))).trans h.mp
    exact fun e => xf (congrArg Prod.fst e).symm
  · by_cases hjk : j = k
    · subst hjk; rw [upL_same]; exact p5
    · rw [upL_other _ _ hjk]
      exact (T.fld _ 5 (six_P3 f j) (by decide) (not_px (.inl (nin j hj _ ends_in)) (.inl (fun e => hjk (P3_inj e))) (.inr (by decide)) (.inr (by decide)))).trans (h.cnt j hj)
  · by_cases hjk : j = k
    · subst hjk
      rw [upL_same, List.map_cons]
      refine hR.push (h.plc_nd hj) ⟨p4, g3⟩ (by rw [← ec]; exact g4) (by rw [← ec]; exact c3) (fun q s hq hs h1 h2 => T.fld q s (plc_six hq) (by omega) (not_px (.inl (nin j hj q hq)) (.inr (by omega)) (by rw [← ec] at h2; exact h2) h1))
    · rw [upL_other _ _ hjk]
      refine (h.ring j hj).same (fun q hq => T.fld q 4 (plc_six hq) (by decide) (not_px (.inl (nin j hj q hq)) (.inr (by decide)) (.inr (by decide)) (.inl (h.plc_ap hj hk hjk hq ends_in)))) (fun q hq => ?_)
      have hq' : q ∈ plc f L j := by
        rcases List.mem_append.1 hq with e | e
        · exact List.mem_cons_of_mem _ e
        · rw [List.mem_singleton.1 e]; exact List.mem_cons_self ..
      exact T.fld q 3 (plc_six hq') (by decide) (not_px (.inl (nin j hj q hq')) (.inr (by decide)) (.inl (h.plc_ap hj hk hjk hq' ic)) (.inr (by decide)))
  · rcases cases2 j hj e he with ⟨_, rfl⟩ | h1
    · exact nodeW _ hx
    · exact nodeW e (h.node j hj e h1)
  · rcases cases2 j hj e he with ⟨rfl, rfl⟩ | h1
    · exact g2
    · refine (T.fld _ 2 (six_pl e) (by decide) (not_px (.inl ?_) (.inr (by decide)) (.inr (by decide)) (.inr (by decide)))).trans (h.lin j hj e h1)
      exact fun e1 => hfr j hj e h1 (pl_inj e1)
  · by_cases hjk : j = k
    · subst hjk
      rw [upL_same, List.map_cons, List.nodup_cons]
      refine ⟨fun hm => ?_, h.nd j hj⟩
      obtain ⟨e, he, e1⟩ := List.mem_map.1 hm
      exact hfr j hj e he e1
    · rw [upL_other _ _ hjk]; exact h.nd j hj
  · rcases cases2 i hi e he with ⟨h1, h2⟩ | h1 <;> rcases cases2 j hj e' he' with ⟨h3, h4⟩ | h3
    · exact absurd (h1.trans h3.symm) hij
    · rw [h2]; exact (hfr j hj e' h3).symm
    · rw [h4]; exact hfr i hi e h1
    · exact h.ap i j hi hj hij e h1 e' h3
  · rcases cases2 j hj e he with ⟨_, rfl⟩ | h1
    · exact hF
    · exact h.eF j hj e h1
theorem SgIn.push (h : SgIn w f m L F) (hk : k < 3) (hx : NdAt w x) (hfr : ∀ j, j < 3 → ∀ e ∈ L j, e.b ≠ x.b) (hF : x.b ∈ F) (hn : (L k).length ≤ 1000000) :
    Calls Tryd.prog 48 #[.pointer (some ⟨f, 6 * k, none⟩), .pointer (some ⟨x.b, 0, none⟩)] w fun e w' => e = .returned (.tuple #[]) ∧ SgIn w' f m (upL L k (x :: L k)) F ∧ Keep F w w' := by
  have hm := h.push_mem hk hx hfr hF
  have ic := head_in (f := f) (L := L) (k := k)
  have xf : x.b ≠ f := hx.sh.ne h.own (by decide)
  have nin : ∀ q ∈ plc f L k, q ≠ pl x := fun q hq => by
    rcases h.plc_at hk hq with ⟨h1, _⟩ | ⟨e, he, rfl⟩
    · exact fun e => xf (by rw [← h1, e]; rfl)
    · exact fun e1 => hfr k hk e he (pl_inj e1)
  have l4 := (h.ring k hk).head.1
  obtain ⟨c, ec⟩ : ∃ c, c = nxt ((L k).map pl) (P3 f k) := ⟨_, rfl⟩
  rw [← ec] at ic l4 hm
  obtain ⟨wc, Fc, _⟩ := h.plc_wr hk ic (r := 3) (by decide)
  have T3 := ((((Tn.refl w).heap (b := w.drew) rfl).set (pl x) 2 (ptr (P3 f k)) (six_pl x) (by decide)).set (pl x) 3 (ptr (P3 f k)) (six_pl x) (by decide)).set (pl x) 4 (ptr c) (six_pl x) (by decide)
  have T5 := (T3.drew.set (P3 f k) 4 (ptr (pl x)) (six_P3 f k) (by decide)).set c 3 (ptr (pl x)) (plc_six ic) (by decide)
  have s1 : Sh w.drew x.b 5 91 := hx.sh
  have hlen : ((L k).length : Int) + 1 = ((x :: L k).length : Int) := by simp
  have hn2 : ((L k).length : Int) ≤ 1000000 := by omega
  refine (push_raw x.b c.1 c.2 f (6 * k) ((L k).length : Int) w l4 xf.symm (hx.sh.wr (by decide)) (hx.sh.wr (by decide)) (hx.sh.wr (by decide)) (h.own.wr (by omega)) wc (h.own.wr (by omega)) ?_ ?_ ?_ (by omega) hn2).mono ?_
  · have q1 := fc_other (w := (w.drew.setCell ⟨(pl x).1, (pl x).2 + 2, none⟩ (ptr (P3 f k))).setCell ⟨(pl x).1, (pl x).2 + 3, none⟩ (ptr (P3 f k))) (p := pl x) (q := pl x) (r := 4) (s := 3) (v := ptr c) (six_pl x) (six_pl x) (by decide) (by decide) (.inr (by decide))
    exact q1.trans (fc_same (p := pl x) (r := 3) (s1.set _ _ _) (by simp [pl]))
  · exact fc_same (p := pl x) (r := 4) ((s1.set _ _ _).set _ _ _) (by simp [pl])
  · refine (T5.fld (P3 f k) 5 (six_P3 f k) (by decide) ?_).trans (h.cnt k hk)
    have := nin _ (ends_in (f := f) (L := L) (k := k))
    simp
  · rintro e w' ⟨rfl, rfl⟩
    rw [hlen]
    refine ⟨rfl, hm, ?_⟩
    exact ((((((((Keep.refl F w).drew).setCell (.inl hF) _).setCell (.inl hF) _).setCell (.inl hF) _).drew).setCell (.inl h.fF) _).setCell (.inl Fc) _).setCell (.inl h.fF) _

/-! ### moveTo -/
def mvd (L : Nat → List En) (k k' : Nat) (A B : List En) (x : En) : Nat → List En := upL (upL L k (A ++ B)) k' (⟨x.b, x.id, false⟩ :: upL L k (A ++ B) k')
set_option maxHeartbeats 1000000 in
theorem SgIn.moveTo {k' : Nat} (h : SgIn w f m L F) (hk : k < 3) (hk' : k' < 3) (hs : L k = A ++ x :: B) (hn : ∀ j, j < 3 → (L j).length ≤ 1000000) (o : Nat) (ho : o = 6 * k') :
    Calls Tryd.prog 61 #[.pointer (some ⟨x.b, 0, none⟩), .pointer (some ⟨f, o, none⟩)] w fun e w' => e = .returned (.tuple #[]) ∧ SgIn w' f m (mvd L k k' A B x) F ∧ Keep F w w' := by
  have cL := hide (h.leave hk hs (hn k hk))
  have hx : x ∈ L k := by rw [hs]; simp
  have xF := h.eF k hk x hx
  have hn' : (upL L k (A ++ B) k').length ≤ 1000000 := by
    by_cases e : k' = k
    · subst e; rw [upL_same]; have := hn k' hk; rw [hs] at this; simp at this ⊢; omega
    · rw [upL_other _ _ e]; exact hn k' hk'
  have HN : Hid (∀ W, SgIn W f m (upL L k (A ++ B)) F → NdAt W x → (∀ j, j < 3 → ∀ e ∈ upL L k (A ++ B) j, e.b ≠ x.b) → Keep F w W →
      W.cell? ⟨x.b, 1, none⟩ = some (.bool x.u) ∧ W.frozen? ⟨x.b, 1, none⟩ = false ∧ Calls Tryd.prog 48 #[.pointer (some ⟨f, o, none⟩), .pointer (some ⟨x.b, 0, none⟩)] (W.setCell ⟨x.b, 1, none⟩ (.bool false)) fun e w' => e = .returned (.tuple #[]) ∧ SgIn w' f m (mvd L k k' A B x) F ∧ Keep F w w') := fun W h1 h2 h3 h4 => by
    refine ⟨h2.c1, h2.sh.frozen 1, ?_⟩
    have h5 : SgIn (W.setCell ⟨x.b, 1, none⟩ (.bool false)) f m (upL L k (A ++ B)) F := h1.same (blk_setCell_other _ _ _ _ (h1.own.ne h2.sh (by decide))) (fun j hj e he => blk_setCell_other _ _ _ _ (h3 j hj e he))
    have h6 : NdAt (W.setCell ⟨x.b, 1, none⟩ (.bool false)) ⟨x.b, x.id, false⟩ := ⟨h2.sh.set _ _ _, (fc_other (p := pl x) (r := 1) (six_pl x) (six_pl x) (by decide) (by decide) (.inr (by decide))).trans h2.c0, fc_same (p := pl x) (r := 1) h2.sh (by simp [pl])⟩
    rw [ho]
    refine (h5.push hk' h6 h3 xF hn').mono ?_
    rintro e w' ⟨rfl, h7, h8⟩
    exact ⟨rfl, h7, (h4.setCell (.inl xF) _).trans h8 (fun q hq => .inl hq)⟩
  clear h hs hn hn' ho hx xF hk hk'
  go_enter Tryd.func61, Tryd.ntmps61
  go_wp2_with fail
  refine cL.out.mono ?_
  rintro e W ⟨rfl, h1, h2, h3, h4⟩
  obtain ⟨q1, q2, cP⟩ := HN.out W h1 h2 h3 h4
  have CP := hide cP
  clear cP HN h1 h2 h3 h4 cL
  go_wp2_with fail
  refine CP.out.mono ?_
  rintro e W2 ⟨rfl, h5, h6⟩
  have H5 := hide h5
  have H6 := hide h6
  clear h5 h6 CP
  go_wp2
  go_end0
  exact ⟨rfl, H5.out, H6.out⟩
end
end Go.Proofs.YtdkiegkgnimapabDoor.Sgg
