/- Put beside a row of items; a list that is made anew. -/
import Derived.Test.YtbjkahdlejaheaaZr9
set_option linter.unusedVariables false
set_option linter.unusedSimpArgs false
set_option maxRecDepth 8000
namespace Go.Proofs.Ytbjkahdlejaheaa
open Go.RowKit Go.Deep Math

theorem keep_foot1 {F : List Nat} {l m : Nat} {v5 v6 v7 : Value} {W W' : World} (h : Keep (l :: m :: (own v6 ++ own v7)) W W') : Keep (F ++ lfoot l m v5 v6 v7) W W' := h.mono (fun q hq => .inl (by
  simp only [List.mem_cons, List.mem_append] at hq
  simp only [List.mem_append, lfoot, List.mem_cons]
  rcases hq with h1 | h1 | h1 | h1
  · exact .inr (.inl h1)
  · exact .inr (.inr (.inl h1))
  · exact .inr (.inr (.inr (.inr (.inl h1))))
  · exact .inr (.inr (.inr (.inr (.inr h1))))))
theorem keep_foot2 {F : List Nat} {l m : Nat} {v5 v6 v7 : Value} {W W' : World} (h : Keep (F ++ l :: m :: own v5) W W') : Keep (F ++ lfoot l m v5 v6 v7) W W' := h.mono (fun q hq => .inl (by
  simp only [List.mem_cons, List.mem_append] at hq
  simp only [List.mem_append, lfoot, List.mem_cons]
  rcases hq with h1 | h1 | h1 | h1
  · exact .inl h1
  · exact .inr (.inl h1)
  · exact .inr (.inr (.inl h1))
  · exact .inr (.inr (.inr (.inl h1)))))
theorem put_runk {w0 W : World} {d : Nat} {F : List Nat} {S : Dv} {l m : Nat} {v5 v6 v7 : Value} {T : Lg} {R k : Nat} (G : LG w0 W d F S l m v5 v6 v7 T) (hN : Run9 R k S T) (hR1 : 1 ≤ R) (hR64 : R ≤ 64) (hk : k < 100) (x : It) (hf : x.fits) :
    Calls Try.prog 11 #[.pointer (some ⟨l, 0, none⟩), x.val] W fun e W' =>
      (x.good = false ∧ e = .returned (.tuple #[.slice none 0 0, .int .i64 1]) ∧ Below W.heap.size W W') ∨
      (x.good = true ∧ ∃ va vn vc v5' v6' v7' F' S' T' ls, e = .returned (.tuple #[.slice va vn vc, .int .i64 0]) ∧ vn = ls.length ∧ Row W' W.heap.size (.slice va vn vc) ls ∧ LG w0 W' d F' S' l m v5' v6' v7' T' ∧ Run9 R (k + 1) S' T' ∧ Keep (F ++ lfoot l m v5 v6 v7) W W' ∧
        ((¬ T.full x ∧ ls = [] ∧ T' = T.put ⟨W.heap.size, 0, x⟩ ∧ S' = S) ∨
         (T.full x ∧ ls = T.lost T.next ∧ T' = (T.cut v6).put ⟨W.heap.size, 0, x⟩ ∧ S'.cs = put4 S.cs (4 * T.next) (T.num + 1) T.cont))) := by
  cases hg : x.good with
  | false =>
    have hgm := hg
    rw [x.good_mayBe] at hgm
    refine (put_bad (w := W) (l := l) (txt x.key) (txt x.value) x.flags x.exp x.ver hgm).mono ?_
    rintro e w' ⟨rfl, b⟩
    exact .inl ⟨rfl, rfl, b⟩
  | true =>
    have gs := good_sizes hg
    have hsz : x.size = 32 + x.key.length + x.value.length := rfl
    have hnew : ∀ u ∈ T.all, u.pos ≠ (⟨W.heap.size, 0, x⟩ : Th).pos := fun u hu e => by
      have h1 := (G.lg.ths u hu).lt
      have h2 : u.blk = W.heap.size := congrArg Prod.fst e
      omega
    have hall := hN.all
    have hopl : T.opn.length ≤ 1000 := by
      have : T.all.length = (T.regs.flatMap Rg.ths).length + T.opn.length := by unfold Lg.all; rw [List.length_append]
      omega
    by_cases hfl : T.cont.length + x.size ≤ 1472
    · refine (put_room G.lg x hf hg hfl (by have := hN.cap; omega) hopl).mono ?_
      rintro e w' ⟨rfl, v6', v7', hL, hK, h6, h7⟩
      refine .inr ⟨rfl, none, 0, 0, v5, v6', v7', F, S, _, [], rfl, rfl, Row.nil _ _, G.put hL hK h6 h7, ?_, keep_foot1 hK, .inl ⟨by unfold Lg.full; omega, rfl, rfl, rfl⟩⟩
      exact hN.put (List.Sublist.refl _) rfl rfl rfl (by have := hN.num; omega) (by have := hN.regs; omega) hN.calm hN.losses rfl ⟨W.heap.size, 0, x⟩ ⟨hf, hg⟩ hfl hnew
    · have hcne : T.cont ≠ [] := fun h0 => by rw [h0] at hfl; simp at hfl; omega
      have hopn : T.opn ≠ [] := fun h0 => hcne (by unfold Lg.cont; rw [h0]; rfl)
      have hnx : T.next < R := by unfold Lg.next; rw [hN.regions']; exact Nat.mod_lt _ hR1
      refine (put_full G.lg G.dev x hf hg (by omega) (by have := hN.cap; omega) hopn hN.losses (by have := hN.num; omega) (by rw [hN.regions']; exact hR1) (by rw [hN.regions']; exact hR64) (by rw [hN.first']; decide) hN.cont hcne (by have := hN.regs; omega) (by omega) T.next (T.num + 1) rfl rfl).mono ?_
      rintro e w' ⟨va, vn, vc, v5', F', hvn, hrow, hD', hK', hF', h5', rfl, hend⟩
      have hbase : T.first + 4 * T.next = 4 * T.next := by rw [hN.first', Nat.zero_add]
      have hwr := wr_calm hN.calm (4 * T.next) (T.num + 1) (by have := hN.room; omega) T.cont
      rw [hbase] at hD' hend ⊢
      rw [hwr.1] at hend ⊢
      rcases hend with ⟨h0, _⟩ | ⟨_, v6', v7', hL', h6', h7'⟩
      · exact absurd rfl h0
      have hs := G.bel.size
      have hfoot : ∀ q ∈ F ++ l :: m :: own v5, w0.heap.size ≤ q := fun q hq => by
        simp only [List.mem_append, List.mem_cons] at hq
        rcases hq with h1 | h1 | h1 | h1
        · exact G.lowF q h1
        · exact G.lowL q (by simp [lfoot, h1])
        · exact G.lowL q (by simp [lfoot, h1])
        · exact G.lowL q (by simp [lfoot, h1])
      have G' : LG w0 w' d F' (wrR (4 * T.next) (T.num + 1) 4 S T.cont).2 l m v5' v6' v7' ((T.cut v6).put ⟨W.heap.size, 0, x⟩) := by
        refine ⟨hL', hD', G.bel.trans (hK'.below hfoot hs), fun q hq => ?_, fun q hq => ?_⟩
        · rcases hF' q hq with h1 | h1
          · exact G.lowF q h1
          · omega
        · simp only [lfoot, List.mem_cons, List.mem_append] at hq
          rcases hq with h1 | h1 | h1 | h1 | h1
          · exact G.lowL q (by simp [lfoot, h1])
          · exact G.lowL q (by simp [lfoot, h1])
          · rcases h5' q h1 with h2 | h2
            · exact G.lowL q (by simp [lfoot, h2])
            · omega
          · have := h6' q h1; omega
          · have := h7' q h1; omega
      obtain ⟨s1, s2, s3, s4, s5, s6, s7⟩ := lose_same T T.next
      refine .inr ⟨rfl, va, vn, vc, v5', v6', v7', F', _, _, _, rfl, hvn, hrow, G', ?_, keep_foot2 hK', .inr ⟨by unfold Lg.full; omega, rfl, rfl, hwr.2.1⟩⟩
      refine hN.put (T' := T.cut v6) (by unfold Lg.cut; rw [sealed_all]; exact lose_sub T _) s2 s5 s6 (by show T.num + 1 ≤ k + 1; have := hN.num; omega) ?_ hwr.2.2.1 ?_ (by rw [hwr.2.1, put4_length]) ⟨W.heap.size, 0, x⟩ ⟨hf, hg⟩ (by show 0 + x.size ≤ 1472; omega) hnew
      · show ((T.lose T.next).regs ++ [_]).length ≤ k + 1
        rw [List.length_append, List.length_singleton]
        have := hN.regs; omega
      · rw [hwr.2.2.2, hN.losses]; exact s4.symm


theorem row_off9 {w0 W : World} {d : Nat} {F : List Nat} {S : Dv} {l m : Nat} {v5 v6 v7 : Value} {T : Lg} (G : LG w0 W d F S l m v5 v6 v7 T) {b : Nat} {v : Value} {xs : List It} (h : Row W b v xs) (q : Nat) (hq : v.ownBlock = some q) : q ∉ F ++ lfoot l m v5 v6 v7 := fun hm => by
  obtain ⟨c, hc⟩ : ∃ c, W.heap[q]? = some (.cells c 36 (0, 0)) := by
    rcases h.form with ⟨rfl, rfl⟩ | ⟨g, cap, pad, rfl, hb, hh, _, _, _⟩
    · simp [Value.ownBlock] at hq
    · simp [Value.ownBlock] at hq
      subst hq
      exact ⟨_, hh⟩
  rcases List.mem_append.1 hm with h1 | h1
  · obtain ⟨c', e, h2, h3⟩ := G.dev.kinds q h1
    rw [h2] at hc
    simp only [Option.some.injEq, Obj.cells.injEq] at hc
    have := hc.2.1
    rcases h3 with rfl | rfl | rfl <;> cases this
  · simp only [lfoot, List.mem_cons, List.mem_append] at h1
    have no : ∀ {c' : Array Value} {e : TypeId}, W.heap[q]? = some (.cells c' e (0, 0)) → e ≠ 36 → False := fun {c' e} h2 hne => by
      rw [h2] at hc
      simp only [Option.some.injEq, Obj.cells.injEq] at hc
      exact hne hc.2.1
    rcases h1 with h1 | h1 | h1 | h1 | h1
    · rw [h1] at hc no; exact no G.lg.box (by decide)
    · exact G.lg.notM hc h1
    · obtain ⟨c', h2⟩ := own_ty G.lg.sld (mem_own.1 h1); exact no h2 (by decide)
    · obtain ⟨c', h2⟩ := own_ty G.lg.opn (mem_own.1 h1); exact no h2 (by decide)
    · obtain ⟨c', h2⟩ := own_ty G.lg.cont (mem_own.1 h1); exact no h2 (by decide)
/-- One item more at a row's end, out of any block. -/
theorem app_src {W : World} {base : Nat} {v : Value} {xs : List It} (h : Row W base v xs) (x : It) {g : Nat} (hg : Blk W g (itCells x) 36) (hn : xs.length + 1 ≤ 1048576) (hb : base ≤ W.heap.size) :
    ∃ va vc w', (∀ ty, (Builtin.append_ #[30, 30] ty #[v, .slice (some ⟨g, 0, none⟩) 1 1]).run Try.prog W = .ok (.slice va (xs.length + 1) vc) w') ∧ Row w' base (.slice va (xs.length + 1) vc) (xs ++ [x]) ∧ W.grownBy w' v.ownBlock := by
  obtain ⟨i0, hi0, hp0⟩ := Option.map_eq_some_iff.1 info30
  simp only [Prod.mk.injEq] at hp0
  have hnews : ∀ j u, (itCells x)[j]? = some u → W.cell? ((⟨g, 0, none⟩ : Addr).add j) = some u := fun j u hu => by
    rw [Addr.add_lit, Nat.zero_add]
    exact hg.cell hu
  obtain ⟨v', w', hrun, ho, hgr, hnil, hblk⟩ := run_append_own_at (P := Try.prog) W base 30 0 36 i0 _ 5 _ Try.underlying30 hi0 hp0.1 hp0.2.1 hp0.2.2 rfl (by decide) v xs.length (itsCells xs) h ⟨g, 0, none⟩ 1 1 (itCells x) rfl hnews (by simp [itCells]; exact ⟨rfl, rfl, rfl, rfl, rfl⟩) (by unfold maxLen; omega) (Nat.le_trans (Nat.mul_le_mul_right _ hn) (by decide)) hb
  have hform : ∃ va vc, v' = .slice va (xs.length + 1) vc := by
    rcases ho.2 with ⟨_, h0⟩ | ⟨g, cap, cur, hv, _⟩
    · omega
    · exact ⟨_, _, hv⟩
  obtain ⟨va, vc, rfl⟩ := hform
  refine ⟨va, vc, w', fun ty => hrun, ?_, hgr⟩
  have e : itsCells xs ++ itCells x = itsCells (xs ++ [x]) := by simp [itsCells]
  unfold Row
  rw [← e, List.length_append, List.length_singleton]
  exact ho
/-! ### A region of which some values are known, some only while it runs -/
section
variable {P : Program} {ops : Array Oper} {Q : Exit → Act → World → Prop}
def Known (K : Nat → Option Value) (listed : Array Bool) (V : Nat → Value) : Prop := ∀ j u, K j = some u → listed.getD j false = true → V j = u
theorem Known.step {K : Nat → Option Value} {listed : Array Bool} {V : Nat → Value} (h : Known K listed V) (i : Nat) (hi : i < listed.size) (v : Value) (hv : ∀ u, K i = some u → v = u) : Known K (listed.setIfInBounds i true) (setV V i v) := fun j u hj hl => by
  by_cases e : j = i
  · subst e; rw [setV_same]; exact hv u hj
  · rw [setV_other _ _ _ _ e]
    rw [getD_set _ _ _ hi, if_neg e] at hl
    exact h j u hj hl
end
/-- 'append(without(now, x.Key), x)' while it is made. -/
structure ND (wr : World) (fl : List It) (x : It) (listed : Array Bool) (V : Nat → Value) (W : World) : Prop where
  bel : Below wr.heap.size wr W
  c6 : listed.getD 6 false = true → listed.getD 0 false = true
  c12 : listed.getD 12 false = true → listed.getD 6 false = true ∧ listed.getD 11 false = true
  c13 : listed.getD 13 false = true → listed.getD 12 false = true ∧ V 13 = V 12
  r6 : listed.getD 12 false = false → listed.getD 6 false = true → ∃ va vc, V 6 = .slice va fl.length vc ∧ Row W wr.heap.size (.slice va fl.length vc) fl
  r11 : listed.getD 12 false = false → listed.getD 11 false = true → ∃ g, V 11 = .slice (some ⟨g, 0, none⟩) 1 1 ∧ Blk W g (itCells x) 36
  r12 : listed.getD 12 false = true → ∃ va vc, V 12 = .slice va (fl.length + 1) vc ∧ Row W wr.heap.size (.slice va (fl.length + 1) vc) (fl ++ [x])
section
variable {wr W W' : World} {fl : List It} {x : It} {listed : Array Bool} {V : Nat → Value}
theorem ND.pure (h : ND wr fl x listed V W) (i : Nat) (hi : i < listed.size) (v : Value) (h6 : i ≠ 6) (h11 : i ≠ 11) (h12 : i ≠ 12) (h13 : i ≠ 13) : ND wr fl x (listed.setIfInBounds i true) (setV V i v) W := by
  have e6 : (listed.setIfInBounds i true).getD 6 false = listed.getD 6 false := by rw [getD_set _ _ _ hi, if_neg (Ne.symm h6)]
  have e11 : (listed.setIfInBounds i true).getD 11 false = listed.getD 11 false := by rw [getD_set _ _ _ hi, if_neg (Ne.symm h11)]
  have e12 : (listed.setIfInBounds i true).getD 12 false = listed.getD 12 false := by rw [getD_set _ _ _ hi, if_neg (Ne.symm h12)]
  have e13 : (listed.setIfInBounds i true).getD 13 false = listed.getD 13 false := by rw [getD_set _ _ _ hi, if_neg (Ne.symm h13)]
  have v6 : setV V i v 6 = V 6 := setV_other _ _ _ _ (Ne.symm h6)
  have v11 : setV V i v 11 = V 11 := setV_other _ _ _ _ (Ne.symm h11)
  have v12 : setV V i v 12 = V 12 := setV_other _ _ _ _ (Ne.symm h12)
  have v13 : setV V i v 13 = V 13 := setV_other _ _ _ _ (Ne.symm h13)
  refine ⟨h.bel, fun q => ?_, ?_, ?_, ?_, ?_, ?_⟩
  · rw [e6] at q
    rw [getD_set _ _ _ hi]
    split
    · rfl
    · exact h.c6 q
  · rw [e12, e6, e11]; exact h.c12
  · rw [e13, e12, v13, v12]; exact h.c13
  · rw [e12, e6, v6]; exact h.r6
  · rw [e12, e11, v11]; exact h.r11
  · rw [e12, v12]; exact h.r12
theorem ND.without (h : ND wr fl x listed V W) (hs : 6 < listed.size) (hl : listed.getD 6 false = false) (h0 : listed.getD 0 false = true) {va : Option Addr} {vc : Nat} (hr : Row W' W.heap.size (.slice va fl.length vc) fl) (b : Below W.heap.size W W') :
    ND wr fl x (listed.setIfInBounds 6 true) (setV V 6 (.slice va fl.length vc)) W' := by
  have g : ∀ j, (listed.setIfInBounds 6 true).getD j false = if j = 6 then true else listed.getD j false := fun j => getD_set _ _ _ hs
  have h12 : listed.getD 12 false = false := by
    cases hq : listed.getD 12 false with
    | false => rfl
    | true => have := (h.c12 hq).1; rw [hl] at this; cases this
  have h13 : listed.getD 13 false = false := by
    cases hq : listed.getD 13 false with
    | false => rfl
    | true => have := (h.c13 hq).1; rw [h12] at this; cases this
  refine ⟨h.bel.trans (b.mono h.bel.size), fun _ => ?_, fun q => ?_, fun q => ?_, fun _ _ => ?_, fun _ q => ?_, fun q => ?_⟩
  · rw [g, if_neg (by decide)]; exact h0
  · rw [g, if_neg (by decide), h12] at q; cases q
  · rw [g, if_neg (by decide), h13] at q; cases q
  · exact ⟨va, vc, setV_same _ _ _, hr.mono h.bel.size⟩
  · rw [g, if_neg (by decide)] at q
    obtain ⟨gg, h1, h2⟩ := h.r11 h12 q
    exact ⟨gg, by rw [setV_other _ _ _ _ (by decide)]; exact h1, h2.same (b.block gg h2.lt)⟩
  · rw [g, if_neg (by decide), h12] at q; cases q
theorem ND.build (h : ND wr fl x listed V W) (hs : 11 < listed.size) (hl : listed.getD 11 false = false) :
    ND wr fl x (listed.setIfInBounds 11 true) (setV V 11 (.slice (some ⟨W.heap.size, 0, none⟩) 1 1)) (W.alloc (.cells (itCells x).toArray 36)) := by
  have g : ∀ j, (listed.setIfInBounds 11 true).getD j false = if j = 11 then true else listed.getD j false := fun j => getD_set _ _ _ hs
  have b : Below W.heap.size W (W.alloc (.cells (itCells x).toArray 36)) := (Below.refl _ _).alloc (Nat.le_refl _) _
  have h12 : listed.getD 12 false = false := by
    cases hq : listed.getD 12 false with
    | false => rfl
    | true => have := (h.c12 hq).2; rw [hl] at this; cases this
  have h13 : listed.getD 13 false = false := by
    cases hq : listed.getD 13 false with
    | false => rfl
    | true => have := (h.c13 hq).1; rw [h12] at this; cases this
  refine ⟨h.bel.trans (b.mono h.bel.size), fun q => ?_, fun q => ?_, fun q => ?_, fun _ q => ?_, fun _ _ => ?_, fun q => ?_⟩
  · rw [g, if_neg (by decide)] at q ⊢; exact h.c6 q
  · rw [g, if_neg (by decide), h12] at q; cases q
  · rw [g, if_neg (by decide), h13] at q; cases q
  · rw [g, if_neg (by decide)] at q
    obtain ⟨va, vc, h1, h2⟩ := h.r6 h12 q
    exact ⟨va, vc, by rw [setV_other _ _ _ _ (by decide)]; exact h1, h2.below b⟩
  · exact ⟨_, setV_same _ _ _, Blk.new W (itCells x) 36⟩
  · rw [g, if_neg (by decide), h12] at q; cases q
theorem ND.append (h : ND wr fl x listed V W) (hs : 12 < listed.size) (hl : listed.getD 12 false = false) (l6 : listed.getD 6 false = true) (l11 : listed.getD 11 false = true) (hn : fl.length + 1 ≤ 1048576) :
    ∃ v w', (∀ ty, (Builtin.append_ #[30, 30] ty #[V 6, V 11]).run Try.prog W = .ok v w') ∧ ND wr fl x (listed.setIfInBounds 12 true) (setV V 12 v) w' := by
  have g : ∀ j, (listed.setIfInBounds 12 true).getD j false = if j = 12 then true else listed.getD j false := fun j => getD_set _ _ _ hs
  obtain ⟨va, vc, e6, hr⟩ := h.r6 hl l6
  obtain ⟨gg, e11, hb⟩ := h.r11 hl l11
  obtain ⟨ua, uc, w', hrun, hrow, hg⟩ := app_src hr x hb hn h.bel.size
  have h13 : listed.getD 13 false = false := by
    cases hq : listed.getD 13 false with
    | false => rfl
    | true => have := (h.c13 hq).1; rw [hl] at this; cases this
  refine ⟨_, w', fun ty => by rw [e6, e11]; exact hrun ty, ?_, fun q => ?_, fun _ => ?_, fun q => ?_, fun q => ?_, fun q => ?_, fun _ => ?_⟩
  · exact ⟨hg.os.trans h.bel.os, hg.tape.trans h.bel.tape, hg.output.trans h.bel.output, Nat.le_trans h.bel.size hg.size, fun q hq => (hg.block q (Nat.lt_of_lt_of_le hq h.bel.size) (fun e => by have := (hr.lt q e.symm).1; omega)).trans (h.bel.block q hq)⟩
  · rw [g, if_neg (by decide)] at q ⊢; exact h.c6 q
  · rw [g, g, if_neg (by decide), if_neg (by decide)]; exact ⟨l6, l11⟩
  · rw [g, if_neg (by decide), h13] at q; cases q
  · rw [g, if_pos rfl] at q; cases q
  · rw [g, if_pos rfl] at q; cases q
  · exact ⟨ua, uc, setV_same _ _ _, hrow⟩
theorem ND.assign (h : ND wr fl x listed V W) (hs : 13 < listed.size) (l12 : listed.getD 12 false = true) : ND wr fl x (listed.setIfInBounds 13 true) (setV V 13 (V 12)) W := by
  have g : ∀ j, (listed.setIfInBounds 13 true).getD j false = if j = 13 then true else listed.getD j false := fun j => getD_set _ _ _ hs
  refine ⟨h.bel, fun q => ?_, fun q => ?_, fun _ => ?_, fun q => ?_, fun q => ?_, fun q => ?_⟩
  · rw [g, if_neg (by decide)] at q ⊢; exact h.c6 q
  · rw [g, if_neg (by decide)] at q
    rw [g, g, if_neg (by decide), if_neg (by decide)]; exact h.c12 q
  · rw [g, if_neg (by decide), setV_same, setV_other _ _ _ _ (by decide)]; exact ⟨l12, rfl⟩
  · rw [g, if_neg (by decide), l12] at q; cases q
  · rw [g, if_neg (by decide), l12] at q; cases q
  · rw [setV_other _ _ _ _ (by decide)]; exact h.r12 l12
theorem repl9 (n j : Nat) : (Array.replicate n false).getD j false = false := by
  simp only [Array.getD_eq_getD_getElem?, Array.getElem?_replicate]
  split <;> rfl
theorem ND.start (n : Nat) : ND wr fl x (Array.replicate n false) (fun _ => undef) { wr with drawn := wr.drawn + 1 } := by
  have no : ∀ {p : Prop} j, (Array.replicate n false).getD j false = true → p := fun j hj => by rw [repl9] at hj; cases hj
  exact ⟨⟨rfl, rfl, rfl, Nat.le_refl _, fun _ _ => rfl⟩, no 6, no 12, no 13, fun _ => no 6, fun _ => no 11, no 12⟩
end
end Go.Proofs.Ytbjkahdlejaheaa
