/- Put of any item into a log whose device is calm. -/
import Derived.Test.YtbjkahdlejaheabKn9
import Derived.Test.YtbjkahdlejaheabPf9
set_option linter.unusedVariables false
set_option linter.unusedSimpArgs false
set_option maxRecDepth 8000
namespace Go.Proofs.Ytbjkahdlejaheab
open Go.RowKit Go.Deep Math

/-- Of a log that at most k items were put into. -/
structure Run9 (R k : Nat) (S : Dv) (T : Lg) : Prop where
  calm : Calm S
  losses : S.losses = T.losses
  room : 4 * R ≤ S.cs.length
  first' : T.first = 0
  regions' : T.regions = R
  num : T.num ≤ k
  cap : T.cap ≤ k
  regs : T.regs.length ≤ k
  all : T.all.length ≤ k
  cont : T.cont.length ≤ 1472
  oks : ∀ t ∈ T.all, t.it.fits ∧ t.it.good = true
  pos : (T.all.map Th.pos).Nodup
def Lg.next (T : Lg) : Nat := (T.num + 1) % T.regions
def Lg.full (T : Lg) (x : It) : Prop := 1472 < T.cont.length + x.size
/-- The log that Seal leaves, if a Put of x must seal. -/
def Lg.cut (T : Lg) (v6 : Value) : Lg := (T.lose T.next).sealed v6 T.next (T.num + 1)
theorem flat_sub {l l' : List Rg} (h : List.Sublist l l') : List.Sublist (l.flatMap Rg.ths) (l'.flatMap Rg.ths) := by
  induction h with
  | slnil => exact List.Sublist.refl _
  | cons a _ ih => rw [List.flatMap_cons]; exact ih.trans (List.sublist_append_right _ _)
  | cons_cons a _ ih => rw [List.flatMap_cons, List.flatMap_cons]; exact List.Sublist.append (List.Sublist.refl _) ih
theorem lose_sub (T : Lg) (P : Nat) : List.Sublist (T.lose P).all T.all := by
  unfold Lg.all
  rw [(lose_same T P).1]
  refine List.Sublist.append (flat_sub ?_) (List.Sublist.refl _)
  unfold Lg.lose
  split
  · exact List.Sublist.refl _
  · exact List.eraseIdx_sublist _ _
theorem sealed_all (T : Lg) (v6 : Value) (p n : Nat) : (T.sealed v6 p n).all = T.all := by
  unfold Lg.all
  show (T.regs ++ [(⟨p, n, v6, T.opn⟩ : Rg)]).flatMap Rg.ths ++ [] = _
  rw [List.append_nil, List.flatMap_append]
  simp
theorem put_all (T : Lg) (t : Th) : (T.put t).all = T.all ++ [t] := by
  unfold Lg.all
  show T.regs.flatMap Rg.ths ++ (T.opn ++ [t]) = _
  rw [List.append_assoc]
theorem put_cont (T : Lg) (t : Th) : (T.put t).cont = T.cont ++ t.it.enc := by
  show encs ((T.opn ++ [t]).map Th.it) = encs (T.opn.map Th.it) ++ t.it.enc
  rw [List.map_append, encs_append]
  simp [encs]
theorem Run9.put {R k : Nat} {S : Dv} {T T' : Lg} (h : Run9 R k S T) (hs : List.Sublist T'.all T.all) (hf : T'.first = T.first) (hr : T'.regions = T.regions) (hc : T'.cap = T.cap) (hn : T'.num ≤ k + 1) (hg : T'.regs.length ≤ k + 1) {S' : Dv} (hS : Calm S') (hl : S'.losses = T'.losses) (hcs : S'.cs.length = S.cs.length)
    (t : Th) (ht : t.it.fits ∧ t.it.good = true) (hcl : T'.cont.length + t.it.size ≤ 1472) (hp : ∀ u ∈ T.all, u.pos ≠ t.pos) : Run9 R (k + 1) S' (T'.put t) := by
  refine ⟨hS, hl, by rw [hcs]; exact h.room, hf.trans h.first', hr.trans h.regions', hn, ?_, hg, ?_, ?_, fun u hu => ?_, ?_⟩
  · show T'.cap + 1 ≤ k + 1; rw [hc]; have := h.cap; omega
  · rw [put_all, List.length_append]
    have := hs.length_le
    have := h.all
    simp; omega
  · rw [put_cont, List.length_append, It.enc_length]; exact hcl
  · rw [put_all] at hu
    rcases List.mem_append.1 hu with h1 | h1
    · exact h.oks u (hs.subset h1)
    · simp only [List.mem_singleton] at h1; rw [h1]; exact ht
  · rw [put_all, List.map_append]
    refine List.nodup_append.2 ⟨(hs.map Th.pos).nodup h.pos, by simp, fun a ha b hb => ?_⟩
    obtain ⟨u, hu, rfl⟩ := List.mem_map.1 ha
    simp only [List.map_cons, List.map_nil, List.mem_singleton] at hb
    rw [hb]
    exact hp u (hs.subset hu)
theorem Run9.new {n R : Nat} {S : Dv} {T : Lg} (h : New9 n 0 R S T) (hn : 4 * R ≤ n) : Run9 R 0 S T := by
  have hall : T.all = [] := by unfold Lg.all; rw [h.regs, h.opn]; rfl
  refine ⟨h.calm, h.losses, by rw [h.cs]; simpa [Dv.fresh] using hn, h.first', h.regions', by rw [h.num]; exact Nat.le_refl _, by rw [h.cap]; exact Nat.le_refl _, by rw [h.regs]; exact Nat.le_refl _, by rw [hall]; exact Nat.le_refl _, ?_, fun t ht => (by rw [hall] at ht; cases ht), (by rw [hall]; exact List.nodup_nil)⟩
  unfold Lg.cont
  rw [h.opn]
  exact Nat.zero_le _
theorem put_run {w0 W : World} {d : Nat} {F : List Nat} {S : Dv} {l m : Nat} {v5 v6 v7 : Value} {T : Lg} {R k : Nat} (G : LG w0 W d F S l m v5 v6 v7 T) (hN : Run9 R k S T) (hR1 : 1 ≤ R) (hR64 : R ≤ 64) (hk : k < 100) (x : It) (hf : x.fits) :
    Calls Try.prog 10 #[.pointer (some ⟨l, 0, none⟩), x.val] W fun e W' =>
      (x.good = false ∧ e = .returned (.tuple #[.slice none 0 0, .int .i64 1]) ∧ Below W.heap.size W W') ∨
      (x.good = true ∧ ∃ va vn vc v5' v6' v7' F' S' T' ls, e = .returned (.tuple #[.slice va vn vc, .int .i64 0]) ∧ vn = ls.length ∧ Row W' W.heap.size (.slice va vn vc) ls ∧ LG w0 W' d F' S' l m v5' v6' v7' T' ∧ Run9 R (k + 1) S' T' ∧
        ((¬ T.full x ∧ ls = [] ∧ T' = T.put ⟨W.heap.size, 0, x⟩ ∧ S' = S) ∨
         (T.full x ∧ ls = T.lost T.next ∧ T' = (T.cut v6).put ⟨W.heap.size, 0, x⟩ ∧ S'.cs = put4 S.cs (4 * T.next) (T.num + 1) T.cont))) := by
  cases hg : x.good with
  | false =>
    have hgm := hg
    rw [x.good_mayBe] at hgm
    refine (put_bad (w := W) (l := l) (txt x.key) (txt x.value) x.flags x.exp x.ver hgm).mono ?_
    rintro e w' ⟨rfl, b⟩
    exact .inl ⟨rfl, rfl, b⟩
  | true =>
    have gs := good_sizes hg
    have hsz : x.size = 32 + x.key.length + x.value.length := rfl
    have hnew : ∀ u ∈ T.all, u.pos ≠ (⟨W.heap.size, 0, x⟩ : Th).pos := fun u hu e => by
      have h1 := (G.lg.ths u hu).lt
      have h2 : u.blk = W.heap.size := congrArg Prod.fst e
      omega
    have hall := hN.all
    have hopl : T.opn.length ≤ 1000 := by
      have : T.all.length = (T.regs.flatMap Rg.ths).length + T.opn.length := by unfold Lg.all; rw [List.length_append]
      omega
    by_cases hfl : T.cont.length + x.size ≤ 1472
    · refine (put_room G.lg x hf hg hfl (by have := hN.cap; omega) hopl).mono ?_
      rintro e w' ⟨rfl, v6', v7', hL, hK, h6, h7⟩
      refine .inr ⟨rfl, none, 0, 0, v5, v6', v7', F, S, _, [], rfl, rfl, Row.nil _ _, G.put hL hK h6 h7, ?_, .inl ⟨by unfold Lg.full; omega, rfl, rfl, rfl⟩⟩
      exact hN.put (List.Sublist.refl _) rfl rfl rfl (by have := hN.num; omega) (by have := hN.regs; omega) hN.calm hN.losses rfl ⟨W.heap.size, 0, x⟩ ⟨hf, hg⟩ hfl hnew
    · have hcne : T.cont ≠ [] := fun h0 => by rw [h0] at hfl; simp at hfl; omega
      have hopn : T.opn ≠ [] := fun h0 => hcne (by unfold Lg.cont; rw [h0]; rfl)
      have hnx : T.next < R := by unfold Lg.next; rw [hN.regions']; exact Nat.mod_lt _ hR1
      refine (put_full G.lg G.dev x hf hg (by omega) (by have := hN.cap; omega) hopn hN.losses (by have := hN.num; omega) (by rw [hN.regions']; exact hR1) (by rw [hN.regions']; exact hR64) (by rw [hN.first']; decide) hN.cont hcne (by have := hN.regs; omega) (by omega) T.next (T.num + 1) rfl rfl).mono ?_
      rintro e w' ⟨va, vn, vc, v5', F', hvn, hrow, hD', hK', hF', h5', rfl, hend⟩
      have hbase : T.first + 4 * T.next = 4 * T.next := by rw [hN.first', Nat.zero_add]
      have hwr := wr_calm hN.calm (4 * T.next) (T.num + 1) (by have := hN.room; omega) T.cont
      rw [hbase] at hD' hend ⊢
      rw [hwr.1] at hend ⊢
      rcases hend with ⟨h0, _⟩ | ⟨_, v6', v7', hL', h6', h7'⟩
      · exact absurd rfl h0
      have hs := G.bel.size
      have hfoot : ∀ q ∈ F ++ l :: m :: own v5, w0.heap.size ≤ q := fun q hq => by
        simp only [List.mem_append, List.mem_cons] at hq
        rcases hq with h1 | h1 | h1 | h1
        · exact G.lowF q h1
        · exact G.lowL q (by simp [lfoot, h1])
        · exact G.lowL q (by simp [lfoot, h1])
        · exact G.lowL q (by simp [lfoot, h1])
      have G' : LG w0 w' d F' (wrR (4 * T.next) (T.num + 1) 4 S T.cont).2 l m v5' v6' v7' ((T.cut v6).put ⟨W.heap.size, 0, x⟩) := by
        refine ⟨hL', hD', G.bel.trans (hK'.below hfoot hs), fun q hq => ?_, fun q hq => ?_⟩
        · rcases hF' q hq with h1 | h1
          · exact G.lowF q h1
          · omega
        · simp only [lfoot, List.mem_cons, List.mem_append] at hq
          rcases hq with h1 | h1 | h1 | h1 | h1
          · exact G.lowL q (by simp [lfoot, h1])
          · exact G.lowL q (by simp [lfoot, h1])
          · rcases h5' q h1 with h2 | h2
            · exact G.lowL q (by simp [lfoot, h2])
            · omega
          · have := h6' q h1; omega
          · have := h7' q h1; omega
      obtain ⟨s1, s2, s3, s4, s5, s6, s7⟩ := lose_same T T.next
      refine .inr ⟨rfl, va, vn, vc, v5', v6', v7', F', _, _, _, rfl, hvn, hrow, G', ?_, .inr ⟨by unfold Lg.full; omega, rfl, rfl, hwr.2.1⟩⟩
      refine hN.put (T' := T.cut v6) (by unfold Lg.cut; rw [sealed_all]; exact lose_sub T _) s2 s5 s6 (by show T.num + 1 ≤ k + 1; have := hN.num; omega) ?_ hwr.2.2.1 ?_ (by rw [hwr.2.1, put4_length]) ⟨W.heap.size, 0, x⟩ ⟨hf, hg⟩ (by show 0 + x.size ≤ 1472; omega) hnew
      · show ((T.lose T.next).regs ++ [_]).length ≤ k + 1
        rw [List.length_append, List.length_singleton]
        have := hN.regs; omega
      · rw [hwr.2.2.2, hN.losses]; exact s4.symm
end Go.Proofs.Ytbjkahdlejaheab
