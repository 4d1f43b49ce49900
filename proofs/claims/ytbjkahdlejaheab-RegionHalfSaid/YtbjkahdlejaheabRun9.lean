/- Put of any item into a log whose device is calm. -/
import Derived.Test.YtbjkahdlejaheabKn9
import Derived.Test.YtbjkahdlejaheabPf9
set_option linter.unusedVariables false
set_option linter.unusedSimpArgs false
set_option maxRecDepth 8000
namespace Go.Proofs.Ytbjkahdlejaheab
open Go.RowKit Go.Deep Math

/-- Of a log that at most k items were put into. -/
structure Run9 (R k : Nat) (S : Dv) (T : Lg) : Prop where
  calm : Calm S
  losses : S.losses = T.losses
  room : 4 * R ≤ S.cs.length
  first' : T.first = 0
  regions' : T.regions = R
  num : T.num ≤ k
  cap : T.cap ≤ k
  regs : T.regs.length ≤ k
  all : T.all.length ≤ k
  cont : T.cont.length ≤ 1472
  oks : ∀ t ∈ T.all, t.it.fits ∧ t.it.good = true
  pos : (T.all.map Th.pos).Nodup
def Lg.next (T : Lg) : Nat := (T.num + 1) % T.regions
def Lg.full (T : Lg) (x : It) : Prop := 1472 < T.cont.length + x.size
/-- The log that Seal leaves, if a Put of x must seal. -/
def Lg.cut (T : Lg) (v6 : Value) : Lg := (T.lose T.next).sealed v6 T.next (T.num + 1)
theorem flat_sub {l l' : List Rg} (h : List.Sublist l l') : List.Sublist (l.flatMap Rg.ths) (l'.flatMap Rg.ths) := by
  induction h with
  | slnil => exact List.Sublist.refl _
  | cons a _ ih => rw [List.flatMap_cons]; exact ih.trans (List.sublist_append_right _ _)
  | cons_cons a _ ih => rw [List.flatMap_cons, List.flatMap_cons]; exact List.Sublist.append (List.Sublist.refl _) ih
theorem lose_sub (T : Lg) (P : Nat) : List.Sublist (T.lose P).all T.all := by
  unfold Lg.all
  rw [(lose_same T P).1]
  refine List.Sublist.append (flat_sub ?_) (List.Sublist.refl _)
  unfold Lg.lose
  split
  · exact List.Sublist.refl _
  · exact List.eraseIdx_sublist _ _
theorem sealed_all (T : Lg) (v6 : Value) (p n : Nat) : (T.sealed v6 p n).all = T.all := by
  unfold Lg.all
  show (T.regs ++ [(⟨p, n, v6, T.opn⟩ : Rg)]).flatMap Rg.ths ++ [] = _
  rw [List.append_nil, List.flatMap_append]
  simp
theorem put_all (T : Lg) (t : Th) : (T.put t).all = T.all ++ [t] := by
  unfold Lg.all
  show T.regs.flatMap Rg.ths ++ (T.opn ++ [t]) = _
  rw [List.append_assoc]
theorem put_cont (T : Lg) (t : Th) : (T.put t).cont = T.cont ++ t.it.enc := by
  show encs ((T.opn ++ [t]).map Th.it) = encs (T.opn.map Th.it) ++ t.it.enc
  rw [List.map_append, encs_append]
  simp [encs]
theorem Run9.put {R k : Nat} {S : Dv} {T T' : Lg} (h : Run9 R k S T) (hs : List.Sublist T'.all T.all) (hf : T'.first = T.first) (hr : T'.regions = T.regions) (hc : T'.cap = T.cap) (hn : T'.num ≤ k + 1) (hg : T'.regs.length ≤ k + 1) {S' : Dv} (hS : Calm S') (hl : S'.losses = T'.losses) (hcs : S'.cs.length = S.cs.length)
    (t : Th) (ht : t.it.fits ∧ t.it.good = true) (hcl : T'.cont.length + t.it.size ≤ 1472) (hp : ∀ u ∈ T.all, u.pos ≠ t.pos) : Run9 R (k + 1) S' (T'.put t) := by
  refine ⟨hS, hl, by rw [hcs]; exact h.room, hf.trans h.first', hr.trans h.regions', hn, ?_, hg, ?_, ?_, fun u hu => ?_, ?_⟩
  · show T'.cap + 1 ≤ k + 1; rw [hc]; have := h.cap; omega
  · rw [put_all, List.length_append]
    have := hs.length_le
    have := h.all
    simp; omega
  · rw [put_cont, List.length_append, It.enc_length]; exact hcl
  · rw [put_all] at hu
    rcases List.mem_append.1 hu with h1 | h1
    · exact h.oks u (hs.subset h1)
    · simp only [List.mem_singleton] at h1; rw [h1]; exact ht
  · rw [put_all, List.map_append]
    refine List.nodup_append.2 ⟨(hs.map Th.pos).nodup h.pos, by simp, fun a ha b hb => ?_⟩
    obtain ⟨u, hu, rfl⟩ := List.mem_map.1 ha
    simp only [List.map_cons, List.map_nil, List.mem_singleton] at hb
    rw [hb]
    exact hp u (hs.subset hu)
theorem Run9.new {n R : Nat} {S : Dv} {T : Lg} (h : New9 n 0 R S T) (hn : 4 * R ≤ n) : Run9 R 0 S T := by
  have hall : T.all = [] := by unfold Lg.all; rw [h.regs, h.opn]; rfl
  refine ⟨h.calm, h.losses, by rw [h.cs]; simpa [Dv.fresh] using hn, h.first', h.regions', by rw [h.num]; exact Nat.le_refl _, by rw [h.cap]; exact Nat.le_refl _, by rw [h.regs]; exact Nat.le_refl _, by rw [hall]; exact Nat.le_refl _, ?_, fun t ht => (by rw [hall] at ht; cases ht), (by rw [hall]; exact List.nodup_nil)⟩
  unfold Lg.cont
  rw [h.opn]
  exact Nat.zero_le _
theorem put_run {w0 W : World} {d : Nat} {F : List Nat} {S : Dv} {l m : Nat} {v5 v6 v7 : Value} {T : Lg} {R k : Nat} (G : LG w0 W d F S l m v5 v6 v7 T) (hN : Run9 R k S T) (hR1 : 1 ≤ R) (hR64 : R ≤ 64) (hk : k < 100) (x : It) (hf : x.fits) :
    Calls Try.prog 10 #[.pointer (some ⟨l, 0, none⟩), x.val] W fun e W' =>
      (x.good = false ∧ e = .returned (.tuple #[.slice none 0 0, .int .i64 1]) ∧ Below W.heap.size W W') ∨
      (x.good = true ∧ ∃ va vn vc v5' v6' v7' F' S' T' ls, e = .returned (.tuple #[.slice va vn vc, .int .i64 0]) ∧ vn = ls.length ∧ Row W' W.heap.size (.slice va vn vc) ls ∧ LG w0 W' d F' S' l m v5' v6' v7' T' ∧ Run9 R (k + 1) S' T' ∧
        ((¬ T.full x ∧ ls = [] ∧ T' = T.put ⟨W.heap.size, 0, x⟩ ∧ S' = S) ∨
         (T.full x ∧ ls = T.lost T.next ∧ T' = (T.cut v6).put ⟨W.heap.size, 0, x⟩ ∧ S'.cs = put4 S.cs (4 * T.next) (T.num + 1) T.cont))) := by
  cases hg : x.good with
  | false =>
    have hgm := hg
    rw [x.good_mayBe] at hgm
    refine (put_bad (w := W) (l := l) (txt x.key) (txt x.value) x.flags x.exp x.ver hgm).mono ?_
    rintro e w' ⟨rfl, b⟩
    exact .inl ⟨rfl, rfl, b⟩
  | true =>
    have gs := good_sizes hg
    have hsz : x.size = 32 + x.key.length + x.value.length := rfl
    have hnew : ∀ u ∈ T.all, u.pos ≠ (⟨W.heap.size, 0, x⟩ : Th).pos := fun u hu e => by
      have h1 := (G.lg.ths u hu).lt
      have h2 : u.blk = W.heap.size := congrArg Prod.fst e
      omega
    have hall := hN.all
    have hopl : T.opn.length ≤ 1000 := by
      have : T.all.length = (T.regs.flatMap Rg.ths).length + T.opn.length := by unfold Lg.all; rw [List.length_append]
      omega
    by_cases hfl : T.cont.length + x.size ≤ 1472
    · refine (put_room G.lg x hf hg hfl (by have := hN.cap; omega) hopl).mono ?_
      rintro e w' ⟨rfl, v6', v7', hL, hK, h6, h7⟩
      refine .inr ⟨rfl, none, 0, 0, v5, v6', v7', F, S, _, [], rfl, rfl, Row.nil _ _, G.put hL hK h6 h7, ?_, .inl ⟨by unfold Lg.full; omega, rfl, rfl, rfl⟩⟩
      exact hN.put (List.Sublist.refl _) rfl rfl rfl (by have := hN.num; omega) (by have := hN.regs; omega) hN.calm hN.losses rfl ⟨W.heap.size, 0, x⟩ ⟨hf, hg⟩ hfl hnew
    · have hcne : T.cont ≠ [] := fun h0 => by rw [h0] at hfl; simp at hfl; omega
      have hopn : T.opn ≠ [] := fun h0 => hcne (by unfold Lg.cont; rw [h0]; rfl)
      have hnx : T.next < R := by unfold Lg.next; rw [hN.regions']; exact Nat.mod_lt _ hR1
      refine (put_full G.lg G.dev x hf hg (by omega) (by have := hN.cap; omega) hopn hN.losses (by have := hN.num; omega) (by rw [hN.regions']; exact hR1) (by rw [hN.regions']; exact hR64) (by rw [hN.first']; decide) hN.cont hcne (by have := hN.regs; omega) (by omega) T.next (T.num + 1) rfl rfl).mono ?_
      rintro e w' ⟨va, vn, vc, v5', F', hvn, hrow, hD', hK', hF', h5', rfl, hend⟩
      have hbase : T.first + 4 * T.next = 4 * T.next := by rw [hN.first', Nat.zero_add]
      have hwr := wr_calm hN.calm (4 * T.next) (T.num + 1) (by have := hN.room; omega) T.cont
      rw [hbase] at hD' hend ⊢
      rw [hwr.1] at hend ⊢
      rcases hend with ⟨h0, _⟩ | ⟨_, v6', v7', hL', h6', h7'⟩
      · exact absurd rfl h0
      have hs := G.bel.size
      have hfoot : ∀ q ∈ F ++ l :: m :: own v5, w0.heap.size ≤ q := fun q hq => by
        simp only [List.mem_append, List.mem_cons] at hq
        rcases hq with h1 | h1 | h1 | h1
        · exact G.lowF q h1
        · exact G.lowL q (by simp [lfoot, h1])
        · exact G.lowL q (by simp [lfoot, h1])
        · exact G.lowL q (by simp [lfoot, h1])
      have G' : LG w0 w' d F' (wrR (4 * T.next) (T.num + 1) 4 S T.cont).2 l m v5' v6' v7' ((T.cut v6).put ⟨W.heap.size, 0, x⟩) := by
        refine ⟨hL', hD', G.bel.trans (hK'.below hfoot hs), fun q hq => ?_, fun q hq => ?_⟩
        · rcases hF' q hq with h1 | h1
          · exact G.lowF q h1
          · omega
        · simp only [lfoot, List.mem_cons, List.mem_append] at hq
          rcases hq with h1 | h1 | h1 | h1 | h1
          · exact G.lowL q (by simp [lfoot, h1])
          · exact G.lowL q (by simp [lfoot, h1])
          · rcases h5' q h1 with h2 | h2
            · exact G.lowL q (by simp [lfoot, h2])
            · omega
          · have := h6' q h1; omega
          · have := h7' q h1; omega
      obtain ⟨s1, s2, s3, s4, s5, s6, s7⟩ := lose_same T T.next
      refine .inr ⟨rfl, va, vn, vc, v5', v6', v7', F', _, _, _, rfl, hvn, hrow, G', ?_, .inr ⟨by unfold Lg.full; omega, rfl, rfl, hwr.2.1⟩⟩
      refine hN.put (T' := T.cut v6) (by unfold Lg.cut; rw [sealed_all]; exact lose_sub T _) s2 s5 s6 (by show T.num + 1 ≤ k + 1; have := hN.num; omega) ?_ hwr.2.2.1 ?_ (by rw [hwr.2.1, put4_length]) ⟨W.heap.size, 0, x⟩ ⟨hf, hg⟩ (by show 0 + x.size ≤ 1472; omega) hnew
      · show ((T.lose T.next).regs ++ [_]).length ≤ k + 1
        rw [List.length_append, List.length_singleton]
        have := hN.regs; omega
      · rw [hwr.2.2.2, hN.losses]; exact s4.symm

theorem cont_ne {T : Lg} (ho : ∀ t ∈ T.all, t.it.fits ∧ t.it.good = true) (h : T.opn ≠ []) : T.cont ≠ [] := by
  obtain ⟨t, r, hr⟩ : ∃ t r, T.opn = t :: r := by
    cases hq : T.opn with
    | nil => exact absurd hq h
    | cons a b => exact ⟨a, b, rfl⟩
  intro h0
  have e : T.cont = t.it.enc ++ encs (r.map Th.it) := by unfold Lg.cont; rw [hr]; simp [encs]
  rw [e] at h0
  have h1 := congrArg List.length h0
  rw [List.length_append, It.enc_length] at h1
  have : t.it.size = 32 + t.it.key.length + t.it.value.length := rfl
  simp at h1
  omega
theorem seal_run {w0 W : World} {d : Nat} {F : List Nat} {S : Dv} {l m : Nat} {v5 v6 v7 : Value} {T : Lg} {R k : Nat} (G : LG w0 W d F S l m v5 v6 v7 T) (hN : Run9 R k S T) (hR1 : 1 ≤ R) (hR64 : R ≤ 64) (hk : k < 100) :
    Calls Try.prog 11 #[.pointer (some ⟨l, 0, none⟩)] W fun e W' =>
      (T.opn = [] ∧ e = .returned (.tuple #[.slice none 0 0, .int .i64 0]) ∧ W' = W) ∨
      (T.opn ≠ [] ∧ ∃ va vn vc v5' F' S', e = .returned (.tuple #[.slice va vn vc, .int .i64 0]) ∧ vn = (T.lost T.next).length ∧ Row W' W.heap.size (.slice va vn vc) (T.lost T.next) ∧
        LG w0 W' d F' S' l m v5' (.slice none 0 0) (.slice none 0 0) (T.cut v6) ∧ S'.cs = put4 S.cs (4 * T.next) (T.num + 1) T.cont ∧ Calm S' ∧ S'.losses = T.losses) := by
  by_cases ho : T.opn = []
  · refine (seal_idle G.lg ho).mono ?_
    rintro e w' ⟨rfl, rfl⟩
    exact .inl ⟨ho, rfl, rfl⟩
  · have hall := hN.all
    have hnx : T.next < R := by unfold Lg.next; rw [hN.regions']; exact Nat.mod_lt _ hR1
    refine (seal_log G.lg G.dev ho hN.losses (by have := hN.num; omega) (by rw [hN.regions']; exact hR1) (by rw [hN.regions']; exact hR64) (by rw [hN.first']; decide) hN.cont (cont_ne hN.oks ho) (by have := hN.regs; omega) T.next (T.num + 1) rfl rfl (lose_any G.lg _ (by have := hN.regs; omega) (by omega))).mono ?_
    rintro e w' ⟨va, vn, vc, v5', F', hvn, hrow, hD', hK', hF', h5', rfl, hend⟩
    have hbase : T.first + 4 * T.next = 4 * T.next := by rw [hN.first', Nat.zero_add]
    have hwr := wr_calm hN.calm (4 * T.next) (T.num + 1) (by have := hN.room; omega) T.cont
    rw [hbase] at hD' hend ⊢
    rw [hwr.1] at hend ⊢
    rcases hend with ⟨h0, _⟩ | ⟨_, hL'⟩
    · exact absurd rfl h0
    have G' := G.seal hL' hD' hK' hF' h5' (fun q hq => by simp [own, Value.ownBlock] at hq) (fun q hq => by simp [own, Value.ownBlock] at hq)
    exact .inr ⟨ho, va, vn, vc, v5', F', _, rfl, hvn, hrow, G', hwr.2.1, hwr.2.2.1, by rw [hwr.2.2.2, hN.losses]⟩
/-- Of four pages one has no form, the others bear n. -/
theorem cnt_half {cs : List Cl} {base n p : Nat} (hp : p < 4) (h0 : fmAt cs (base + p) = none) (h : ∀ k, k < 4 → k ≠ p → ∃ l, fmAt cs (base + k) = some l ∧ fmNum l = n) :
    cnt cs base = none ∧ ∀ m, maxNum m (forms cs base 4) = max m n := by
  have key : ∀ a b c : List UInt8, fmNum a = n → fmNum b = n → fmNum c = n → isWhole [a, b, c] = false ∧ ∀ m, maxNum m [a, b, c] = max m n := fun a b c ha hb hc => ⟨by simp [isWhole], fun m => by
    simp only [maxNum, List.foldl_cons, List.foldl_nil, ha, hb, hc]
    omega⟩
  obtain ⟨a, b, c, hf, ha, hb, hc⟩ : ∃ a b c, forms cs base 4 = [a, b, c] ∧ fmNum a = n ∧ fmNum b = n ∧ fmNum c = n := by
    have e : forms cs base 4 = [] ++ (fmAt cs (base + 0)).toList ++ (fmAt cs (base + 1)).toList ++ (fmAt cs (base + 2)).toList ++ (fmAt cs (base + 3)).toList := rfl
    match p, hp with
    | 0, _ =>
      obtain ⟨a, ha, ha'⟩ := h 1 (by omega) (by omega)
      obtain ⟨b, hb, hb'⟩ := h 2 (by omega) (by omega)
      obtain ⟨c, hc, hc'⟩ := h 3 (by omega) (by omega)
      exact ⟨a, b, c, by rw [e, h0, ha, hb, hc]; rfl, ha', hb', hc'⟩
    | 1, _ =>
      obtain ⟨a, ha, ha'⟩ := h 0 (by omega) (by omega)
      obtain ⟨b, hb, hb'⟩ := h 2 (by omega) (by omega)
      obtain ⟨c, hc, hc'⟩ := h 3 (by omega) (by omega)
      exact ⟨a, b, c, by rw [e, h0, ha, hb, hc]; rfl, ha', hb', hc'⟩
    | 2, _ =>
      obtain ⟨a, ha, ha'⟩ := h 0 (by omega) (by omega)
      obtain ⟨b, hb, hb'⟩ := h 1 (by omega) (by omega)
      obtain ⟨c, hc, hc'⟩ := h 3 (by omega) (by omega)
      exact ⟨a, b, c, by rw [e, h0, ha, hb, hc]; rfl, ha', hb', hc'⟩
    | 3, _ =>
      obtain ⟨a, ha, ha'⟩ := h 0 (by omega) (by omega)
      obtain ⟨b, hb, hb'⟩ := h 1 (by omega) (by omega)
      obtain ⟨c, hc, hc'⟩ := h 2 (by omega) (by omega)
      exact ⟨a, b, c, by rw [e, h0, ha, hb, hc]; rfl, ha', hb', hc'⟩
  obtain ⟨h1, h2⟩ := key a b c ha hb hc
  refine ⟨?_, fun m => by rw [hf]; exact h2 m⟩
  unfold cnt
  rw [hf, h1]
  simp
/-- The pages that a Seal left. -/
theorem put4_form (cs : List Cl) (base n : Nat) (c : List UInt8) (hb : base + 4 ≤ cs.length) (hn : n < 18446744073709551616) (k : Nat) (hk : k < 4) : ∃ l, fmAt (put4 cs base n c) (base + k) = some l ∧ fmPlace l = k ∧ fmNum l = n := by
  obtain ⟨l, h1, h2, h3, _⟩ := page_read k n (part9 c k) hk hn (part9_le c k)
  refine ⟨l, ?_, h2, h3⟩
  unfold fmAt
  rw [put4_in cs base n c hb k hk]
  exact h1
theorem forms_four {cs : List Cl} {base : Nat} (f : Nat → List UInt8) (h : ∀ k, k < 4 → fmAt cs (base + k) = some (f k)) : forms cs base 4 = [f 0, f 1, f 2, f 3] := by
  have e : forms cs base 4 = [] ++ (fmAt cs (base + 0)).toList ++ (fmAt cs (base + 1)).toList ++ (fmAt cs (base + 2)).toList ++ (fmAt cs (base + 3)).toList := rfl
  rw [e, h 0 (by omega), h 1 (by omega), h 2 (by omega), h 3 (by omega)]
  rfl
/-- Four pages with form, of which one stands elsewhere, or bears another number than the first. -/
theorem cnt_odd {cs : List Cl} {base : Nat} (f : Nat → List UInt8) (h : ∀ k, k < 4 → fmAt cs (base + k) = some (f k)) (k : Nat) (hk : k < 4) (ho : fmPlace (f k) ≠ k ∨ fmNum (f k) ≠ fmNum (f 0)) : cnt cs base = none := by
  have hf := forms_four f h
  have hw : isWhole [f 0, f 1, f 2, f 3] = false := by
    cases hq : isWhole [f 0, f 1, f 2, f 3] with
    | false => rfl
    | true =>
      exfalso
      simp [isWhole, run9, headNum] at hq
      obtain ⟨_, h0, h1, h1', h2, h2', h3, h3'⟩ := hq
      match k, hk with
      | 0, _ => rcases ho with h | h; exact h h0; exact h rfl
      | 1, _ => rcases ho with h | h; exact h h1; exact h h1'
      | 2, _ => rcases ho with h | h; exact h h2; exact h h2'
      | 3, _ => rcases ho with h | h; exact h h3; exact h h3'
  unfold cnt
  rw [hf, hw]
  simp
theorem max_four {cs : List Cl} {base : Nat} (f : Nat → List UInt8) (h : ∀ k, k < 4 → fmAt cs (base + k) = some (f k)) (n : Nat) (k : Nat) (hk : k < 4) (hn : fmNum (f k) = n) (m : Nat) : n ≤ maxNum m (forms cs base 4) := by
  rw [forms_four f h]
  simp only [maxNum, List.foldl_cons, List.foldl_nil]
  match k, hk with
  | 0, _ => omega
  | 1, _ => omega
  | 2, _ => omega
  | 3, _ => omega
theorem max_same {cs : List Cl} {base : Nat} (f : Nat → List UInt8) (h : ∀ k, k < 4 → fmAt cs (base + k) = some (f k)) (n : Nat) (hn : ∀ k, k < 4 → fmNum (f k) = n) (m : Nat) : maxNum m (forms cs base 4) = max m n := by
  rw [forms_four f h]
  simp only [maxNum, List.foldl_cons, List.foldl_nil, hn 0 (by omega), hn 1 (by omega), hn 2 (by omega), hn 3 (by omega)]
  omega

theorem fmAt_now (cs : List Cl) (k : Nat) : fmAt cs k = ((cs[k]?).map (·.now)).bind fmPg := by
  unfold fmAt
  cases cs[k]? <;> rfl
theorem fm_put_other (cs : List Cl) (p j : Nat) (pg : Pg) (h : j ≠ p) : fmAt (putAt cs p pg) j = fmAt cs j := by
  rw [fmAt_now, fmAt_now, putAt_get, if_neg (fun e => h e.1)]
theorem fm_put_same (cs : List Cl) (p : Nat) (l : List UInt8) (hp : p < cs.length) (hl : l.length = 384) (hf : isForm l = true) : fmAt (putAt cs p (.whole ⟨l.toArray⟩)) p = some l := by
  rw [fmAt_now, putAt_get, if_pos ⟨rfl, hp⟩]
  have hd : (full ⟨l.toArray⟩).data.toList = l := by
    rw [full_data]
    have : (⟨l.toArray⟩ : ByteArray).size = 384 := by show l.toArray.size = 384; rw [List.size_toArray, hl]
    rw [this]
    simp
  have ht : pgText (.whole ⟨l.toArray⟩) = some l := by
    show some (full ⟨l.toArray⟩).data.toList = some l
    rw [hd]
  show fmPg (.whole ⟨l.toArray⟩) = some l
  unfold fmPg
  rw [ht]
  simp [hf]
theorem up_inj : ∀ (a b : List UInt8), a.length = b.length → up a = up b → a = b
  | [], [], _, _ => rfl
  | [], _ :: _, h, _ => by simp at h
  | _ :: _, [], h, _ => by simp at h
  | x :: a, y :: b, h, e => by
    simp only [up] at e
    have hx := x.toNat_lt
    have hy := y.toNat_lt
    have h1 : x.toNat = y.toNat := by omega
    have h2 : up a = up b := by omega
    rw [UInt8.toNat_inj.1 h1, up_inj a b (by simpa using h) h2]
theorem sl_set_out (l : List UInt8) (k i j : Nat) (v : UInt8) (h : k < i ∨ j ≤ k) : sl (l.set k v) i j = sl l i j := by
  unfold sl
  rcases h with h | h
  · rw [List.take_set, List.drop_set_of_lt h]
  · rw [List.take_set, List.set_eq_of_length_le (by rw [List.length_take]; omega)]
/-- One byte of a page's number is changed: the page keeps its form, its number is another. -/
theorem flip_num (l : List UInt8) (hl : l.length = 384) (hf : isForm l = true) (at0 : Nat) (ha : at0 < 8) (v : UInt8) (hv : l[8 + at0]? ≠ some v) :
    isForm (l.set (8 + at0) v) = true ∧ fmPlace (l.set (8 + at0) v) = fmPlace l ∧ fmNum (l.set (8 + at0) v) ≠ fmNum l ∧ (l.set (8 + at0) v).length = 384 := by
  have hg : ∀ i, i < 8 → (l.set (8 + at0) v).getD i 0 = l.getD i 0 := fun i hi => by
    rw [List.getD_eq_getElem?_getD, List.getD_eq_getElem?_getD, List.getElem?_set_ne (by omega)]
  refine ⟨?_, ?_, fun e => ?_, by simpa using hl⟩
  · unfold isForm at hf ⊢
    rw [sl_set_out l _ 0 2 v (.inr (by omega)), sl_set_out l _ 4 8 v (.inr (by omega)), hg 3 (by omega)]
    exact hf
  · unfold fmPlace
    rw [hg 2 (by omega)]
  · unfold fmNum at e
    have e2 := up_inj _ _ (by unfold sl; simp) e
    have e3 := congrArg (fun q => q[at0]?) e2
    simp only [sl, List.getElem?_drop] at e3
    rw [List.getElem?_take_of_lt (by omega), List.getElem?_take_of_lt (by omega), List.getElem?_set_self (by omega)] at e3
    exact hv e3.symm
theorem readDo_same (S : Dv) (k : Int) (h : Calm S) : (S.readDo k).cs = S.cs ∧ Calm (S.readDo k) ∧ (S.readDo k).losses = S.losses := by
  unfold Dv.readDo
  split
  · exact ⟨rfl, h, rfl⟩
  · split
    · exact ⟨rfl, h, rfl⟩
    · exact ⟨rfl, ⟨h.armed, h.off⟩, rfl⟩
section
variable {w0 W : World} {d : Nat} {F : List Nat} {S : Dv} {l m : Nat} {v5 v6 v7 : Value} {T : Lg}
theorem read_sealed (G : LG w0 W d F S l m v5 v6 v7 T) (hS : Calm S) (cs0 : List Cl) (n : Nat) (c : List UInt8) (hcs : S.cs = put4 cs0 0 n c) (hb : 4 ≤ cs0.length) (hn : n < 18446744073709551616) (p : Nat) (hp : p < 4) :
    Calls Try.prog 19 #[.pointer (some ⟨d, 0, none⟩), .int .i64 (p : Nat)] W fun e W' => ∃ l9 S', e = .returned (.tuple #[.slice (some ⟨W.heap.size + 1, 0, none⟩) 384 384, .int .i64 0]) ∧ Blk W' (W.heap.size + 1) (bCells l9) 5 ∧ l9.length = 384 ∧ fmAt S.cs p = some l9 ∧
      LG w0 W' d F S' l m v5 v6 v7 T ∧ S'.cs = S.cs ∧ Calm S' ∧ S'.losses = S.losses := by
  have hk : S.cs[p]? = some ⟨.whole ⟨(pageR p n (part9 c p)).toArray⟩, none⟩ := by
    have := put4_in cs0 0 n c (by omega) p hp
    rw [Nat.zero_add] at this
    rw [hcs]; exact this
  obtain ⟨rv, er, hc, hor⟩ := read_page (d := d) (F := F) hk hS.off
  obtain ⟨lf, hf, _, _⟩ := put4_form cs0 0 n c (by omega) hn p hp
  rw [Nat.zero_add, ← hcs] at hf
  rcases hor with ⟨_, _, hno⟩ | ⟨rfl, hrv, l9, hl9⟩
  · cases hno
  refine (hc W G.dev).mono ?_
  rintro e w' ⟨rfl, hd, hkp, hbl⟩
  obtain ⟨hb9, hlen⟩ := hbl l9 hl9
  have hfm : fmAt S.cs p = some l9 := by
    have h1 : fmAt S.cs p = fmPg (.whole ⟨(pageR p n (part9 c p)).toArray⟩) := by unfold fmAt; rw [hk]; rfl
    rw [h1] at hf ⊢
    unfold fmPg at hf ⊢
    have h2 : pgText (.whole ⟨(pageR p n (part9 c p)).toArray⟩) = some l9 := hl9
    rw [h2] at hf ⊢
    simp only [Option.bind_some] at hf ⊢
    split at hf
    · rename_i hq; rw [if_pos hq]
    · cases hf
  have hs := readDo_same S (p : Int) hS
  exact ⟨l9, _, by rw [hrv], hb9, hlen, hfm, G.devTurn hd (Moves.of_keep hkp), hs.1, hs.2.1, hs.2.2⟩
theorem write_page (G : LG w0 W d F S l m v5 v6 v7 T) (hS : Calm S) (p : Nat) (hp : p < S.cs.length) (g : Nat) (l9 : List UInt8) (hl : l9.length = 384) (hb : Blk W g (bCells l9) 5) :
    Calls Try.prog 15 #[.pointer (some ⟨d, 0, none⟩), .int .i64 (p : Nat), .slice (some ⟨g, 0, none⟩) 384 384] W fun e W' => e = .returned (.int .i64 0) ∧ ∃ F' S', LG w0 W' d F' S' l m v5 v6 v7 T ∧ S'.cs = putAt S.cs p (.whole ⟨l9.toArray⟩) ∧ Calm S' ∧ S'.losses = S.losses := by
  have hbuf : Buf W g l9 0 := by
    unfold Buf
    rw [show zc 0 = [] from rfl, List.append_nil]
    exact hb
  have hgF : g ∉ F := fun hm => by
    obtain ⟨c, e, h1, h2⟩ := G.dev.kinds g hm
    have h3 : W.heap[g]? = some (.cells (bCells l9).toArray 5 (0, 0)) := hb
    rw [h1] at h3
    simp only [Option.some.injEq, Obj.cells.injEq] at h3
    have := h3.2.1
    rcases h2 with rfl | rfl | rfl <;> cases this
  have hwr := write_calm hS p hp ⟨l9.toArray⟩ (by show l9.toArray.size ≤ 384; rw [List.size_toArray, hl]; exact Nat.le_refl _)
  refine (write_at d F S (p : Int) (some ⟨g, 0, none⟩) 384 384 g l9 hl.symm W (buf_bslice hbuf) (fun h => by cases h) (fun _ => hgF) G.dev).mono ?_
  rintro e w' ⟨rfl, F', hd, hm⟩
  exact ⟨by rw [hwr.1], F', _, G.devTurn hd hm, hwr.2.1, hwr.2.2.1, hwr.2.2.2⟩
/-- Open where the one region does not count: nothing is told. -/
theorem open_none (G : LG w0 W d F S l m v5 v6 v7 T) (hS : Calm S) (hlen : 4 ≤ S.cs.length) (hc : cnt S.cs 0 = none) :
    Calls Try.prog 9 #[.pointer (some ⟨d, 0, none⟩), .int .i64 0, .int .i64 1] W fun e W' => ∃ lh mh v5h v6h v7h Th S', e = .returned (.tuple #[.pointer (some ⟨lh, 0, none⟩), .int .i64 0]) ∧ LgIn W' lh d mh v5h v6h v7h Th ∧ Th.items = [] ∧ Th.all = [] ∧ Th.regs = [] ∧ Th.num = maxNum 0 (forms S.cs 0 4) ∧ LG w0 W' d F S' l m v5 v6 v7 T := by
  have hcn : cnts S.cs 0 1 = [] := by
    show [] ++ ((cnt S.cs (0 + 4 * 0)).map fun p => (0, p.1, p.2)).toList = []
    rw [hc]; rfl
  refine (open_log sort_one G.dev hS.off 0 1 (by omega) (by omega) (by omega) (by rw [hcn]; exact Nat.zero_le _)).mono ?_
  rintro e w2 ⟨lh, mh, v5h, Th, Sh, rfl, hLh, hSh, hDh, hKh, hlowh, hnewh, hnodh, u1, u2, u3, u4, u5, u6, u7, rsh, u8, u9⟩
  have hrs : rsh = [] := by rw [hcn] at u8; exact List.map_eq_nil_iff.1 u8
  have hregs : Th.regs = [] := by rw [u9, hrs]; rfl
  have hall : Th.all = [] := by unfold Lg.all; rw [hregs, u5]; rfl
  exact ⟨lh, mh, v5h, _, _, Th, Sh, rfl, hLh, by unfold Lg.items; rw [hall]; rfl, hall, hregs, u4, G.devTurn hDh (Moves.of_keep hKh)⟩
end
end Go.Proofs.Ytbjkahdlejaheab
