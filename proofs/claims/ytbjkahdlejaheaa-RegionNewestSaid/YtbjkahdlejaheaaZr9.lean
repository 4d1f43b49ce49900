/- Joined texts: Run9, Nw9, Sd9, Ru9, So3, AnyP, Sg9. -/
import Derived.Test.YtbjkahdlejaheaaZl9
import Derived.Test.YtbjkahdlejaheaaOp9
import Derived.Test.YtbjkahdlejaheaaAnyB
/- Put of any item into a log whose device is calm. -/
set_option linter.unusedVariables false
set_option linter.unusedSimpArgs false
set_option maxRecDepth 8000
namespace Go.Proofs.Ytbjkahdlejaheaa
open Go.RowKit Go.Deep Math

/-- Of a log that at most k items were put into. -/
structure Run9 (R k : Nat) (S : Dv) (T : Lg) : Prop where
  calm : Calm S
  losses : S.losses = T.losses
  room : 4 * R ≤ S.cs.length
  first' : T.first = 0
  regions' : T.regions = R
  num : T.num ≤ k
  cap : T.cap ≤ k
  regs : T.regs.length ≤ k
  all : T.all.length ≤ k
  cont : T.cont.length ≤ 1472
  oks : ∀ t ∈ T.all, t.it.fits ∧ t.it.good = true
  pos : (T.all.map Th.pos).Nodup
def Lg.next (T : Lg) : Nat := (T.num + 1) % T.regions
def Lg.full (T : Lg) (x : It) : Prop := 1472 < T.cont.length + x.size
/-- The log that Seal leaves, if a Put of x must seal. -/
def Lg.cut (T : Lg) (v6 : Value) : Lg := (T.lose T.next).sealed v6 T.next (T.num + 1)
theorem flat_sub {l l' : List Rg} (h : List.Sublist l l') : List.Sublist (l.flatMap Rg.ths) (l'.flatMap Rg.ths) := by
  induction h with
  | slnil => exact List.Sublist.refl _
  | cons a _ ih => rw [List.flatMap_cons]; exact ih.trans (List.sublist_append_right _ _)
  | cons_cons a _ ih => rw [List.flatMap_cons, List.flatMap_cons]; exact List.Sublist.append (List.Sublist.refl _) ih
theorem lose_sub (T : Lg) (P : Nat) : List.Sublist (T.lose P).all T.all := by
  unfold Lg.all
  rw [(lose_same T P).1]
  refine List.Sublist.append (flat_sub ?_) (List.Sublist.refl _)
  unfold Lg.lose
  split
  · exact List.Sublist.refl _
  · exact List.eraseIdx_sublist _ _
theorem sealed_all (T : Lg) (v6 : Value) (p n : Nat) : (T.sealed v6 p n).all = T.all := by
  unfold Lg.all
  show (T.regs ++ [(⟨p, n, v6, T.opn⟩ : Rg)]).flatMap Rg.ths ++ [] = _
  rw [List.append_nil, List.flatMap_append]
  simp
theorem put_all (T : Lg) (t : Th) : (T.put t).all = T.all ++ [t] := by
  unfold Lg.all
  show T.regs.flatMap Rg.ths ++ (T.opn ++ [t]) = _
  rw [List.append_assoc]
theorem put_cont (T : Lg) (t : Th) : (T.put t).cont = T.cont ++ t.it.enc := by
  show encs ((T.opn ++ [t]).map Th.it) = encs (T.opn.map Th.it) ++ t.it.enc
  rw [List.map_append, encs_append]
  simp [encs]
theorem Run9.put {R k : Nat} {S : Dv} {T T' : Lg} (h : Run9 R k S T) (hs : List.Sublist T'.all T.all) (hf : T'.first = T.first) (hr : T'.regions = T.regions) (hc : T'.cap = T.cap) (hn : T'.num ≤ k + 1) (hg : T'.regs.length ≤ k + 1) {S' : Dv} (hS : Calm S') (hl : S'.losses = T'.losses) (hcs : S'.cs.length = S.cs.length)
    (t : Th) (ht : t.it.fits ∧ t.it.good = true) (hcl : T'.cont.length + t.it.size ≤ 1472) (hp : ∀ u ∈ T.all, u.pos ≠ t.pos) : Run9 R (k + 1) S' (T'.put t) := by
  refine ⟨hS, hl, by rw [hcs]; exact h.room, hf.trans h.first', hr.trans h.regions', hn, ?_, hg, ?_, ?_, fun u hu => ?_, ?_⟩
  · show T'.cap + 1 ≤ k + 1; rw [hc]; have := h.cap; omega
  · rw [put_all, List.length_append]
    have := hs.length_le
    have := h.all
    simp; omega
  · rw [put_cont, List.length_append, It.enc_length]; exact hcl
  · rw [put_all] at hu
    rcases List.mem_append.1 hu with h1 | h1
    · exact h.oks u (hs.subset h1)
    · simp only [List.mem_singleton] at h1; rw [h1]; exact ht
  · rw [put_all, List.map_append]
    refine List.nodup_append.2 ⟨(hs.map Th.pos).nodup h.pos, by simp, fun a ha b hb => ?_⟩
    obtain ⟨u, hu, rfl⟩ := List.mem_map.1 ha
    simp only [List.map_cons, List.map_nil, List.mem_singleton] at hb
    rw [hb]
    exact hp u (hs.subset hu)
theorem Run9.new {n R : Nat} {S : Dv} {T : Lg} (h : New9 n 0 R S T) (hn : 4 * R ≤ n) : Run9 R 0 S T := by
  have hall : T.all = [] := by unfold Lg.all; rw [h.regs, h.opn]; rfl
  refine ⟨h.calm, h.losses, by rw [h.cs]; simpa [Dv.fresh] using hn, h.first', h.regions', by rw [h.num]; exact Nat.le_refl _, by rw [h.cap]; exact Nat.le_refl _, by rw [h.regs]; exact Nat.le_refl _, by rw [hall]; exact Nat.le_refl _, ?_, fun t ht => (by rw [hall] at ht; cases ht), (by rw [hall]; exact List.nodup_nil)⟩
  unfold Lg.cont
  rw [h.opn]
  exact Nat.zero_le _
theorem put_run {w0 W : World} {d : Nat} {F : List Nat} {S : Dv} {l m : Nat} {v5 v6 v7 : Value} {T : Lg} {R k : Nat} (G : LG w0 W d F S l m v5 v6 v7 T) (hN : Run9 R k S T) (hR1 : 1 ≤ R) (hR64 : R ≤ 64) (hk : k < 100) (x : It) (hf : x.fits) :
    Calls Try.prog 11 #[.pointer (some ⟨l, 0, none⟩), x.val] W fun e W' =>
      (x.good = false ∧ e = .returned (.tuple #[.slice none 0 0, .int .i64 1]) ∧ Below W.heap.size W W') ∨
      (x.good = true ∧ ∃ va vn vc v5' v6' v7' F' S' T' ls, e = .returned (.tuple #[.slice va vn vc, .int .i64 0]) ∧ vn = ls.length ∧ Row W' W.heap.size (.slice va vn vc) ls ∧ LG w0 W' d F' S' l m v5' v6' v7' T' ∧ Run9 R (k + 1) S' T' ∧
        ((¬ T.full x ∧ ls = [] ∧ T' = T.put ⟨W.heap.size, 0, x⟩ ∧ S' = S) ∨
         (T.full x ∧ ls = T.lost T.next ∧ T' = (T.cut v6).put ⟨W.heap.size, 0, x⟩ ∧ S'.cs = put4 S.cs (4 * T.next) (T.num + 1) T.cont))) := by
  cases hg : x.good with
  | false =>
    have hgm := hg
    rw [x.good_mayBe] at hgm
    refine (put_bad (w := W) (l := l) (txt x.key) (txt x.value) x.flags x.exp x.ver hgm).mono ?_
    rintro e w' ⟨rfl, b⟩
    exact .inl ⟨rfl, rfl, b⟩
  | true =>
    have gs := good_sizes hg
    have hsz : x.size = 32 + x.key.length + x.value.length := rfl
    have hnew : ∀ u ∈ T.all, u.pos ≠ (⟨W.heap.size, 0, x⟩ : Th).pos := fun u hu e => by
      have h1 := (G.lg.ths u hu).lt
      have h2 : u.blk = W.heap.size := congrArg Prod.fst e
      omega
    have hall := hN.all
    have hopl : T.opn.length ≤ 1000 := by
      have : T.all.length = (T.regs.flatMap Rg.ths).length + T.opn.length := by unfold Lg.all; rw [List.length_append]
      omega
    by_cases hfl : T.cont.length + x.size ≤ 1472
    · refine (put_room G.lg x hf hg hfl (by have := hN.cap; omega) hopl).mono ?_
      rintro e w' ⟨rfl, v6', v7', hL, hK, h6, h7⟩
      refine .inr ⟨rfl, none, 0, 0, v5, v6', v7', F, S, _, [], rfl, rfl, Row.nil _ _, G.put hL hK h6 h7, ?_, .inl ⟨by unfold Lg.full; omega, rfl, rfl, rfl⟩⟩
      exact hN.put (List.Sublist.refl _) rfl rfl rfl (by have := hN.num; omega) (by have := hN.regs; omega) hN.calm hN.losses rfl ⟨W.heap.size, 0, x⟩ ⟨hf, hg⟩ hfl hnew
    · have hcne : T.cont ≠ [] := fun h0 => by rw [h0] at hfl; simp at hfl; omega
      have hopn : T.opn ≠ [] := fun h0 => hcne (by unfold Lg.cont; rw [h0]; rfl)
      have hnx : T.next < R := by unfold Lg.next; rw [hN.regions']; exact Nat.mod_lt _ hR1
      refine (put_full G.lg G.dev x hf hg (by omega) (by have := hN.cap; omega) hopn hN.losses (by have := hN.num; omega) (by rw [hN.regions']; exact hR1) (by rw [hN.regions']; exact hR64) (by rw [hN.first']; decide) hN.cont hcne (by have := hN.regs; omega) (by omega) T.next (T.num + 1) rfl rfl).mono ?_
      rintro e w' ⟨va, vn, vc, v5', F', hvn, hrow, hD', hK', hF', h5', rfl, hend⟩
      have hbase : T.first + 4 * T.next = 4 * T.next := by rw [hN.first', Nat.zero_add]
      have hwr := wr_calm hN.calm (4 * T.next) (T.num + 1) (by have := hN.room; omega) T.cont
      rw [hbase] at hD' hend ⊢
      rw [hwr.1] at hend ⊢
      rcases hend with ⟨h0, _⟩ | ⟨_, v6', v7', hL', h6', h7'⟩
      · exact absurd rfl h0
      have hs := G.bel.size
      have hfoot : ∀ q ∈ F ++ l :: m :: own v5, w0.heap.size ≤ q := fun q hq => by
        simp only [List.mem_append, List.mem_cons] at hq
        rcases hq with h1 | h1 | h1 | h1
        · exact G.lowF q h1
        · exact G.lowL q (by simp [lfoot, h1])
        · exact G.lowL q (by simp [lfoot, h1])
        · exact G.lowL q (by simp [lfoot, h1])
      have G' : LG w0 w' d F' (wrR (4 * T.next) (T.num + 1) 4 S T.cont).2 l m v5' v6' v7' ((T.cut v6).put ⟨W.heap.size, 0, x⟩) := by
        refine ⟨hL', hD', G.bel.trans (hK'.below hfoot hs), fun q hq => ?_, fun q hq => ?_⟩
        · rcases hF' q hq with h1 | h1
          · exact G.lowF q h1
          · omega
        · simp only [lfoot, List.mem_cons, List.mem_append] at hq
          rcases hq with h1 | h1 | h1 | h1 | h1
          · exact G.lowL q (by simp [lfoot, h1])
          · exact G.lowL q (by simp [lfoot, h1])
          · rcases h5' q h1 with h2 | h2
            · exact G.lowL q (by simp [lfoot, h2])
            · omega
          · have := h6' q h1; omega
          · have := h7' q h1; omega
      obtain ⟨s1, s2, s3, s4, s5, s6, s7⟩ := lose_same T T.next
      refine .inr ⟨rfl, va, vn, vc, v5', v6', v7', F', _, _, _, rfl, hvn, hrow, G', ?_, .inr ⟨by unfold Lg.full; omega, rfl, rfl, hwr.2.1⟩⟩
      refine hN.put (T' := T.cut v6) (by unfold Lg.cut; rw [sealed_all]; exact lose_sub T _) s2 s5 s6 (by show T.num + 1 ≤ k + 1; have := hN.num; omega) ?_ hwr.2.2.1 ?_ (by rw [hwr.2.1, put4_length]) ⟨W.heap.size, 0, x⟩ ⟨hf, hg⟩ (by show 0 + x.size ≤ 1472; omega) hnew
      · show ((T.lose T.next).regs ++ [_]).length ≤ k + 1
        rw [List.length_append, List.length_singleton]
        have := hN.regs; omega
      · rw [hwr.2.2.2, hN.losses]; exact s4.symm

theorem cont_ne {T : Lg} (ho : ∀ t ∈ T.all, t.it.fits ∧ t.it.good = true) (h : T.opn ≠ []) : T.cont ≠ [] := by
  obtain ⟨t, r, hr⟩ : ∃ t r, T.opn = t :: r := by
    cases hq : T.opn with
    | nil => exact absurd hq h
    | cons a b => exact ⟨a, b, rfl⟩
  intro h0
  have e : T.cont = t.it.enc ++ encs (r.map Th.it) := by unfold Lg.cont; rw [hr]; simp [encs]
  rw [e] at h0
  have h1 := congrArg List.length h0
  rw [List.length_append, It.enc_length] at h1
  have : t.it.size = 32 + t.it.key.length + t.it.value.length := rfl
  simp at h1
  omega
theorem seal_run {w0 W : World} {d : Nat} {F : List Nat} {S : Dv} {l m : Nat} {v5 v6 v7 : Value} {T : Lg} {R k : Nat} (G : LG w0 W d F S l m v5 v6 v7 T) (hN : Run9 R k S T) (hR1 : 1 ≤ R) (hR64 : R ≤ 64) (hk : k < 100) :
    Calls Try.prog 12 #[.pointer (some ⟨l, 0, none⟩)] W fun e W' =>
      (T.opn = [] ∧ e = .returned (.tuple #[.slice none 0 0, .int .i64 0]) ∧ W' = W) ∨
      (T.opn ≠ [] ∧ ∃ va vn vc v5' F' S', e = .returned (.tuple #[.slice va vn vc, .int .i64 0]) ∧ vn = (T.lost T.next).length ∧ Row W' W.heap.size (.slice va vn vc) (T.lost T.next) ∧
        LG w0 W' d F' S' l m v5' (.slice none 0 0) (.slice none 0 0) (T.cut v6) ∧ S'.cs = put4 S.cs (4 * T.next) (T.num + 1) T.cont ∧ Calm S' ∧ S'.losses = T.losses) := by
  by_cases ho : T.opn = []
  · refine (seal_idle G.lg ho).mono ?_
    rintro e w' ⟨rfl, rfl⟩
    exact .inl ⟨ho, rfl, rfl⟩
  · have hall := hN.all
    have hnx : T.next < R := by unfold Lg.next; rw [hN.regions']; exact Nat.mod_lt _ hR1
    refine (seal_log G.lg G.dev ho hN.losses (by have := hN.num; omega) (by rw [hN.regions']; exact hR1) (by rw [hN.regions']; exact hR64) (by rw [hN.first']; decide) hN.cont (cont_ne hN.oks ho) (by have := hN.regs; omega) T.next (T.num + 1) rfl rfl (lose_any G.lg _ (by have := hN.regs; omega) (by omega))).mono ?_
    rintro e w' ⟨va, vn, vc, v5', F', hvn, hrow, hD', hK', hF', h5', rfl, hend⟩
    have hbase : T.first + 4 * T.next = 4 * T.next := by rw [hN.first', Nat.zero_add]
    have hwr := wr_calm hN.calm (4 * T.next) (T.num + 1) (by have := hN.room; omega) T.cont
    rw [hbase] at hD' hend ⊢
    rw [hwr.1] at hend ⊢
    rcases hend with ⟨h0, _⟩ | ⟨_, hL'⟩
    · exact absurd rfl h0
    have G' := G.seal hL' hD' hK' hF' h5' (fun q hq => by simp [own, Value.ownBlock] at hq) (fun q hq => by simp [own, Value.ownBlock] at hq)
    exact .inr ⟨ho, va, vn, vc, v5', F', _, rfl, hvn, hrow, G', hwr.2.1, hwr.2.2.1, by rw [hwr.2.2.2, hN.losses]⟩
/-- Of four pages one has no form, the others bear n. -/
theorem cnt_half {cs : List Cl} {base n p : Nat} (hp : p < 4) (h0 : fmAt cs (base + p) = none) (h : ∀ k, k < 4 → k ≠ p → ∃ l, fmAt cs (base + k) = some l ∧ fmNum l = n) :
    cnt cs base = none ∧ ∀ m, maxNum m (forms cs base 4) = max m n := by
  have key : ∀ a b c : List UInt8, fmNum a = n → fmNum b = n → fmNum c = n → isWhole [a, b, c] = false ∧ ∀ m, maxNum m [a, b, c] = max m n := fun a b c ha hb hc => ⟨by simp [isWhole], fun m => by
    simp only [maxNum, List.foldl_cons, List.foldl_nil, ha, hb, hc]
    omega⟩
  obtain ⟨a, b, c, hf, ha, hb, hc⟩ : ∃ a b c, forms cs base 4 = [a, b, c] ∧ fmNum a = n ∧ fmNum b = n ∧ fmNum c = n := by
    have e : forms cs base 4 = [] ++ (fmAt cs (base + 0)).toList ++ (fmAt cs (base + 1)).toList ++ (fmAt cs (base + 2)).toList ++ (fmAt cs (base + 3)).toList := rfl
    match p, hp with
    | 0, _ =>
      obtain ⟨a, ha, ha'⟩ := h 1 (by omega) (by omega)
      obtain ⟨b, hb, hb'⟩ := h 2 (by omega) (by omega)
      obtain ⟨c, hc, hc'⟩ := h 3 (by omega) (by omega)
      exact ⟨a, b, c, by rw [e, h0, ha, hb, hc]; rfl, ha', hb', hc'⟩
    | 1, _ =>
      obtain ⟨a, ha, ha'⟩ := h 0 (by omega) (by omega)
      obtain ⟨b, hb, hb'⟩ := h 2 (by omega) (by omega)
      obtain ⟨c, hc, hc'⟩ := h 3 (by omega) (by omega)
      exact ⟨a, b, c, by rw [e, h0, ha, hb, hc]; rfl, ha', hb', hc'⟩
    | 2, _ =>
      obtain ⟨a, ha, ha'⟩ := h 0 (by omega) (by omega)
      obtain ⟨b, hb, hb'⟩ := h 1 (by omega) (by omega)
      obtain ⟨c, hc, hc'⟩ := h 3 (by omega) (by omega)
      exact ⟨a, b, c, by rw [e, h0, ha, hb, hc]; rfl, ha', hb', hc'⟩
    | 3, _ =>
      obtain ⟨a, ha, ha'⟩ := h 0 (by omega) (by omega)
      obtain ⟨b, hb, hb'⟩ := h 1 (by omega) (by omega)
      obtain ⟨c, hc, hc'⟩ := h 2 (by omega) (by omega)
      exact ⟨a, b, c, by rw [e, h0, ha, hb, hc]; rfl, ha', hb', hc'⟩
  obtain ⟨h1, h2⟩ := key a b c ha hb hc
  refine ⟨?_, fun m => by rw [hf]; exact h2 m⟩
  unfold cnt
  rw [hf, h1]
  simp
/-- The pages that a Seal left. -/
theorem put4_form (cs : List Cl) (base n : Nat) (c : List UInt8) (hb : base + 4 ≤ cs.length) (hn : n < 18446744073709551616) (k : Nat) (hk : k < 4) : ∃ l, fmAt (put4 cs base n c) (base + k) = some l ∧ fmPlace l = k ∧ fmNum l = n := by
  obtain ⟨l, h1, h2, h3, _⟩ := page_read k n (part9 c k) hk hn (part9_le c k)
  refine ⟨l, ?_, h2, h3⟩
  unfold fmAt
  rw [put4_in cs base n c hb k hk]
  exact h1
theorem forms_four {cs : List Cl} {base : Nat} (f : Nat → List UInt8) (h : ∀ k, k < 4 → fmAt cs (base + k) = some (f k)) : forms cs base 4 = [f 0, f 1, f 2, f 3] := by
  have e : forms cs base 4 = [] ++ (fmAt cs (base + 0)).toList ++ (fmAt cs (base + 1)).toList ++ (fmAt cs (base + 2)).toList ++ (fmAt cs (base + 3)).toList := rfl
  rw [e, h 0 (by omega), h 1 (by omega), h 2 (by omega), h 3 (by omega)]
  rfl
/-- Four pages with form, of which one stands elsewhere, or bears another number than the first. -/
theorem cnt_odd {cs : List Cl} {base : Nat} (f : Nat → List UInt8) (h : ∀ k, k < 4 → fmAt cs (base + k) = some (f k)) (k : Nat) (hk : k < 4) (ho : fmPlace (f k) ≠ k ∨ fmNum (f k) ≠ fmNum (f 0)) : cnt cs base = none := by
  have hf := forms_four f h
  have hw : isWhole [f 0, f 1, f 2, f 3] = false := by
    cases hq : isWhole [f 0, f 1, f 2, f 3] with
    | false => rfl
    | true =>
      exfalso
      simp [isWhole, run9, headNum] at hq
      obtain ⟨_, h0, h1, h1', h2, h2', h3, h3'⟩ := hq
      match k, hk with
      | 0, _ => rcases ho with h | h; exact h h0; exact h rfl
      | 1, _ => rcases ho with h | h; exact h h1; exact h h1'
      | 2, _ => rcases ho with h | h; exact h h2; exact h h2'
      | 3, _ => rcases ho with h | h; exact h h3; exact h h3'
  unfold cnt
  rw [hf, hw]
  simp
theorem max_four {cs : List Cl} {base : Nat} (f : Nat → List UInt8) (h : ∀ k, k < 4 → fmAt cs (base + k) = some (f k)) (n : Nat) (k : Nat) (hk : k < 4) (hn : fmNum (f k) = n) (m : Nat) : n ≤ maxNum m (forms cs base 4) := by
  rw [forms_four f h]
  simp only [maxNum, List.foldl_cons, List.foldl_nil]
  match k, hk with
  | 0, _ => omega
  | 1, _ => omega
  | 2, _ => omega
  | 3, _ => omega
theorem max_same {cs : List Cl} {base : Nat} (f : Nat → List UInt8) (h : ∀ k, k < 4 → fmAt cs (base + k) = some (f k)) (n : Nat) (hn : ∀ k, k < 4 → fmNum (f k) = n) (m : Nat) : maxNum m (forms cs base 4) = max m n := by
  rw [forms_four f h]
  simp only [maxNum, List.foldl_cons, List.foldl_nil, hn 0 (by omega), hn 1 (by omega), hn 2 (by omega), hn 3 (by omega)]
  omega

theorem fmAt_now (cs : List Cl) (k : Nat) : fmAt cs k = ((cs[k]?).map (·.now)).bind fmPg := by
  unfold fmAt
  cases cs[k]? <;> rfl
theorem fm_put_other (cs : List Cl) (p j : Nat) (pg : Pg) (h : j ≠ p) : fmAt (putAt cs p pg) j = fmAt cs j := by
  rw [fmAt_now, fmAt_now, putAt_get, if_neg (fun e => h e.1)]
theorem fm_put_same (cs : List Cl) (p : Nat) (l : List UInt8) (hp : p < cs.length) (hl : l.length = 384) (hf : isForm l = true) : fmAt (putAt cs p (.whole ⟨l.toArray⟩)) p = some l := by
  rw [fmAt_now, putAt_get, if_pos ⟨rfl, hp⟩]
  have hd : (full ⟨l.toArray⟩).data.toList = l := by
    rw [full_data]
    have : (⟨l.toArray⟩ : ByteArray).size = 384 := by show l.toArray.size = 384; rw [List.size_toArray, hl]
    rw [this]
    simp
  have ht : pgText (.whole ⟨l.toArray⟩) = some l := by
    show some (full ⟨l.toArray⟩).data.toList = some l
    rw [hd]
  show fmPg (.whole ⟨l.toArray⟩) = some l
  unfold fmPg
  rw [ht]
  simp [hf]
theorem up_inj : ∀ (a b : List UInt8), a.length = b.length → up a = up b → a = b
  | [], [], _, _ => rfl
  | [], _ :: _, h, _ => by simp at h
  | _ :: _, [], h, _ => by simp at h
  | x :: a, y :: b, h, e => by
    simp only [up] at e
    have hx := x.toNat_lt
    have hy := y.toNat_lt
    have h1 : x.toNat = y.toNat := by omega
    have h2 : up a = up b := by omega
    rw [UInt8.toNat_inj.1 h1, up_inj a b (by simpa using h) h2]
theorem sl_set_out (l : List UInt8) (k i j : Nat) (v : UInt8) (h : k < i ∨ j ≤ k) : sl (l.set k v) i j = sl l i j := by
  unfold sl
  rcases h with h | h
  · rw [List.take_set, List.drop_set_of_lt h]
  · rw [List.take_set, List.set_eq_of_length_le (by rw [List.length_take]; omega)]
/-- One byte of a page's number is changed: the page keeps its form, its number is another. -/
theorem flip_num (l : List UInt8) (hl : l.length = 384) (hf : isForm l = true) (at0 : Nat) (ha : at0 < 8) (v : UInt8) (hv : l[8 + at0]? ≠ some v) :
    isForm (l.set (8 + at0) v) = true ∧ fmPlace (l.set (8 + at0) v) = fmPlace l ∧ fmNum (l.set (8 + at0) v) ≠ fmNum l ∧ (l.set (8 + at0) v).length = 384 := by
  have hg : ∀ i, i < 8 → (l.set (8 + at0) v).getD i 0 = l.getD i 0 := fun i hi => by
    rw [List.getD_eq_getElem?_getD, List.getD_eq_getElem?_getD, List.getElem?_set_ne (by omega)]
  refine ⟨?_, ?_, fun e => ?_, by simpa using hl⟩
  · unfold isForm at hf ⊢
    rw [sl_set_out l _ 0 2 v (.inr (by omega)), sl_set_out l _ 4 8 v (.inr (by omega)), hg 3 (by omega)]
    exact hf
  · unfold fmPlace
    rw [hg 2 (by omega)]
  · unfold fmNum at e
    have e2 := up_inj _ _ (by unfold sl; simp) e
    have e3 := congrArg (fun q => q[at0]?) e2
    simp only [sl, List.getElem?_drop] at e3
    rw [List.getElem?_take_of_lt (by omega), List.getElem?_take_of_lt (by omega), List.getElem?_set_self (by omega)] at e3
    exact hv e3.symm
theorem readDo_same (S : Dv) (k : Int) (h : Calm S) : (S.readDo k).cs = S.cs ∧ Calm (S.readDo k) ∧ (S.readDo k).losses = S.losses := by
  unfold Dv.readDo
  split
  · exact ⟨rfl, h, rfl⟩
  · split
    · exact ⟨rfl, h, rfl⟩
    · exact ⟨rfl, ⟨h.armed, h.off⟩, rfl⟩
section
variable {w0 W : World} {d : Nat} {F : List Nat} {S : Dv} {l m : Nat} {v5 v6 v7 : Value} {T : Lg}
theorem read_sealed (G : LG w0 W d F S l m v5 v6 v7 T) (hS : Calm S) (cs0 : List Cl) (n : Nat) (c : List UInt8) (hcs : S.cs = put4 cs0 0 n c) (hb : 4 ≤ cs0.length) (hn : n < 18446744073709551616) (p : Nat) (hp : p < 4) :
    Calls Try.prog 37 #[.pointer (some ⟨d, 0, none⟩), .int .i64 (p : Nat)] W fun e W' => ∃ l9 S', e = .returned (.tuple #[.slice (some ⟨W.heap.size + 1, 0, none⟩) 384 384, .int .i64 0]) ∧ Blk W' (W.heap.size + 1) (bCells l9) 5 ∧ l9.length = 384 ∧ fmAt S.cs p = some l9 ∧
      LG w0 W' d F S' l m v5 v6 v7 T ∧ S'.cs = S.cs ∧ Calm S' ∧ S'.losses = S.losses := by
  have hk : S.cs[p]? = some ⟨.whole ⟨(pageR p n (part9 c p)).toArray⟩, none⟩ := by
    have := put4_in cs0 0 n c (by omega) p hp
    rw [Nat.zero_add] at this
    rw [hcs]; exact this
  obtain ⟨rv, er, hc, hor⟩ := read_page (d := d) (F := F) hk hS.off
  obtain ⟨lf, hf, _, _⟩ := put4_form cs0 0 n c (by omega) hn p hp
  rw [Nat.zero_add, ← hcs] at hf
  rcases hor with ⟨_, _, hno⟩ | ⟨rfl, hrv, l9, hl9⟩
  · cases hno
  refine (hc W G.dev).mono ?_
  rintro e w' ⟨rfl, hd, hkp, hbl⟩
  obtain ⟨hb9, hlen⟩ := hbl l9 hl9
  have hfm : fmAt S.cs p = some l9 := by
    have h1 : fmAt S.cs p = fmPg (.whole ⟨(pageR p n (part9 c p)).toArray⟩) := by unfold fmAt; rw [hk]; rfl
    rw [h1] at hf ⊢
    unfold fmPg at hf ⊢
    have h2 : pgText (.whole ⟨(pageR p n (part9 c p)).toArray⟩) = some l9 := hl9
    rw [h2] at hf ⊢
    simp only [Option.bind_some] at hf ⊢
    split at hf
    · rename_i hq; rw [if_pos hq]
    · cases hf
  have hs := readDo_same S (p : Int) hS
  exact ⟨l9, _, by rw [hrv], hb9, hlen, hfm, G.devTurn hd (Moves.of_keep hkp), hs.1, hs.2.1, hs.2.2⟩
theorem write_page (G : LG w0 W d F S l m v5 v6 v7 T) (hS : Calm S) (p : Nat) (hp : p < S.cs.length) (g : Nat) (l9 : List UInt8) (hl : l9.length = 384) (hb : Blk W g (bCells l9) 5) :
    Calls Try.prog 50 #[.pointer (some ⟨d, 0, none⟩), .int .i64 (p : Nat), .slice (some ⟨g, 0, none⟩) 384 384] W fun e W' => e = .returned (.int .i64 0) ∧ ∃ F' S', LG w0 W' d F' S' l m v5 v6 v7 T ∧ S'.cs = putAt S.cs p (.whole ⟨l9.toArray⟩) ∧ Calm S' ∧ S'.losses = S.losses := by
  have hbuf : Buf W g l9 0 := by
    unfold Buf
    rw [show zc 0 = [] from rfl, List.append_nil]
    exact hb
  have hgF : g ∉ F := fun hm => by
    obtain ⟨c, e, h1, h2⟩ := G.dev.kinds g hm
    have h3 : W.heap[g]? = some (.cells (bCells l9).toArray 5 (0, 0)) := hb
    rw [h1] at h3
    simp only [Option.some.injEq, Obj.cells.injEq] at h3
    have := h3.2.1
    rcases h2 with rfl | rfl | rfl <;> cases this
  have hwr := write_calm hS p hp ⟨l9.toArray⟩ (by show l9.toArray.size ≤ 384; rw [List.size_toArray, hl]; exact Nat.le_refl _)
  refine (write_at d F S (p : Int) (some ⟨g, 0, none⟩) 384 384 g l9 hl.symm W (buf_bslice hbuf) (fun h => by cases h) (fun _ => hgF) G.dev).mono ?_
  rintro e w' ⟨rfl, F', hd, hm⟩
  exact ⟨by rw [hwr.1], F', _, G.devTurn hd hm, hwr.2.1, hwr.2.2.1, hwr.2.2.2⟩
/-- Open where the one region does not count: nothing is told. -/
theorem open_none (G : LG w0 W d F S l m v5 v6 v7 T) (hS : Calm S) (hlen : 4 ≤ S.cs.length) (hc : cnt S.cs 0 = none) :
    Calls Try.prog 10 #[.pointer (some ⟨d, 0, none⟩), .int .i64 0, .int .i64 1] W fun e W' => ∃ lh mh v5h v6h v7h Th S', e = .returned (.tuple #[.pointer (some ⟨lh, 0, none⟩), .int .i64 0]) ∧ LgIn W' lh d mh v5h v6h v7h Th ∧ Th.items = [] ∧ Th.all = [] ∧ Th.regs = [] ∧ Th.num = maxNum 0 (forms S.cs 0 4) ∧ LG w0 W' d F S' l m v5 v6 v7 T := by
  have hcn : cnts S.cs 0 1 = [] := by
    show [] ++ ((cnt S.cs (0 + 4 * 0)).map fun p => (0, p.1, p.2)).toList = []
    rw [hc]; rfl
  refine (open_log sort_one G.dev hS.off 0 1 (by omega) (by omega) (by omega) (by rw [hcn]; exact Nat.zero_le _)).mono ?_
  rintro e w2 ⟨lh, mh, v5h, Th, Sh, rfl, hLh, hSh, hDh, hKh, hlowh, hnewh, hnodh, u1, u2, u3, u4, u5, u6, u7, rsh, u8, u9⟩
  have hrs : rsh = [] := by rw [hcn] at u8; exact List.map_eq_nil_iff.1 u8
  have hregs : Th.regs = [] := by rw [u9, hrs]; rfl
  have hall : Th.all = [] := by unfold Lg.all; rw [hregs, u5]; rfl
  exact ⟨lh, mh, v5h, _, _, Th, Sh, rfl, hLh, by unfold Lg.items; rw [hall]; rfl, hall, hregs, u4, G.devTurn hDh (Moves.of_keep hKh)⟩
end
end Go.Proofs.Ytbjkahdlejaheaa

/- What a log tells behind a Put: a list beside it. -/
set_option linter.unusedVariables false
set_option linter.unusedSimpArgs false
set_option maxRecDepth 8000
namespace Go.Proofs.Ytbjkahdlejaheaa
open Go.RowKit Go.Deep Math

def keysOf (xs : List It) : List (List UInt8) := xs.map (·.key)
theorem keepOut {fl rest cur : List It} (k : Nat) (y : It) (hk : fl[k]? = some y) (nd : (keysOf (fl ++ rest)).Nodup) (hp : cur.Perm (fl.drop k ++ rest)) :
    (cur.filter (notKey y.key)).Perm (fl.drop (k + 1) ++ rest) ∧ (cur.filter (notKey y.key)).length + 1 = cur.length := by
  obtain ⟨hl, he⟩ := List.getElem?_eq_some_iff.1 hk
  have e1 : fl.drop k = y :: fl.drop (k + 1) := by rw [← he]; exact List.drop_eq_getElem_cons hl
  have e2 : fl ++ rest = fl.take k ++ (y :: (fl.drop (k + 1) ++ rest)) := by
    rw [← List.cons_append, ← e1, ← List.append_assoc, List.take_append_drop]
  rw [e2] at nd
  unfold keysOf at nd
  rw [List.map_append, List.nodup_append] at nd
  have nd2 := nd.2.1
  rw [List.map_cons, List.nodup_cons] at nd2
  have e3 : (y :: (fl.drop (k + 1) ++ rest)).filter (notKey y.key) = fl.drop (k + 1) ++ rest := by
    rw [List.filter_cons, if_neg (by simp [notKey]), List.filter_eq_self]
    intro z hz
    have : z.key ≠ y.key := fun h => nd2.1 (List.mem_map.2 ⟨z, hz, h⟩)
    simp [notKey, this]
  rw [e1, List.cons_append] at hp
  have hf := hp.filter (notKey y.key)
  rw [e3] at hf
  refine ⟨hf, ?_⟩
  rw [hf.length_eq, hp.length_eq, List.length_cons]
theorem cur_pos {T : Lg} {a b : Th} (ha : T.cur a = true) (hb : T.cur b = true) (hk : a.it.key = b.it.key) : a.pos = b.pos := by
  have h1 : T.has a.it.key = some a.pos := of_decide_eq_true ha
  have h2 : T.has b.it.key = some b.pos := of_decide_eq_true hb
  rw [hk, h2] at h1
  exact (Option.some.inj h1).symm
theorem items_keys {T : Lg} (hp : (T.all.map Th.pos).Nodup) : (keysOf T.items).Nodup := by
  unfold keysOf Lg.items Lg.hadOf
  rw [List.map_map]
  have h1 : ((T.all.filter T.cur).map Th.pos).Nodup := (List.filter_sublist.map Th.pos).nodup hp
  unfold List.Nodup at h1 ⊢
  rw [List.pairwise_map] at h1 ⊢
  exact h1.imp_of_mem (fun {a b} ha hb hne hk => hne (cur_pos (List.mem_filter.1 ha).2 (List.mem_filter.1 hb).2 hk))
/-- A Put that seals nothing. -/
theorem items_put (T : Lg) (t : Th) (hp : ∀ u ∈ T.all, u.pos ≠ t.pos) : (T.put t).items = T.items.filter (notKey t.it.key) ++ [t.it] := by
  have hct : (T.put t).cur t = true := by
    unfold Lg.cur
    have : (T.put t).has t.it.key = some t.pos := updK_same _ _ _
    rw [this]; simp
  have hcu : ∀ u ∈ T.all, (T.put t).cur u = (notKey t.it.key u.it && T.cur u) := fun u hu => by
    unfold Lg.cur notKey
    by_cases e : u.it.key = t.it.key
    · have : (T.put t).has u.it.key = some t.pos := by rw [e]; exact updK_same _ _ _
      rw [this]
      simp [e]
      exact fun h => hp u hu h.symm
    · have : (T.put t).has u.it.key = T.has u.it.key := updK_other _ _ _ _ e
      rw [this]
      simp [e]
  unfold Lg.items Lg.hadOf
  rw [put_all, List.filter_append, List.filter_congr hcu, List.map_append]
  have e1 : [t].filter (T.put t).cur = [t] := by simp [hct]
  rw [e1, List.filter_map, List.filter_filter]
  rfl
theorem delKeys_other : ∀ (l : List It) (M : List UInt8 → Option (Nat × Nat)) (k : List UInt8), (∀ x ∈ l, x.key ≠ k) → delKeys M l k = M k
  | [], M, k, h => rfl
  | y :: l, M, k, h => by
    show delKeys (updK M y.key none) l k = M k
    rw [delKeys_other l _ k (fun x hx => h x (by simp [hx])), updK_other _ _ _ _ (Ne.symm (h y (by simp)))]
/-- What 'lose' leaves out. -/
theorem items_lose (T : Lg) (P : Nat) (hp : (T.all.map Th.pos).Nodup) : T.items.Perm (T.lost P ++ (T.lose P).items) := by
  cases hP : idxP P T.regs with
  | none =>
    have h1 : T.lost P = [] := by unfold Lg.lost; rw [hP]
    have h2 : T.lose P = T := by unfold Lg.lose; rw [hP]
    rw [h1, h2]
    exact List.Perm.refl _
  | some i =>
    have hi : i < T.regs.length := by
      have := hP
      unfold idxP at this
      exact (List.findIdx?_eq_some_iff_getElem.1 this).1
    obtain ⟨r, hri⟩ : ∃ r, T.regs[i]? = some r := ⟨_, List.getElem?_eq_getElem hi⟩
    obtain ⟨A, C, hAC, hAi⟩ : ∃ A C, T.regs = A ++ r :: C ∧ A.length = i := by
      obtain ⟨hi, he⟩ := List.getElem?_eq_some_iff.1 hri
      refine ⟨T.regs.take i, T.regs.drop (i + 1), ?_, by simp; omega⟩
      rw [← he, ← List.drop_eq_getElem_cons hi, List.take_append_drop]
    have hlost : T.lost P = T.hadOf r.ths := by unfold Lg.lost; rw [hP]; simp [hri]
    have hlose : T.lose P = { T with regs := A ++ C, has := delKeys T.has (T.hadOf r.ths) } := by
      unfold Lg.lose
      rw [hP]
      simp only
      rw [hlost, hAC, ← hAi, List.eraseIdx_append_of_length_le (Nat.le_refl _)]
      simp
    have hall : T.all = A.flatMap Rg.ths ++ (r.ths ++ (C.flatMap Rg.ths ++ T.opn)) := by unfold Lg.all; rw [hAC]; simp
    have hall2 : (T.lose P).all = A.flatMap Rg.ths ++ (C.flatMap Rg.ths ++ T.opn) := by rw [hlose]; unfold Lg.all; simp
    have hdis : ∀ t ∈ r.ths, ∀ u ∈ (T.lose P).all, t.pos ≠ u.pos := fun t ht u hu e => by
      rw [hall] at hp
      simp only [List.map_append] at hp
      rw [List.nodup_append, List.nodup_append] at hp
      rw [hall2] at hu
      rcases List.mem_append.1 hu with h1 | h1
      · exact hp.2.2 _ (List.mem_map.2 ⟨u, h1, rfl⟩) _ (List.mem_append.2 (.inl (List.mem_map.2 ⟨t, ht, rfl⟩))) e.symm
      · refine hp.2.1.2.2 _ (List.mem_map.2 ⟨t, ht, rfl⟩) _ ?_ e
        rw [← List.map_append]
        exact List.mem_map.2 ⟨u, h1, rfl⟩
    have hcu : ∀ u ∈ (T.lose P).all, (T.lose P).cur u = T.cur u := fun u hu => by
      have hh : (T.lose P).has = delKeys T.has (T.hadOf r.ths) := by rw [hlose]
      unfold Lg.cur
      rw [hh]
      by_cases hx : ∀ x ∈ T.hadOf r.ths, x.key ≠ u.it.key
      · rw [delKeys_other _ _ _ hx]
      · have : ∃ x ∈ T.hadOf r.ths, x.key = u.it.key := by
          refine Classical.byContradiction (fun hn => hx (fun x hx2 e => hn ⟨x, hx2, e⟩))
        obtain ⟨x, hx1, hx2⟩ := this
        unfold Lg.hadOf at hx1
        obtain ⟨t, ht, rfl⟩ := List.mem_map.1 hx1
        obtain ⟨htr, htc⟩ := List.mem_filter.1 ht
        have hne := hdis t htr u hu
        have e1 : decide (T.has u.it.key = some u.pos) = false := decide_eq_false (fun e => by
          have h2 : T.has t.it.key = some t.pos := of_decide_eq_true htc
          rw [hx2, e] at h2
          exact hne (Option.some.inj h2).symm)
        have e2 : decide (delKeys T.has (T.hadOf r.ths) u.it.key = some u.pos) = false := decide_eq_false (fun e => (delKeys_some _ _ _ _ e).2 t.it hx1 hx2)
        rw [e1, e2]
    have e1 : (T.lose P).items = T.hadOf (T.lose P).all := by
      unfold Lg.items Lg.hadOf
      rw [List.filter_congr hcu]
    have e2 : T.items = T.hadOf (A.flatMap Rg.ths) ++ (T.hadOf r.ths ++ T.hadOf (C.flatMap Rg.ths ++ T.opn)) := by unfold Lg.items; rw [hall, hadOf_append, hadOf_append]
    rw [e1, hall2, hlost, e2, hadOf_append T (A.flatMap Rg.ths) (C.flatMap Rg.ths ++ T.opn)]
    rw [← List.append_assoc, ← List.append_assoc]
    exact List.perm_append_comm.append_right _
theorem items_sealed (T : Lg) (v6 : Value) (p n : Nat) : (T.sealed v6 p n).items = T.items := by
  unfold Lg.items Lg.hadOf
  rw [sealed_all]
  rfl
/-- What a log tells behind a Put that seals. -/
theorem items_cut (T : Lg) (v6 : Value) (hp : (T.all.map Th.pos).Nodup) (t : Th) (ht : ∀ u ∈ T.all, u.pos ≠ t.pos) :
    T.items.Perm (T.lost T.next ++ (T.cut v6).items) ∧ ((T.cut v6).put t).items = (T.cut v6).items.filter (notKey t.it.key) ++ [t.it] := by
  refine ⟨?_, items_put _ _ (fun u hu => ht u ?_)⟩
  · unfold Lg.cut
    rw [items_sealed]
    exact items_lose T T.next hp
  · unfold Lg.cut at hu
    rw [sealed_all] at hu
    exact (lose_sub T _).subset hu
end Go.Proofs.Ytbjkahdlejaheaa

/- A log whose power may go: what stands on the device, and what a crash leaves of it. -/
set_option linter.unusedVariables false
set_option linter.unusedSimpArgs false
set_option maxRecDepth 8000
namespace Go.Proofs.Ytbjkahdlejaheaa
open Go.RowKit Go.Deep Math

/-! ### Pages -/
def nwPg (n : Nat) (c : List UInt8) (i : Nat) : Pg := .whole ⟨(pageR i n (part9 c i)).toArray⟩
/-- Pages of which some of four were written anew, and wait. -/
structure Mid (cs0 : List Cl) (base n : Nat) (c : List UInt8) (cs : List Cl) : Prop where
  len : cs.length = cs0.length
  cell : ∀ j x, cs[j]? = some x → (cs0[j]? = some x ∧ x.last = none) ∨ (∃ i y, i < 4 ∧ j = base + i ∧ cs0[j]? = some y ∧ x = ⟨nwPg n c i, some y.now⟩)
theorem Mid.refl {cs0 : List Cl} (h : ∀ x ∈ cs0, x.last = none) (base n : Nat) (c : List UInt8) : Mid cs0 base n c cs0 :=
  ⟨rfl, fun j x hx => .inl ⟨hx, h x (List.mem_of_getElem? hx)⟩⟩
theorem putAt_cell : ∀ (cs : List Cl) (i j : Nat) (p : Pg), (putAt cs i p)[j]? = if j = i then (cs[j]?).map (fun c => c.put p) else cs[j]?
  | [], i, j, p => by simp [putAt]
  | c :: r, 0, 0, p => by simp [putAt]
  | c :: r, 0, j + 1, p => by simp [putAt]
  | c :: r, i + 1, 0, p => by simp [putAt]
  | c :: r, i + 1, j + 1, p => by simp [putAt, putAt_cell r i j p]
theorem Mid.put {cs0 cs : List Cl} {base n : Nat} {c : List UInt8} (h : Mid cs0 base n c cs) (i : Nat) (hi : i < 4) : Mid cs0 base n c (putAt cs (base + i) (nwPg n c i)) := by
  refine ⟨by rw [putAt_length]; exact h.len, fun j x hx => ?_⟩
  rw [putAt_cell] at hx
  split at hx
  · rename_i e
    obtain ⟨z, hz, rfl⟩ := Option.map_eq_some_iff.1 hx
    rcases h.cell j z hz with ⟨h1, h2⟩ | ⟨i', y, h1, h2, h3, h4⟩
    · exact .inr ⟨i, z, hi, e, h1, by unfold Cl.put; rw [h2]; rfl⟩
    · have e2 : i' = i := by omega
      exact .inr ⟨i, y, hi, e, h3, by rw [h4]; rfl⟩
  · exact h.cell j x hx
theorem write_pw {S : Dv} (ho : S.off = false) (k : Nat) (hk : k < S.cs.length) (b : ByteArray) (hb : b.size ≤ 384) :
    (S.writeErr (k : Int) b = 4 ∧ (S.writeDo (k : Int) b).cs = S.cs ∧ (S.writeDo (k : Int) b).losses = wrap64 (S.losses + 1)) ∨
    (S.writeErr (k : Int) b = 0 ∧ (S.writeDo (k : Int) b).cs = putAt S.cs k (.whole b) ∧ (S.writeDo (k : Int) b).off = false ∧ (S.writeDo (k : Int) b).losses = S.losses) := by
  have hh := has_nat hk
  have hb' : ¬ 384 < b.size := by omega
  by_cases ha : S.armed = 1
  · have hg : S.gone = true := by simp [Dv.gone, ha]
    refine .inl ⟨by simp [Dv.writeErr, hb', Dv.putErr, hh, hg], ?_, ?_⟩
    · simp [Dv.writeDo, hb', Dv.putDo, hh, hg, Dv.used_cs]
    · simp [Dv.writeDo, hb', Dv.putDo, hh, hg, Dv.used, ho, ha]
  · have hg : S.gone = false := by simp [Dv.gone, ha, ho]
    refine .inr ⟨by simp [Dv.writeErr, hb', Dv.putErr, hh, hg], ?_, ?_, ?_⟩
    · simp [Dv.writeDo, hb', Dv.putDo, hh, hg]
    · simp [Dv.writeDo, hb', Dv.putDo, hh, hg]
      rw [used_off S ha]; exact ho
    · simp [Dv.writeDo, hb', Dv.putDo, hh, hg, Dv.used, ho, ha]
      split <;> rfl
theorem flush_pw {S : Dv} (ho : S.off = false) :
    (S.flushErr = 4 ∧ S.flushDo.cs = S.cs ∧ S.flushDo.losses = wrap64 (S.losses + 1)) ∨
    (S.flushErr = 0 ∧ S.flushDo.cs = S.cs.map Cl.flush ∧ S.flushDo.off = false ∧ S.flushDo.losses = S.losses) := by
  by_cases ha : S.armed = 1
  · have hg : S.gone = true := by simp [Dv.gone, ha]
    refine .inl ⟨by simp [Dv.flushErr, hg], ?_, ?_⟩
    · simp [Dv.flushDo, hg, Dv.used_cs]
    · simp [Dv.flushDo, hg, Dv.used, ho, ha]
  · have hg : S.gone = false := by simp [Dv.gone, ha, ho]
    refine .inr ⟨by simp [Dv.flushErr, hg], ?_, ?_, ?_⟩
    · simp [Dv.flushDo, hg]
    · simp [Dv.flushDo, hg]
      rw [used_off S ha]; exact ho
    · simp [Dv.flushDo, hg, Dv.used, ho, ha]
      split <;> rfl
/-- The four pages, one behind the other. -/
def putR (base n : Nat) : Nat → List Cl → List UInt8 → List Cl
  | 0, cs, _ => cs
  | r + 1, cs, c => putR base n r (putAt cs (base + (3 - r)) (.whole ⟨(pageR (3 - r) n (c.take 368)).toArray⟩)) (c.drop 368)
theorem putR_four (cs : List Cl) (base n : Nat) (c : List UInt8) : (putR base n 4 cs c).map Cl.flush = put4 cs base n c := by
  unfold put4 part9
  simp only [putR, List.drop_drop]
  rfl
theorem wr_any (base n : Nat) (c0 : List UInt8) {cs0 : List Cl} (hb : base + 4 ≤ cs0.length) : ∀ (r : Nat) (S : Dv) (c : List UInt8), r ≤ 4 → c = c0.drop (368 * (4 - r)) → S.off = false → Mid cs0 base n c0 S.cs →
    ((wrR base n r S c).1 = 0 ∧ (wrR base n r S c).2.cs = (putR base n r S.cs c).map Cl.flush ∧ (wrR base n r S c).2.off = false ∧ (wrR base n r S c).2.losses = S.losses) ∨
    ((wrR base n r S c).1 = 4 ∧ Mid cs0 base n c0 (wrR base n r S c).2.cs ∧ (wrR base n r S c).2.losses = wrap64 (S.losses + 1))
  | 0, S, c, hr, hc, ho, hm => by
    rcases flush_pw ho with ⟨h1, h2, h3⟩ | ⟨h1, h2, h3, h4⟩
    · exact .inr ⟨h1, by show Mid _ _ _ _ S.flushDo.cs; rw [h2]; exact hm, h3⟩
    · exact .inl ⟨h1, h2, h3, h4⟩
  | r + 1, S, c, hr, hc, ho, hm => by
    have hl : base + (3 - r) < S.cs.length := by rw [hm.len]; omega
    have hsz : (⟨(pageR (3 - r) n (c.take 368)).toArray⟩ : ByteArray).size ≤ 384 := by
      show (pageR (3 - r) n (c.take 368)).toArray.size ≤ _
      rw [List.size_toArray, pageR_length, List.length_take]; omega
    have hp : Pg.whole ⟨(pageR (3 - r) n (c.take 368)).toArray⟩ = nwPg n c0 (3 - r) := by
      unfold nwPg part9
      rw [hc, show 4 - (r + 1) = 3 - r by omega]
    rcases write_pw ho (base + (3 - r)) hl _ hsz with ⟨h1, h2, h3⟩ | ⟨h1, h2, h3, h4⟩
    · have e : wrR base n (r + 1) S c = (S.writeErr ((base + (3 - r) : Nat) : Int) ⟨(pageR (3 - r) n (c.take 368)).toArray⟩, S.writeDo ((base + (3 - r) : Nat) : Int) ⟨(pageR (3 - r) n (c.take 368)).toArray⟩) := by
        rw [wrR, if_neg (by rw [h1]; decide)]
      rw [e]
      exact .inr ⟨h1, by rw [h2]; exact hm, h3⟩
    · have e : wrR base n (r + 1) S c = wrR base n r (S.writeDo ((base + (3 - r) : Nat) : Int) ⟨(pageR (3 - r) n (c.take 368)).toArray⟩) (c.drop 368) := by
        rw [wrR, if_pos h1]
      have hm' : Mid cs0 base n c0 (S.writeDo ((base + (3 - r) : Nat) : Int) ⟨(pageR (3 - r) n (c.take 368)).toArray⟩).cs := by
        rw [h2, hp]; exact hm.put (3 - r) (by omega)
      have ih := wr_any base n c0 hb r (S.writeDo ((base + (3 - r) : Nat) : Int) ⟨(pageR (3 - r) n (c.take 368)).toArray⟩) (c.drop 368) (by omega) (by rw [hc, List.drop_drop]; congr 1; omega) h3 hm'
      rw [e]
      rw [h2, h4] at ih
      exact ih
theorem settle_cell : ∀ (cs : List Cl) (ps : List UInt8) (j : Nat) (x : Cl), (settle cs ps)[j]? = some x → ∃ y, cs[j]? = some y ∧ x.last = none ∧ ((y.last = none ∧ x = y) ∨ ∃ l q, y.last = some l ∧ x = ⟨pick y.now l q, none⟩)
  | [], ps, j, x, h => by simp [settle] at h
  | c :: r, ps, j, x, h => by
    unfold settle at h
    split at h
    · rename_i hl
      cases j with
      | zero =>
        have e : c = x := by simpa using h
        exact ⟨c, rfl, by rw [← e]; exact hl, .inl ⟨hl, e.symm⟩⟩
      | succ j =>
        have h2 : (settle r ps)[j]? = some x := by simpa using h
        simpa using settle_cell r ps j x h2
    · rename_i l hl
      cases j with
      | zero =>
        have e : (⟨pick c.now l (ps.headD 0).toNat, none⟩ : Cl) = x := by simpa using h
        exact ⟨c, rfl, by rw [← e], .inr ⟨l, _, hl, e.symm⟩⟩
      | succ j =>
        have h2 : (settle r ps.tail)[j]? = some x := by simpa using h
        simpa using settle_cell r ps.tail j x h2
theorem settle_last (cs : List Cl) (ps : List UInt8) : ∀ x ∈ settle cs ps, x.last = none := fun x hx => by
  obtain ⟨j, hj⟩ := List.getElem?_of_mem hx
  obtain ⟨y, _, h, _⟩ := settle_cell cs ps j x hj
  exact h
/-- Pages of which some of four were written anew, or torn; nothing waits. -/
structure Afc (cs0 : List Cl) (base n : Nat) (c : List UInt8) (cs : List Cl) : Prop where
  len : cs.length = cs0.length
  still : ∀ x ∈ cs, x.last = none
  cell : ∀ j x, cs[j]? = some x → (∃ y, cs0[j]? = some y ∧ y.now = x.now) ∨ (∃ i, i < 4 ∧ j = base + i ∧ (x.now = .torn ∨ x.now = nwPg n c i))
section
variable {cs0 cs : List Cl} {base n : Nat} {c : List UInt8}
theorem Mid.aft (h : Mid cs0 base n c cs) (ps : List UInt8) : Afc cs0 base n c (settle cs ps) := by
  refine ⟨by rw [settle_length]; exact h.len, settle_last _ _, fun j x hx => ?_⟩
  obtain ⟨y, hy, _, hor⟩ := settle_cell cs ps j x hx
  rcases h.cell j y hy with ⟨h1, h2⟩ | ⟨i, z, hi, hj, hz, rfl⟩
  · rcases hor with ⟨_, rfl⟩ | ⟨l, q, h3, _⟩
    · exact .inl ⟨x, h1, rfl⟩
    · rw [h2] at h3; cases h3
  · rcases hor with ⟨h3, _⟩ | ⟨l, q, h3, rfl⟩
    · cases h3
    · have e : z.now = l := by simpa using h3
      show (∃ y, cs0[j]? = some y ∧ y.now = pick (nwPg n c i) l q) ∨ (∃ i', i' < 4 ∧ j = base + i' ∧ (pick (nwPg n c i) l q = .torn ∨ pick (nwPg n c i) l q = nwPg n c i'))
      unfold pick
      split
      · exact .inl ⟨z, hz, e⟩
      · split
        · exact .inr ⟨i, hi, hj, .inl rfl⟩
        · exact .inr ⟨i, hi, hj, .inr rfl⟩
theorem put4_aft (cs0 : List Cl) (base n : Nat) (c : List UInt8) (hb : base + 4 ≤ cs0.length) : Afc cs0 base n c (put4 cs0 base n c) := by
  refine ⟨put4_length _ _ _ _, put4_last _ _ _ _, fun j x hx => ?_⟩
  by_cases hj : j < base ∨ base + 4 ≤ j
  · rw [put4_out _ _ _ _ _ hj] at hx
    cases hq : cs0[j]? with
    | none => rw [hq] at hx; cases hx
    | some y =>
      rw [hq] at hx
      have : (⟨y.now, none⟩ : Cl) = x := by simpa using hx
      exact .inl ⟨y, rfl, by rw [← this]⟩
  · obtain ⟨i, rfl⟩ : ∃ i, j = base + i := ⟨j - base, by omega⟩
    rw [put4_in cs0 base n c hb i (by omega)] at hx
    have : (⟨.whole ⟨(pageR i n (part9 c i)).toArray⟩, none⟩ : Cl) = x := by simpa using hx
    exact .inr ⟨i, by omega, rfl, .inr (by rw [← this]; rfl)⟩
theorem fmAt_some {cs : List Cl} {j : Nat} {l : List UInt8} (h : fmAt cs j = some l) : ∃ x, cs[j]? = some x ∧ fmPg x.now = some l := by
  unfold fmAt at h
  cases hq : cs[j]? with
  | none => rw [hq] at h; cases h
  | some x => rw [hq] at h; exact ⟨x, rfl, h⟩
theorem Afc.fm (h : Afc cs0 base n c cs) (hn : n < 18446744073709551616) {j : Nat} {l : List UInt8} (hl : fmAt cs j = some l) :
    fmAt cs0 j = some l ∨ (∃ i x, i < 4 ∧ j = base + i ∧ fmNum l = n ∧ cs[j]? = some x ∧ x.now = nwPg n c i) := by
  obtain ⟨x, hx, hf⟩ := fmAt_some hl
  rcases h.cell j x hx with ⟨y, hy, e⟩ | ⟨i, hi, hj, e | e⟩
  · left
    unfold fmAt
    rw [hy]
    show fmPg y.now = some l
    rw [e]; exact hf
  · rw [e] at hf; cases hf
  · right
    obtain ⟨l', h1, h2, h3, h4⟩ := page_read i n (part9 c i) hi hn (part9_le c i)
    have e2 : l = l' := by
      rw [e] at hf
      have h5 : fmPg (.whole ⟨(pageR i n (part9 c i)).toArray⟩) = some l := hf
      rw [h1] at h5
      exact (Option.some.inj h5).symm
    exact ⟨i, x, hi, hj, by rw [e2]; exact h3, hx, e⟩
theorem Afc.out (h : Afc cs0 base n c cs) {j : Nat} (hj : j < base ∨ base + 4 ≤ j) : fmAt cs j = fmAt cs0 j := by
  unfold fmAt
  cases hq : cs[j]? with
  | none =>
    have : cs0[j]? = none := by
      rw [List.getElem?_eq_none_iff] at hq ⊢
      rw [← h.len]; exact hq
    rw [this]
  | some x =>
    rcases h.cell j x hq with ⟨y, hy, e⟩ | ⟨i, hi, hji, _⟩
    · rw [hy]
      show fmPg x.now = fmPg y.now
      rw [e]
    · omega
theorem cnt_pages {cs : List Cl} {base m : Nat} {xs : List It} (h : cnt cs base = some (m, xs)) : ∀ k, k < 4 → ∃ l, fmAt cs (base + k) = some l ∧ fmNum l = m := by
  obtain ⟨hw, _, hm⟩ := cnt_some h
  have e : forms cs base 4 = [] ++ (fmAt cs (base + 0)).toList ++ (fmAt cs (base + 1)).toList ++ (fmAt cs (base + 2)).toList ++ (fmAt cs (base + 3)).toList := rfl
  rw [e] at hw hm
  cases h0 : fmAt cs (base + 0) with
  | none =>
    rw [h0] at hw
    cases h1 : fmAt cs (base + 1) <;> cases h2 : fmAt cs (base + 2) <;> cases h3 : fmAt cs (base + 3) <;> rw [h1, h2, h3] at hw <;> simp [isWhole] at hw
  | some a =>
    cases h1 : fmAt cs (base + 1) with
    | none =>
      rw [h0, h1] at hw
      cases h2 : fmAt cs (base + 2) <;> cases h3 : fmAt cs (base + 3) <;> rw [h2, h3] at hw <;> simp [isWhole] at hw
    | some b =>
      cases h2 : fmAt cs (base + 2) with
      | none =>
        rw [h0, h1, h2] at hw
        cases h3 : fmAt cs (base + 3) <;> rw [h3] at hw <;> simp [isWhole] at hw
      | some c =>
        cases h3 : fmAt cs (base + 3) with
        | none => rw [h0, h1, h2, h3] at hw; simp [isWhole] at hw
        | some d =>
          rw [h0, h1, h2, h3] at hw hm
          simp [isWhole, run9, headNum] at hw hm
          obtain ⟨_, _, _, q1, _, q2, _, q3⟩ := hw
          intro k hk
          match k, hk with
          | 0, _ => exact ⟨a, h0, hm.symm⟩
          | 1, _ => exact ⟨b, h1, by rw [q1]; exact hm.symm⟩
          | 2, _ => exact ⟨c, h2, by rw [q2]; exact hm.symm⟩
          | 3, _ => exact ⟨d, h3, by rw [q3]; exact hm.symm⟩
/-- What counts of the four pages: nothing, what stood there, or what was written. -/
theorem Afc.cnt (h : Afc cs0 base n c cs) (hn0 : n ≠ 0) (hn : n < 18446744073709551616) (hc : c.length ≤ 1472) {zs : List It} (hl : lst c = some zs) (hold : ∀ i l, i < 4 → fmAt cs0 (base + i) = some l → fmNum l < n) :
    Ytbjkahdlejaheaa.cnt cs base = none ∨ (Ytbjkahdlejaheaa.cnt cs base = Ytbjkahdlejaheaa.cnt cs0 base ∧ ∀ i l, i < 4 → fmAt cs (base + i) = some l → fmNum l < n) ∨ Ytbjkahdlejaheaa.cnt cs base = some (n, zs) := by
  cases hq : Ytbjkahdlejaheaa.cnt cs base with
  | none => exact .inl rfl
  | some p =>
    obtain ⟨m, xs⟩ := p
    right
    have hp := cnt_pages hq
    by_cases hm : m = n
    · right
      have hnew : ∀ k, k < 4 → ∃ la, cs[base + k]? = some ⟨.whole ⟨(pageR k n (part9 c k)).toArray⟩, la⟩ := fun k hk => by
        obtain ⟨l, h1, h2⟩ := hp k hk
        rcases h.fm hn h1 with h3 | ⟨i, x, hi, hj, _, hx, e⟩
        · have := hold k l hk h3; omega
        · have ei : i = k := by omega
          subst ei
          refine ⟨x.last, ?_⟩
          rw [hx]
          cases x
          simp only at e
          rw [e]; rfl
      rw [← hq]
      exact (cnt_written hn0 hn hc hl hnew).1
    · left
      have hsame : ∀ k, k < 4 → fmAt cs (base + k) = fmAt cs0 (base + k) := fun k hk => by
        obtain ⟨l, h1, h2⟩ := hp k hk
        rcases h.fm hn h1 with h3 | ⟨i, x, hi, hj, h4, _⟩
        · rw [h1, h3]
        · exact absurd (h2.symm.trans h4) hm
      refine ⟨by rw [← hq]; exact cnt_congr (forms_congr 4 hsame), fun i l hi hl => ?_⟩
      rw [hsame i hi] at hl
      exact hold i l hi hl
end
/-! ### The regions of a device -/
theorem forms_mem {cs : List Cl} {base : Nat} {l : List UInt8} : ∀ k, l ∈ forms cs base k ↔ ∃ i, i < k ∧ fmAt cs (base + i) = some l
  | 0 => by simp [forms]
  | k + 1 => by
    rw [forms, List.mem_append, forms_mem k]
    constructor
    · rintro (⟨i, hi, h⟩ | h)
      · exact ⟨i, by omega, h⟩
      · exact ⟨k, by omega, by simpa using h⟩
    · rintro ⟨i, hi, h⟩
      by_cases e : i = k
      · subst e; exact .inr (by simpa using h)
      · exact .inl ⟨i, by omega, h⟩
theorem maxNum_le {M : Nat} : ∀ (ls : List (List UInt8)) (n : Nat), n ≤ M → (∀ l ∈ ls, fmNum l ≤ M) → maxNum n ls ≤ M
  | [], n, h, _ => h
  | a :: r, n, h, hl => maxNum_le r (max n (fmNum a)) (by have := hl a (by simp); omega) (fun l h2 => hl l (by simp [h2]))
theorem le_maxNum : ∀ (ls : List (List UInt8)) (n : Nat), n ≤ maxNum n ls ∧ ∀ l ∈ ls, fmNum l ≤ maxNum n ls
  | [], n => ⟨Nat.le_refl _, fun l h => by cases h⟩
  | a :: r, n => by
    have ih := le_maxNum r (max n (fmNum a))
    have e : maxNum n (a :: r) = maxNum (max n (fmNum a)) r := rfl
    rw [e]
    refine ⟨by have := ih.1; omega, fun l hl => ?_⟩
    rcases List.mem_cons.1 hl with rfl | h
    · have := ih.1; omega
    · exact ih.2 l h
theorem numTo_le {cs : List Cl} {M : Nat} : ∀ R, (∀ j l, j < 4 * R → fmAt cs j = some l → fmNum l ≤ M) → numTo cs 0 R ≤ M
  | 0, _ => Nat.zero_le _
  | R + 1, h => by
    unfold numTo
    refine maxNum_le _ _ (numTo_le R (fun j l hj => h j l (by omega))) (fun l hl => ?_)
    obtain ⟨i, hi, he⟩ := (forms_mem 4).1 hl
    exact h _ l (by omega) he
theorem le_numTo {cs : List Cl} : ∀ R j l, j < 4 * R → fmAt cs j = some l → fmNum l ≤ numTo cs 0 R
  | 0, j, l, hj, _ => by omega
  | R + 1, j, l, hj, h => by
    unfold numTo
    by_cases e : j < 4 * R
    · have h1 := le_numTo R j l e h
      have h2 := (le_maxNum (forms cs (0 + 4 * R) 4) (numTo cs 0 R)).1
      omega
    · refine (le_maxNum _ _).2 l ((forms_mem 4).2 ⟨j - 4 * R, by omega, ?_⟩)
      rw [show 0 + 4 * R + (j - 4 * R) = j by omega]
      exact h
abbrev Tr := Nat × Nat × List It
theorem cnts_iff {cs : List Cl} {t : Tr} : ∀ R, t ∈ cnts cs 0 R ↔ t.1 < R ∧ cnt cs (4 * t.1) = some (t.2.1, t.2.2)
  | 0 => by simp [cnts]
  | R + 1 => by
    rw [cnts, List.mem_append, cnts_iff R, Nat.zero_add]
    constructor
    · rintro (⟨h1, h2⟩ | h)
      · exact ⟨by omega, h2⟩
      · cases hq : cnt cs (4 * R) with
        | none => rw [hq] at h; simp at h
        | some p =>
          rw [hq] at h
          have e : t = (R, p.1, p.2) := by simpa using h
          subst e
          exact ⟨by omega, hq⟩
    · rintro ⟨h1, h2⟩
      by_cases e : t.1 = R
      · right
        rw [← e, h2]
        simp
      · exact .inl ⟨by omega, h2⟩
theorem cnts_nodup {cs : List Cl} : ∀ R, (cnts cs 0 R).Nodup
  | 0 => by simp [cnts]
  | R + 1 => by
    rw [cnts]
    refine List.nodup_append.2 ⟨cnts_nodup R, ?_, fun a ha b hb e => ?_⟩
    · cases cnt cs (0 + 4 * R) <;> simp
    · have h1 := ((cnts_iff R).1 ha).1
      cases hq : cnt cs (0 + 4 * R) with
      | none => rw [hq] at hb; simp at hb
      | some p =>
        rw [hq] at hb
        have e2 : b = (R, p.1, p.2) := by simpa using hb
        subst e
        rw [e2] at h1
        simp at h1
theorem insS_sorted (x : Rg) : ∀ l : List Rg, l.Pairwise (fun a b => a.num ≤ b.num) → (insS x l).Pairwise (fun a b => a.num ≤ b.num)
  | [], _ => by simp [insS]
  | y :: ys, h => by
    rw [List.pairwise_cons] at h
    unfold insS
    split
    · rename_i hlt
      rw [List.pairwise_cons, List.pairwise_cons]
      refine ⟨fun b hb => ?_, h⟩
      rcases List.mem_cons.1 hb with rfl | h1
      · omega
      · have := h.1 b h1; omega
    · rename_i hlt
      rw [List.pairwise_cons]
      refine ⟨fun b hb => ?_, insS_sorted x ys h.2⟩
      rcases List.mem_cons.1 ((insS_perm x ys).mem_iff.1 hb) with rfl | h1
      · omega
      · exact h.1 b h1
theorem isort_sorted (l : List Rg) : (isort l).Pairwise (fun a b => a.num ≤ b.num) := by
  have : ∀ (l acc : List Rg), acc.Pairwise (fun a b => a.num ≤ b.num) → (l.foldl (fun acc x => insS x acc) acc).Pairwise (fun a b => a.num ≤ b.num) := by
    intro l
    induction l with
    | nil => intro acc h; exact h
    | cons x r ih => intro acc h; exact ih _ (insS_sorted x acc h)
  exact this l [] List.Pairwise.nil
theorem sorted_eq : ∀ (a b : List Tr), a.Pairwise (fun x y => x.2.1 < y.2.1) → b.Pairwise (fun x y => x.2.1 < y.2.1) → (∀ t, t ∈ a ↔ t ∈ b) → a = b
  | [], [], _, _, _ => rfl
  | [], y :: b, _, _, h => absurd ((h y).2 (by simp)) (by simp)
  | x :: a, [], _, _, h => absurd ((h x).1 (by simp)) (by simp)
  | x :: a, y :: b, ha, hb, h => by
    rw [List.pairwise_cons] at ha hb
    have hxy : x = y := by
      rcases List.mem_cons.1 ((h x).1 (by simp)) with e | h1
      · exact e
      · rcases List.mem_cons.1 ((h y).2 (by simp)) with e | h2
        · exact e.symm
        · have := hb.1 x h1; have := ha.1 y h2; omega
    subst hxy
    have ht : ∀ t, t ∈ a ↔ t ∈ b := fun t => by
      constructor
      · intro h1
        rcases List.mem_cons.1 ((h t).1 (by simp [h1])) with e | h2
        · have := ha.1 t h1; rw [e] at this; omega
        · exact h2
      · intro h1
        rcases List.mem_cons.1 ((h t).2 (by simp [h1])) with e | h2
        · have := hb.1 t h1; rw [e] at this; omega
        · exact h2
    rw [sorted_eq a b ha.2 hb.2 ht]
def flatI (D : List Tr) : List It := D.flatMap (fun t => t.2.2)
/-- Of a list of regions the first ones are gone, others have come behind, with items of L alone. -/
def From (base : List Tr) (L : List It) (D : List Tr) : Prop := ∃ A B N, base = A ++ B ∧ D = B ++ N ∧ ∀ x ∈ flatI N, x ∈ L
/-- What the first 4 R pages hold: the regions D, by rising numbers, none above M. -/
structure Wk (R M : Nat) (L : List It) (base : List Tr) (cs : List Cl) (D : List Tr) : Prop where
  room : 4 * R ≤ cs.length
  still : ∀ x ∈ cs, x.last = none
  mem : ∀ t : Tr, t ∈ D ↔ t.1 < R ∧ cnt cs (4 * t.1) = some (t.2.1, t.2.2)
  rise : D.Pairwise (fun x y => x.2.1 < y.2.1)
  place : ∀ t ∈ D, t.1 = t.2.1 % R
  low : ∀ t ∈ D, M < t.2.1 + R
  top : ∀ j l, j < 4 * R → fmAt cs j = some l → fmNum l ≤ M
  frm : From base L D
section
variable {R M : Nat} {L : List It} {base : List Tr} {cs : List Cl} {D : List Tr}
theorem Wk.num_le (h : Wk R M L base cs D) {t : Tr} (ht : t ∈ D) : t.2.1 ≤ M := by
  obtain ⟨h1, h2⟩ := (h.mem t).1 ht
  obtain ⟨l, h3, h4⟩ := cnt_pages h2 0 (by omega)
  rw [← h4]
  exact h.top _ l (by omega) h3
theorem Wk.one (h : Wk R M L base cs D) {s t : Tr} (hs : s ∈ D) (ht : t ∈ D) (e : s.2.1 = t.2.1) : s = t := by
  have h1 := (h.mem s).1 hs
  have h2 := (h.mem t).1 ht
  have hp : s.1 = t.1 := by rw [h.place s hs, h.place t ht, e]
  have := h1.2
  rw [hp, h2.2] at this
  obtain ⟨_, e2⟩ := Prod.mk.inj (Option.some.inj this)
  obtain ⟨a, b, c⟩ := s
  obtain ⟨a', b', c'⟩ := t
  simp only at hp e e2
  rw [hp, e, e2]
/-- A log that is opened there. -/
theorem Wk.opened (h : Wk R M L base cs D) {rs : List Rg} (hr : rs.map Rg.three = cnts cs 0 R) : (isort rs).map Rg.three = D := by
  have hmem : ∀ t, t ∈ (isort rs).map Rg.three ↔ t ∈ D := fun t => by
    rw [((isort_perm rs).map Rg.three).mem_iff, hr, cnts_iff, ← h.mem t]
  refine sorted_eq _ _ ?_ h.rise hmem
  have h1 : ((isort rs).map Rg.three).Pairwise (fun x y => x.2.1 ≤ y.2.1) := by
    rw [List.pairwise_map]
    exact (isort_sorted rs).imp (fun hab => hab)
  have h2 : ((isort rs).map Rg.three).Nodup := by
    rw [((isort_perm rs).map Rg.three).nodup_iff, hr]
    exact cnts_nodup R
  have h3 := h1.and h2
  exact h3.imp_of_mem (fun {a b} ha hb hab => by
    rcases Nat.lt_or_ge a.2.1 b.2.1 with h4 | h4
    · exact h4
    · exact absurd (h.one ((hmem a).1 ha) ((hmem b).1 hb) (by have := hab.1; omega)) hab.2)
/-- The region in the place that is written next is the first one, or there is none. -/
theorem Wk.head (h : Wk R M L base cs D) (hR : 1 ≤ R) (P : Nat) (hP : P = (M + 1) % R) :
    (D.filter (fun t => decide (t.1 ≠ P)) = D ∧ ∀ t ∈ D, t.1 ≠ P) ∨ ∃ t D1, D = t :: D1 ∧ t.1 = P ∧ (∀ s ∈ D1, s.1 ≠ P) ∧ D.filter (fun t => decide (t.1 ≠ P)) = D1 := by
  have key : ∀ t ∈ D, t.1 = P → t.2.1 + R = M + 1 := fun t ht e => by
    have h1 := h.num_le ht
    have h2 := h.low t ht
    have h3 := h.place t ht
    rw [e, hP] at h3
    have h4 : (M + 1 - t.2.1) % R = 0 := Nat.sub_mod_eq_zero_of_mod_eq h3
    have h5 := Nat.le_of_dvd (by omega) (Nat.dvd_of_mod_eq_zero h4)
    omega
  by_cases hx : ∀ t ∈ D, t.1 ≠ P
  · exact .inl ⟨List.filter_eq_self.2 (fun t ht => by simpa using hx t ht), hx⟩
  · right
    have : ∃ t ∈ D, t.1 = P := Classical.byContradiction (fun hn => hx (fun t ht e => hn ⟨t, ht, e⟩))
    obtain ⟨t, ht, e⟩ := this
    have hk := key t ht e
    cases hD : D with
    | nil => rw [hD] at ht; cases ht
    | cons s D1 =>
      have hr := h.rise
      rw [hD, List.pairwise_cons] at hr
      have hts : t = s := by
        rw [hD] at ht
        rcases List.mem_cons.1 ht with h1 | h1
        · exact h1
        · have h2 := hr.1 t h1
          have h3 := h.low s (by rw [hD]; simp)
          omega
      subst hts
      have hoth : ∀ s ∈ D1, s.1 ≠ P := fun s hs e2 => by
        have h2 := hr.1 s hs
        have h3 := key s (by rw [hD]; simp [hs]) e2
        omega
      refine ⟨t, D1, rfl, e, hoth, ?_⟩
      rw [List.filter_cons, if_neg (by simp [e])]
      exact List.filter_eq_self.2 (fun s hs => by simpa using hoth s hs)
theorem From.tail {base : List Tr} {L : List It} {t : Tr} {D1 : List Tr} (h : From base L (t :: D1)) : From base L D1 := by
  obtain ⟨A, B, N, h1, h2, h3⟩ := h
  cases B with
  | nil =>
    cases N with
    | nil => cases h2
    | cons a N =>
      simp only [List.nil_append, List.cons.injEq] at h2
      exact ⟨A, [], N, h1, by rw [h2.2]; rfl, fun x hx => h3 x (by unfold flatI at hx ⊢; rw [List.flatMap_cons]; exact List.mem_append.2 (.inr hx))⟩
  | cons b B =>
    simp only [List.cons_append, List.cons.injEq] at h2
    exact ⟨A ++ [b], B, N, by rw [h1]; simp, h2.2, h3⟩
theorem From.snoc {base : List Tr} {L : List It} {D1 : List Tr} (h : From base L D1) (t : Tr) (ht : ∀ x ∈ t.2.2, x ∈ L) : From base L (D1 ++ [t]) := by
  obtain ⟨A, B, N, h1, h2, h3⟩ := h
  refine ⟨A, B, N ++ [t], h1, by rw [h2, List.append_assoc], fun x hx => ?_⟩
  unfold flatI at hx h3
  rw [List.flatMap_append] at hx
  rcases List.mem_append.1 hx with h4 | h4
  · exact h3 x h4
  · simp at h4; exact ht x h4
/-- Four pages were written, wholly or in part. -/
theorem Wk.turn (h : Wk R M L base cs D) (hR : 1 ≤ R) (P n : Nat) (hn : n = M + 1) (hP : P = n % R) (c : List UInt8) (zs : List It) (hc : c.length ≤ 1472) (hl : lst c = some zs) (hzs : ∀ x ∈ zs, x ∈ L) (hn64 : n < 18446744073709551616)
    {cs' : List Cl} (a : Afc cs (4 * P) n c cs') :
    (cnt cs' (4 * P) = some (n, zs) → Wk R n L base cs' (D.filter (fun t => decide (t.1 ≠ P)) ++ [(P, n, zs)])) ∧ ∃ M' D', M' ≤ n ∧ Wk R M' L base cs' D' := by
  have hPR : P < R := by rw [hP]; exact Nat.mod_lt _ hR
  have hroom : 4 * R ≤ cs'.length := by rw [a.len]; exact h.room
  have hoth : ∀ p, p < R → p ≠ P → cnt cs' (4 * p) = cnt cs (4 * p) := fun p hp hne => cnt_congr (forms_congr 4 (fun j hj => a.out (by omega)))
  have htop : ∀ j l, j < 4 * R → fmAt cs' j = some l → fmNum l ≤ n := fun j l hj hf => by
    rcases a.fm hn64 hf with h1 | ⟨i, x, _, _, h1, _⟩
    · have := h.top j l hj h1; omega
    · omega
  have hfm : ∀ t, t ∈ D.filter (fun t => decide (t.1 ≠ P)) ↔ t ∈ D ∧ t.1 ≠ P := fun t => by rw [List.mem_filter]; simp
  have hlow : ∀ t ∈ D.filter (fun t => decide (t.1 ≠ P)), n < t.2.1 + R := fun t ht => by
    obtain ⟨h1, h2⟩ := (hfm t).1 ht
    have h3 := h.low t h1
    have h4 := h.num_le h1
    rcases Nat.lt_or_ge n (t.2.1 + R) with h5 | h5
    · exact h5
    · exfalso
      apply h2
      rw [h.place t h1, hP, show n = t.2.1 + R by omega, Nat.add_mod_right]
  have hfrm : From base L (D.filter (fun t => decide (t.1 ≠ P))) := by
    rcases h.head hR P (by rw [hP, hn]) with ⟨h1, _⟩ | ⟨t, D1, h1, _, _, h2⟩
    · rw [h1]; exact h.frm
    · rw [h2]; have := h.frm; rw [h1] at this; exact this.tail
  have W1 : cnt cs' (4 * P) = some (n, zs) → Wk R n L base cs' (D.filter (fun t => decide (t.1 ≠ P)) ++ [(P, n, zs)]) := fun hcn => by
    refine ⟨hroom, a.still, fun t => ?_, ?_, fun t ht => ?_, fun t ht => ?_, htop, hfrm.snoc _ hzs⟩
    · rw [List.mem_append, hfm, h.mem t]
      constructor
      · rintro (⟨⟨h1, h2⟩, h3⟩ | h1)
        · exact ⟨h1, by rw [hoth _ h1 h3]; exact h2⟩
        · simp only [List.mem_singleton] at h1
          rw [h1]; exact ⟨hPR, hcn⟩
      · rintro ⟨h1, h2⟩
        by_cases e : t.1 = P
        · right
          rw [e, hcn] at h2
          obtain ⟨e1, e2⟩ := Prod.mk.inj (Option.some.inj h2)
          obtain ⟨p, q, r⟩ := t
          simp only at e e1 e2
          simp [e, e1, e2]
        · left
          rw [hoth _ h1 e] at h2
          exact ⟨⟨h1, h2⟩, e⟩
    · refine List.pairwise_append.2 ⟨h.rise.filter _, by simp, fun x hx y hy => ?_⟩
      simp only [List.mem_singleton] at hy
      rw [hy]
      have := h.num_le ((hfm x).1 hx).1
      show x.2.1 < n
      omega
    · rcases List.mem_append.1 ht with h1 | h1
      · exact h.place t ((hfm t).1 h1).1
      · simp only [List.mem_singleton] at h1; rw [h1]; exact hP
    · rcases List.mem_append.1 ht with h1 | h1
      · exact hlow t h1
      · simp only [List.mem_singleton] at h1; rw [h1]; show n < n + R; omega
  refine ⟨W1, ?_⟩
  have hold : ∀ i l, i < 4 → fmAt cs (4 * P + i) = some l → fmNum l < n := fun i l hi hf => by
    have := h.top _ l (by omega) hf; omega
  rcases a.cnt (by omega) hn64 hc hl hold with h1 | ⟨h1, h2⟩ | h1
  · refine ⟨n, D.filter (fun t => decide (t.1 ≠ P)), Nat.le_refl _, hroom, a.still, fun t => ?_, h.rise.filter _, fun t ht => h.place t ((hfm t).1 ht).1, hlow, htop, hfrm⟩
    rw [hfm, h.mem t]
    constructor
    · rintro ⟨⟨h3, h4⟩, h5⟩
      exact ⟨h3, by rw [hoth _ h3 h5]; exact h4⟩
    · rintro ⟨h3, h4⟩
      by_cases e : t.1 = P
      · rw [e, h1] at h4; cases h4
      · rw [hoth _ h3 e] at h4
        exact ⟨⟨h3, h4⟩, e⟩
  · refine ⟨M, D, by omega, hroom, a.still, fun t => ?_, h.rise, h.place, h.low, fun j l hj hf => ?_, h.frm⟩
    · rw [h.mem t]
      constructor
      · rintro ⟨h3, h4⟩
        refine ⟨h3, ?_⟩
        by_cases e : t.1 = P
        · rw [e, h1, ← e]; exact h4
        · rw [hoth _ h3 e]; exact h4
      · rintro ⟨h3, h4⟩
        refine ⟨h3, ?_⟩
        by_cases e : t.1 = P
        · rw [e, h1, ← e] at h4; exact h4
        · rw [hoth _ h3 e] at h4; exact h4
    · by_cases e : j < 4 * P ∨ 4 * P + 4 ≤ j
      · rw [a.out e] at hf
        exact h.top j l hj hf
      · have := h2 (j - 4 * P) l (by omega) (by rw [show 4 * P + (j - 4 * P) = j by omega]; exact hf)
        omega
  · exact ⟨n, _, Nat.le_refl _, W1 h1⟩
theorem Wk.numTo (h : Wk R M L base cs D) : numTo cs 0 R ≤ M ∧ Wk R (Ytbjkahdlejaheaa.numTo cs 0 R) L base cs D := by
  have h1 := numTo_le R h.top
  exact ⟨h1, h.room, h.still, h.mem, h.rise, h.place, fun t ht => by have := h.low t ht; omega, fun j l hj hf => le_numTo R j l hj hf, h.frm⟩
theorem Wk.again (h : Wk R M L base cs D) (L' : List It) : Wk R M L' D cs D :=
  ⟨h.room, h.still, h.mem, h.rise, h.place, h.low, h.top, [], D, [], rfl, by simp, fun x hx => by simp [flatI] at hx⟩
theorem Wk.crash (h : Wk R M L base cs D) (ps : List UInt8) : settle cs ps = cs := settle_still cs ps h.still
end
end Go.Proofs.Ytbjkahdlejaheaa

/- Put and Seal of a log whose power may go at any step. -/
set_option linter.unusedVariables false
set_option linter.unusedSimpArgs false
set_option maxRecDepth 8000
namespace Go.Proofs.Ytbjkahdlejaheaa
open Go.RowKit Go.Deep Math

/-! ### The last one of a key -/
def lastT (k : List UInt8) (l : List Th) (o : Option Th) : Option Th := l.foldl (fun o t => if t.it.key = k then some t else o) o
def lastIt (xs : List It) (k : List UInt8) : Option It := xs.foldl (fun o x => if x.key = k then some x else o) none
theorem hasL_lastT (k : List UInt8) : ∀ (l : List Th) (M : List UInt8 → Option (Nat × Nat)) (o : Option Th), M k = o.map Th.pos → hasL M l k = (lastT k l o).map Th.pos
  | [], M, o, h => h
  | t :: l, M, o, h => by
    show hasL (updK M t.it.key (some t.pos)) l k = (lastT k l (if t.it.key = k then some t else o)).map Th.pos
    refine hasL_lastT k l _ _ ?_
    by_cases e : t.it.key = k
    · rw [if_pos e, ← e, updK_same]; rfl
    · rw [if_neg e, updK_other _ _ _ _ (Ne.symm e)]; exact h
theorem lastIt_lastT (k : List UInt8) : ∀ (l : List Th) (o : Option Th), (l.map Th.it).foldl (fun o x => if x.key = k then some x else o) (o.map Th.it) = (lastT k l o).map Th.it
  | [], o => rfl
  | t :: l, o => by
    have ih := lastIt_lastT k l (if t.it.key = k then some t else o)
    show (l.map Th.it).foldl _ (if t.it.key = k then some t.it else o.map Th.it) = _
    by_cases e : t.it.key = k
    · rw [if_pos e]
      rw [if_pos e] at ih
      have e2 : lastT k (t :: l) o = lastT k l (some t) := by show lastT k l (if t.it.key = k then some t else o) = _; rw [if_pos e]
      rw [e2]; exact ih
    · rw [if_neg e]
      rw [if_neg e] at ih
      have e2 : lastT k (t :: l) o = lastT k l o := by show lastT k l (if t.it.key = k then some t else o) = _; rw [if_neg e]
      rw [e2]; exact ih
theorem lastT_mem (k : List UInt8) : ∀ (l : List Th) (o : Option Th) (t : Th), lastT k l o = some t → (t ∈ l ∧ t.it.key = k) ∨ o = some t
  | [], o, t, h => .inr h
  | u :: l, o, t, h => by
    have h2 : lastT k l (if u.it.key = k then some u else o) = some t := h
    rcases lastT_mem k l _ t h2 with ⟨h3, h4⟩ | h3
    · exact .inl ⟨by simp [h3], h4⟩
    · by_cases e : u.it.key = k
      · rw [if_pos e] at h3
        have : u = t := Option.some.inj h3
        subst this
        exact .inl ⟨by simp, e⟩
      · rw [if_neg e] at h3; exact .inr h3
theorem lastIt_mem {xs : List It} {k : List UInt8} {x : It} (h : lastIt xs k = some x) : x ∈ xs ∧ x.key = k := by
  have : ∀ (xs : List It) (o : Option It), xs.foldl (fun o x => if x.key = k then some x else o) o = some x → (x ∈ xs ∧ x.key = k) ∨ o = some x := by
    intro xs
    induction xs with
    | nil => intro o h; exact .inr h
    | cons y r ih =>
      intro o h
      rcases ih _ h with ⟨h1, h2⟩ | h1
      · exact .inl ⟨by simp [h1], h2⟩
      · have h1 : (if y.key = k then some y else o) = some x := h1
        by_cases e : y.key = k
        · rw [if_pos e] at h1
          have : y = x := Option.some.inj h1
          subst this
          exact .inl ⟨by simp, e⟩
        · rw [if_neg e] at h1; exact .inr h1
  rcases this xs none h with h1 | h1
  · exact h1
  · cases h1
theorem lastIt_append (xs ys : List It) (k : List UInt8) : lastIt (xs ++ ys) k = (lastIt ys k).or (lastIt xs k) := by
  have : ∀ (ys : List It) (o : Option It), ys.foldl (fun o x => if x.key = k then some x else o) o = (lastIt ys k).or o := by
    intro ys
    induction ys with
    | nil => intro o; rfl
    | cons y r ih =>
      intro o
      have e1 : lastIt (y :: r) k = r.foldl (fun o x => if x.key = k then some x else o) (if y.key = k then some y else none) := rfl
      rw [e1, List.foldl_cons, ih, ih]
      by_cases e : y.key = k
      · rw [if_pos e, if_pos e]; cases lastIt r k <;> rfl
      · rw [if_neg e, if_neg e]; cases lastIt r k <;> rfl
  unfold lastIt
  rw [List.foldl_append]
  exact this ys _
section
variable {T : Lg}
theorem has_last (hh : T.has = hasL (fun _ => none) T.all) (k : List UInt8) : ∃ o : Option Th, T.has k = o.map Th.pos ∧ lastIt (T.all.map Th.it) k = o.map Th.it ∧ ∀ t, o = some t → t ∈ T.all ∧ t.it.key = k := by
  refine ⟨lastT k T.all none, ?_, ?_, fun t ht => ?_⟩
  · rw [hh]; exact hasL_lastT k T.all _ none rfl
  · exact lastIt_lastT k T.all none
  · rcases lastT_mem k T.all none t ht with h | h
    · exact h
    · cases h
theorem pos_one {l : List Th} (hn : (l.map Th.pos).Nodup) {s t : Th} (hs : s ∈ l) (ht : t ∈ l) (e : s.pos = t.pos) : s = t := by
  induction l with
  | nil => cases hs
  | cons a r ih =>
    rw [List.map_cons, List.nodup_cons] at hn
    rcases List.mem_cons.1 hs with rfl | h1
    · rcases List.mem_cons.1 ht with rfl | h2
      · rfl
      · exact absurd (List.mem_map.2 ⟨t, h2, e.symm⟩) hn.1
    · rcases List.mem_cons.1 ht with rfl | h2
      · exact absurd (List.mem_map.2 ⟨s, h1, e⟩) hn.1
      · exact ih hn.2 h1 h2
theorem items_last (hh : T.has = hasL (fun _ => none) T.all) (hp : (T.all.map Th.pos).Nodup) (x : It) : x ∈ T.items ↔ lastIt (T.all.map Th.it) x.key = some x := by
  constructor
  · intro hx
    unfold Lg.items Lg.hadOf at hx
    obtain ⟨t, ht, rfl⟩ := List.mem_map.1 hx
    obtain ⟨h1, h2⟩ := List.mem_filter.1 ht
    have h3 : T.has t.it.key = some t.pos := of_decide_eq_true h2
    obtain ⟨o, q1, q2, q3⟩ := has_last hh t.it.key
    rw [h3] at q1
    cases o with
    | none => cases q1
    | some u =>
      have e : t = u := pos_one hp h1 (q3 u rfl).1 (Option.some.inj q1)
      rw [q2, ← e]; rfl
  · intro hx
    obtain ⟨o, q1, q2, q3⟩ := has_last hh x.key
    rw [hx] at q2
    cases o with
    | none => cases q2
    | some u =>
      have e : x = u.it := Option.some.inj q2
      obtain ⟨q4, q5⟩ := q3 u rfl
      unfold Lg.items Lg.hadOf
      rw [e]
      refine List.mem_map.2 ⟨u, List.mem_filter.2 ⟨q4, ?_⟩, rfl⟩
      unfold Lg.cur
      rw [q5]
      exact decide_eq_true q1
theorem get_last (hh : T.has = hasL (fun _ => none) T.all) (k : List UInt8) (x : It) (hx : lastIt (T.all.map Th.it) k = some x) : ∃ t ∈ T.all, T.has k = some t.pos ∧ t.it = x := by
  obtain ⟨o, q1, q2, q3⟩ := has_last hh k
  rw [hx] at q2
  cases o with
  | none => cases q2
  | some u => exact ⟨u, (q3 u rfl).1, q1, (Option.some.inj q2).symm⟩
theorem all_flat (T : Lg) : T.all.map Th.it = flatI (T.regs.map Rg.three) ++ T.opn.map Th.it := by
  unfold Lg.all flatI
  rw [List.map_append, List.flatMap_map]
  congr 1
  induction T.regs with
  | nil => rfl
  | cons r rs ih => rw [List.flatMap_cons, List.flatMap_cons, List.map_append, ih]; rfl
end
theorem hasL_or (k : List UInt8) : ∀ (l : List Th) (M : List UInt8 → Option (Nat × Nat)), hasL M l k = (hasL (fun _ => none) l k).or (M k)
  | [], M => rfl
  | t :: l, M => by
    have e1 : hasL M (t :: l) k = hasL (updK M t.it.key (some t.pos)) l k := rfl
    have e2 : hasL (fun _ => none) (t :: l) k = hasL (updK (fun _ => none) t.it.key (some t.pos)) l k := rfl
    rw [e1, e2, hasL_or k l (updK M _ _), hasL_or k l (updK (fun _ => none) _ _)]
    by_cases e : k = t.it.key
    · rw [e, updK_same, updK_same]; cases hasL (fun _ => none) l t.it.key <;> rfl
    · rw [updK_other _ _ _ _ e, updK_other _ _ _ _ e]; cases hasL (fun _ => none) l k <;> rfl
theorem hasL_mem {l : List Th} {k : List UInt8} {p : Nat × Nat} (h : hasL (fun _ => none) l k = some p) : ∃ t ∈ l, t.it.key = k ∧ t.pos = p := by
  rw [hasL_lastT k l _ none rfl] at h
  obtain ⟨t, ht, e⟩ := Option.map_eq_some_iff.1 h
  rcases lastT_mem k l none t ht with ⟨h1, h2⟩ | h1
  · exact ⟨t, h1, h2, e⟩
  · cases h1
theorem del_hasL {T : Lg} (X Y : List Th) (hn : ((X ++ Y).map Th.pos).Nodup) (hT : T.has = hasL (fun _ => none) (X ++ Y)) : delKeys T.has (T.hadOf X) = hasL (fun _ => none) Y := by
  funext k
  have e : T.has k = (hasL (fun _ => none) Y k).or (hasL (fun _ => none) X k) := by
    rw [hT]
    have : hasL (fun _ => none) (X ++ Y) = hasL (hasL (fun _ => none) X) Y := by unfold hasL; rw [List.foldl_append]
    rw [this, hasL_or]
  cases hY : hasL (fun _ => none) Y k with
  | some p =>
    rw [hY] at e
    have e2 : T.has k = some p := e
    obtain ⟨u, hu, _, hup⟩ := hasL_mem hY
    rw [delKeys_other _ _ _ (fun x hx hk => ?_), e2]
    unfold Lg.hadOf at hx
    obtain ⟨t, ht, rfl⟩ := List.mem_map.1 hx
    obtain ⟨h1, h2⟩ := List.mem_filter.1 ht
    have h3 : T.has t.it.key = some t.pos := of_decide_eq_true h2
    rw [hk, e2] at h3
    rw [List.map_append, List.nodup_append] at hn
    exact hn.2.2 _ (List.mem_map.2 ⟨t, h1, rfl⟩) _ (List.mem_map.2 ⟨u, hu, rfl⟩) (by rw [hup]; exact (Option.some.inj h3).symm)
  | none =>
    rw [hY] at e
    have e2 : T.has k = hasL (fun _ => none) X k := e
    cases hd : delKeys T.has (T.hadOf X) k with
    | none => rfl
    | some q =>
      exfalso
      obtain ⟨h1, h2⟩ := delKeys_some _ _ _ _ hd
      rw [h1] at e2
      obtain ⟨t, ht, hk, hp⟩ := hasL_mem e2.symm
      refine h2 t.it ?_ hk
      unfold Lg.hadOf
      refine List.mem_map.2 ⟨t, List.mem_filter.2 ⟨ht, ?_⟩, rfl⟩
      unfold Lg.cur
      rw [hk, hp]
      exact decide_eq_true h1
/-! ### A log that is alive, one that is done -/
structure Al (R k : Nat) (L : List It) (base : List Tr) (S : Dv) (T : Lg) : Prop where
  off : S.off = false
  losses : S.losses = T.losses
  first' : T.first = 0
  regions' : T.regions = R
  wk : Wk R T.num L base S.cs (T.regs.map Rg.three)
  num : T.num ≤ 100 + k
  cap : T.cap ≤ 200 + k
  regs : T.regs.length ≤ 4 + k
  all : T.all.length ≤ 200 + k
  cont : T.cont.length ≤ 1472
  oks : ∀ t ∈ T.all, t.it.fits ∧ t.it.good = true
  pos : (T.all.map Th.pos).Nodup
  opnL : ∀ t ∈ T.opn, t.it ∈ L
  has : T.has = hasL (fun _ => none) T.all
structure De (R k : Nat) (L : List It) (base : List Tr) (S : Dv) (T : Lg) : Prop where
  loss : S.losses ≠ T.losses
  opn : T.opn ≠ []
  cap : T.cap ≤ 200 + k
  all : T.all.length ≤ 200 + k
  cont : T.cont.length ≤ 1472
  aft : ∀ ps, ∃ M D, M ≤ 101 + k ∧ Wk R M L base (settle S.cs ps) D
section
variable {R k : Nat} {L : List It} {base : List Tr} {S : Dv} {T : Lg}
theorem Al.mono (h : Al R k L base S T) : Al R (k + 1) L base S T :=
  ⟨h.off, h.losses, h.first', h.regions', h.wk, by have := h.num; omega, by have := h.cap; omega, by have := h.regs; omega, by have := h.all; omega, h.cont, h.oks, h.pos, h.opnL, h.has⟩
theorem De.mono (h : De R k L base S T) : De R (k + 1) L base S T :=
  ⟨h.loss, h.opn, by have := h.cap; omega, by have := h.all; omega, h.cont, fun ps => by
    obtain ⟨M, D, h1, h2⟩ := h.aft ps
    exact ⟨M, D, by omega, h2⟩⟩
theorem Al.put (h : Al R k L base S T) (t : Th) (ht : t.it.fits ∧ t.it.good = true) (hL : t.it ∈ L) (hcl : T.cont.length + t.it.size ≤ 1472) (hp : ∀ u ∈ T.all, u.pos ≠ t.pos) : Al R (k + 1) L base S (T.put t) := by
  refine ⟨h.off, h.losses, h.first', h.regions', h.wk, ?_, ?_, ?_, ?_, ?_, fun u hu => ?_, ?_, fun u hu => ?_, ?_⟩
  · show T.num ≤ _; have := h.num; omega
  · show T.cap + 1 ≤ _; have := h.cap; omega
  · show T.regs.length ≤ _; have := h.regs; omega
  · rw [put_all, List.length_append]
    have := h.all
    simp; omega
  · rw [put_cont, List.length_append, It.enc_length]; exact hcl
  · rw [put_all] at hu
    rcases List.mem_append.1 hu with h1 | h1
    · exact h.oks u h1
    · simp only [List.mem_singleton] at h1; rw [h1]; exact ht
  · rw [put_all, List.map_append]
    refine List.nodup_append.2 ⟨h.pos, by simp, fun a ha b hb => ?_⟩
    obtain ⟨u, hu, rfl⟩ := List.mem_map.1 ha
    simp only [List.map_cons, List.map_nil, List.mem_singleton] at hb
    rw [hb]
    exact hp u hu
  · have hu2 : u ∈ T.opn ++ [t] := hu
    rcases List.mem_append.1 hu2 with h1 | h1
    · exact h.opnL u h1
    · simp only [List.mem_singleton] at h1; rw [h1]; exact hL
  · show updK T.has t.it.key (some t.pos) = _
    rw [put_all, hasL_snoc, h.has]
theorem De.put (h : De R k L base S T) (t : Th) (hcl : T.cont.length + t.it.size ≤ 1472) : De R (k + 1) L base S (T.put t) := by
  refine ⟨h.loss, ?_, ?_, ?_, ?_, h.mono.aft⟩
  · show T.opn ++ [t] ≠ []; simp
  · show T.cap + 1 ≤ _; have := h.cap; omega
  · rw [put_all, List.length_append]
    have := h.all
    simp; omega
  · rw [put_cont, List.length_append, It.enc_length]; exact hcl
/-- The region that goes is the first one. -/
theorem Al.lose (h : Al R k L base S T) (hR : 1 ≤ R) : (T.lose T.next).regs.map Rg.three = (T.regs.map Rg.three).filter (fun t => decide (t.1 ≠ T.next)) ∧ (T.lose T.next).has = hasL (fun _ => none) (T.lose T.next).all := by
  have hP : T.next = (T.num + 1) % R := by unfold Lg.next; rw [h.regions']
  rcases h.wk.head hR T.next hP with ⟨h1, h2⟩ | ⟨t, D1, h1, h2, h3, h4⟩
  · have hi : idxP T.next T.regs = none := by
      unfold idxP
      rw [List.findIdx?_eq_none_iff]
      intro r hr
      have := h2 r.three (List.mem_map.2 ⟨r, hr, rfl⟩)
      exact decide_eq_false this
    have e : T.lose T.next = T := by unfold Lg.lose; rw [hi]
    rw [e, h1]
    exact ⟨rfl, h.has⟩
  · obtain ⟨r, rest, hr, e1, e2⟩ : ∃ r rest, T.regs = r :: rest ∧ r.three = t ∧ rest.map Rg.three = D1 := by
      cases hq : T.regs with
      | nil => rw [hq] at h1; cases h1
      | cons r rest =>
        rw [hq, List.map_cons] at h1
        simp only [List.cons.injEq] at h1
        exact ⟨r, rest, rfl, h1.1, h1.2⟩
    have hrp : r.place = T.next := by rw [← e1] at h2; exact h2
    have hi : idxP T.next T.regs = some 0 := by
      unfold idxP
      rw [hr, List.findIdx?_cons, if_pos (by simp [hrp])]
    have hlost : T.lost T.next = T.hadOf r.ths := by unfold Lg.lost; rw [hi, hr]; rfl
    have hregs : (T.lose T.next).regs = rest := by unfold Lg.lose; rw [hi]; show T.regs.eraseIdx 0 = rest; rw [hr]; rfl
    have hhas : (T.lose T.next).has = delKeys T.has (T.hadOf r.ths) := by unfold Lg.lose; rw [hi]; show delKeys T.has (T.lost T.next) = _; rw [hlost]
    have hall : T.all = r.ths ++ (T.lose T.next).all := by
      unfold Lg.all
      rw [hregs, (lose_same T T.next).1, hr, List.flatMap_cons, List.append_assoc]
    refine ⟨by rw [hregs, h4, e2], ?_⟩
    rw [hhas]
    refine del_hasL _ _ (by rw [← hall]; exact h.pos) (by rw [← hall]; exact h.has)
/-- The writing of the open region: it stands, or the power went. -/
theorem Al.seal (h : Al R k L base S T) (hR : 1 ≤ R) (hR64 : R ≤ 64) (hk : k < 50) (ho : T.opn ≠ []) (v6 : Value) :
    ((wrR (4 * T.next) (T.num + 1) 4 S T.cont).1 = 0 ∧ Al R (k + 1) L base (wrR (4 * T.next) (T.num + 1) 4 S T.cont).2 (T.cut v6)) ∨
    ((wrR (4 * T.next) (T.num + 1) 4 S T.cont).1 ≠ 0 ∧ De R (k + 1) L base (wrR (4 * T.next) (T.num + 1) 4 S T.cont).2 (T.lose T.next)) := by
  have hP : T.next = (T.num + 1) % R := by unfold Lg.next; rw [h.regions']
  have hPR : T.next < R := by rw [hP]; exact Nat.mod_lt _ hR
  have hroom := h.wk.room
  have hn := h.num
  have hzs : ∀ x ∈ T.opn.map Th.it, x ∈ L := fun x hx => by
    obtain ⟨t, ht, rfl⟩ := List.mem_map.1 hx
    exact h.opnL t ht
  have hoks : ∀ x ∈ T.opn.map Th.it, x.fits ∧ x.good = true := fun x hx => by
    obtain ⟨t, ht, rfl⟩ := List.mem_map.1 hx
    exact h.oks t (by unfold Lg.all; exact List.mem_append.2 (.inr ht))
  have hl : lst T.cont = some (T.opn.map Th.it) := lst_one _ hoks
  obtain ⟨hlr, hlh⟩ := h.lose hR
  obtain ⟨s1, s2, s3, s4, s5, s6, s7⟩ := lose_same T T.next
  rcases wr_any (4 * T.next) (T.num + 1) T.cont (cs0 := S.cs) (by omega) 4 S T.cont (Nat.le_refl _) rfl h.off (Mid.refl h.wk.still _ _ _) with ⟨h1, h2, h3, h4⟩ | ⟨h1, h2, h3⟩
  · left
    rw [putR_four] at h2
    have ha := put4_aft S.cs (4 * T.next) (T.num + 1) T.cont (by omega)
    rw [← h2] at ha
    have hcn : cnt (wrR (4 * T.next) (T.num + 1) 4 S T.cont).2.cs (4 * T.next) = some (T.num + 1, T.opn.map Th.it) := by
      rw [h2]
      exact (cnt_written (by omega) (by omega) h.cont hl (fun q hq => ⟨none, put4_in S.cs _ _ _ (by omega) q hq⟩)).1
    have hw := (h.wk.turn hR T.next (T.num + 1) rfl hP T.cont _ h.cont hl hzs (by omega) ha).1 hcn
    have hall : (T.cut v6).all = (T.lose T.next).all := by unfold Lg.cut; rw [sealed_all]
    have hsub := lose_sub T T.next
    refine ⟨h1, h3, ?_, ?_, ?_, ?_, ?_, ?_, ?_, ?_, ?_, fun t ht => ?_, ?_, fun t ht => ?_, ?_⟩
    · rw [h4, h.losses]; exact s4.symm
    · exact s2.trans h.first'
    · exact s5.trans h.regions'
    · show Wk R (T.num + 1) L base _ (((T.lose T.next).regs ++ [(⟨T.next, T.num + 1, v6, (T.lose T.next).opn⟩ : Rg)]).map Rg.three)
      rw [List.map_append, hlr]
      have e : [(⟨T.next, T.num + 1, v6, (T.lose T.next).opn⟩ : Rg)].map Rg.three = [(T.next, T.num + 1, T.opn.map Th.it)] := by rw [s1]; rfl
      rw [e]
      exact hw
    · show T.num + 1 ≤ _; omega
    · show (T.lose T.next).cap ≤ _; rw [s6]; have := h.cap; omega
    · show ((T.lose T.next).regs ++ [_]).length ≤ _
      rw [List.length_append, List.length_singleton]
      have := h.regs; omega
    · rw [hall]; have := hsub.length_le; have := h.all; omega
    · show (encs []).length ≤ 1472; simp [encs]
    · rw [hall] at ht; exact h.oks t (hsub.subset ht)
    · rw [hall]; exact (hsub.map Th.pos).nodup h.pos
    · cases ht
    · rw [hall]; exact hlh
  · right
    have hsub := lose_sub T T.next
    refine ⟨by rw [h1]; decide, ?_, ?_, ?_, ?_, ?_, fun ps => ?_⟩
    · rw [h3, s4, h.losses]
      unfold wrap64
      omega
    · rw [s1]; exact ho
    · rw [s6]; have := h.cap; omega
    · have := hsub.length_le; have := h.all; omega
    · unfold Lg.cont; rw [s1]; exact h.cont
    · obtain ⟨M, D, h5, h6⟩ := (h.wk.turn hR T.next (T.num + 1) rfl hP T.cont _ h.cont hl hzs (by omega) (h2.aft ps)).2
      exact ⟨M, D, by omega, h6⟩
end
/-! ### The calls -/
section
variable {w : World} {l d m : Nat} {v5 v6 v7 : Value} {T : Lg} {S : Dv} {F : List Nat}
set_option maxHeartbeats 1000000 in
theorem seal_done (h : LgIn w l d m v5 v6 v7 T) (hD : DvAt w d F S) (hopn : T.opn ≠ []) (hloss : S.losses ≠ T.losses) :
    Calls Try.prog 12 #[.pointer (some ⟨l, 0, none⟩)] w fun e w' => e = .returned (.tuple #[.slice none 0 0, .int .i64 4]) ∧ Below w.heap.size w w' := by
  obtain ⟨a6, c6, rfl⟩ := own_slice h.opn
  have ho6 : ¬ ((T.opn.length : Int) = 0) := by
    have : T.opn.length ≠ 0 := fun h0 => hopn (List.eq_nil_of_length_eq_zero h0)
    omega
  have k6 := h.box.cell (i := 6) rfl
  have k0 := h.box.cell (i := 0) rfl
  have k1 := h.box.cell (i := 1) rfl
  have cLs : Hid (∀ V : World, V.heap = w.heap → Calls Try.prog 27 #[.pointer (some ⟨d, 0, none⟩)] V fun e w' => e = .returned (.int .i64 S.losses) ∧ w' = V) := fun V hV =>
    losses_at (hD.same (fun _ _ => by rw [hV]))
  obtain ⟨n6, hn6⟩ : ∃ n6, n6 = T.opn.length := ⟨_, rfl⟩
  obtain ⟨la, hla⟩ : ∃ la, la = S.losses := ⟨_, rfl⟩
  obtain ⟨lb, hlb⟩ : ∃ lb, lb = T.losses := ⟨_, rfl⟩
  have hl1 : (la != lb) = true := by rw [bne_iff_ne, hla, hlb]; exact hloss
  rw [← hn6] at ho6 k6
  rw [← hla] at cLs
  rw [← hlb] at k1
  go_enter Try.func12, Try.ntmps12
  clear hopn hloss hn6 h hD hla hlb
  go_wp2_with fail
  go_quiet (first | (go_at_call 27; refine Calls.quiet_of_same (cLs.out _ ?_); rfl))
  go_wp2
  go_ret2
  exact ⟨rfl, rfl, rfl, rfl, Nat.le_refl _, fun _ _ => rfl⟩
set_option maxHeartbeats 2000000 in
theorem put_done (h : LgIn w l d m v5 v6 v7 T) (hD : DvAt w d F S) (x : It) (hf : x.fits) (hg : x.good = true) (hfull : 1472 < T.cont.length + x.size) (hcl : T.cont.length ≤ 1472) (hopn : T.opn ≠ []) (hloss : S.losses ≠ T.losses) :
    Calls Try.prog 11 #[.pointer (some ⟨l, 0, none⟩), x.val] w fun e w' => e = .returned (.tuple #[.slice none 0 0, .int .i64 4]) ∧ Below w.heap.size w w' := by
  have SEAL : Hid (∀ W, Below w.heap.size w W → Calls Try.prog 12 #[.pointer (some ⟨l, 0, none⟩)] W fun e w' => e = .returned (.tuple #[.slice none 0 0, .int .i64 4]) ∧ Below W.heap.size W w') := fun W b =>
    seal_done (h.below b) (hD.below b) hopn hloss
  have HFULL := hide hfull
  have HCL0 := hide hcl
  clear hD hopn hloss
  have gs := good_sizes hg
  have hsz : x.size = 32 + x.key.length + x.value.length := rfl
  obtain ⟨A, hA⟩ : ∃ A, A = w.alloc (.cells #[.string (txt x.key), .string (txt x.value), .int .u32 x.flags, .int .i64 x.exp, .int .u64 x.ver] 36) := ⟨_, rfl⟩
  have bA : Below w.heap.size w A := by rw [hA]; exact (Below.refl _ _).alloc (Nat.le_refl _) _
  have hszA : A.heap.size = w.heap.size + 1 := by rw [hA, nblk_alloc]
  have cP := hide (rput_ok x hf hg A)
  have EV : Hid (x.val = .agg #[.string (txt x.key), .string (txt x.value), .int .u32 x.flags, .int .i64 x.exp, .int .u64 x.ver]) := rfl
  rw [EV.out] at cP ⊢
  have H := hide h
  have BA := hide bA
  have SZA := hide hszA
  have hsz2 : (x.size : Int) ≤ 1472 := by omega
  clear h hf hg bA hszA gs hsz EV
  subst hA
  go_enter Try.func11, Try.ntmps11
  go_wp2_with fail
  refine cP.out.mono ?_
  rintro e w2 ⟨g, rfl, hg0, hbuf, b2⟩
  have bW : Below w.heap.size w w2 := BA.out.trans (b2.mono (by rw [SZA.out]; omega))
  have hL1 := H.out.below bW
  obtain ⟨a7, c7, hv7⟩ := own_slice hL1.cont
  have k7 := hL1.box.cell (i := 7) rfl
  rw [hv7] at k7
  have cSl := hide (SEAL.out w2 bW)
  have BW := hide bW
  have q1 : ¬ (1472 : Int) < (x.size : Int) := by omega
  have q2 : ((1472 : Int) - (T.cont.length : Int)) < (x.size : Int) := by have := HFULL.out; omega
  have q3 : (T.cont.length : Int) ≤ 1472 := by have := HCL0.out; omega
  clear bW hL1 hg0 hbuf b2 cP hv7 SEAL hfull hcl
  generalize T.cont.length = n7 at k7 q2 q3
  obtain ⟨xs, hxs⟩ : ∃ xs, xs = x.size := ⟨_, rfl⟩
  rw [← hxs] at q1 q2 hsz2 ⊢
  have HXS := hide hxs
  clear hxs
  go_wp2_with fail
  refine cSl.out.mono ?_
  rintro e w1 ⟨rfl, b1⟩
  have B1 : Hid (Below w.heap.size w w1) := BW.out.trans (b1.mono BW.out.size)
  clear cSl k7 q1 q2 q3 b1
  go_wp2
  go_ret2
  exact ⟨rfl, B1.out⟩
end
section
variable {w0 W : World} {d : Nat} {F : List Nat} {S : Dv} {l m : Nat} {v5 v6 v7 : Value} {T : Lg} {R k : Nat} {L : List It} {base : List Tr}
def PwPost (w0 : World) (d l m R k : Nat) (L : List It) (base : List Tr) (W' : World) : Prop :=
  ∃ v5 v6 v7 F S T, LG w0 W' d F S l m v5 v6 v7 T ∧ (Al R k L base S T ∨ De R k L base S T)
theorem PwPost.below {W W' : World} (h : PwPost w0 d l m R k L base W) (b : Below W.heap.size W W') : PwPost w0 d l m R k L base W' := by
  obtain ⟨v5, v6, v7, F, S, T, h1, h2⟩ := h
  exact ⟨v5, v6, v7, F, S, T, h1.below b, h2⟩
theorem PwPost.mono (h : PwPost w0 d l m R k L base W) : PwPost w0 d l m R (k + 1) L base W := by
  obtain ⟨v5, v6, v7, F, S, T, h1, h2⟩ := h
  refine ⟨v5, v6, v7, F, S, T, h1, ?_⟩
  rcases h2 with h2 | h2
  · exact .inl h2.mono
  · exact .inr h2.mono
theorem put_pw (G : LG w0 W d F S l m v5 v6 v7 T) (hS : Al R k L base S T ∨ De R k L base S T) (hR1 : 1 ≤ R) (hR64 : R ≤ 64) (hk : k < 50) (x : It) (hf : x.fits) (hxL : x ∈ L) :
    Calls Try.prog 11 #[.pointer (some ⟨l, 0, none⟩), x.val] W fun e W' => (∃ v, e = .returned v) ∧ PwPost w0 d l m R (k + 1) L base W' := by
  have P0 : PwPost w0 d l m R k L base W := ⟨v5, v6, v7, F, S, T, G, hS⟩
  cases hg : x.good with
  | false =>
    have hgm := hg
    rw [x.good_mayBe] at hgm
    refine (put_bad (w := W) (l := l) (txt x.key) (txt x.value) x.flags x.exp x.ver hgm).mono ?_
    rintro e w' ⟨rfl, b⟩
    exact ⟨⟨_, rfl⟩, (P0.below b).mono⟩
  | true =>
    have gs := good_sizes hg
    have hsz : x.size = 32 + x.key.length + x.value.length := rfl
    have hnew : ∀ u ∈ T.all, u.pos ≠ (⟨W.heap.size, 0, x⟩ : Th).pos := fun u hu e => by
      have h1 := (G.lg.ths u hu).lt
      have h2 : u.blk = W.heap.size := congrArg Prod.fst e
      omega
    have hall : T.all.length ≤ 200 + k := by rcases hS with h | h; exact h.all; exact h.all
    have hcap : T.cap ≤ 200 + k := by rcases hS with h | h; exact h.cap; exact h.cap
    have hopl : T.opn.length ≤ 1000 := by
      have : T.all.length = (T.regs.flatMap Rg.ths).length + T.opn.length := by unfold Lg.all; rw [List.length_append]
      omega
    by_cases hfl : T.cont.length + x.size ≤ 1472
    · refine (put_room G.lg x hf hg hfl (by omega) hopl).mono ?_
      rintro e w' ⟨rfl, v6', v7', hL, hK, h6, h7⟩
      refine ⟨⟨_, rfl⟩, v5, v6', v7', F, S, _, G.put hL hK h6 h7, ?_⟩
      rcases hS with h | h
      · exact .inl (h.put ⟨W.heap.size, 0, x⟩ ⟨hf, hg⟩ hxL hfl hnew)
      · exact .inr (h.put ⟨W.heap.size, 0, x⟩ hfl)
    · rcases hS with h | h
      · have hcne : T.cont ≠ [] := fun h0 => by rw [h0] at hfl; simp at hfl; omega
        have hopn : T.opn ≠ [] := fun h0 => hcne (by unfold Lg.cont; rw [h0]; rfl)
        refine (put_full G.lg G.dev x hf hg (by omega) (by omega) hopn h.losses (by have := h.num; omega) (by rw [h.regions']; exact hR1) (by rw [h.regions']; exact hR64) (by rw [h.first']; decide) h.cont hcne (by have := h.regs; omega) (by omega) T.next (T.num + 1) rfl rfl).mono ?_
        rintro e w' ⟨va, vn, vc, v5', F', hvn, hrow, hD', hK', hF', h5', rfl, hend⟩
        have hbase : T.first + 4 * T.next = 4 * T.next := by rw [h.first', Nat.zero_add]
        rw [hbase] at hD' hend ⊢
        refine ⟨⟨_, rfl⟩, ?_⟩
        rcases h.seal hR1 hR64 hk hopn v6 with ⟨e0, hA⟩ | ⟨e0, hDe⟩
        · rcases hend with ⟨h0, _⟩ | ⟨_, v6', v7', hL', h6', h7'⟩
          · exact absurd e0 h0
          have hs := G.bel.size
          have hfoot : ∀ q ∈ F ++ l :: m :: own v5, w0.heap.size ≤ q := fun q hq => by
            simp only [List.mem_append, List.mem_cons] at hq
            rcases hq with h1 | h1 | h1 | h1
            · exact G.lowF q h1
            · exact G.lowL q (by simp [lfoot, h1])
            · exact G.lowL q (by simp [lfoot, h1])
            · exact G.lowL q (by simp [lfoot, h1])
          have G' : LG w0 w' d F' (wrR (4 * T.next) (T.num + 1) 4 S T.cont).2 l m v5' v6' v7' ((T.cut v6).put ⟨W.heap.size, 0, x⟩) := by
            refine ⟨hL', hD', G.bel.trans (hK'.below hfoot hs), fun q hq => ?_, fun q hq => ?_⟩
            · rcases hF' q hq with h1 | h1
              · exact G.lowF q h1
              · omega
            · simp only [lfoot, List.mem_cons, List.mem_append] at hq
              rcases hq with h1 | h1 | h1 | h1 | h1
              · exact G.lowL q (by simp [lfoot, h1])
              · exact G.lowL q (by simp [lfoot, h1])
              · rcases h5' q h1 with h2 | h2
                · exact G.lowL q (by simp [lfoot, h2])
                · omega
              · have := h6' q h1; omega
              · have := h7' q h1; omega
          refine ⟨v5', v6', v7', F', _, _, G', .inl ?_⟩
          have hn2 : ∀ u ∈ (T.cut v6).all, u.pos ≠ (⟨W.heap.size, 0, x⟩ : Th).pos := fun u hu => hnew u (by
            unfold Lg.cut at hu
            rw [sealed_all] at hu
            exact (lose_sub T _).subset hu)
          have hA0 : Al R k L base (wrR (4 * T.next) (T.num + 1) 4 S T.cont).2 (T.cut v6) → True := fun _ => trivial
          have hput := hA.put ⟨W.heap.size, 0, x⟩ ⟨hf, hg⟩ hxL (by show 0 + x.size ≤ 1472; omega) hn2
          refine ⟨hput.off, hput.losses, hput.first', hput.regions', hput.wk, ?_, ?_, ?_, ?_, hput.cont, hput.oks, hput.pos, hput.opnL, hput.has⟩
          · show T.num + 1 ≤ 100 + (k + 1); have := h.num; omega
          · show (T.lose T.next).cap + 1 ≤ 200 + (k + 1); rw [(lose_same T T.next).2.2.2.2.2.1]; omega
          · show ((T.lose T.next).regs ++ [_]).length ≤ 4 + (k + 1)
            rw [List.length_append, List.length_singleton]
            have := h.regs; have := (lose_same T T.next).2.2.2.2.2.2; omega
          · rw [put_all, List.length_append]
            have e1 : (T.cut v6).all = (T.lose T.next).all := by unfold Lg.cut; rw [sealed_all]
            rw [e1]
            have := (lose_sub T T.next).length_le
            simp; omega
        · rcases hend with ⟨_, hL'⟩ | ⟨h0, _⟩
          · exact ⟨v5', v6, v7, F', _, _, G.seal hL' hD' hK' hF' h5' (fun q hq => hq) (fun q hq => hq), .inr hDe⟩
          · exact absurd h0 e0
      · refine (put_done G.lg G.dev x hf hg (by omega) h.cont h.opn h.loss).mono ?_
        rintro e w' ⟨rfl, b⟩
        exact ⟨⟨_, rfl⟩, (P0.below b).mono⟩
def SlPost (w0 : World) (d l m R k : Nat) (L : List It) (base : List Tr) (er : Int) (W' : World) : Prop :=
  ∃ v5 v6 v7 F S T, LG w0 W' d F S l m v5 v6 v7 T ∧ ((er = 0 ∧ Al R k L base S T ∧ T.opn = []) ∨ (er ≠ 0 ∧ De R k L base S T))
theorem seal_pw (G : LG w0 W d F S l m v5 v6 v7 T) (hS : Al R k L base S T ∨ De R k L base S T) (hR1 : 1 ≤ R) (hR64 : R ≤ 64) (hk : k < 50) :
    Calls Try.prog 12 #[.pointer (some ⟨l, 0, none⟩)] W fun e W' => ∃ va vn vc er, e = .returned (.tuple #[.slice va vn vc, .int .i64 er]) ∧ SlPost w0 d l m R (k + 1) L base er W' := by
  rcases hS with h | h
  · by_cases ho : T.opn = []
    · refine (seal_idle G.lg ho).mono ?_
      rintro e w' ⟨rfl, rfl⟩
      exact ⟨none, 0, 0, 0, rfl, v5, v6, v7, F, S, T, G, .inl ⟨rfl, h.mono, ho⟩⟩
    · have hall := h.all
      refine (seal_log G.lg G.dev ho h.losses (by have := h.num; omega) (by rw [h.regions']; exact hR1) (by rw [h.regions']; exact hR64) (by rw [h.first']; decide) h.cont (cont_ne h.oks ho) (by have := h.regs; omega) T.next (T.num + 1) rfl rfl (lose_any G.lg _ (by have := h.regs; omega) (by omega))).mono ?_
      rintro e w' ⟨va, vn, vc, v5', F', hvn, hrow, hD', hK', hF', h5', rfl, hend⟩
      have hbase : T.first + 4 * T.next = 4 * T.next := by rw [h.first', Nat.zero_add]
      rw [hbase] at hD' hend ⊢
      rcases h.seal hR1 hR64 hk ho v6 with ⟨e0, hA⟩ | ⟨e0, hDe⟩
      · rcases hend with ⟨h0, _⟩ | ⟨_, hL'⟩
        · exact absurd e0 h0
        have G' := G.seal hL' hD' hK' hF' h5' (fun q hq => by simp [own, Value.ownBlock] at hq) (fun q hq => by simp [own, Value.ownBlock] at hq)
        exact ⟨va, vn, vc, _, rfl, v5', _, _, F', _, _, G', .inl ⟨e0, hA, rfl⟩⟩
      · rcases hend with ⟨_, hL'⟩ | ⟨h0, _⟩
        · exact ⟨va, vn, vc, _, rfl, v5', v6, v7, F', _, _, G.seal hL' hD' hK' hF' h5' (fun q hq => hq) (fun q hq => hq), .inr ⟨e0, hDe⟩⟩
        · exact absurd h0 e0
  · refine (seal_done G.lg G.dev h.opn h.loss).mono ?_
    rintro e w' ⟨rfl, b⟩
    exact ⟨none, 0, 0, 4, rfl, v5, v6, v7, F, S, T, G.below b, .inr ⟨by decide, h.mono⟩⟩
end
end Go.Proofs.Ytbjkahdlejaheaa

/- Regions by rising numbers: slices.SortStableFunc of a few. -/
set_option linter.unusedVariables false
set_option linter.unusedSimpArgs false
set_option maxRecDepth 8000
namespace Go.Proofs.Ytbjkahdlejaheaa
open Go.RowKit Go.Deep Math

def cmpR (x y : Rg) : Int := if x.num < y.num then -1 else if y.num < x.num then 1 else 0
theorem cmpR_lt (x y : Rg) : (cmpR x y < 0) ↔ x.num < y.num := by
  unfold cmpR
  split
  · rename_i h; simp [h]
  · rename_i h
    split <;> simp [h]
theorem nan43 (a : Nat) (w : World) : Calls Try.prog 43 #[.int .u64 (a : Int)] w fun e w' => e = .returned (.bool false) ∧ w' = w := by
  go_enter Try.func43, Try.ntmps43
  go_wp2
  go_ret
  exact ⟨rfl, rfl⟩
set_option maxHeartbeats 400000 in
theorem cmp31 (a b : Nat) (w : World) : Calls Try.prog 31 #[.int .u64 (a : Int), .int .u64 (b : Int)] w fun e w' => e = .returned (.int .i64 (if a < b then -1 else if b < a then 1 else 0)) ∧ w' = w := by
  have c1 := hide (nan43 a w)
  have c2 := hide (nan43 b w)
  rcases Nat.lt_trichotomy a b with h | h | h
  · have q1 : ((a : Int) < (b : Int)) = True := eq_true (by omega)
    rw [if_pos h]
    clear h
    go_enter Try.func31, Try.ntmps31
    go_wp2_with fail
    refine c1.out.mono ?_
    rintro e w1 ⟨rfl, h1⟩
    obtain rfl := h1.symm
    go_wp2_with fail
    refine c2.out.mono ?_
    rintro e w2 ⟨rfl, h2⟩
    obtain rfl := h2.symm
    clear c1 c2
    go_wp2
    go_ret
    exact ⟨rfl, rfl⟩
  · have q1 : ((a : Int) < (b : Int)) = False := eq_false (by omega)
    have q2 : ((b : Int) < (a : Int)) = False := eq_false (by omega)
    rw [if_neg (by omega), if_neg (by omega)]
    clear h
    go_enter Try.func31, Try.ntmps31
    go_wp2_with fail
    refine c1.out.mono ?_
    rintro e w1 ⟨rfl, h1⟩
    obtain rfl := h1.symm
    go_wp2_with fail
    refine c2.out.mono ?_
    rintro e w2 ⟨rfl, h2⟩
    obtain rfl := h2.symm
    clear c1 c2
    go_wp2
    go_ret
    exact ⟨rfl, rfl⟩
  · have q1 : ((a : Int) < (b : Int)) = False := eq_false (by omega)
    have q2 : ((b : Int) < (a : Int)) = True := eq_true (by omega)
    rw [if_neg (by omega), if_pos h]
    clear h
    go_enter Try.func31, Try.ntmps31
    go_wp2_with fail
    refine c1.out.mono ?_
    rintro e w1 ⟨rfl, h1⟩
    obtain rfl := h1.symm
    go_wp2_with fail
    refine c2.out.mono ?_
    rintro e w2 ⟨rfl, h2⟩
    obtain rfl := h2.symm
    clear c1 c2
    go_wp2
    go_ret
    exact ⟨rfl, rfl⟩
set_option maxHeartbeats 400000 in
theorem cmp30 (x y : Rg) (w : World) : Calls Try.prog 30 #[.agg #[.int .i64 (x.place : Int), .int .u64 (x.num : Int), x.v], .agg #[.int .i64 (y.place : Int), .int .u64 (y.num : Int), y.v]] w fun e w' => e = .returned (.int .i64 (cmpR x y)) ∧ Below w.heap.size w w' := by
  obtain ⟨kc, hkc⟩ : ∃ kc, kc = cmpR x y := ⟨_, rfl⟩
  have c1 : Hid (∀ W, Calls Try.prog 31 #[.int .u64 (x.num : Int), .int .u64 (y.num : Int)] W fun e w' => e = .returned (.int .i64 kc) ∧ w' = W) := fun W => by
    rw [hkc]; exact cmp31 x.num y.num W
  rw [← hkc]
  clear hkc
  have B0 := hide (((Below.refl w.heap.size w).alloc (Nat.le_refl _) (.cells #[.int .i64 (x.place : Int), .int .u64 (x.num : Int), x.v] 68)).alloc (by rw [nblk_alloc]; omega) (.cells #[.int .i64 (y.place : Int), .int .u64 (y.num : Int), y.v] 68))
  obtain ⟨xv, hxv⟩ : ∃ xv, xv = x.v := ⟨_, rfl⟩
  obtain ⟨yv, hyv⟩ : ∃ yv, yv = y.v := ⟨_, rfl⟩
  rw [← hxv, ← hyv] at B0 ⊢
  clear hxv hyv
  go_enter Try.func30, Try.ntmps30
  go_wp2_with fail
  refine (c1.out _).mono ?_
  rintro e w1 ⟨rfl, h1⟩
  obtain rfl := h1.symm
  clear c1 h1
  go_wp2
  go_ret
  exact ⟨rfl, B0.out⟩
theorem enter30 (args : Array Value) (w : World) : (callFunc 30 args).run Try.prog w = .ok (.enter 30 args) w := enters_of Try.func30 (by kernel_rfl) rfl args w
/-- A region on its way down. -/
theorem insS_mid (x : Rg) : ∀ (A B : List Rg), (∀ a ∈ A, a.num ≤ x.num) → (∀ b ∈ B, x.num < b.num) → insS x (A ++ B) = A ++ x :: B
  | [], [], _, _ => rfl
  | [], b :: B, _, h => by show (if x.num < b.num then _ else _) = _; rw [if_pos (h b (by simp))]; rfl
  | a :: A, B, h1, h2 => by
    show (if x.num < a.num then _ else a :: insS x (A ++ B)) = _
    rw [if_neg (by have := h1 a (by simp); omega), insS_mid x A B (fun y hy => h1 y (by simp [hy])) h2]
    rfl
theorem insS_srt (x : Rg) : ∀ l : List Rg, l.Pairwise (fun a b => a.num ≤ b.num) → (insS x l).Pairwise (fun a b => a.num ≤ b.num)
  | [], _ => by simp [insS]
  | y :: ys, h => by
    rw [List.pairwise_cons] at h
    unfold insS
    split
    · rename_i hlt
      rw [List.pairwise_cons, List.pairwise_cons]
      refine ⟨fun b hb => ?_, h⟩
      rcases List.mem_cons.1 hb with rfl | h1
      · omega
      · have := h.1 b h1; omega
    · rename_i hlt
      rw [List.pairwise_cons]
      refine ⟨fun b hb => ?_, insS_srt x ys h.2⟩
      rcases List.mem_cons.1 ((insS_perm x ys).mem_iff.1 hb) with rfl | h1
      · omega
      · exact h.1 b h1
theorem isort_snoc (l : List Rg) (x : Rg) : isort (l ++ [x]) = insS x (isort l) := by simp [isort]
theorem isort_srt (l : List Rg) : (isort l).Pairwise (fun a b => a.num ≤ b.num) := by
  have : ∀ (l acc : List Rg), acc.Pairwise (fun a b => a.num ≤ b.num) → (l.foldl (fun acc x => insS x acc) acc).Pairwise (fun a b => a.num ≤ b.num) := by
    intro l
    induction l with
    | nil => intro acc h; exact h
    | cons x r ih => intro acc h; exact ih _ (insS_srt x acc h)
  exact this l [] List.Pairwise.nil
theorem isort_len (l : List Rg) : (isort l).length = l.length := (isort_perm l).length_eq
theorem row_cells {w : World} {g : Nat} {A B : List Rg} {x : Rg} {pad : List Value} (h : Blk w g (rgRow (A ++ x :: B) ++ pad) 68) (j : Nat) (hj : A.length = j) : w.cell? ⟨g, j * 3, none⟩ = some (.int .i64 (x.place : Int)) ∧ w.cell? ⟨g, j * 3 + 1, none⟩ = some (.int .u64 (x.num : Int)) ∧ w.cell? ⟨g, j * 3 + 2, none⟩ = some x.v := by
  have e : ∀ i, i < 3 → (rgRow (A ++ x :: B) ++ pad)[j * 3 + i]? = (rgCells x)[i]? := fun i hi => by
    rw [← hj]; exact flat_getP rgCells 3 (fun _ => rfl) A x B pad i hi
  exact ⟨h.cell (by rw [show j * 3 = j * 3 + 0 by rfl, e 0 (by omega)]; rfl), h.cell (by rw [e 1 (by omega)]; rfl), h.cell (by rw [e 2 (by omega)]; rfl)⟩
theorem cell_aft {W : World} {g i j : Nat} {v x : Value} (h : W.cell? ⟨g, j, none⟩ = some x) (hne : i ≠ j) : (W.setCell ⟨g, i, none⟩ v).cell? ⟨g, j, none⟩ = some x := by
  unfold World.cell? at h ⊢
  simp only [World.setCell, Array.getElem?_modify] at h ⊢
  cases hq : W.heap[g]? with
  | none => rw [hq] at h; cases h
  | some o =>
    rw [hq] at h
    cases o <;> simp_all
theorem store_facts {W : World} {g o : Nat} {a b c u v : Value} (h1 : W.cell? ⟨g, o + 1, none⟩ = some b) (h2 : W.cell? ⟨g, o + 2, none⟩ = some c) (f : ∀ i, W.frozen? ⟨g, i, none⟩ = false) :
    (W.setCell ⟨g, o, none⟩ u).cell? ⟨g, o + 1, none⟩ = some b ∧ ((W.setCell ⟨g, o, none⟩ u).setCell ⟨g, o + 1, none⟩ v).cell? ⟨g, o + 2, none⟩ = some c ∧ W.frozen? ⟨g, o, none⟩ = false ∧ (W.setCell ⟨g, o, none⟩ u).frozen? ⟨g, o + 1, none⟩ = false ∧ ((W.setCell ⟨g, o, none⟩ u).setCell ⟨g, o + 1, none⟩ v).frozen? ⟨g, o + 2, none⟩ = false :=
  ⟨cell_aft h1 (by omega), cell_aft (cell_aft h2 (by omega)) (by omega), f o, (World.frozen?_setCell _ _ _ _).trans (f _), (World.frozen?_setCell _ _ _ _).trans ((World.frozen?_setCell _ _ _ _).trans (f _))⟩
/-- A region is laid over another. -/
theorem row_set {w : World} {g : Nat} {A B : List Rg} {x y : Rg} {pad : List Value} (h : Blk w g (rgRow (A ++ x :: B) ++ pad) 68) (j : Nat) (hj : A.length = j) :
    Blk (((w.setCell ⟨g, j * 3, none⟩ (.int .i64 (y.place : Int))).setCell ⟨g, j * 3 + 1, none⟩ (.int .u64 (y.num : Int))).setCell ⟨g, j * 3 + 2, none⟩ y.v) g (rgRow (A ++ y :: B) ++ pad) 68 := by
  have e : ∀ z : Rg, rgRow (A ++ z :: B) ++ pad = rgRow A ++ rgCells z ++ (rgRow B ++ pad) := fun z => by
    rw [rgRow_append, show rgRow (z :: B) = rgCells z ++ rgRow B from by simp [rgRow]]
    simp
  rw [e x] at h
  rw [e y]
  have := Blk.sets (rgCells y) (rgRow A) (rgCells x) (rgRow B ++ pad) w rfl h
  rw [rgRow_length, hj] at this
  exact this

set_option maxHeartbeats 8000000 in
theorem ins_any (g n c : Nat) (rs : List Rg) (pad : List Value) (w : World) (hsl : ∀ r ∈ rs, ∃ a n c, r.v = .slice a n c) (h : Blk w g (rgRow rs ++ pad) 68) (hn : n = rs.length) (hn64 : n ≤ 64) (hnc : n ≤ c) :
    Calls Try.prog 57 #[.slice (some ⟨g, 0, none⟩) n c, .int .i64 0, .int .i64 n, .func (.func 30) #[] #[]] w fun e w' => e = .returned (.tuple #[]) ∧ Blk w' g (rgRow (isort rs) ++ pad) 68 ∧ Keep [g] w w' := by
  have HN := hide hn
  have HSL := hide hsl
  clear hsl
  have cC : Hid (∀ (x y : Rg) (W : World), Calls Try.prog 30 #[.agg #[.int .i64 (x.place : Int), .int .u64 (x.num : Int), x.v], .agg #[.int .i64 (y.place : Int), .int .u64 (y.num : Int), y.v]] W fun e w' => e = .returned (.int .i64 (cmpR x y)) ∧ Below W.heap.size W w') := cmp30
  have h0 : Hid (0 < n → Blk w g (rgRow (isort (rs.take 1) ++ rs.drop 1) ++ pad) 68) := fun hp => by
    have : isort (rs.take 1) = rs.take 1 := isort_one _ (by simp; omega)
    rw [this, List.take_append_drop]; exact h
  have hz : Hid (n = 0 → Blk w g (rgRow (isort rs) ++ pad) 68) := fun h0 => by
    have : rs = [] := List.eq_nil_of_length_eq_zero (by rw [← hn]; exact h0)
    rw [this] at h ⊢; exact h
  clear h hn
  go_enter Try.func57, Try.ntmps57
  go_wp2_with fail
  go_loopg [8] n (fun kx s8 wr => ∃ (i : Nat), s8 = .int .i64 i ∧ 1 ≤ i ∧ (i ≤ n ∨ i = 1) ∧ n - i ≤ kx ∧ Hid ((0 < n → Blk wr g (rgRow (isort (rs.take i) ++ rs.drop i) ++ pad) 68) ∧ Keep [g] w wr ∧ (n = 0 → wr = w)))
  case atStart => exact ⟨1, rfl, Nat.le_refl _, .inr rfl, by omega, h0.out, Keep.refl _ _, fun _ => rfl⟩
  case round =>
    obtain ⟨i, rfl, hi1, hin, hg, I⟩ := hrel
    by_cases hlt : i < n
    · have hlt2 : (i : Int) < (n : Int) := by omega
      obtain ⟨x, hx⟩ : ∃ x, rs[i]? = some x := ⟨_, List.getElem?_eq_getElem (by rw [← HN.out]; exact hlt)⟩
      have HT : Hid (rs.take (i + 1) = rs.take i ++ [x] ∧ rs.drop i = x :: rs.drop (i + 1)) := by
        obtain ⟨hl, he⟩ := List.getElem?_eq_some_iff.1 hx
        exact ⟨by rw [List.take_add_one, hx]; rfl, by rw [← he]; exact List.drop_eq_getElem_cons hl⟩
      obtain ⟨P0, hP0⟩ : ∃ P0, P0 = isort (rs.take i) := ⟨_, rfl⟩
      have hlen : P0.length = i := by rw [hP0, isort_len, List.length_take, ← HN.out]; omega
      have hsrt : P0.Pairwise (fun a b => a.num ≤ b.num) := by rw [hP0]; exact isort_srt _
      have hblk : Blk wr g (rgRow (P0 ++ x :: ([] ++ rs.drop (i + 1))) ++ pad) 68 := by
        have := I.out.1 (by omega)
        rw [HT.out.2, ← hP0] at this; exact this
      have J0 : Hid (∃ A B, P0 = A ++ B ∧ A.length = i ∧ (∀ b ∈ B, x.num < b.num) ∧ Blk wr g (rgRow (A ++ x :: (B ++ rs.drop (i + 1))) ++ pad) 68 ∧ Keep [g] w wr) := ⟨P0, [], by simp, hlen, fun b hb => (by cases hb), hblk, I.out.2.1⟩
      have HS := hide hsrt
      have HP0 := hide hP0
      have HXM : Hid (x ∈ rs) := List.mem_of_getElem? hx
      clear hx hlen hsrt hblk hP0 I h0 hz
      go_wp2_with fail
      go_loopg [9] i (fun ky s9 ws => ∃ (j : Nat), s9 = .int .i64 j ∧ j ≤ i ∧ j ≤ ky ∧ Hid (∃ A B, P0 = A ++ B ∧ A.length = j ∧ (∀ b ∈ B, x.num < b.num) ∧ Blk ws g (rgRow (A ++ x :: (B ++ rs.drop (i + 1))) ++ pad) 68 ∧ Keep [g] w ws))
      case atStart => exact ⟨i, rfl, Nat.le_refl _, Nat.le_refl _, J0.out⟩
      case round =>
        obtain ⟨jj, rfl, hji, hgy, J⟩ := hrel
        obtain ⟨A, B, hAB, hAl, hB, hb, hk⟩ := J.out
        clear J J0
        by_cases hj0 : jj = 0
        · subst hj0
          have hA : A = [] := List.eq_nil_of_length_eq_zero hAl
          have E1 : Hid (isort (rs.take (i + 1)) = x :: B) := by
            show _ = _
            rw [HT.out.1, isort_snoc, ← HP0.out, hAB, hA]
            exact insS_mid x [] B (fun a ha => by cases ha) hB
          have KB := hide hk
          have BB : Hid (Blk wr g (rgRow (isort (rs.take (i + 1)) ++ rs.drop (i + 1)) ++ pad) 68) := by
            rw [hA] at hb
            show Blk _ _ _ _
            rw [E1.out]; exact hb
          clear hA hAB hAl hB hb hk hji hgy
          go_wp2_with fail
          refine wp_region_guard (by kernel_rfl) (by kernel_rfl) (fun jx => ([.int .i64 0, .int .i64 0, .bool false, .bool false, undef, undef, undef, undef, undef, undef, undef, undef, undef, undef, undef, undef, .bool false] : List Value).getD jx undef) (fun W => Below wr.heap.size wr W) (size_of (n := 53) (by kernel_rfl) rfl) ((Below.refl _ _).drew) ?_ ?_
          · intro jx ox hi w' ev hc hin hout hcst hfn
            have hltx : jx < 17 := by
              have := (Array.getElem?_eq_some_iff.1 hi).1
              simpa using this
            match jx, hltx with
            | 0, _ =>
              simp only [List.getElem?_toArray, List.getElem?_cons_zero, List.getElem?_cons_succ, Option.some.injEq] at hi
              subst hi
              rw [if_pos (by first | rfl | simp [wantV])]
              have e0 : ev (.tmp 9) = .int .i64 0 := hout 9 (by kernel_rfl) (show (9 : Nat) < 53 by decide)
              refine .inl ⟨w', ?_, hc⟩
              show _ = Result.ok (Next.value (.int .i64 0)) w'
              simp [execOp, e0, hcst, go_sem]
            | 1, _ =>
              simp only [List.getElem?_toArray, List.getElem?_cons_zero, List.getElem?_cons_succ, Option.some.injEq] at hi
              subst hi
              rw [if_pos (by first | rfl | simp [wantV])]
              have e0 : ev (.tmp 1) = .int .i64 0 := hout 1 (by kernel_rfl) (show (1 : Nat) < 53 by decide)
              refine .inl ⟨w', ?_, hc⟩
              show _ = Result.ok (Next.value (.int .i64 0)) w'
              simp [execOp, e0, hcst, go_sem]
            | 2, _ =>
              simp only [List.getElem?_toArray, List.getElem?_cons_zero, List.getElem?_cons_succ, Option.some.injEq] at hi
              subst hi
              rw [if_pos (by first | rfl | simp [wantV])]
              have e0 : ev (.tmp 18) = .int .i64 0 := hin 18 0 ⟨0, .data⟩ (by kernel_rfl) (by simp) rfl rfl (show (18 : Nat) < 53 by decide)
              have e1 : ev (.tmp 19) = .int .i64 0 := hin 19 1 ⟨1, .data⟩ (by kernel_rfl) (by simp) rfl rfl (show (19 : Nat) < 53 by decide)
              refine .inl ⟨w', ?_, hc⟩
              show _ = Result.ok (Next.value (.bool false)) w'
              simp [execOp, e0, e1, hcst, go_sem]
            | 3, _ =>
              simp only [List.getElem?_toArray, List.getElem?_cons_zero, List.getElem?_cons_succ, Option.some.injEq] at hi
              subst hi
              rw [if_pos (by first | rfl | simp [wantV])]
              have e0 : ev (.tmp 20) = .bool false := hin 20 2 ⟨2, .data⟩ (by kernel_rfl) (by simp) rfl rfl (show (20 : Nat) < 53 by decide)
              refine .inl ⟨w', ?_, hc⟩
              show _ = Result.ok (Next.value (.bool false)) w'
              simp [execOp, e0, hcst, go_sem]
            | 4, _ =>
              simp only [List.getElem?_toArray, List.getElem?_cons_zero, List.getElem?_cons_succ, Option.some.injEq] at hi
              subst hi
              rw [if_neg (by first | (simp [wantV]; done) | (simp [wantV]; rfl))]
              rfl
            | 5, _ =>
              simp only [List.getElem?_toArray, List.getElem?_cons_zero, List.getElem?_cons_succ, Option.some.injEq] at hi
              subst hi
              rw [if_neg (by first | (simp [wantV]; done) | (simp [wantV]; rfl))]
              rfl
            | 6, _ =>
              simp only [List.getElem?_toArray, List.getElem?_cons_zero, List.getElem?_cons_succ, Option.some.injEq] at hi
              subst hi
              rw [if_neg (by first | (simp [wantV]; done) | (simp [wantV]; rfl))]
              rfl
            | 7, _ =>
              simp only [List.getElem?_toArray, List.getElem?_cons_zero, List.getElem?_cons_succ, Option.some.injEq] at hi
              subst hi
              rw [if_neg (by first | (simp [wantV]; done) | (simp [wantV]; rfl))]
              rfl
            | 8, _ =>
              simp only [List.getElem?_toArray, List.getElem?_cons_zero, List.getElem?_cons_succ, Option.some.injEq] at hi
              subst hi
              rw [if_neg (by first | (simp [wantV]; done) | (simp [wantV]; rfl))]
              rfl
            | 9, _ =>
              simp only [List.getElem?_toArray, List.getElem?_cons_zero, List.getElem?_cons_succ, Option.some.injEq] at hi
              subst hi
              rw [if_neg (by first | (simp [wantV]; done) | (simp [wantV]; rfl))]
              rfl
            | 10, _ =>
              simp only [List.getElem?_toArray, List.getElem?_cons_zero, List.getElem?_cons_succ, Option.some.injEq] at hi
              subst hi
              rw [if_neg (by first | (simp [wantV]; done) | (simp [wantV]; rfl))]
              rfl
            | 11, _ =>
              simp only [List.getElem?_toArray, List.getElem?_cons_zero, List.getElem?_cons_succ, Option.some.injEq] at hi
              subst hi
              rw [if_neg (by first | (simp [wantV]; done) | (simp [wantV]; rfl))]
              rfl
            | 12, _ =>
              simp only [List.getElem?_toArray, List.getElem?_cons_zero, List.getElem?_cons_succ, Option.some.injEq] at hi
              subst hi
              rw [if_neg (by first | (simp [wantV]; done) | (simp [wantV]; rfl))]
              rfl
            | 13, _ =>
              simp only [List.getElem?_toArray, List.getElem?_cons_zero, List.getElem?_cons_succ, Option.some.injEq] at hi
              subst hi
              rw [if_neg (by first | (simp [wantV]; done) | (simp [wantV]; rfl))]
              rfl
            | 14, _ =>
              simp only [List.getElem?_toArray, List.getElem?_cons_zero, List.getElem?_cons_succ, Option.some.injEq] at hi
              subst hi
              rw [if_neg (by first | (simp [wantV]; done) | (simp [wantV]; rfl))]
              rfl
            | 15, _ =>
              simp only [List.getElem?_toArray, List.getElem?_cons_zero, List.getElem?_cons_succ, Option.some.injEq] at hi
              subst hi
              rw [if_neg (by first | (simp [wantV]; done) | (simp [wantV]; rfl))]
              rfl
            | 16, _ =>
              simp only [List.getElem?_toArray, List.getElem?_cons_zero, List.getElem?_cons_succ, Option.some.injEq] at hi
              subst hi
              rw [if_pos (by first | rfl | simp [wantV])]
              have e0 : ev (.tmp 21) = .bool false := hin 21 3 ⟨3, .data⟩ (by kernel_rfl) (by simp) rfl rfl (show (21 : Nat) < 53 by decide)
              have e1 : ev (.tmp 33) = undef := hin 33 15 ⟨15, .data⟩ (by kernel_rfl) (by simp) rfl rfl (show (33 : Nat) < 53 by decide)
              refine .inl ⟨w', ?_, hc⟩
              show _ = Result.ok (Next.value (.bool false)) w'
              simp [execOp, e0, e1, hcst, go_sem]
          · intro w7 hc
            simp only [lexF, Act.put, List.setIfInBounds_toArray, List.set_cons_succ, List.set_cons_zero, List.getD_cons_succ, List.getD_cons_zero]
            have KC := hide hc
            clear hc
            go_wp2
            go_roundg (n - (i + 1))
            case measure => omega
            case rel => exact ⟨i + 1, rfl, by omega, .inl (by omega), by omega, fun _ => BB.out.same (KC.out.block g BB.out.lt), KB.out.trans (Keep.of_below KC.out) (fun q hq => .inl hq), fun h0 => by omega⟩
        · obtain ⟨q, hq⟩ : ∃ q, jj = q + 1 := ⟨jj - 1, by omega⟩
          obtain ⟨A', y, rfl, hA'⟩ : ∃ A' y, A = A' ++ [y] ∧ A'.length = q := by
            have hne : A ≠ [] := fun h0 => by rw [h0] at hAl; simp at hAl; omega
            refine ⟨A.dropLast, A.getLast hne, (List.dropLast_concat_getLast hne).symm, by rw [List.length_dropLast]; omega⟩
          have hb2 : Blk wr g (rgRow (A' ++ y :: (x :: (B ++ rs.drop (i + 1)))) ++ pad) 68 := by
            have e : (A' ++ [y]) ++ x :: (B ++ rs.drop (i + 1)) = A' ++ y :: (x :: (B ++ rs.drop (i + 1))) := by simp
            rw [e] at hb; exact hb
          have hsub : IntKind.i64.wrap ((jj : Int) - 1) = (q : Int) := by rw [IntKind.wrap_i64]; omega
          have hj1 : (0 : Int) < (jj : Int) := by omega
          have hjn : 0 < jj := by omega
          have hj2 : (jj : Int) < (n : Int) := by omega
          have hq1 : (q : Int) < (n : Int) := by omega
          have BC : Hid (∀ W, Below wr.heap.size wr W → W.cell? ⟨g, jj * 3, none⟩ = some (.int .i64 (x.place : Int)) ∧ W.cell? ⟨g, jj * 3 + 1, none⟩ = some (.int .u64 (x.num : Int)) ∧ W.cell? ⟨g, jj * 3 + 2, none⟩ = some x.v) := fun W b => row_cells (hb.same (b.block g hb.lt)) jj hAl
          have BD : Hid (∀ W, Below wr.heap.size wr W → W.cell? ⟨g, q * 3, none⟩ = some (.int .i64 (y.place : Int)) ∧ W.cell? ⟨g, q * 3 + 1, none⟩ = some (.int .u64 (y.num : Int)) ∧ W.cell? ⟨g, q * 3 + 2, none⟩ = some y.v) := fun W b => row_cells (hb2.same (b.block g hb2.lt)) q hA'
          have HB := hide hb
          have HB2 := hide hb2
          have HK := hide hk
          have HBB := hide hB
          have HAB := hide hAB
          have HQ := hide hq
          have HAL := hide hAl
          have HAL' := hide hA'
          clear hb hb2 hk hB hAB hq hAl hA' hj0
          go_wp2_with fail
          refine wp_region_guard (by kernel_rfl) (by kernel_rfl) (fun jx => ([.int .i64 (jj : Int), .int .i64 0, .bool true, .bool true, .func (.func 30) #[] #[], .slice (some ⟨g, 0, none⟩) n c, .int .i64 (jj : Int), .pointer (some ⟨g, jj * 3, none⟩), .agg #[.int .i64 (x.place : Int), .int .u64 (x.num : Int), x.v], .slice (some ⟨g, 0, none⟩) n c, .int .i64 (jj : Int), .int .i64 (q : Int), .pointer (some ⟨g, q * 3, none⟩), .agg #[.int .i64 (y.place : Int), .int .u64 (y.num : Int), y.v], .int .i64 (cmpR x y), .bool (decide (x.num < y.num)), .bool (decide (x.num < y.num))] : List Value).getD jx undef) (fun W => Below wr.heap.size wr W) (size_of (n := 53) (by kernel_rfl) rfl) ((Below.refl _ _).drew) ?_ ?_
          · intro jx ox hi w' ev hc hin hout hcst hfn
            have hltx : jx < 17 := by
              have := (Array.getElem?_eq_some_iff.1 hi).1
              simpa using this
            match jx, hltx with
            | 0, _ =>
              simp only [List.getElem?_toArray, List.getElem?_cons_zero, List.getElem?_cons_succ, Option.some.injEq] at hi
              subst hi
              rw [if_pos (by first | rfl | simp [wantV])]
              have e0 : ev (.tmp 9) = .int .i64 (jj : Int) := hout 9 (by kernel_rfl) (show (9 : Nat) < 53 by decide)
              refine .inl ⟨w', ?_, hc⟩
              show _ = Result.ok (Next.value (.int .i64 (jj : Int))) w'
              simp [execOp, e0, hcst, go_sem]
            | 1, _ =>
              simp only [List.getElem?_toArray, List.getElem?_cons_zero, List.getElem?_cons_succ, Option.some.injEq] at hi
              subst hi
              rw [if_pos (by first | rfl | simp [wantV])]
              have e0 : ev (.tmp 1) = .int .i64 0 := hout 1 (by kernel_rfl) (show (1 : Nat) < 53 by decide)
              refine .inl ⟨w', ?_, hc⟩
              show _ = Result.ok (Next.value (.int .i64 0)) w'
              simp [execOp, e0, hcst, go_sem]
            | 2, _ =>
              simp only [List.getElem?_toArray, List.getElem?_cons_zero, List.getElem?_cons_succ, Option.some.injEq] at hi
              subst hi
              rw [if_pos (by first | rfl | simp [wantV])]
              have e0 : ev (.tmp 18) = .int .i64 (jj : Int) := hin 18 0 ⟨0, .data⟩ (by kernel_rfl) (by simp) rfl rfl (show (18 : Nat) < 53 by decide)
              have e1 : ev (.tmp 19) = .int .i64 0 := hin 19 1 ⟨1, .data⟩ (by kernel_rfl) (by simp) rfl rfl (show (19 : Nat) < 53 by decide)
              refine .inl ⟨w', ?_, hc⟩
              show _ = Result.ok (Next.value (.bool true)) w'
              simp [execOp, e0, e1, hcst, hjn, go_sem]
            | 3, _ =>
              simp only [List.getElem?_toArray, List.getElem?_cons_zero, List.getElem?_cons_succ, Option.some.injEq] at hi
              subst hi
              rw [if_pos (by first | rfl | simp [wantV])]
              have e0 : ev (.tmp 20) = .bool true := hin 20 2 ⟨2, .data⟩ (by kernel_rfl) (by simp) rfl rfl (show (20 : Nat) < 53 by decide)
              refine .inl ⟨w', ?_, hc⟩
              show _ = Result.ok (Next.value (.bool true)) w'
              simp [execOp, e0, hcst, go_sem]
            | 4, _ =>
              simp only [List.getElem?_toArray, List.getElem?_cons_zero, List.getElem?_cons_succ, Option.some.injEq] at hi
              subst hi
              rw [if_pos (by first | rfl | simp [wantV])]
              have e0 : ev (.tmp 3) = .func (.func 30) #[] #[] := hout 3 (by kernel_rfl) (show (3 : Nat) < 53 by decide)
              refine .inl ⟨w', ?_, hc⟩
              show _ = Result.ok (Next.value (.func (.func 30) #[] #[])) w'
              simp [execOp, e0, hcst, go_sem]
            | 5, _ =>
              simp only [List.getElem?_toArray, List.getElem?_cons_zero, List.getElem?_cons_succ, Option.some.injEq] at hi
              subst hi
              rw [if_pos (by first | rfl | simp [wantV])]
              have e0 : ev (.tmp 0) = .slice (some ⟨g, 0, none⟩) n c := hout 0 (by kernel_rfl) (show (0 : Nat) < 53 by decide)
              refine .inl ⟨w', ?_, hc⟩
              show _ = Result.ok (Next.value (.slice (some ⟨g, 0, none⟩) n c)) w'
              simp [execOp, e0, hcst, go_sem]
            | 6, _ =>
              simp only [List.getElem?_toArray, List.getElem?_cons_zero, List.getElem?_cons_succ, Option.some.injEq] at hi
              subst hi
              rw [if_pos (by first | rfl | simp [wantV])]
              have e0 : ev (.tmp 9) = .int .i64 (jj : Int) := hout 9 (by kernel_rfl) (show (9 : Nat) < 53 by decide)
              refine .inl ⟨w', ?_, hc⟩
              show _ = Result.ok (Next.value (.int .i64 (jj : Int))) w'
              simp [execOp, e0, hcst, go_sem]
            | 7, _ =>
              simp only [List.getElem?_toArray, List.getElem?_cons_zero, List.getElem?_cons_succ, Option.some.injEq] at hi
              subst hi
              rw [if_pos (by first | rfl | simp [wantV])]
              have e0 : ev (.tmp 23) = .slice (some ⟨g, 0, none⟩) n c := hin 23 5 ⟨5, .data⟩ (by kernel_rfl) (by simp) rfl rfl (show (23 : Nat) < 53 by decide)
              have e1 : ev (.tmp 24) = .int .i64 (jj : Int) := hin 24 6 ⟨6, .data⟩ (by kernel_rfl) (by simp) rfl rfl (show (24 : Nat) < 53 by decide)
              refine .inl ⟨w', ?_, hc⟩
              show _ = Result.ok (Next.value (.pointer (some ⟨g, jj * 3, none⟩))) w'
              simp [execOp, e0, e1, hcst, hj1, hj2, go_sem]
            | 8, _ =>
              simp only [List.getElem?_toArray, List.getElem?_cons_zero, List.getElem?_cons_succ, Option.some.injEq] at hi
              subst hi
              rw [if_pos (by first | rfl | simp [wantV])]
              have e0 : ev (.tmp 25) = .pointer (some ⟨g, jj * 3, none⟩) := hin 25 7 ⟨7, .data⟩ (by kernel_rfl) (by simp) rfl rfl (show (25 : Nat) < 53 by decide)
              refine .inl ⟨w', ?_, hc⟩
              show _ = Result.ok (Next.value (.agg #[.int .i64 (x.place : Int), .int .u64 (x.num : Int), x.v])) w'
              have q0 := (BC.out w' hc).1
              have q1 := (BC.out w' hc).2.1
              have q2 := (BC.out w' hc).2.2
              simp [execOp, e0, hcst, q0, q1, q2, go_sem]
            | 9, _ =>
              simp only [List.getElem?_toArray, List.getElem?_cons_zero, List.getElem?_cons_succ, Option.some.injEq] at hi
              subst hi
              rw [if_pos (by first | rfl | simp [wantV])]
              have e0 : ev (.tmp 0) = .slice (some ⟨g, 0, none⟩) n c := hout 0 (by kernel_rfl) (show (0 : Nat) < 53 by decide)
              refine .inl ⟨w', ?_, hc⟩
              show _ = Result.ok (Next.value (.slice (some ⟨g, 0, none⟩) n c)) w'
              simp [execOp, e0, hcst, go_sem]
            | 10, _ =>
              simp only [List.getElem?_toArray, List.getElem?_cons_zero, List.getElem?_cons_succ, Option.some.injEq] at hi
              subst hi
              rw [if_pos (by first | rfl | simp [wantV])]
              have e0 : ev (.tmp 9) = .int .i64 (jj : Int) := hout 9 (by kernel_rfl) (show (9 : Nat) < 53 by decide)
              refine .inl ⟨w', ?_, hc⟩
              show _ = Result.ok (Next.value (.int .i64 (jj : Int))) w'
              simp [execOp, e0, hcst, go_sem]
            | 11, _ =>
              simp only [List.getElem?_toArray, List.getElem?_cons_zero, List.getElem?_cons_succ, Option.some.injEq] at hi
              subst hi
              rw [if_pos (by first | rfl | simp [wantV])]
              have e0 : ev (.tmp 28) = .int .i64 (jj : Int) := hin 28 10 ⟨10, .data⟩ (by kernel_rfl) (by simp) rfl rfl (show (28 : Nat) < 53 by decide)
              refine .inl ⟨w', ?_, hc⟩
              show _ = Result.ok (Next.value (.int .i64 (q : Int))) w'
              simp [execOp, e0, hcst, hsub, go_sem]
            | 12, _ =>
              simp only [List.getElem?_toArray, List.getElem?_cons_zero, List.getElem?_cons_succ, Option.some.injEq] at hi
              subst hi
              rw [if_pos (by first | rfl | simp [wantV])]
              have e0 : ev (.tmp 27) = .slice (some ⟨g, 0, none⟩) n c := hin 27 9 ⟨9, .data⟩ (by kernel_rfl) (by simp) rfl rfl (show (27 : Nat) < 53 by decide)
              have e1 : ev (.tmp 29) = .int .i64 (q : Int) := hin 29 11 ⟨11, .data⟩ (by kernel_rfl) (by simp) rfl rfl (show (29 : Nat) < 53 by decide)
              refine .inl ⟨w', ?_, hc⟩
              show _ = Result.ok (Next.value (.pointer (some ⟨g, q * 3, none⟩))) w'
              simp [execOp, e0, e1, hcst, hq1, go_sem]
            | 13, _ =>
              simp only [List.getElem?_toArray, List.getElem?_cons_zero, List.getElem?_cons_succ, Option.some.injEq] at hi
              subst hi
              rw [if_pos (by first | rfl | simp [wantV])]
              have e0 : ev (.tmp 30) = .pointer (some ⟨g, q * 3, none⟩) := hin 30 12 ⟨12, .data⟩ (by kernel_rfl) (by simp) rfl rfl (show (30 : Nat) < 53 by decide)
              refine .inl ⟨w', ?_, hc⟩
              show _ = Result.ok (Next.value (.agg #[.int .i64 (y.place : Int), .int .u64 (y.num : Int), y.v])) w'
              have q0 := (BD.out w' hc).1
              have q1 := (BD.out w' hc).2.1
              have q2 := (BD.out w' hc).2.2
              simp [execOp, e0, hcst, q0, q1, q2, go_sem]
            | 14, _ =>
              simp only [List.getElem?_toArray, List.getElem?_cons_zero, List.getElem?_cons_succ, Option.some.injEq] at hi
              subst hi
              rw [if_pos (by first | rfl | simp [wantV])]
              have e0 : ev (.tmp 22) = .func (.func 30) #[] #[] := hin 22 4 ⟨4, .data⟩ (by kernel_rfl) (by simp) rfl rfl (show (22 : Nat) < 53 by decide)
              have e1 : ev (.tmp 26) = .agg #[.int .i64 (x.place : Int), .int .u64 (x.num : Int), x.v] := hin 26 8 ⟨8, .data⟩ (by kernel_rfl) (by simp) rfl rfl (show (26 : Nat) < 53 by decide)
              have e2 : ev (.tmp 31) = .agg #[.int .i64 (y.place : Int), .int .u64 (y.num : Int), y.v] := hin 31 13 ⟨13, .data⟩ (by kernel_rfl) (by simp) rfl rfl (show (31 : Nat) < 53 by decide)
              refine .inr (.inr ⟨30, #[.agg #[.int .i64 (x.place : Int), .int .u64 (x.num : Int), x.v], .agg #[.int .i64 (y.place : Int), .int .u64 (y.num : Int), y.v]], ?_, ?_⟩)
              · have ef := hfn 30
                simp [execOp, resolve, invoke, ef, hcst, e0, e1, e2, Result.andThen]
                exact enter30 _ _
              · refine (cC.out x y w').mono ?_
                rintro e W' ⟨rfl, b⟩
                exact ⟨rfl, hc.trans (b.mono hc.size)⟩
            | 15, _ =>
              simp only [List.getElem?_toArray, List.getElem?_cons_zero, List.getElem?_cons_succ, Option.some.injEq] at hi
              subst hi
              rw [if_pos (by first | rfl | simp [wantV])]
              have e0 : ev (.tmp 32) = .int .i64 (cmpR x y) := hin 32 14 ⟨14, .data⟩ (by kernel_rfl) (by simp) rfl rfl (show (32 : Nat) < 53 by decide)
              refine .inl ⟨w', ?_, hc⟩
              show _ = Result.ok (Next.value (.bool (decide (x.num < y.num)))) w'
              simp [execOp, e0, hcst, cmpR_lt, go_sem]
            | 16, _ =>
              simp only [List.getElem?_toArray, List.getElem?_cons_zero, List.getElem?_cons_succ, Option.some.injEq] at hi
              subst hi
              rw [if_pos (by first | rfl | simp [wantV])]
              have e0 : ev (.tmp 21) = .bool true := hin 21 3 ⟨3, .data⟩ (by kernel_rfl) (by simp) rfl rfl (show (21 : Nat) < 53 by decide)
              have e1 : ev (.tmp 33) = .bool (decide (x.num < y.num)) := hin 33 15 ⟨15, .data⟩ (by kernel_rfl) (by simp) rfl rfl (show (33 : Nat) < 53 by decide)
              refine .inl ⟨w', ?_, hc⟩
              show _ = Result.ok (Next.value (.bool (decide (x.num < y.num)))) w'
              simp [execOp, e0, e1, hcst, go_sem]
          · intro w7 hc
            simp only [lexF, Act.put, List.setIfInBounds_toArray, List.set_cons_succ, List.set_cons_zero, List.getD_cons_succ, List.getD_cons_zero]
            have HC := hide hc
            clear hc
            by_cases hxy : x.num < y.num
            · rw [decide_eq_true hxy]
              have HXY := hide hxy
              go_wp2_with fail
              obtain ⟨xa, xn, xc, hxv⟩ := HSL.out x HXM.out
              obtain ⟨ya, yn, yc, hyv⟩ := HSL.out y (List.mem_of_mem_take ((isort_perm _).mem_iff.1 (by rw [← HP0.out, HAB.out]; simp)))
              obtain ⟨V0, hV0⟩ : ∃ V0 : World, V0 = { w7 with drawn := w7.drawn + 1 } := ⟨_, rfl⟩
              obtain ⟨V1, hV1⟩ : ∃ V1 : World, V1 = ((V0.setCell ⟨g, jj * 3, none⟩ (.int .i64 (y.place : Int))).setCell ⟨g, jj * 3 + 1, none⟩ (.int .u64 (y.num : Int))).setCell ⟨g, jj * 3 + 2, none⟩ y.v := ⟨_, rfl⟩
              obtain ⟨V2, hV2⟩ : ∃ V2 : World, V2 = ((V1.setCell ⟨g, q * 3, none⟩ (.int .i64 (x.place : Int))).setCell ⟨g, q * 3 + 1, none⟩ (.int .u64 (x.num : Int))).setCell ⟨g, q * 3 + 2, none⟩ x.v := ⟨_, rfl⟩
              have hbx : Blk V0 g (rgRow ((A' ++ [y]) ++ x :: (B ++ rs.drop (i + 1))) ++ pad) 68 := by rw [hV0]; exact HB.out.same (HC.out.block g HB.out.lt)
              have hby : Blk V0 g (rgRow (A' ++ y :: (x :: (B ++ rs.drop (i + 1)))) ++ pad) 68 := by rw [hV0]; exact HB2.out.same (HC.out.block g HB2.out.lt)
              obtain ⟨dx0, dx1, dx2⟩ := row_cells hbx jj HAL.out
              obtain ⟨dy0, dy1, dy2⟩ := row_cells hby q HAL'.out
              have hb1 : Blk V1 g (rgRow (A' ++ y :: (y :: (B ++ rs.drop (i + 1)))) ++ pad) 68 := by
                have := row_set (y := y) hbx jj HAL.out
                rw [← hV1] at this
                have e : (A' ++ [y]) ++ y :: (B ++ rs.drop (i + 1)) = A' ++ y :: (y :: (B ++ rs.drop (i + 1))) := by simp
                rw [e] at this; exact this
              have hb2 : Blk V2 g (rgRow (A' ++ x :: ((y :: B) ++ rs.drop (i + 1))) ++ pad) 68 := by
                have := row_set (y := x) hb1 q HAL'.out
                rw [← hV2] at this; exact this
              obtain ⟨du0, du1, du2⟩ := row_cells hb1 q HAL'.out
              obtain ⟨sa1, sa2, za0, za1, za2⟩ := store_facts (a := .int .i64 0) (u := .int .i64 (y.place : Int)) (v := .int .u64 (y.num : Int)) dx1 dx2 (fun i => hbx.frozen i)
              obtain ⟨sb1, sb2, zb0, zb1, zb2⟩ := store_facts (a := .int .i64 0) (u := .int .i64 (x.place : Int)) (v := .int .u64 (x.num : Int)) du1 du2 (fun i => hb1.frozen i)
              have K2 : Hid (Blk V2 g (rgRow (A' ++ x :: ((y :: B) ++ rs.drop (i + 1))) ++ pad) 68 ∧ Keep [g] w V2) := by
                refine ⟨hb2, ?_⟩
                have k0 : Keep [g] w V0 := by rw [hV0]; exact (HK.out.trans (Keep.of_below HC.out) (fun q hq => .inl hq)).drew
                rw [hV2, hV1]
                exact (((((k0.setCell (.inl (by simp)) _).setCell (.inl (by simp)) _).setCell (.inl (by simp)) _).setCell (.inl (by simp)) _).setCell (.inl (by simp)) _).setCell (.inl (by simp)) _
              clear hbx hby hb1 hb2 du1 du2 BC BD
              refine wp_region_chain (by kernel_rfl) (by kernel_rfl) (fun jx => ([.slice (some ⟨g, 0, none⟩) n c, .int .i64 (jj : Int), .slice (some ⟨g, 0, none⟩) n c, .int .i64 (jj : Int), .int .i64 (q : Int), .slice (some ⟨g, 0, none⟩) n c, .int .i64 (jj : Int), .int .i64 (q : Int), .pointer (some ⟨g, q * 3, none⟩), .agg #[.int .i64 (y.place : Int), .int .u64 (y.num : Int), y.v], .slice (some ⟨g, 0, none⟩) n c, .int .i64 (jj : Int), .pointer (some ⟨g, jj * 3, none⟩), .agg #[.int .i64 (x.place : Int), .int .u64 (x.num : Int), x.v], .pointer (some ⟨g, jj * 3, none⟩), undef, .pointer (some ⟨g, q * 3, none⟩), undef] : List Value).getD jx undef) [15, 17] (by kernel_rfl) (fun s W => W = ([V0, V1, V2] : List World).getD s V0) (hV0.symm) ?_ ?_
              · intro jx ox hi sx w' ev hlm hks hc hin hout hcst hfn
                have hltx : jx < 18 := by
                  have := (Array.getElem?_eq_some_iff.1 hi).1
                  simpa using this
                match jx, hltx with
                | 0, _ =>
                  simp only [List.getElem?_toArray, List.getElem?_cons_zero, List.getElem?_cons_succ, Option.some.injEq] at hi
                  subst hi
                  have e0 : ev (.tmp 0) = .slice (some ⟨g, 0, none⟩) n c := hout 0 (by kernel_rfl) (show (0 : Nat) < 53 by decide)
                  rw [if_neg (by decide)]
                  refine .inl ⟨w', ?_, hc⟩
                  show _ = Result.ok (Next.value (.slice (some ⟨g, 0, none⟩) n c)) w'
                  simp [execOp, e0, hcst, go_sem]
                | 1, _ =>
                  simp only [List.getElem?_toArray, List.getElem?_cons_zero, List.getElem?_cons_succ, Option.some.injEq] at hi
                  subst hi
                  have e0 : ev (.tmp 9) = .int .i64 (jj : Int) := hout 9 (by kernel_rfl) (show (9 : Nat) < 53 by decide)
                  rw [if_neg (by decide)]
                  refine .inl ⟨w', ?_, hc⟩
                  show _ = Result.ok (Next.value (.int .i64 (jj : Int))) w'
                  simp [execOp, e0, hcst, go_sem]
                | 2, _ =>
                  simp only [List.getElem?_toArray, List.getElem?_cons_zero, List.getElem?_cons_succ, Option.some.injEq] at hi
                  subst hi
                  have e0 : ev (.tmp 0) = .slice (some ⟨g, 0, none⟩) n c := hout 0 (by kernel_rfl) (show (0 : Nat) < 53 by decide)
                  rw [if_neg (by decide)]
                  refine .inl ⟨w', ?_, hc⟩
                  show _ = Result.ok (Next.value (.slice (some ⟨g, 0, none⟩) n c)) w'
                  simp [execOp, e0, hcst, go_sem]
                | 3, _ =>
                  simp only [List.getElem?_toArray, List.getElem?_cons_zero, List.getElem?_cons_succ, Option.some.injEq] at hi
                  subst hi
                  have e0 : ev (.tmp 9) = .int .i64 (jj : Int) := hout 9 (by kernel_rfl) (show (9 : Nat) < 53 by decide)
                  rw [if_neg (by decide)]
                  refine .inl ⟨w', ?_, hc⟩
                  show _ = Result.ok (Next.value (.int .i64 (jj : Int))) w'
                  simp [execOp, e0, hcst, go_sem]
                | 4, _ =>
                  simp only [List.getElem?_toArray, List.getElem?_cons_zero, List.getElem?_cons_succ, Option.some.injEq] at hi
                  subst hi
                  have e0 : ev (.tmp 40) = .int .i64 (jj : Int) := hin 40 3 ⟨3, .data⟩ (by kernel_rfl) (by simp) rfl rfl (show (40 : Nat) < 53 by decide)
                  rw [if_neg (by decide)]
                  refine .inl ⟨w', ?_, hc⟩
                  show _ = Result.ok (Next.value (.int .i64 (q : Int))) w'
                  simp [execOp, e0, hcst, go_sem, hsub]
                | 5, _ =>
                  simp only [List.getElem?_toArray, List.getElem?_cons_zero, List.getElem?_cons_succ, Option.some.injEq] at hi
                  subst hi
                  have e0 : ev (.tmp 0) = .slice (some ⟨g, 0, none⟩) n c := hout 0 (by kernel_rfl) (show (0 : Nat) < 53 by decide)
                  rw [if_neg (by decide)]
                  refine .inl ⟨w', ?_, hc⟩
                  show _ = Result.ok (Next.value (.slice (some ⟨g, 0, none⟩) n c)) w'
                  simp [execOp, e0, hcst, go_sem]
                | 6, _ =>
                  simp only [List.getElem?_toArray, List.getElem?_cons_zero, List.getElem?_cons_succ, Option.some.injEq] at hi
                  subst hi
                  have e0 : ev (.tmp 9) = .int .i64 (jj : Int) := hout 9 (by kernel_rfl) (show (9 : Nat) < 53 by decide)
                  rw [if_neg (by decide)]
                  refine .inl ⟨w', ?_, hc⟩
                  show _ = Result.ok (Next.value (.int .i64 (jj : Int))) w'
                  simp [execOp, e0, hcst, go_sem]
                | 7, _ =>
                  simp only [List.getElem?_toArray, List.getElem?_cons_zero, List.getElem?_cons_succ, Option.some.injEq] at hi
                  subst hi
                  have e0 : ev (.tmp 43) = .int .i64 (jj : Int) := hin 43 6 ⟨6, .data⟩ (by kernel_rfl) (by simp) rfl rfl (show (43 : Nat) < 53 by decide)
                  rw [if_neg (by decide)]
                  refine .inl ⟨w', ?_, hc⟩
                  show _ = Result.ok (Next.value (.int .i64 (q : Int))) w'
                  simp [execOp, e0, hcst, go_sem, hsub]
                | 8, _ =>
                  simp only [List.getElem?_toArray, List.getElem?_cons_zero, List.getElem?_cons_succ, Option.some.injEq] at hi
                  subst hi
                  have e0 : ev (.tmp 42) = .slice (some ⟨g, 0, none⟩) n c := hin 42 5 ⟨5, .data⟩ (by kernel_rfl) (by simp) rfl rfl (show (42 : Nat) < 53 by decide)
                  have e1 : ev (.tmp 44) = .int .i64 (q : Int) := hin 44 7 ⟨7, .data⟩ (by kernel_rfl) (by simp) rfl rfl (show (44 : Nat) < 53 by decide)
                  rw [if_neg (by decide)]
                  refine .inl ⟨w', ?_, hc⟩
                  show _ = Result.ok (Next.value (.pointer (some ⟨g, q * 3, none⟩))) w'
                  simp [execOp, e0, e1, hcst, go_sem, hq1]
                | 9, _ =>
                  simp only [List.getElem?_toArray, List.getElem?_cons_zero, List.getElem?_cons_succ, Option.some.injEq] at hi
                  subst hi
                  have e0 : ev (.tmp 45) = .pointer (some ⟨g, q * 3, none⟩) := hin 45 8 ⟨8, .data⟩ (by kernel_rfl) (by simp) rfl rfl (show (45 : Nat) < 53 by decide)
                  rw [if_neg (by decide)]
                  refine .inl ⟨w', ?_, hc⟩
                  show _ = Result.ok (Next.value (.agg #[.int .i64 (y.place : Int), .int .u64 (y.num : Int), y.v])) w'
                  have hl2 : sx ≤ 0 := Nat.le_trans hlm (Nat.le_of_eq (by kernel_rfl))
                  obtain rfl : sx = 0 := by omega
                  have hc0 : w' = V0 := hc
                  subst hc0
                  simp [execOp, e0, hcst, dy0, dy1, dy2, go_sem]
                | 10, _ =>
                  simp only [List.getElem?_toArray, List.getElem?_cons_zero, List.getElem?_cons_succ, Option.some.injEq] at hi
                  subst hi
                  have e0 : ev (.tmp 0) = .slice (some ⟨g, 0, none⟩) n c := hout 0 (by kernel_rfl) (show (0 : Nat) < 53 by decide)
                  rw [if_neg (by decide)]
                  refine .inl ⟨w', ?_, hc⟩
                  show _ = Result.ok (Next.value (.slice (some ⟨g, 0, none⟩) n c)) w'
                  simp [execOp, e0, hcst, go_sem]
                | 11, _ =>
                  simp only [List.getElem?_toArray, List.getElem?_cons_zero, List.getElem?_cons_succ, Option.some.injEq] at hi
                  subst hi
                  have e0 : ev (.tmp 9) = .int .i64 (jj : Int) := hout 9 (by kernel_rfl) (show (9 : Nat) < 53 by decide)
                  rw [if_neg (by decide)]
                  refine .inl ⟨w', ?_, hc⟩
                  show _ = Result.ok (Next.value (.int .i64 (jj : Int))) w'
                  simp [execOp, e0, hcst, go_sem]
                | 12, _ =>
                  simp only [List.getElem?_toArray, List.getElem?_cons_zero, List.getElem?_cons_succ, Option.some.injEq] at hi
                  subst hi
                  have e0 : ev (.tmp 47) = .slice (some ⟨g, 0, none⟩) n c := hin 47 10 ⟨10, .data⟩ (by kernel_rfl) (by simp) rfl rfl (show (47 : Nat) < 53 by decide)
                  have e1 : ev (.tmp 48) = .int .i64 (jj : Int) := hin 48 11 ⟨11, .data⟩ (by kernel_rfl) (by simp) rfl rfl (show (48 : Nat) < 53 by decide)
                  rw [if_neg (by decide)]
                  refine .inl ⟨w', ?_, hc⟩
                  show _ = Result.ok (Next.value (.pointer (some ⟨g, jj * 3, none⟩))) w'
                  simp [execOp, e0, e1, hcst, go_sem, hj2]
                | 13, _ =>
                  simp only [List.getElem?_toArray, List.getElem?_cons_zero, List.getElem?_cons_succ, Option.some.injEq] at hi
                  subst hi
                  have e0 : ev (.tmp 49) = .pointer (some ⟨g, jj * 3, none⟩) := hin 49 12 ⟨12, .data⟩ (by kernel_rfl) (by simp) rfl rfl (show (49 : Nat) < 53 by decide)
                  rw [if_neg (by decide)]
                  refine .inl ⟨w', ?_, hc⟩
                  show _ = Result.ok (Next.value (.agg #[.int .i64 (x.place : Int), .int .u64 (x.num : Int), x.v])) w'
                  have hl2 : sx ≤ 0 := Nat.le_trans hlm (Nat.le_of_eq (by kernel_rfl))
                  obtain rfl : sx = 0 := by omega
                  have hc0 : w' = V0 := hc
                  subst hc0
                  simp [execOp, e0, hcst, dx0, dx1, dx2, go_sem]
                | 14, _ =>
                  simp only [List.getElem?_toArray, List.getElem?_cons_zero, List.getElem?_cons_succ, Option.some.injEq] at hi
                  subst hi
                  have e0 : ev (.tmp 37) = .slice (some ⟨g, 0, none⟩) n c := hin 37 0 ⟨0, .data⟩ (by kernel_rfl) (by simp) rfl rfl (show (37 : Nat) < 53 by decide)
                  have e1 : ev (.tmp 38) = .int .i64 (jj : Int) := hin 38 1 ⟨1, .data⟩ (by kernel_rfl) (by simp) rfl rfl (show (38 : Nat) < 53 by decide)
                  rw [if_neg (by decide)]
                  refine .inl ⟨w', ?_, hc⟩
                  show _ = Result.ok (Next.value (.pointer (some ⟨g, jj * 3, none⟩))) w'
                  simp [execOp, e0, e1, hcst, go_sem, hj2]
                | 15, _ =>
                  simp only [List.getElem?_toArray, List.getElem?_cons_zero, List.getElem?_cons_succ, Option.some.injEq] at hi
                  subst hi
                  have e0 : ev (.tmp 51) = .pointer (some ⟨g, jj * 3, none⟩) := hin 51 14 ⟨14, .data⟩ (by kernel_rfl) (by simp) rfl rfl (show (51 : Nat) < 53 by decide)
                  have e1 : ev (.tmp 46) = .agg #[.int .i64 (y.place : Int), .int .u64 (y.num : Int), y.v] := hin 46 9 ⟨9, .data⟩ (by kernel_rfl) (by simp) rfl rfl (show (46 : Nat) < 53 by decide)
                  rw [if_pos (by decide)]
                  have hsx : sx = 0 := hks 0 rfl
                  subst hsx
                  have hc0 : w' = V0 := hc
                  subst hc0
                  refine .inr (.inl ⟨rfl, V1, ?_, rfl⟩)
                  simp [execOp, e0, e1, hcst, dx0, sa1, sa2, hyv, za0, za1, za2, hyv, go_sem, hV1]
                | 16, _ =>
                  simp only [List.getElem?_toArray, List.getElem?_cons_zero, List.getElem?_cons_succ, Option.some.injEq] at hi
                  subst hi
                  have e0 : ev (.tmp 39) = .slice (some ⟨g, 0, none⟩) n c := hin 39 2 ⟨2, .data⟩ (by kernel_rfl) (by simp) rfl rfl (show (39 : Nat) < 53 by decide)
                  have e1 : ev (.tmp 41) = .int .i64 (q : Int) := hin 41 4 ⟨4, .data⟩ (by kernel_rfl) (by simp) rfl rfl (show (41 : Nat) < 53 by decide)
                  rw [if_neg (by decide)]
                  refine .inl ⟨w', ?_, hc⟩
                  show _ = Result.ok (Next.value (.pointer (some ⟨g, q * 3, none⟩))) w'
                  simp [execOp, e0, e1, hcst, go_sem, hq1]
                | 17, _ =>
                  simp only [List.getElem?_toArray, List.getElem?_cons_zero, List.getElem?_cons_succ, Option.some.injEq] at hi
                  subst hi
                  have e0 : ev (.tmp 52) = .pointer (some ⟨g, q * 3, none⟩) := hin 52 16 ⟨16, .data⟩ (by kernel_rfl) (by simp) rfl rfl (show (52 : Nat) < 53 by decide)
                  have e1 : ev (.tmp 50) = .agg #[.int .i64 (x.place : Int), .int .u64 (x.num : Int), x.v] := hin 50 13 ⟨13, .data⟩ (by kernel_rfl) (by simp) rfl rfl (show (50 : Nat) < 53 by decide)
                  rw [if_pos (by decide)]
                  have hsx : sx = 1 := hks 1 rfl
                  subst hsx
                  have hc0 : w' = V1 := hc
                  subst hc0
                  refine .inr (.inl ⟨rfl, V2, ?_, rfl⟩)
                  simp [execOp, e0, e1, hcst, du0, sb1, sb2, hxv, zb0, zb1, zb2, hxv, go_sem, hV2]
              · intro w9 hc
                simp only [lexF, Act.put, List.setIfInBounds_toArray, List.set_cons_succ, List.set_cons_zero, List.getD_cons_succ, List.getD_cons_zero]
                have hc9 : w9 = V2 := hc
                have K9 : Hid (Blk w9 g (rgRow (A' ++ x :: ((y :: B) ++ rs.drop (i + 1))) ++ pad) 68 ∧ Keep [g] w w9) := by rw [hc9]; exact K2.out
                clear hxv hyv hc hc9 K2 dx0 dx1 dx2 dy0 dy1 dy2 du0 sa1 sa2 za0 za1 za2 sb1 sb2 zb0 zb1 zb2 hV0 hV1 hV2
                go_wp2
                go_roundg q
                case measure => have := HQ.out; omega
                case rel => exact ⟨q, rfl, by have := HQ.out; omega, Nat.le_refl _, A', y :: B, by rw [HAB.out]; simp, HAL'.out, fun b hb => (by
                  rcases List.mem_cons.1 hb with rfl | h1
                  · exact HXY.out
                  · exact HBB.out b h1), K9.out.1, K9.out.2⟩
            · rw [decide_eq_false hxy]
              have E1 : Hid (isort (rs.take (i + 1)) = (A' ++ [y]) ++ x :: B) := by
                show _ = _
                rw [HT.out.1, isort_snoc, ← HP0.out, HAB.out]
                refine insS_mid x (A' ++ [y]) B (fun a ha => ?_) HBB.out
                have hs := HS.out
                rw [HAB.out, List.pairwise_append, List.pairwise_append] at hs
                rcases List.mem_append.1 ha with h1 | h1
                · have := hs.1.2.2 a h1 y (by simp); omega
                · simp only [List.mem_singleton] at h1; rw [h1]; omega
              have BB : Hid (Blk w7 g (rgRow (isort (rs.take (i + 1)) ++ rs.drop (i + 1)) ++ pad) 68) := by
                show Blk _ _ _ _
                have := HB.out.same (HC.out.block g HB.out.lt)
                rw [E1.out, List.append_assoc]; exact this
              have KB : Hid (Keep [g] w w7) := HK.out.trans (Keep.of_below HC.out) (fun q hq => .inl hq)
              clear hxy BC BD
              go_wp2
              go_roundg (n - (i + 1))
              case measure => omega
              case rel => exact ⟨i + 1, rfl, by omega, .inl (by omega), by omega, fun _ => BB.out, KB.out, fun h0 => by omega⟩
    · have K : Hid (Blk wr g (rgRow (isort rs) ++ pad) 68 ∧ Keep [g] w wr) := by
        refine ⟨?_, I.out.2.1⟩
        by_cases h0' : n = 0
        · rw [I.out.2.2 h0']; exact hz.out h0'
        · have := I.out.1 (by omega)
          have e : i = n := by omega
          rw [e, HN.out, List.take_length, List.drop_length, List.append_nil] at this
          exact this
      have hlt2 : ¬ (i : Int) < (n : Int) := by omega
      go_wp2
      go_end0
      exact ⟨rfl, K.out⟩
set_option maxHeartbeats 800000 in
theorem stable_any (g n c : Nat) (rs : List Rg) (pad : List Value) (w : World) (hsl : ∀ r ∈ rs, ∃ a n c, r.v = .slice a n c) (h : Blk w g (rgRow rs ++ pad) 68) (hn : n = rs.length) (hn19 : n ≤ 19) (hnc : n ≤ c) : Calls Try.prog 42 #[.slice (some ⟨g, 0, none⟩) n c, .int .i64 n, .func (.func 30) #[] #[]] w fun e w' => e = .returned (.tuple #[]) ∧ Blk w' g (rgRow (isort rs) ++ pad) 68 ∧ Keep [g] w w' := by
  have h1 : ¬ (20 : Int) ≤ (n : Int) := by omega
  have h2 : ¬ (20 : Int) < (n : Int) := by omega
  have cI := hide (ins_any g n c rs pad w hsl h hn (by omega) hnc)
  clear hn h hsl
  go_enter Try.func42, Try.ntmps42
  go_wp2_with fail
  go_loop [7, 8] (fun u v => u = .int .i64 0 ∧ v = .int .i64 20) (fun _ _ => 1)
  case atStart => exact ⟨rfl, rfl⟩
  case round =>
    obtain ⟨rfl, rfl⟩ := hrel
    go_wp2_with fail
    refine cI.out.mono ?_
    rintro e w' ⟨rfl, hq⟩
    have HQ := hide hq
    clear hq cI
    go_wp2_with fail
    go_loop [6] (fun t => t = .int .i64 20) (fun _ => 1)
    case atStart => rfl
    case round =>
      subst hrel
      go_wp2
      go_end0
      exact ⟨rfl, HQ.out⟩
theorem sort_few : SortIs 19 := by
  intro a n c rs w hsl h hn
  have hl : n = rs.length := by have := h.1; rw [rgRow_length] at this; omega
  by_cases h0 : n = 0
  · exact sort_one a n c rs w hsl h (by omega)
  · rcases h.2 with ⟨_, h1⟩ | ⟨g, cap, cur, hv, hb, hh, hc, hm, hs, ht⟩
    · omega
    simp only [Value.slice.injEq] at hv
    obtain ⟨rfl, _, rfl⟩ := hv
    have e : rgRow rs ++ cur.toList.drop (n * 3) = cur.toList := by rw [← ht, List.take_append_drop]
    have hbk : Blk w g (rgRow rs ++ cur.toList.drop (n * 3)) 68 := by
      unfold Blk
      rw [e]
      simpa using hh
    have cI := hide (stable_any g n c rs _ w hsl hbk hl hn hc)
    have HF : Hid (∀ w', Blk w' g (rgRow (isort rs) ++ cur.toList.drop (n * 3)) 68 → w'.ownsRow 0 68 3 (.slice (some ⟨g, 0, none⟩) n c) n (rgRow (isort rs))) := fun w' hw => by
      have hsz : (rgRow (isort rs)).length = n * 3 := by rw [rgRow_length, isort_len, hl]
      refine ⟨hsz, .inr ⟨g, c, (rgRow (isort rs) ++ cur.toList.drop (n * 3)).toArray, rfl, hb, hw, hc, hm, ?_, ?_⟩⟩
      · have h3 := congrArg List.length e
        rw [List.length_append, rgRow_length] at h3
        rw [List.size_toArray, List.length_append, hsz]
        have h4 : cur.toList.length = cur.size := by simp
        omega
      · rw [List.toList_toArray, ← hsz]
        simp
    clear h hl h0 hb hh hm hs ht e hbk hn hc hsl
    go_enter Try.func29, Try.ntmps29
    go_wp2_with fail
    refine cI.out.mono ?_
    rintro e w' ⟨rfl, hq, hk⟩
    have R := hide (HF.out w' hq)
    have K := hide hk
    clear cI HF hq hk
    go_wp2
    go_end0
    exact ⟨rfl, R.out, by simpa [own, Value.ownBlock] using K.out⟩
end Go.Proofs.Ytbjkahdlejaheaa

/- A guarded region in which a slot is read, and written behind that. -/
set_option linter.unusedVariables false
set_option linter.unusedSimpArgs false
namespace Go.Proofs.Ytbjkahdlejaheaa
open Go.RowKit
variable {P : Program} {ops : Array Oper} {Q : Exit → Act → World → Prop} {md : Region.Mode}
theorem wp_region_gp {id : Nat} {a0 : Act} {w : World} (hm : P.follows .mixedOrders = true) (hp : guardRegion ops = true) (V : Nat → Value) (C : Array Bool → World → Prop)
    (hsz : ∀ (i : Nat) (o : Oper) (t : Nat), ops[i]? = some o → o.dst = some t → t < a0.tmps.size)
    (hC0 : C (Array.replicate ops.size false) { w with drawn := w.drawn + 1 })
    (hops : ∀ (i : Nat) (o : Oper), ops[i]? = some o → ∀ (listed : Array Bool) (w' : World) (ev : Operand → Value), listed.size = ops.size → C listed w' → listed.getD i false = false → (∀ k, edgeOf ops i k = true → listed.getD k false = true) → (∀ j k, edgeOf ops j k = true → listed.getD j false = true → listed.getD k false = true) →
      (∀ t j e, ownOf ops t = some j → e ∈ o.after.toList → Region.binds .any e = true → e.on = j → t < a0.tmps.size → ev (.tmp t) = V j) →
      (∀ t, ownOf ops t = none → t < a0.tmps.size → ev (.tmp t) = a0.eval (.tmp t)) → (∀ t j, ownOf ops t = some j → edgeOf ops j i = true → t < a0.tmps.size → ev (.tmp t) = a0.eval (.tmp t)) → (∀ v, ev (.const v) = v) → (∀ f, ev (.func f) = .func (.func f) #[] #[]) →
      if wantV V o = true then OpRuns P ev o (V i) w' (C (listed.setIfInBounds i true)) else V i = undef ∧ C (listed.setIfInBounds i true) w')
    (hend : ∀ w', C (Array.replicate ops.size true) w' → Q .normal (lexF V 0 ops.toList a0) w') : (Code.region id ops true).wp P Q a0 w := by
  refine wp_region_any hm ?_
  refine wpAny_by (fun listed a w' => listed.size = ops.size ∧ a = frameOf (ownOf ops) V a0 listed ∧ (∀ j k, edgeOf ops j k = true → listed.getD j false = true → listed.getD k false = true) ∧ C listed w') ?_ ?_ _ _ _ _ ⟨by simp, (frame_none _ _ _ _).symm, fun j k _ hj => by simp only [Array.getD_eq_getD_getElem?, Array.getElem?_replicate] at hj; split at hj <;> simp at hj, hC0⟩ ?_
  · rintro listed a w' ⟨hs, rfl, hcl, hc⟩ hr
    have := all_listed_g hs hp hr
    subst this
    rw [frame_lex_g hp]
    exact hend w' hc
  · rintro listed a w' ⟨hs, rfl, hcl, hc⟩ i hi
    obtain ⟨hlt, hfree, haft⟩ := ready_free hi
    have ho : ops[i]? = some ops[i] := Array.getElem?_eq_getElem hlt
    have hpi := List.all_eq_true.1 hp i (List.mem_range.2 hlt)
    rw [ho] at hpi
    simp only [Bool.and_eq_true] at hpi
    rw [ho] at haft
    simp only [Option.map_some, Option.getD_some] at haft
    have hbind : ∀ e ∈ (ops[i]).after.toList, Region.binds .any e = true → listed.getD e.on false = true := by
      intro e he hb
      obtain ⟨j, hj, hje⟩ := List.getElem_of_mem he
      have hx := (Array.all_eq_true.1 haft) j (by simpa using hj)
      have hje' : (ops[i]).after[j]'(by simpa using hj) = e := by simpa using hje
      rw [hje', hb] at hx
      simpa using hx
    have hdir : ∀ k, edgeOf ops i k = true → listed.getD k false = true := by
      intro k hk
      unfold edgeOf at hk
      rw [ho] at hk
      obtain ⟨x, hx, hxe⟩ := Array.any_eq_true.1 hk
      simp only [Bool.and_eq_true, beq_iff_eq] at hxe
      have := hbind ((ops[i]).after[x]) (by simp) hxe.2
      rw [hxe.1] at this
      exact this
    have hcl' : ∀ j k, edgeOf ops j k = true → (listed.setIfInBounds i true).getD j false = true → (listed.setIfInBounds i true).getD k false = true := by
      intro j k hjk hj
      rw [getD_set _ _ _ (by omega)] at hj ⊢
      split
      · rfl
      · by_cases h : j = i
        · subst h; exact hdir k hjk
        · rw [if_neg h] at hj; exact hcl j k hjk hj
    have hfr : listed.getD i false = false := by
      simp only [Array.getD_eq_getD_getElem?] at hfree ⊢
      rw [Array.getElem?_eq_getElem (by omega)] at hfree ⊢
      simpa using hfree
    have hrun := hops i ops[i] ho listed w' (frameOf (ownOf ops) V a0 listed).eval hs hc (by
      simp only [Array.getD_eq_getD_getElem?] at hfree ⊢
      rw [Array.getElem?_eq_getElem (by omega)] at hfree ⊢
      simpa using hfree) hdir hcl
      (fun t j e hown he hb hej ht => by rw [frame_eval _ _ _ _ _ ht]; unfold pickSlot; rw [hown]; simp only; rw [if_pos (hej ▸ hbind e he hb)])
      (fun t hown ht => by rw [frame_eval _ _ _ _ _ ht]; unfold pickSlot; rw [hown]) (fun t j hown hji ht => by
        rw [frame_eval _ _ _ _ _ ht]; unfold pickSlot; rw [hown]; simp only
        rw [if_neg (fun hl => by
          have h1 := hcl j i hji hl
          rw [hfr] at h1; cases h1)]) (fun v => rfl) (fun f => rfl)
    have hw : Region.wanted ops[i] (yielded ops (frameOf (ownOf ops) V a0 listed).tmps) = wantV V ops[i] := by
      have hg := hpi.1.2
      unfold Region.wanted wantV
      cases hgd : ops[i].guard with
      | none => rfl
      | some p =>
        obtain ⟨j, b⟩ := p
        rw [hgd] at hg
        simp only [Bool.and_eq_true] at hg
        obtain ⟨hany, hdst⟩ := hg
        obtain ⟨x, hx, hxe⟩ := Array.any_eq_true.1 hany
        simp only [Bool.and_eq_true, beq_iff_eq] at hxe
        have hl : listed.getD j false = true := by
          have := hbind ((ops[i]).after[x]) (by simp) hxe.2
          rw [hxe.1] at this
          exact this
        obtain ⟨t, ht⟩ := Option.isSome_iff_exists.1 hdst
        have hoj : ∃ oj, ops[j]? = some oj := by
          cases h : ops[j]? with
          | none => rw [h] at ht; cases ht
          | some oj => exact ⟨oj, rfl⟩
        obtain ⟨oj, hoj⟩ := hoj
        have hdj : oj.dst = some t := by rw [hoj] at ht; exact ht
        have hjlt : j < ops.size := (Array.getElem?_eq_some_iff.1 hoj).1
        have hpj := List.all_eq_true.1 hp j (List.mem_range.2 hjlt)
        rw [hoj] at hpj
        simp only [Bool.and_eq_true] at hpj
        have hown : ownOf ops t = some j := by
          have := hpj.2
          rw [hdj] at this
          simpa using this
        have htl := hsz j oj t hoj hdj
        have hy : yielded ops (frameOf (ownOf ops) V a0 listed).tmps j = match V j with | .bool c => some c | _ => none := by
          unfold yielded
          rw [hoj]
          simp only [Option.bind_some, hdj]
          rw [frame_get, Array.getElem?_eq_getElem htl]
          simp only [Option.map_some]
          unfold pickSlot
          rw [hown]
          simp only [hl, if_true]
          cases V j <;> rfl
        simp only [hy]
        cases V j <;> simp
    have hput : (frameOf (ownOf ops) V a0 listed).put ops[i].dst (V i) = frameOf (ownOf ops) V a0 (listed.setIfInBounds i true) := by
      cases hd : ops[i].dst with
      | none =>
        exact frame_skip (by omega) (fun s hs' => by
          have := ownOf_back hs'
          rw [ho] at this
          simp [hd] at this)
      | some t =>
        have hown : ownOf ops t = some i := by
          have := hpi.2
          rw [hd] at this
          simpa using this
        exact frame_put (by omega) hown (fun s hs' => by
          have := ownOf_back hs'
          rw [ho] at this
          simp [hd] at this
          exact this.symm)
    unfold wpOp
    rw [ho]
    simp only [hw]
    by_cases hwv : wantV V ops[i] = true
    · rw [if_pos hwv] at hrun
      rw [hwv]
      simp only [if_true]
      left
      unfold Oper.wp
      rcases hrun with ⟨w2, hr, hc2⟩ | ⟨hv, w2, hr, hc2⟩ | ⟨f, args, hr, hcalls⟩
      · rw [hr]
        exact ⟨by simpa using hs, hput, hcl', hc2⟩
      · rw [hr]
        rw [hv] at hput
        exact ⟨by simpa using hs, hput, hcl', hc2⟩
      · rw [hr]
        refine hcalls.mono ?_
        rintro e w2 ⟨rfl, hc2⟩
        exact ⟨by simpa using hs, hput, hcl', hc2⟩
    · rw [if_neg hwv] at hrun
      have hwf : wantV V ops[i] = false := by simpa using hwv
      rw [hwf]
      rw [hrun.1] at hput
      simp only [Bool.false_eq_true, if_false]
      exact ⟨by simpa using hs, hput, hcl', hrun.2⟩
  · unfold todo
    simp

theorem wp_region_guardp {id : Nat} {a0 : Act} {w : World} (hm : P.follows .mixedOrders = true) (hp : guardRegion ops = true) (V : Nat → Value) (C : World → Prop)
    (hsz : ∀ (i : Nat) (o : Oper) (t : Nat), ops[i]? = some o → o.dst = some t → t < a0.tmps.size)
    (hC0 : C { w with drawn := w.drawn + 1 })
    (hops : ∀ (i : Nat) (o : Oper), ops[i]? = some o → ∀ (w' : World) (ev : Operand → Value), C w' →
      (∀ t j e, ownOf ops t = some j → e ∈ o.after.toList → Region.binds .any e = true → e.on = j → t < a0.tmps.size → ev (.tmp t) = V j) →
      (∀ t, ownOf ops t = none → t < a0.tmps.size → ev (.tmp t) = a0.eval (.tmp t)) → (∀ t j, ownOf ops t = some j → edgeOf ops j i = true → t < a0.tmps.size → ev (.tmp t) = a0.eval (.tmp t)) → (∀ v, ev (.const v) = v) → (∀ f, ev (.func f) = .func (.func f) #[] #[]) →
      if wantV V o = true then OpRuns P ev o (V i) w' C else V i = undef)
    (hend : ∀ w', C w' → Q .normal (lexF V 0 ops.toList a0) w') : (Code.region id ops true).wp P Q a0 w := by
  refine wp_region_gp hm hp V (fun _ => C) hsz hC0 ?_ hend
  intro i o ho listed w' ev _ hc _ _ _ hin hout hpre hcst hfn
  have := hops i o ho w' ev hc hin hout hpre hcst hfn
  split
  · rename_i h; rw [if_pos h] at this; exact this
  · rename_i h; rw [if_neg h] at this; exact ⟨this, hc⟩
end Go.Proofs.Ytbjkahdlejaheaa

/- A log behind a loss of power: Arm, Crash, On, and Open anew. -/
set_option linter.unusedVariables false
set_option linter.unusedSimpArgs false
set_option maxRecDepth 8000
namespace Go.Proofs.Ytbjkahdlejaheaa
open Go.RowKit Go.Deep Math

theorem BS.slice {w : World} {b off n cap : Nat} {l : List UInt8} (h : BS w (some ⟨b, off, none⟩) n cap l) : BSlice w (some ⟨b, off, none⟩) l b := by
  by_cases hl : l = []
  · exact .inl hl
  · have hpos : 0 < l.length := List.length_pos_iff.2 hl
    have hn := h.len
    refine .inr ⟨?_, off, rfl, fun j hj => ?_⟩
    · obtain ⟨b', o', ha, hlt, _⟩ := h.cell 0 (by omega)
      simp only [Option.some.injEq, Addr.mk.injEq, and_true] at ha
      rw [ha.1]; exact hlt
    · obtain ⟨b', o', ha, hlt, hc⟩ := h.cell j (by omega)
      simp only [Option.some.injEq, Addr.mk.injEq, and_true] at ha
      obtain ⟨rfl, rfl⟩ := ha
      rw [hc]
      simp [List.getD_eq_getElem?_getD, List.getElem?_eq_getElem hj]
theorem arm_any (d p : Nat) (pd : List Value) (wa : Option Addr) (wc : Nat) (S : Dv) (w : World) (h : DvIn w d p pd wa wc S) (k : Int) (hk : k ≤ 9223372036854775807) :
    Calls Try.prog 15 #[.pointer (some ⟨d, 0, none⟩), .int .i64 k] w fun e w' => e = .returned (.tuple #[]) ∧ DvIn w' d p pd wa wc (S.arm k) ∧ Keep [d] w w' := by
  have c2 := h.dev.cell (i := 2) rfl
  have f2 := h.dev.frozen 2
  have H : Hid (DvIn w d p pd wa wc S) := h
  have G : Hid _ := Dv.arm_good h.good k hk
  clear h
  obtain ⟨cs, armed, off, losses, wr, fl, rd, cr⟩ := S
  simp only at c2
  obtain ⟨q, hq⟩ : ∃ q : Int, q = max k 0 := ⟨_, rfl⟩
  have e : Hid ((k.toNat : Int) = q) := by show (k.toNat : Int) = q; omega
  have HQ := hide hq
  go_enter Try.func15, Try.ntmps15
  clear hq
  go_wp2
  go_end0
  rw [← HQ.out]
  have K : Keep [d] w (w.setCell ⟨d, 2, none⟩ (.int .i64 q)) := (Keep.refl [d] w).setCell (.inl (by simp)) _
  refine ⟨rfl, H.out.turn K ?_ rfl G.out, K⟩
  have := H.out.dev.set 2 (.int .i64 q)
  simp only [Dv.arm, dvCells, e.out]
  exact this
section
variable {w0 W : World} {d : Nat} {F : List Nat} {S : Dv} {l m : Nat} {v5 v6 v7 : Value} {T : Lg} {R k : Nat} {L : List It} {base : List Tr}
theorem arm_lg (G : LG w0 W d F S l m v5 v6 v7 T) (a : Int) (ha : a ≤ 9223372036854775807) :
    Calls Try.prog 15 #[.pointer (some ⟨d, 0, none⟩), .int .i64 a] W fun e W' => e = .returned (.tuple #[]) ∧ LG w0 W' d F (S.arm a) l m v5 v6 v7 T := by
  obtain ⟨p, pd, wa, wc, hF, h⟩ := G.dev
  refine (arm_any d p pd wa wc S W h a ha).mono ?_
  rintro e w' ⟨rfl, h1, k1⟩
  refine ⟨rfl, G.devTurn ⟨p, pd, wa, wc, hF, h1⟩ (Moves.of_keep (k1.mono (fun q hq => .inl ?_)))⟩
  simp only [List.mem_singleton] at hq
  rw [hF, hq]
  simp [foot]
theorem Al.arm (h : Al R k L base S T) (a : Int) : Al R k L base (S.arm a) T :=
  ⟨h.off, h.losses, h.first', h.regions', h.wk, h.num, h.cap, h.regs, h.all, h.cont, h.oks, h.pos, h.opnL, h.has⟩
theorem New9.al {n : Nat} (h : New9 n 0 R S T) (hn : 4 * R ≤ n) : Al R 0 L [] S T := by
  have hall : T.all = [] := by unfold Lg.all; rw [h.regs, h.opn]; rfl
  refine ⟨h.calm.off, h.losses, h.first', h.regions', ?_, by rw [h.num]; omega, by rw [h.cap]; omega, by rw [h.regs]; simp, by rw [hall]; simp, ?_, fun t ht => (by rw [hall] at ht; cases ht), (by rw [hall]; exact List.nodup_nil), fun t ht => (by rw [h.opn] at ht; cases ht), by rw [h.has, hall]; rfl⟩
  · rw [h.regs, h.num, h.cs]
    refine ⟨by simpa [Dv.fresh] using hn, fun x hx => ?_, fun t => ?_, List.Pairwise.nil, fun t ht => (by cases ht), fun t ht => (by cases ht), fun j l hj hf => ?_, [], [], [], rfl, rfl, fun x hx => (by simp [flatI] at hx)⟩
    · have := List.eq_of_mem_replicate hx
      rw [this]
    · constructor
      · intro ht; cases ht
      · rintro ⟨_, h2⟩
        obtain ⟨l, h3, _⟩ := cnt_pages h2 0 (by omega)
        rw [fresh_fm] at h3
        cases h3
    · rw [fresh_fm] at hf; cases hf
  · unfold Lg.cont
    rw [h.opn]
    exact Nat.zero_le _
theorem crash_lg (G : LG w0 W d F S l m v5 v6 v7 T) {a : Option Addr} {n cap : Nat} {ps : List UInt8} (hb : BS w0 a n cap ps) (hnil : a = none → ps = []) (hn : n ≤ 140737488351232) :
    Calls Try.prog 17 #[.pointer (some ⟨d, 0, none⟩), .slice a n cap] W fun e W' => e = .returned (.tuple #[]) ∧ ∃ F', LG w0 W' d F' (S.crash ps) l m v5 v6 v7 T ∧ Moves F F' W W' := by
  have hb' := hb.later G.bel
  have hex : ∃ bb, BSlice W a ps bb ∧ (ps ≠ [] → bb ∉ F) := by
    cases a with
    | none => exact ⟨0, .inl (hnil rfl), fun hl => absurd (hnil rfl) hl⟩
    | some x =>
      by_cases hl : ps = []
      · exact ⟨0, .inl hl, fun h => absurd hl h⟩
      · have hpos : 0 < ps.length := List.length_pos_iff.2 hl
        obtain ⟨b', o', ha, hlt, hc⟩ := hb.cell 0 (by have := hb.len; omega)
        cases ha
        exact ⟨b', hb'.slice, fun _ hf => by have := G.lowF _ hf; omega⟩
  obtain ⟨bb, h1, h2⟩ := hex
  refine (crash_at d F S a n cap bb ps hb.len (by omega) W h1 h2 G.dev).mono ?_
  rintro e w' ⟨rfl, F', hd, hm⟩
  exact ⟨rfl, F', G.devTurn hd hm, hm⟩
theorem on_lg (G : LG w0 W d F S l m v5 v6 v7 T) :
    Calls Try.prog 18 #[.pointer (some ⟨d, 0, none⟩)] W fun e W' => e = .returned (.tuple #[]) ∧ ∃ F', LG w0 W' d F' S.on l m v5 v6 v7 T ∧ Moves F F' W W' := by
  refine (on_at d F S W G.dev).mono ?_
  rintro e w' ⟨rfl, F', hd, hm⟩
  exact ⟨rfl, F', G.devTurn hd hm, hm⟩
theorem cnts_few (cs : List Cl) : ∀ R, (cnts cs 0 R).length ≤ R
  | 0 => by simp [cnts]
  | R + 1 => by
    rw [cnts, List.length_append]
    have := cnts_few cs R
    cases cnt cs (0 + 4 * R) <;> simp <;> omega
/-- A log that was opened where the regions D stand. -/
structure Opd (R : Nat) (D : List Tr) (S : Dv) (T : Lg) : Prop where
  regs : T.regs.map Rg.three = D
  len : T.regs.length ≤ R
  opn : T.opn = []
  has : T.has = hasL (fun _ => none) T.all
  pos : (T.all.map Th.pos).Nodup
  all : T.all.length ≤ 46 * R
  cap : T.cap = T.all.length
  num : T.num = numTo S.cs 0 R
  losses : S.losses = T.losses
  first' : T.first = 0
  regions' : T.regions = R
  oks : ∀ t ∈ T.all, t.it.fits ∧ t.it.good = true
theorem Opd.flat {D : List Tr} (h : Opd R D S T) : T.all.map Th.it = flatI D := by
  rw [all_flat, h.regs, h.opn]; simp
theorem Opd.items {D : List Tr} (h : Opd R D S T) (x : It) : x ∈ T.items ↔ lastIt (flatI D) x.key = some x := by
  rw [items_last h.has h.pos, h.flat]
theorem Opd.itemsOk {D : List Tr} (h : Opd R D S T) : Oks T.items := fun x hx => by
  unfold Lg.items Lg.hadOf at hx
  obtain ⟨t, ht, rfl⟩ := List.mem_map.1 hx
  have h1 := h.oks t (List.mem_filter.1 ht).1
  have := good_sizes h1.2
  exact ⟨h1.1, by omega, by omega⟩
theorem open_wk {M : Nat} {D : List Tr} (G : LG w0 W d F S l m v5 v6 v7 T) (hoff : S.off = false) (hw : Wk R M L base S.cs D) (hR1 : 1 ≤ R) (hR : R ≤ 16) :
    Calls Try.prog 10 #[.pointer (some ⟨d, 0, none⟩), .int .i64 0, .int .i64 R] W fun e W' => ∃ lh mh v5h Th S', e = .returned (.tuple #[.pointer (some ⟨lh, 0, none⟩), .int .i64 0]) ∧ LG w0 W' d F S' lh mh v5h (.slice none 0 0) (.slice none 0 0) Th ∧ Like S S' ∧ Opd R D S' Th ∧ Keep F W W' := by
  have hcl := cnts_few S.cs R
  refine (open_log sort_few G.dev hoff 0 R hR1 (by omega) (by have := hw.room; omega) (by omega)).mono ?_
  rintro e w2 ⟨lh, mh, v5h, Th, Sh, rfl, hLh, hSh, hDh, hKh, hlowh, hnewh, hnodh, u1, u2, u3, u4, u5, u6, u7, rsh, u8, u9⟩
  have hs := G.bel.size
  have hrg : Th.regs.map Rg.three = D := by rw [u9]; exact hw.opened u8
  have hlen : Th.regs.length ≤ R := by
    have h1 := congrArg List.length u8
    rw [List.length_map] at h1
    rw [u9, (isort_perm rsh).length_eq, h1]; exact hcl
  have hok : ∀ x ∈ D, x.2.2.length ≤ 46 ∧ ∀ y ∈ x.2.2, y.fits ∧ y.good = true := fun x hx => cnt_len ((hw.mem x).1 hx).2
  have hall : Th.all = Th.regs.flatMap Rg.ths := by unfold Lg.all; rw [u5]; simp
  refine ⟨lh, mh, v5h, Th, Sh, rfl, ⟨hLh, hDh, G.bel.trans (hKh.below G.lowF hs), G.lowF, fun q hq => Nat.le_trans hs (hlowh q hq)⟩, hSh, ⟨hrg, hlen, u5, u7, hnodh, ?_, u6, by rw [u4, hSh.cs], by rw [hSh.losses]; exact u1.symm, u2, u3, fun t ht => ?_⟩, hKh⟩
  · rw [hall]
    exact three_len _ _ (fun x hx => (hok x (by rw [← hrg]; exact hx)).1) hlen
  · rw [hall] at ht
    obtain ⟨r, hr, htr⟩ := List.mem_flatMap.1 ht
    exact (hok r.three (by rw [← hrg]; exact List.mem_map.2 ⟨r, hr, rfl⟩)).2 t.it (List.mem_map.2 ⟨t, htr, rfl⟩)
theorem Opd.al {M : Nat} {D : List Tr} {S0 : Dv} (h : Opd R D S T) (hw : Wk R M L base S0.cs D) (hS : S.cs = S0.cs) (hoff : S.off = false) (hM : M ≤ 100) (hR : R ≤ 4) (L' : List It) : Al R 0 L' D S T := by
  have hn := hw.numTo
  refine ⟨hoff, h.losses, h.first', h.regions', ?_, by rw [h.num, hS]; have := hn.1; omega, by rw [h.cap]; have := h.all; omega, by have := h.len; omega, by have := h.all; omega, ?_, h.oks, h.pos, fun t ht => (by rw [h.opn] at ht; cases ht), h.has⟩
  · rw [h.regs, h.num, hS]
    exact hn.2.again L'
  · unfold Lg.cont
    rw [h.opn]
    exact Nat.zero_le _
/-- What a crash by ps leaves: regions D, of which x is the last of its key, for each x of xs. -/
def CutP (R : Nat) (L : List It) (base : List Tr) (ps : List UInt8) (S : Dv) (xs : List It) : Prop := ∃ M D, M ≤ 200 ∧ Wk R M L base (settle S.cs ps) D ∧ ∀ x ∈ xs, lastIt (flatI D) x.key = some x
theorem Al.cutP (h : Al R k L base S T) (hk : k ≤ 100) (ho : T.opn = []) (ps : List UInt8) : CutP R L base ps S T.items := by
  refine ⟨T.num, _, by have := h.num; omega, by rw [h.wk.crash ps]; exact h.wk, fun x hx => ?_⟩
  have := (items_last h.has h.pos x).1 hx
  rw [all_flat, ho] at this
  simpa using this
theorem Al.cutN (h : Al R k L base S T) (hk : k ≤ 100) (ps : List UInt8) : CutP R L base ps S [] :=
  ⟨T.num, _, by have := h.num; omega, by rw [h.wk.crash ps]; exact h.wk, fun x hx => by cases hx⟩
theorem De.cutP (h : De R k L base S T) (hk : k ≤ 90) (ps : List UInt8) : CutP R L base ps S [] := by
  obtain ⟨M, D, h1, h2⟩ := h.aft ps
  exact ⟨M, D, by omega, h2, fun x hx => by cases hx⟩
theorem on_cs (S : Dv) (ps : List UInt8) : (S.crash ps).on.cs = settle S.cs ps := settle_still _ _ (settle_last _ _)
theorem row_moves {F' : List Nat} {W' : World} {bs : Nat} {v : Value} {xs : List It} (h : Row W bs v xs) (hF : ∀ q, v.ownBlock = some q → q ∉ F) (hm : Moves F F' W W') : Row W' bs v xs ∧ ∀ q, v.ownBlock = some q → q ∉ F' := by
  refine ⟨h.keep (fun q hq => hm.keep.block q (h.lt q hq).2 (hF q hq)), fun q hq hq' => ?_⟩
  rcases hm.foot q hq' with h1 | h1
  · exact hF q hq h1
  · have := (h.lt q hq).2; omega
end
end Go.Proofs.Ytbjkahdlejaheaa

