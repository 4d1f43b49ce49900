/- Seal of any log on a calm device; a region of which a page is none. -/
import Derived.Test.YtbjkahdlejaheabRun9
set_option linter.unusedVariables false
set_option linter.unusedSimpArgs false
set_option maxRecDepth 8000
namespace Go.Proofs.Ytbjkahdlejaheab
open Go.RowKit Go.Deep Math

theorem cont_ne {T : Lg} (ho : ∀ t ∈ T.all, t.it.fits ∧ t.it.good = true) (h : T.opn ≠ []) : T.cont ≠ [] := by
  obtain ⟨t, r, hr⟩ : ∃ t r, T.opn = t :: r := by
    cases hq : T.opn with
    | nil => exact absurd hq h
    | cons a b => exact ⟨a, b, rfl⟩
  intro h0
  have e : T.cont = t.it.enc ++ encs (r.map Th.it) := by unfold Lg.cont; rw [hr]; simp [encs]
  rw [e] at h0
  have h1 := congrArg List.length h0
  rw [List.length_append, It.enc_length] at h1
  have : t.it.size = 32 + t.it.key.length + t.it.value.length := rfl
  simp at h1
  omega
theorem seal_run {w0 W : World} {d : Nat} {F : List Nat} {S : Dv} {l m : Nat} {v5 v6 v7 : Value} {T : Lg} {R k : Nat} (G : LG w0 W d F S l m v5 v6 v7 T) (hN : Run9 R k S T) (hR1 : 1 ≤ R) (hR64 : R ≤ 64) (hk : k < 100) :
    Calls Try.prog 11 #[.pointer (some ⟨l, 0, none⟩)] W fun e W' =>
      (T.opn = [] ∧ e = .returned (.tuple #[.slice none 0 0, .int .i64 0]) ∧ W' = W) ∨
      (T.opn ≠ [] ∧ ∃ va vn vc v5' F' S', e = .returned (.tuple #[.slice va vn vc, .int .i64 0]) ∧ vn = (T.lost T.next).length ∧ Row W' W.heap.size (.slice va vn vc) (T.lost T.next) ∧
        LG w0 W' d F' S' l m v5' (.slice none 0 0) (.slice none 0 0) (T.cut v6) ∧ S'.cs = put4 S.cs (4 * T.next) (T.num + 1) T.cont ∧ Calm S' ∧ S'.losses = T.losses) := by
  by_cases ho : T.opn = []
  · refine (seal_idle G.lg ho).mono ?_
    rintro e w' ⟨rfl, rfl⟩
    exact .inl ⟨ho, rfl, rfl⟩
  · have hall := hN.all
    have hnx : T.next < R := by unfold Lg.next; rw [hN.regions']; exact Nat.mod_lt _ hR1
    refine (seal_log G.lg G.dev ho hN.losses (by have := hN.num; omega) (by rw [hN.regions']; exact hR1) (by rw [hN.regions']; exact hR64) (by rw [hN.first']; decide) hN.cont (cont_ne hN.oks ho) (by have := hN.regs; omega) T.next (T.num + 1) rfl rfl (lose_any G.lg _ (by have := hN.regs; omega) (by omega))).mono ?_
    rintro e w' ⟨va, vn, vc, v5', F', hvn, hrow, hD', hK', hF', h5', rfl, hend⟩
    have hbase : T.first + 4 * T.next = 4 * T.next := by rw [hN.first', Nat.zero_add]
    have hwr := wr_calm hN.calm (4 * T.next) (T.num + 1) (by have := hN.room; omega) T.cont
    rw [hbase] at hD' hend ⊢
    rw [hwr.1] at hend ⊢
    rcases hend with ⟨h0, _⟩ | ⟨_, hL'⟩
    · exact absurd rfl h0
    have G' := G.seal hL' hD' hK' hF' h5' (fun q hq => by simp [own, Value.ownBlock] at hq) (fun q hq => by simp [own, Value.ownBlock] at hq)
    exact .inr ⟨ho, va, vn, vc, v5', F', _, rfl, hvn, hrow, G', hwr.2.1, hwr.2.2.1, by rw [hwr.2.2.2, hN.losses]⟩
/-- Of four pages one has no form, the others bear n. -/
theorem cnt_half {cs : List Cl} {base n p : Nat} (hp : p < 4) (h0 : fmAt cs (base + p) = none) (h : ∀ k, k < 4 → k ≠ p → ∃ l, fmAt cs (base + k) = some l ∧ fmNum l = n) :
    cnt cs base = none ∧ ∀ m, maxNum m (forms cs base 4) = max m n := by
  have key : ∀ a b c : List UInt8, fmNum a = n → fmNum b = n → fmNum c = n → isWhole [a, b, c] = false ∧ ∀ m, maxNum m [a, b, c] = max m n := fun a b c ha hb hc => ⟨by simp [isWhole], fun m => by
    simp only [maxNum, List.foldl_cons, List.foldl_nil, ha, hb, hc]
    omega⟩
  obtain ⟨a, b, c, hf, ha, hb, hc⟩ : ∃ a b c, forms cs base 4 = [a, b, c] ∧ fmNum a = n ∧ fmNum b = n ∧ fmNum c = n := by
    have e : forms cs base 4 = [] ++ (fmAt cs (base + 0)).toList ++ (fmAt cs (base + 1)).toList ++ (fmAt cs (base + 2)).toList ++ (fmAt cs (base + 3)).toList := rfl
    match p, hp with
    | 0, _ =>
      obtain ⟨a, ha, ha'⟩ := h 1 (by omega) (by omega)
      obtain ⟨b, hb, hb'⟩ := h 2 (by omega) (by omega)
      obtain ⟨c, hc, hc'⟩ := h 3 (by omega) (by omega)
      exact ⟨a, b, c, by rw [e, h0, ha, hb, hc]; rfl, ha', hb', hc'⟩
    | 1, _ =>
      obtain ⟨a, ha, ha'⟩ := h 0 (by omega) (by omega)
      obtain ⟨b, hb, hb'⟩ := h 2 (by omega) (by omega)
      obtain ⟨c, hc, hc'⟩ := h 3 (by omega) (by omega)
      exact ⟨a, b, c, by rw [e, h0, ha, hb, hc]; rfl, ha', hb', hc'⟩
    | 2, _ =>
      obtain ⟨a, ha, ha'⟩ := h 0 (by omega) (by omega)
      obtain ⟨b, hb, hb'⟩ := h 1 (by omega) (by omega)
      obtain ⟨c, hc, hc'⟩ := h 3 (by omega) (by omega)
      exact ⟨a, b, c, by rw [e, h0, ha, hb, hc]; rfl, ha', hb', hc'⟩
    | 3, _ =>
      obtain ⟨a, ha, ha'⟩ := h 0 (by omega) (by omega)
      obtain ⟨b, hb, hb'⟩ := h 1 (by omega) (by omega)
      obtain ⟨c, hc, hc'⟩ := h 2 (by omega) (by omega)
      exact ⟨a, b, c, by rw [e, h0, ha, hb, hc]; rfl, ha', hb', hc'⟩
  obtain ⟨h1, h2⟩ := key a b c ha hb hc
  refine ⟨?_, fun m => by rw [hf]; exact h2 m⟩
  unfold cnt
  rw [hf, h1]
  simp
/-- The pages that a Seal left. -/
theorem put4_form (cs : List Cl) (base n : Nat) (c : List UInt8) (hb : base + 4 ≤ cs.length) (hn : n < 18446744073709551616) (k : Nat) (hk : k < 4) : ∃ l, fmAt (put4 cs base n c) (base + k) = some l ∧ fmPlace l = k ∧ fmNum l = n := by
  obtain ⟨l, h1, h2, h3, _⟩ := page_read k n (part9 c k) hk hn (part9_le c k)
  refine ⟨l, ?_, h2, h3⟩
  unfold fmAt
  rw [put4_in cs base n c hb k hk]
  exact h1
theorem forms_four {cs : List Cl} {base : Nat} (f : Nat → List UInt8) (h : ∀ k, k < 4 → fmAt cs (base + k) = some (f k)) : forms cs base 4 = [f 0, f 1, f 2, f 3] := by
  have e : forms cs base 4 = [] ++ (fmAt cs (base + 0)).toList ++ (fmAt cs (base + 1)).toList ++ (fmAt cs (base + 2)).toList ++ (fmAt cs (base + 3)).toList := rfl
  rw [e, h 0 (by omega), h 1 (by omega), h 2 (by omega), h 3 (by omega)]
  rfl
/-- Four pages with form, of which one stands elsewhere, or bears another number than the first. -/
theorem cnt_odd {cs : List Cl} {base : Nat} (f : Nat → List UInt8) (h : ∀ k, k < 4 → fmAt cs (base + k) = some (f k)) (k : Nat) (hk : k < 4) (ho : fmPlace (f k) ≠ k ∨ fmNum (f k) ≠ fmNum (f 0)) : cnt cs base = none := by
  have hf := forms_four f h
  have hw : isWhole [f 0, f 1, f 2, f 3] = false := by
    cases hq : isWhole [f 0, f 1, f 2, f 3] with
    | false => rfl
    | true =>
      exfalso
      simp [isWhole, run9, headNum] at hq
      obtain ⟨_, h0, h1, h1', h2, h2', h3, h3'⟩ := hq
      match k, hk with
      | 0, _ => rcases ho with h | h; exact h h0; exact h rfl
      | 1, _ => rcases ho with h | h; exact h h1; exact h h1'
      | 2, _ => rcases ho with h | h; exact h h2; exact h h2'
      | 3, _ => rcases ho with h | h; exact h h3; exact h h3'
  unfold cnt
  rw [hf, hw]
  simp
theorem max_four {cs : List Cl} {base : Nat} (f : Nat → List UInt8) (h : ∀ k, k < 4 → fmAt cs (base + k) = some (f k)) (n : Nat) (k : Nat) (hk : k < 4) (hn : fmNum (f k) = n) (m : Nat) : n ≤ maxNum m (forms cs base 4) := by
  rw [forms_four f h]
  simp only [maxNum, List.foldl_cons, List.foldl_nil]
  match k, hk with
  | 0, _ => omega
  | 1, _ => omega
  | 2, _ => omega
  | 3, _ => omega
theorem max_same {cs : List Cl} {base : Nat} (f : Nat → List UInt8) (h : ∀ k, k < 4 → fmAt cs (base + k) = some (f k)) (n : Nat) (hn : ∀ k, k < 4 → fmNum (f k) = n) (m : Nat) : maxNum m (forms cs base 4) = max m n := by
  rw [forms_four f h]
  simp only [maxNum, List.foldl_cons, List.foldl_nil, hn 0 (by omega), hn 1 (by omega), hn 2 (by omega), hn 3 (by omega)]
  omega
end Go.Proofs.Ytbjkahdlejaheab
