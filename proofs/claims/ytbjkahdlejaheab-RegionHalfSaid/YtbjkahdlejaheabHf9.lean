/- Erase, Flush, Write of nothing, Crash and On beside a log; what they leave of a region. -/
import Derived.Test.YtbjkahdlejaheabRun9
set_option linter.unusedVariables false
set_option linter.unusedSimpArgs false
set_option maxRecDepth 8000
namespace Go.Proofs.Ytbjkahdlejaheab
open Go.RowKit Go.Deep Math

theorem erase_at (d : Nat) (F : List Nat) (S : Dv) (at0 : Int) (w : World) (h : DvAt w d F S) :
    Calls Try.prog 13 #[.pointer (some ⟨d, 0, none⟩), .int .i64 at0] w fun e w' => e = .returned (.int .i64 (S.putErr at0)) ∧
      ∃ F', DvAt w' d F' (S.putDo at0 .blank) ∧ Moves F F' w w' := by
  have cp := hide (put_at d F S at0 .blank (Nat.zero_le _) none 0 0 0 [] rfl rfl w (.inl rfl) (fun _ => rfl) (fun h => absurd rfl h) h)
  clear h
  go_enter Try.func13, Try.ntmps13
  go_wp2_with (go_at_call 35; refine cp.out.mono ?_; rintro e w' ⟨rfl, F', h1, m1⟩)
  go_ret
  exact ⟨rfl, F', h1, m1⟩
theorem put_calm {S : Dv} (h : Calm S) (k : Nat) (hk : k < S.cs.length) (p : Pg) : S.putErr (k : Int) = 0 ∧ (S.putDo (k : Int) p).cs = putAt S.cs k p ∧ Calm (S.putDo (k : Int) p) := by
  have hh := has_nat hk
  have hg : S.gone = false := by simp [Dv.gone, h.armed, h.off]
  have hu : S.used = S := by unfold Dv.used; rw [if_pos (.inr h.armed)]
  refine ⟨by simp [Dv.putErr, hh, hg], ?_, ?_⟩
  · simp [Dv.putDo, hh, hg]
  · simp [Dv.putDo, hh, hg, hu]; exact ⟨h.armed, h.off⟩
theorem settle_torn : ∀ (cs : List Cl) (P : Nat) (p : Pg), (∀ c ∈ cs, c.last = none) → P < cs.length → settle (putAt cs P p) [2] = cs.set P ⟨.torn, none⟩
  | [], P, p, _, h => by simp at h
  | c :: r, 0, p, hl, _ => by
    show settle (c.put p :: r) [2] = _
    unfold settle
    simp only [Cl.put]
    rw [settle_still r _ (fun x hx => hl x (by simp [hx]))]
    rfl
  | c :: r, P + 1, p, hl, h => by
    show settle (c :: putAt r P p) [2] = _
    unfold settle
    rw [hl c (by simp)]
    simp only
    rw [settle_torn r P p (fun x hx => hl x (by simp [hx])) (by simpa using h)]
    rfl
theorem fm_torn (cs : List Cl) (P j : Nat) : fmAt (cs.set P ⟨.torn, none⟩) j = if j = P then none else fmAt cs j := by
  unfold fmAt
  by_cases e : j = P
  · rw [if_pos e, e]
    by_cases h : P < cs.length
    · rw [List.getElem?_set_self h]; rfl
    · rw [List.getElem?_eq_none (by simp; omega)]; rfl
  · rw [if_neg e, List.getElem?_set_ne (Ne.symm e)]
theorem fm_flush (cs : List Cl) (j : Nat) : fmAt (cs.map Cl.flush) j = fmAt cs j := by
  rw [fmAt_now, fmAt_now, flush_get]
theorem fm_blank (cs : List Cl) (P j : Nat) : fmAt ((putAt cs P .blank).map Cl.flush) j = if j = P then none else fmAt cs j := by
  rw [fm_flush]
  by_cases e : j = P
  · rw [if_pos e, e, fmAt_now, putAt_get]
    by_cases h : P < cs.length
    · rw [if_pos ⟨rfl, h⟩]; rfl
    · rw [if_neg (fun q => h q.2)]
      cases hq : cs[P]? with
      | none => rfl
      | some c => exact absurd (List.getElem?_eq_some_iff.1 hq).1 h
  · rw [if_neg e, fm_put_other cs P j _ e]
section
variable {w0 W : World} {d : Nat} {F : List Nat} {S : Dv} {l m : Nat} {v5 v6 v7 : Value} {T : Lg}
/-- Where one page does not read. -/
def Hole (n P : Nat) (cs cs' : List Cl) : Prop := cs'.length = cs.length ∧ fmAt cs' P = none ∧ ∀ j, j ≠ P → fmAt cs' j = fmAt cs j
theorem erase_lg (G : LG w0 W d F S l m v5 v6 v7 T) (hS : Calm S) (P : Nat) (hP : P < S.cs.length) :
    Calls Try.prog 13 #[.pointer (some ⟨d, 0, none⟩), .int .i64 (P : Nat)] W fun e W' => e = .returned (.int .i64 0) ∧ ∃ F' S', LG w0 W' d F' S' l m v5 v6 v7 T ∧ S'.cs = putAt S.cs P .blank ∧ Calm S' := by
  have hc := put_calm hS P hP .blank
  refine (erase_at d F S (P : Int) W G.dev).mono ?_
  rintro e w' ⟨rfl, F', hd, hm⟩
  exact ⟨by rw [hc.1], F', _, G.devTurn hd hm, hc.2.1, hc.2.2⟩
theorem flush_lg (G : LG w0 W d F S l m v5 v6 v7 T) (hS : Calm S) :
    Calls Try.prog 14 #[.pointer (some ⟨d, 0, none⟩)] W fun e W' => e = .returned (.int .i64 0) ∧ ∃ F' S', LG w0 W' d F' S' l m v5 v6 v7 T ∧ S'.cs = S.cs.map Cl.flush ∧ Calm S' := by
  have hc := flush_calm hS
  refine (flush_at d F S W G.dev).mono ?_
  rintro e w' ⟨rfl, F', hd, hm⟩
  exact ⟨by rw [hc.1], F', _, G.devTurn hd hm, hc.2.1, hc.2.2.1⟩
theorem write_nil (G : LG w0 W d F S l m v5 v6 v7 T) (hS : Calm S) (P : Nat) (hP : P < S.cs.length) :
    Calls Try.prog 15 #[.pointer (some ⟨d, 0, none⟩), .int .i64 (P : Nat), .slice none 0 0] W fun e W' => e = .returned (.int .i64 0) ∧ ∃ F' S', LG w0 W' d F' S' l m v5 v6 v7 T ∧ S'.cs = putAt S.cs P (.whole ⟨#[]⟩) ∧ Calm S' := by
  have hc := write_calm hS P hP ⟨#[]⟩ (Nat.zero_le _)
  refine (write_at d F S (P : Int) none 0 0 0 [] rfl W (.inl rfl) (fun _ => rfl) (fun h => absurd rfl h) G.dev).mono ?_
  rintro e w' ⟨rfl, F', hd, hm⟩
  exact ⟨by rw [← hc.1], F', _, G.devTurn hd hm, hc.2.1, hc.2.2.1⟩
theorem crash_lg (G : LG w0 W d F S l m v5 v6 v7 T) (a : Option Addr) (n cap bb : Nat) (ps : List UInt8) (hn : n = ps.length) (hn63 : n ≤ 9223372036854775807) (hbs : BSlice W a ps bb) (hbb : ps ≠ [] → bb ∉ F) :
    Calls Try.prog 16 #[.pointer (some ⟨d, 0, none⟩), .slice a n cap] W fun e W' => e = .returned (.tuple #[]) ∧ ∃ F', LG w0 W' d F' (S.crash ps) l m v5 v6 v7 T := by
  refine (crash_at d F S a n cap bb ps hn hn63 W hbs hbb G.dev).mono ?_
  rintro e w' ⟨rfl, F', hd, hm⟩
  exact ⟨rfl, F', G.devTurn hd hm⟩
theorem on_lg (G : LG w0 W d F S l m v5 v6 v7 T) :
    Calls Try.prog 17 #[.pointer (some ⟨d, 0, none⟩)] W fun e W' => e = .returned (.tuple #[]) ∧ ∃ F', LG w0 W' d F' S.on l m v5 v6 v7 T := by
  refine (on_at d F S W G.dev).mono ?_
  rintro e w' ⟨rfl, F', hd, hm⟩
  exact ⟨rfl, F', G.devTurn hd hm⟩
end
theorem hole_cnt {cs cs' : List Cl} {n P : Nat} (h : Hole n P cs cs') (hP : P < 4) (PF : ∀ k, k < 4 → ∃ l, fmAt cs k = some l ∧ fmPlace l = k ∧ fmNum l = n) : cnt cs' 0 = none ∧ maxNum 0 (forms cs' 0 4) = n := by
  obtain ⟨h1, h2⟩ := cnt_half (cs := cs') (base := 0) (n := n) hP (by rw [Nat.zero_add]; exact h.2.1) (fun k hk hne => by
    obtain ⟨l, q1, _, q3⟩ := PF k hk
    exact ⟨l, by rw [Nat.zero_add, h.2.2 k hne]; exact q1, q3⟩)
  exact ⟨h1, by rw [h2 0]; omega⟩
end Go.Proofs.Ytbjkahdlejaheab
