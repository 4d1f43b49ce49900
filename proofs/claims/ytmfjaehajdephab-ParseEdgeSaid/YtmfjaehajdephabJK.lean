/- Texts joined. -/
import Derived.Test.YtmfjaehajdephabQi
import Derived.Test.YtmfjaehajdephabQj
import Derived.Test.YtmfjaehajdephabJH
import Derived.Test.YtmfjaehajdephabJI
import Derived.Test.YtmfjaehajdephabJJ
import Derived.Test.YtmfjaehajdephabJD
/-
  A parser as the pure one: New, Feed, Waits; data.
-/
namespace Go.Proofs.Ytmfjaehajdephab
open Go.Shelf Go.RowKit Go.Deep
set_option linter.unusedVariables false
set_option linter.unusedSimpArgs false
set_option maxRecDepth 1000000

def isSt (c : Cm) : Bool := c.what.toList == [115, 116, 111, 114, 101]
def bareC (c : Cm) : Bool := c.what.toList == []
/-- What a parser's memory says of the command that waits. -/
def HoldOk (s : St) (seen : Nat) (c : Cm) (left gone : Nat) (F : List UInt8) : Prop := match s.hold with
  | none => bareC c = true ∧ left = 0 ∧ gone = 0 ∧ F = s.b ∧ seen ≤ F.length ∧ (∀ x ∈ F.take seen, x ≠ 10) ∧ (s.skip = true → seen = 0)
  | some (c', m) => c = c' ∧ left + gone = m ∧ gone ≤ s.b.length ∧ F = s.b.drop gone ∧ seen = 0 ∧ s.skip = false ∧ (isSt c = true → gone = 0) ∧ bareC c = false ∧ m ≤ 2147483647
def PAt (w : World) (p : Nat) (v : Value) (s : St) (N : Nat) : Prop :=
  ∃ beg seen c a n cc left gone F, PM w p v beg seen s.skip c (.slice a n cc) left gone F N ∧ (s.hold.isSome = true → RowT w a n c.keys) ∧ HoldOk s seen c left gone F
theorem row_farP {w W : World} {p : Nat} {v : Value} {beg : Nat} {R : List Value} {F : List UInt8} {N : Nat} {a : Option Addr} {n : Nat} {xs : List ByteArray} (hr : RowT w a n xs) (hq : QAt w p v beg R 51 F N) (k : Keep [p] w W) : RowT W a n xs :=
  hr.keepF (fun x hx hxp => by
    obtain ⟨cs, fz, hc⟩ := hr.kind x hx
    simp only [List.mem_singleton] at hxp
    rw [hxp, hq.blk] at hc
    simp at hc) k
theorem abides_pat (p : Nat) (s : St) (N : Nat) : Abides p (fun w v => PAt w p v s N) :=
  ⟨fun w W v ⟨beg, seen, c, a, n, cc, left, gone, F, h, hr, ho⟩ k => ⟨beg, seen, c, a, n, cc, left, gone, F, QAt.later h k, fun hh => (hr hh).later k, ho⟩,
   fun w W v b c' kv' ⟨beg, seen, c, a, n, cc, left, gone, F, h, hr, ho⟩ hb hne k =>
     ⟨beg, seen, c, a, n, cc, left, gone, F, QAt.far h k (fun x hx => by simp only [List.mem_singleton] at hx; subst hx; exact ⟨hne, cm_no5 hb⟩), fun hh => (hr hh).keepF (row_off (hr hh) hb) k, ho⟩,
   fun w v ⟨beg, seen, c, a, n, cc, left, gone, F, h, hr, ho⟩ => h.blk.lt,
   fun w v ⟨beg, seen, c, a, n, cc, left, gone, F, h, hr, ho⟩ cs fz hc => by rw [h.blk] at hc; simp at hc⟩
def rC : Option Cm → Cm
  | none => cmZ
  | some c => c
theorem letGo_lg (p seen : Nat) (over : Bool) (c : Cm) (kv : Value) (left gone : Nat) (F : List UInt8) (N : Nat) (hN : N ≤ 1000000) (hl : left ≤ 2147483647) (hg : gone ≤ 2147483647) :
    ∃ L g F1, LgQ p seen over c kv left gone F N L g F1 ∧ L + g = left + gone ∧ F1 = F.drop (g - gone) ∧ gone ≤ g ∧ g - gone ≤ F.length ∧ (isSt c = true → g = gone) ∧ L ≤ left := by
  cases hs : c.what.toList == [115, 116, 111, 114, 101] with
  | true =>
    refine ⟨left, gone, F, fun W v beg h => ?_, rfl, by rw [Nat.sub_self, List.drop_zero], Nat.le_refl _, by omega, fun _ => rfl, Nat.le_refl _⟩
    refine (letGo_no W p v beg seen over c kv left gone F N h hs).mono ?_
    rintro e w' ⟨rfl, rfl⟩
    exact ⟨rfl, v, beg, h, Keep.refl _ _, fun g hg => .inl hg⟩
  | false =>
    refine ⟨left - min left F.length, gone + min left F.length, F.drop (min left F.length), fun W v beg h => ?_, by omega, by rw [Nat.add_sub_cancel_left], by omega, by omega, fun h => (by unfold isSt at h; rw [hs] at h; cases h), by omega⟩
    refine (letGo_yes W p v beg seen over c kv left gone F N h hN hs hl hg).mono ?_
    rintro e w' ⟨rfl, h⟩
    exact ⟨rfl, h⟩
theorem cmZ_bare : bareC cmZ = true := by kernel_rfl
theorem badC_bare (l : List UInt8) : bareC (badC l) = false := by
  have : ((⟨#[98, 97, 100]⟩ : ByteArray).toList == []) = false := by kernel_rfl
  exact this
theorem ends_none (l : List UInt8) (h : endsP l = none) : endsI l = 0 := by unfold endsI; rw [h]
theorem ends_zero (l : List UInt8) (h : endsP l = some 0) : endsI l = -1 := by unfold endsI; rw [h]
theorem ends_succ (l : List UInt8) (k : Nat) (h : endsP l = some (k + 1)) : endsI l = ((k + 1 : Nat) : Int) := by unfold endsI; rw [h]; simp
theorem ends_le2 (l : List UInt8) (k : Nat) (h : endsP l = some (k + 1)) : k + 1 = 1 ∨ k + 1 = 2 := by
  match l with
  | [] => simp [endsP] at h
  | x :: t =>
    simp only [endsP] at h
    split at h
    · simp at h; omega
    · split at h
      · split at h
        · simp at h
        · split at h
          · simp at h; omega
          · simp at h
      · simp at h
theorem withData_eq (c : Cm) (d : List UInt8) : withData c d = if isSt c = true then withCm c ⟨d.toArray⟩ else c := by
  unfold withData isSt storeT
  split <;> rfl
/-- data of a parser whose command waits. -/
theorem data_any (w : World) (p : Nat) (v : Value) (beg : Nat) (c : Cm) (a : Option Addr) (n cc left gone : Nat) (F b : List UInt8) (N m : Nat) (h : PM w p v beg 0 false c (.slice a n cc) left gone F N) (hr : RowT w a n c.keys) (hN : N ≤ 1000000)
    (hm : left + gone = m) (hgb : gone ≤ b.length) (hF : F = b.drop gone) (hst : isSt c = true → gone = 0) (hbc : bareC c = false) (hm2 : m ≤ 2147483647) :
    Calls Try.prog 23 #[.pointer (some ⟨p, 0, none⟩)] w (NxQ w p v (rC (dataP b c m).1) (dataP b c m).1.isSome (fun w' v' => PAt w' p v' (dataP b c m).2 N)) := by
  obtain ⟨L, g, F1, hlg, h1, h2, h3, h4, h5, h6⟩ := letGo_lg p 0 false c (.slice a n cc) left gone F N hN (by omega) (by omega)
  have hFl : F.length = b.length - gone := by rw [hF, List.length_drop]
  have hF1 : F1 = b.drop g := by rw [h2, hF, List.drop_drop]; congr 1; omega
  have hF1l : F1.length = b.length - g := by rw [hF1, List.length_drop]
  have hdrop : F1.drop L = b.drop m := by rw [hF1, List.drop_drop]; congr 1; omega
  have hold : HoldOk ⟨b, false, some (c, m)⟩ 0 c L g F1 := ⟨rfl, by omega, (show g ≤ b.length by omega), hF1, rfl, rfl, fun h => by rw [h5 h]; exact hst h, hbc, hm2⟩
  have conv : ∀ {r : Cm} {ok : Bool} {seen : Nat} {over : Bool} {c2 : Cm} {kv : Value → Prop} {L2 g2 : Nat} {F2 : List UInt8} {s2 : St}, s2.skip = over →
      (∀ w' (a' : Option Addr) (n' : Nat) (kv' : Value) r', kv kv' → RowT w' a' n' r' → (∀ W', Keep [p] w W' → RowT W' a n c.keys) → ∃ a2 n2 c2', kv' = .slice a2 n2 c2' ∧ (RowT w' a n c.keys → RowT w' a2 n2 c2.keys) ∧ HoldOk s2 seen c2 L2 g2 F2) →
      ∀ e w', DtQ w p v r ok seen over c2 kv L2 g2 F2 N e w' → NxQ w p v r ok (fun w' v' => PAt w' p v' s2 N) e w' := by
    intro r ok seen over c2 kv L2 g2 F2 s2 ho hk e w' hd
    obtain ⟨a', n', cc', v', beg', kv', rfl, hr', hkv, hp', hmv⟩ := hd
    have hrW : RowT w' a n c.keys := row_farP hr h hmv.1
    obtain ⟨a2, n2, c2', rfl, hrow2, hho⟩ := hk w' a' n' kv' _ hkv hr' (fun W' k => row_farP hr h k)
    exact ⟨a', n', cc', v', rfl, hr', ⟨beg', seen, c2, a2, n2, c2', L2, g2, F2, by rw [ho]; exact hp', fun _ => hrow2 hrW, hho⟩, hmv⟩
  have keep : ∀ (kv' : Value), kv' = .slice a n cc → ∀ (w' : World) (a' : Option Addr) (n' : Nat) (r' : List ByteArray), ∃ a2 n2 c2', kv' = .slice a2 n2 c2' ∧ (RowT w' a n c.keys → RowT w' a2 n2 c.keys) ∧ HoldOk ⟨b, false, some (c, m)⟩ 0 c L g F1 := fun kv' hk w' a' n' r' => ⟨a, n, cc, hk, id, hold⟩
  by_cases hf : F1.length < L
  · have e : dataP b c m = (none, ⟨b, false, some (c, m)⟩) := by unfold dataP; rw [if_pos (by omega)]
    rw [e]
    exact (data_few w p v beg 0 false c a n cc left gone F N L g F1 h hN hr hlg (by omega) hf).mono (conv (s2 := ⟨b, false, some (c, m)⟩) rfl (fun w' a' n' kv' r' hk _ _ => keep kv' hk w' a' n' r'))
  · have hb : ¬ b.length < m := by omega
    cases he : endsP (b.drop m) with
    | none =>
      have e : dataP b c m = (none, ⟨b, false, some (c, m)⟩) := by unfold dataP; rw [if_neg hb, he]
      rw [e]
      exact (data_wait w p v beg 0 false c a n cc left gone F N L g F1 h hN hr hlg (by omega) (by omega) (by rw [hdrop]; exact ends_none _ he)).mono (conv (s2 := ⟨b, false, some (c, m)⟩) rfl (fun w' a' n' kv' r' hk _ _ => keep kv' hk w' a' n' r'))
    | some k =>
      cases k with
      | zero =>
        have e : dataP b c m = (some (badC chunkT), ⟨b.drop m, true, none⟩) := by unfold dataP; rw [if_neg hb, he]; rfl
        rw [e]
        refine (data_bad w p v beg 0 false c a n cc left gone F N L g F1 h hN hr hlg (by omega) (by omega) (by rw [hdrop]; exact ends_zero _ he)).mono (conv (s2 := ⟨b.drop m, true, none⟩) rfl (fun w' a' n' kv' r' hk _ _ => ?_))
        exact ⟨none, 0, 0, hk, fun _ => RowT.nil, cmZ_bare, rfl, rfl, hdrop, Nat.zero_le _, by simp, fun _ => rfl⟩
      | succ k =>
        have e : dataP b c m = (some (withData c (b.take m)), ⟨b.drop (m + (k + 1)), false, none⟩) := by unfold dataP; rw [if_neg hb, he]; rfl
        rw [e]
        have hle := endsP_le _ _ he
        rw [List.length_drop] at hle
        have hd2 : F1.drop (L + (k + 1)) = b.drop (m + (k + 1)) := by rw [← List.drop_drop, hdrop, List.drop_drop]
        have fin : ∀ (kv' : Value), kv' = .slice none 0 0 → ∀ w' : World, ∃ a2 n2 c2', kv' = .slice a2 n2 c2' ∧ (RowT w' a n c.keys → RowT w' a2 n2 cmZ.keys) ∧ HoldOk ⟨b.drop (m + (k + 1)), false, none⟩ 0 cmZ 0 0 (F1.drop (L + (k + 1))) :=
          fun kv' hk w' => ⟨none, 0, 0, hk, fun _ => RowT.nil, cmZ_bare, rfl, rfl, hd2, Nat.zero_le _, by simp, fun h => by cases h⟩
        cases hs : isSt c with
        | true =>
          have hg0 : g = 0 := by rw [h5 hs]; exact hst hs
          have hLm : L = m := by omega
          have hF1b : F1 = b := by rw [hF1, hg0, List.drop_zero]
          have er : rC (some (withData c (b.take m))) = withCm c ⟨(F1.take L).toArray⟩ := by show withData c (b.take m) = _; rw [withData_eq, hs, if_pos rfl, hF1b, hLm]
          rw [er]
          exact (data_ok1 w p v beg 0 false c a n cc left gone F N L g F1 h hN hr hlg (by omega) (k + 1) (ends_le2 _ _ he) (by omega) (by rw [hdrop]; exact ends_succ _ _ he) hs).mono (conv (s2 := ⟨b.drop (m + (k + 1)), false, none⟩) rfl (fun w' a' n' kv' r' hk _ _ => fin kv' hk w'))
        | false =>
          have er : rC (some (withData c (b.take m))) = c := by show withData c (b.take m) = _; rw [withData_eq, hs]; rfl
          rw [er]
          exact (data_ok0 w p v beg 0 false c a n cc left gone F N L g F1 h hN hr hlg (by omega) (k + 1) (ends_le2 _ _ he) (by omega) (by rw [hdrop]; exact ends_succ _ _ he) hs).mono (conv (s2 := ⟨b.drop (m + (k + 1)), false, none⟩) rfl (fun w' a' n' kv' r' hk _ _ => fin kv' hk w'))
end Go.Proofs.Ytmfjaehajdephab

/-
  Next of a parser: what the pure one says.
-/
namespace Go.Proofs.Ytmfjaehajdephab
open Go.Shelf Go.RowKit Go.Deep
set_option linter.unusedVariables false
set_option linter.unusedSimpArgs false
set_option maxRecDepth 1000000

theorem storeC_bare (ws : List ByteArray) (n : Nat) : bareC (storeC ws n) = false := by
  have : ((mk8 storeT).toList == []) = false := by kernel_rfl
  exact this
theorem storeP_some {ws : List ByteArray} {n m : Nat} {r : Cm} (h : storeP ws n = (r, some m)) : m ≤ 2147483647 ∧ bareC r = false := by
  unfold storeP at h
  split at h
  · split at h
    · split at h
      · rename_i _ _ hn
        have hm : num_ ws 4 ≤ 2147483647 := by
          unfold numsOk at hn
          simp only [Bool.and_eq_true, decide_eq_true_eq] at hn
          exact hn.1.2.2
        split at h
        · simp only [Prod.mk.injEq, Option.some.injEq] at h
          obtain ⟨rfl, rfl⟩ := h
          exact ⟨hm, badC_bare _⟩
        · simp only [Prod.mk.injEq, Option.some.injEq] at h
          obtain ⟨rfl, rfl⟩ := h
          exact ⟨hm, storeC_bare _ _⟩
      · simp at h
    · simp at h
  · simp at h
theorem oneP_some {l : List UInt8} {m : Nat} {r : Cm} (h : oneP l = (r, some m)) : m ≤ 2147483647 ∧ bareC r = false := by
  unfold oneP oneB oneW at h
  split at h
  · simp at h
  · split at h
    · exact storeP_some h
    · split at h
      · exact storeP_some h
      · simp at h
theorem line_case (p seen : Nat) (c : Cm) (a : Option Addr) (n cc : Nat) (F : List UInt8) (N : Nat) (hN : N ≤ 1000000) (hsn : seen ≤ F.length) (hno : ∀ x ∈ F.take seen, x ≠ 10) (hbc : bareC c = true) :
    (∃ r k ok s', (lineP oneP F).1 = (if ok = true then some r else none) ∧ (lineP oneP F).2 = s' ∧ r = rC (lineP oneP F).1 ∧ (ok = false ∨ k = -1) ∧
      ∀ W v, (∃ beg, PM W p v beg seen false c (.slice a n cc) 0 0 F N) → Calls Try.prog 22 #[.pointer (some ⟨p, 0, none⟩)] W (LnR W p v r k ok (fun w v => PAt w p v s' N))) ∨
    (∃ r m, oneP (cutP (F.take (endP F))) = (r, some m) ∧ lineP oneP F = dataP (F.drop (endP F + 1)) r m ∧
      ∀ W v, (∃ beg, PM W p v beg seen false c (.slice a n cc) 0 0 F N) → Calls Try.prog 22 #[.pointer (some ⟨p, 0, none⟩)] W (LnR W p v r (m : Int) true (fun w v => ∃ beg, PM w p v beg 0 false c (.slice a n cc) 0 0 (F.drop (endP F + 1)) N))) := by
  have hle := endP_le F
  by_cases hl : 2048 < (cutP (F.take (endP F))).length
  · left
    by_cases hw : endP F < F.length
    · have e : lineP oneP F = (some (badC longT), ⟨F.drop (endP F + 1), false, none⟩) := by unfold lineP; simp only; rw [if_pos hl, if_pos hw]
      refine ⟨badC longT, -1, true, ⟨F.drop (endP F + 1), false, none⟩, by rw [e]; rfl, by rw [e], by rw [e]; rfl, .inr rfl, fun W v ⟨beg, h⟩ => ?_⟩
      refine (line_long1 W p v beg seen false c _ 0 0 F N h hN hsn hno hw hl).mono ?_
      rintro e w' ⟨rfl, v', beg', hp, hm⟩
      rw [decide_eq_false (by omega), Nat.min_eq_left (by omega)] at hp
      exact ⟨none, 0, 0, v', rfl, RowT.nil, ⟨beg', 0, c, a, n, cc, 0, 0, _, hp, fun h => (by cases h), hbc, rfl, rfl, rfl, Nat.zero_le _, by simp, fun h => by cases h⟩, hm⟩
    · have e : lineP oneP F = (some (badC longT), ⟨[], true, none⟩) := by unfold lineP; simp only; rw [if_pos hl, if_neg hw]
      refine ⟨badC longT, -1, true, ⟨[], true, none⟩, by rw [e]; rfl, by rw [e], by rw [e]; rfl, .inr rfl, fun W v ⟨beg, h⟩ => ?_⟩
      refine (line_long0 W p v beg seen false c _ 0 0 F N h hN hsn hno (by omega) hl).mono ?_
      rintro e w' ⟨rfl, v', beg', hp, hm⟩
      rw [decide_eq_true (by omega), Nat.min_eq_right (by omega), List.drop_length] at hp
      exact ⟨none, 0, 0, v', rfl, RowT.nil, ⟨beg', 0, c, a, n, cc, 0, 0, [], hp, fun h => (by cases h), hbc, rfl, rfl, rfl, Nat.zero_le _, by simp, fun _ => rfl⟩, hm⟩
  · by_cases hw : endP F < F.length
    · cases ho : oneP (cutP (F.take (endP F))) with
      | mk r o =>
        have hln : ∀ W v, (∃ beg, PM W p v beg seen false c (.slice a n cc) 0 0 F N) → Calls Try.prog 22 #[.pointer (some ⟨p, 0, none⟩)] W (LnR W p v r (sizeI o) true (fun w v => ∃ beg, PM w p v beg 0 false c (.slice a n cc) 0 0 (F.drop (endP F + 1)) N)) := fun W v ⟨beg, h⟩ => by
          refine (line_one W p v beg seen false c _ 0 0 F N h hN hsn hno hw (by omega)).mono ?_
          rintro e w' ⟨a', n', c', v', beg', rfl, hr, hp, hm⟩
          rw [ho] at hr
          rw [ho]
          exact ⟨a', n', c', v', rfl, hr, ⟨beg', hp⟩, hm⟩
        cases o with
        | none =>
          left
          have e : lineP oneP F = (some r, ⟨F.drop (endP F + 1), false, none⟩) := by unfold lineP; simp only; rw [if_neg hl, if_neg (by omega), ho]
          refine ⟨r, -1, true, ⟨F.drop (endP F + 1), false, none⟩, by rw [e]; rfl, by rw [e], by rw [e]; rfl, .inr rfl, fun W v h => ?_⟩
          refine (hln W v h).mono ?_
          rintro e w' ⟨a', n', c', v', rfl, hr, ⟨beg', hp⟩, hm⟩
          exact ⟨a', n', c', v', rfl, hr, ⟨beg', 0, c, a, n, cc, 0, 0, _, hp, fun h => (by cases h), hbc, rfl, rfl, rfl, Nat.zero_le _, by simp, fun h => by cases h⟩, hm⟩
        | some m =>
          right
          have e : lineP oneP F = dataP (F.drop (endP F + 1)) r m := by unfold lineP; simp only; rw [if_neg hl, if_neg (by omega), ho]
          exact ⟨r, m, rfl, e, hln⟩
    · left
      have hq : endP F = F.length := by omega
      have e : lineP oneP F = (none, ⟨F, false, none⟩) := by unfold lineP; simp only; rw [if_neg hl, if_pos hq]
      refine ⟨cmZ, -1, false, ⟨F, false, none⟩, by rw [e]; rfl, by rw [e], by rw [e]; rfl, .inl rfl, fun W v ⟨beg, h⟩ => ?_⟩
      refine (line_wait W p v beg seen false c _ 0 0 F N h hN hsn hno hq (by rw [hq, List.take_length] at hl; omega)).mono ?_
      rintro e w' ⟨rfl, v', beg', hp, hm⟩
      refine ⟨none, 0, 0, v', rfl, RowT.nil, ⟨beg', F.length, c, a, n, cc, 0, 0, F, hp, fun h => (by cases h), hbc, rfl, rfl, rfl, Nat.le_refl _, ?_, fun h => by cases h⟩, hm⟩
      intro x hx h10
      subst h10
      rw [List.take_length] at hx
      have := List.findIdx_lt_length_of_exists (p := fun y : UInt8 => y == 10) ⟨10, hx, rfl⟩
      unfold endP at hq
      omega
theorem cell4 {p : Nat} {seen : Nat} {over : Bool} {c : Cm} {kv : Value} {left gone : Nat} {F : List UInt8} {N : Nat} : ∀ W v, (∃ beg, PM W p v beg seen over c kv left gone F N) → W.cell? ⟨p, 4, none⟩ = some (.string c.what) ∧ W.cell? ⟨p, 3, none⟩ = W.cell? ⟨p, 3, none⟩ := fun W v ⟨beg, h⟩ => ⟨QAt.cellR h 2 rfl, rfl⟩
/-- Next. -/
theorem next_any (w : World) (p : Nat) (v : Value) (s : St) (N : Nat) (h : PAt w p v s N) (hN : N ≤ 1000000) :
    Calls Try.prog 10 #[.pointer (some ⟨p, 0, none⟩)] w (NxQ w p v (rC (nextP oneP s).1) (nextP oneP s).1.isSome (fun w' v' => PAt w' p v' (nextP oneP s).2 N)) := by
  obtain ⟨beg, seen, c, a, n, cc, left, gone, F, hp, hr, ho⟩ := h
  obtain ⟨b, sk, hold⟩ := s
  cases hold with
  | some q =>
    obtain ⟨c', m⟩ := q
    obtain ⟨rfl, hm, hgb, hF, rfl, hsk, hst, hbc, hm2⟩ := ho
    simp only at hsk
    subst hsk
    have e : nextP oneP ⟨b, false, some (c, m)⟩ = dataP b c m := rfl
    rw [e]
    exact next_held w p v beg 0 c a n cc left gone F N hp (hr rfl) hbc _ _ _ (abides_pat p _ N) (fun W ⟨beg', hq⟩ hrow => data_any W p v beg' c a n cc left gone F b N m hq hrow hN hm hgb hF hst hbc hm2)
  | none =>
    obtain ⟨hbc, rfl, rfl, hF, hsn, hno, hsk⟩ := ho
    simp only at hF hsk hsn hno
    have hF' := hF.symm
    subst hF'
    cases sk with
    | false =>
      have e : nextP oneP ⟨b, false, none⟩ = lineP oneP b := rfl
      rw [e]
      rcases line_case p seen c a n cc b N hN hsn hno hbc with ⟨r, k, ok, s', h1, h2, h3, h4, h5⟩ | ⟨r, m, h1, h2, h3⟩
      · rw [h2, ← h3, h1]
        have eok : (if ok = true then some r else none).isSome = ok := by cases ok <;> rfl
        rw [eok]
        exact next_bare0 w p v beg seen c a n cc 0 0 b N hp hbc (fun W v => ∃ beg, PM W p v beg seen false c (.slice a n cc) 0 0 b N) (fun W h => h) r k ok _ (abides_pat p s' N) cell4 (abides_pm p seen false c _ 0 0 b N) h5 h4
      · obtain ⟨hm2, hrb⟩ := oneP_some h1
        rw [h2]
        exact next_data0 w p v beg seen c a n cc 0 0 b (b.drop (endP b + 1)) N hp hbc (fun W v => ∃ beg, PM W p v beg seen false c (.slice a n cc) 0 0 b N) (fun W h => h) r _ true _ (abides_pm p 0 false c _ 0 0 _ N) cell4 (abides_pm p seen false c _ 0 0 b N) h3 rfl rfl m rfl _ _ _ (abides_pat p _ N)
          (fun W v a2 n2 c2 ⟨beg', hq⟩ hrow => data_any W p v beg' r a2 n2 c2 m 0 _ _ N m hq hrow hN (by omega) (Nat.zero_le _) (by rw [List.drop_zero]) (fun _ => rfl) hrb hm2)
    | true =>
      obtain rfl := hsk rfl
      have hle := endP_le b
      have hps : ∀ W v, (∃ beg, PM W p v beg 0 true c (.slice a n cc) 0 0 b N) → Calls Try.prog 21 #[.pointer (some ⟨p, 0, none⟩)] W fun e w' => e = .returned (.tuple #[]) ∧ ∃ v', (∃ beg, PM w' p v' beg 0 (decide (endP b = b.length)) c (.slice a n cc) 0 0 (b.drop (min (endP b + 1) b.length)) N) ∧ PMv W p v v' w' := fun W v ⟨beg, hq⟩ => by
        refine (pass_any W p v beg 0 true c _ 0 0 b N hq hN).mono ?_
        rintro e w' ⟨rfl, v', beg', h1, h2⟩
        exact ⟨rfl, v', ⟨beg', h1⟩, h2⟩
      by_cases hw : endP b < b.length
      · rw [decide_eq_false (by omega), Nat.min_eq_left (by omega)] at hps
        have e : nextP oneP ⟨b, true, none⟩ = lineP oneP (b.drop (endP b + 1)) := by
          unfold nextP
          rw [norm_true, if_pos hw]
          rfl
        rw [e]
        generalize b.drop (endP b + 1) = F at hps ⊢
        rcases line_case p 0 c a n cc F N hN (Nat.zero_le _) (by simp) hbc with ⟨r, k, ok, s', h1, h2, h3, h4, h5⟩ | ⟨r, m, h1, h2, h3⟩
        · rw [h2, ← h3, h1]
          have eok : (if ok = true then some r else none).isSome = ok := by cases ok <;> rfl
          rw [eok]
          exact next_bare1 w p v beg 0 c a n cc 0 0 b N hp hbc (fun W v => ∃ beg, PM W p v beg 0 false c (.slice a n cc) 0 0 F N) hps r k ok _ (abides_pat p s' N) cell4 (abides_pm p 0 false c _ 0 0 F N) h5 h4
        · obtain ⟨hm2, hrb⟩ := oneP_some h1
          rw [h2]
          exact next_data1 w p v beg 0 c a n cc 0 0 b (F.drop (endP F + 1)) N hp hbc (fun W v => ∃ beg, PM W p v beg 0 false c (.slice a n cc) 0 0 F N) hps r _ true _ (abides_pm p 0 false c _ 0 0 _ N) cell4 (abides_pm p 0 false c _ 0 0 F N) h3 rfl rfl m rfl _ _ _ (abides_pat p _ N)
            (fun W v a2 n2 c2 ⟨beg', hq⟩ hrow => data_any W p v beg' r a2 n2 c2 m 0 _ _ N m hq hrow hN (by omega) (Nat.zero_le _) (by rw [List.drop_zero]) (fun _ => rfl) hrb hm2)
      · rw [decide_eq_true (by omega), Nat.min_eq_right (by omega), List.drop_length] at hps
        have e : nextP oneP ⟨b, true, none⟩ = (none, ⟨[], true, none⟩) := by
          unfold nextP
          rw [norm_true, if_neg hw]
          rfl
        rw [e]
        exact next_bare1 w p v beg 0 c a n cc 0 0 b N hp hbc (fun W v => ∃ beg, PM W p v beg 0 true c (.slice a n cc) 0 0 [] N) hps cmZ (-1) false _ (abides_pat p _ N) cell4 (abides_pm p 0 true c _ 0 0 [] N)
          (fun W v ⟨beg, h⟩ => by
            refine (line_wait W p v beg 0 true c _ 0 0 [] N h hN (Nat.zero_le _) (by simp) rfl (by decide)).mono ?_
            rintro e w' ⟨rfl, v', beg', hp, hm⟩
            exact ⟨none, 0, 0, v', rfl, RowT.nil, ⟨beg', 0, c, a, n, cc, 0, 0, [], hp, fun h => (by cases h), hbc, rfl, rfl, rfl, Nat.zero_le _, by simp, fun _ => rfl⟩, hm⟩) (.inl rfl)
end Go.Proofs.Ytmfjaehajdephab

/-
  Feed, Waits, New of a parser.
-/
namespace Go.Proofs.Ytmfjaehajdephab
open Go.Shelf Go.RowKit Go.Deep
set_option linter.unusedVariables false
set_option linter.unusedSimpArgs false
set_option maxRecDepth 1000000

theorem feed_pm (w : World) (p : Nat) (v : Value) (beg : Nat) (R : List Value) (F : List UInt8) (N : Nat) (h : QAt w p v beg R 51 F N) (x : Addr) (m cap : Nat) (l : List UInt8) (hb : BS w (some x) m cap l) (hN : N + m ≤ 1000000) :
    Calls Try.prog 8 #[.pointer (some ⟨p, 0, none⟩), .slice (some x) m cap] w (AddQ w p v beg R 51 (F ++ l) (N + m)) := by
  have H := hide (add_any w p v beg N R 51 F h x m cap l hb hN)
  clear h hb hN
  go_enter Try.func8, Try.ntmps8
  go_wp2_with fail
  refine Calls.mono H.out ?_
  rintro e w' ⟨rfl, hh⟩
  have HH := hide hh
  clear hh
  go_wp2
  go_returns
  exact ⟨rfl, HH.out⟩
/-- Behind a Feed. -/
def FdQ (w : World) (p : Nat) (v : Value) (s : St) (N : Nat) (e : Ending) (w' : World) : Prop :=
  e = .returned (.tuple #[]) ∧ ∃ v', PAt w' p v' s N ∧ Keep (p :: v.ownBlock.toList) w w' ∧ (∀ g, v'.ownBlock = some g → v.ownBlock = some g ∨ w.heap.size ≤ g)
theorem feed_any (w : World) (p : Nat) (v : Value) (s : St) (N : Nat) (h : PAt w p v s N) (x : Addr) (m cap : Nat) (l : List UInt8) (hb : BS w (some x) m cap l) (hN : N + m ≤ 1000000) :
    Calls Try.prog 8 #[.pointer (some ⟨p, 0, none⟩), .slice (some x) m cap] w (FdQ w p v (s.app l) (N + m)) := by
  obtain ⟨beg, seen, c, a, n, cc, left, gone, F, hp, hr, ho⟩ := h
  refine (feed_pm w p v beg _ F N hp x m cap l hb hN).mono ?_
  rintro e w' ⟨rfl, v', hq, hk, hown⟩
  refine ⟨rfl, v', ⟨beg, seen, c, a, n, cc, left, gone, F ++ l, hq, fun hh => ?_, ?_⟩, hk, hown⟩
  · refine (hr hh).keepF (fun y hy hyp => ?_) hk
    obtain ⟨cs, fz, hc⟩ := (hr hh).kind y hy
    rcases List.mem_cons.1 hyp with h1 | h1
    · rw [h1, hp.blk] at hc
      simp at hc
    · obtain ⟨_, _, _, _, hv, hoo, _⟩ := hp.row
      obtain ⟨_, _, cs2, fz2, hc2⟩ := own_ge hoo y.block (Option.mem_toList.1 h1)
      rw [hc2] at hc
      simp at hc
  · obtain ⟨b, sk, hold⟩ := s
    cases hold with
    | none =>
      obtain ⟨h1, h2, h3, h4, h5, h6, h7⟩ := ho
      simp only at h4
      subst h4
      exact ⟨h1, h2, h3, rfl, (Nat.le_trans (m := F.length) h5 (by show F.length ≤ (F ++ l).length; rw [List.length_append]; exact Nat.le_add_right _ _)), by rw [List.take_append_of_le_length h5]; exact h6, h7⟩
    | some q =>
      obtain ⟨c', m'⟩ := q
      obtain ⟨h1, h2, h3, h4, h5, h6, h7, h8, h9⟩ := ho
      simp only at h3 h4
      refine ⟨h1, h2, ?_, ?_, h5, h6, h7, h8, h9⟩
      · show gone ≤ (b ++ l).length
        rw [List.length_append]; omega
      · show F ++ l = (b ++ l).drop gone
        rw [h4, List.drop_append_of_le_length h3]
theorem waits_any (w : World) (p : Nat) (v : Value) (s : St) (N : Nat) (h : PAt w p v s N) (hN : N ≤ 1000000) :
    Calls Try.prog 16 #[.pointer (some ⟨p, 0, none⟩)] w fun e w' => e = .returned (.int .i64 (s.b.length : Int)) ∧ ∃ m, w' = w.drewN m := by
  obtain ⟨beg, seen, c, a, n, cc, left, gone, F, hp, hr, ho⟩ := h
  have hlen : F.length + gone = s.b.length ∧ gone ≤ 2147483647 := by
    obtain ⟨b, sk, hold⟩ := s
    cases hold with
    | none => obtain ⟨_, _, h3, h4, _⟩ := ho; simp only at h4; subst h4; exact ⟨by show F.length + gone = F.length; omega, by omega⟩
    | some q =>
      obtain ⟨c', m'⟩ := q
      obtain ⟨_, h2, h3, h4, _, _, _, _, h9⟩ := ho
      simp only at h3 h4
      refine ⟨?_, by omega⟩
      show F.length + gone = b.length
      rw [h4, List.length_drop]; omega
  obtain ⟨a2, ca, hB, hFN, _, _, _, hall⟩ := QAt.all hp
  obtain ⟨k, hk⟩ : ∃ k, k = F.length := ⟨_, rfl⟩
  rw [← hk] at hall hlen
  obtain ⟨t, ht⟩ : ∃ t, t = s.b.length := ⟨_, rfl⟩
  rw [← ht] at hlen ⊢
  have hwr : IntKind.i64.wrap ((k : Int) + (gone : Int)) = (t : Int) := by rw [IntKind.wrap_i64]; omega
  have c17 : w.cell? ⟨p, 17, none⟩ = some (.int .i64 (gone : Int)) := QAt.cellR hp 15 rfl
  have HALL := hide hall
  have HQ := hide hp
  clear hall hp hr ho hB hk ht hlen
  go_enter Try.func16, Try.ntmps16
  go_wp2
  go_quiet ((first | (go_at_call 33; exact Calls.quiet_of (HALL.out _ HQ.out.blk))))
  go_wp2
  go_ret
  exact ⟨rfl, _, rfl⟩
theorem new_any (w : World) : Calls Try.prog 7 #[] w fun e w' => e = .returned (.pointer (some ⟨w.heap.size, 0, none⟩)) ∧ PAt w' w.heap.size (.slice none 0 0) ⟨[], false, none⟩ 0 ∧ Below w.heap.size w w' ∧ w'.heap.size = w.heap.size + 1 := by
  go_enter Try.func7, Try.ntmps7
  go_wp2
  go_ret
  refine ⟨rfl, ⟨0, 0, cmZ, none, 0, 0, 0, 0, [], ⟨heap_alloc_new _ _, none, 0, 0, [], rfl, World.ownsRow_nil _ _ _ _, Nat.le_refl _, Nat.le_refl _, rfl⟩, fun h => (by cases h), cmZ_bare, rfl, rfl, rfl, Nat.le_refl _, by simp, fun h => by cases h⟩, (Below.refl _ _).alloc (Nat.le_refl _) _, by simp only [World.size_alloc]⟩
end Go.Proofs.Ytmfjaehajdephab

/-
  A law's parser: made, fed, asked.
-/
namespace Go.Proofs.Ytmfjaehajdephab
open Go.Shelf Go.RowKit Go.Deep
set_option linter.unusedVariables false
set_option linter.unusedSimpArgs false
set_option maxRecDepth 1000000

/-- A parser of the law's own, over the world h at its begin. -/
structure PL (h : Nat) (W : World) (p : Nat) (v : Value) (s : St) (N : Nat) : Prop where
  at_ : PAt W p v s N
  ge : h ≤ p
  own : ∀ g, v.ownBlock = some g → h ≤ g
theorem PAt.lt {W : World} {p : Nat} {v : Value} {s : St} {N : Nat} (h : PAt W p v s N) : p < W.heap.size := (abides_pat p s N).lt W v h
theorem PAt.blk {W : World} {p : Nat} {v : Value} {s : St} {N : Nat} (h : PAt W p v s N) : ∃ cs fz, W.heap[p]? = some (.cells cs 51 fz) := by
  obtain ⟨beg, seen, c, a, n, cc, left, gone, F, hp, hr, ho⟩ := h
  exact ⟨_, _, hp.blk⟩
theorem PAt.own5 {W : World} {p : Nat} {v : Value} {s : St} {N : Nat} (h : PAt W p v s N) : ∀ g, v.ownBlock = some g → ∃ cs fz, W.heap[g]? = some (.cells cs 5 fz) := fun g hg => by
  obtain ⟨beg, seen, c, a, n, cc, left, gone, F, hp, hr, ho⟩ := h
  obtain ⟨_, _, _, _, hv, hoo, _⟩ := hp.row
  exact (own_ge hoo g hg).2.2
theorem PL.later {h : Nat} {W W' : World} {p : Nat} {v : Value} {s : St} {N : Nat} (H : PL h W p v s N) (k : Below W.heap.size W W') : PL h W' p v s N :=
  ⟨(abides_pat p s N).below W W' v H.at_ k, H.ge, H.own⟩
/-- What a block that is neither the parser nor bytes says, a call of the parser leaves. -/
theorem keep_at {W w' : World} {p : Nat} {v : Value} {s : St} {N : Nat} (h : PAt W p v s N) (k : Keep (p :: v.ownBlock.toList) W w') {b : Nat} {cs : Array Value} {t : TypeId} {fz : Nat × Nat} (hb : W.heap[b]? = some (.cells cs t fz)) (h70 : t ≠ 51) (h5 : t ≠ 5) : w'.heap[b]? = some (.cells cs t fz) := by
  have hlt := (Array.getElem?_eq_some_iff.1 hb).1
  refine (k.block b hlt (fun hm => ?_)).trans hb
  rcases List.mem_cons.1 hm with h1 | h1
  · subst h1
    obtain ⟨cs2, fz2, hc⟩ := h.blk
    rw [hb] at hc
    simp at hc
    exact h70 hc.2.1
  · obtain ⟨cs2, fz2, hc⟩ := h.own5 b (Option.mem_toList.1 h1)
    rw [hb] at hc
    simp at hc
    exact h5 hc.2.1
theorem keep_rowP {W w' : World} {p : Nat} {v : Value} {s : St} {N : Nat} (h : PAt W p v s N) (k : Keep (p :: v.ownBlock.toList) W w') {a : Option Addr} {n : Nat} {xs : List ByteArray} (hr : RowT W a n xs) : RowT w' a n xs :=
  hr.keepF (fun x hx hm => by
    obtain ⟨cs, fz, hc⟩ := hr.kind x hx
    rcases List.mem_cons.1 hm with h1 | h1
    · obtain ⟨cs2, fz2, hc2⟩ := h.blk
      rw [h1, hc2] at hc
      simp at hc
    · obtain ⟨cs2, fz2, hc2⟩ := h.own5 _ (Option.mem_toList.1 h1)
      rw [hc2] at hc
      simp at hc) k
theorem Keep.more {F G : List Nat} {w w' : World} (h : Keep F w w') (hs : ∀ k ∈ F, k ∈ G) : Keep G w w' := h.mono (fun k hk => .inl (hs k hk))
/-- What a call of the law's parser leaves of the world at the law's begin. -/
theorem PL.below {h : Nat} {w0 W w' : World} {p : Nat} {v : Value} {s : St} {N : Nat} (H : PL h W p v s N) (B : Below h w0 W) (hW : h ≤ W.heap.size) (k : Keep (p :: v.ownBlock.toList) W w') : Below h w0 w' :=
  B.trans (k.below (fun x hx => by
    rcases List.mem_cons.1 hx with h1 | h1
    · rw [h1]; exact H.ge
    · exact H.own x (Option.mem_toList.1 h1)) hW)
def NwL (h : Nat) (W : World) (e : Ending) (w' : World) : Prop := e = .returned (.pointer (some ⟨W.heap.size, 0, none⟩)) ∧ PL h w' W.heap.size (.slice none 0 0) ⟨[], false, none⟩ 0 ∧ Below W.heap.size W w'
theorem new_l (h : Nat) (W : World) (hW : h ≤ W.heap.size) : Calls Try.prog 7 #[] W (NwL h W) := by
  refine (new_any W).mono ?_
  rintro e w' ⟨rfl, hp, hb, _⟩
  exact ⟨rfl, ⟨hp, hW, fun g hg => by cases hg⟩, hb⟩
/-- Behind a call of a law's parser. -/
structure MvL (h : Nat) (W : World) (p : Nat) (v : Value) (s : St) (N : Nat) (w' : World) (v' : Value) : Prop where
  pl : PL h w' p v' s N
  keep : Keep (p :: v.ownBlock.toList) W w'
  own : ∀ g, v'.ownBlock = some g → v.ownBlock = some g ∨ W.heap.size ≤ g
def NxL (h : Nat) (W : World) (p : Nat) (v : Value) (r : Cm) (ok : Bool) (s : St) (N : Nat) (e : Ending) (w' : World) : Prop :=
  ∃ a n cc v', e = .returned (.tuple #[cmV r (.slice a n cc), .bool ok]) ∧ RowT w' a n r.keys ∧ MvL h W p v s N w' v'
theorem next_l (h : Nat) (W : World) (p : Nat) (v : Value) (s : St) (N : Nat) (H : PL h W p v s N) (hW : h ≤ W.heap.size) (hN : N ≤ 1000000) :
    Calls Try.prog 10 #[.pointer (some ⟨p, 0, none⟩)] W (NxL h W p v (rC (nextP oneP s).1) (nextP oneP s).1.isSome (nextP oneP s).2 N) := by
  refine (next_any W p v s N H.at_ hN).mono ?_
  rintro e w' ⟨a, n, cc, v', rfl, hr, hp, hk, ho⟩
  refine ⟨a, n, cc, v', rfl, hr, ⟨hp, H.ge, fun g hg => ?_⟩, hk.more (fun k hk => by simp only [List.mem_singleton] at hk; subst hk; exact List.mem_cons_self ..), ho⟩
  rcases ho g hg with h1 | h1
  · exact H.own g h1
  · omega
def FdL (h : Nat) (W : World) (p : Nat) (v : Value) (s : St) (N : Nat) (e : Ending) (w' : World) : Prop :=
  ∃ v', e = .returned (.tuple #[]) ∧ MvL h W p v s N w' v'
theorem feed_l (h : Nat) (W : World) (p : Nat) (v : Value) (s : St) (N : Nat) (H : PL h W p v s N) (hW : h ≤ W.heap.size) (x : Addr) (m cap : Nat) (l : List UInt8) (hb : BS W (some x) m cap l) (hN : N + m ≤ 1000000) :
    Calls Try.prog 8 #[.pointer (some ⟨p, 0, none⟩), .slice (some x) m cap] W (FdL h W p v (s.app l) (N + m)) := by
  refine (feed_any W p v s N H.at_ x m cap l hb hN).mono ?_
  rintro e w' ⟨rfl, v', hp, hk, ho⟩
  refine ⟨v', rfl, ⟨hp, H.ge, fun g hg => ?_⟩, hk, ho⟩
  rcases ho g hg with h1 | h1
  · exact H.own g h1
  · omega
end Go.Proofs.Ytmfjaehajdephab
