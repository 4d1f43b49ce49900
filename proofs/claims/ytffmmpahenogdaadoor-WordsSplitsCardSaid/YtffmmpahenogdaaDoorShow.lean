/-
  What words.plain, writeOctal and Shown answer, for every text of at most 3000 bytes: the text's pieces, each as it is or in octal digits.
-/
import Derived.Test.YtffmmpahenogdaaDoorRunes
namespace Go.Proofs.YtffmmpahenogdaaDoor
open Go.Shelf Go.RowKit
set_option linter.unusedVariables false

/-- The runes that are shown as they are; none (-1) is not among them. -/
def plainB (r : Int) : Bool := decide (32 < r ∧ r ≠ 127 ∧ r ≠ 34 ∧ r ≠ 92)
theorem plain_at (r : Int) (w : World) : Calls Tryd.prog 28 #[.int .i32 r] w fun e w' => e = .returned (.bool (plainB r)) ∧ w' = w := by
  by_cases h1 : 32 < r
  · by_cases h2 : r = 127
    · subst h2
      go_enter Tryd.func28, Tryd.ntmps28
      go_wp2
      go_ret
      exact ⟨rfl, rfl⟩
    · by_cases h3 : r = 34
      · subst h3
        go_enter Tryd.func28, Tryd.ntmps28
        go_wp2
        go_ret
        exact ⟨rfl, rfl⟩
      · by_cases h4 : r = 92
        · subst h4
          go_enter Tryd.func28, Tryd.ntmps28
          go_wp2
          go_ret
          exact ⟨rfl, rfl⟩
        · rw [show plainB r = true from decide_eq_true ⟨h1, h2, h3, h4⟩]
          go_enter Tryd.func28, Tryd.ntmps28
          go_wp2
          go_ret
          exact ⟨by simp [h2, h3, h4], rfl⟩
  · rw [show plainB r = false from decide_eq_false (fun h => h1 h.1)]
    go_enter Tryd.func28, Tryd.ntmps28
    go_wp2
    go_ret
    exact ⟨by simp, rfl⟩

/-- A byte in octal digits behind a backslash. -/
def oct (b : UInt8) : List UInt8 := [92, UInt8.ofNat (48 + b.toNat / 64), UInt8.ofNat (48 + b.toNat / 8 % 8), UInt8.ofNat (48 + b.toNat % 8)]

theorem writeByte_b (B b : Nat) (acc : List UInt8) (c : Int) (x : UInt8) (hx : c = x.toNat) (w : World) (h : Lib.IsBuilderF 44 5 B b (Lib.byteCells acc) w) (hlen : acc.length + 1 ≤ 100000) (hBw : B ≤ w.heap.size) :
    Calls Tryd.prog 39 #[.pointer (some ⟨b, 0, none⟩), .int .u8 c] w fun e w' => e = .returned .nilIface ∧ Lib.IsBuilderF 44 5 B b (Lib.byteCells (acc ++ [x])) w' ∧ Below B w w' ∧ Lib.OthersKept 5 (some b) w w' := by
  subst hx
  refine (writeByte B b _ _ w h (by rw [Lib.byteCells_length]; omega) hBw).mono ?_
  rintro e w' ⟨rfl, h1, h2, h3⟩
  refine ⟨rfl, ?_, h2, h3⟩
  rw [Lib.byteCells_append]
  exact .inr h1

theorem ofNat_toNat (n : Nat) (h : n < 256) : (UInt8.ofNat n).toNat = n := by
  simp; omega

theorem octal_at (B b : Nat) (acc : List UInt8) (x : UInt8) (w : World) (h : Lib.IsBuilderF 44 5 B b (Lib.byteCells acc) w) (hlen : acc.length + 4 ≤ 100000) (hBw : B ≤ w.heap.size) :
    Calls Tryd.prog 30 #[.pointer (some ⟨b, 0, none⟩), .int .u8 x.toNat] w fun e w' => e = .returned (.tuple #[]) ∧ Lib.IsBuilderF 44 5 B b (Lib.byteCells (acc ++ oct x)) w' ∧ Below B w w' ∧ Lib.OthersKept 5 (some b) w w' := by
  have hx := x.toNat_lt
  go_enter Tryd.func30, Tryd.ntmps30
  go_wp2_with fail
  refine (writeByte_b B b acc _ 92 rfl _ h (by omega) hBw).mono ?_
  rintro e w1 ⟨rfl, h1, b1, k1⟩
  have s1 := b1.size
  go_wp2_with fail
  refine (writeByte_b B b _ _ (UInt8.ofNat (48 + x.toNat / 64)) (by rw [ofNat_toNat _ (by omega)]; omega) _ h1 (by simp; omega) (by omega)).mono ?_
  rintro e w2 ⟨rfl, h2, b2, k2⟩
  have s2 := b2.size
  go_wp2_with fail
  refine (writeByte_b B b _ _ (UInt8.ofNat (48 + x.toNat / 8 % 8)) (by rw [ofNat_toNat _ (by omega)]; omega) _ h2 (by simp; omega) (by omega)).mono ?_
  rintro e w3 ⟨rfl, h3, b3, k3⟩
  have s3 := b3.size
  go_wp2_with fail
  refine (writeByte_b B b _ _ (UInt8.ofNat (48 + x.toNat % 8)) (by rw [ofNat_toNat _ (by omega)]; omega) _ h3 (by simp; omega) (by omega)).mono ?_
  rintro e w4 ⟨rfl, h4, b4, k4⟩
  go_wp2
  go_end0
  refine ⟨rfl, ?_, ((b1.trans b2).trans b3).trans b4, ((k1.trans k2).trans k3).trans k4⟩
  have e1 : acc ++ oct x = acc ++ [92] ++ [UInt8.ofNat (48 + x.toNat / 64)] ++ [UInt8.ofNat (48 + x.toNat / 8 % 8)] ++ [UInt8.ofNat (48 + x.toNat % 8)] := by simp [oct]
  rw [e1]
  exact h4

/-- A piece as it is shown. -/
def shw (p : Int × List UInt8) : List UInt8 := if plainB p.1 then p.2 else p.2.flatMap oct
def shown (l : List UInt8) : List UInt8 := (pieces l).flatMap shw
theorem shown_nil : shown [] = [] := rfl
theorem shown_cons (l : List UInt8) (h : l ≠ []) : shown l = shw ((dec l).1, l.take (wd l)) ++ shown (l.drop (wd l)) := by
  unfold shown wd
  rw [pieces_cons l h]
  rfl

theorem plain_bad (l : List UInt8) (h : good l = false) : plainB (dec l).1 = false := by
  unfold good at h
  unfold plainB
  simp at h
  exact decide_eq_false (by omega)
theorem rn_good (l : List UInt8) (h : good l = true) : rn l = (dec l).1 := by
  unfold good at h
  unfold rn
  simp at h
  rw [if_neg (by omega)]

theorem shw_plain (l : List UInt8) (h : good l = true) (hp : plainB (dec l).1 = true) : shw ((dec l).1, l.take (wd l)) = Lib.encodeRune (rn l) := by
  rw [rn_good l h]
  unfold shw wd
  rw [if_pos hp]
  exact dec_encode l (by unfold good at h; simpa using h)

theorem one_byte (a : UInt8) (t : List UInt8) (hp : plainB (dec (a :: t)).1 = false) : wd (a :: t) = 1 := by
  unfold wd
  rcases dec_cases a t with ⟨_, e⟩ | ⟨_, e⟩ | ⟨n, lo, v, x, h194, hk, hx, hr, e⟩
  · rw [e]
  · rw [e]
  · exfalso
    have hh := (dec_high a t (by omega)).1
    unfold plainB at hp
    simp only [decide_eq_false_iff_not] at hp
    rw [e] at hp hh
    simp only at hp hh
    omega

theorem shw_oct (a : UInt8) (t : List UInt8) (hp : plainB (dec (a :: t)).1 = false) : shw ((dec (a :: t)).1, (a :: t).take (wd (a :: t))) = oct a := by
  rw [one_byte a t hp]
  unfold shw
  rw [if_neg (by rw [hp]; simp)]
  simp

theorem drop_head (s : ByteArray) (i : Nat) (h : i < s.size) : s.data.toList.drop i = s[i] :: s.data.toList.drop (i + 1) := by
  rw [List.drop_eq_getElem_cons (by rw [size8]; exact h)]
  rfl

theorem wd_le4 (l : List UInt8) : (Lib.encodeRune (rn l)).length ≤ 4 := by
  have := Lib.runeCells_le (rn l)
  rw [Lib.runeCells_length] at this
  omega

set_option maxHeartbeats 4000000 in
set_option maxRecDepth 1000000 in
theorem shown_any (s : ByteArray) (w : World) (hs : s.size ≤ 3000) :
    Calls Tryd.prog 14 #[.string s] w fun e w' => e = .returned (.string ⟨(shown s.data.toList).toArray⟩) ∧ Below w.heap.size w w' := by
  have hm : s.size ≤ maxLen := by unfold maxLen; omega
  go_enter Tryd.func14, Tryd.ntmps14
  go_wp2
  go_loopw [] (fun wr => ∃ (pos : Nat) (acc : List UInt8), Lib.IsBuilderF 44 5 w.heap.size w.heap.size (Lib.byteCells acc) wr ∧ wr.heap[w.heap.size + 1]? = some (.stringIter s pos) ∧ Below w.heap.size w wr ∧ Hid (acc ++ shown (s.data.toList.drop pos) = shown s.data.toList) ∧ pos ≤ s.size ∧ acc.length ≤ 4 * pos) (fun wr => s.size - wr.iterPos (w.heap.size + 1))
  case atStart =>
    refine ⟨0, [], (Lib.IsBuilderF.of (Lib.fresh_isBuilder 44 5 w)).alloc _, ?_, ((Below.refl _ w).alloc (Nat.le_refl _) _).alloc (by simp) _, by simp [Hid], by omega, by simp⟩
    have := World.iter_heap (w.alloc (.cells #[.pointer none, .slice none 0 0] 44)) s 0
    simpa using this
  case round =>
    obtain ⟨pos, acc, hI, hit, hbw, H1, hpos, hal⟩ := hrel
    have hsz : w.heap.size + 1 < wr.heap.size := (Array.getElem?_eq_some_iff.1 hit).1
    by_cases hp : pos < s.size
    · have hnx : ∀ ty, (Instr.next (.pointer (some ⟨w.heap.size + 1, 0, none⟩)) true ty).run Tryd.prog wr = _ := fun ty => Lib.run_next_any_at wr (w.heap.size + 1) s pos ty hit hp
      obtain ⟨d1, d2⟩ := decode_rn s pos hp
      rw [d1, d2] at hnx
      have hne := drop_ne s pos hp
      have hw := wd_pos _ hne
      rw [drop_len] at hw
      have hc := shown_cons _ hne
      rw [List.drop_drop] at hc
      have hrb := rn_le (s.data.toList.drop pos)
      clear d1 d2
      have hI2 := hI.iterAt hit (pos + wd (s.data.toList.drop pos))
      have hit2 := Lib.iterAt_heap wr (w.heap.size + 1) s pos (pos + wd (s.data.toList.drop pos)) hit
      have hbw2 := Lib.below_iterAt hbw (k := w.heap.size + 1) (by omega) s (pos + wd (s.data.toList.drop pos))
      have hsz2 : w.heap.size ≤ (wr.iterAt (w.heap.size + 1) s (pos + wd (s.data.toList.drop pos))).heap.size := by rw [Lib.iterAt_size]; omega
      have HC : Hid (shown (s.data.toList.drop pos) = shw ((dec (s.data.toList.drop pos)).1, (s.data.toList.drop pos).take (wd (s.data.toList.drop pos))) ++ shown (s.data.toList.drop (pos + wd (s.data.toList.drop pos)))) := hc
      clear hc
      by_cases hgp : good (s.data.toList.drop pos) = true ∧ plainB (dec (s.data.toList.drop pos)).1 = true
      · have hpl : plainB (rn (s.data.toList.drop pos)) = true := by rw [rn_good _ hgp.1]; exact hgp.2
        have hl4 := wd_le4 (s.data.toList.drop pos)
        have HS : Hid (shw ((dec (s.data.toList.drop pos)).1, (s.data.toList.drop pos).take (wd (s.data.toList.drop pos))) = Lib.encodeRune (rn (s.data.toList.drop pos))) := shw_plain _ hgp.1 hgp.2
        go_wp2_with fail
        refine (formed_at s pos _ _ hp hm rfl).mono ?_
        rintro e w' ⟨rfl, rfl⟩
        rw [hgp.1]
        go_wp2_with fail
        refine (plain_at _ _).mono ?_
        rintro e w' ⟨rfl, rfl⟩
        rw [hpl]
        go_wp2_with (go_at_call 29; refine (writeRune w.heap.size w.heap.size _ _ (by omega) (by omega) _ hI2 (by rw [Lib.byteCells_length]; omega) hsz2).mono ?_)
        rintro e W1 ⟨rfl, h1, b1, k1⟩
        go_wp2
        go_roundw
        case rel =>
          refine ⟨pos + wd (s.data.toList.drop pos), acc ++ Lib.encodeRune (rn (s.data.toList.drop pos)), ?_, k1.iter hit2 (by omega), hbw2.trans b1, ?_, by omega, ?_⟩
          · rw [Lib.byteCells_append, Lib.byteCells_encodeRune]; exact Or.inr h1
          · have a1 := H1.out
            rw [HC.out, HS.out] at a1
            simp only [Hid]
            rw [List.append_assoc]; exact a1
          · simp; omega
        case measure =>
          simp only [World.iterPos, k1.iter hit2 (by omega), hit]
          omega
      · have hnp : plainB (dec (s.data.toList.drop pos)).1 = false := by
          cases hg : good (s.data.toList.drop pos) with
          | false => exact plain_bad _ hg
          | true =>
            cases hq : plainB (dec (s.data.toList.drop pos)).1 with
            | false => rfl
            | true => exact absurd ⟨hg, hq⟩ hgp
        have hdh := drop_head s pos hp
        have HS : Hid (shw ((dec (s.data.toList.drop pos)).1, (s.data.toList.drop pos).take (wd (s.data.toList.drop pos))) = oct s[pos]) := by
          have := shw_oct s[pos] (s.data.toList.drop (pos + 1)) (by rw [← hdh]; exact hnp)
          rw [← hdh] at this
          exact this
        have hfin : ∀ W1 : World, Lib.IsBuilderF 44 5 w.heap.size w.heap.size (Lib.byteCells (acc ++ oct s[pos])) W1 → Below w.heap.size (wr.iterAt (w.heap.size + 1) s (pos + wd (s.data.toList.drop pos))) W1 → Lib.OthersKept 5 (some w.heap.size) (wr.iterAt (w.heap.size + 1) s (pos + wd (s.data.toList.drop pos))) W1 →
            ∃ (pos : Nat) (acc : List UInt8), Lib.IsBuilderF 44 5 w.heap.size w.heap.size (Lib.byteCells acc) W1 ∧ W1.heap[w.heap.size + 1]? = some (.stringIter s pos) ∧ Below w.heap.size w W1 ∧ Hid (acc ++ shown (s.data.toList.drop pos) = shown s.data.toList) ∧ pos ≤ s.size ∧ acc.length ≤ 4 * pos := by
          intro W1 h1 b1 k1
          refine ⟨pos + wd (s.data.toList.drop pos), acc ++ oct s[pos], h1, k1.iter hit2 (by omega), hbw2.trans b1, ?_, by omega, ?_⟩
          · have a1 := H1.out
            rw [HC.out, HS.out] at a1
            simp only [Hid]
            rw [List.append_assoc]; exact a1
          · simp [oct]; omega
        clear hdh
        cases hg : good (s.data.toList.drop pos) with
        | false =>
          go_wp2_with fail
          refine (formed_at s pos _ _ hp hm rfl).mono ?_
          rintro e w' ⟨rfl, rfl⟩
          rw [hg]
          go_wp2_with (go_at_call 30; refine (octal_at w.heap.size w.heap.size acc s[pos] _ hI2 (by omega) hsz2).mono ?_)
          rintro e W1 ⟨rfl, h1, b1, k1⟩
          go_wp2
          go_roundw
          case rel => exact hfin _ h1 b1 k1
          case measure =>
            simp only [World.iterPos, k1.iter hit2 (by omega), hit]
            omega
        | true =>
          have hpl : plainB (rn (s.data.toList.drop pos)) = false := by rw [rn_good _ hg]; exact hnp
          go_wp2_with fail
          refine (formed_at s pos _ _ hp hm rfl).mono ?_
          rintro e w' ⟨rfl, rfl⟩
          rw [hg]
          go_wp2_with fail
          refine (plain_at _ _).mono ?_
          rintro e w' ⟨rfl, rfl⟩
          rw [hpl]
          go_wp2_with (go_at_call 30; refine (octal_at w.heap.size w.heap.size acc s[pos] _ hI2 (by omega) hsz2).mono ?_)
          rintro e W1 ⟨rfl, h1, b1, k1⟩
          go_wp2
          go_roundw
          case rel => exact hfin _ h1 b1 k1
          case measure =>
            simp only [World.iterPos, k1.iter hit2 (by omega), hit]
            omega
    · have hnx : ∀ ty, (Instr.next (.pointer (some ⟨w.heap.size + 1, 0, none⟩)) true ty).run Tryd.prog wr = _ := fun ty => Lib.run_next_end_at wr (w.heap.size + 1) s pos ty hit hp
      go_wp2_with (go_at_call 31; refine (Tryd.Builder_String_any_k w.heap.size w.heap.size acc _ hI (by omega)).mono ?_)
      rintro e W1 ⟨rfl, _, b1, _⟩
      go_wp2
      go_ret
      have e1 := H1.out
      rw [drop_end s pos hp, shown_nil, List.append_nil] at e1
      subst e1
      exact ⟨rfl, hbw.trans b1⟩
end Go.Proofs.YtffmmpahenogdaaDoor
