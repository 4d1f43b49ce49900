/-
  What words.Number, Signed and Text answer: decimal digits there and back.
  Conditions: Text asks that the library's table of powers of ten is laid.
-/
import Derived.Test.YtffmmpahenogdaaDoorRunes
import Derived.Lib.AppendIntMem
import Derived.Lib.Walk
import Derived.BigGuard
namespace Go.Proofs.YtffmmpahenogdaaDoor
open Go.Shelf Go.RowKit Go.Sort Go.Lib
set_option linter.unusedVariables false

/-- Digits behind k, up to 2^64 - 1. -/
def num : List UInt8 → Nat → Option Nat
  | [], k => some k
  | b :: t, k => if 48 ≤ b.toNat ∧ b.toNat ≤ 57 ∧ 10 * k + (b.toNat - 48) ≤ 18446744073709551615 then num t (10 * k + (b.toNat - 48)) else none
def number (l : List UInt8) : Option Nat := if 1 ≤ l.length ∧ l.length ≤ 20 then num l 0 else none
def numV (l : List UInt8) : Nat := (number l).getD 0
def numOk (l : List UInt8) : Bool := (number l).isSome

theorem num_le (l : List UInt8) : ∀ k x, k ≤ 18446744073709551615 → num l k = some x → x ≤ 18446744073709551615 := by
  induction l with
  | nil => intro k x hk h; simp only [num, Option.some.injEq] at h; omega
  | cons b t ih =>
    intro k x hk h
    simp only [num] at h
    split at h
    · rename_i hc; exact ih _ _ hc.2.2 h
    · simp at h

theorem numV_le (l : List UInt8) : numV l ≤ 18446744073709551615 := by
  unfold numV number
  split
  · cases h : num l 0 with
    | none => simp
    | some x => simpa using num_le l 0 x (by omega) h
  · simp

theorem num_none (l : List UInt8) (h : number l = none) : numV l = 0 ∧ numOk l = false := by simp [numV, numOk, h]
theorem num_some (l : List UInt8) (x : Nat) (h : number l = some x) : numV l = x ∧ numOk l = true := by simp [numV, numOk, h]

theorem rn_low (a : UInt8) (t : List UInt8) (h : a.toNat < 128) : rn (a :: t) = (a.toNat : Int) ∧ wd (a :: t) = 1 := by
  unfold rn wd
  rw [dec_low a t h]
  refine ⟨?_, rfl⟩
  rw [if_neg (by simp)]
theorem rn_high (a : UInt8) (t : List UInt8) (h : 128 ≤ a.toNat) : 128 ≤ rn (a :: t) := by
  have := (dec_high a t h).1
  unfold rn
  split <;> omega

set_option maxHeartbeats 4000000 in
set_option maxRecDepth 1000000 in
theorem number_any (s : ByteArray) (w : World) :
    Calls Tryd.prog 10 #[.string s] w fun e w' => e = .returned (.tuple #[.int .u64 (numV s.data.toList), .bool (numOk s.data.toList)]) ∧ Below w.heap.size w w' := by
  by_cases h1 : s.size < 1
  · obtain ⟨e1, e2⟩ := num_none s.data.toList (by unfold number; rw [if_neg (by rw [size8]; omega)])
    rw [e1, e2]
    clear e1 e2
    go_enter Tryd.func10, Tryd.ntmps10
    go_wp2
    go_ret2
    exact ⟨rfl, Below.refl _ _⟩
  by_cases h2 : 20 < s.size
  · obtain ⟨e1, e2⟩ := num_none s.data.toList (by unfold number; rw [if_neg (by rw [size8]; omega)])
    rw [e1, e2]
    clear e1 e2
    go_enter Tryd.func10, Tryd.ntmps10
    go_wp2
    go_ret2
    exact ⟨rfl, Below.refl _ _⟩
  have hN : Hid (number s.data.toList = num s.data.toList 0) := by unfold number; simp only [Hid]; rw [if_pos (by rw [size8]; omega)]
  go_enter Tryd.func10, Tryd.ntmps10
  go_wp2
  go_loopw [4] (fun n wr => ∃ (pos k : Nat), n = .int .u64 k ∧ wr = w.iter s pos ∧ pos ≤ s.size ∧ k ≤ 18446744073709551615 ∧ Hid (num (s.data.toList.drop pos) k = number s.data.toList)) (fun _ wr => s.size - wr.iterPos w.heap.size)
  case atStart => exact ⟨0, 0, rfl, rfl, by omega, by omega, by simpa [Hid] using hN.out.symm⟩
  case round =>
    obtain ⟨pos, k, rfl, rfl, hpos, hk, H1⟩ := hrel
    by_cases hp : pos < s.size
    · have hnx : ∀ ty, (Instr.next (.pointer (some ⟨w.heap.size, 0, none⟩)) true ty).run Tryd.prog (w.iter s pos) = _ := fun ty => run_next_any w s pos ty hp
      obtain ⟨d1, d2⟩ := decode_rn s pos hp
      rw [d1, d2] at hnx
      clear d1 d2
      have hdh : s.data.toList.drop pos = s[pos] :: s.data.toList.drop (pos + 1) := by
        rw [List.drop_eq_getElem_cons (by rw [size8]; exact hp)]; rfl
      have H2 := H1.out
      rw [hdh] at H2 hnx
      generalize s[pos] = a at H2 hnx hdh
      have hal := a.toNat_lt
      by_cases hd : 48 ≤ a.toNat ∧ a.toNat ≤ 57
      · obtain ⟨r1, r2⟩ := rn_low a (s.data.toList.drop (pos + 1)) (by omega)
        rw [r1, r2] at hnx
        obtain ⟨d, hd'⟩ : ∃ d : Nat, a.toNat = 48 + d := ⟨a.toNat - 48, by omega⟩
        rw [hd'] at hnx
        have hd9 : d ≤ 9 := by omega
        have HA : Hid (num (a :: s.data.toList.drop (pos + 1)) k = if 10 * k + d ≤ 18446744073709551615 then num (s.data.toList.drop (pos + 1)) (10 * k + d) else none) := by
          simp only [Hid, num]
          rw [show a.toNat - 48 = d by omega]
          by_cases hq : 10 * k + d ≤ 18446744073709551615
          · rw [if_pos ⟨by omega, by omega, hq⟩, if_pos hq]
          · rw [if_neg (by omega), if_neg hq]
        have H3 : Hid (num (a :: s.data.toList.drop (pos + 1)) k = number s.data.toList) := H2
        clear H2 H1 hd' r1 r2 hdh hd hal
        by_cases hov : 10 * k + d ≤ 18446744073709551615
        · have hle : ¬ ((18446744073709551615 - (d : Int)) / 10 < (k : Int)) := by omega
          go_wp2
          go_roundw
          case rel => exact ⟨pos + 1, 10 * k + d, by go_num, rfl, by omega, hov, by have := H3.out; rw [HA.out, if_pos hov] at this; exact this⟩
          case measure => simp; omega
        · have hle : ((18446744073709551615 - (d : Int)) / 10 < (k : Int)) := by omega
          go_wp2
          go_ret2
          have e1 := H3.out
          rw [HA.out, if_neg hov] at e1
          obtain ⟨e2, e3⟩ := num_none _ e1.symm
          rw [e2, e3]
          exact ⟨rfl, (Below.refl _ w).alloc (Nat.le_refl _) _⟩
      · have HN : Hid (number s.data.toList = none) := by
          simp only [Hid]
          rw [← H2]
          simp only [num]
          rw [if_neg (by omega)]
        have hr : rn (a :: s.data.toList.drop (pos + 1)) < 48 ∨ 57 < rn (a :: s.data.toList.drop (pos + 1)) := by
          by_cases ha : a.toNat < 128
          · obtain ⟨r1, r2⟩ := rn_low a (s.data.toList.drop (pos + 1)) ha
            rw [r1]; omega
          · have := rn_high a (s.data.toList.drop (pos + 1)) (by omega)
            omega
        clear H2 H1 hdh hd hal
        generalize rn (a :: s.data.toList.drop (pos + 1)) = r at hr hnx
        rcases hr with hr | hr
        · go_wp2
          go_ret2
          obtain ⟨e2, e3⟩ := num_none _ HN.out
          rw [e2, e3]
          exact ⟨rfl, (Below.refl _ w).alloc (Nat.le_refl _) _⟩
        · have hr2 : ¬ r < 48 := by omega
          go_wp2
          go_ret2
          obtain ⟨e2, e3⟩ := num_none _ HN.out
          rw [e2, e3]
          exact ⟨rfl, (Below.refl _ w).alloc (Nat.le_refl _) _⟩
    · have hnx : ∀ ty, (Instr.next (.pointer (some ⟨w.heap.size, 0, none⟩)) true ty).run Tryd.prog (w.iter s pos) = _ := fun ty => run_next_end w s pos ty hp
      go_wp2
      go_ret2
      have e1 := H1.out
      rw [drop_end s pos hp] at e1
      obtain ⟨e2, e3⟩ := num_some _ k e1.symm
      rw [e2, e3]
      exact ⟨rfl, (Below.refl _ w).alloc (Nat.le_refl _) _⟩

/-- A number with a sign. -/
def signed (l : List UInt8) : Option Int :=
  if Lib.hasPrefix l [45] then
    match number (Lib.trimPrefix l [45]) with
    | some n => if n ≤ 9223372036854775808 then some (-(n : Int)) else none
    | none => none
  else
    match number l with
    | some n => if n < 9223372036854775808 then some (n : Int) else none
    | none => none
def sgnV (l : List UInt8) : Int := (signed l).getD 0
def sgnOk (l : List UInt8) : Bool := (signed l).isSome
theorem sgn_none (l : List UInt8) (h : signed l = none) : sgnV l = 0 ∧ sgnOk l = false := by simp [sgnV, sgnOk, h]
theorem sgn_some (l : List UInt8) (x : Int) (h : signed l = some x) : sgnV l = x ∧ sgnOk l = true := by simp [sgnV, sgnOk, h]

theorem trim_not (l p : List UInt8) (h : Lib.hasPrefix l p = false) : Lib.trimPrefix l p = l := by
  unfold Lib.trimPrefix
  rw [if_neg (by rw [h]; simp)]

set_option maxHeartbeats 4000000 in
set_option maxRecDepth 1000000 in
theorem signed_any (s : ByteArray) (w : World) :
    Calls Tryd.prog 11 #[.string s] w fun e w' => e = .returned (.tuple #[.int .i64 (sgnV s.data.toList), .bool (sgnOk s.data.toList)]) ∧ Below w.heap.size w w' := by
  generalize hl : s.data.toList = l
  cases hb : Lib.hasPrefix l [45] with
  | true =>
    cases hn : number (Lib.trimPrefix l [45]) with
    | none =>
      obtain ⟨e2, e3⟩ := sgn_none l (by unfold signed; rw [hb, hn]; rfl)
      obtain ⟨e4, e5⟩ := num_none _ hn
      rw [e2, e3]
      clear e2 e3
      go_enter Tryd.func11, Tryd.ntmps11
      go_wp2_with fail
      refine (Tryd.strings_CutPrefix _ _ _).mono ?_
      rintro e w' ⟨rfl, rfl⟩
      rw [hl, hb]
      go_wp2_with fail
      refine (number_any _ _).mono ?_
      rintro e w1 ⟨rfl, b1⟩
      rw [e4, e5]
      go_wp2
      go_ret2
      exact ⟨rfl, b1⟩
    | some n =>
      obtain ⟨e4, e5⟩ := num_some _ _ hn
      have hn64 := numV_le (Lib.trimPrefix l [45])
      rw [e4] at hn64
      by_cases hc : n ≤ 9223372036854775808
      · obtain ⟨e2, e3⟩ := sgn_some l (-(n : Int)) (by unfold signed; rw [hb, hn]; simp [hc])
        rw [e2, e3]
        clear e2 e3
        have hci : (n : Int) ≤ 9223372036854775808 := by omega
        have hwr : IntKind.i64.wrap (IntKind.u64.wrap (-(n : Int))) = -(n : Int) := by rw [IntKind.wrap_i64, IntKind.wrap_u64]; omega
        go_enter Tryd.func11, Tryd.ntmps11
        go_wp2_with fail
        refine (Tryd.strings_CutPrefix _ _ _).mono ?_
        rintro e w' ⟨rfl, rfl⟩
        rw [hl, hb]
        go_wp2_with fail
        refine (number_any _ _).mono ?_
        rintro e w1 ⟨rfl, b1⟩
        rw [e4, e5]
        go_wp2
        go_ret2
        exact ⟨rfl, b1⟩
      · obtain ⟨e2, e3⟩ := sgn_none l (by unfold signed; rw [hb, hn]; simp [hc])
        rw [e2, e3]
        clear e2 e3
        have hci : ¬ (n : Int) ≤ 9223372036854775808 := by omega
        go_enter Tryd.func11, Tryd.ntmps11
        go_wp2_with fail
        refine (Tryd.strings_CutPrefix _ _ _).mono ?_
        rintro e w' ⟨rfl, rfl⟩
        rw [hl, hb]
        go_wp2_with fail
        refine (number_any _ _).mono ?_
        rintro e w1 ⟨rfl, b1⟩
        rw [e4, e5]
        go_wp2
        go_ret2
        exact ⟨rfl, b1⟩
  | false =>
    have ht := trim_not l [45] hb
    cases hn : number l with
    | none =>
      obtain ⟨e2, e3⟩ := sgn_none l (by unfold signed; rw [hb, hn]; rfl)
      obtain ⟨e4, e5⟩ := num_none _ hn
      rw [e2, e3]
      clear e2 e3
      go_enter Tryd.func11, Tryd.ntmps11
      go_wp2_with fail
      refine (Tryd.strings_CutPrefix _ _ _).mono ?_
      rintro e w' ⟨rfl, rfl⟩
      rw [hl, hb, ht]
      go_wp2_with fail
      refine (number_any _ _).mono ?_
      rintro e w1 ⟨rfl, b1⟩
      rw [e4, e5]
      go_wp2
      go_ret2
      exact ⟨rfl, b1⟩
    | some n =>
      obtain ⟨e4, e5⟩ := num_some _ _ hn
      have hn64 := numV_le l
      rw [e4] at hn64
      by_cases hc : n < 9223372036854775808
      · obtain ⟨e2, e3⟩ := sgn_some l (n : Int) (by unfold signed; rw [hb, hn]; simp [hc])
        rw [e2, e3]
        clear e2 e3
        have hci : (n : Int) < 9223372036854775808 := by omega
        have hwr : IntKind.i64.wrap (n : Int) = (n : Int) := by rw [IntKind.wrap_i64]; omega
        go_enter Tryd.func11, Tryd.ntmps11
        go_wp2_with fail
        refine (Tryd.strings_CutPrefix _ _ _).mono ?_
        rintro e w' ⟨rfl, rfl⟩
        rw [hl, hb, ht]
        go_wp2_with fail
        refine (number_any _ _).mono ?_
        rintro e w1 ⟨rfl, b1⟩
        rw [e4, e5]
        go_wp2
        go_ret2
        exact ⟨rfl, b1⟩
      · obtain ⟨e2, e3⟩ := sgn_none l (by unfold signed; rw [hb, hn]; simp [hc])
        rw [e2, e3]
        clear e2 e3
        have hci : ((n : Int) < 9223372036854775808) = False := by simp; omega
        clear hc hn64
        go_enter Tryd.func11, Tryd.ntmps11
        go_wp2_with fail
        refine (Tryd.strings_CutPrefix _ _ _).mono ?_
        rintro e w' ⟨rfl, rfl⟩
        rw [hl, hb, ht]
        go_wp2_with fail
        refine (number_any _ _).mono ?_
        rintro e w1 ⟨rfl, b1⟩
        rw [e4, e5]
        go_wp2
        go_ret2
        exact ⟨rfl, b1⟩

def Tab (w : World) : Prop := Lib.TabIs Tryd.prog w "internal/strconv.uint64pow10" .u64 Lib.pow10Tab
theorem Tab.later {w w' : World} (h : Tab w) (hb : Below w.heap.size w w') : Tab w' := (Lib.tabBelow_of_tabIs h) w' hb
def digits (n : Nat) : List UInt8 := Lib.decDigits n

set_option maxHeartbeats 6400000 in
set_option maxRecDepth 100000 in
theorem formatUint (u : Nat) (hu64 : u < 18446744073709551616) (w : World) (htab : Tab w) :
    Calls Tryd.prog 40 #[.int .u64 u, .int .i64 10] w fun e w' => e = .returned (.string ⟨(Lib.decDigits u).toArray⟩) ∧ Below w.heap.size w w' := by
  by_cases hs : u < 100
  · have hsi : (u : Int) < 100 := by omega
    go_enter Tryd.func40, Tryd.ntmps40
    go_wp2_with (go_at_call 44; refine (Tryd.internal_strconv_small u hs _).mono ?_; rintro e w' ⟨rfl, rfl⟩)
    go_ret
    exact ⟨rfl, Below.refl _ _⟩
  · have hu1 : 1 ≤ u := by omega
    have hnd20 : Lib.nDigits u ≤ 20 := by have := Lib.numDigits_eq u hu1 hu64; split at this <;> omega
    have hal : Tryd.prog.arrayLen 62 = 24 := by simp [Program.arrayLen, Tryd.underlying62]
    have hsl : ∀ W, (Instr.sliceAt 62 (.pointer (some ⟨w.heap.size, 0, none⟩)) none (some (.int .i64 (Lib.nDigits u : Int))) none).run Tryd.prog W = .ok (.slice (some ⟨w.heap.size, 0, none⟩) (Lib.nDigits u) 24) W := fun W => by
      rw [run_sliceAt_array_h W 62 ⟨w.heap.size, 0, none⟩ (by simp [Program.arrayLen, Program.elem, Tryd.underlying62]) .i64 (Lib.nDigits u : Int) (by omega) (by rw [hal]; omega)]
      go_simp
    have hH0 := Lib.holds_zero0 w 62 (Lib.nDigits u) (by omega)
    have hfmt := Tryd.internal_strconv_formatBase10 w.heap.size 0 24 u (Array.replicate (Lib.nDigits u) 0) (w.alloc (.cells Lib.zeros24 62)) hH0 (by rw [Array.size_replicate]; exact Lib.lt_pow_nDigits u) hu64 (by rw [Array.size_replicate]; omega)
    rw [Array.size_replicate] at hfmt
    have HH0 := Lib.hid hH0
    have iu : ¬ (u : Int) < 100 := by omega
    clear hH0 hal
    go_enter Tryd.func40, Tryd.ntmps40
    go_wp2_with (go_at_call 45; refine (Tryd.internal_strconv_numDigits u hu1 hu64 _ (Lib.tabIs_alloc htab _)).mono ?_; rintro e w' ⟨rfl, rfl⟩)
    go_at_call 46
    refine hfmt.mono ?_
    rintro e w' ⟨rfl, k, v', dk, rfl, hF⟩
    have hcv : (convert 42 9 (.slice (some ⟨w.heap.size, 0, none⟩) (Lib.nDigits u) 24)).run Tryd.prog ((putRow (fun (b : UInt8) => Value.int .u8 (b.toNat : Int)) (w.alloc (.cells Lib.zeros24 62)) w.heap.size 0 dk).drewN k) = .ok (.string ⟨(Lib.decDigits u).toArray⟩) ((putRow (fun (b : UInt8) => Value.int .u8 (b.toNat : Int)) (w.alloc (.cells Lib.zeros24 62)) w.heap.size 0 dk).drewN k) := by
      have h := run_convert_bytes_back (P := Tryd.prog) ((putRow (fun (b : UInt8) => Value.int .u8 (b.toNat : Int)) (w.alloc (.cells Lib.zeros24 62)) w.heap.size 0 dk).drewN k) 42 9 5 ⟨w.heap.size, 0, none⟩ 24 (Lib.decDigits u) Tryd.underlying42 Tryd.underlying5 Tryd.underlying9 (fun j hj => by
        rw [Lib.row_is_numeral hF j hj, Lib.add_plain, World.cell?_drewN]
        exact cell?_putRow (fun (b : UInt8) => Value.int .u8 (b.toNat : Int)) _ w.heap.size 0 _ dk HH0.out (by rw [hF.size, Array.size_replicate]) j (by rw [hF.size]; rw [Lib.decDigits_length] at hj; exact hj))
      rw [Lib.decDigits_length] at h
      exact h
    go_wp2
    go_ret
    obtain ⟨os, eo⟩ := Lib.fin_at w (.cells Lib.zeros24 62) dk k 0
    refine ⟨rfl, ?_⟩
    rw [eo]
    exact Lib.below_grow _ w (Nat.le_refl _) k os

theorem text_any (u : Nat) (hu64 : u < 18446744073709551616) (w : World) (htab : Tab w) :
    Calls Tryd.prog 22 #[.int .u64 u] w fun e w' => e = .returned (.string ⟨(digits u).toArray⟩) ∧ Below w.heap.size w w' := by
  have hf : Calls Tryd.prog 33 #[.int .u64 u, .int .i64 10] w fun e w' => e = .returned (.string ⟨(digits u).toArray⟩) ∧ Below w.heap.size w w' := by
    go_enter Tryd.func33, Tryd.ntmps33
    go_wp2_with fail
    refine (formatUint u hu64 w htab).mono ?_
    rintro e w' ⟨rfl, hb⟩
    go_wp2
    go_ret
    exact ⟨rfl, hb⟩
  go_enter Tryd.func22, Tryd.ntmps22
  go_wp2_with fail
  refine hf.mono ?_
  rintro e w' ⟨rfl, hb⟩
  go_wp2
  go_ret
  exact ⟨rfl, hb⟩
end Go.Proofs.YtffmmpahenogdaaDoor
