/-
  Rows of texts: as they come in, as a call owns them; Clone of a text and of a row, append([]string{}, row...), first, allKeys.
-/
import Derived.Test.YtmfjaehajdephabJN
import Derived.SliceStrings
import Derived.ChangeSlices
import Derived.Deep.Slices
import Derived.Deep.AppendSrc
import Derived.Deep.Heap
import Derived.Laws.IdiomCopy
import Derived.Laws.AppendOwn
import Derived.SizedLaws
import Derived.OpenShut
import Derived.Below
import Derived.IntWalk
import Derived.WalkSmall
import Derived.Lib.SmallJoins
namespace Go.Proofs.Ytmfjaehajdephab
open Go.Shelf Go.RowKit Go.Deep Go.ChangeShapes Go.WideShapes
set_option linter.unusedVariables false
set_option linter.unusedSimpArgs false

def strC (l : List ByteArray) : List Value := l.map Value.string
structure StrsAt (w : World) (a : Option Addr) (len : Nat) (xs : List ByteArray) : Prop where
  len : len = xs.length
  fits : ∀ x ∈ xs, x.size ≤ 140737488351232
  cell : ∀ i x, xs[i]? = some x → ∃ b o, a = some ⟨b, o, none⟩ ∧ b < w.heap.size ∧ w.cell? ⟨b, o + i, none⟩ = some (.string x)
theorem StrsAt.later {w W : World} {a : Option Addr} {len : Nat} {xs : List ByteArray} (h : StrsAt w a len xs) (k : Below w.heap.size w W) : StrsAt W a len xs :=
  ⟨h.len, h.fits, fun i x hx => by
    obtain ⟨b, o, ha, hb, hc⟩ := h.cell i x hx
    exact ⟨b, o, ha, Nat.lt_of_lt_of_le hb k.size, (World.cell?_of_block (k.block b hb)).trans hc⟩⟩
theorem StrsAt.nil {w : World} {a : Option Addr} : StrsAt w a 0 [] := ⟨rfl, fun x hx => by simp at hx, fun i x hx => by simp at hx⟩
theorem StrsAt.key {w : World} {a : Option Addr} {len : Nat} {xs : List ByteArray} (h : StrsAt w a len xs) (i : Nat) (hi : i < len) :
    ∃ b o x, a = some ⟨b, o, none⟩ ∧ xs[i]? = some x ∧ x.size ≤ 140737488351232 ∧ b < w.heap.size ∧ w.cell? ⟨b, o + i, none⟩ = some (.string x) := by
  have hx := List.getElem?_eq_getElem (l := xs) (i := i) (by rw [← h.len]; exact hi)
  obtain ⟨b, o, ha, hb, hc⟩ := h.cell i _ hx
  exact ⟨b, o, _, ha, hx, h.fits _ (List.getElem_mem _), hb, hc⟩
theorem own_strs {W : World} {base n c : Nat} {a : Option Addr} {xs : List ByteArray} (h : W.ownsRow base 9 1 (.slice a n c) n (strC xs)) (hf : ∀ x ∈ xs, x.size ≤ 140737488351232) : StrsAt W a n xs := by
  have hl : n = xs.length := by have := h.1; simp [strC] at this; omega
  refine ⟨hl, hf, fun i x hx => ?_⟩
  have hi : i < xs.length := (List.getElem?_eq_some_iff.1 hx).1
  rcases h.2 with ⟨hv, h0⟩ | ⟨g, cap, cur, hv, hb, hg, h1, h2, h3, h4⟩
  · omega
  · simp only [Value.slice.injEq] at hv
    obtain ⟨rfl, _, _⟩ := hv
    refine ⟨g, 0, rfl, (Array.getElem?_eq_some_iff.1 hg).1, ?_⟩
    have e : (strC xs)[i]? = some (.string x) := by simp [strC, hx]
    rw [← h4, List.getElem?_take_of_lt (by omega), Array.getElem?_toList] at e
    rw [Nat.zero_add]
    simp [World.cell?, hg, e]

theorem infoStr : ∃ i0, Try.prog.info? 9 = some i0 ∧ i0.zero = some (.string ⟨#[]⟩) ∧ i0.size = 1 ∧ i0.bytes = 16 := by
  obtain ⟨i, hi, he⟩ := Option.map_eq_some_iff.1 (show (Try.prog.info? 9).map (fun i => (i.zero, i.size, i.bytes)) = some (some (.string ⟨#[]⟩), 1, 16) by kernel_rfl)
  simp only [Prod.mk.injEq] at he
  exact ⟨i, hi, he.1, he.2.1, he.2.2⟩

/-- 'append(row, texts...)' onto a row of the call's own. -/
theorem append_strs (w1 : World) (base : Nat) (v : Value) (k : Nat) (A : List ByteArray) (hown : w1.ownsRow base 9 1 v k (strC A)) (hv : v ≠ .slice none 0 0) (a : Option Addr) (n cap : Nat) (l : List ByteArray) (hb : StrsAt w1 a n l) (hk : k + n ≤ 5000) (hB : base ≤ w1.heap.size) :
    ∃ g c w', (Builtin.append_ #[28, 28] 28 #[v, .slice a n cap]).run Try.prog w1 = .ok (.slice (some ⟨g, 0, none⟩) (k + n) c) w' ∧
      w'.ownsRow base 9 1 (.slice (some ⟨g, 0, none⟩) (k + n) c) (k + n) (strC (A ++ l)) ∧ Below base w1 w' := by
  obtain ⟨i0, hi0, hz0, hz1, hz2⟩ := infoStr
  have hn := hb.len
  cases a with
  | none =>
    have hn0 : n = 0 := by
      rcases Nat.eq_zero_or_pos n with h | h
      · exact h
      · obtain ⟨b, o, x, ha, _⟩ := hb.key 0 h
        cases ha
    subst hn0
    obtain rfl : l = [] := List.eq_nil_of_length_eq_zero hn.symm
    rcases hown.2 with ⟨h0, _⟩ | ⟨g', cap', cur, rfl, hbb, hc, h1, h2, h3, h4⟩
    · exact absurd h0 hv
    have h := run_append_room_src (P := Try.prog) w1 28 28 28 9 i0 Try.underlying28 hi0 g' 0 k cap' (.slice none 0 cap) 0 [] (Src.ofNil _ Try.underlying28 cap) h1 (fun j hj => by simp at hj) (fun j hj => by simp at hj)
    refine ⟨g', cap', w1, h, ?_, Below.refl _ _⟩
    rw [List.append_nil]
    exact hown
  | some x =>
    have hcells : ∀ j u, (strC l)[j]? = some u → w1.cell? (x.add j) = some u := by
      intro j u hj
      have hjl : j < l.length := by have := (List.getElem?_eq_some_iff.1 hj).1; simpa [strC] using this
      obtain ⟨b, off, ha, _, hc⟩ := hb.cell j _ (List.getElem?_eq_getElem hjl)
      cases ha
      rw [Addr.add_lit, hc]
      have e : (strC l)[j]? = some (.string l[j]) := by simp [strC, hjl]
      rw [e] at hj
      exact hj
    obtain ⟨v', w', hr, ho, hg, hnl⟩ := run_append_own (P := Try.prog) w1 base 28 28 9 i0 (.string ⟨#[]⟩) 1 16 Try.underlying28 hi0 hz0 hz1 hz2 rfl (by decide) _ k (strC A) hown x n cap (strC l) (by simp [strC, hn]) hcells
      (fun u hu => by obtain ⟨_, _, rfl⟩ := List.mem_map.1 hu; rfl) (by unfold maxLen; omega) (by omega) hB
    have e : strC A ++ strC l = strC (A ++ l) := by simp [strC]
    rw [e] at ho
    obtain ⟨g, c, rfl⟩ : ∃ g c, v' = .slice (some ⟨g, 0, none⟩) (k + n) c := by
      rcases ho.2 with ⟨h, _⟩ | ⟨g, c, cur, hv, _⟩
      · exact absurd (hnl.1 h).1 hv
      · exact ⟨g, c, hv⟩
    exact ⟨g, c, w', hr, ho, (Below.refl base w1).grown hg hB (fun q hq => (hown.lt q hq).1)⟩
/-- 'append([]string{}, texts...)'. -/
theorem append_fresh (w1 : World) (a : Option Addr) (n cap : Nat) (l : List ByteArray) (hb : StrsAt w1 a n l) (hk : n ≤ 5000) :
    ∃ g c w', (Builtin.append_ #[28, 28] 28 #[.slice (some ⟨w1.heap.size, 0, none⟩) 0 0, .slice a n cap]).run Try.prog (w1.alloc (.cells #[] 9)) = .ok (.slice (some ⟨g, 0, none⟩) n c) w' ∧
      w'.ownsRow w1.heap.size 9 1 (.slice (some ⟨g, 0, none⟩) n c) n (strC l) ∧ Below w1.heap.size w1 w' := by
  have hown : (w1.alloc (.cells #[] 9)).ownsRow w1.heap.size 9 1 (.slice (some ⟨w1.heap.size, 0, none⟩) 0 0) 0 (strC []) := World.ownsRow_made w1 #[] 0 (Nat.le_refl _) (Nat.zero_le _) (by simp)
  have k1 : Below w1.heap.size w1 (w1.alloc (.cells #[] 9)) := (Below.refl _ _).alloc (Nat.le_refl _) _
  obtain ⟨g, c, w', h1, h2, h3⟩ := append_strs _ w1.heap.size _ 0 [] hown (by simp) a n cap l (hb.later k1) (by omega) k1.size
  rw [Nat.zero_add] at h1 h2
  exact ⟨g, c, w', h1, h2, k1.trans h3⟩

theorem clone_any (s : ByteArray) (w : World) (h : s.size ≤ 281474976710656) : Calls Try.prog 47 #[.string s] w fun e w' => e = .returned (.string s) ∧ Below w.heap.size w w' := by
  go_enter Try.func47, Try.ntmps47
  go_wp2_with fail
  refine (Try.stringslite_Clone s w (by omega)).mono ?_
  rintro e w' ⟨rfl, hb⟩
  go_wp2
  go_ret
  exact ⟨rfl, hb⟩

theorem cloneRow (a : Option Addr) (n cap : Nat) (xs : List ByteArray) (w : World) (h : StrsAt w a n xs) (hn : n ≤ 5000) :
    Calls Try.prog 83 #[.slice a n cap] w fun e w' => ∃ a' c', e = .returned (.slice a' n c') ∧ w'.ownsRow w.heap.size 9 1 (.slice a' n c') n (strC xs) ∧ Below w.heap.size w w' := by
  cases a with
  | none =>
    have hn0 : n = 0 := by
      rcases Nat.eq_zero_or_pos n with h' | h'
      · exact h'
      · obtain ⟨b, o, x, ha, _⟩ := h.key 0 h'
        cases ha
    subst hn0
    obtain rfl : xs = [] := List.eq_nil_of_length_eq_zero h.len.symm
    refine (Try.slices_Clone_string_nil 0 cap w).mono ?_
    rintro e w' ⟨rfl, rfl⟩
    exact ⟨none, 0, rfl, World.ownsRow_nil _ _ _ _, Below.refl _ _⟩
  | some x =>
    rcases Nat.eq_zero_or_pos n with h0 | h0
    · subst h0
      obtain rfl : xs = [] := List.eq_nil_of_length_eq_zero h.len.symm
      refine (Try.slices_Clone_string_zero x cap w).mono ?_
      rintro e w' ⟨v', rfl, h1, h2, h3⟩
      rcases Joins.ownsRow_forms h1 with ⟨h4, _⟩ | ⟨g, c, rfl⟩
      · exact absurd h4 h2
      · exact ⟨_, _, rfl, h1, h3⟩
    · obtain ⟨b, o, y, ha, _⟩ := h.key 0 h0
      cases ha
      refine (Try.slices_Clone_string b o n cap xs w (by rw [h.len]; exact Nat.le_refl _) (by omega) (fun j hj => ?_)).mono ?_
      · obtain ⟨b', o', hb', _, hc⟩ := h.cell j _ (List.getElem?_eq_getElem hj)
        cases hb'
        rw [hc, List.getD_eq_getElem?_getD, List.getElem?_eq_getElem hj]
        rfl
      · rintro e w' ⟨v', rfl, h1, h2, h3⟩
        rw [List.take_of_length_le (by rw [h.len]; exact Nat.le_refl _)] at h1
        rcases Joins.ownsRow_forms h1 with ⟨h4, _⟩ | ⟨g, c, rfl⟩
        · exact absurd h4 h2
        · exact ⟨_, _, rfl, h1, h3⟩

/-- The first of a row; nothing, if there is none. -/
def hd (xs : List ByteArray) : ByteArray := xs.headD ByteArray.empty
theorem first_any (a : Option Addr) (n cap : Nat) (xs : List ByteArray) (w : World) (h : StrsAt w a n xs) (hn : n ≤ 5000) :
    Calls Try.prog 84 #[.slice a n cap] w fun e w' => e = .returned (.string (hd xs)) ∧ w' = w := by
  rcases Nat.eq_zero_or_pos n with h0 | h0
  · subst h0
    obtain rfl : xs = [] := List.eq_nil_of_length_eq_zero h.len.symm
    go_enter Try.func84, Try.ntmps84
    go_wp2
    go_ret
    exact ⟨rfl, rfl⟩
  · obtain ⟨b, o, x, rfl, hx, _, hb, hc⟩ := h.key 0 h0
    have e : hd xs = x := by
      cases xs with
      | nil => simp at hx
      | cons y r => simp at hx; exact hx
    rw [e, Nat.add_zero] at *
    clear hx e h
    go_enter Try.func84, Try.ntmps84
    go_wp2
    go_ret
    exact ⟨rfl, rfl⟩

/-- A number, as a measure. -/
def vi : Value → Nat
  | .int _ z => z.toNat
  | _ => 0
def keyB (s : ByteArray) : Bool := isKey s.data.toList
theorem all_drop {xs : List ByteArray} {k : Nat} {x : ByteArray} (hx : xs[k]? = some x) : (xs.drop k).all keyB = (keyB x && (xs.drop (k + 1)).all keyB) := by
  have hk := (List.getElem?_eq_some_iff.1 hx).1
  rw [List.drop_eq_getElem_cons hk, List.all_cons, (List.getElem?_eq_some_iff.1 hx).2]
set_option maxHeartbeats 4000000 in
set_option maxRecDepth 1000000 in
theorem allKeys_any (a : Option Addr) (n cap : Nat) (xs : List ByteArray) (w : World) (h : StrsAt w a n xs) (hn : n ≤ 5000) :
    Calls Try.prog 72 #[.slice a n cap] w fun e w' => e = .returned (.bool (xs.all keyB)) ∧ Below w.heap.size w w' := by
  go_enter Try.func72, Try.ntmps72
  go_wp2
  go_loopw [7] (fun i wr => ∃ k : Nat, i = .int .i64 k ∧ k ≤ n ∧ Below w.heap.size w wr ∧ Hid ((xs.drop k).all keyB = xs.all keyB)) (fun i _ => n - vi i)
  case atStart => exact ⟨0, rfl, by omega, Below.refl _ _, rfl⟩
  case round =>
    obtain ⟨k, rfl, hk, hb, H⟩ := hrel
    by_cases hlt : k < n
    · obtain ⟨b, o, x, rfl, hx, hs, hbb, hc⟩ := (h.later hb).key k hlt
      have hd := all_drop hx
      have HD : Hid ((xs.drop k).all keyB = (keyB x && (xs.drop (k + 1)).all keyB)) := hd
      clear hd hx
      go_wp2_with fail
      refine (key_any x _ (by unfold maxLen; omega)).mono ?_
      rintro e w' ⟨rfl, hb2⟩
      cases hq : isKey x.data.toList with
      | true =>
        go_wp2
        go_roundw
        case rel => exact ⟨k + 1, by go_num, by omega, hb.trans (hb2.mono hb.size), by have := H.out; rw [HD.out, show keyB x = true from hq, Bool.true_and] at this; exact this⟩
        case measure => simp [vi]; omega
      | false =>
        go_wp2
        go_ret
        exact ⟨by rw [← H.out, HD.out, show keyB x = false from hq]; rfl, hb.trans (hb2.mono hb.size)⟩
    · have e : k = n := by omega
      subst e
      go_wp2
      go_ret
      have := H.out
      rw [List.drop_of_length_le (by rw [← h.len]; exact Nat.le_refl _)] at this
      exact ⟨by rw [← this]; rfl, hb⟩
end Go.Proofs.Ytmfjaehajdephab
