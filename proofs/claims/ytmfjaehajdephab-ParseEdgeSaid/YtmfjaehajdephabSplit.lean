/-
  What words.Split answers, for every line of at most 10000 bytes: its longest runs of bytes that are not 32, in a slice of its own.
-/
import Derived.Test.YtmfjaehajdephabJN
import Derived.WalkSmall
import Derived.Lib.SmallJoins
import Derived.Lib.OwnKind
namespace Go.Proofs.Ytmfjaehajdephab
open Go.Shelf Go.RowKit
set_option linter.unusedVariables false

/-- The words of a line, byte by byte; w: the word under way. -/
def spl : List UInt8 → List UInt8 → List (List UInt8)
  | w, [] => if w = [] then [] else [w]
  | w, b :: t => if b = 32 then (if w = [] then spl [] t else w :: spl [] t) else spl (w ++ [b]) t

theorem spl_run (p : List UInt8) : ∀ (w t : List UInt8), (∀ x ∈ p, x ≠ 32) → spl w (p ++ t) = spl (w ++ p) t := by
  induction p with
  | nil => intro w t _; simp
  | cons b p ih =>
    intro w t h
    have hb : b ≠ 32 := h b (by simp)
    simp only [List.cons_append, spl, if_neg hb]
    rw [ih (w ++ [b]) t (fun x hx => h x (by simp [hx]))]
    simp

theorem run_no32 (l : List UInt8) (h : rn l ≠ 32) : ∀ x ∈ l.take (wd l), x ≠ 32 := by
  cases l with
  | nil => intro x hx; simp at hx
  | cons a t =>
    intro x hx e
    subst e
    by_cases ha : a.toNat < 128
    · unfold rn wd at *
      rw [dec_low a t ha] at h hx
      simp at hx
      subst hx
      simp at h
    · have := (dec_high a t (by omega)).2 32 hx
      simp at this

theorem rn32 (a : UInt8) (t : List UInt8) (h : rn (a :: t) = 32) : a = 32 ∧ wd (a :: t) = 1 := by
  by_cases ha : a.toNat < 128
  · unfold rn wd at *
    rw [dec_low a t ha] at h ⊢
    refine ⟨?_, rfl⟩
    rw [if_neg (by simp)] at h
    simp at h
    apply UInt8.toNat_inj.1
    rw [show (32 : UInt8).toNat = 32 from rfl]
    omega
  · have := (dec_high a t (by omega)).1
    unfold rn at h
    split at h <;> omega

/-- The piece of a text from b up to p. -/
def seg (l : List UInt8) (b p : Nat) : List UInt8 := (l.drop b).take (p - b)
def strV (l : List UInt8) : Value := .string ⟨l.toArray⟩
/-- A slice of strings of the call's own: its words. -/
def Own (w : World) (B : Nat) (v : Value) (ws : List (List UInt8)) : Prop := w.ownsRow B 9 1 v ws.length (ws.map strV)

theorem ext_seg (s : ByteArray) (b p : Nat) : s.extract b p = ⟨(seg s.data.toList b p).toArray⟩ := by
  apply ByteArray.ext
  apply Array.ext'
  rw [Lib.extract_data]
  rfl

theorem seg_self (l : List UInt8) (p : Nat) : seg l p p = [] := by simp [seg]
theorem seg_end (s : ByteArray) (b : Nat) : seg s.data.toList b s.size = s.data.toList.drop b := by
  unfold seg
  rw [List.take_of_length_le]
  rw [List.length_drop, size8]
  exact Nat.le_refl _
theorem seg_more (l : List UInt8) (b p k : Nat) (h : b ≤ p) : seg l b p ++ (l.drop p).take k = seg l b (p + k) := by
  unfold seg
  rw [show p + k - b = (p - b) + k by omega, List.take_add, List.drop_drop, show b + (p - b) = p by omega]
theorem seg_ne (l : List UInt8) (b p : Nat) (h : b < p) (hp : p ≤ l.length) : seg l b p ≠ [] := by
  intro e
  have := congrArg List.length e
  simp [seg] at this
  omega

theorem stringInfo : ∃ i0, Try.prog.info? 9 = some i0 ∧ i0.zero = some (.string ⟨#[]⟩) ∧ i0.size = 1 ∧ i0.bytes = 16 := by
  have h : (Try.prog.info? 9).map (fun i => (i.zero, i.size, i.bytes)) = some (some (.string ⟨#[]⟩), 1, 16) := by kernel_rfl
  obtain ⟨i, hi, he⟩ := Option.map_eq_some_iff.1 h
  simp only [Prod.mk.injEq] at he
  exact ⟨i, hi, he.1, he.2.1, he.2.2⟩

theorem clone_at (s : ByteArray) (w : World) (h : s.size ≤ 10000) : Calls Try.prog 47 #[.string s] w fun e w' => e = .returned (.string s) ∧ Below w.heap.size w w' := by
  go_enter Try.func47, Try.ntmps47
  go_wp2_with fail
  refine (Try.stringslite_Clone s w (by omega)).mono ?_
  rintro e w' ⟨rfl, hb⟩
  go_wp2
  go_ret
  exact ⟨rfl, hb⟩

theorem row_below {B : Nat} {e : TypeId} {k : Nat} {v : Value} {n : Nat} {xs : List Value} {w w' : World} (h : w.ownsRow B e k v n xs) (hb : Below w.heap.size w w') : w'.ownsRow B e k v n xs := by
  refine ⟨h.1, ?_⟩
  rcases h.2 with h0 | ⟨g, cap, cur, hv, hB, hg, rest⟩
  · exact .inl h0
  · exact .inr ⟨g, cap, cur, hv, hB, (hb.block g (Array.getElem?_eq_some_iff.1 hg).1).trans hg, rest⟩

theorem Own.nil (w : World) (B : Nat) : Own w B (.slice none 0 0) [] := World.ownsRow_nil _ _ _ _
theorem Own.push {w : World} {B : Nat} {v : Value} {ws : List (List UInt8)} {x : List UInt8} (h : w.ownsRow B 9 1 v (ws.length + 1) (ws.map strV ++ [strV x])) : Own w B v (ws ++ [x]) := by
  unfold Own
  simpa using h

theorem ext_size (s : ByteArray) (b p : Nat) : (s.extract b p).size ≤ s.size := by
  rw [← size8, ← size8, Lib.extract_data]
  simp
  omega

set_option maxHeartbeats 4000000 in
set_option maxRecDepth 1000000 in
theorem split_any (s : ByteArray) (w : World) (hs : s.size ≤ 10000) :
    Calls Try.prog 34 #[.string s] w fun e w' => ∃ v, e = .returned v ∧ Own w' w.heap.size v (spl [] s.data.toList) ∧ Below w.heap.size w w' := by
  obtain ⟨i0, hi, hz0, hz1, hz2⟩ := stringInfo
  go_enter Try.func34, Try.ntmps34
  go_wp2
  go_loopw [3, 4] (fun v b wr => ∃ (pos k : Nat) (ws : List (List UInt8)), b = .int .i64 k ∧ Hid (Own wr (w.heap.size + 1) v ws) ∧ wr.heap[w.heap.size]? = some (.stringIter s pos) ∧ Below w.heap.size w wr ∧ k ≤ pos ∧ pos ≤ s.size ∧ ws.length ≤ pos ∧ Hid (ws ++ spl (seg s.data.toList k pos) (s.data.toList.drop pos) = spl [] s.data.toList)) (fun _ _ wr => s.size - wr.iterPos w.heap.size)
  case atStart => exact ⟨0, 0, [], rfl, Own.nil _ _, World.iter_heap _ _ _, (Below.refl _ w).alloc (Nat.le_refl _) _, by omega, by omega, by simp, by simp [Hid, seg]⟩
  case round =>
    obtain ⟨pos, k, ws, rfl, HO, hit, hbw, hk, hpos, hwl, H1⟩ := hrel
    have hsz : w.heap.size < wr.heap.size := (Array.getElem?_eq_some_iff.1 hit).1
    by_cases hp : pos < s.size
    · have hnx : ∀ ty, (Instr.next (.pointer (some ⟨w.heap.size, 0, none⟩)) true ty).run Try.prog wr = _ := fun ty => Lib.run_next_any_at wr w.heap.size s pos ty hit hp
      obtain ⟨d1, d2⟩ := decode_rn s pos hp
      rw [d1, d2] at hnx
      clear d1 d2
      have hne := drop_ne s pos hp
      have hw := wd_pos _ hne
      rw [drop_len] at hw
      have HO2 : Hid (Own (wr.iterAt w.heap.size s (pos + wd (s.data.toList.drop pos))) (w.heap.size + 1) u3 ws) := ownsRow_iterAt HO.out (by omega) _ _
      have hit2 := Lib.iterAt_heap wr w.heap.size s pos (pos + wd (s.data.toList.drop pos)) hit
      have hbw2 := Lib.below_iterAt hbw (k := w.heap.size) (by omega) s (pos + wd (s.data.toList.drop pos))
      have hsz2 : w.heap.size < (wr.iterAt w.heap.size s (pos + wd (s.data.toList.drop pos))).heap.size := by rw [Lib.iterAt_size]; omega
      by_cases h32 : rn (s.data.toList.drop pos) = 32
      · have hdh : s.data.toList.drop pos = s[pos] :: s.data.toList.drop (pos + 1) := by
          rw [List.drop_eq_getElem_cons (by rw [size8]; exact hp)]; rfl
        obtain ⟨ha, hw1⟩ := rn32 s[pos] (s.data.toList.drop (pos + 1)) (by rw [← hdh]; exact h32)
        rw [← hdh] at hw1
        rw [hw1] at hw HO2 hit2 hbw2 hsz2 hnx
        rw [h32] at hnx
        have HA : Hid (spl (seg s.data.toList k pos) (s.data.toList.drop pos) = if seg s.data.toList k pos = [] then spl [] (s.data.toList.drop (pos + 1)) else seg s.data.toList k pos :: spl [] (s.data.toList.drop (pos + 1))) := by
          simp only [Hid]
          rw [hdh, ha]
          simp [spl]
        clear hdh ha hw1 h32 hne
        generalize hW : wr.iterAt w.heap.size s (pos + 1) = W at HO2 hit2 hbw2 hsz2 hnx
        by_cases hkp : k < pos
        · go_wp2_with fail
          refine (clone_at _ _ (Nat.le_trans (ext_size _ _ _) hs)).mono ?_
          rintro e w1 ⟨rfl, b1⟩
          have s1 := b1.size
          have HO3 : Hid (Own w1 (w.heap.size + 1) u3 ws) := row_below HO2.out b1
          have hit3 : w1.heap[w.heap.size]? = some (.stringIter s (pos + 1)) := (b1.block _ (by omega)).trans hit2
          have hbw3 := hbw2.trans (b1.mono (Nat.le_of_lt hsz2))
          go_wp2_with (at_builtin; refine wpList_append_own _ rfl _ _ 28 rfl (w.heap.size + 1) 9 i0 (.string ⟨#[]⟩) 1 16 Try.underlying28 hi hz0 hz1 hz2 rfl (by decide) _ _ _ rfl (HO3.out.alloc _) ⟨w1.heap.size, 0, none⟩ 1 1 [.string (s.extract k pos)] rfl rfl ?c1 ?c2 ?c3 ?c4 ?c5 ?_)
          case c1 =>
            intro j u hj
            match j, hj with
            | 0, hj => simp at hj; subst hj; simp [Addr.add]
          case c2 => intro u hu; simp at hu; subst hu; rfl
          case c3 => unfold maxLen; omega
          case c4 => omega
          case c5 => simp; omega
          intro v' w2 hown' hgrow _
          have hlt : ∀ q, u3.ownBlock = some q → w.heap.size + 1 ≤ q := fun q hq => (HO3.out.lt q hq).1
          have hit4 : w2.heap[w.heap.size]? = some (.stringIter s (pos + 1)) := by
            rw [hgrow.block w.heap.size (by simp; omega) (fun e => by have := hlt _ e.symm; omega), Lib.alloc_old w1 _ _ (by omega)]
            exact hit3
          have hbw4 : Below w.heap.size w w2 := (hbw3.alloc (by omega) _).grown hgrow (by simp; omega) (fun q hq => by have := hlt q hq; omega)
          have HO4 : Hid (Own w2 (w.heap.size + 1) v' (ws ++ [seg s.data.toList k pos])) := by
            rw [ext_seg] at hown'
            exact Own.push hown'
          clear hown' hgrow
          go_wp2
          go_roundw
          case rel =>
            refine ⟨pos + 1, pos + 1, ws ++ [seg s.data.toList k pos], by go_num, HO4, hit4, hbw4, by omega, by omega, by simp; omega, ?_⟩
            have a1 := H1.out
            rw [HA.out, if_neg (seg_ne _ _ _ hkp (by rw [size8]; omega))] at a1
            simp only [Hid]
            rw [seg_self, List.append_assoc]
            exact a1
          case measure =>
            simp only [World.iterPos, hit4, hit]
            omega
        · obtain rfl : k = pos := by omega
          go_wp2
          go_roundw
          case rel =>
            refine ⟨k + 1, k + 1, ws, by go_num, HO2, hit2, hbw2, by omega, by omega, by omega, ?_⟩
            have a1 := H1.out
            rw [HA.out, if_pos (seg_self _ _)] at a1
            simp only [Hid]
            rw [seg_self]
            exact a1
          case measure =>
            simp only [World.iterPos, hit2, hit]
            omega
      · have HA : Hid (spl (seg s.data.toList k pos) (s.data.toList.drop pos) = spl (seg s.data.toList k (pos + wd (s.data.toList.drop pos))) (s.data.toList.drop (pos + wd (s.data.toList.drop pos)))) := by
          simp only [Hid]
          rw [← seg_more _ _ _ _ hk]
          rw [← spl_run _ _ _ (run_no32 _ h32)]
          rw [← List.drop_drop, List.take_append_drop]
        generalize hW : wr.iterAt w.heap.size s (pos + wd (s.data.toList.drop pos)) = W at HO2 hit2 hbw2 hsz2 hnx
        go_wp2
        go_roundw
        case rel =>
          refine ⟨pos + wd (s.data.toList.drop pos), k, ws, rfl, HO2, hit2, hbw2, by omega, by omega, by omega, ?_⟩
          have a1 := H1.out
          rw [HA.out] at a1
          exact a1
        case measure =>
          simp only [World.iterPos, hit2, hit]
          omega
    · have hnx : ∀ ty, (Instr.next (.pointer (some ⟨w.heap.size, 0, none⟩)) true ty).run Try.prog wr = _ := fun ty => Lib.run_next_end_at wr w.heap.size s pos ty hit hp
      obtain rfl : pos = s.size := by omega
      have HA : Hid (ws ++ (if s.data.toList.drop k = [] then [] else [s.data.toList.drop k]) = spl [] s.data.toList) := by
        have a1 := H1.out
        rw [drop_end s _ hp, seg_end] at a1
        exact a1
      clear H1
      by_cases hkp : k < s.size
      · go_wp2_with fail
        refine (clone_at _ _ (Nat.le_trans (ext_size _ _ _) hs)).mono ?_
        rintro e w1 ⟨rfl, b1⟩
        have s1 := b1.size
        have HO3 : Hid (Own w1 (w.heap.size + 1) u3 ws) := row_below HO.out b1
        have hbw3 := hbw.trans (b1.mono (Nat.le_of_lt hsz))
        go_wp2_with (at_builtin; refine wpList_append_own _ rfl _ _ 28 rfl (w.heap.size + 1) 9 i0 (.string ⟨#[]⟩) 1 16 Try.underlying28 hi hz0 hz1 hz2 rfl (by decide) _ _ _ rfl (HO3.out.alloc _) ⟨w1.heap.size, 0, none⟩ 1 1 [.string (s.extract k s.size)] rfl rfl ?c1 ?c2 ?c3 ?c4 ?c5 ?_)
        case c1 =>
          intro j u hj
          match j, hj with
          | 0, hj => simp at hj; subst hj; simp [Addr.add]
        case c2 => intro u hu; simp at hu; subst hu; rfl
        case c3 => unfold maxLen; omega
        case c4 => omega
        case c5 => simp; omega
        intro v' w2 hown' hgrow _
        have hlt : ∀ q, u3.ownBlock = some q → w.heap.size + 1 ≤ q := fun q hq => (HO3.out.lt q hq).1
        have hbw4 : Below w.heap.size w w2 := (hbw3.alloc (by omega) _).grown hgrow (by simp; omega) (fun q hq => by have := hlt q hq; omega)
        have HO4 : Hid (Own w2 (w.heap.size + 1) v' (ws ++ [s.data.toList.drop k])) := by
          rw [ext_seg, seg_end] at hown'
          exact Own.push hown'
        clear hown' hgrow
        go_wp2
        go_ret
        refine ⟨_, rfl, ?_, hbw4⟩
        have a1 := HA.out
        rw [if_neg (drop_ne s k hkp)] at a1
        rw [← a1]
        exact Joins.ownsRow_le HO4.out (by omega)
      · go_wp2
        go_ret
        refine ⟨_, rfl, ?_, hbw⟩
        have a1 := HA.out
        rw [if_pos (drop_end s k hkp), List.append_nil] at a1
        rw [← a1]
        exact Joins.ownsRow_le HO.out (by omega)
end Go.Proofs.Ytmfjaehajdephab
