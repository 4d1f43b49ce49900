/-
  What the document's own reckoning (package cellaretref1) answers for Split, for every line of at most 3000 bytes.
-/
import Derived.Test.YtffmmpahenogdaaDoorJoin
namespace Go.Proofs.YtffmmpahenogdaaDoor
open Go.Shelf Go.RowKit
set_option linter.unusedVariables false

theorem one_ext (s : ByteArray) (i : Nat) (h : i < s.size) : (s.extract i (i + 1)).data.toList = [s[i]] := by
  rw [Lib.extract_data, drop_head s i h]
  simp
theorem cat_dat (a b : ByteArray) : (a ++ b).data.toList = a.data.toList ++ b.data.toList := by
  rw [ByteArray.data_append]; simp
theorem cat_siz (a b : ByteArray) : (a ++ b).size = a.size + b.size := by
  rw [← size8, ← size8, ← size8, ByteArray.data_append]; simp
theorem bytes_ext (a b : ByteArray) (h : a.data.toList = b.data.toList) : a = b := by
  apply ByteArray.ext
  exact Array.ext' h
theorem str_eq (a : ByteArray) : (Value.string a) = strV a.data.toList := by unfold strV; rfl

theorem make_none (w : World) : (Instr.makeSlice 29 (.int .i64 0) (.int .i64 0)).run Tryd.prog w = .ok (.slice (some ⟨w.heap.size, 0, none⟩) 0 0) (w.alloc (.cells #[] 9)) := by
  obtain ⟨i, hi, hz0, hz1, hz2⟩ := stringInfo
  have := run_make (P := Tryd.prog) w 29 9 i (.string ⟨#[]⟩) Tryd.underlying29 hi hz0 .i64 .i64 (0 : Int) (0 : Int) (by omega) (by omega) (by rw [hz2]; omega) (by omega)
  simpa [madeCells, show Array.range 0 = #[] from rfl] using this

set_option maxHeartbeats 4000000 in
set_option maxRecDepth 1000000 in
theorem refSplit_any (s : ByteArray) (w : World) (hs : s.size ≤ 3000) :
    Calls Tryd.prog 19 #[.string s] w fun e w' => ∃ v, e = .returned v ∧ Own w' w.heap.size v (spl [] s.data.toList) ∧ Below w.heap.size w w' := by
  obtain ⟨i0, hi, hz0, hz1, hz2⟩ := stringInfo
  have hmk := make_none w
  go_enter Tryd.func19, Tryd.ntmps19
  go_wp2
  go_loopw [3, 4, 5] (fun v u i wr => ∃ (pos : Nat) (W : ByteArray) (ws : List (List UInt8)), i = .int .i64 pos ∧ u = .string W ∧ Hid (Own wr w.heap.size v ws) ∧ Hid (Below w.heap.size w wr) ∧ w.heap.size ≤ wr.heap.size ∧ pos ≤ s.size ∧ W.size ≤ pos ∧ ws.length ≤ pos ∧ Hid (ws ++ spl W.data.toList (s.data.toList.drop pos) = spl [] s.data.toList)) (fun _ _ i _ => s.size - (intOf i).toNat)
  case atStart =>
    refine ⟨0, ⟨#[]⟩, [], rfl, rfl, ?_, ?_, ?_, by omega, Nat.le_refl 0, by simp, rfl⟩
    · exact World.ownsRow_made _ #[] 0 (Nat.le_refl _) (by unfold maxLen; omega) rfl
    · exact (Below.refl _ w).alloc (Nat.le_refl _) _
    · simp
  case round =>
    obtain ⟨pos, W, ws, rfl, rfl, HO, HBw, hsz, hpos, hW, hwl, H1⟩ := hrel
    by_cases hp : pos < s.size
    · have hdh := drop_head s pos hp
      by_cases h32 : s[pos].toNat = 32
      · have h32u : s[pos] = 32 := UInt8.toNat_inj.1 h32
        have k32 : (((s[pos].toNat : Nat) : Int) != 32) = false := by simp [h32]
        have HA : Hid (spl W.data.toList (s.data.toList.drop pos) = if W.data.toList = [] then spl [] (s.data.toList.drop (pos + 1)) else W.data.toList :: spl [] (s.data.toList.drop (pos + 1))) := by
          simp only [Hid]
          rw [hdh, h32u]
          simp [spl]
        clear hdh h32 h32u
        by_cases hWe : W.data.toList = []
        · obtain rfl : W = ⟨#[]⟩ := bytes_ext _ _ hWe
          go_wp2
          go_roundw
          case rel =>
            refine ⟨pos + 1, ⟨#[]⟩, ws, by go_num, rfl, HO, HBw, hsz, by omega, Nat.zero_le _, by omega, ?_⟩
            have a1 := H1.out
            rw [HA.out, if_pos hWe] at a1
            exact a1
          case measure => simp [intOf]; omega
        · have hne : W.toList.isEmpty = false := by
            rw [Lib.toList_data]
            cases h : W.data.toList with
            | nil => exact absurd h hWe
            | cons _ _ => rfl
          go_wp2_with (at_builtin; refine wpList_append_own _ rfl _ _ 29 rfl w.heap.size 9 i0 (.string ⟨#[]⟩) 1 16 Tryd.underlying29 hi hz0 hz1 hz2 rfl (by decide) _ _ _ rfl (HO.out.alloc _) ⟨wr.heap.size, 0, none⟩ 1 1 [.string W] rfl rfl ?c1 ?c2 ?c3 ?c4 ?c5 ?_)
          case c1 =>
            intro j u hj
            match j, hj with
            | 0, hj => simp at hj; subst hj; simp [Addr.add]
          case c2 => intro u hu; simp at hu; subst hu; rfl
          case c3 => unfold maxLen; omega
          case c4 => omega
          case c5 => simp; omega
          intro v' w2 hown' hgrow _
          have hbw4 : Below w.heap.size w w2 := (HBw.out.alloc (by omega) _).grown hgrow (by simp; omega) (fun q hq => (HO.out.lt q hq).1)
          have hsz4 : w.heap.size ≤ w2.heap.size := hbw4.size
          have HB4 : Hid (Below w.heap.size w w2) := hbw4
          have HO4 : Hid (Own w2 w.heap.size v' (ws ++ [W.data.toList])) := Own.push hown'
          clear hown' hgrow hbw4
          go_wp2
          go_roundw
          case rel =>
            refine ⟨pos + 1, ⟨#[]⟩, ws ++ [W.data.toList], by go_num, rfl, HO4, HB4, hsz4, by omega, Nat.zero_le _, by simp; omega, ?_⟩
            have a1 := H1.out
            rw [HA.out, if_neg hWe] at a1
            simp only [Hid]
            rw [List.append_assoc]
            exact a1
          case measure => simp [intOf]; omega
      · have k32 : (((s[pos].toNat : Nat) : Int) != 32) = true := by simp; omega
        have hne32 : s[pos] ≠ 32 := fun e => h32 (by rw [e]; rfl)
        have HA : Hid (spl W.data.toList (s.data.toList.drop pos) = spl (W ++ s.extract pos (pos + 1)).data.toList (s.data.toList.drop (pos + 1))) := by
          simp only [Hid]
          rw [hdh, cat_dat, one_ext s pos hp]
          simp [spl, hne32]
        have hes : (s.extract pos (pos + 1)).size = 1 := by rw [← size8, one_ext s pos hp]; rfl
        have hsl : ∀ wq, (Instr.slice 9 (.string s) (some (.int .i64 (pos : Int))) (some (.int .i64 ((pos : Int) + 1))) none).run Tryd.prog wq = .ok (.string (s.extract pos (pos + 1))) wq := by
          intro wq
          have := run_slice_string (P := Tryd.prog) wq 9 s .i64 .i64 (pos : Int) ((pos : Int) + 1) Tryd.underlying9 (by omega) (by omega) (by omega)
          rw [show ((pos : Int)).toNat = pos by omega, show ((pos : Int) + 1).toNat = pos + 1 by omega] at this
          exact this
        clear hdh h32 hne32
        go_wp2
        go_roundw
        case rel =>
          refine ⟨pos + 1, W ++ s.extract pos (pos + 1), ws, by go_num, by simp, HO, HBw, hsz, by omega, by rw [cat_siz]; omega, by omega, ?_⟩
          have a1 := H1.out
          rw [HA.out] at a1
          exact a1
        case measure => simp [intOf]; omega
    · have HA : Hid (ws ++ (if W.data.toList = [] then [] else [W.data.toList]) = spl [] s.data.toList) := by
        have a1 := H1.out
        rw [drop_end s _ hp] at a1
        exact a1
      clear H1
      by_cases hWe : W.data.toList = []
      · obtain rfl : W = ⟨#[]⟩ := bytes_ext _ _ hWe
        go_wp2
        go_ret
        refine ⟨_, rfl, ?_, HBw.out⟩
        have a1 := HA.out
        rw [if_pos hWe, List.append_nil] at a1
        rw [← a1]
        exact HO.out
      · have hne : W.toList.isEmpty = false := by
          rw [Lib.toList_data]
          cases h : W.data.toList with
          | nil => exact absurd h hWe
          | cons _ _ => rfl
        go_wp2_with (at_builtin; refine wpList_append_own _ rfl _ _ 29 rfl w.heap.size 9 i0 (.string ⟨#[]⟩) 1 16 Tryd.underlying29 hi hz0 hz1 hz2 rfl (by decide) _ _ _ rfl (HO.out.alloc _) ⟨wr.heap.size, 0, none⟩ 1 1 [.string W] rfl rfl ?c1 ?c2 ?c3 ?c4 ?c5 ?_)
        case c1 =>
          intro j u hj
          match j, hj with
          | 0, hj => simp at hj; subst hj; simp [Addr.add]
        case c2 => intro u hu; simp at hu; subst hu; rfl
        case c3 => unfold maxLen; omega
        case c4 => omega
        case c5 => simp; omega
        intro v' w2 hown' hgrow _
        have hbw4 : Below w.heap.size w w2 := (HBw.out.alloc (by omega) _).grown hgrow (by simp; omega) (fun q hq => (HO.out.lt q hq).1)
        have hsz4 : w.heap.size ≤ w2.heap.size := hbw4.size
        have HB4 : Hid (Below w.heap.size w w2) := hbw4
        have HO4 : Hid (Own w2 w.heap.size v' (ws ++ [W.data.toList])) := Own.push hown'
        clear hown' hgrow hbw4
        go_wp2
        go_ret
        refine ⟨_, rfl, ?_, HB4.out⟩
        have a1 := HA.out
        rw [if_neg hWe] at a1
        rw [← a1]
        exact HO4.out
end Go.Proofs.YtffmmpahenogdaaDoor
