/-
  'awake' answers true and turns nothing that was there.
-/
import Derived.Test.YtgfmonnjpphihaaCrc
import Derived.Lib.SlBytesConst
namespace Go.Proofs.Ytgfmonnjpphihaa
open Go.RowKit Math

theorem known1 : (U (more 0#32 [49, 50, 51, 52, 53, 54, 55, 56, 57]) == 3808858755) = true := by decide +kernel
theorem known2 : (U (more (B (U (more 0#32 [49, 50, 51, 52]))) [53, 54, 55, 56, 57]) == 3808858755) = true := by decide +kernel
theorem known3 : (Math.hash offset (ByteArray.mk #[]).data.toList == 14695981039346656037) = true := by decide +kernel
theorem known4 : (Math.hash offset (ByteArray.mk #[97]).data.toList == 12638187200555641996) = true := by decide +kernel
theorem known5 : (Math.hash second0 (ByteArray.mk #[97]).data.toList != 0) = true := by decide +kernel

theorem convert_const (w : World) (C : Array Value) (n c N : Nat) (h : N = w.heap.size) :
    (convert 28 28 (.slice (some ⟨N, 0, none⟩) n c)).run Try.prog (w.alloc (.cells C 5)) = .ok (.slice (some ⟨N, 0, none⟩) n c) (w.alloc (.cells C 5 (C.size, C.size + 1))) := by
  subst h
  exact Lib.run_convert_bytes_const (P := Try.prog) w 28 5 C n c Try.underlying28 Try.underlying5

theorem Reads.fresh (w : World) (l : List Int) (fz : Nat × Nat) (N : Nat) (hN : N = w.heap.size) (hl : ∀ n ∈ l, 0 ≤ n ∧ n ≤ 255) :
    Reads (w.alloc (.cells (l.map (Value.int .u8)).toArray 5 fz)) (some ⟨N, 0, none⟩) l := by
  subst hN
  refine ⟨fun i hi => ⟨_, _, rfl, ?_⟩, fun i => ?_⟩
  · simp [World.cell?, World.alloc, -World.alloc_eq, hi]
  · by_cases hi : i < l.length
    · rw [List.getD_eq_getElem?_getD, List.getElem?_eq_getElem hi]; exact hl _ (List.getElem_mem hi)
    · rw [List.getD_eq_getElem?_getD, List.getElem?_eq_none (by omega)]; simp

set_option maxHeartbeats 400000 in
theorem awake_any (w : World) :
    Calls Try.prog 9 #[] w fun e w' => e = .returned (.bool true) ∧ Below w.heap.size w w' := by
  have hcv := convert_const
  have k1 := known1
  have k2 := known2
  have k3 := known3
  have k4 := known4
  have k5 := known5
  go_enter Try.func9, Try.ntmps9
  go_wp2_with fail
  refine (crc_any _ _ [49, 50, 51, 52, 53, 54, 55, 56, 57] _ (by decide) ?_).mono ?_
  · exact Reads.fresh _ [49, 50, 51, 52, 53, 54, 55, 56, 57] _ _ (by simp) (by decide)
  rintro e w' ⟨rfl, rfl⟩
  go_wp2_with fail
  refine (hash_any _ _ (by decide)).mono ?_
  rintro e w' ⟨rfl, rfl⟩
  go_wp2_with fail
  refine (hash_any _ _ (by decide)).mono ?_
  rintro e w' ⟨rfl, rfl⟩
  go_wp2_with fail
  refine (crc_any _ _ [49, 50, 51, 52] _ (by decide) ?_).mono ?_
  · exact Reads.fresh _ [49, 50, 51, 52] _ _ (by simp) (by decide)
  rintro e w' ⟨rfl, rfl⟩
  go_wp2_with fail
  refine (more_any _ _ _ [53, 54, 55, 56, 57] _ (by decide) ?_).mono ?_
  · exact Reads.fresh _ [53, 54, 55, 56, 57] _ _ (by simp) (by decide)
  rintro e w' ⟨rfl, rfl⟩
  go_wp2_with fail
  refine (second_any _ _ (by decide)).mono ?_
  rintro e w' ⟨rfl, rfl⟩
  go_wp2_with fail
  go_ret
  exact ⟨rfl, (((Below.refl _ _).alloc (Nat.le_refl _) _).alloc (by simp) _).alloc (by simp; omega) _⟩
end Go.Proofs.Ytgfmonnjpphihaa
