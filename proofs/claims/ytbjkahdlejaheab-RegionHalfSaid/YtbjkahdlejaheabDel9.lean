/- slices.Delete of one region. -/
import Derived.Test.YtbjkahdlejaheabSl9
import Derived.Deep.RegionLaw
import Derived.Lib.SliceRun
set_option linter.unusedVariables false
set_option linter.unusedSimpArgs false
set_option maxRecDepth 8000
namespace Go.Proofs.Ytbjkahdlejaheab
open Go.RowKit Go.Deep Math

def rg0 : List Value := [.int .i64 0, .int .u64 0, .slice none 0 0]
/-- 'clear(s)', s a slice of one region. -/
theorem run_clear_rg (w : World) (b o c : Nat) (hc : ∀ j, j < 3 → (w.cell? ⟨b, o + j, none⟩).isSome = true) (hf : ∀ j, j < 3 → w.frozen? ⟨b, o + j, none⟩ = false) (ty : TypeId) :
    (Builtin.clear_ #[64] ty #[.slice (some ⟨b, o, none⟩) 1 c]).run Try.prog w = .ok (.tuple #[]) (w.setCells b o rg0) := by
  have hL : (Builtin.zeroCells (Value.agg #[.int .i64 0, .int .u64 0, .slice none 0 0]).cells 1).toList = rg0 := by kernel_rfl
  have h1 : ∀ v ∈ rg0, v.oneCell' = true := by
    intro v hv
    simp only [rg0, List.mem_cons, List.not_mem_nil, or_false] at hv
    rcases hv with rfl | rfl | rfl <;> rfl
  have hst := run_storeCells_cells (P := Try.prog) b o rg0 0 w (by simpa [rg0] using hc) (by simpa [rg0] using hf) h1
  simp only [Nat.add_zero] at hst
  simp [Builtin.clear_, run_underlying Try.underlying64, Try.zeroValue70, hL, hst]
theorem rgs_one (rs : List Rg) (hv : ∀ r ∈ rs, r.v.oneCell' = true) : ∀ u ∈ rgRow rs, u.oneCell' = true := by
  intro u hu
  simp only [rgRow, List.mem_flatMap] at hu
  obtain ⟨x, hx, hu⟩ := hu
  simp only [rgCells, List.mem_cons, List.not_mem_nil, or_false] at hu
  rcases hu with rfl | rfl | rfl
  · rfl
  · rfl
  · exact hv x hx

set_option maxHeartbeats 4000000 in
theorem delete_rg (g n cap i j : Nat) (A C : List Rg) (r : Rg) (pad : List Value) (hn : n = A.length + 1 + C.length) (hi : i = A.length) (hj : j = i + 1) (hn1 : n ≤ 100) (hcap : n ≤ cap) (hm : cap ≤ 9223372036854775807) (hv : ∀ r ∈ C, r.v.oneCell' = true) (w : World) (h : Blk w g (rgRow (A ++ r :: C) ++ pad) 70) :
    Calls Try.prog 51 #[.slice (some ⟨g, 0, none⟩) n cap, .int .i64 (i : Int), .int .i64 (j : Int)] w fun e w' => e = .returned (.slice (some ⟨g, 0, none⟩) (n - 1) cap) ∧ Blk w' g (rgRow (A ++ C) ++ (rg0 ++ pad)) 70 ∧ Keep [g] w w' := by
  obtain ⟨i0, hi0, hp0⟩ := Option.map_eq_some_iff.1 info68
  simp only [Prod.mk.injEq] at hp0
  have hz1 := hp0.2.1
  obtain ⟨news, hnews⟩ : ∃ news, news = rgRow C := ⟨_, rfl⟩
  have hnl : news.length = (n - j) * 3 := by rw [hnews, rgRow_length]; omega
  have e1 : rgRow (A ++ r :: C) ++ pad = rgRow A ++ rgCells r ++ rgRow C ++ pad := by simp [rgRow]
  have hcell : ∀ t, t < n * 3 → (w.cell? ⟨g, t, none⟩).isSome = true ∧ w.frozen? ⟨g, t, none⟩ = false := fun t ht => by
    have hl : t < (rgRow (A ++ r :: C) ++ pad).length := by rw [List.length_append, rgRow_length]; simp; omega
    exact ⟨by rw [h.cell (List.getElem?_eq_getElem hl)]; rfl, h.frozen t⟩
  obtain ⟨ad, hA, hsrc⟩ : ∃ ad : Addr, (if cap = j then some (⟨g, 0, none⟩ : Addr) else some ⟨g, j * 3, none⟩) = some ad ∧ Hid (∀ t u, news[t]? = some u → w.drew.cell? (ad.add t) = some u) := by
    by_cases hc : cap = j
    · refine ⟨⟨g, 0, none⟩, by simp [hc], fun t u hu => ?_⟩
      have h0 : news.length = 0 := by rw [hnl]; omega
      rw [List.length_eq_zero_iff.1 h0] at hu
      simp at hu
    · refine ⟨⟨g, j * 3, none⟩, by simp [hc], fun t u hu => ?_⟩
      rw [Addr.add_lit]
      refine h.cell (i := j * 3 + t) ?_
      rw [e1, List.append_assoc, List.getElem?_append_right (by simp [rgRow_length, rgCells]; omega)]
      rw [← hnews, List.getElem?_append_left (by simp [rgRow_length, rgCells]; have := (List.getElem?_eq_some_iff.1 hu).1; omega)]
      rw [← hu]
      congr 1
      simp [rgRow_length, rgCells]
      omega
  have s1 : Hid (news.length = (n - j) * 3) := hnl
  have s2 : Hid (∀ u ∈ news, u.oneCell' = true) := by rw [hnews]; exact rgs_one C hv
  have s3 : Hid (∀ t, t < news.length → (w.drew.cell? ⟨g, 0 + i * 3 + t, none⟩).isSome = true ∧ w.drew.frozen? ⟨g, 0 + i * 3 + t, none⟩ = false) := by
    intro t ht
    rw [hnl] at ht
    exact hcell (0 + i * 3 + t) (by omega)
  obtain ⟨W1, hW1⟩ : ∃ W1, W1 = w.drew.setCells g (0 + i * 3) news := ⟨_, rfl⟩
  -- the world behind the append
  obtain ⟨T3, hT3, hb1⟩ : ∃ T3 : List Value, T3.length = 3 ∧ Blk W1 g (rgRow (A ++ C) ++ (T3 ++ pad)) 70 := by
    obtain ⟨M, T3, hMT, hM⟩ : ∃ M T3, rgCells r ++ rgRow C = M ++ T3 ∧ M.length = news.length := ⟨(rgCells r ++ rgRow C).take news.length, (rgCells r ++ rgRow C).drop news.length, (List.take_append_drop _ _).symm, by rw [List.length_take]; simp [hnews, rgCells]; omega⟩
    have hT : T3.length = 3 := by
      have := congrArg List.length hMT
      simp [rgCells, hM, hnews] at this
      omega
    refine ⟨T3, hT, ?_⟩
    have h2 : Blk w.drew g (rgRow A ++ M ++ (T3 ++ pad)) 70 := by
      have : rgRow A ++ M ++ (T3 ++ pad) = rgRow (A ++ r :: C) ++ pad := by
        rw [e1, ← List.append_assoc, List.append_assoc (rgRow A) M T3, ← hMT]; simp
      rw [this]
      exact h.same rfl
    have h3 := Blk.sets news (rgRow A) M (T3 ++ pad) w.drew hM h2
    rw [show (rgRow A).length = 0 + i * 3 by rw [rgRow_length]; omega, ← hW1] at h3
    rw [rgRow_append, ← hnews]
    exact h3
  have hcl : ∀ ty, (Builtin.clear_ #[64] ty #[.slice (some ⟨g, (i + (n - j)) * 3, none⟩) 1 (cap - (i + (n - j)))]).run Try.prog W1 = .ok (.tuple #[]) (W1.setCells g ((i + (n - j)) * 3) rg0) := fun ty => by
    have hl : ∀ t, t < 3 → ∃ v, (rgRow (A ++ C) ++ (T3 ++ pad))[(i + (n - j)) * 3 + t]? = some v := fun t ht => ⟨_, List.getElem?_eq_getElem (by rw [List.length_append, rgRow_length]; simp; omega)⟩
    exact run_clear_rg W1 g _ _ (fun t ht => by obtain ⟨v, hv⟩ := hl t ht; rw [hb1.cell hv]; rfl) (fun t ht => hb1.frozen _) ty
  have hfin : Hid (Blk (W1.setCells g ((i + (n - j)) * 3) rg0) g (rgRow (A ++ C) ++ (rg0 ++ pad)) 70) := by
    have h4 := Blk.sets rg0 (rgRow (A ++ C)) T3 pad W1 hT3 (by rw [List.append_assoc]; exact hb1)
    rw [show (rgRow (A ++ C)).length = (i + (n - j)) * 3 by rw [rgRow_length]; simp; omega, List.append_assoc] at h4
    exact h4
  have hkp : Hid (Keep [g] w (W1.setCells g ((i + (n - j)) * 3) rg0)) := by
    rw [hW1]
    exact ((Keep.refl [g] w).drew.setCells (.inl (by simp)) _ _).setCells (.inl (by simp)) _ _
  have hW : Hid (W1 = w.drew.setCells g (0 + i * 3) news) := hW1
  have hic : i ≤ cap := by omega
  have hjc : j ≤ cap := by omega
  have hij : i ≠ j := by omega
  have hij2 : i ≤ j := by omega
  have hjn : j ≤ n := by omega
  have hlen : i + (n - j) = n - 1 := by omega
  have hlt : n - 1 < cap := by omega
  rw [hlen] at hcl hfin hkp
  rw [show (1 : Nat) = n - (n - 1) by omega, show n - (n - (n - 1)) = n - 1 by omega] at hcl
  clear hW1 hb1 hT3 h hcell e1 hnews hnl hp0 hv hn hi hj
  have mixed : Try.prog.follows .mixedOrders = true := rfl
  go_enter Try.func51, Try.ntmps51
  go_wp2_with fail
  go_region_law_o (refine step_append_room rfl (.tmp 22) (.tmp 25) 64 rfl 70 i0 3 Try.underlying64 hi0 hz1 g 0 i cap (by simp [Act.eval, Act.put]) ad (n - j) (cap - j) news (by simp [Act.eval, Act.put]) s1.out hsrc.out s2.out (by omega) s3.out ?_; rw [← hW.out])
  go_wp2
  go_ret
  exact ⟨rfl, hfin.out, hkp.out⟩
end Go.Proofs.Ytbjkahdlejaheab
