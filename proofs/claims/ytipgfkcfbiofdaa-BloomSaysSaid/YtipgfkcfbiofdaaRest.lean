/- Clear, Count, Bits. -/
import Derived.Test.YtipgfkcfbiofdaaMay
import Derived.Lib.SliceRun
import Derived.Deep.LoopGhost
import Derived.Laws.AppendOwn
set_option linter.unusedVariables false
set_option linter.unusedSimpArgs false
namespace Go.Proofs.Ytipgfkcfbiofdaa
open Go.RowKit Go.Deep Math

/-- Which bits are set, of the first k. -/
def ixs (l : List Bool) (k : Nat) : List Nat := (List.range k).filter fun i => l.getD i false
theorem ixs_zero (l : List Bool) : ixs l 0 = [] := rfl
theorem ixs_set (l : List Bool) (k : Nat) (h : l.getD k false = true) : ixs l (k + 1) = ixs l k ++ [k] := by
  simp only [ixs, List.range_succ, List.filter_append, List.filter_cons, h, List.filter_nil]; rfl
theorem ixs_not (l : List Bool) (k : Nat) (h : l.getD k false = false) : ixs l (k + 1) = ixs l k := by
  simp only [ixs, List.range_succ, List.filter_append, List.filter_cons, h, List.filter_nil]; simp
theorem ixs_le (l : List Bool) (k : Nat) : (ixs l k).length ≤ k := by
  have := List.length_filter_le (fun i => l.getD i false) (List.range k); simpa [ixs] using this
def cntB (l : List Bool) : Nat := (ixs l l.length).length

theorem FltIn.bit {w : World} {f s : Nat} {l : List Bool} {t : Nat} (h : FltIn w f s l t) (k : Nat) (hk : k < l.length) : w.cell? ⟨s, k, none⟩ = some (.bool (l.getD k false)) :=
  h.row.cell (by rw [List.getElem?_map, List.getElem?_eq_getElem hk, List.getD_eq_getElem?_getD, List.getElem?_eq_getElem hk]; rfl)

set_option maxHeartbeats 400000 in
theorem clear_any (f s t : Nat) (l : List Bool) (w : World) (h : FltIn w f s l t) :
    Calls Try.prog 15 #[.pointer (some ⟨f, 0, none⟩)] w fun e w' => e = .returned (.tuple #[]) ∧ FltIn w' f s (List.replicate l.length false) t ∧ Keep [s] w w' := by
  have c0 := h.own.cell (i := 0) rfl
  have hcl : ∀ ty, (Builtin.clear_ #[28] ty #[.slice (some ⟨s, 0, none⟩) l.length l.length]).run Try.prog w = .ok (.tuple #[]) (w.setCells s 0 (List.replicate l.length (.bool false))) :=
    fun ty => Lib.run_clear_slice w 28 4 ty (.bool false) Try.underlying28 (fun w => Try.zeroValue4 w) rfl rfl s 0 l.length l.length (by have := h.n8; omega)
      (fun j hj => by rw [Nat.zero_add, h.bit j hj]; rfl) (fun j hj => by rw [Nat.zero_add]; exact h.row.frozen j)
  have H := hide h
  clear h
  go_enter Try.func15, Try.ntmps15
  go_wp2
  go_end0
  have h := H.out
  refine ⟨rfl, ⟨?_, ?_, h.ne, by simpa using h.n8, by simpa using h.n9, h.t1, h.t8⟩, (Keep.refl _ w).setCells (.inl (by simp)) _ _⟩
  · rw [List.length_replicate]
    exact h.own.same (heap_setCells_other s _ _ _ _ h.ne)
  · have := Blk.sets (b := s) (t := 4) (List.replicate l.length (.bool false)) [] (l.map Value.bool) [] w (by simp) (by simpa using h.row)
    simpa using this

set_option maxHeartbeats 400000 in
theorem count_any (f s t : Nat) (l : List Bool) (w : World) (h : FltIn w f s l t) :
    Calls Try.prog 13 #[.pointer (some ⟨f, 0, none⟩)] w fun e w' => e = .returned (.int .i64 (cntB l)) ∧ w' = w := by
  have c0 := h.own.cell (i := 0) rfl
  obtain ⟨n, hn⟩ : ∃ n, n = l.length := ⟨_, rfl⟩
  rw [← hn] at c0
  have hb := hide (fun k hk => h.bit k hk)
  have HN := hide hn
  have hn2 : n ≤ 65536 := by rw [hn]; exact h.n9
  clear h hn
  go_enter Try.func13, Try.ntmps13
  go_wp2
  go_loop [3, 11] (fun t i => ∃ k : Nat, k ≤ n ∧ i = .int .i64 k ∧ t = .int .i64 ((ixs l k).length : Nat)) (fun _ i => n - (intOf i).toNat)
  case atStart => exact ⟨0, Nat.zero_le _, rfl, rfl⟩
  case round =>
    obtain ⟨k, hk, rfl, rfl⟩ := hrel
    by_cases hlt : k < n
    · have c2 := hb.out k (by rw [← HN.out]; exact hlt)
      have hle := ixs_le l k
      cases hv : l.getD k false
      · have E := hide (ixs_not l k hv)
        rw [hv] at c2
        clear hv
        go_wp2
        go_round
        case rel => exact ⟨k + 1, by omega, by go_num, by rw [E.out]⟩
        case measure => simp [intOf]; omega
      · have E := hide (ixs_set l k hv)
        rw [hv] at c2
        clear hv
        generalize hm : (ixs l k).length = m at hle ⊢
        have HM := hide hm
        clear hm
        go_wp2
        go_round
        case rel => exact ⟨k + 1, by omega, by go_num, by rw [E.out, List.length_append, HM.out]; go_num⟩
        case measure => simp [intOf]; omega
    · obtain rfl : k = n := by omega
      go_wp2
      go_ret
      refine ⟨?_, rfl⟩
      have := HN.out
      subst this
      rfl

theorem info3 : (Try.prog.info? 3).map (fun i => (i.zero, i.size, i.bytes)) = some (some (.int .i64 0), 1, 8) := by kernel_rfl
def intsV (l : List Nat) : List Value := l.map fun (i : Nat) => Value.int .i64 (i : Int)
theorem intsV_snoc (l : List Nat) (i : Nat) : intsV l ++ [.int .i64 (i : Int)] = intsV (l ++ [i]) := by simp [intsV]

theorem ownsRow_keep {w w' : World} {base : Nat} {e : TypeId} {size : Nat} {v : Value} {n : Nat} {xs : List Value} (h : w.ownsRow base e size v n xs) (k : ∀ q, v.ownBlock = some q → w'.heap[q]? = w.heap[q]?) : w'.ownsRow base e size v n xs := by
  obtain ⟨h1, h2⟩ := h
  refine ⟨h1, ?_⟩
  rcases h2 with h2 | ⟨g, cap, cur, hv, hg, hh, r⟩
  · exact .inl h2
  · exact .inr ⟨g, cap, cur, hv, hg, by rw [k g (by rw [hv]; rfl)]; exact hh, r⟩

set_option maxHeartbeats 800000 in
theorem bits_any (f s t : Nat) (l : List Bool) (w : World) (h : FltIn w f s l t) :
    Calls Try.prog 12 #[.pointer (some ⟨f, 0, none⟩)] w fun e w' => ∃ g cap, e = .returned (.slice (some ⟨g, 0, none⟩) (cntB l) cap) ∧ w'.ownsRow w.heap.size 3 1 (.slice (some ⟨g, 0, none⟩) (cntB l) cap) (cntB l) (intsV (ixs l l.length)) ∧ Below w.heap.size w w' := by
  obtain ⟨i0, hi, hi2⟩ := Option.map_eq_some_iff.1 info3
  simp only [Prod.mk.injEq] at hi2
  obtain ⟨hz0, hz1, hz2⟩ := hi2
  have cc := hide (count_any f s t l w h)
  obtain ⟨n, hn⟩ : ∃ n, n = l.length := ⟨_, rfl⟩
  have hn2 : n ≤ 65536 := by rw [hn]; exact h.n9
  have hcn : cntB l ≤ n := by rw [hn]; exact ixs_le l l.length
  obtain ⟨w1, hmk, hown0, hgr0⟩ := run_make_own (P := Try.prog) w w.heap.size 31 3 i0 (.int .i64 0) 1 Try.underlying31 hi hz0 hz1 .i64 .i64 (cntB l) (by rw [hz2]; omega) (by unfold maxLen; omega) (Nat.le_refl _)
  have B0 := hide ((Below.refl w.heap.size w).grown hgr0 (Nat.le_refl _) (fun k e => by cases e))
  have H1 := hide (h.below B0.out)
  have c0 := H1.out.own.cell (i := 0) rfl
  rw [← hn] at c0
  have HN := hide hn
  have O0 := hide hown0
  have HI := hide hi
  have Z0 := hide hz0
  have Z1 := hide hz1
  have Z2 := hide hz2
  have LF := hide h.own.lt
  have LS := hide h.row.lt
  clear h hn hown0 hgr0 hi hz0 hz1 hz2
  go_enter Try.func12, Try.ntmps12
  go_wp2_with (go_at_call 13; refine cc.out.mono ?_; rintro e w' ⟨rfl, h9⟩; obtain rfl : w = w' := h9.symm; clear h9)
  clear cc hmk
  go_loopg [3, 14] n (fun kx s3 s14 wr => ∃ (k g cap m : Nat), s14 = .int .i64 k ∧ s3 = .slice (some ⟨g, 0, none⟩) m cap ∧ k ≤ n ∧ n - k ≤ kx ∧ m ≤ k ∧ Hid (m = (ixs l k).length ∧ wr.ownsRow w.heap.size 3 1 (.slice (some ⟨g, 0, none⟩) m cap) m (intsV (ixs l k)) ∧ Below w.heap.size w wr))
  case atStart => exact ⟨0, w.heap.size, cntB l, 0, rfl, rfl, Nat.zero_le _, by omega, Nat.le_refl _, rfl, O0.out, B0.out⟩
  case round =>
    obtain ⟨k, g, cap, m, rfl, rfl, hk, hkx, hmk, I⟩ := hrel
    by_cases hlt : k < n
    · have HF := hide ((H1.out.same (I.out.2.2.block f LF.out |>.trans (B0.out.block f LF.out).symm) (I.out.2.2.block s LS.out |>.trans (B0.out.block s LS.out).symm)))
      have c2 := HF.out.bit k (by rw [← HN.out]; exact hlt)
      cases hv : l.getD k false
      · have E := hide (ixs_not l k hv)
        rw [hv] at c2
        clear hv
        go_wp2
        go_roundg (n - (k + 1))
        case measure => omega
        case rel => exact ⟨k + 1, g, cap, m, by go_num, rfl, by omega, by omega, by omega, by rw [E.out]; exact I.out⟩
      · have E := hide (ixs_set l k hv)
        rw [hv] at c2
        clear hv
        go_wp2_with (at_builtin; refine wpList_append_own _ rfl _ _ 31 rfl w.heap.size 3 i0 (.int .i64 0) 1 8 Try.underlying31 HI.out Z0.out Z1.out Z2.out rfl (by decide) _ _ _ rfl (I.out.2.1.alloc _) ⟨wr.heap.size, 0, none⟩ 1 1 [.int .i64 (k : Int)] rfl rfl ?c1 ?c2 ?c3 ?c4 ?c5 ?_)
        case c1 =>
          intro j u hj
          match j, hj with
          | 0, hj => simp at hj; subst hj; simp [Addr.add]
        case c2 => intro u hu; simp at hu; subst hu; rfl
        case c3 => unfold maxLen; omega
        case c4 => omega
        case c5 => have := I.out.2.2.size; simp; omega
        intro v' w2 hown' hgrow _
        obtain ⟨g2, cp2, rfl⟩ : ∃ g2 cp2, v' = .slice (some ⟨g2, 0, none⟩) (m + 1) cp2 := by
          rcases hown'.2 with ⟨_, h0⟩ | ⟨g2, cp2, _, hv, _⟩
          · omega
          · exact ⟨g2, cp2, hv⟩
        have B2 := hide ((I.out.2.2.alloc I.out.2.2.size (.cells #[.int .i64 (k : Int)] 3)).grown hgrow (by have := I.out.2.2.size; simp; omega) (fun q hq => (I.out.2.1.lt q hq).1))
        rw [intsV_snoc] at hown'
        have O2 := hide hown'
        clear hown' hgrow
        go_wp2
        go_roundg (n - (k + 1))
        case measure => omega
        case rel => exact ⟨k + 1, g2, cp2, m + 1, by go_num, rfl, by omega, by omega, by omega, by rw [E.out]; exact ⟨by rw [List.length_append, I.out.1]; rfl, O2.out, B2.out⟩⟩
    · obtain rfl : k = n := by omega
      go_wp2
      go_ret
      have hm := I.out.1
      have hnn := HN.out
      subst hnn
      subst hm
      exact ⟨g, cap, rfl, I.out.2.1, I.out.2.2⟩
end Go.Proofs.Ytipgfkcfbiofdaa
