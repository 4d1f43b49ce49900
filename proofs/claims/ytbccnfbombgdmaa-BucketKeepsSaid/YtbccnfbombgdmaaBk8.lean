/- Items. -/
import Derived.Test.YtbccnfbombgdmaaBk7
set_option linter.unusedVariables false
set_option linter.unusedSimpArgs false
set_option maxRecDepth 8000
namespace Go.Proofs.Ytbccnfbombgdmaa
open Go.RowKit Go.Deep Math
variable {w0 W W' : World} {d s : Nat} {F F' : List Nat} {S S' : Dv} {L : Int} {first : Nat} {M : SM}

/-- 'append' of no items. -/
theorem run_app_nil {w : World} {base : Nat} {v : Value} {xs : List It} (h : Row w base v xs) (ty : TypeId) :
    (Builtin.append_ #[30, 30] ty #[v, .slice none 0 0]).run Try.prog w = .ok v w := by
  obtain ⟨i0, hi0, hp0⟩ := Option.map_eq_some_iff.1 info30
  simp only [Prod.mk.injEq] at hp0
  obtain ⟨hz0, hz1, hz2⟩ := hp0
  rcases h.form with ⟨rfl, rfl⟩ | ⟨g, cap, pad, rfl, hb, hh, hc, hm, hl⟩
  · simp [Builtin.append_, run_underlying Try.underlying30, Builtin.lenOf, Builtin.firstCells]
  · simp [Builtin.append_, run_underlying Try.underlying30, Builtin.lenOf, Builtin.firstCells, hc, storeCells]
/-- 'append' of a row's items to another row. -/
theorem run_app_row {w : World} {base b2 : Nat} {v u : Value} {xs ys : List It} (h : Row w base v xs) (hy : Row w b2 u ys) (ho : Oks ys) (hn : xs.length + ys.length ≤ 1048576) (hb : base ≤ w.heap.size) :
    ∃ v' w', (Builtin.append_ #[30, 30] 30 #[v, u]).run Try.prog w = .ok v' w' ∧ Row w' base v' (xs ++ ys) ∧ w.grownBy w' v.ownBlock := by
  rcases hy.form with ⟨rfl, rfl⟩ | ⟨g, cap, pad, rfl, _, hh, hc, hm, hl⟩
  · exact ⟨v, w, run_app_nil h 30, by rw [List.append_nil]; exact h, rfl, rfl, rfl, Nat.le_refl _, fun _ _ _ => rfl⟩
  · obtain ⟨v', w', h1, h2, h3, _⟩ := run_app (c := cap) h (its_blk hh rfl ho) hn hb
    exact ⟨v', w', h1 30, h2, h3⟩
/-- All items, bucket by bucket. -/
def Dv.all (S : Dv) (first n : Nat) : List It := (List.range n).flatMap fun k => S.its (first + k)
theorem Dv.all_succ (S : Dv) (first n : Nat) : S.all first (n + 1) = S.all first n ++ S.its (first + n) := by simp [Dv.all, List.range_succ]
theorem its_len {S : Dv} (hg : S.good) (k : Nat) : (S.its k).length ≤ 12 := by have h1 := (Dv.its_all hg k).1; have h2 := total_len (S.its k); omega
theorem all_len {S : Dv} (hg : S.good) (first : Nat) : ∀ n, (S.all first n).length ≤ 12 * n
  | 0 => by simp [Dv.all]
  | n + 1 => by rw [Dv.all_succ, List.length_append]; have := all_len hg first n; have := its_len hg (first + n); omega

set_option maxHeartbeats 2000000 in
theorem items_ok (h : Bk w0 W d F S s L first M) (hL : L = S.losses) (hoff : S.off = false) (hn2 : M.fs.length ≤ 256) (hfit : first + M.fs.length ≤ S.cs.length) :
    Calls Try.prog 18 #[.pointer (some ⟨s, 0, none⟩)] W fun e W' => ∃ v S', e = .returned (.tuple #[v, .int .i64 0]) ∧ Row W' W.heap.size v (S.all first M.fs.length) ∧ Bk w0 W' d F S' s L first M ∧ Like S S' ∧ Keep F W W' := by
  have c3 := h.st.box.cell (i := 3) rfl
  have H := hide h
  have HL := hide hL
  have HO := hide hoff
  have hgd := hide h.law.dev.good
  obtain ⟨n, hn⟩ : ∃ n, n = M.fs.length := ⟨_, rfl⟩
  rw [← hn] at c3 hn2 hfit ⊢
  have HF := hide hfit
  have hFlt : Hid (∀ q, W.heap.size ≤ q → q ∉ F) := fun q hq => h.law.dev.new q hq
  clear h hL hoff hn hfit
  go_enter Try.func18, Try.ntmps18
  go_wp2_with fail
  go_loopg [4, 13] n (fun kx s4 s13 wr => ∃ (i : Nat) (va : Option Addr) (vk vc : Nat) (S' : Dv), s4 = .slice va vk vc ∧ s13 = .int .i64 i ∧ i ≤ n ∧ n - i ≤ kx ∧ Hid (Row wr W.heap.size (.slice va vk vc) (S.all first i) ∧ Bk w0 wr d F S' s L first M ∧ Like S S' ∧ Keep F W wr))
  case atStart => exact ⟨0, none, 0, 0, S, rfl, rfl, Nat.zero_le _, by omega, Row.nil _ _, H.out, Like.refl _, Keep.refl _ _⟩
  case round =>
    obtain ⟨i, va, vk, vc, S1, rfl, rfl, hin, hg, I⟩ := hrel
    by_cases hlt : i < n
    · have hlt2 : (i : Int) < (n : Int) := by omega
      obtain ⟨c, hc⟩ : ∃ c, S.cs[first + i]? = some c := ⟨_, List.getElem?_eq_getElem (by have := HF.out; omega)⟩
      have cT := hide (list_ok I.out.2.1 (by rw [HL.out, I.out.2.2.1.losses]) (by rw [I.out.2.2.1.off]; exact HO.out) i c (by rw [I.out.2.2.1.cs]; exact hc))
      have EI := hide (Dv.its_of hc)
      clear hc
      go_wp2_with fail
      refine cT.out.mono ?_
      rintro e w1 ⟨u, rfl, hr, hb1, k1⟩
      rw [← EI.out] at hr
      obtain ⟨ua, uc, rfl, _, _, _, _⟩ := hr.its (Oks.of_good (Dv.its_all hgd.out (first + i)).2)
      obtain ⟨un, hun⟩ : ∃ un, un = (S.its (first + i)).length := ⟨_, rfl⟩
      rw [← hun] at hr ⊢
      have hv1 : Row w1 W.heap.size (.slice va vk vc) (S.all first i) := I.out.1.keep (fun q hq => k1.block q (I.out.1.lt q hq).2 (hFlt.out q (I.out.1.lt q hq).1))
      have hlen := all_len hgd.out first (i + 1)
      rw [Dv.all_succ, List.length_append] at hlen
      obtain ⟨v', w2, hrun, hrow, hgr⟩ := run_app_row hv1 hr (Oks.of_good (Dv.its_all hgd.out (first + i)).2) (by omega) (Nat.le_trans I.out.2.2.2.size k1.size)
      obtain ⟨a', c', rfl, _, _, _, _⟩ := hrow.its (by
        rw [← Dv.all_succ]
        intro x hx
        simp only [Dv.all, List.mem_flatMap] at hx
        obtain ⟨k, _, hx⟩ := hx
        exact Oks.of_good (Dv.its_all hgd.out (first + k)).2 x hx)
      obtain ⟨nn, hnn⟩ : ∃ nn, nn = (S.all first i ++ S.its (first + i)).length := ⟨_, rfl⟩
      rw [← hnn] at hrun hrow
      have HR := hide hrun
      have hk2 : Keep (Value.slice va vk vc).ownBlock.toList w1 w2 := ⟨hgr.os, hgr.tape, hgr.output, hgr.size, fun q hq hn => hgr.block q hq (fun e => hn (by rw [← e]; simp))⟩
      have B2 := hide (hb1.keep hk2 (fun q hq => by
        have hq' : (Value.slice va vk vc).ownBlock = some q := by simpa using hq
        have h1 := (I.out.1.lt q hq').1
        refine ⟨hFlt.out q h1, fun hf => ?_, Nat.le_trans H.out.law.bel.size h1⟩
        have := H.out.st.lt q hf
        omega))
      have HROW : Hid (Row w2 W.heap.size (.slice a' nn c') (S.all first (i + 1))) := by show Row _ _ _ _; rw [Dv.all_succ]; exact hrow
      have KK := hide ((I.out.2.2.2.trans k1 (fun q hq => .inl hq)).trans hk2 (fun q hq => .inr (I.out.1.lt q (by simpa using hq)).1))
      clear hr hb1 k1 hv1 hlen hrun hrow hgr hk2 cT hun hnn
      go_wp2_with (at_builtin; refine Lib.wpList_append_run _ rfl _ _ _ _ rfl _ _ rfl rfl _ _ HR.out ?_)
      go_roundg (n - (i + 1))
      case measure => omega
      case rel => exact ⟨i + 1, a', nn, c', _, rfl, rfl, by omega, by omega, HROW.out, B2.out, I.out.2.2.1.trans (Like.read _ _), KK.out⟩
    · obtain rfl : i = n := by omega
      have hlt2 : ¬ (i : Int) < (i : Int) := by omega
      go_wp2
      go_ret2
      exact ⟨_, rfl, I.out.1, S1, I.out.2.1, I.out.2.2.1, I.out.2.2.2⟩
end Go.Proofs.Ytbccnfbombgdmaa
