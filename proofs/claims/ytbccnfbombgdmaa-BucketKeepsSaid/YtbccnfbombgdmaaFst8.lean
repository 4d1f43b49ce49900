/- Rows of items lie apart from a store's blocks; what is left out comes first, and no more than must be. -/
import Derived.Test.YtbccnfbombgdmaaApt8
set_option linter.unusedVariables false
set_option linter.unusedSimpArgs false
set_option maxRecDepth 8000
namespace Go.Proofs.Ytbccnfbombgdmaa
open Go.RowKit Go.Deep Math
variable {w0 W W' : World} {d s : Nat} {F F' : List Nat} {S S' : Dv} {L : Int} {first n : Nat} {M : SM} {f : Nat → List It} {bs : List (List Bool)} {G : List Nat}

theorem row_off (h : Bu w0 W d s first n S f bs G) {base : Nat} {v : Value} {xs : List It} (hr : Row W base v xs) : ∀ q, v.ownBlock = some q → q ∉ G := by
  obtain ⟨F, M, h, rfl⟩ := h
  intro q hq
  obtain ⟨cur, hh⟩ : ∃ cur, W.heap[q]? = some (.cells cur 36 (0, 0)) := by
    rcases hr.2 with ⟨rfl, _⟩ | ⟨g, cap, cur, rfl, _, hh, _⟩
    · simp [Value.ownBlock] at hq
    · simp [Value.ownBlock] at hq; subst hq; exact ⟨cur, hh⟩
  intro hf
  rcases List.mem_append.1 hf with hf | hf
  · have hd := h.bk.law.dev
    obtain ⟨p, pd, wa, wc, rfl, hd⟩ := hd
    simp only [foot, List.mem_cons] at hf
    rcases hf with rfl | rfl | hf
    · have := hd.dev; unfold Blk at this; rw [hh] at this; simp at this
    · have := hd.row; unfold Blk at this; rw [hh] at this; simp at this
    · cases wa with
      | none => simp at hf
      | some a =>
        simp at hf
        subst hf
        rcases hd.own.2 with ⟨h0, _⟩ | ⟨g, cap, cur2, hv, _, hh2, _⟩
        · simp at h0
        · simp only [Value.slice.injEq, Option.some.injEq] at hv
          rw [hv.1] at hh
          simp only at hh
          rw [hh] at hh2
          simp at hh2
  · rcases SM.foot_inv hf with rfl | ⟨a, ha, rfl⟩ | ⟨x, hx, rfl | rfl⟩
    · have := h.bk.st.box; unfold Blk at this; rw [hh] at this; simp at this
    · rcases h.bk.st.form with ⟨h1, _⟩ | ⟨q, cur2, h1, h2, _⟩
      · rw [h1] at ha; cases ha
      · rw [h1] at ha; cases ha
        rw [hh] at h2
        simp at h2
    · have := (h.bk.st.flt x hx).1.own; unfold Blk at this; rw [hh] at this; simp at this
    · have := (h.bk.st.flt x hx).1.row; unfold Blk at this; rw [hh] at this; simp at this
theorem RowA.of (h : Bu w0 W d s first n S f bs G) {base : Nat} {v : Value} {xs : List It} (hr : Row W base v xs) : RowA G W base v xs := ⟨hr, row_off h hr⟩

theorem ovr_last : ∀ xs : List It, 0 < ovr xs → ∃ y, xs[ovr xs - 1]? = some y ∧ 384 < total (xs.drop (ovr xs)) + y.size
  | [], h => by simp [ovr] at h
  | x :: r, h => by
    by_cases h1 : 384 < total (x :: r)
    · have e : ovr (x :: r) = ovr r + 1 := by rw [ovr, if_pos h1]
      rw [e]
      by_cases h2 : 0 < ovr r
      · obtain ⟨y, hy, ht⟩ := ovr_last r h2
        refine ⟨y, ?_, by simpa using ht⟩
        rw [show ovr r + 1 - 1 = (ovr r - 1) + 1 by omega]
        simpa using hy
      · have e0 : ovr r = 0 := by omega
        rw [e0]
        refine ⟨x, rfl, ?_⟩
        have : total (x :: r) = x.size + total r := rfl
        simp
        omega
    · rw [ovr, if_neg h1] at h
      omega
theorem allF_one (f : Nat → List It) : allF 1 f = f 0 := by simp [allF]
/-- What Put does to a store of one page. -/
structure OnePut (f : Nat → List It) (x : It) (fl : List It) (o : Nat) : Prop where
  hfl : fl = (f 0).filter (notKey x.key)
  ho : o ≤ fl.length
  out : outL 1 f x = fl.take o
  now : allF 1 (putF 1 f x) = fl.drop o ++ [x]
  last : 0 < o → ∃ y, fl[o - 1]? = some y ∧ 384 < total (fl.drop o ++ [x]) + y.size
theorem onePut (f : Nat → List It) (x : It) (hx : x.size ≤ 120) : ∃ fl o, OnePut f x fl o := by
  obtain ⟨fl, hfl⟩ : ∃ fl, fl = (f 0).filter (notKey x.key) := ⟨_, rfl⟩
  have e : putL 1 f x = fl ++ [x] := by unfold putL; rw [bkt_one, hfl]
  have ho : ovr (fl ++ [x]) ≤ fl.length := ovr_lt fl x (by omega)
  refine ⟨fl, ovr (fl ++ [x]), hfl, ho, ?_, ?_, fun h0 => ?_⟩
  · unfold outL
    rw [e, List.take_append_of_le_length ho]
  · rw [allF_one]
    unfold putF
    rw [bkt_one, if_pos rfl, e, List.drop_append_of_le_length ho]
  · obtain ⟨y, hy, ht⟩ := ovr_last _ h0
    rw [List.drop_append_of_le_length ho] at ht
    rw [List.getElem?_append_left (by omega)] at hy
    exact ⟨y, hy, ht⟩
end Go.Proofs.Ytbccnfbombgdmaa
