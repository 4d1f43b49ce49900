/- The document's old, Get, NewTable, drop. -/
import Derived.Test.YtkjfildnemgbiaaRf4
set_option linter.unusedVariables false
set_option linter.unusedSimpArgs false
set_option maxRecDepth 8000
namespace Go.Proofs.Ytkjfildnemgbiaa
open Go.RowKit Go.Deep Go.Shelf Math Tab Go.Sort
section
variable {B : Nat} {w w' : World} {f nb ob nx : Nat} {vN vO : List Value} {nw od : Ch} {kv vv : Value} {ks : List (List UInt8)} {vs : List Int} {key : List UInt8}
def oldI (nx m : Nat) (key : List UInt8) : Int := if m = 0 then -1 else if hsh key % (nx + m) < nx then -1 else ((hsh key % (nx + m) : Nat) : Int)
set_option maxHeartbeats 2000000 in
theorem rold_any (h : RfIn B w f nb ob nx vN vO nw od kv vv ks vs) (key : List UInt8) (hk : key.length ≤ maxLen) (m9 : nx + od.length ≤ 131072) :
    Calls Try.prog 38 #[.pointer (some ⟨f, 0, none⟩), .string (txt key)] w fun e w' => e = .returned (.int .i64 (oldI nx od.length key)) ∧ ∃ q, w' = w.drewN q := by
  have cL := hide (rleft_any h (by omega))
  have c1 := h.own.cell (i := 1) rfl
  have c2 := h.own.cell (i := 2) rfl
  unfold oldI
  by_cases h0 : od.length = 0
  · rw [if_pos h0]
    rw [h0] at cL
    clear h c1 c2
    go_enter Try.func38, Try.ntmps38
    go_wp2_with fail
    refine cL.out.mono ?_
    rintro e W1 ⟨rfl, q, hW⟩
    have HW := hide hW
    clear hW cL
    go_wp2
    go_ret
    exact ⟨rfl, q, HW.out⟩
  · rw [if_neg h0]
    rw [sl2_pos _ _ (by omega)] at c1
    have cH := hide (fun W => refHash_txt key hk W)
    obtain ⟨x, hx⟩ : ∃ x, x = hsh key := ⟨_, rfl⟩
    have hl := hsh_lt key
    rw [← hx] at cH hl ⊢
    obtain ⟨N, hN⟩ : ∃ N, N = nx + od.length := ⟨_, rfl⟩
    rw [← hN] at c1 m9 ⊢
    obtain ⟨b, hb⟩ : ∃ b, b = x % N := ⟨_, rfl⟩
    have hbn : b < N := hb ▸ Nat.mod_lt _ (by omega)
    have e1 : ((x : Nat) : Int).tmod (N : Int) = (b : Int) := by
      rw [hb, Int.tmod_eq_emod_of_nonneg (by omega)]; omega
    have e2 : IntKind.i64.wrap (b : Int) = (b : Int) := by rw [IntKind.wrap_i64]; omega
    have e3 : IntKind.u64.wrap (b : Int) = (b : Int) := by rw [IntKind.wrap_u64]; omega
    have n1 : 1 ≤ N := by omega
    have mz : ¬ (od.length : Int) = 0 := by omega
    have mz2 : ((od.length : Int) == 0) = false := by rw [beq_eq_false_iff_ne]; exact mz
    rw [← hb]
    clear hb hx h hN h0 hk
    generalize od.length = m at *
    generalize txt key = tk at *
    by_cases hlt : b < nx
    · rw [if_pos hlt]
      have hlt2 : (b : Int) < (nx : Int) := by omega
      clear hlt
      go_enter Try.func38, Try.ntmps38
      go_wp2_with fail
      refine cL.out.mono ?_
      rintro e W1 ⟨rfl, q, hW⟩
      have d1 : (w.drewN q).cell? ⟨f, 1, none⟩ = some (.slice (some ⟨ob, 0, none⟩) N N) := by rw [World.cell?_drewN]; exact c1
      have d2 : (w.drewN q).cell? ⟨f, 2, none⟩ = some (.int .i64 (nx : Int)) := by rw [World.cell?_drewN]; exact c2
      rw [← hW] at d1 d2
      have HW := hide hW
      clear hW cL c1 c2
      go_wp2
      go_quiet (first | (go_at_call 46; exact Calls.quiet_of_same (cH.out _)))
      have f2 : (W1.drewN nq).cell? ⟨f, 2, none⟩ = some (.int .i64 (nx : Int)) := by rw [World.cell?_drewN]; exact d2
      obtain ⟨W2, hW2⟩ : ∃ W2, W2 = W1.drewN nq := ⟨_, rfl⟩
      rw [← hW2] at f2 ⊢
      have HW2 : Hid (∃ q, W2 = w.drewN q) := by rw [hW2]; exact drewN_more HW.out _
      clear hW2 d1 d2
      go_wp2
      go_ret
      exact ⟨rfl, HW2.out⟩
    · rw [if_neg hlt]
      have hlt2 : ¬ (b : Int) < (nx : Int) := by omega
      clear hlt
      go_enter Try.func38, Try.ntmps38
      go_wp2_with fail
      refine cL.out.mono ?_
      rintro e W1 ⟨rfl, q, hW⟩
      have d1 : (w.drewN q).cell? ⟨f, 1, none⟩ = some (.slice (some ⟨ob, 0, none⟩) N N) := by rw [World.cell?_drewN]; exact c1
      have d2 : (w.drewN q).cell? ⟨f, 2, none⟩ = some (.int .i64 (nx : Int)) := by rw [World.cell?_drewN]; exact c2
      rw [← hW] at d1 d2
      have HW := hide hW
      clear hW cL c1 c2
      go_wp2
      go_quiet (first | (go_at_call 46; exact Calls.quiet_of_same (cH.out _)))
      have f2 : (W1.drewN nq).cell? ⟨f, 2, none⟩ = some (.int .i64 (nx : Int)) := by rw [World.cell?_drewN]; exact d2
      obtain ⟨W2, hW2⟩ : ∃ W2, W2 = W1.drewN nq := ⟨_, rfl⟩
      rw [← hW2] at f2 ⊢
      have HW2 : Hid (∃ q, W2 = w.drewN q) := by rw [hW2]; exact drewN_more HW.out _
      clear hW2 d1 d2
      go_wp2
      go_ret
      exact ⟨rfl, HW2.out⟩
/-! ### Get, NewTable -/
theorem info29 : (Try.prog.info? 29).map (fun i => (i.zero, i.size, i.bytes)) = some (some (.slice none 0 0), 1, 24) := by kernel_rfl
def nils2 (n : Nat) : Array Value := (List.replicate n (Value.slice none 0 0)).toArray
theorem run_make_rows (n : Nat) (hn : n ≤ 1000000) (w : World) :
    (Instr.makeSlice 40 (.int .i64 (n : Int)) (.int .i64 (n : Int))).run Try.prog w = .ok (.slice (some ⟨w.heap.size, 0, none⟩) n n) (w.alloc (.cells (nils2 n) 29)) := by
  unfold nils2
  obtain ⟨i, hi, hi2⟩ := Option.map_eq_some_iff.1 info29
  simp only [Prod.mk.injEq] at hi2
  obtain ⟨hz0, hz1, hz2⟩ := hi2
  have := run_make (P := Try.prog) w 40 29 i (.slice none 0 0) Try.underlying40 hi hz0 .i64 .i64 (n : Int) (n : Int) (by omega) (by omega) (by rw [hz2]; omega) (by omega)
  rw [this, hz1]
  have e : madeCells (Value.slice none 0 0).cells ((n : Int).toNat * 1) = (List.replicate n (Value.slice none 0 0)).toArray := by
    have hc : (Value.slice none 0 0).cells = #[.slice none 0 0] := rfl
    rw [hc, Int.toNat_natCast, Nat.mul_one]
    unfold madeCells
    apply Array.ext'
    apply List.ext_getElem?
    intro j
    by_cases hj : j < n
    · rw [List.toList_toArray, List.getElem?_replicate, if_pos hj]
      simp [hj, Nat.mod_one]
    · rw [List.toList_toArray, List.getElem?_eq_none (by simp; omega), List.getElem?_eq_none (by simp; omega)]
  rw [e, Int.toNat_natCast]
set_option maxHeartbeats 1000000 in
theorem rnew_any (n : Nat) (w : World) (hn : n ≤ 1024) (hB : B ≤ w.heap.size) :
    Calls Try.prog 14 #[.int .i64 (n : Int)] w fun e w' => e = .returned (.pointer (some ⟨w.heap.size + 1, 0, none⟩)) ∧
      RfIn B w' (w.heap.size + 1) w.heap.size 0 0 (List.replicate n (.slice none 0 0)) [] (List.replicate n []) [] (.slice none 0 0) (.slice none 0 0) [] [] ∧ Below w.heap.size w w' := by
  have hmk := run_make_rows n (by omega)
  obtain ⟨A, hA⟩ : ∃ A, A = nils2 n := ⟨_, rfl⟩
  rw [← hA] at hmk
  have HA := hide hA
  clear hA
  go_enter Try.func14, Try.ntmps14
  go_wp2
  go_ret
  refine ⟨rfl, ⟨?_, ?_, by simp, fun i ss hs => ?_, fun h => absurd h (by simp), fun h => absurd h (by simp), rfl, fun i hi => by omega, fun i ss hs => by simp at hs, SR.nil _ _, NR.nil _ _, by omega, hB, fun h => absurd h (by simp)⟩, ((Below.refl _ w).alloc (Nat.le_refl _) _).alloc (by simp) _⟩
  · have := Blk.new (w.alloc (.cells A 29)) [.slice (some ⟨w.heap.size, 0, none⟩) n n, .slice none 0 0, .int .i64 0, .slice none 0 0, .slice none 0 0] 43
    rw [World.size_alloc] at this
    simp only [List.length_replicate]
    exact this
  · have := (Blk.new w (List.replicate n (.slice none 0 0)) 29).alloc (.cells #[.slice (some ⟨w.heap.size, 0, none⟩) n n, .slice none 0 0, .int .i64 0, .slice none 0 0, .slice none 0 0] 43)
    rw [show (List.replicate n (Value.slice none 0 0)).toArray = A from HA.out.symm] at this
    exact this
  · rw [List.getElem?_replicate] at hs
    split at hs
    · rename_i hi
      obtain rfl := Option.some.inj hs
      exact ⟨.slice none 0 0, by rw [List.getElem?_replicate, if_pos hi], SR.nil _ _, fun q hq => by simp [ownB, Value.ownBlock] at hq⟩
    · cases hs
end
end Go.Proofs.Ytkjfildnemgbiaa
