/- A key's bucket; a page is written; a store that is done. -/
import Derived.Test.YtbccnfbombgdmaaBk2
import Derived.Test.YtbccnfbombgdmaaAnyG
set_option linter.unusedVariables false
set_option linter.unusedSimpArgs false
set_option maxRecDepth 8000
namespace Go.Proofs.Ytbccnfbombgdmaa
open Go.RowKit Go.Deep Math
variable {w0 W W' : World} {d s : Nat} {F F' : List Nat} {S S' : Dv} {L : Int} {first : Nat} {M : SM}

set_option maxHeartbeats 1000000 in
/-- Behind a loss of power. -/
theorem list_done (h : Bk w0 W d F S s L first M) (hL : S.losses ≠ L) (at0 : Int) :
    Calls Try.prog 33 #[.pointer (some ⟨s, 0, none⟩), .int .i64 at0] W fun e W' => e = .returned (.tuple #[.slice none 0 0, .int .i64 4]) ∧ Below W.heap.size W W' := by
  have c0 := h.st.box.cell (i := 0) rfl
  have c1 := h.st.box.cell (i := 1) rfl
  have hne : (S.losses != L) = true := by simpa using hL
  have cL : Hid (∀ V : World, V.heap = W.heap → Calls Try.prog 28 #[.pointer (some ⟨d, 0, none⟩)] V fun e w' => e = .returned (.int .i64 S.losses) ∧ w' = V) := fun V hV => losses_at (h.law.dev.same (fun _ _ => by rw [hV]))
  clear h
  go_enter Try.func33, Try.ntmps33
  go_wp2_with fail
  go_quiet (first | (go_at_call 28; refine Calls.quiet_of_same (cL.out _ ?_); rfl))
  go_wp2
  go_ret2
  exact ⟨rfl, below_q2 W nq⟩

/-- Which of the pages is a key's. -/
def bkt (key : List UInt8) (n : Nat) : Nat := (Bl.hashK (txt key) % (n : Int)).toNat
theorem bkt_lt (key : List UInt8) (n : Nat) (hn : 0 < n) : bkt key n < n := by
  unfold bkt
  have h1 := Int.emod_nonneg (Bl.hashK (txt key)) (show (n : Int) ≠ 0 by omega)
  have h2 := Int.emod_lt_of_pos (Bl.hashK (txt key)) (show (0 : Int) < n by omega)
  omega
set_option maxHeartbeats 1000000 in
theorem bucket_any (h : StIn W s d L first M) (key : List UInt8) (hk : key.length ≤ maxLen) (h1 : 0 < M.fs.length) (h2 : M.fs.length ≤ 1000) :
    Calls Try.prog 32 #[.pointer (some ⟨s, 0, none⟩), .string (txt key)] W fun e W' => e = .returned (.int .i64 (bkt key M.fs.length : Nat)) ∧ ∃ q, W' = W.drewN q := by
  have c3 := h.box.cell (i := 3) rfl
  obtain ⟨n, hn⟩ : ∃ n, n = M.fs.length := ⟨_, rfl⟩
  rw [← hn] at c3 h1 h2 ⊢
  have cH : Hid (∀ V : World, Calls Try.prog 45 #[.string (txt key)] V fun e w' => e = .returned (.int .u64 (Bl.hashK (txt key))) ∧ w' = V) := fun V => Bl.hash_any (txt key) V (by rw [txt_size]; exact hk)
  obtain ⟨H, hH⟩ : ∃ H, H = Bl.hashK (txt key) := ⟨_, rfl⟩
  have hr := Bl.hashK_range (txt key)
  have hb : (bkt key n : Int) = H % (n : Int) := by
    rw [hH]
    unfold bkt
    have := Int.emod_nonneg (Bl.hashK (txt key)) (show (n : Int) ≠ 0 by omega)
    omega
  have hbl := bkt_lt key n h1
  rw [← hH] at cH hr
  have HB : Hid (wrap64 (H % (n : Int)) = (bkt key n : Int)) := by show _ = _; rw [← hb]; unfold wrap64; omega
  have hn0 : ¬ ((n : Int) = 0) := by omega
  have hr0 := hr.1
  have hr1 := hr.2
  have hw1 : IntKind.u64.wrap (n : Int) = (n : Int) := by rw [IntKind.wrap_u64]; omega
  clear hb hr h hn hH hk
  go_enter Try.func32, Try.ntmps32
  go_wp2_with fail
  go_quiet (first | (go_at_call 45; refine Calls.quiet_of_same (cH.out _)))
  go_wp2
  go_ret
  exact ⟨congrArg (fun z => Ending.returned (.int .i64 z)) HB.out, _, rfl⟩
end Go.Proofs.Ytbccnfbombgdmaa
