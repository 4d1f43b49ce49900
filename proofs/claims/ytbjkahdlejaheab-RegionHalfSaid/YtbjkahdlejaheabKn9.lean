/- Open on a new device, and where it may not be. -/
import Derived.Test.YtbjkahdlejaheabAwk9
set_option linter.unusedVariables false
set_option linter.unusedSimpArgs false
set_option maxRecDepth 8000
namespace Go.Proofs.Ytbjkahdlejaheab
open Go.RowKit Go.Deep Math

/-- What is known of a log that was opened on a new device. -/
structure New9 (n first regions : Nat) (S : Dv) (T : Lg) : Prop where
  cs : S.cs = (Dv.fresh n).cs
  calm : Calm S
  losses : S.losses = T.losses
  regs : T.regs = []
  num : T.num = 0
  cap : T.cap = 0
  opn : T.opn = []
  first' : T.first = first
  regions' : T.regions = regions
  has : T.has = fun _ => none
theorem open_new {w0 W : World} {d n : Nat} {F : List Nat} (L : Law w0 d F (Dv.fresh n) W) (first regions : Nat) (h1 : 1 ≤ regions) (h64 : regions ≤ 64) (hin : first + 4 * regions ≤ n) :
    Calls Try.prog 9 #[.pointer (some ⟨d, 0, none⟩), .int .i64 first, .int .i64 regions] W fun e W' => ∃ l m v5 T S', e = .returned (.tuple #[.pointer (some ⟨l, 0, none⟩), .int .i64 0]) ∧ LG w0 W' d F S' l m v5 (.slice none 0 0) (.slice none 0 0) T ∧ New9 n first regions S' T ∧ Keep F W W' := by
  have hc0 := fresh_cnts n first regions
  refine (open_log sort_one L.dev rfl first regions h1 h64 (by simpa [Dv.fresh] using hin) (by rw [hc0.1]; exact Nat.zero_le _)).mono ?_
  rintro e w2 ⟨l, m, v5, T0, S2, rfl, hLg, hS2, hD2, hK2, hlow, hnew, hnod, t1, t2, t3, t4, t5, t6, t7, rs, t8, t9⟩
  have hrs : rs = [] := by
    rw [hc0.1] at t8
    exact List.map_eq_nil_iff.1 t8
  have hregs : T0.regs = [] := by rw [t9, hrs]; rfl
  have hall : T0.all = [] := by unfold Lg.all; rw [hregs, t5]; rfl
  have hsz1 := L.bel.size
  exact ⟨l, m, v5, T0, S2, rfl, ⟨hLg, hD2, L.bel.trans (hK2.below L.low hsz1), L.low, fun q hq => Nat.le_trans hsz1 (hlow q hq)⟩,
    ⟨hS2.cs, ⟨hS2.armed, hS2.off⟩, by rw [t1, hS2.losses], hregs, by rw [t4, hc0.2], by rw [t6, hall]; rfl, t5, t2, t3, by rw [t7, hall]; rfl⟩, hK2⟩
set_option maxHeartbeats 400000 in
theorem open_bad {w : World} {d : Nat} {S : Dv} {F : List Nat} (hD : DvAt w d F S) (first regions : Nat) (h1 : 1 ≤ regions) (h64 : regions ≤ 64) (hin : S.cs.length < first + 4 * regions) (hf : first ≤ 4096) :
    Calls Try.prog 9 #[.pointer (some ⟨d, 0, none⟩), .int .i64 first, .int .i64 regions] w fun e w' => e = .returned (.tuple #[.pointer none, .int .i64 1]) ∧ w' = w := by
  have hm := hD.good.many
  have cP := hide (pages_at hD)
  have q1 : ¬ (first : Int) < 0 := by omega
  have q2 : ¬ (regions : Int) < 1 := by omega
  have q3 : ¬ (64 : Int) < (regions : Int) := by omega
  have q4 : ((S.cs.length : Int) - 4 * (regions : Int)) < (first : Int) := by omega
  have q5 : (S.cs.length : Int) ≤ 4096 := by omega
  clear hD hin hm
  generalize S.cs.length = len at *
  go_enter Try.func9, Try.ntmps9
  go_wp2_with (go_at_call 25; refine cP.out.mono ?_; rintro e w' ⟨rfl, h1⟩; obtain rfl := h1.symm; clear h1)
  go_ret2
  exact ⟨rfl, rfl⟩
end Go.Proofs.Ytbjkahdlejaheab
