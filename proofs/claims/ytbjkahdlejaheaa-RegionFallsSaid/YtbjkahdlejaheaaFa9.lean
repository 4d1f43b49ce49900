/- The first Seal of a log of two regions. -/
import Derived.Test.YtbjkahdlejaheaaKn9
set_option linter.unusedVariables false
set_option linter.unusedSimpArgs false
set_option maxRecDepth 8000
namespace Go.Proofs.Ytbjkahdlejaheaa
open Go.RowKit Go.Deep Math

theorem first_put {n first regions : Nat} {S : Dv} {T : Lg} (h : New9 n first regions S T) (th : Th) : (T.put th).opn = [th] ∧ (T.put th).cont = th.it.enc := by
  have ho : (T.put th).opn = [th] := by show T.opn ++ [th] = _; rw [h.opn]; rfl
  exact ⟨ho, by unfold Lg.cont; rw [ho]; simp [encs]⟩
theorem seal_first {w0 W : World} {d : Nat} {F : List Nat} {S : Dv} {l m : Nat} {v5 v6 v7 : Value} {T : Lg} {th : Th} (G : LG w0 W d F S l m v5 v6 v7 (T.put th)) (hN : New9 8 0 2 S T) (hg : th.it.good = true) :
    Calls Try.prog 12 #[.pointer (some ⟨l, 0, none⟩)] W fun e W' => ∃ va vc v5' F' S', e = .returned (.tuple #[.slice va 0 vc, .int .i64 0]) ∧ LG w0 W' d F' S' l m v5' (.slice none 0 0) (.slice none 0 0) ((T.put th).sealed v6 1 1) ∧ S'.cs = put4 (Dv.fresh 8).cs 4 1 th.it.enc ∧ Calm S' ∧ S'.losses = T.losses := by
  obtain ⟨ho1, hc1⟩ := first_put hN th
  have gs := good_sizes hg
  have gg := (It.good_iff th.it).1 hg
  have hcl1 : (T.put th).cont.length = th.it.size := by rw [hc1, It.enc_length]
  have hsz : th.it.size = 32 + th.it.key.length + th.it.value.length := rfl
  have hid : idxP 1 (T.put th).regs = none := by show idxP 1 T.regs = none; rw [hN.regs]; rfl
  refine (seal_log G.lg G.dev (by rw [ho1]; simp) hN.losses (by show T.num < _; rw [hN.num]; decide) (by show 1 ≤ T.regions; rw [hN.regions']; decide) (by show T.regions ≤ 64; rw [hN.regions']; decide) (by show T.first ≤ 4096; rw [hN.first']; decide) (by omega) (by intro h; rw [h] at hcl1; simp at hcl1; omega) (by show T.regs.length ≤ 100; rw [hN.regs]; decide) 1 1 (by show 1 = T.num + 1; rw [hN.num]) (by show 1 = 1 % T.regions; rw [hN.regions'])
    (lose_idle G.lg 1 hid (by show T.regs.length ≤ 100; rw [hN.regs]; decide))).mono ?_
  rintro e w5 ⟨va1, vn1, vc1, v55, F5, hvn1, hrow1, hD5, hK5, hF5, h55, rfl, hend⟩
  have hbase : (T.put th).first + 4 * 1 = 4 := by show T.first + 4 = 4; rw [hN.first']
  have hwr := wr_calm hN.calm 4 1 (by rw [hN.cs]; decide) (T.put th).cont
  have hlost : (T.put th).lost 1 = [] := by unfold Lg.lost; rw [hid]
  have hlose : (T.put th).lose 1 = T.put th := by unfold Lg.lose; rw [hid]
  rw [hbase] at hD5 hend ⊢
  rw [hwr.1] at hend ⊢
  rcases hend with ⟨h0, _⟩ | ⟨_, hL5⟩
  · exact absurd rfl h0
  have G5 := G.seal hL5 hD5 hK5 hF5 h55 (fun q hq => by simp [own, Value.ownBlock] at hq) (fun q hq => by simp [own, Value.ownBlock] at hq)
  rw [hlose] at G5
  rw [hlost] at hvn1
  have hv0 : vn1 = 0 := hvn1
  subst hv0
  exact ⟨va1, vc1, v55, F5, _, rfl, G5, by rw [hwr.2.1, hN.cs, hc1], hwr.2.2.1, by rw [hwr.2.2.2, hN.losses]⟩
end Go.Proofs.Ytbjkahdlejaheaa
