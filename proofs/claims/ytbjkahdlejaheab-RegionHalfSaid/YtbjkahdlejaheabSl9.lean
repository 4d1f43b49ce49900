/- Seal. -/
import Derived.Test.YtbjkahdlejaheabLo9
set_option linter.unusedVariables false
set_option linter.unusedSimpArgs false
set_option maxRecDepth 8000
namespace Go.Proofs.Ytbjkahdlejaheab
open Go.RowKit Go.Deep Math

def Lg.lost (T : Lg) (P : Nat) : List It := match idxP P T.regs with
  | none => []
  | some i => T.hadOf ((T.regs[i]?).map Rg.ths |>.getD [])
def delKeys (M : List UInt8 → Option (Nat × Nat)) (l : List It) : List UInt8 → Option (Nat × Nat) := l.foldl (fun M x => updK M x.key none) M
def Lg.lose (T : Lg) (P : Nat) : Lg := match idxP P T.regs with
  | none => T
  | some i => { T with regs := T.regs.eraseIdx i, has := delKeys T.has (T.lost P) }
def LosePost (w : World) (l d m : Nat) (v5 v6 v7 : Value) (T : Lg) (P : Nat) (e : Ending) (w' : World) : Prop :=
  ∃ va vn vc v5', e = .returned (.slice va vn vc) ∧ vn = (T.lost P).length ∧ Row w' w.heap.size (.slice va vn vc) (T.lost P) ∧ LgIn w' l d m v5' v6 v7 (T.lose P) ∧ Keep (l :: m :: own v5) w w' ∧ ∀ q ∈ own v5', q ∈ own v5
section
variable {w : World} {l d m : Nat} {v5 v6 v7 : Value} {T : Lg}
set_option maxHeartbeats 1000000 in
theorem lose_none (h : LgIn w l d m v5 v6 v7 T) (P : Nat) (hP : idxP P T.regs = none) (hr : T.regs.length ≤ 100) :
    Calls Try.prog 33 #[.pointer (some ⟨l, 0, none⟩), .int .i64 (P : Int)] w (LosePost w l d m v5 v6 v7 T P) := by
  have hA := h.alloc (.cells #[.int .i64 (P : Int)] 3)
  obtain ⟨a5, c5, rfl⟩ := own_slice h.sld
  have k5 := hA.box.cell (i := 5) rfl
  have hBx := (Blk.new w [.int .i64 (P : Int)] 3).cell (i := 0) rfl
  have cI := hide (index9 a5 T.regs.length c5 T.regs P w.heap.size hr _ hA.sld hBx)
  have EL : Hid (T.lost P = [] ∧ T.lose P = T) := by
    refine ⟨?_, ?_⟩
    · unfold Lg.lost; rw [hP]
    · unfold Lg.lose; rw [hP]
  have HA := hide hA
  have HP := hide hP
  have B0 := hide ((Below.refl w.heap.size w).alloc (Nat.le_refl _) (.cells #[.int .i64 (P : Int)] 3))
  clear h hA hBx hP hr
  generalize T.regs.length = n5 at *
  go_enter Try.func33, Try.ntmps33
  go_wp2_with fail
  refine cI.out.mono ?_
  rintro e w2 ⟨⟨k, rfl, hk⟩, b2⟩
  have T2 := hide (HA.out.below b2)
  have BB := hide (B0.out.trans (b2.mono (by rw [nblk_alloc]; omega)))
  rcases hk with ⟨rfl, _⟩ | ⟨i, _, hi⟩
  · clear b2 cI
    go_wp2
    go_ret
    refine ⟨none, 0, 0, .slice a5 n5 c5, rfl, by rw [EL.out.1]; rfl, by rw [EL.out.1]; exact Row.nil _ _, by rw [EL.out.2]; exact T2.out, Keep.of_below BB.out, fun q hq => hq⟩
  · rw [HP.out] at hi; cases hi
end
theorem LosePost.ofDrew {w : World} {q : Nat} {l d m : Nat} {v5 v6 v7 : Value} {T : Lg} {P : Nat} {e : Ending} {w' : World} (h : LosePost (w.drewN q) l d m v5 v6 v7 T P e w') : LosePost w l d m v5 v6 v7 T P e w' := by
  obtain ⟨va, vn, vc, v5', q1, q2, q3, q4, q5, q6⟩ := h
  exact ⟨va, vn, vc, v5', q1, q2, q3, q4, ⟨q5.os, q5.tape, q5.output, q5.size, q5.block⟩, q6⟩
theorem lose_idle {w : World} {l d m : Nat} {v5 v6 v7 : Value} {T : Lg} (h : LgIn w l d m v5 v6 v7 T) (P : Nat) (hP : idxP P T.regs = none) (hr : T.regs.length ≤ 100) (q : Nat) :
    Calls Try.prog 33 #[.pointer (some ⟨l, 0, none⟩), .int .i64 (P : Int)] (w.drewN q) (LosePost w l d m v5 v6 v7 T P) :=
  (lose_none (w := w.drewN q) (h.heap rfl) P hP hr).mono (fun e w' hp => hp.ofDrew)
theorem seal_state {W w5 : World} {l d m : Nat} {v5 v6 v7 v5' : Value} {T : Lg} (h : LgIn W l d m v5 v6 v7 T) (place n : Nat) (ho : w5.ownsRow 0 70 3 v5' (T.regs.length + 1) (rgRow T.regs ++ [.int .i64 (place : Int), .int .u64 (n : Int), v6])) (hk : Keep (own v5) W w5) {w' : World}
    (hw : w' = ((((w5.setCell ⟨l, 5, none⟩ v5').setCell ⟨l, 4, none⟩ (.int .u64 (n : Int))).setCell ⟨l, 6, none⟩ (.slice none 0 0)).setCell ⟨l, 7, none⟩ (.slice none 0 0))) :
    LgIn w' l d m v5' (.slice none 0 0) (.slice none 0 0) { T with num := n, regs := T.regs ++ [⟨place, n, v6, T.opn⟩], opn := [] } ∧ Keep (l :: own v5) W w' := by
  have hl : Blk w5 l (lgCells d m v5 v6 v7 T) 67 := h.box.same (hk.block l h.box.lt (own_notin h.sld h.box (by decide)))
  have hset : ∀ q, q ≠ l → w'.heap[q]? = w5.heap[q]? := fun q hq => by
    rw [hw]
    refine (blk_setCell_other _ ⟨l, 7, none⟩ _ q hq).trans ((blk_setCell_other _ ⟨l, 6, none⟩ _ q hq).trans ((blk_setCell_other _ ⟨l, 4, none⟩ _ q hq).trans (blk_setCell_other _ ⟨l, 5, none⟩ _ q hq)))
  have sm : ∀ {q : Nat} {c : Array Value} {e : TypeId}, W.heap[q]? = some (.cells c e (0, 0)) → e ≠ 70 → e ≠ 67 → w'.heap[q]? = W.heap[q]? := fun {q c e} hq h1 h2 =>
    (hset q (ty_ne hq h.box h2)).trans (hk.block q (Array.getElem?_eq_some_iff.1 hq).1 (own_notin h.sld hq h1))
  have hall : ∀ t, t ∈ ({ T with num := n, regs := T.regs ++ [⟨place, n, v6, T.opn⟩], opn := [] } : Lg).all ↔ t ∈ T.all := fun t => by
    unfold Lg.all
    simp
  constructor
  · refine ⟨?_, ?_, fun x hx => ?_, World.ownsRow_nil _ _ _ _, World.ownsRow_nil _ _ _ _, h.map.same ?_, fun t ht => ?_, fun x hx q hq => by simp [Value.ownBlock], fun k p hkp => ?_⟩
    · rw [hw]
      exact (((hl.set 5 _).set 4 _).set 6 _).set 7 _
    · rw [List.length_append, rgRow_append]
      have : rgRow [⟨place, n, v6, T.opn⟩] = [.int .i64 (place : Int), .int .u64 (n : Int), v6] := by simp [rgRow, rgCells]
      rw [this]
      refine own_same ho (fun q hq => hset q ?_)
      obtain ⟨c, hc⟩ := own_ty ho hq
      exact ty_ne hc hl (by decide)
    · rcases List.mem_append.1 hx with hx | hx
      · refine own_same (h.rows x hx) (fun q hq => ?_)
        obtain ⟨c, hc⟩ := own_ty (h.rows x hx) hq; exact sm hc (by decide) (by decide)
      · simp only [List.mem_singleton] at hx
        subst hx
        refine own_same h.opn (fun q hq => ?_)
        obtain ⟨c, hc⟩ := own_ty h.opn hq; exact sm hc (by decide) (by decide)
    · refine (hset m (Ne.symm (h.notM h.box))).trans (hk.block m h.map.lt (fun hm => ?_))
      obtain ⟨c, hc⟩ := own_ty h.sld (mem_own.1 hm)
      exact h.notM hc rfl
    · have ht' := h.ths t ((hall t).1 ht)
      obtain ⟨c, hc⟩ := ht'.ty
      exact ht'.same (sm hc (by decide) (by decide))
    · obtain ⟨t, ht, h1, h2⟩ := h.hasAt k p hkp
      exact ⟨t, (hall t).2 ht, h1, h2⟩
  · rw [hw]
    refine ((((?_ : Keep (l :: own v5) W w5).setCell (.inl (by simp)) _).setCell (.inl (by simp)) _).setCell (.inl (by simp)) _).setCell (.inl (by simp)) _
    exact hk.mono (fun q hq => .inl (by simp [hq]))
/-- What Seal leaves. -/
def Lg.sealed (T : Lg) (v6 : Value) (place n : Nat) : Lg := { T with num := n, regs := T.regs ++ [⟨place, n, v6, T.opn⟩], opn := [] }
set_option maxHeartbeats 400000 in
theorem seal_idle {w : World} {l d m : Nat} {v5 v6 v7 : Value} {T : Lg} (h : LgIn w l d m v5 v6 v7 T) (ho : T.opn = []) :
    Calls Try.prog 11 #[.pointer (some ⟨l, 0, none⟩)] w fun e w' => e = .returned (.tuple #[.slice none 0 0, .int .i64 0]) ∧ w' = w := by
  obtain ⟨a6, c6, rfl⟩ := own_slice h.opn
  have k6 := h.box.cell (i := 6) rfl
  rw [ho] at k6
  clear h ho
  simp only [List.length_nil] at k6
  go_enter Try.func11, Try.ntmps11
  go_wp2
  go_ret2
  exact ⟨rfl, rfl⟩
def SealPost (w : World) (l d m : Nat) (v5 v6 v7 : Value) (T : Lg) (S : Dv) (F : List Nat) (place n : Nat) (e : Ending) (w' : World) : Prop :=
  ∃ va vn vc v5' F', vn = (T.lost place).length ∧ Row w' w.heap.size (.slice va vn vc) (T.lost place) ∧ DvAt w' d F' (wrR (T.first + 4 * place) n 4 S T.cont).2 ∧ Keep (F ++ l :: m :: own v5) w w' ∧ (∀ q ∈ F', q ∈ F ∨ w.heap.size ≤ q) ∧ (∀ q ∈ own v5', q ∈ own v5 ∨ w.heap.size ≤ q) ∧
    e = .returned (.tuple #[.slice va vn vc, .int .i64 (wrR (T.first + 4 * place) n 4 S T.cont).1]) ∧
    (((wrR (T.first + 4 * place) n 4 S T.cont).1 ≠ 0 ∧ LgIn w' l d m v5' v6 v7 (T.lose place)) ∨
     ((wrR (T.first + 4 * place) n 4 S T.cont).1 = 0 ∧ LgIn w' l d m v5' (.slice none 0 0) (.slice none 0 0) ((T.lose place).sealed v6 place n)))
theorem lose_same (T : Lg) (P : Nat) : (T.lose P).opn = T.opn ∧ (T.lose P).first = T.first ∧ (T.lose P).num = T.num ∧ (T.lose P).losses = T.losses ∧ (T.lose P).regions = T.regions ∧ (T.lose P).cap = T.cap ∧ (T.lose P).regs.length ≤ T.regs.length := by
  unfold Lg.lose
  split
  · exact ⟨rfl, rfl, rfl, rfl, rfl, rfl, Nat.le_refl _⟩
  · exact ⟨rfl, rfl, rfl, rfl, rfl, rfl, List.length_eraseIdx_le _ _⟩
set_option maxHeartbeats 8000000 in
theorem seal_log {w : World} {l d m : Nat} {v5 v6 v7 : Value} {T : Lg} {S : Dv} {F : List Nat} (h : LgIn w l d m v5 v6 v7 T) (hD : DvAt w d F S) (hopn : T.opn ≠ []) (hloss : S.losses = T.losses) (hnum : T.num < 18446744073709551615) (hreg1 : 1 ≤ T.regions) (hreg : T.regions ≤ 64) (hfi : T.first ≤ 4096) (hcl : T.cont.length ≤ 1472) (hcne : T.cont ≠ []) (hrl : T.regs.length ≤ 100)
    (place n : Nat) (hn : n = T.num + 1) (hpl : place = n % T.regions) (cLo : ∀ q, Calls Try.prog 33 #[.pointer (some ⟨l, 0, none⟩), .int .i64 (place : Int)] (w.drewN q) (LosePost w l d m v5 v6 v7 T place)) :
    Calls Try.prog 11 #[.pointer (some ⟨l, 0, none⟩)] w (SealPost w l d m v5 v6 v7 T S F place n) := by
  have hLd : ∀ q, LgIn (w.drewN q) l d m v5 v6 v7 T := fun q => h.heap rfl
  obtain ⟨a6, c6, rfl⟩ := own_slice h.opn
  have ho6 : ¬ ((T.opn.length : Int) = 0) := by
    have : T.opn.length ≠ 0 := fun h0 => hopn (List.eq_nil_of_length_eq_zero h0)
    omega
  have k6 := h.box.cell (i := 6) rfl
  have k0 := h.box.cell (i := 0) rfl
  have k1 := h.box.cell (i := 1) rfl
  have cLs : Hid (∀ V : World, V.heap = w.heap → Calls Try.prog 27 #[.pointer (some ⟨d, 0, none⟩)] V fun e w' => e = .returned (.int .i64 T.losses) ∧ w' = V) := fun V hV => by
    rw [← hloss]; exact losses_at (hD.same (fun _ _ => by rw [hV]))
  have H := hide h
  have HD := hide hD
  have HN := hide hn
  have HPL := hide hpl
  have hpl64 : place < 64 := by rw [hpl]; exact Nat.lt_of_lt_of_le (Nat.mod_lt _ hreg1) hreg
  have hmodi : ((n : Int) % (T.regions : Int)) = (place : Int) := by rw [hpl]; omega
  obtain ⟨n6, hn6⟩ : ∃ n6, n6 = T.opn.length := ⟨_, rfl⟩
  rw [← hn6] at ho6 k6
  go_enter Try.func11, Try.ntmps11
  clear hopn hloss hn hpl hn6
  go_wp2_with fail
  go_quiet (first | (go_at_call 27; refine Calls.quiet_of_same (cLs.out _ ?_); rfl))
  obtain ⟨W1, hW1⟩ : ∃ W1, W1 = w.drewN nq := ⟨_, rfl⟩
  rw [← hW1]
  have hL1 : LgIn W1 l d m v5 (.slice a6 T.opn.length c6) v7 T := by rw [hW1]; exact H.out.heap rfl
  have hh1 : W1.heap = w.heap := by rw [hW1]; rfl
  have k3 := hL1.box.cell (i := 3) rfl
  have k4 := hL1.box.cell (i := 4) rfl
  have cLO := hide (cLo nq)
  rw [← hW1] at cLO
  have q1 : ¬ ((T.num : Int) = 18446744073709551615) := by omega
  have q2 : IntKind.u64.wrap ((T.num : Int) + 1) = (n : Int) := by rw [IntKind.wrap_u64]; have := HN.out; omega
  have q3 : IntKind.u64.wrap (T.regions : Int) = (T.regions : Int) := by rw [IntKind.wrap_u64]; omega
  have q4 : ¬ ((T.regions : Int) = 0) := by omega
  have q5 : IntKind.i64.wrap (place : Int) = (place : Int) := by rw [IntKind.wrap_i64]; omega
  have q6 : (n : Int).tmod (T.regions : Int) = (place : Int) := by rw [Int.tmod_eq_emod_of_nonneg (by omega)]; exact hmodi
  have HH1 := hide hh1
  have HR1 := hide hreg1
  have HNUM := hide hnum
  have HFI := hide hfi
  have HCL := hide hcl
  have HCNE := hide hcne
  have HRL := hide hrl
  have HPL64 := hide hpl64
  clear hW1 hL1 hh1 h hD hLd cLo cLs hreg1 hreg hnum hfi hcl hcne hrl hpl64 k0 k1 k6
  generalize (T.num : Int) = tn at *
  generalize (T.regions : Int) = tr at *
  go_wp2_with fail
  refine cLO.out.mono ?_
  rintro e w2 ⟨va, vn, vc, v5', rfl, hvn, hrow, hL2, hk2, hv5⟩
  have hD2 : DvAt w2 d F S := HD.out.same (fun q hq => hk2.block q (HD.out.lt q hq) (fun hm => by
    refine H.out.off HD.out q (List.mem_append.2 (.inl ?_)) hq
    simp only [List.mem_cons] at hm
    simp only [lfoot, List.mem_cons, List.mem_append]
    rcases hm with h | h | h
    · exact .inl h
    · exact .inr (.inl h)
    · exact .inr (.inr (.inl h))))
  obtain ⟨s1, s2, s3, s4, s5, s6, s7⟩ := lose_same T place
  have ec : (T.lose place).cont = T.cont := by unfold Lg.cont; rw [s1]
  have cW := hide (write_log hL2 hD2 place n HPL64.out (by have h1 := HN.out; have h2 := HNUM.out; omega) (by rw [s2]; exact HFI.out) (by rw [ec]; exact HCNE.out) (by rw [ec]; exact HCL.out))
  rw [ec, s2] at cW
  have RW := hide hrow
  have HVN := hide hvn
  have HL2 := hide hL2
  have HK2 := hide hk2
  have HV5 := hide hv5
  have HS7 := hide s7
  have HS1 := hide s1
  obtain ⟨er, her⟩ : ∃ er, er = (wrR (T.first + 4 * place) n 4 S T.cont).1 := ⟨_, rfl⟩
  rw [← her] at cW
  have HER := hide her
  clear hrow hvn hL2 hk2 hv5 hD2 s1 s2 s3 s4 s5 s6 s7 ec cLO her
  go_wp2_with fail
  refine cW.out.mono ?_
  rintro e w3 ⟨rfl, hL3, F3, hD3, hM3⟩
  have hk3 : Keep (F ++ l :: m :: own v5) w w3 := (HK2.out.mono (fun q hq => .inl (by simp only [List.mem_append]; exact .inr hq))).trans hM3.keep (fun q hq => .inl (by simp [hq]))
  have hF3 : ∀ q ∈ F3, q ∈ F ∨ w.heap.size ≤ q := fun q hq => by
    rcases hM3.foot q hq with h | h
    · exact .inl h
    · exact .inr (Nat.le_trans HK2.out.size h)
  have hrow3 : Row w3 w.heap.size (.slice va vn vc) (T.lost place) := RW.out.keep (fun q hq => hM3.keep.block q (RW.out.lt q hq).2 (fun hf => by
    have h1 := HD.out.lt q hf
    have h2 := (RW.out.lt q hq).1
    omega))
  have K3 := hide hk3
  have KF3 := hide hF3
  have RW3 := hide hrow3
  have HD3 := hide hD3
  have HL3 := hide hL3
  clear cW hM3 hk3 hF3 hrow3 hD3
  by_cases h0 : er = 0
  · subst h0
    obtain ⟨a5, c5, rfl⟩ := own_slice hL3.sld
    have hLd : LgIn w3.drew l d m (.slice a5 (T.lose place).regs.length c5) (.slice a6 T.opn.length c6) v7 (T.lose place) := hL3.heap rfl
    have hsldD := hLd.sld
    obtain ⟨ua, uc, w5, hrun, hrow5, hkp5, hblk5, hsz5⟩ := app_rg hsldD (.int .i64 (place : Int)) (.int .u64 (n : Int)) (.slice a6 T.opn.length c6) rfl rfl rfl (by have h1 := HS7.out; have h2 := HRL.out; omega) (Nat.zero_le _)
    have cS0 : w3.drew.cell? ⟨l, 5, none⟩ = some (.slice a5 (T.lose place).regs.length c5) ∧ w3.drew.cell? ⟨l, 6, none⟩ = some (.slice a6 T.opn.length c6) := ⟨hLd.box.cell (i := 5) rfl, hLd.box.cell (i := 6) rfl⟩
    have hbA := hLd.box.alloc (.cells #[.int .i64 (place : Int), .int .u64 (n : Int), .slice a6 T.opn.length c6] 70)
    have cS1 : (w3.alloc (.cells #[.int .i64 (place : Int), .int .u64 (n : Int), .slice a6 T.opn.length c6] 70)).drew.cell? ⟨l, 5, none⟩ = some (.slice a5 (T.lose place).regs.length c5) ∧ (w3.alloc (.cells #[.int .i64 (place : Int), .int .u64 (n : Int), .slice a6 T.opn.length c6] 70)).drew.cell? ⟨l, 6, none⟩ = some (.slice a6 T.opn.length c6) := ⟨hbA.cell (i := 5) rfl, hbA.cell (i := 6) rfl⟩
    have hb5 : Blk w5 l (lgCells d m (.slice a5 (T.lose place).regs.length c5) (.slice a6 T.opn.length c6) v7 (T.lose place)) 67 := hLd.box.same (hkp5.block l hLd.box.lt (own_notin hsldD hLd.box (by decide)))
    have c5c := hb5.cell (i := 5) rfl
    have f5c := hb5.frozen 5
    have hr62 : (Builtin.append_ #[64, 64] 64 #[.slice a5 (T.lose place).regs.length c5, .slice (some ⟨w3.heap.size, 0, none⟩) 1 1]).run Try.prog (w3.alloc (.cells #[.int .i64 (place : Int), .int .u64 (n : Int), .slice a6 T.opn.length c6] 70)).drew = .ok (.slice ua ((T.lose place).regs.length + 1) uc) w5 := hrun 64
    obtain ⟨W6, hW6⟩ : ∃ W6, w5.setCell ⟨l, 5, none⟩ (.slice ua ((T.lose place).regs.length + 1) uc) = W6 := ⟨_, rfl⟩
    have hb6 : Blk W6 l ((lgCells d m (.slice a5 (T.lose place).regs.length c5) (.slice a6 T.opn.length c6) v7 (T.lose place)).set 5 (.slice ua ((T.lose place).regs.length + 1) uc)) 67 := by rw [← hW6]; exact hb5.set 5 _
    have g4 := hb6.cell (i := 4) rfl
    have g6 := hb6.cell (i := 6) rfl
    have g7 := hb6.cell (i := 7) rfl
    have z4 := hb6.frozen 4
    have z6 := hb6.frozen 6
    have z7 := hb6.frozen 7
    have hlk : ∀ q ∈ own (.slice a5 (T.lose place).regs.length c5), q ∈ own v5 := HV5.out
    obtain ⟨hfin, hkfin⟩ := seal_state (v5' := .slice ua ((T.lose place).regs.length + 1) uc) hLd place n hrow5 hkp5 (w' := (((W6.setCell ⟨l, 4, none⟩ (.int .u64 (n : Int))).setCell ⟨l, 6, none⟩ (.slice none 0 0)).setCell ⟨l, 7, none⟩ (.slice none 0 0))) (by rw [← hW6])
    have TT : Hid (SealPost w l d m v5 (.slice a6 T.opn.length c6) v7 T S F place n (.returned (.tuple #[.slice va vn vc, .int .i64 0])) (((W6.setCell ⟨l, 4, none⟩ (.int .u64 (n : Int))).setCell ⟨l, 6, none⟩ (.slice none 0 0)).setCell ⟨l, 7, none⟩ (.slice none 0 0))) := by
      have hsz := K3.out.size
      have hD3d : DvAt w3.drew d F3 (wrR (T.first + 4 * place) n 4 S T.cont).2 := HD3.out.same (fun _ _ => rfl)
      refine ⟨va, vn, vc, .slice ua ((T.lose place).regs.length + 1) uc, F3, HVN.out, RW3.out.keep (fun q hq => ?_), hD3d.same (fun q hq => hkfin.block q (hD3d.lt q hq) (fun hm => ?_)), K3.out.drew.trans hkfin (fun q hq => .inl ?_), KF3.out, fun q hq => ?_, by rw [← HER.out], .inr ⟨HER.out.symm, hfin⟩⟩
      · refine hkfin.block q (RW3.out.lt q hq).2 (fun hm => ?_)
        have h1 := (RW3.out.lt q hq).1
        simp only [List.mem_cons] at hm
        rcases hm with h2 | h2
        · have := H.out.box.lt; omega
        · have := own_lt H.out.sld q (hlk q h2); omega
      · simp only [List.mem_cons] at hm
        refine hLd.off hD3d q (List.mem_append.2 (.inl ?_)) hq
        simp only [lfoot, List.mem_cons, List.mem_append]
        rcases hm with h2 | h2
        · exact .inl h2
        · exact .inr (.inr (.inl h2))
      · simp only [List.mem_cons] at hq
        simp only [List.mem_append, List.mem_cons]
        rcases hq with h2 | h2
        · exact .inr (.inl h2)
        · exact .inr (.inr (.inr (hlk q h2)))
      · rcases hblk5 q hq with h2 | h2
        · exact .inl (hlk q h2)
        · exact .inr (Nat.le_trans hsz h2)
    clear hrun hrow5 hkp5 hblk5 hsz5 hLd hsldD hbA hb5 hb6 hfin hkfin hlk hL3 HL3 HV5 K3 KF3 RW3 HD3 HL2 HK2 RW HVN
    generalize (T.lose place).regs.length = n5 at *
    generalize ((T.lose place).num : Int) = ln at *
    obtain ⟨n6b, hn6b⟩ : ∃ n6b, T.opn.length = n6b := ⟨_, rfl⟩
    rw [hn6b] at cS0 cS1 hr62 TT g6
    have HN6B := hide hn6b
    clear hn6b
    obtain ⟨CC3, hCC3⟩ : ∃ CC3 : Nat → World → Prop, CC3 = fun s w' => match s with
      | 0 => w' = w3.drew
      | 1 => w' = (w3.alloc (.cells #[.int .i64 (place : Int), .int .u64 (n : Int), .slice a6 n6b c6] 70)).drew
      | 2 => w' = w5
      | _ => w' = W6 := ⟨_, rfl⟩
    have DR3 : Hid (CC3 0 w3.drew) := by show CC3 0 _; rw [hCC3]; exact (rfl : w3.drew = w3.drew)
    have cS3 : Hid (∀ s w', CC3 s w' → s ≤ 1 → w'.cell? ⟨l, 5, none⟩ = some (.slice a5 n5 c5) ∧ w'.cell? ⟨l, 6, none⟩ = some (.slice a6 n6b c6)) := fun s w' hw hs => by
      rw [hCC3] at hw
      match s, hs with
      | 0, _ => simp only at hw; subst hw; exact cS0
      | 1, _ => simp only at hw; subst hw; exact cS1
    have cA3 : Hid (∀ w', CC3 0 w' → CC3 1 (w'.alloc (.cells #[.int .i64 (place : Int), .int .u64 (n : Int), .slice a6 n6b c6] 70)) ∧ w'.heap.size = w3.heap.size) := fun w' hw => by
      rw [hCC3] at hw ⊢
      simp only at hw ⊢
      subst hw
      refine ⟨?_, ?_⟩ <;> first | rfl | trivial
    have cB3 : Hid (∀ w', CC3 1 w' → CC3 2 w5 ∧ (Builtin.append_ #[64, 64] 64 #[.slice a5 n5 c5, .slice (some ⟨w3.heap.size, 0, none⟩) 1 1]).run Try.prog w' = .ok (.slice ua (n5 + 1) uc) w5) := fun w' hw => by
      rw [hCC3] at hw ⊢
      simp only at hw ⊢
      subst hw
      refine ⟨?_, hr62⟩
      first | rfl | trivial
    have cD3 : Hid (∀ w', CC3 2 w' → CC3 3 (w'.setCell ⟨l, 5, none⟩ (.slice ua (n5 + 1) uc)) ∧ w'.cell? ⟨l, 5, none⟩ = some (.slice a5 n5 c5) ∧ w'.frozen? ⟨l, 5, none⟩ = false) := fun w' hw => by
      rw [hCC3] at hw ⊢
      simp only at hw ⊢
      subst hw
      refine ⟨?_, c5c, f5c⟩
      exact hW6
    have HE3 : Hid (∀ w', CC3 3 w' → w' = W6) := fun w' hw => by rw [hCC3] at hw; exact hw
    clear hCC3 hW6 cS0 cS1 c5c f5c hr62
    go_wp2_with fail
    refine wp_region_chain (by kernel_rfl) (by kernel_rfl) (fun jx => ([.pointer (some ⟨l, 0, none⟩), .pointer (some ⟨l, 0, none⟩), .pointer (some ⟨l, 0, none⟩), .pointer (some ⟨l, 5, none⟩), .slice a5 n5 c5, .int .i64 (place : Int), .int .u64 (n : Int), .pointer (some ⟨l, 0, none⟩), .pointer (some ⟨l, 0, none⟩), .pointer (some ⟨l, 6, none⟩), .slice a6 n6b c6, .agg #[.int .i64 (place : Int), .int .u64 (n : Int), .slice a6 n6b c6], .slice (some ⟨w3.heap.size, 0, none⟩) 1 1, .slice ua (n5 + 1) uc, .pointer (some ⟨l, 0, none⟩), .pointer (some ⟨l, 5, none⟩), undef] : List Value).getD jx undef) [12, 13, 16] (by kernel_rfl) (CC3) (DR3.out) ?_ ?_
    · intro jx ox hi sx w' ev hlm hks hc hin hout hcst hfn
      have hltx : jx < 17 := by
        have := (Array.getElem?_eq_some_iff.1 hi).1
        simpa using this
      match jx, hltx with
      | 0, _ =>
        simp only [List.getElem?_toArray, List.getElem?_cons_zero, List.getElem?_cons_succ, Option.some.injEq] at hi
        subst hi
        have e0 : ev (.tmp 0) = .pointer (some ⟨l, 0, none⟩) := hout 0 (by kernel_rfl) (show (0 : Nat) < 83 by decide)
        rw [if_neg (by decide)]
        refine .inl ⟨w', ?_, hc⟩
        show _ = Result.ok (Next.value (.pointer (some ⟨l, 0, none⟩))) w'
        simp [execOp, e0, hcst, go_sem]
      | 1, _ =>
        simp only [List.getElem?_toArray, List.getElem?_cons_zero, List.getElem?_cons_succ, Option.some.injEq] at hi
        subst hi
        have e0 : ev (.tmp 0) = .pointer (some ⟨l, 0, none⟩) := hout 0 (by kernel_rfl) (show (0 : Nat) < 83 by decide)
        rw [if_neg (by decide)]
        refine .inl ⟨w', ?_, hc⟩
        show _ = Result.ok (Next.value (.pointer (some ⟨l, 0, none⟩))) w'
        simp [execOp, e0, hcst, go_sem]
      | 2, _ =>
        simp only [List.getElem?_toArray, List.getElem?_cons_zero, List.getElem?_cons_succ, Option.some.injEq] at hi
        subst hi
        have e0 : ev (.tmp 57) = .pointer (some ⟨l, 0, none⟩) := hin 57 1 ⟨1, .data⟩ (by kernel_rfl) (by simp) rfl rfl (show (57 : Nat) < 83 by decide)
        rw [if_neg (by decide)]
        refine .inl ⟨w', ?_, hc⟩
        show _ = Result.ok (Next.value (.pointer (some ⟨l, 0, none⟩))) w'
        simp [execOp, e0, hcst, go_sem]
      | 3, _ =>
        simp only [List.getElem?_toArray, List.getElem?_cons_zero, List.getElem?_cons_succ, Option.some.injEq] at hi
        subst hi
        have e0 : ev (.tmp 58) = .pointer (some ⟨l, 0, none⟩) := hin 58 2 ⟨2, .data⟩ (by kernel_rfl) (by simp) rfl rfl (show (58 : Nat) < 83 by decide)
        rw [if_neg (by decide)]
        refine .inl ⟨w', ?_, hc⟩
        show _ = Result.ok (Next.value (.pointer (some ⟨l, 5, none⟩))) w'
        simp [execOp, e0, hcst, go_sem]
      | 4, _ =>
        simp only [List.getElem?_toArray, List.getElem?_cons_zero, List.getElem?_cons_succ, Option.some.injEq] at hi
        subst hi
        have e0 : ev (.tmp 59) = .pointer (some ⟨l, 5, none⟩) := hin 59 3 ⟨3, .data⟩ (by kernel_rfl) (by simp) rfl rfl (show (59 : Nat) < 83 by decide)
        rw [if_neg (by decide)]
        refine .inl ⟨w', ?_, hc⟩
        show _ = Result.ok (Next.value (.slice a5 n5 c5)) w'
        have hl2 : sx ≤ 1 := Nat.le_trans hlm (Nat.le_of_eq (by kernel_rfl))
        have q := (cS3.out sx w' hc (by omega)).1
        simp [execOp, e0, q, hcst, go_sem]
      | 5, _ =>
        simp only [List.getElem?_toArray, List.getElem?_cons_zero, List.getElem?_cons_succ, Option.some.injEq] at hi
        subst hi
        have e0 : ev (.tmp 5) = .int .i64 (place : Int) := hout 5 (by kernel_rfl) (show (5 : Nat) < 83 by decide)
        rw [if_neg (by decide)]
        refine .inl ⟨w', ?_, hc⟩
        show _ = Result.ok (Next.value (.int .i64 (place : Int))) w'
        simp [execOp, e0, hcst, go_sem]
      | 6, _ =>
        simp only [List.getElem?_toArray, List.getElem?_cons_zero, List.getElem?_cons_succ, Option.some.injEq] at hi
        subst hi
        have e0 : ev (.tmp 4) = .int .u64 (n : Int) := hout 4 (by kernel_rfl) (show (4 : Nat) < 83 by decide)
        rw [if_neg (by decide)]
        refine .inl ⟨w', ?_, hc⟩
        show _ = Result.ok (Next.value (.int .u64 (n : Int))) w'
        simp [execOp, e0, hcst, go_sem]
      | 7, _ =>
        simp only [List.getElem?_toArray, List.getElem?_cons_zero, List.getElem?_cons_succ, Option.some.injEq] at hi
        subst hi
        have e0 : ev (.tmp 0) = .pointer (some ⟨l, 0, none⟩) := hout 0 (by kernel_rfl) (show (0 : Nat) < 83 by decide)
        rw [if_neg (by decide)]
        refine .inl ⟨w', ?_, hc⟩
        show _ = Result.ok (Next.value (.pointer (some ⟨l, 0, none⟩))) w'
        simp [execOp, e0, hcst, go_sem]
      | 8, _ =>
        simp only [List.getElem?_toArray, List.getElem?_cons_zero, List.getElem?_cons_succ, Option.some.injEq] at hi
        subst hi
        have e0 : ev (.tmp 63) = .pointer (some ⟨l, 0, none⟩) := hin 63 7 ⟨7, .data⟩ (by kernel_rfl) (by simp) rfl rfl (show (63 : Nat) < 83 by decide)
        rw [if_neg (by decide)]
        refine .inl ⟨w', ?_, hc⟩
        show _ = Result.ok (Next.value (.pointer (some ⟨l, 0, none⟩))) w'
        simp [execOp, e0, hcst, go_sem]
      | 9, _ =>
        simp only [List.getElem?_toArray, List.getElem?_cons_zero, List.getElem?_cons_succ, Option.some.injEq] at hi
        subst hi
        have e0 : ev (.tmp 64) = .pointer (some ⟨l, 0, none⟩) := hin 64 8 ⟨8, .data⟩ (by kernel_rfl) (by simp) rfl rfl (show (64 : Nat) < 83 by decide)
        rw [if_neg (by decide)]
        refine .inl ⟨w', ?_, hc⟩
        show _ = Result.ok (Next.value (.pointer (some ⟨l, 6, none⟩))) w'
        simp [execOp, e0, hcst, go_sem]
      | 10, _ =>
        simp only [List.getElem?_toArray, List.getElem?_cons_zero, List.getElem?_cons_succ, Option.some.injEq] at hi
        subst hi
        have e0 : ev (.tmp 65) = .pointer (some ⟨l, 6, none⟩) := hin 65 9 ⟨9, .data⟩ (by kernel_rfl) (by simp) rfl rfl (show (65 : Nat) < 83 by decide)
        rw [if_neg (by decide)]
        refine .inl ⟨w', ?_, hc⟩
        show _ = Result.ok (Next.value (.slice a6 n6b c6)) w'
        have hl2 : sx ≤ 0 := Nat.le_trans hlm (Nat.le_of_eq (by kernel_rfl))
        have q := (cS3.out sx w' hc (by omega)).2
        simp [execOp, e0, q, hcst, go_sem]
      | 11, _ =>
        simp only [List.getElem?_toArray, List.getElem?_cons_zero, List.getElem?_cons_succ, Option.some.injEq] at hi
        subst hi
        have e0 : ev (.tmp 61) = .int .i64 (place : Int) := hin 61 5 ⟨5, .data⟩ (by kernel_rfl) (by simp) rfl rfl (show (61 : Nat) < 83 by decide)
        have e1 : ev (.tmp 62) = .int .u64 (n : Int) := hin 62 6 ⟨6, .data⟩ (by kernel_rfl) (by simp) rfl rfl (show (62 : Nat) < 83 by decide)
        have e2 : ev (.tmp 66) = .slice a6 n6b c6 := hin 66 10 ⟨10, .data⟩ (by kernel_rfl) (by simp) rfl rfl (show (66 : Nat) < 83 by decide)
        rw [if_neg (by decide)]
        refine .inl ⟨w', ?_, hc⟩
        show _ = Result.ok (Next.value (.agg #[.int .i64 (place : Int), .int .u64 (n : Int), .slice a6 n6b c6])) w'
        simp [execOp, e0, e1, e2, hcst, go_sem]
      | 12, _ =>
        simp only [List.getElem?_toArray, List.getElem?_cons_zero, List.getElem?_cons_succ, Option.some.injEq] at hi
        subst hi
        have e0 : ev (.tmp 67) = .agg #[.int .i64 (place : Int), .int .u64 (n : Int), .slice a6 n6b c6] := hin 67 11 ⟨11, .data⟩ (by kernel_rfl) (by simp) rfl rfl (show (67 : Nat) < 83 by decide)
        rw [if_pos (by decide)]
        have hsx : sx = 0 := hks 0 rfl
        subst hsx
        have q := cA3.out w' hc
        refine .inl ⟨_, ?_, q.1⟩
        have hsz := q.2
        simp [execOp, e0, hcst, go_sem, hsz]
      | 13, _ =>
        simp only [List.getElem?_toArray, List.getElem?_cons_zero, List.getElem?_cons_succ, Option.some.injEq] at hi
        subst hi
        have e0 : ev (.tmp 60) = .slice a5 n5 c5 := hin 60 4 ⟨4, .data⟩ (by kernel_rfl) (by simp) rfl rfl (show (60 : Nat) < 83 by decide)
        have e1 : ev (.tmp 68) = .slice (some ⟨w3.heap.size, 0, none⟩) 1 1 := hin 68 12 ⟨12, .data⟩ (by kernel_rfl) (by simp) rfl rfl (show (68 : Nat) < 83 by decide)
        rw [if_pos (by decide)]
        have hsx : sx = 1 := hks 1 rfl
        subst hsx
        have q := cB3.out w' hc
        refine .inl ⟨_, ?_, q.1⟩
        have hrn := q.2
        simp [execOp, e0, e1, hcst, resolve, invoke, builtin, Result.andThen, hrn]
      | 14, _ =>
        simp only [List.getElem?_toArray, List.getElem?_cons_zero, List.getElem?_cons_succ, Option.some.injEq] at hi
        subst hi
        have e0 : ev (.tmp 56) = .pointer (some ⟨l, 0, none⟩) := hin 56 0 ⟨0, .data⟩ (by kernel_rfl) (by simp) rfl rfl (show (56 : Nat) < 83 by decide)
        rw [if_neg (by decide)]
        refine .inl ⟨w', ?_, hc⟩
        show _ = Result.ok (Next.value (.pointer (some ⟨l, 0, none⟩))) w'
        simp [execOp, e0, hcst, go_sem]
      | 15, _ =>
        simp only [List.getElem?_toArray, List.getElem?_cons_zero, List.getElem?_cons_succ, Option.some.injEq] at hi
        subst hi
        have e0 : ev (.tmp 70) = .pointer (some ⟨l, 0, none⟩) := hin 70 14 ⟨14, .data⟩ (by kernel_rfl) (by simp) rfl rfl (show (70 : Nat) < 83 by decide)
        rw [if_neg (by decide)]
        refine .inl ⟨w', ?_, hc⟩
        show _ = Result.ok (Next.value (.pointer (some ⟨l, 5, none⟩))) w'
        simp [execOp, e0, hcst, go_sem]
      | 16, _ =>
        simp only [List.getElem?_toArray, List.getElem?_cons_zero, List.getElem?_cons_succ, Option.some.injEq] at hi
        subst hi
        have e0 : ev (.tmp 71) = .pointer (some ⟨l, 5, none⟩) := hin 71 15 ⟨15, .data⟩ (by kernel_rfl) (by simp) rfl rfl (show (71 : Nat) < 83 by decide)
        have e1 : ev (.tmp 69) = .slice ua (n5 + 1) uc := hin 69 13 ⟨13, .data⟩ (by kernel_rfl) (by simp) rfl rfl (show (69 : Nat) < 83 by decide)
        rw [if_pos (by decide)]
        have hsx : sx = 2 := hks 2 rfl
        subst hsx
        have q := cD3.out w' hc
        refine .inr (.inl ⟨rfl, _, ?_, q.1⟩)
        have q1 := q.2.1
        have q2 := q.2.2
        simp [execOp, e0, e1, hcst, go_sem, q1, q2]
    · intro w9 hc
      simp only [lexF, Act.put, List.setIfInBounds_toArray, List.set_cons_succ, List.set_cons_zero, List.getD_cons_succ, List.getD_cons_zero]
      obtain rfl := HE3.out w9 hc
      clear hc DR3 cS3 cA3 cB3 cD3 HE3
      go_wp2
      go_ret2
      rw [HN6B.out]
      exact TT.out
  · have he : (er != 0) = true := by rw [bne_iff_ne]; exact h0
    have H0 := hide h0
    clear h0 hL3
    go_wp2
    go_ret2
    exact ⟨va, vn, vc, v5', F3, HVN.out, RW3.out, HD3.out, K3.out, KF3.out, fun q hq => .inl (HV5.out q hq), (by rw [← HER.out]; rfl), .inl ⟨by rw [← HER.out]; exact H0.out, HL3.out⟩⟩
end Go.Proofs.Ytbjkahdlejaheab
