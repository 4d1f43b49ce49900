/- Joined texts: Sl9, Pt9, Id9, Aw9, Awk9, Kn9, Del9, Los9, Pf9. -/
import Derived.Test.YtbjkahdlejaheaaLo9
import Derived.Deep.RegionLaw
import Derived.Lib.SliceRun
/- Seal. -/
set_option linter.unusedVariables false
set_option linter.unusedSimpArgs false
set_option maxRecDepth 8000
namespace Go.Proofs.Ytbjkahdlejaheaa
open Go.RowKit Go.Deep Math

def Lg.lost (T : Lg) (P : Nat) : List It := match idxP P T.regs with
  | none => []
  | some i => T.hadOf ((T.regs[i]?).map Rg.ths |>.getD [])
def delKeys (M : List UInt8 → Option (Nat × Nat)) (l : List It) : List UInt8 → Option (Nat × Nat) := l.foldl (fun M x => updK M x.key none) M
def Lg.lose (T : Lg) (P : Nat) : Lg := match idxP P T.regs with
  | none => T
  | some i => { T with regs := T.regs.eraseIdx i, has := delKeys T.has (T.lost P) }
def LosePost (w : World) (l d m : Nat) (v5 v6 v7 : Value) (T : Lg) (P : Nat) (e : Ending) (w' : World) : Prop :=
  ∃ va vn vc v5', e = .returned (.slice va vn vc) ∧ vn = (T.lost P).length ∧ Row w' w.heap.size (.slice va vn vc) (T.lost P) ∧ LgIn w' l d m v5' v6 v7 (T.lose P) ∧ Keep (l :: m :: own v5) w w' ∧ ∀ q ∈ own v5', q ∈ own v5
section
variable {w : World} {l d m : Nat} {v5 v6 v7 : Value} {T : Lg}
set_option maxHeartbeats 1000000 in
theorem lose_none (h : LgIn w l d m v5 v6 v7 T) (P : Nat) (hP : idxP P T.regs = none) (hr : T.regs.length ≤ 100) :
    Calls Try.prog 33 #[.pointer (some ⟨l, 0, none⟩), .int .i64 (P : Int)] w (LosePost w l d m v5 v6 v7 T P) := by
  have hA := h.alloc (.cells #[.int .i64 (P : Int)] 3)
  obtain ⟨a5, c5, rfl⟩ := own_slice h.sld
  have k5 := hA.box.cell (i := 5) rfl
  have hBx := (Blk.new w [.int .i64 (P : Int)] 3).cell (i := 0) rfl
  have cI := hide (index9 a5 T.regs.length c5 T.regs P w.heap.size hr _ hA.sld hBx)
  have EL : Hid (T.lost P = [] ∧ T.lose P = T) := by
    refine ⟨?_, ?_⟩
    · unfold Lg.lost; rw [hP]
    · unfold Lg.lose; rw [hP]
  have HA := hide hA
  have HP := hide hP
  have B0 := hide ((Below.refl w.heap.size w).alloc (Nat.le_refl _) (.cells #[.int .i64 (P : Int)] 3))
  clear h hA hBx hP hr
  generalize T.regs.length = n5 at *
  go_enter Try.func33, Try.ntmps33
  go_wp2_with fail
  refine cI.out.mono ?_
  rintro e w2 ⟨⟨k, rfl, hk⟩, b2⟩
  have T2 := hide (HA.out.below b2)
  have BB := hide (B0.out.trans (b2.mono (by rw [nblk_alloc]; omega)))
  rcases hk with ⟨rfl, _⟩ | ⟨i, _, hi⟩
  · clear b2 cI
    go_wp2
    go_ret
    refine ⟨none, 0, 0, .slice a5 n5 c5, rfl, by rw [EL.out.1]; rfl, by rw [EL.out.1]; exact Row.nil _ _, by rw [EL.out.2]; exact T2.out, Keep.of_below BB.out, fun q hq => hq⟩
  · rw [HP.out] at hi; cases hi
end
theorem LosePost.ofDrew {w : World} {q : Nat} {l d m : Nat} {v5 v6 v7 : Value} {T : Lg} {P : Nat} {e : Ending} {w' : World} (h : LosePost (w.drewN q) l d m v5 v6 v7 T P e w') : LosePost w l d m v5 v6 v7 T P e w' := by
  obtain ⟨va, vn, vc, v5', q1, q2, q3, q4, q5, q6⟩ := h
  exact ⟨va, vn, vc, v5', q1, q2, q3, q4, ⟨q5.os, q5.tape, q5.output, q5.size, q5.block⟩, q6⟩
theorem lose_idle {w : World} {l d m : Nat} {v5 v6 v7 : Value} {T : Lg} (h : LgIn w l d m v5 v6 v7 T) (P : Nat) (hP : idxP P T.regs = none) (hr : T.regs.length ≤ 100) (q : Nat) :
    Calls Try.prog 33 #[.pointer (some ⟨l, 0, none⟩), .int .i64 (P : Int)] (w.drewN q) (LosePost w l d m v5 v6 v7 T P) :=
  (lose_none (w := w.drewN q) (h.heap rfl) P hP hr).mono (fun e w' hp => hp.ofDrew)
theorem seal_state {W w5 : World} {l d m : Nat} {v5 v6 v7 v5' : Value} {T : Lg} (h : LgIn W l d m v5 v6 v7 T) (place n : Nat) (ho : w5.ownsRow 0 68 3 v5' (T.regs.length + 1) (rgRow T.regs ++ [.int .i64 (place : Int), .int .u64 (n : Int), v6])) (hk : Keep (own v5) W w5) {w' : World}
    (hw : w' = ((((w5.setCell ⟨l, 5, none⟩ v5').setCell ⟨l, 4, none⟩ (.int .u64 (n : Int))).setCell ⟨l, 6, none⟩ (.slice none 0 0)).setCell ⟨l, 7, none⟩ (.slice none 0 0))) :
    LgIn w' l d m v5' (.slice none 0 0) (.slice none 0 0) { T with num := n, regs := T.regs ++ [⟨place, n, v6, T.opn⟩], opn := [] } ∧ Keep (l :: own v5) W w' := by
  have hl : Blk w5 l (lgCells d m v5 v6 v7 T) 65 := h.box.same (hk.block l h.box.lt (own_notin h.sld h.box (by decide)))
  have hset : ∀ q, q ≠ l → w'.heap[q]? = w5.heap[q]? := fun q hq => by
    rw [hw]
    refine (blk_setCell_other _ ⟨l, 7, none⟩ _ q hq).trans ((blk_setCell_other _ ⟨l, 6, none⟩ _ q hq).trans ((blk_setCell_other _ ⟨l, 4, none⟩ _ q hq).trans (blk_setCell_other _ ⟨l, 5, none⟩ _ q hq)))
  have sm : ∀ {q : Nat} {c : Array Value} {e : TypeId}, W.heap[q]? = some (.cells c e (0, 0)) → e ≠ 68 → e ≠ 65 → w'.heap[q]? = W.heap[q]? := fun {q c e} hq h1 h2 =>
    (hset q (ty_ne hq h.box h2)).trans (hk.block q (Array.getElem?_eq_some_iff.1 hq).1 (own_notin h.sld hq h1))
  have hall : ∀ t, t ∈ ({ T with num := n, regs := T.regs ++ [⟨place, n, v6, T.opn⟩], opn := [] } : Lg).all ↔ t ∈ T.all := fun t => by
    unfold Lg.all
    simp
  constructor
  · refine ⟨?_, ?_, fun x hx => ?_, World.ownsRow_nil _ _ _ _, World.ownsRow_nil _ _ _ _, h.map.same ?_, fun t ht => ?_, fun x hx q hq => by simp [Value.ownBlock], fun k p hkp => ?_⟩
    · rw [hw]
      exact (((hl.set 5 _).set 4 _).set 6 _).set 7 _
    · rw [List.length_append, rgRow_append]
      have : rgRow [⟨place, n, v6, T.opn⟩] = [.int .i64 (place : Int), .int .u64 (n : Int), v6] := by simp [rgRow, rgCells]
      rw [this]
      refine own_same ho (fun q hq => hset q ?_)
      obtain ⟨c, hc⟩ := own_ty ho hq
      exact ty_ne hc hl (by decide)
    · rcases List.mem_append.1 hx with hx | hx
      · refine own_same (h.rows x hx) (fun q hq => ?_)
        obtain ⟨c, hc⟩ := own_ty (h.rows x hx) hq; exact sm hc (by decide) (by decide)
      · simp only [List.mem_singleton] at hx
        subst hx
        refine own_same h.opn (fun q hq => ?_)
        obtain ⟨c, hc⟩ := own_ty h.opn hq; exact sm hc (by decide) (by decide)
    · refine (hset m (Ne.symm (h.notM h.box))).trans (hk.block m h.map.lt (fun hm => ?_))
      obtain ⟨c, hc⟩ := own_ty h.sld (mem_own.1 hm)
      exact h.notM hc rfl
    · have ht' := h.ths t ((hall t).1 ht)
      obtain ⟨c, hc⟩ := ht'.ty
      exact ht'.same (sm hc (by decide) (by decide))
    · obtain ⟨t, ht, h1, h2⟩ := h.hasAt k p hkp
      exact ⟨t, (hall t).2 ht, h1, h2⟩
  · rw [hw]
    refine ((((?_ : Keep (l :: own v5) W w5).setCell (.inl (by simp)) _).setCell (.inl (by simp)) _).setCell (.inl (by simp)) _).setCell (.inl (by simp)) _
    exact hk.mono (fun q hq => .inl (by simp [hq]))
/-- What Seal leaves. -/
def Lg.sealed (T : Lg) (v6 : Value) (place n : Nat) : Lg := { T with num := n, regs := T.regs ++ [⟨place, n, v6, T.opn⟩], opn := [] }
set_option maxHeartbeats 400000 in
theorem seal_idle {w : World} {l d m : Nat} {v5 v6 v7 : Value} {T : Lg} (h : LgIn w l d m v5 v6 v7 T) (ho : T.opn = []) :
    Calls Try.prog 12 #[.pointer (some ⟨l, 0, none⟩)] w fun e w' => e = .returned (.tuple #[.slice none 0 0, .int .i64 0]) ∧ w' = w := by
  obtain ⟨a6, c6, rfl⟩ := own_slice h.opn
  have k6 := h.box.cell (i := 6) rfl
  rw [ho] at k6
  clear h ho
  simp only [List.length_nil] at k6
  go_enter Try.func12, Try.ntmps12
  go_wp2
  go_ret2
  exact ⟨rfl, rfl⟩
def SealPost (w : World) (l d m : Nat) (v5 v6 v7 : Value) (T : Lg) (S : Dv) (F : List Nat) (place n : Nat) (e : Ending) (w' : World) : Prop :=
  ∃ va vn vc v5' F', vn = (T.lost place).length ∧ Row w' w.heap.size (.slice va vn vc) (T.lost place) ∧ DvAt w' d F' (wrR (T.first + 4 * place) n 4 S T.cont).2 ∧ Keep (F ++ l :: m :: own v5) w w' ∧ (∀ q ∈ F', q ∈ F ∨ w.heap.size ≤ q) ∧ (∀ q ∈ own v5', q ∈ own v5 ∨ w.heap.size ≤ q) ∧
    e = .returned (.tuple #[.slice va vn vc, .int .i64 (wrR (T.first + 4 * place) n 4 S T.cont).1]) ∧
    (((wrR (T.first + 4 * place) n 4 S T.cont).1 ≠ 0 ∧ LgIn w' l d m v5' v6 v7 (T.lose place)) ∨
     ((wrR (T.first + 4 * place) n 4 S T.cont).1 = 0 ∧ LgIn w' l d m v5' (.slice none 0 0) (.slice none 0 0) ((T.lose place).sealed v6 place n)))
theorem lose_same (T : Lg) (P : Nat) : (T.lose P).opn = T.opn ∧ (T.lose P).first = T.first ∧ (T.lose P).num = T.num ∧ (T.lose P).losses = T.losses ∧ (T.lose P).regions = T.regions ∧ (T.lose P).cap = T.cap ∧ (T.lose P).regs.length ≤ T.regs.length := by
  unfold Lg.lose
  split
  · exact ⟨rfl, rfl, rfl, rfl, rfl, rfl, Nat.le_refl _⟩
  · exact ⟨rfl, rfl, rfl, rfl, rfl, rfl, List.length_eraseIdx_le _ _⟩
set_option maxHeartbeats 8000000 in
theorem seal_log {w : World} {l d m : Nat} {v5 v6 v7 : Value} {T : Lg} {S : Dv} {F : List Nat} (h : LgIn w l d m v5 v6 v7 T) (hD : DvAt w d F S) (hopn : T.opn ≠ []) (hloss : S.losses = T.losses) (hnum : T.num < 18446744073709551615) (hreg1 : 1 ≤ T.regions) (hreg : T.regions ≤ 64) (hfi : T.first ≤ 4096) (hcl : T.cont.length ≤ 1472) (hcne : T.cont ≠ []) (hrl : T.regs.length ≤ 100)
    (place n : Nat) (hn : n = T.num + 1) (hpl : place = n % T.regions) (cLo : ∀ q, Calls Try.prog 33 #[.pointer (some ⟨l, 0, none⟩), .int .i64 (place : Int)] (w.drewN q) (LosePost w l d m v5 v6 v7 T place)) :
    Calls Try.prog 12 #[.pointer (some ⟨l, 0, none⟩)] w (SealPost w l d m v5 v6 v7 T S F place n) := by
  have hLd : ∀ q, LgIn (w.drewN q) l d m v5 v6 v7 T := fun q => h.heap rfl
  obtain ⟨a6, c6, rfl⟩ := own_slice h.opn
  have ho6 : ¬ ((T.opn.length : Int) = 0) := by
    have : T.opn.length ≠ 0 := fun h0 => hopn (List.eq_nil_of_length_eq_zero h0)
    omega
  have k6 := h.box.cell (i := 6) rfl
  have k0 := h.box.cell (i := 0) rfl
  have k1 := h.box.cell (i := 1) rfl
  have cLs : Hid (∀ V : World, V.heap = w.heap → Calls Try.prog 27 #[.pointer (some ⟨d, 0, none⟩)] V fun e w' => e = .returned (.int .i64 T.losses) ∧ w' = V) := fun V hV => by
    rw [← hloss]; exact losses_at (hD.same (fun _ _ => by rw [hV]))
  have H := hide h
  have HD := hide hD
  have HN := hide hn
  have HPL := hide hpl
  have hpl64 : place < 64 := by rw [hpl]; exact Nat.lt_of_lt_of_le (Nat.mod_lt _ hreg1) hreg
  have hmodi : ((n : Int) % (T.regions : Int)) = (place : Int) := by rw [hpl]; omega
  obtain ⟨n6, hn6⟩ : ∃ n6, n6 = T.opn.length := ⟨_, rfl⟩
  rw [← hn6] at ho6 k6
  go_enter Try.func12, Try.ntmps12
  clear hopn hloss hn hpl hn6
  go_wp2_with fail
  go_quiet (first | (go_at_call 27; refine Calls.quiet_of_same (cLs.out _ ?_); rfl))
  obtain ⟨W1, hW1⟩ : ∃ W1, W1 = w.drewN nq := ⟨_, rfl⟩
  rw [← hW1]
  have hL1 : LgIn W1 l d m v5 (.slice a6 T.opn.length c6) v7 T := by rw [hW1]; exact H.out.heap rfl
  have hh1 : W1.heap = w.heap := by rw [hW1]; rfl
  have k3 := hL1.box.cell (i := 3) rfl
  have k4 := hL1.box.cell (i := 4) rfl
  have cLO := hide (cLo nq)
  rw [← hW1] at cLO
  have q1 : ¬ ((T.num : Int) = 18446744073709551615) := by omega
  have q2 : IntKind.u64.wrap ((T.num : Int) + 1) = (n : Int) := by rw [IntKind.wrap_u64]; have := HN.out; omega
  have q3 : IntKind.u64.wrap (T.regions : Int) = (T.regions : Int) := by rw [IntKind.wrap_u64]; omega
  have q4 : ¬ ((T.regions : Int) = 0) := by omega
  have q5 : IntKind.i64.wrap (place : Int) = (place : Int) := by rw [IntKind.wrap_i64]; omega
  have q6 : (n : Int).tmod (T.regions : Int) = (place : Int) := by rw [Int.tmod_eq_emod_of_nonneg (by omega)]; exact hmodi
  have HH1 := hide hh1
  have HR1 := hide hreg1
  have HNUM := hide hnum
  have HFI := hide hfi
  have HCL := hide hcl
  have HCNE := hide hcne
  have HRL := hide hrl
  have HPL64 := hide hpl64
  clear hW1 hL1 hh1 h hD hLd cLo cLs hreg1 hreg hnum hfi hcl hcne hrl hpl64 k0 k1 k6
  generalize (T.num : Int) = tn at *
  generalize (T.regions : Int) = tr at *
  go_wp2_with fail
  refine cLO.out.mono ?_
  rintro e w2 ⟨va, vn, vc, v5', rfl, hvn, hrow, hL2, hk2, hv5⟩
  have hD2 : DvAt w2 d F S := HD.out.same (fun q hq => hk2.block q (HD.out.lt q hq) (fun hm => by
    refine H.out.off HD.out q (List.mem_append.2 (.inl ?_)) hq
    simp only [List.mem_cons] at hm
    simp only [lfoot, List.mem_cons, List.mem_append]
    rcases hm with h | h | h
    · exact .inl h
    · exact .inr (.inl h)
    · exact .inr (.inr (.inl h))))
  obtain ⟨s1, s2, s3, s4, s5, s6, s7⟩ := lose_same T place
  have ec : (T.lose place).cont = T.cont := by unfold Lg.cont; rw [s1]
  have cW := hide (write_log hL2 hD2 place n HPL64.out (by have h1 := HN.out; have h2 := HNUM.out; omega) (by rw [s2]; exact HFI.out) (by rw [ec]; exact HCNE.out) (by rw [ec]; exact HCL.out))
  rw [ec, s2] at cW
  have RW := hide hrow
  have HVN := hide hvn
  have HL2 := hide hL2
  have HK2 := hide hk2
  have HV5 := hide hv5
  have HS7 := hide s7
  have HS1 := hide s1
  obtain ⟨er, her⟩ : ∃ er, er = (wrR (T.first + 4 * place) n 4 S T.cont).1 := ⟨_, rfl⟩
  rw [← her] at cW
  have HER := hide her
  clear hrow hvn hL2 hk2 hv5 hD2 s1 s2 s3 s4 s5 s6 s7 ec cLO her
  go_wp2_with fail
  refine cW.out.mono ?_
  rintro e w3 ⟨rfl, hL3, F3, hD3, hM3⟩
  have hk3 : Keep (F ++ l :: m :: own v5) w w3 := (HK2.out.mono (fun q hq => .inl (by simp only [List.mem_append]; exact .inr hq))).trans hM3.keep (fun q hq => .inl (by simp [hq]))
  have hF3 : ∀ q ∈ F3, q ∈ F ∨ w.heap.size ≤ q := fun q hq => by
    rcases hM3.foot q hq with h | h
    · exact .inl h
    · exact .inr (Nat.le_trans HK2.out.size h)
  have hrow3 : Row w3 w.heap.size (.slice va vn vc) (T.lost place) := RW.out.keep (fun q hq => hM3.keep.block q (RW.out.lt q hq).2 (fun hf => by
    have h1 := HD.out.lt q hf
    have h2 := (RW.out.lt q hq).1
    omega))
  have K3 := hide hk3
  have KF3 := hide hF3
  have RW3 := hide hrow3
  have HD3 := hide hD3
  have HL3 := hide hL3
  clear cW hM3 hk3 hF3 hrow3 hD3
  by_cases h0 : er = 0
  · subst h0
    obtain ⟨a5, c5, rfl⟩ := own_slice hL3.sld
    have hLd : LgIn w3.drew l d m (.slice a5 (T.lose place).regs.length c5) (.slice a6 T.opn.length c6) v7 (T.lose place) := hL3.heap rfl
    have hsldD := hLd.sld
    obtain ⟨ua, uc, w5, hrun, hrow5, hkp5, hblk5, hsz5⟩ := app_rg hsldD (.int .i64 (place : Int)) (.int .u64 (n : Int)) (.slice a6 T.opn.length c6) rfl rfl rfl (by have h1 := HS7.out; have h2 := HRL.out; omega) (Nat.zero_le _)
    have cS0 : w3.drew.cell? ⟨l, 5, none⟩ = some (.slice a5 (T.lose place).regs.length c5) ∧ w3.drew.cell? ⟨l, 6, none⟩ = some (.slice a6 T.opn.length c6) := ⟨hLd.box.cell (i := 5) rfl, hLd.box.cell (i := 6) rfl⟩
    have hbA := hLd.box.alloc (.cells #[.int .i64 (place : Int), .int .u64 (n : Int), .slice a6 T.opn.length c6] 68)
    have cS1 : (w3.alloc (.cells #[.int .i64 (place : Int), .int .u64 (n : Int), .slice a6 T.opn.length c6] 68)).drew.cell? ⟨l, 5, none⟩ = some (.slice a5 (T.lose place).regs.length c5) ∧ (w3.alloc (.cells #[.int .i64 (place : Int), .int .u64 (n : Int), .slice a6 T.opn.length c6] 68)).drew.cell? ⟨l, 6, none⟩ = some (.slice a6 T.opn.length c6) := ⟨hbA.cell (i := 5) rfl, hbA.cell (i := 6) rfl⟩
    have hb5 : Blk w5 l (lgCells d m (.slice a5 (T.lose place).regs.length c5) (.slice a6 T.opn.length c6) v7 (T.lose place)) 65 := hLd.box.same (hkp5.block l hLd.box.lt (own_notin hsldD hLd.box (by decide)))
    have c5c := hb5.cell (i := 5) rfl
    have f5c := hb5.frozen 5
    have hr62 : (Builtin.append_ #[62, 62] 62 #[.slice a5 (T.lose place).regs.length c5, .slice (some ⟨w3.heap.size, 0, none⟩) 1 1]).run Try.prog (w3.alloc (.cells #[.int .i64 (place : Int), .int .u64 (n : Int), .slice a6 T.opn.length c6] 68)).drew = .ok (.slice ua ((T.lose place).regs.length + 1) uc) w5 := hrun 62
    obtain ⟨W6, hW6⟩ : ∃ W6, w5.setCell ⟨l, 5, none⟩ (.slice ua ((T.lose place).regs.length + 1) uc) = W6 := ⟨_, rfl⟩
    have hb6 : Blk W6 l ((lgCells d m (.slice a5 (T.lose place).regs.length c5) (.slice a6 T.opn.length c6) v7 (T.lose place)).set 5 (.slice ua ((T.lose place).regs.length + 1) uc)) 65 := by rw [← hW6]; exact hb5.set 5 _
    have g4 := hb6.cell (i := 4) rfl
    have g6 := hb6.cell (i := 6) rfl
    have g7 := hb6.cell (i := 7) rfl
    have z4 := hb6.frozen 4
    have z6 := hb6.frozen 6
    have z7 := hb6.frozen 7
    have hlk : ∀ q ∈ own (.slice a5 (T.lose place).regs.length c5), q ∈ own v5 := HV5.out
    obtain ⟨hfin, hkfin⟩ := seal_state (v5' := .slice ua ((T.lose place).regs.length + 1) uc) hLd place n hrow5 hkp5 (w' := (((W6.setCell ⟨l, 4, none⟩ (.int .u64 (n : Int))).setCell ⟨l, 6, none⟩ (.slice none 0 0)).setCell ⟨l, 7, none⟩ (.slice none 0 0))) (by rw [← hW6])
    have TT : Hid (SealPost w l d m v5 (.slice a6 T.opn.length c6) v7 T S F place n (.returned (.tuple #[.slice va vn vc, .int .i64 0])) (((W6.setCell ⟨l, 4, none⟩ (.int .u64 (n : Int))).setCell ⟨l, 6, none⟩ (.slice none 0 0)).setCell ⟨l, 7, none⟩ (.slice none 0 0))) := by
      have hsz := K3.out.size
      have hD3d : DvAt w3.drew d F3 (wrR (T.first + 4 * place) n 4 S T.cont).2 := HD3.out.same (fun _ _ => rfl)
      refine ⟨va, vn, vc, .slice ua ((T.lose place).regs.length + 1) uc, F3, HVN.out, RW3.out.keep (fun q hq => ?_), hD3d.same (fun q hq => hkfin.block q (hD3d.lt q hq) (fun hm => ?_)), K3.out.drew.trans hkfin (fun q hq => .inl ?_), KF3.out, fun q hq => ?_, by rw [← HER.out], .inr ⟨HER.out.symm, hfin⟩⟩
      · refine hkfin.block q (RW3.out.lt q hq).2 (fun hm => ?_)
        have h1 := (RW3.out.lt q hq).1
        simp only [List.mem_cons] at hm
        rcases hm with h2 | h2
        · have := H.out.box.lt; omega
        · have := own_lt H.out.sld q (hlk q h2); omega
      · simp only [List.mem_cons] at hm
        refine hLd.off hD3d q (List.mem_append.2 (.inl ?_)) hq
        simp only [lfoot, List.mem_cons, List.mem_append]
        rcases hm with h2 | h2
        · exact .inl h2
        · exact .inr (.inr (.inl h2))
      · simp only [List.mem_cons] at hq
        simp only [List.mem_append, List.mem_cons]
        rcases hq with h2 | h2
        · exact .inr (.inl h2)
        · exact .inr (.inr (.inr (hlk q h2)))
      · rcases hblk5 q hq with h2 | h2
        · exact .inl (hlk q h2)
        · exact .inr (Nat.le_trans hsz h2)
    clear hrun hrow5 hkp5 hblk5 hsz5 hLd hsldD hbA hb5 hb6 hfin hkfin hlk hL3 HL3 HV5 K3 KF3 RW3 HD3 HL2 HK2 RW HVN
    generalize (T.lose place).regs.length = n5 at *
    generalize ((T.lose place).num : Int) = ln at *
    obtain ⟨n6b, hn6b⟩ : ∃ n6b, T.opn.length = n6b := ⟨_, rfl⟩
    rw [hn6b] at cS0 cS1 hr62 TT g6
    have HN6B := hide hn6b
    clear hn6b
    obtain ⟨CC3, hCC3⟩ : ∃ CC3 : Nat → World → Prop, CC3 = fun s w' => match s with
      | 0 => w' = w3.drew
      | 1 => w' = (w3.alloc (.cells #[.int .i64 (place : Int), .int .u64 (n : Int), .slice a6 n6b c6] 68)).drew
      | 2 => w' = w5
      | _ => w' = W6 := ⟨_, rfl⟩
    have DR3 : Hid (CC3 0 w3.drew) := by show CC3 0 _; rw [hCC3]; exact (rfl : w3.drew = w3.drew)
    have cS3 : Hid (∀ s w', CC3 s w' → s ≤ 1 → w'.cell? ⟨l, 5, none⟩ = some (.slice a5 n5 c5) ∧ w'.cell? ⟨l, 6, none⟩ = some (.slice a6 n6b c6)) := fun s w' hw hs => by
      rw [hCC3] at hw
      match s, hs with
      | 0, _ => simp only at hw; subst hw; exact cS0
      | 1, _ => simp only at hw; subst hw; exact cS1
    have cA3 : Hid (∀ w', CC3 0 w' → CC3 1 (w'.alloc (.cells #[.int .i64 (place : Int), .int .u64 (n : Int), .slice a6 n6b c6] 68)) ∧ w'.heap.size = w3.heap.size) := fun w' hw => by
      rw [hCC3] at hw ⊢
      simp only at hw ⊢
      subst hw
      refine ⟨?_, ?_⟩ <;> first | rfl | trivial
    have cB3 : Hid (∀ w', CC3 1 w' → CC3 2 w5 ∧ (Builtin.append_ #[62, 62] 62 #[.slice a5 n5 c5, .slice (some ⟨w3.heap.size, 0, none⟩) 1 1]).run Try.prog w' = .ok (.slice ua (n5 + 1) uc) w5) := fun w' hw => by
      rw [hCC3] at hw ⊢
      simp only at hw ⊢
      subst hw
      refine ⟨?_, hr62⟩
      first | rfl | trivial
    have cD3 : Hid (∀ w', CC3 2 w' → CC3 3 (w'.setCell ⟨l, 5, none⟩ (.slice ua (n5 + 1) uc)) ∧ w'.cell? ⟨l, 5, none⟩ = some (.slice a5 n5 c5) ∧ w'.frozen? ⟨l, 5, none⟩ = false) := fun w' hw => by
      rw [hCC3] at hw ⊢
      simp only at hw ⊢
      subst hw
      refine ⟨?_, c5c, f5c⟩
      exact hW6
    have HE3 : Hid (∀ w', CC3 3 w' → w' = W6) := fun w' hw => by rw [hCC3] at hw; exact hw
    clear hCC3 hW6 cS0 cS1 c5c f5c hr62
    go_wp2_with fail
    refine wp_region_chain (by kernel_rfl) (by kernel_rfl) (fun jx => ([.pointer (some ⟨l, 0, none⟩), .pointer (some ⟨l, 0, none⟩), .pointer (some ⟨l, 0, none⟩), .pointer (some ⟨l, 5, none⟩), .slice a5 n5 c5, .int .i64 (place : Int), .int .u64 (n : Int), .pointer (some ⟨l, 0, none⟩), .pointer (some ⟨l, 0, none⟩), .pointer (some ⟨l, 6, none⟩), .slice a6 n6b c6, .agg #[.int .i64 (place : Int), .int .u64 (n : Int), .slice a6 n6b c6], .slice (some ⟨w3.heap.size, 0, none⟩) 1 1, .slice ua (n5 + 1) uc, .pointer (some ⟨l, 0, none⟩), .pointer (some ⟨l, 5, none⟩), undef] : List Value).getD jx undef) [12, 13, 16] (by kernel_rfl) (CC3) (DR3.out) ?_ ?_
    · intro jx ox hi sx w' ev hlm hks hc hin hout hcst hfn
      have hltx : jx < 17 := by
        have := (Array.getElem?_eq_some_iff.1 hi).1
        simpa using this
      match jx, hltx with
      | 0, _ =>
        simp only [List.getElem?_toArray, List.getElem?_cons_zero, List.getElem?_cons_succ, Option.some.injEq] at hi
        subst hi
        have e0 : ev (.tmp 0) = .pointer (some ⟨l, 0, none⟩) := hout 0 (by kernel_rfl) (show (0 : Nat) < 83 by decide)
        rw [if_neg (by decide)]
        refine .inl ⟨w', ?_, hc⟩
        show _ = Result.ok (Next.value (.pointer (some ⟨l, 0, none⟩))) w'
        simp [execOp, e0, hcst, go_sem]
      | 1, _ =>
        simp only [List.getElem?_toArray, List.getElem?_cons_zero, List.getElem?_cons_succ, Option.some.injEq] at hi
        subst hi
        have e0 : ev (.tmp 0) = .pointer (some ⟨l, 0, none⟩) := hout 0 (by kernel_rfl) (show (0 : Nat) < 83 by decide)
        rw [if_neg (by decide)]
        refine .inl ⟨w', ?_, hc⟩
        show _ = Result.ok (Next.value (.pointer (some ⟨l, 0, none⟩))) w'
        simp [execOp, e0, hcst, go_sem]
      | 2, _ =>
        simp only [List.getElem?_toArray, List.getElem?_cons_zero, List.getElem?_cons_succ, Option.some.injEq] at hi
        subst hi
        have e0 : ev (.tmp 57) = .pointer (some ⟨l, 0, none⟩) := hin 57 1 ⟨1, .data⟩ (by kernel_rfl) (by simp) rfl rfl (show (57 : Nat) < 83 by decide)
        rw [if_neg (by decide)]
        refine .inl ⟨w', ?_, hc⟩
        show _ = Result.ok (Next.value (.pointer (some ⟨l, 0, none⟩))) w'
        simp [execOp, e0, hcst, go_sem]
      | 3, _ =>
        simp only [List.getElem?_toArray, List.getElem?_cons_zero, List.getElem?_cons_succ, Option.some.injEq] at hi
        subst hi
        have e0 : ev (.tmp 58) = .pointer (some ⟨l, 0, none⟩) := hin 58 2 ⟨2, .data⟩ (by kernel_rfl) (by simp) rfl rfl (show (58 : Nat) < 83 by decide)
        rw [if_neg (by decide)]
        refine .inl ⟨w', ?_, hc⟩
        show _ = Result.ok (Next.value (.pointer (some ⟨l, 5, none⟩))) w'
        simp [execOp, e0, hcst, go_sem]
      | 4, _ =>
        simp only [List.getElem?_toArray, List.getElem?_cons_zero, List.getElem?_cons_succ, Option.some.injEq] at hi
        subst hi
        have e0 : ev (.tmp 59) = .pointer (some ⟨l, 5, none⟩) := hin 59 3 ⟨3, .data⟩ (by kernel_rfl) (by simp) rfl rfl (show (59 : Nat) < 83 by decide)
        rw [if_neg (by decide)]
        refine .inl ⟨w', ?_, hc⟩
        show _ = Result.ok (Next.value (.slice a5 n5 c5)) w'
        have hl2 : sx ≤ 1 := Nat.le_trans hlm (Nat.le_of_eq (by kernel_rfl))
        have q := (cS3.out sx w' hc (by omega)).1
        simp [execOp, e0, q, hcst, go_sem]
      | 5, _ =>
        simp only [List.getElem?_toArray, List.getElem?_cons_zero, List.getElem?_cons_succ, Option.some.injEq] at hi
        subst hi
        have e0 : ev (.tmp 5) = .int .i64 (place : Int) := hout 5 (by kernel_rfl) (show (5 : Nat) < 83 by decide)
        rw [if_neg (by decide)]
        refine .inl ⟨w', ?_, hc⟩
        show _ = Result.ok (Next.value (.int .i64 (place : Int))) w'
        simp [execOp, e0, hcst, go_sem]
      | 6, _ =>
        simp only [List.getElem?_toArray, List.getElem?_cons_zero, List.getElem?_cons_succ, Option.some.injEq] at hi
        subst hi
        have e0 : ev (.tmp 4) = .int .u64 (n : Int) := hout 4 (by kernel_rfl) (show (4 : Nat) < 83 by decide)
        rw [if_neg (by decide)]
        refine .inl ⟨w', ?_, hc⟩
        show _ = Result.ok (Next.value (.int .u64 (n : Int))) w'
        simp [execOp, e0, hcst, go_sem]
      | 7, _ =>
        simp only [List.getElem?_toArray, List.getElem?_cons_zero, List.getElem?_cons_succ, Option.some.injEq] at hi
        subst hi
        have e0 : ev (.tmp 0) = .pointer (some ⟨l, 0, none⟩) := hout 0 (by kernel_rfl) (show (0 : Nat) < 83 by decide)
        rw [if_neg (by decide)]
        refine .inl ⟨w', ?_, hc⟩
        show _ = Result.ok (Next.value (.pointer (some ⟨l, 0, none⟩))) w'
        simp [execOp, e0, hcst, go_sem]
      | 8, _ =>
        simp only [List.getElem?_toArray, List.getElem?_cons_zero, List.getElem?_cons_succ, Option.some.injEq] at hi
        subst hi
        have e0 : ev (.tmp 63) = .pointer (some ⟨l, 0, none⟩) := hin 63 7 ⟨7, .data⟩ (by kernel_rfl) (by simp) rfl rfl (show (63 : Nat) < 83 by decide)
        rw [if_neg (by decide)]
        refine .inl ⟨w', ?_, hc⟩
        show _ = Result.ok (Next.value (.pointer (some ⟨l, 0, none⟩))) w'
        simp [execOp, e0, hcst, go_sem]
      | 9, _ =>
        simp only [List.getElem?_toArray, List.getElem?_cons_zero, List.getElem?_cons_succ, Option.some.injEq] at hi
        subst hi
        have e0 : ev (.tmp 64) = .pointer (some ⟨l, 0, none⟩) := hin 64 8 ⟨8, .data⟩ (by kernel_rfl) (by simp) rfl rfl (show (64 : Nat) < 83 by decide)
        rw [if_neg (by decide)]
        refine .inl ⟨w', ?_, hc⟩
        show _ = Result.ok (Next.value (.pointer (some ⟨l, 6, none⟩))) w'
        simp [execOp, e0, hcst, go_sem]
      | 10, _ =>
        simp only [List.getElem?_toArray, List.getElem?_cons_zero, List.getElem?_cons_succ, Option.some.injEq] at hi
        subst hi
        have e0 : ev (.tmp 65) = .pointer (some ⟨l, 6, none⟩) := hin 65 9 ⟨9, .data⟩ (by kernel_rfl) (by simp) rfl rfl (show (65 : Nat) < 83 by decide)
        rw [if_neg (by decide)]
        refine .inl ⟨w', ?_, hc⟩
        show _ = Result.ok (Next.value (.slice a6 n6b c6)) w'
        have hl2 : sx ≤ 0 := Nat.le_trans hlm (Nat.le_of_eq (by kernel_rfl))
        have q := (cS3.out sx w' hc (by omega)).2
        simp [execOp, e0, q, hcst, go_sem]
      | 11, _ =>
        simp only [List.getElem?_toArray, List.getElem?_cons_zero, List.getElem?_cons_succ, Option.some.injEq] at hi
        subst hi
        have e0 : ev (.tmp 61) = .int .i64 (place : Int) := hin 61 5 ⟨5, .data⟩ (by kernel_rfl) (by simp) rfl rfl (show (61 : Nat) < 83 by decide)
        have e1 : ev (.tmp 62) = .int .u64 (n : Int) := hin 62 6 ⟨6, .data⟩ (by kernel_rfl) (by simp) rfl rfl (show (62 : Nat) < 83 by decide)
        have e2 : ev (.tmp 66) = .slice a6 n6b c6 := hin 66 10 ⟨10, .data⟩ (by kernel_rfl) (by simp) rfl rfl (show (66 : Nat) < 83 by decide)
        rw [if_neg (by decide)]
        refine .inl ⟨w', ?_, hc⟩
        show _ = Result.ok (Next.value (.agg #[.int .i64 (place : Int), .int .u64 (n : Int), .slice a6 n6b c6])) w'
        simp [execOp, e0, e1, e2, hcst, go_sem]
      | 12, _ =>
        simp only [List.getElem?_toArray, List.getElem?_cons_zero, List.getElem?_cons_succ, Option.some.injEq] at hi
        subst hi
        have e0 : ev (.tmp 67) = .agg #[.int .i64 (place : Int), .int .u64 (n : Int), .slice a6 n6b c6] := hin 67 11 ⟨11, .data⟩ (by kernel_rfl) (by simp) rfl rfl (show (67 : Nat) < 83 by decide)
        rw [if_pos (by decide)]
        have hsx : sx = 0 := hks 0 rfl
        subst hsx
        have q := cA3.out w' hc
        refine .inl ⟨_, ?_, q.1⟩
        have hsz := q.2
        simp [execOp, e0, hcst, go_sem, hsz]
      | 13, _ =>
        simp only [List.getElem?_toArray, List.getElem?_cons_zero, List.getElem?_cons_succ, Option.some.injEq] at hi
        subst hi
        have e0 : ev (.tmp 60) = .slice a5 n5 c5 := hin 60 4 ⟨4, .data⟩ (by kernel_rfl) (by simp) rfl rfl (show (60 : Nat) < 83 by decide)
        have e1 : ev (.tmp 68) = .slice (some ⟨w3.heap.size, 0, none⟩) 1 1 := hin 68 12 ⟨12, .data⟩ (by kernel_rfl) (by simp) rfl rfl (show (68 : Nat) < 83 by decide)
        rw [if_pos (by decide)]
        have hsx : sx = 1 := hks 1 rfl
        subst hsx
        have q := cB3.out w' hc
        refine .inl ⟨_, ?_, q.1⟩
        have hrn := q.2
        simp [execOp, e0, e1, hcst, resolve, invoke, builtin, Result.andThen, hrn]
      | 14, _ =>
        simp only [List.getElem?_toArray, List.getElem?_cons_zero, List.getElem?_cons_succ, Option.some.injEq] at hi
        subst hi
        have e0 : ev (.tmp 56) = .pointer (some ⟨l, 0, none⟩) := hin 56 0 ⟨0, .data⟩ (by kernel_rfl) (by simp) rfl rfl (show (56 : Nat) < 83 by decide)
        rw [if_neg (by decide)]
        refine .inl ⟨w', ?_, hc⟩
        show _ = Result.ok (Next.value (.pointer (some ⟨l, 0, none⟩))) w'
        simp [execOp, e0, hcst, go_sem]
      | 15, _ =>
        simp only [List.getElem?_toArray, List.getElem?_cons_zero, List.getElem?_cons_succ, Option.some.injEq] at hi
        subst hi
        have e0 : ev (.tmp 70) = .pointer (some ⟨l, 0, none⟩) := hin 70 14 ⟨14, .data⟩ (by kernel_rfl) (by simp) rfl rfl (show (70 : Nat) < 83 by decide)
        rw [if_neg (by decide)]
        refine .inl ⟨w', ?_, hc⟩
        show _ = Result.ok (Next.value (.pointer (some ⟨l, 5, none⟩))) w'
        simp [execOp, e0, hcst, go_sem]
      | 16, _ =>
        simp only [List.getElem?_toArray, List.getElem?_cons_zero, List.getElem?_cons_succ, Option.some.injEq] at hi
        subst hi
        have e0 : ev (.tmp 71) = .pointer (some ⟨l, 5, none⟩) := hin 71 15 ⟨15, .data⟩ (by kernel_rfl) (by simp) rfl rfl (show (71 : Nat) < 83 by decide)
        have e1 : ev (.tmp 69) = .slice ua (n5 + 1) uc := hin 69 13 ⟨13, .data⟩ (by kernel_rfl) (by simp) rfl rfl (show (69 : Nat) < 83 by decide)
        rw [if_pos (by decide)]
        have hsx : sx = 2 := hks 2 rfl
        subst hsx
        have q := cD3.out w' hc
        refine .inr (.inl ⟨rfl, _, ?_, q.1⟩)
        have q1 := q.2.1
        have q2 := q.2.2
        simp [execOp, e0, e1, hcst, go_sem, q1, q2]
    · intro w9 hc
      simp only [lexF, Act.put, List.setIfInBounds_toArray, List.set_cons_succ, List.set_cons_zero, List.getD_cons_succ, List.getD_cons_zero]
      obtain rfl := HE3.out w9 hc
      clear hc DR3 cS3 cA3 cB3 cD3 HE3
      go_wp2
      go_ret2
      rw [HN6B.out]
      exact TT.out
  · have he : (er != 0) = true := by rw [bne_iff_ne]; exact h0
    have H0 := hide h0
    clear h0 hL3
    go_wp2
    go_ret2
    exact ⟨va, vn, vc, v5', F3, HVN.out, RW3.out, HD3.out, K3.out, KF3.out, fun q hq => .inl (HV5.out q hq), (by rw [← HER.out]; rfl), .inl ⟨by rw [← HER.out]; exact H0.out, HL3.out⟩⟩
end Go.Proofs.Ytbjkahdlejaheaa

/- Put. -/
set_option linter.unusedVariables false
set_option linter.unusedSimpArgs false
set_option maxRecDepth 8000
namespace Go.Proofs.Ytbjkahdlejaheaa
open Go.RowKit Go.Deep Math

/-- What Put leaves: one thing more. -/
def Lg.put (T : Lg) (t : Th) : Lg := { T with opn := T.opn ++ [t], cap := T.cap + 1, has := updK T.has t.it.key (some t.pos) }
theorem put_state {W w3 w5 w7 : World} {l d m : Nat} {v5 v6 v7 v6' v7' : Value} {T : Lg} (h : LgIn W l d m v5 v6 v7 T) (t : Th) (ht : ThAt W t)
    (h3 : w3.ownsRow 0 5 1 v7' (T.cont ++ t.it.enc).length (bCells (T.cont ++ t.it.enc))) (k3 : Keep (own v7) W w3)
    (h5 : w5.ownsRow 0 71 1 v6' (T.opn.length + 1) (ptrCells T.opn ++ [t.ptr])) (k5 : Keep (own v6) (w3.setCell ⟨l, 7, none⟩ v7') w5) (hv6 : ∀ q ∈ own v6', q ∈ own v6 ∨ W.heap.size ≤ q)
    (h7 : MapAt w7 m (T.cap + 1) (updK T.has t.it.key (some t.pos))) (k7 : Keep [m] (w5.setCell ⟨l, 6, none⟩ v6') w7) :
    LgIn w7 l d m v5 v6' v7' (T.put t) ∧ Keep (l :: m :: (own v6 ++ own v7)) W w7 := by
  have hl3 : Blk w3 l (lgCells d m v5 v6 v7 T) 65 := h.box.same (k3.block l h.box.lt (own_notin h.cont h.box (by decide)))
  have hl4 := hl3.set 7 v7'
  have own6 : ∀ q ∈ own v6, ∃ c, W.heap[q]? = some (.cells c 71 (0, 0)) := fun q hq => own_ty h.opn (mem_own.1 hq)
  have sz3 := k3.size
  have sz5 := k5.size
  rw [nblk_setCell] at sz5
  have hl5 : Blk w5 l ((lgCells d m v5 v6 v7 T).set 7 v7') 65 := hl4.same (k5.block l hl4.lt (fun hm => by
    obtain ⟨c, hc⟩ := own6 l hm
    exact ty_ne hc h.box (by decide) rfl))
  have hl6 := hl5.set 6 v6'
  have notL : ∀ {q : Nat} {w' : World} {c c' : Array Value} {e : TypeId}, w'.heap[q]? = some (.cells c e (0, 0)) → w'.heap[l]? = some (.cells c' 65 (0, 0)) → e ≠ 65 → q ≠ l := fun hq hl hne => ty_ne hq hl hne
  have to7 : ∀ q, q ≠ l → q ≠ m → q < w5.heap.size → w7.heap[q]? = w5.heap[q]? := fun q h1 h2 h3 => by
    refine (k7.block q (by rw [nblk_setCell]; exact h3) (by simpa using h2)).trans ?_
    exact blk_setCell_other w5 ⟨l, 6, none⟩ _ q h1
  have to5 : ∀ q, q ≠ l → q ∉ own v6 → q < w3.heap.size → w5.heap[q]? = w3.heap[q]? := fun q h1 h2 h3 => by
    refine (k5.block q (by rw [nblk_setCell]; exact h3) h2).trans ?_
    exact blk_setCell_other w3 ⟨l, 7, none⟩ _ q h1
  have sm : ∀ {q : Nat} {c : Array Value} {e : TypeId}, W.heap[q]? = some (.cells c e (0, 0)) → e ≠ 5 → e ≠ 65 → q ∉ own v6 → w7.heap[q]? = W.heap[q]? := fun {q c e} hq h1 h2 h3 => by
    have hlt := (Array.getElem?_eq_some_iff.1 hq).1
    have hql : q ≠ l := ty_ne hq h.box h2
    rw [to7 q hql (h.notM hq) (by omega), to5 q hql h3 (by omega)]
    exact k3.block q hlt (own_notin h.cont hq h1)
  have n6 : ∀ {q : Nat} {c : Array Value} {e : TypeId}, W.heap[q]? = some (.cells c e (0, 0)) → e ≠ 71 → q ∉ own v6 := fun hq hne => own_notin h.opn hq hne
  have ec : (T.put t).cont = T.cont ++ t.it.enc := by
    show encs ((T.opn ++ [t]).map Th.it) = encs (T.opn.map Th.it) ++ t.it.enc
    rw [List.map_append, encs_append]
    simp [encs]
  have hall : ∀ u, u ∈ (T.put t).all ↔ u ∈ T.all ∨ u = t := fun u => by
    show u ∈ T.regs.flatMap Rg.ths ++ (T.opn ++ [t]) ↔ u ∈ T.regs.flatMap Rg.ths ++ T.opn ∨ u = t
    simp only [List.mem_append, List.mem_singleton]
    constructor
    · rintro (h | h | h)
      · exact .inl (.inl h)
      · exact .inl (.inr h)
      · exact .inr h
    · rintro ((h | h) | h)
      · exact .inl h
      · exact .inr (.inl h)
      · exact .inr (.inr h)
  constructor
  · refine ⟨?_, own_same h.sld (fun q hq => ?_), fun r hr => own_same (h.rows r hr) (fun q hq => ?_), ?_, ?_, h7, fun u hu => ?_, fun r hr q hq => ?_, fun k p hkp => ?_⟩
    · have hlt6 : l < w5.heap.size := hl5.lt
      have e7 : w7.heap[l]? = (w5.setCell ⟨l, 6, none⟩ v6').heap[l]? := k7.block l (by rw [nblk_setCell]; exact hlt6) (by simpa using h.notM h.box)
      exact hl6.same e7
    · obtain ⟨c, hc⟩ := own_ty h.sld hq; exact sm hc (by decide) (by decide) (n6 hc (by decide))
    · obtain ⟨c, hc⟩ := own_ty (h.rows r hr) hq
      exact sm hc (by decide) (by decide) (fun hm => h.apart r hr q hq (mem_own.1 hm))
    · have e : ptrCells (T.opn ++ [t]) = ptrCells T.opn ++ [t.ptr] := by simp [ptrCells]
      show w7.ownsRow 0 71 1 v6' (T.opn ++ [t]).length (ptrCells (T.opn ++ [t]))
      rw [e, List.length_append]
      refine own_same h5 (fun q hq => ?_)
      obtain ⟨c, hc⟩ := own_ty h5 hq
      refine to7 q (ty_ne hc hl5 (by decide)) ?_ (Array.getElem?_eq_some_iff.1 hc).1
      rintro rfl
      obtain ⟨es, cl, hm⟩ := h.map.isMap
      have h1 : w5.heap[q]? = W.heap[q]? := by
        rw [to5 q (ty_ne hc hl5 (by decide)) (fun hm' => by
          obtain ⟨c2, hc2⟩ := own6 q hm'
          rw [hm] at hc2; cases hc2) (by have := h.map.lt; omega)]
        refine k3.block q h.map.lt (fun hm' => ?_)
        obtain ⟨c2, hc2⟩ := own_ty h.cont (mem_own.1 hm')
        rw [hm] at hc2; cases hc2
      rw [hc, hm] at h1
      cases h1
    · rw [ec]
      refine own_same h3 (fun q hq => ?_)
      obtain ⟨c, hc⟩ := own_ty h3 hq
      have hql : q ≠ l := ty_ne hc hl3 (by decide)
      have hlt := (Array.getElem?_eq_some_iff.1 hc).1
      have hq6 : q ∉ own v6 := fun hm' => by
        obtain ⟨c2, hc2⟩ := own6 q hm'
        have : w3.heap[q]? = W.heap[q]? := k3.block q (Array.getElem?_eq_some_iff.1 hc2).1 (own_notin h.cont hc2 (by decide))
        rw [hc, hc2] at this
        cases this
      have hqm : q ≠ m := by
        rintro rfl
        obtain ⟨es, cl, hm⟩ := h.map.isMap
        have : w3.heap[q]? = W.heap[q]? := k3.block q h.map.lt (fun hm' => by
          obtain ⟨c2, hc2⟩ := own_ty h.cont (mem_own.1 hm')
          rw [hm] at hc2; cases hc2)
        rw [hc, hm] at this
        cases this
      rw [to7 q hql hqm (by omega), to5 q hql hq6 hlt]
    · have hu' : ThAt W u := by
        rcases (hall u).1 hu with h1 | h1
        · exact h.ths u h1
        · rw [h1]; exact ht
      obtain ⟨c, hc⟩ := hu'.ty
      exact hu'.same (sm hc (by decide) (by decide) (n6 hc (by decide)))
    · intro hq6
      rcases hv6 q (mem_own.2 hq6) with h1 | h1
      · exact h.apart r hr q hq (mem_own.1 h1)
      · have := own_lt (h.rows r hr) q (mem_own.2 hq)
        omega
    · by_cases e : k = t.it.key
      · subst e
        have : updK T.has t.it.key (some t.pos) t.it.key = some p := hkp
        rw [updK_same] at this
        exact ⟨t, (hall t).2 (.inr rfl), Option.some.inj this, rfl⟩
      · have : updK T.has t.it.key (some t.pos) k = some p := hkp
        rw [updK_other _ _ _ _ e] at this
        obtain ⟨u, hu, h1, h2⟩ := h.hasAt k p this
        exact ⟨u, (hall u).2 (.inl hu), h1, h2⟩
  · have a3 : Keep (l :: m :: (own v6 ++ own v7)) W w3 := k3.mono (fun q hq => .inl (by simp [hq]))
    have a4 := a3.setCell (p := ⟨l, 7, none⟩) (.inl (by simp)) v7'
    have a5 := a4.trans k5 (fun q hq => .inl (by simp [hq]))
    have a6 := a5.setCell (p := ⟨l, 6, none⟩) (.inl (by simp)) v6'
    exact a6.trans k7 (fun q hq => .inl (by simp at hq; simp [hq]))
theorem put_mid {W w3 w5 : World} {l d m : Nat} {v5 v6 v7 v6' v7' : Value} {T : Lg} (h : LgIn W l d m v5 v6 v7 T) (t : Th) (ht : ThAt W t) (k3 : Keep (own v7) W w3) (k5 : Keep (own v6) (w3.setCell ⟨l, 7, none⟩ v7') w5) :
    MapAt (w5.setCell ⟨l, 6, none⟩ v6') m T.cap T.has ∧ ThAt (w5.setCell ⟨l, 6, none⟩ v6') t ∧ Blk w5 l ((lgCells d m v5 v6 v7 T).set 7 v7') 65 := by
  have hl3 : Blk w3 l (lgCells d m v5 v6 v7 T) 65 := h.box.same (k3.block l h.box.lt (own_notin h.cont h.box (by decide)))
  have hl4 := hl3.set 7 v7'
  have own6 : ∀ q ∈ own v6, ∃ c, W.heap[q]? = some (.cells c 71 (0, 0)) := fun q hq => own_ty h.opn (mem_own.1 hq)
  have sz3 := k3.size
  have hl5 : Blk w5 l ((lgCells d m v5 v6 v7 T).set 7 v7') 65 := hl4.same (k5.block l hl4.lt (fun hm => by
    obtain ⟨c, hc⟩ := own6 l hm
    exact ty_ne hc h.box (by decide) rfl))
  have to6 : ∀ q, q ≠ l → q ∉ own v6 → q ∉ own v7 → q < W.heap.size → (w5.setCell ⟨l, 6, none⟩ v6').heap[q]? = W.heap[q]? := fun q h1 h2 h3 h4 => by
    refine (blk_setCell_other w5 ⟨l, 6, none⟩ _ q h1).trans ?_
    refine (k5.block q (by rw [nblk_setCell]; omega) h2).trans ?_
    refine (blk_setCell_other w3 ⟨l, 7, none⟩ _ q h1).trans ?_
    exact k3.block q h4 h3
  refine ⟨h.map.same (to6 m (Ne.symm (h.notM h.box)) (fun hm => ?_) (fun hm => ?_) h.map.lt), ?_, hl5⟩
  · obtain ⟨c, hc⟩ := own6 m hm; exact h.notM hc rfl
  · obtain ⟨c, hc⟩ := own_ty h.cont (mem_own.1 hm); exact h.notM hc rfl
  · obtain ⟨c, hc⟩ := ht.ty
    exact ht.same (to6 _ (ty_ne hc h.box (by decide)) (own_notin h.opn hc (by decide)) (own_notin h.cont hc (by decide)) ht.lt)
set_option maxHeartbeats 400000 in
theorem put_bad {w : World} {l : Nat} (kb vb : ByteArray) (f e : Int) (v : Nat) (hg : mayBe kb.size vb.size v = false) :
    Calls Try.prog 11 #[.pointer (some ⟨l, 0, none⟩), itV kb vb f e v] w fun r w' => r = .returned (.tuple #[.slice none 0 0, .int .i64 1]) ∧ Below w.heap.size w w' := by
  have cg := hide (fun W => rput_bad kb vb f e v hg W)
  unfold itV at cg ⊢
  have B0 := hide ((Below.refl w.heap.size w).alloc (Nat.le_refl _) (.cells #[.string kb, .string vb, .int .u32 f, .int .i64 e, .int .u64 v] 36))
  clear hg
  go_enter Try.func11, Try.ntmps11
  go_wp2_with (go_at_call 32; refine (cg.out _).mono ?_; rintro r w1 ⟨rfl, b1⟩; have B1 := hide b1; clear b1)
  go_ret2
  exact ⟨rfl, B0.out.trans (B1.out.mono (by rw [nblk_alloc]; omega))⟩
set_option maxHeartbeats 8000000 in
theorem put_room {w : World} {l d m : Nat} {v5 v6 v7 : Value} {T : Lg} (h : LgIn w l d m v5 v6 v7 T) (x : It) (hf : x.fits) (hg : x.good = true) (hroom : T.cont.length + x.size ≤ 1472) (hcap : T.cap < 1000000) (hop : T.opn.length ≤ 1000) :
    Calls Try.prog 11 #[.pointer (some ⟨l, 0, none⟩), x.val] w fun e w' => e = .returned (.tuple #[.slice none 0 0, .int .i64 0]) ∧ ∃ v6' v7', LgIn w' l d m v5 v6' v7' (T.put ⟨w.heap.size, 0, x⟩) ∧ Keep (l :: m :: (own v6 ++ own v7)) w w' ∧ (∀ q ∈ own v6', q ∈ own v6 ∨ w.heap.size ≤ q) ∧ (∀ q ∈ own v7', q ∈ own v7 ∨ w.heap.size ≤ q) := by
  have gs := good_sizes hg
  have hsz : x.size = 32 + x.key.length + x.value.length := rfl
  obtain ⟨A, hA⟩ : ∃ A, A = w.alloc (.cells #[.string (txt x.key), .string (txt x.value), .int .u32 x.flags, .int .i64 x.exp, .int .u64 x.ver] 36) := ⟨_, rfl⟩
  have bA : Below w.heap.size w A := by rw [hA]; exact (Below.refl _ _).alloc (Nat.le_refl _) _
  have hszA : A.heap.size = w.heap.size + 1 := by rw [hA, nblk_alloc]
  have bkA : Blk A w.heap.size (itCells x) 36 := by rw [hA]; exact Blk.new w (itCells x) 36
  have tA : ThAt A ⟨w.heap.size, 0, x⟩ := ⟨hf, by show x.key.length ≤ _; omega, by show x.value.length ≤ _; omega, ⟨_, bkA⟩, bkA.cell (i := 0) rfl, bkA.cell (i := 1) rfl, bkA.cell (i := 2) rfl, bkA.cell (i := 3) rfl, bkA.cell (i := 4) rfl⟩
  have cP := hide (rput_ok x hf hg A)
  have EV : Hid (x.val = .agg #[.string (txt x.key), .string (txt x.value), .int .u32 x.flags, .int .i64 x.exp, .int .u64 x.ver]) := rfl
  rw [EV.out] at cP ⊢
  have H := hide h
  have HF := hide hf
  have HROOM := hide hroom
  have HCAP := hide hcap
  have HOP := hide hop
  have BA := hide bA
  have SZA := hide hszA
  have TA := hide tA
  have BKA := hide bkA
  have GS := hide gs
  have HSZ := hide hsz
  have hsz2 : (x.size : Int) ≤ 1472 := by omega
  clear h hf hg hroom hcap hop bA hszA tA bkA gs hsz EV
  subst hA
  go_enter Try.func11, Try.ntmps11
  go_wp2_with fail
  refine cP.out.mono ?_
  rintro e w2 ⟨g, rfl, hg0, hbuf, b2⟩
  have bW : Below w.heap.size w w2 := BA.out.trans (b2.mono (by rw [SZA.out]; omega))
  have hL2 := H.out.below bW
  have t2 : ThAt w2 ⟨w.heap.size, 0, x⟩ := TA.out.same (b2.block _ TA.out.lt)
  obtain ⟨a7, c7, rfl⟩ := own_slice hL2.cont
  obtain ⟨a6, c6, rfl⟩ := own_slice hL2.opn
  have hbs : BS w2 (some ⟨g, 0, none⟩) x.size x.size x.enc := buf_bs hbuf (x.enc_length).symm (Nat.le_refl _)
  obtain ⟨ua7, uc7, w3, hrun7, hrow7, hkp7, hblk7⟩ := app_bytes hL2.cont hbs (by have := HROOM.out; omega) (Nat.zero_le _)
  have hl3 : Blk w3 l (lgCells d m v5 (.slice a6 T.opn.length c6) (.slice a7 T.cont.length c7) T) 65 := hL2.box.same (hkp7.block l hL2.box.lt (own_notin hL2.cont hL2.box (by decide)))
  have hl4 := hl3.set 7 (.slice ua7 (T.cont.length + x.size) uc7)
  obtain ⟨W4, hW4⟩ : ∃ W4, w3.setCell ⟨l, 7, none⟩ (.slice ua7 (T.cont.length + x.size) uc7) = W4 := ⟨_, rfl⟩
  rw [hW4] at hl4
  have h64 : W4.ownsRow 0 71 1 (.slice a6 T.opn.length c6) T.opn.length (ptrCells T.opn) := own_same hL2.opn (fun q hq => by
    obtain ⟨c, hc⟩ := own_ty hL2.opn hq
    rw [← hW4]
    refine (blk_setCell_other w3 ⟨l, 7, none⟩ _ q (ty_ne hc hL2.box (by decide))).trans ?_
    exact hkp7.block q (Array.getElem?_eq_some_iff.1 hc).1 (own_notin hL2.cont hc (by decide)))
  obtain ⟨ua6, uc6, w5, hrun6, hrow6, hkp6, hblk6, hsz6⟩ := app_ptr h64 (.pointer (some ⟨w.heap.size, 0, none⟩)) rfl (by have := HOP.out; omega) (Nat.zero_le _)
  have hkp6' : Keep (own (.slice a6 T.opn.length c6)) (w3.setCell ⟨l, 7, none⟩ (.slice ua7 (T.cont.length + x.size) uc7)) w5 := by rw [hW4]; exact hkp6
  obtain ⟨hm6, ht6, hl5⟩ := put_mid (v6' := .slice ua6 (T.opn.length + 1) uc6) hL2 ⟨w.heap.size, 0, x⟩ t2 hkp7 hkp6'
  obtain ⟨W6, hW6⟩ : ∃ W6, w5.setCell ⟨l, 6, none⟩ (.slice ua6 (T.opn.length + 1) uc6) = W6 := ⟨_, rfl⟩
  have hl6 := hl5.set 6 (.slice ua6 (T.opn.length + 1) uc6)
  rw [hW6] at hm6 ht6 hl6
  have hm6d : MapAt W6.drew m T.cap T.has := hm6.same rfl
  obtain ⟨W7, hupd0, hmap7, hkp7m, _⟩ := hm6d.store x.key (by have := GS.out; unfold maxLen; omega) HCAP.out (w.heap.size, 0)
  have hupd : (Instr.mapUpdate 61 (.map (some m)) (.string (txt x.key)) (.pointer (some ⟨w.heap.size, 0, none⟩))).run Try.prog W6.drew = .ok () W7 := hupd0
  have k7m : Keep [m] (w5.setCell ⟨l, 6, none⟩ (.slice ua6 (T.opn.length + 1) uc6)) W7 := by
    rw [hW6]
    exact ((Keep.refl [m] W6).drew).trans hkp7m (fun q hq => .inl hq)
  have hw2 := bW.size
  have hb6 : ∀ q ∈ own (.slice ua6 (T.opn.length + 1) uc6), q ∈ own (.slice a6 T.opn.length c6) ∨ w2.heap.size ≤ q := fun q hq => by
    rcases hblk6 q hq with h1 | h1
    · exact .inl h1
    · refine .inr (Nat.le_trans hkp7.size ?_)
      rw [← hW4, nblk_setCell] at h1
      exact h1
  have TT : Hid (∃ v6' v7', LgIn W7 l d m v5 v6' v7' (T.put ⟨w.heap.size, 0, x⟩) ∧ Keep (l :: m :: (own (.slice a6 T.opn.length c6) ++ own (.slice a7 T.cont.length c7))) w W7 ∧ (∀ q ∈ own v6', q ∈ own (.slice a6 T.opn.length c6) ∨ w.heap.size ≤ q) ∧ (∀ q ∈ own v7', q ∈ own (.slice a7 T.cont.length c7) ∨ w.heap.size ≤ q)) := by
    have e7 : (T.cont ++ x.enc).length = T.cont.length + x.size := by rw [List.length_append, x.enc_length]
    obtain ⟨f1, f2⟩ := put_state (v7' := .slice ua7 (T.cont.length + x.size) uc7) (v6' := .slice ua6 (T.opn.length + 1) uc6) hL2 ⟨w.heap.size, 0, x⟩ t2 (by simp only; rw [e7]; exact hrow7) hkp7 hrow6 hkp6' hb6 hmap7 k7m
    refine ⟨_, _, f1, (Keep.of_below bW).trans f2 (fun q hq => .inl hq), fun q hq => ?_, fun q hq => ?_⟩
    · rcases hb6 q hq with h1 | h1
      · exact .inl h1
      · exact .inr (by omega)
    · rcases hblk7 q hq with h1 | h1
      · exact .inl h1
      · exact .inr (by omega)
  have k7 := hL2.box.cell (i := 7) rfl
  have c7c := hl3.cell (i := 7) rfl
  have f7c := hl3.frozen 7
  have c64 : (w3.setCell ⟨l, 7, none⟩ (.slice ua7 (T.cont.length + x.size) uc7)).cell? ⟨l, 6, none⟩ = some (.slice a6 T.opn.length c6) := by rw [hW4]; exact hl4.cell (i := 6) rfl
  have c65 := hl5.cell (i := 6) rfl
  have f65 := hl5.frozen 6
  have g8 : W6.drew.cell? ⟨l, 8, none⟩ = some (.map (some m)) := hl6.cell (i := 8) rfl
  have bx0 : W6.drew.cell? ⟨w.heap.size, 0, none⟩ = some (.string (txt x.key)) := ht6.one.c0
  have HR7 := hide hrun7
  have hrun6' : ∀ ty, (Builtin.append_ #[63, 63] ty #[.slice a6 T.opn.length c6, .slice (some ⟨w3.heap.size, 0, none⟩) 1 1]).run Try.prog ((w3.setCell ⟨l, 7, none⟩ (.slice ua7 (T.cont.length + x.size) uc7)).alloc (.cells #[.pointer (some ⟨w.heap.size, 0, none⟩)] 71)) = .ok (.slice ua6 (T.opn.length + 1) uc6) w5 := by
    have e : w3.heap.size = W4.heap.size := by rw [← hW4, nblk_setCell]
    rw [hW4, e]
    exact hrun6
  have HR6 := hide hrun6'
  have HW6D : Hid ((w5.setCell ⟨l, 6, none⟩ (.slice ua6 (T.opn.length + 1) uc6)).drew = W6.drew) := by show _ = _; rw [hW6]
  have q1 : ¬ (1472 : Int) < (x.size : Int) := by omega
  have q2 : ¬ ((1472 : Int) - (T.cont.length : Int)) < (x.size : Int) := by have := HROOM.out; omega
  have q3 : (T.cont.length : Int) ≤ 1472 := by have := HROOM.out; omega
  clear hrun6 hrun6' hrun7 hrow7 hkp7 hblk7 hl3 hl4 hl5 hl6 hrow6 hkp6 hkp6' hblk6 hsz6 hm6 ht6 hm6d hupd0 hmap7 hkp7m k7m hb6 hw2 bW hL2 t2 hbs hg0 hbuf b2 h64 cP hW4 hW6
  obtain ⟨n7, hn7⟩ : ∃ n7, n7 = T.cont.length := ⟨_, rfl⟩
  rw [← hn7] at k7 c7c c64 HR7 HR6 q2 q3
  clear hn7
  obtain ⟨n6, hn6⟩ : ∃ n6, n6 = T.opn.length := ⟨_, rfl⟩
  rw [← hn6] at c64 c65 HR6 HW6D
  clear hn6
  generalize x.size = xn at *
  generalize txt x.key = kb at *
  go_wp2_with (at_builtin; first
    | refine Lib.wpList_append_run _ rfl _ _ _ _ rfl _ _ rfl rfl _ _ (HR7.out _) ?_
    | refine Lib.wpList_append_run _ rfl _ _ _ _ rfl _ _ rfl rfl _ _ (HR6.out _) ?_)
  refine wp_region_last (by kernel_rfl) (by kernel_rfl) (fun jx => ([.pointer (some ⟨l, 0, none⟩), .pointer (some ⟨l, 0, none⟩), .pointer (some ⟨l, 8, none⟩), .map (some m), .pointer (some ⟨w.heap.size, 0, none⟩), .string kb, undef] : List Value).getD jx undef) 6 (by decide) (by kernel_rfl) (fun w' => w' = W6.drew) (fun w' => w' = W7) (HW6D.out) ?_ ?_
  · intro jx ox hi w' ev hc hin hout hcst hfn
    have hltx : jx < 7 := by
      have := (Array.getElem?_eq_some_iff.1 hi).1
      simpa using this
    match jx, hltx with
    | 0, _ =>
      simp only [List.getElem?_toArray, List.getElem?_cons_zero, List.getElem?_cons_succ, Option.some.injEq] at hi
      subst hi
      have e0 : ev (.tmp 0) = .pointer (some ⟨l, 0, none⟩) := hout 0 (by kernel_rfl) (show (0 : Nat) < 64 by decide)
      rw [if_neg (by decide)]
      refine .inl ⟨w', ?_, hc⟩
      show _ = Result.ok (Next.value (.pointer (some ⟨l, 0, none⟩))) w'
      simp [execOp, e0, hcst, go_sem]
    | 1, _ =>
      simp only [List.getElem?_toArray, List.getElem?_cons_zero, List.getElem?_cons_succ, Option.some.injEq] at hi
      subst hi
      have e0 : ev (.tmp 57) = .pointer (some ⟨l, 0, none⟩) := hin 57 0 ⟨0, .data⟩ (by kernel_rfl) (by simp) rfl rfl (show (57 : Nat) < 64 by decide)
      rw [if_neg (by decide)]
      refine .inl ⟨w', ?_, hc⟩
      show _ = Result.ok (Next.value (.pointer (some ⟨l, 0, none⟩))) w'
      simp [execOp, e0, hcst, go_sem]
    | 2, _ =>
      simp only [List.getElem?_toArray, List.getElem?_cons_zero, List.getElem?_cons_succ, Option.some.injEq] at hi
      subst hi
      have e0 : ev (.tmp 58) = .pointer (some ⟨l, 0, none⟩) := hin 58 1 ⟨1, .data⟩ (by kernel_rfl) (by simp) rfl rfl (show (58 : Nat) < 64 by decide)
      rw [if_neg (by decide)]
      refine .inl ⟨w', ?_, hc⟩
      show _ = Result.ok (Next.value (.pointer (some ⟨l, 8, none⟩))) w'
      simp [execOp, e0, hcst, go_sem]
    | 3, _ =>
      simp only [List.getElem?_toArray, List.getElem?_cons_zero, List.getElem?_cons_succ, Option.some.injEq] at hi
      subst hi
      have e0 : ev (.tmp 59) = .pointer (some ⟨l, 8, none⟩) := hin 59 2 ⟨2, .data⟩ (by kernel_rfl) (by simp) rfl rfl (show (59 : Nat) < 64 by decide)
      rw [if_neg (by decide)]
      refine .inl ⟨w', ?_, hc⟩
      show _ = Result.ok (Next.value (.map (some m))) w'
      subst hc
      simp [execOp, e0, g8, hcst, go_sem]
    | 4, _ =>
      simp only [List.getElem?_toArray, List.getElem?_cons_zero, List.getElem?_cons_succ, Option.some.injEq] at hi
      subst hi
      have e0 : ev (.tmp 3) = .pointer (some ⟨w.heap.size, 0, none⟩) := hout 3 (by kernel_rfl) (show (3 : Nat) < 64 by decide)
      rw [if_neg (by decide)]
      refine .inl ⟨w', ?_, hc⟩
      show _ = Result.ok (Next.value (.pointer (some ⟨w.heap.size, 0, none⟩))) w'
      simp [execOp, e0, hcst, go_sem]
    | 5, _ =>
      simp only [List.getElem?_toArray, List.getElem?_cons_zero, List.getElem?_cons_succ, Option.some.injEq] at hi
      subst hi
      have e0 : ev (.tmp 61) = .pointer (some ⟨w.heap.size, 0, none⟩) := hin 61 4 ⟨4, .data⟩ (by kernel_rfl) (by simp) rfl rfl (show (61 : Nat) < 64 by decide)
      rw [if_neg (by decide)]
      refine .inl ⟨w', ?_, hc⟩
      show _ = Result.ok (Next.value (.string kb)) w'
      subst hc
      simp [execOp, e0, bx0, hcst, go_sem]
    | 6, _ =>
      simp only [List.getElem?_toArray, List.getElem?_cons_zero, List.getElem?_cons_succ, Option.some.injEq] at hi
      subst hi
      have e0 : ev (.tmp 60) = .map (some m) := hin 60 3 ⟨3, .data⟩ (by kernel_rfl) (by simp) rfl rfl (show (60 : Nat) < 64 by decide)
      have e1 : ev (.tmp 62) = .string kb := hin 62 5 ⟨5, .data⟩ (by kernel_rfl) (by simp) rfl rfl (show (62 : Nat) < 64 by decide)
      have e2 : ev (.tmp 3) = .pointer (some ⟨w.heap.size, 0, none⟩) := hout 3 (by kernel_rfl) (show (3 : Nat) < 64 by decide)
      rw [if_pos rfl]
      subst hc
      refine .inr (.inl ⟨rfl, W7, ?_, rfl⟩)
      simp [execOp, e0, e1, e2, hcst, hupd, Result.andThen]
  · intro w9 hc
    simp only [lexF, Act.put, List.setIfInBounds_toArray, List.set_cons_succ, List.set_cons_zero, List.getD_cons_succ, List.getD_cons_zero]
    obtain rfl := hc
    clear hupd g8 bx0 HW6D
    go_wp2
    go_ret2
    exact ⟨rfl, TT.out⟩
end Go.Proofs.Ytbjkahdlejaheaa

/- What stands on pages: a region that was written is read again. -/
set_option linter.unusedVariables false
set_option linter.unusedSimpArgs false
set_option maxRecDepth 8000
namespace Go.Proofs.Ytbjkahdlejaheaa
open Go.RowKit Go.Deep Math

theorem fresh_get (n k : Nat) {c : Cl} (h : (Dv.fresh n).cs[k]? = some c) : c = ⟨.blank, none⟩ := by
  have := List.mem_of_getElem? h
  exact List.eq_of_mem_replicate this
theorem fresh_fm (n k : Nat) : fmAt (Dv.fresh n).cs k = none := by
  unfold fmAt
  cases h : (Dv.fresh n).cs[k]? with
  | none => rfl
  | some c => rw [fresh_get n k h]; rfl
theorem forms_none {cs : List Cl} {base : Nat} : ∀ k, (∀ j, j < k → fmAt cs (base + j) = none) → forms cs base k = []
  | 0, _ => rfl
  | k + 1, h => by rw [forms, forms_none k (fun j hj => h j (by omega)), h k (by omega)]; rfl
theorem cnt_none {cs : List Cl} {base : Nat} (h : forms cs base 4 = []) : cnt cs base = none := by unfold cnt; rw [h]; rfl
theorem fresh_cnts (n first : Nat) : ∀ k, cnts (Dv.fresh n).cs first k = [] ∧ numTo (Dv.fresh n).cs first k = 0
  | 0 => ⟨rfl, rfl⟩
  | k + 1 => by
    have hf := forms_none (cs := (Dv.fresh n).cs) (base := first + 4 * k) 4 (fun j _ => fresh_fm n _)
    have ih := fresh_cnts n first k
    refine ⟨?_, ?_⟩
    · rw [cnts, ih.1, cnt_none hf]; rfl
    · rw [numTo, ih.2, hf]; rfl
/-- A page that was written is read as it was laid. -/
theorem page_read (k n : Nat) (p : List UInt8) (hk : k < 4) (hn : n < 18446744073709551616) (hp : p.length ≤ 368) :
    ∃ l, fmPg (.whole ⟨(pageR k n p).toArray⟩) = some l ∧ fmPlace l = k ∧ fmNum l = n ∧ fmPart l = p := by
  have hd : (full ⟨(pageR k n p).toArray⟩).data.toList = pageR k n p ++ List.replicate (384 - (16 + p.length)) 0 := by
    rw [full_data]
    have : (⟨(pageR k n p).toArray⟩ : ByteArray).size = 16 + p.length := by show (pageR k n p).toArray.size = _; rw [List.size_toArray, pageR_length]
    rw [this]
  obtain ⟨l, hl⟩ : ∃ l, l = pageR k n p ++ List.replicate (384 - (16 + p.length)) 0 := ⟨_, rfl⟩
  rw [← hl] at hd
  have L := low_length
  have e0 : l = [82, 71] ++ ([UInt8.ofNat k, 0] ++ (low p.length 4 ++ (low n 8 ++ (p ++ List.replicate (384 - (16 + p.length)) 0)))) := by rw [hl]; simp [pageR, headR]
  have s0 : sl l 0 2 = [82, 71] := by rw [e0]; exact sl_first _ _ _ rfl
  have s23 : sl l 2 4 = [UInt8.ofNat k, 0] := by rw [e0]; exact sl_mid [82, 71] _ _ _ _ rfl rfl
  have s4 : sl l 4 8 = low p.length 4 := by rw [e0, ← List.append_assoc]; exact sl_mid _ _ _ _ _ rfl (by simp [L])
  have s8 : sl l 8 16 = low n 8 := by rw [e0, ← List.append_assoc, ← List.append_assoc]; exact sl_mid _ _ _ _ _ (by simp [L]) (by simp [L])
  have s16 : sl l 16 (16 + p.length) = p := by rw [e0, ← List.append_assoc, ← List.append_assoc, ← List.append_assoc]; exact sl_mid _ _ _ _ _ (by simp [L]) rfl
  have hll : l.length = 384 := by rw [hl, List.length_append, pageR_length, List.length_replicate]; omega
  have d2 : l.getD 2 0 = UInt8.ofNat k := by rw [e0]; rfl
  have d3 : l.getD 3 0 = 0 := by rw [e0]; rfl
  have f1 : fmLen l = p.length := by unfold fmLen; rw [s4]; exact up_low 4 _ (by omega)
  have f2 : fmNum l = n := by unfold fmNum; rw [s8]; exact up_low 8 _ hn
  have f3 : fmPlace l = k := by unfold fmPlace; rw [d2, UInt8.toNat_ofNat']; omega
  have f4 : isForm l = true := by
    have h1 : up (sl l 4 8) ≤ 368 := by have := f1; unfold fmLen at this; omega
    simp only [isForm, decide_eq_true s0, decide_eq_true d3, decide_eq_true h1, Bool.and_self]
  refine ⟨l, ?_, f3, f2, by unfold fmPart; rw [f1]; exact s16⟩
  show (pgText (.whole ⟨(pageR k n p).toArray⟩)).bind _ = _
  show (some (full ⟨(pageR k n p).toArray⟩).data.toList).bind _ = _
  rw [hd]
  simp [f4]
def part9 (c : List UInt8) (k : Nat) : List UInt8 := (c.drop (368 * k)).take 368
theorem part9_le (c : List UInt8) (k : Nat) : (part9 c k).length ≤ 368 := by unfold part9; rw [List.length_take]; omega
theorem parts_all (c : List UInt8) (h : c.length ≤ 1472) : part9 c 0 ++ (part9 c 1 ++ (part9 c 2 ++ part9 c 3)) = c := by
  unfold part9
  have e3 : (c.drop (368 * 3)).take 368 = c.drop (368 * 3) := List.take_of_length_le (by rw [List.length_drop]; omega)
  rw [e3]
  have step : ∀ k, (c.drop (368 * k)).take 368 ++ c.drop (368 * (k + 1)) = c.drop (368 * k) := fun k => by
    have := List.take_append_drop 368 (c.drop (368 * k))
    rw [List.drop_drop] at this
    rw [show 368 * (k + 1) = 368 * k + 368 by omega]
    exact this
  rw [step 2, step 1, step 0]
  rfl
/-- Four pages of one region, side by side. -/
theorem cnt_written {cs : List Cl} {base n : Nat} {c : List UInt8} {xs : List It} (hn0 : n ≠ 0) (hn : n < 18446744073709551616) (hc : c.length ≤ 1472) (hl : lst c = some xs)
    (h : ∀ k, k < 4 → ∃ la, cs[base + k]? = some ⟨.whole ⟨(pageR k n (part9 c k)).toArray⟩, la⟩) : cnt cs base = some (n, xs) ∧ ∀ m, maxNum m (forms cs base 4) = max m n := by
  have hf : ∀ k, k < 4 → ∃ l, fmAt cs (base + k) = some l ∧ fmPlace l = k ∧ fmNum l = n ∧ fmPart l = part9 c k := fun k hk => by
    obtain ⟨la, hla⟩ := h k hk
    obtain ⟨l, h1, h2⟩ := page_read k n (part9 c k) hk hn (part9_le c k)
    exact ⟨l, by unfold fmAt; rw [hla]; exact h1, h2⟩
  obtain ⟨l0, a0, p0, m0, c0⟩ := hf 0 (by omega)
  obtain ⟨l1, a1, p1, m1, c1⟩ := hf 1 (by omega)
  obtain ⟨l2, a2, p2, m2, c2⟩ := hf 2 (by omega)
  obtain ⟨l3, a3, p3, m3, c3⟩ := hf 3 (by omega)
  rw [Nat.add_zero] at a0
  have ef : forms cs base 4 = [l0, l1, l2, l3] := by simp [forms, a0, a1, a2, a3]
  have hw : isWhole (forms cs base 4) = true := by
    rw [ef]
    simp [isWhole, headNum, run9, m0, m1, m2, m3, p0, p1, p2, p3, hn0]
  have hcon : content (forms cs base 4) = c := by
    rw [ef]
    have : content [l0, l1, l2, l3] = part9 c 0 ++ (part9 c 1 ++ (part9 c 2 ++ part9 c 3)) := by simp [content, c0, c1, c2, c3]
    rw [this, parts_all c hc]
  refine ⟨?_, fun m => ?_⟩
  · unfold cnt
    rw [hw, hcon, hl, if_pos rfl, ef]
    simp [headNum, m0]
  · rw [ef]
    simp [maxNum, m0, m1, m2, m3]
/-- The device of a law that is awake: on, not armed; nothing waits. -/
structure Calm (S : Dv) : Prop where
  armed : S.armed = 0
  off : S.off = false
theorem write_calm {S : Dv} (h : Calm S) (k : Nat) (hk : k < S.cs.length) (b : ByteArray) (hb : b.size ≤ 384) : S.writeErr (k : Int) b = 0 ∧ (S.writeDo (k : Int) b).cs = putAt S.cs k (.whole b) ∧ Calm (S.writeDo (k : Int) b) ∧ (S.writeDo (k : Int) b).losses = S.losses := by
  have hh := has_nat hk
  have hg : S.gone = false := by simp [Dv.gone, h.armed, h.off]
  have hu : S.used = S := by unfold Dv.used; rw [if_pos (.inr h.armed)]
  have hb' : ¬ 384 < b.size := by omega
  refine ⟨by simp [Dv.writeErr, hb', Dv.putErr, hh, hg], ?_, ?_, ?_⟩
  · simp [Dv.writeDo, hb', Dv.putDo, hh, hg]
  · simp [Dv.writeDo, hb', Dv.putDo, hh, hg, hu]; exact ⟨h.armed, h.off⟩
  · simp [Dv.writeDo, hb', Dv.putDo, hh, hg, hu]
theorem flush_calm {S : Dv} (h : Calm S) : S.flushErr = 0 ∧ S.flushDo.cs = S.cs.map Cl.flush ∧ Calm S.flushDo ∧ S.flushDo.losses = S.losses := by
  have hg : S.gone = false := by simp [Dv.gone, h.armed, h.off]
  have hu : S.used = S := by unfold Dv.used; rw [if_pos (.inr h.armed)]
  refine ⟨by simp [Dv.flushErr, hg], by simp [Dv.flushDo, hg], ?_, by simp [Dv.flushDo, hg, hu]⟩
  simp [Dv.flushDo, hg, hu]; exact ⟨h.armed, h.off⟩
def put4 (cs : List Cl) (base n : Nat) (c : List UInt8) : List Cl :=
  (putAt (putAt (putAt (putAt cs base (.whole ⟨(pageR 0 n (part9 c 0)).toArray⟩)) (base + 1) (.whole ⟨(pageR 1 n (part9 c 1)).toArray⟩)) (base + 2) (.whole ⟨(pageR 2 n (part9 c 2)).toArray⟩)) (base + 3) (.whole ⟨(pageR 3 n (part9 c 3)).toArray⟩)).map Cl.flush
theorem wr_calm {S : Dv} (h : Calm S) (base n : Nat) (hb : base + 4 ≤ S.cs.length) (c : List UInt8) :
    (wrR base n 4 S c).1 = 0 ∧ (wrR base n 4 S c).2.cs = put4 S.cs base n c ∧ Calm (wrR base n 4 S c).2 ∧ (wrR base n 4 S c).2.losses = S.losses := by
  have sz : ∀ k p, p.length ≤ 368 → (⟨(pageR k n p).toArray⟩ : ByteArray).size ≤ 384 := fun k p hp => by show (pageR k n p).toArray.size ≤ _; rw [List.size_toArray, pageR_length]; omega
  have st : ∀ (r : Nat) (S : Dv) (c : List UInt8) (k : Nat), k = 3 - r → Calm S → base + k < S.cs.length → wrR base n (r + 1) S c = wrR base n r (S.writeDo ((base + k : Nat) : Int) ⟨(pageR k n (c.take 368)).toArray⟩) (c.drop 368) := fun r S c k hk hS hl => by
    subst hk
    rw [wrR, if_pos]
    exact (write_calm hS _ hl _ (sz _ _ (by rw [List.length_take]; omega))).1
  have q0 := write_calm h (base + 0) (by omega) ⟨(pageR 0 n (c.take 368)).toArray⟩ (sz _ _ (by rw [List.length_take]; omega))
  obtain ⟨S1, hS1⟩ : ∃ S1, S1 = S.writeDo ((base + 0 : Nat) : Int) ⟨(pageR 0 n (c.take 368)).toArray⟩ := ⟨_, rfl⟩
  rw [← hS1] at q0
  have l1 : S1.cs.length = S.cs.length := by rw [q0.2.1, putAt_length]
  have q1 := write_calm q0.2.2.1 (base + 1) (by omega) ⟨(pageR 1 n ((c.drop 368).take 368)).toArray⟩ (sz _ _ (by rw [List.length_take]; omega))
  obtain ⟨S2, hS2⟩ : ∃ S2, S2 = S1.writeDo ((base + 1 : Nat) : Int) ⟨(pageR 1 n ((c.drop 368).take 368)).toArray⟩ := ⟨_, rfl⟩
  rw [← hS2] at q1
  have l2 : S2.cs.length = S.cs.length := by rw [q1.2.1, putAt_length, l1]
  have q2 := write_calm q1.2.2.1 (base + 2) (by omega) ⟨(pageR 2 n (((c.drop 368).drop 368).take 368)).toArray⟩ (sz _ _ (by rw [List.length_take]; omega))
  obtain ⟨S3, hS3⟩ : ∃ S3, S3 = S2.writeDo ((base + 2 : Nat) : Int) ⟨(pageR 2 n (((c.drop 368).drop 368).take 368)).toArray⟩ := ⟨_, rfl⟩
  rw [← hS3] at q2
  have l3 : S3.cs.length = S.cs.length := by rw [q2.2.1, putAt_length, l2]
  have q3 := write_calm q2.2.2.1 (base + 3) (by omega) ⟨(pageR 3 n ((((c.drop 368).drop 368).drop 368).take 368)).toArray⟩ (sz _ _ (by rw [List.length_take]; omega))
  obtain ⟨S4, hS4⟩ : ∃ S4, S4 = S3.writeDo ((base + 3 : Nat) : Int) ⟨(pageR 3 n ((((c.drop 368).drop 368).drop 368).take 368)).toArray⟩ := ⟨_, rfl⟩
  rw [← hS4] at q3
  have q4 := flush_calm q3.2.2.1
  have e : wrR base n 4 S c = (S4.flushErr, S4.flushDo) := by
    rw [st 3 S c 0 rfl h (by omega), ← hS1, st 2 S1 _ 1 rfl q0.2.2.1 (by omega), ← hS2, st 1 S2 _ 2 rfl q1.2.2.1 (by omega), ← hS3, st 0 S3 _ 3 rfl q2.2.2.1 (by omega), ← hS4]
    rfl
  rw [e]
  refine ⟨q4.1, ?_, q4.2.2.1, by rw [q4.2.2.2, q3.2.2.2, q2.2.2.2, q1.2.2.2, q0.2.2.2]⟩
  show S4.flushDo.cs = _
  rw [q4.2.1, q3.2.1, q2.2.1, q1.2.1, q0.2.1]
  unfold put4 part9
  simp only [List.drop_drop]
  rfl

theorem flush_now (l : List Cl) (j : Nat) : (l.map Cl.flush)[j]? = ((l[j]?).map (·.now)).map fun p => ⟨p, none⟩ := by
  rw [List.getElem?_map]
  cases l[j]? <;> rfl
theorem put4_length (cs : List Cl) (base n : Nat) (c : List UInt8) : (put4 cs base n c).length = cs.length := by
  unfold put4
  rw [List.length_map, putAt_length, putAt_length, putAt_length, putAt_length]
theorem put4_in (cs : List Cl) (base n : Nat) (c : List UInt8) (hb : base + 4 ≤ cs.length) (k : Nat) (hk : k < 4) : (put4 cs base n c)[base + k]? = some ⟨.whole ⟨(pageR k n (part9 c k)).toArray⟩, none⟩ := by
  unfold put4
  rw [flush_now, putAt_get, putAt_length, putAt_length, putAt_length, putAt_get, putAt_length, putAt_length, putAt_get, putAt_length, putAt_get]
  match k, hk with
  | 0, _ => rw [if_neg (by omega), if_neg (by omega), if_neg (by omega), if_pos (by omega)]; rfl
  | 1, _ => rw [if_neg (by omega), if_neg (by omega), if_pos (by omega)]; rfl
  | 2, _ => rw [if_neg (by omega), if_pos (by omega)]; rfl
  | 3, _ => rw [if_pos (by omega)]; rfl
theorem put4_out (cs : List Cl) (base n : Nat) (c : List UInt8) (j : Nat) (hj : j < base ∨ base + 4 ≤ j) : (put4 cs base n c)[j]? = ((cs[j]?).map (·.now)).map fun p => ⟨p, none⟩ := by
  unfold put4
  rw [flush_now, putAt_get, if_neg (by omega), putAt_get, if_neg (by omega), putAt_get, if_neg (by omega), putAt_get, if_neg (by omega)]
theorem put4_last (cs : List Cl) (base n : Nat) (c : List UInt8) : ∀ x ∈ put4 cs base n c, x.last = none := by
  intro x hx
  obtain ⟨y, _, rfl⟩ := List.mem_map.1 hx
  rfl
theorem settle_still : ∀ (cs : List Cl) (ps : List UInt8), (∀ c ∈ cs, c.last = none) → settle cs ps = cs
  | [], _, _ => rfl
  | c :: r, ps, h => by
    have h1 := h c (by simp)
    unfold settle
    rw [h1]
    simp only
    rw [settle_still r ps (fun x hx => h x (by simp [hx]))]
theorem fm_out {cs : List Cl} {base n : Nat} {c : List UInt8} {j : Nat} (hj : j < base ∨ base + 4 ≤ j) : fmAt (put4 cs base n c) j = fmAt cs j := by
  unfold fmAt
  rw [put4_out _ _ _ _ _ hj]
  cases cs[j]? <;> rfl
theorem forms_congr {cs cs' : List Cl} {base : Nat} : ∀ k, (∀ j, j < k → fmAt cs (base + j) = fmAt cs' (base + j)) → forms cs base k = forms cs' base k
  | 0, _ => rfl
  | k + 1, h => by rw [forms, forms, forms_congr k (fun j hj => h j (by omega)), h k (by omega)]
theorem cnt_congr {cs cs' : List Cl} {base : Nat} (h : forms cs base 4 = forms cs' base 4) : cnt cs base = cnt cs' base := by unfold cnt; rw [h]
theorem lst_one (xs : List It) (h : ∀ x ∈ xs, x.fits ∧ x.good = true) : lst (encs xs) = some xs := by
  have := lst_encs xs [] h (by simp [take, ended])
  rw [List.append_nil] at this
  exact this
end Go.Proofs.Ytbjkahdlejaheaa

/- A log as a law holds it; 'awake' gets ready. -/
set_option linter.unusedVariables false
set_option linter.unusedSimpArgs false
set_option maxRecDepth 8000
namespace Go.Proofs.Ytbjkahdlejaheaa
open Go.RowKit Go.Deep Math

/-- A device and a log, above w0. -/
structure LG (w0 W : World) (d : Nat) (F : List Nat) (S : Dv) (l m : Nat) (v5 v6 v7 : Value) (T : Lg) : Prop where
  lg : LgIn W l d m v5 v6 v7 T
  dev : DvAt W d F S
  bel : Below w0.heap.size w0 W
  lowF : ∀ q ∈ F, w0.heap.size ≤ q
  lowL : ∀ q ∈ lfoot l m v5 v6 v7, w0.heap.size ≤ q
section
variable {w0 W W' : World} {d : Nat} {F : List Nat} {S : Dv} {l m : Nat} {v5 v6 v7 : Value} {T : Lg}
theorem LG.below (h : LG w0 W d F S l m v5 v6 v7 T) (b : Below W.heap.size W W') : LG w0 W' d F S l m v5 v6 v7 T :=
  ⟨h.lg.below b, h.dev.below b, h.bel.trans (b.mono h.bel.size), h.lowF, h.lowL⟩
/-- The device alone is turned. -/
theorem LG.devTurn (h : LG w0 W d F S l m v5 v6 v7 T) {F' : List Nat} {S' : Dv} (hd : DvAt W' d F' S') (hm : Moves F F' W W') : LG w0 W' d F' S' l m v5 v6 v7 T := by
  have hs := h.bel.size
  refine ⟨h.lg.dev h.dev hm.keep, hd, h.bel.trans (hm.keep.below h.lowF hs), fun q hq => ?_, h.lowL⟩
  rcases hm.foot q hq with h1 | h1
  · exact h.lowF q h1
  · omega
theorem LG.put (h : LG w0 W d F S l m v5 v6 v7 T) {v6' v7' : Value} {T' : Lg} (hl : LgIn W' l d m v5 v6' v7' T') (hk : Keep (l :: m :: (own v6 ++ own v7)) W W') (h6 : ∀ q ∈ own v6', q ∈ own v6 ∨ W.heap.size ≤ q) (h7 : ∀ q ∈ own v7', q ∈ own v7 ∨ W.heap.size ≤ q) : LG w0 W' d F S l m v5 v6' v7' T' := by
  have hs := h.bel.size
  have hlow : ∀ q ∈ l :: m :: (own v6 ++ own v7), w0.heap.size ≤ q := fun q hq => h.lowL q (by
    simp only [List.mem_cons, List.mem_append] at hq
    simp only [lfoot, List.mem_cons, List.mem_append]
    rcases hq with h1 | h1 | h1 | h1
    · exact .inl h1
    · exact .inr (.inl h1)
    · exact .inr (.inr (.inr (.inl h1)))
    · exact .inr (.inr (.inr (.inr h1))))
  refine ⟨hl, h.dev.same (fun q hq => hk.block q (h.dev.lt q hq) (fun hm => ?_)), h.bel.trans (hk.below hlow hs), h.lowF, fun q hq => ?_⟩
  · refine h.lg.off h.dev q (List.mem_append.2 (.inl ?_)) hq
    simp only [List.mem_cons, List.mem_append] at hm
    simp only [lfoot, List.mem_cons, List.mem_append]
    rcases hm with h1 | h1 | h1 | h1
    · exact .inl h1
    · exact .inr (.inl h1)
    · exact .inr (.inr (.inr (.inl h1)))
    · exact .inr (.inr (.inr (.inr h1)))
  · simp only [lfoot, List.mem_cons, List.mem_append] at hq
    rcases hq with h1 | h1 | h1 | h1 | h1
    · exact h.lowL q (by simp [lfoot, h1])
    · exact h.lowL q (by simp [lfoot, h1])
    · exact h.lowL q (by simp [lfoot, h1])
    · rcases h6 q h1 with h2 | h2
      · exact h.lowL q (by simp [lfoot, h2])
      · omega
    · rcases h7 q h1 with h2 | h2
      · exact h.lowL q (by simp [lfoot, h2])
      · omega
theorem LG.seal (h : LG w0 W d F S l m v5 v6 v7 T) {F' : List Nat} {S' : Dv} {v5' v6' v7' : Value} {T' : Lg} (hl : LgIn W' l d m v5' v6' v7' T') (hd : DvAt W' d F' S') (hk : Keep (F ++ l :: m :: own v5) W W') (hF : ∀ q ∈ F', q ∈ F ∨ W.heap.size ≤ q) (h5 : ∀ q ∈ own v5', q ∈ own v5 ∨ W.heap.size ≤ q) (h6 : ∀ q ∈ own v6', q ∈ own v6) (h7 : ∀ q ∈ own v7', q ∈ own v7) : LG w0 W' d F' S' l m v5' v6' v7' T' := by
  have hs := h.bel.size
  refine ⟨hl, hd, h.bel.trans (hk.below (fun q hq => ?_) hs), fun q hq => ?_, fun q hq => ?_⟩
  · simp only [List.mem_append, List.mem_cons] at hq
    rcases hq with h1 | h1 | h1 | h1
    · exact h.lowF q h1
    · exact h.lowL q (by simp [lfoot, h1])
    · exact h.lowL q (by simp [lfoot, h1])
    · exact h.lowL q (by simp [lfoot, h1])
  · rcases hF q hq with h1 | h1
    · exact h.lowF q h1
    · omega
  · simp only [lfoot, List.mem_cons, List.mem_append] at hq
    rcases hq with h1 | h1 | h1 | h1 | h1
    · exact h.lowL q (by simp [lfoot, h1])
    · exact h.lowL q (by simp [lfoot, h1])
    · rcases h5 q h1 with h2 | h2
      · exact h.lowL q (by simp [lfoot, h2])
      · omega
    · exact h.lowL q (by simp [lfoot, h6 q h1])
    · exact h.lowL q (by simp [lfoot, h7 q h1])
end
def it9 (k : List UInt8) (v : Nat) : It := ⟨k, [118], 0, 0, v⟩
set_option maxHeartbeats 400000 in
theorem it_any (kb : ByteArray) (v : Nat) (w : World) : Calls Try.prog 22 #[.string kb, .int .u64 (v : Int)] w fun e w' => e = .returned (itV kb ⟨#[118]⟩ 0 0 v) ∧ Below w.heap.size w w' := by
  go_enter Try.func22, Try.ntmps22
  go_wp2
  exact bodyPost_ret (v := itV kb ⟨#[118]⟩ 0 0 v) (by simp [results, Try.results22, go_sem, itV]) rfl ⟨rfl, (Below.refl _ _).alloc (Nat.le_refl _) _⟩
theorem it9_ok (k : List UInt8) (v : Nat) (h1 : 1 ≤ k.length) (h2 : k.length ≤ 250) (h3 : 0 < v) (h4 : v < 18446744073709551616) : (it9 k v).fits ∧ (it9 k v).good = true := by
  refine ⟨⟨by show (0 : Nat) < 4294967296; omega, by show -9223372036854775808 ≤ (0 : Int); omega, by show (0 : Int) ≤ 9223372036854775807; omega, h4⟩, (It.good_iff _).2 ⟨h1, h2, by show ([118] : List UInt8).length ≤ 1024; decide, h3⟩⟩
/-- A log that is opened where one region of one item counts. -/
theorem opened_one {T : Lg} {rs : List Rg} {p n : Nat} {x : It} (h1 : rs.map Rg.three = [(p, n, [x])]) (h2 : T.regs = isort rs) (h3 : T.opn = []) (h4 : T.has = hasL (fun _ => none) T.all) : ∃ t, T.all = [t] ∧ t.it = x ∧ T.has = updK (fun _ => none) x.key (some t.pos) ∧ T.items = [x] := by
  have hlen : rs.length = 1 := by have := congrArg List.length h1; simpa using this
  obtain ⟨r, hr0⟩ : ∃ r, rs = [r] := List.length_eq_one_iff.1 hlen
  subst hr0
  simp only [List.map_cons, List.map_nil, List.cons.injEq, and_true, Rg.three, Prod.mk.injEq] at h1
  obtain ⟨_, _, h5⟩ := h1
  have hr : T.regs = [r] := h2
  have ha : T.all = r.ths := by unfold Lg.all; rw [hr, h3]; simp
  have hl2 : r.ths.length = 1 := by have := congrArg List.length h5; simpa using this
  obtain ⟨t, ht⟩ : ∃ t, r.ths = [t] := List.length_eq_one_iff.1 hl2
  rw [ht] at ha h5
  simp only [List.map_cons, List.map_nil, List.cons.injEq, and_true] at h5
  have hh : T.has = updK (fun _ => none) x.key (some t.pos) := by rw [h4, ha]; simp [hasL, h5]
  refine ⟨t, ha, h5, hh, ?_⟩
  unfold Lg.items Lg.hadOf
  rw [ha]
  have : T.cur t = true := by unfold Lg.cur; rw [hh, h5, updK_same]; simp
  simp [this, h5]
end Go.Proofs.Ytbjkahdlejaheaa

/- 'awake'. -/
set_option linter.unusedVariables false
set_option linter.unusedSimpArgs false
set_option maxRecDepth 8000
namespace Go.Proofs.Ytbjkahdlejaheaa
open Go.RowKit Go.Deep Math
theorem enter22 (args : Array Value) (w : World) : (callFunc 22 args).run Try.prog w = .ok (.enter 22 args) w := enters_of Try.func22 (by kernel_rfl) rfl args w
theorem enter24 (args : Array Value) (w : World) : (callFunc 24 args).run Try.prog w = .ok (.enter 24 args) w := enters_of Try.func24 (by kernel_rfl) rfl args w
/-- A variable of the law's: an item in a box, apart from a device and a log's map. -/
theorem box_dev {W W' : World} {X d : Nat} {F : List Nat} {S : Dv} {L : List Value} (h : Blk W X L 36) (hd : DvAt W d F S) (k : Keep F W W') : Blk W' X L 36 := h.same (k.block X h.lt (fun hf => by
  obtain ⟨c, e, h1, h2⟩ := hd.kinds X hf
  exact ty_ne h h1 (by rcases h2 with rfl | rfl | rfl <;> decide) rfl))
theorem on_calm {S : Dv} (h : ∀ c ∈ S.cs, c.last = none) : S.on.cs = S.cs ∧ Calm S.on := ⟨by show settle S.cs [] = _; exact settle_still _ _ h, rfl, rfl⟩
theorem region_one (x : It) (hf : x.fits) (hg : x.good = true) : cnts (put4 (Dv.fresh 8).cs 4 1 x.enc) 0 2 = [(1, 1, [x])] ∧ numTo (put4 (Dv.fresh 8).cs 4 1 x.enc) 0 2 = 1 := by
  have gs := good_sizes hg
  have hl : x.enc.length ≤ 1472 := by rw [x.enc_length]; unfold It.size; omega
  have h0 : forms (put4 (Dv.fresh 8).cs 4 1 x.enc) 0 4 = [] := forms_none 4 (fun j hj => by rw [fm_out (.inl (by omega))]; exact fresh_fm 8 _)
  have hx : lst x.enc = some [x] := by
    have := lst_one [x] (fun y hy => by simp at hy; rw [hy]; exact ⟨hf, hg⟩)
    simpa [encs] using this
  have h1 := cnt_written (cs := put4 (Dv.fresh 8).cs 4 1 x.enc) (base := 4) (n := 1) (by decide) (by decide) hl hx (fun k hk => ⟨none, put4_in _ _ _ _ (by decide) k hk⟩)
  refine ⟨?_, ?_⟩
  · show (([] ++ _) ++ _ : List _) = _
    rw [show cnt (put4 (Dv.fresh 8).cs 4 1 x.enc) (0 + 4 * 0) = none from cnt_none h0, show cnt (put4 (Dv.fresh 8).cs 4 1 x.enc) (0 + 4 * 1) = some (1, [x]) from h1.1]
    rfl
  · show maxNum (maxNum 0 (forms _ 0 4)) (forms _ 4 4) = 1
    rw [h0, h1.2]
    rfl
set_option maxHeartbeats 8000000 in
theorem awake_any (w : World) : Calls Try.prog 8 #[] w fun e w' => e = .returned (.bool true) ∧ Below w.heap.size w w' := by
  have cN := hide (new_law (Below.refl w.heap.size w) 8 (by omega) (by omega))
  go_enter Try.func8, Try.ntmps8
  go_wp2_with fail
  refine cN.out.mono ?_
  rintro e w1 ⟨d, F1, rfl, L1, _⟩
  have hc0 := fresh_cnts 8 0 2
  have cO := hide (open_log sort_one L1.dev rfl 0 2 (by omega) (by omega) (by decide) (by rw [hc0.1]; exact Nat.zero_le _))
  have HL1 := hide L1
  have HC0 := hide hc0
  clear cN L1 hc0
  go_wp2_with fail
  refine cO.out.mono ?_
  rintro e w2 ⟨l, m, v5, T0, S2, rfl, hLg, hS2, hD2, hK2, hlow, hnew, hnod, t1, t2, t3, t4, t5, t6, t7, rs, t8, t9⟩
  have hrs : rs = [] := by
    rw [HC0.out.1] at t8
    exact List.map_eq_nil_iff.1 t8
  have hregs : T0.regs = [] := by rw [t9, hrs]; rfl
  have hnum : T0.num = 0 := by rw [t4, HC0.out.2]
  have hall : T0.all = [] := by unfold Lg.all; rw [hregs, t5]; rfl
  have hcap : T0.cap = 0 := by rw [t6, hall]; rfl
  have hsz1 := HL1.out.bel.size
  have G2 : LG w w2 d F1 S2 l m v5 (.slice none 0 0) (.slice none 0 0) T0 := ⟨hLg, hD2, HL1.out.bel.trans (hK2.below HL1.out.low hsz1), HL1.out.low, fun q hq => Nat.le_trans hsz1 (hlow q hq)⟩
  have hcs2 : S2.cs = (Dv.fresh 8).cs := hS2.cs
  have hcalm2 : Calm S2 := ⟨hS2.armed, hS2.off⟩
  have hlos2 : S2.losses = T0.losses := by rw [t1, hS2.losses]
  have cI1 := hide (it_any ⟨#[97]⟩ 1 w2)
  have HG2 := hide G2
  have ok1 := it9_ok [97] 1 (by decide) (by decide) (by omega) (by omega)
  have ok2 := it9_ok [97] 2 (by decide) (by decide) (by omega) (by omega)
  have HT := hide (And.intro hregs (And.intro hnum (And.intro hcap (And.intro t5 (And.intro t2 (And.intro t3 (And.intro hcs2 (And.intro hcalm2 hlos2))))))))
  have OK1 := hide ok1
  have OK2 := hide ok2
  clear cO hLg hS2 hD2 hK2 hlow hnew hnod t1 t2 t3 t4 t5 t6 t7 t8 t9 hrs hregs hnum hall hcap hsz1 G2 hcs2 hcalm2 hlos2 ok1 ok2 HL1 HC0
  go_wp2_with fail
  refine cI1.out.mono ?_
  rintro e w3 ⟨rfl, b3⟩
  have G3 := HG2.out.below b3
  obtain ⟨r1, r2, r3, r4, r5, r6, r7, r8, r9⟩ := HT.out
  have hcont0 : T0.cont = [] := by unfold Lg.cont; rw [r4]; rfl
  have cP := hide (put_room G3.lg (it9 [97] 1) OK1.out.1 OK1.out.2 (by rw [hcont0]; decide) (by omega) (by rw [r4]; decide))
  have HG3 := hide G3
  have HC0 := hide hcont0
  clear cI1 b3 G3 HG2 r1 r2 r3 r4 r5 r6 r7 r8 r9 hcont0
  go_wp2_with fail
  refine cP.out.mono ?_
  rintro e w4 ⟨rfl, v6, v7, hL4, hK4, h64, h74⟩
  have G4 := HG3.out.put hL4 hK4 h64 h74
  obtain ⟨r1, r2, r3, r4, r5, r6, r7, r8, r9⟩ := HT.out
  obtain ⟨th1, hth1⟩ : ∃ th1 : Th, th1 = ⟨w3.heap.size, 0, it9 [97] 1⟩ := ⟨_, rfl⟩
  rw [← hth1] at G4
  have ho1 : (T0.put th1).opn = [th1] := by show T0.opn ++ [th1] = _; rw [r4]; rfl
  have hc1 : (T0.put th1).cont = (it9 [97] 1).enc := by unfold Lg.cont; rw [ho1, hth1]; simp [encs]
  have hcl1 : (T0.put th1).cont.length = 34 := by rw [hc1, It.enc_length]; rfl
  have hid : idxP 1 (T0.put th1).regs = none := by show idxP 1 T0.regs = none; rw [r1]; rfl
  have cS := hide (seal_log G4.lg G4.dev (by rw [ho1]; simp) r9 (by show T0.num < _; rw [r2]; decide) (by show 1 ≤ T0.regions; rw [r6]; decide) (by show T0.regions ≤ 64; rw [r6]; decide) (by show T0.first ≤ 4096; rw [r5]; decide) (by rw [hcl1]; decide) (by intro h; rw [h] at hcl1; cases hcl1) (by show T0.regs.length ≤ 100; rw [r1]; decide) 1 1 (by show 1 = T0.num + 1; rw [r2]) (by show 1 = 1 % T0.regions; rw [r6])
    (lose_idle G4.lg 1 hid (by show T0.regs.length ≤ 100; rw [r1]; decide)))
  have hbase : (T0.put th1).first + 4 * 1 = 4 := by show T0.first + 4 = 4; rw [r5]
  have hlen8 : S2.cs.length = 8 := by rw [r7]; decide
  have hwr := wr_calm r8 4 1 (by omega) (T0.put th1).cont
  have hlost : (T0.put th1).lost 1 = [] := by unfold Lg.lost; rw [hid]
  have hlose : (T0.put th1).lose 1 = T0.put th1 := by unfold Lg.lose; rw [hid]
  have HG4 := hide G4
  have HTH1 := hide hth1
  have HX := hide (And.intro hbase (And.intro hlen8 (And.intro hwr (And.intro hlost (And.intro hlose (And.intro ho1 hc1))))))
  clear cP hL4 hK4 h64 h74 G4 r1 r2 r3 r4 r5 r6 r7 r8 r9 hth1 ho1 hc1 hcl1 hid hbase hlen8 hwr hlost hlose HG3
  go_wp2_with fail
  refine cS.out.mono ?_
  rintro e w5 ⟨va1, vn1, vc1, v55, F5, hvn1, hrow1, hD5, hK5, hF5, h55, rfl, hend⟩
  obtain ⟨x1, x2, x3, x4, x5, x6, x7⟩ := HX.out
  rw [x1] at hD5 hend ⊢
  rw [x3.1] at hend ⊢
  rcases hend with ⟨h0, _⟩ | ⟨_, hL5⟩
  · exact absurd rfl h0
  have G5 := HG4.out.seal hL5 hD5 hK5 hF5 h55 (fun q hq => by simp [own, Value.ownBlock] at hq) (fun q hq => by simp [own, Value.ownBlock] at hq)
  rw [x5] at G5
  rw [x4] at hvn1
  obtain ⟨S5, hS5⟩ : ∃ S5, S5 = (wrR 4 1 4 S2 (T0.put th1).cont).2 := ⟨_, rfl⟩
  rw [← hS5] at G5 x3
  obtain ⟨T5, hT5⟩ : ∃ T5, T5 = (T0.put th1).sealed v6 1 1 := ⟨_, rfl⟩
  rw [← hT5] at G5
  have ho5 : T5.opn = [] := by rw [hT5]; rfl
  have hc5 : T5.cont = [] := by unfold Lg.cont; rw [ho5]; rfl
  have hcap5 : T5.cap = 1 := by rw [hT5]; show T0.cap + 1 = 1; rw [HT.out.2.2.1]
  have hvn1' : vn1 = 0 := hvn1
  subst hvn1'
  have cI2 := hide (it_any ⟨#[97]⟩ 2 w5)
  have HG5 := hide G5
  have H5 := hide (And.intro x3 (And.intro ho5 (And.intro hc5 hcap5)))
  clear cS hrow1 hD5 hK5 hF5 h55 hL5 x1 x2 x3 x4 x5 x6 x7 G5 hS5 hT5 ho5 hc5 hcap5 hvn1
  go_wp2_with fail
  refine cI2.out.mono ?_
  rintro e w6 ⟨rfl, b6⟩
  have G6 := HG5.out.below b6
  have cP2 := hide (put_room G6.lg (it9 [97] 2) OK2.out.1 OK2.out.2 (by rw [H5.out.2.2.1]; decide) (by rw [H5.out.2.2.2]; decide) (by rw [H5.out.2.1]; decide))
  have HG6 := hide G6
  clear cI2 b6 G6 HG5
  go_wp2_with fail
  refine cP2.out.mono ?_
  rintro e w7 ⟨rfl, v67, v77, hL7, hK7, h67, h77⟩
  have G7 := HG6.out.put hL7 hK7 h67 h77
  obtain ⟨th2, hth2⟩ : ∃ th2 : Th, th2 = ⟨w6.heap.size, 0, it9 [97] 2⟩ := ⟨_, rfl⟩
  rw [← hth2] at G7
  have hth2m : th2 ∈ (T5.put th2).all := List.mem_append.2 (.inr (by show th2 ∈ T5.opn ++ [th2]; simp))
  have hhas2 : (T5.put th2).has [97] = some th2.pos := by show updK T5.has th2.it.key (some th2.pos) [97] = _; rw [hth2]; exact updK_same _ _ _
  have cG := hide (get_some G7.lg [97] (by decide) th2 (G7.lg.ths th2 hth2m) hhas2)
  have ev2 : th2.it.val = .agg #[.string ⟨#[97]⟩, .string ⟨#[118]⟩, .int .u32 0, .int .i64 0, .int .u64 2] := by rw [hth2]; rfl
  rw [ev2] at cG
  have HG7 := hide G7
  have HH2 := hide hhas2
  clear cP2 hL7 hK7 h67 h77 G7 hth2m hhas2 ev2 HG6 hth2
  go_wp2_with fail
  refine cG.out.mono ?_
  rintro e w8 ⟨rfl, b8⟩
  have G8 := HG7.out.below b8
  have G8a := G8.below ((Below.refl _ _).alloc (Nat.le_refl _) (.cells #[.string ⟨#[97]⟩, .string ⟨#[118]⟩, .int .u32 0, .int .i64 0, .int .u64 2] 36))
  have bx1 := Blk.new w8 [.string ⟨#[97]⟩, .string ⟨#[118]⟩, .int .u32 0, .int .i64 0, .int .u64 2] 36
  have cOn := hide (on_at d F5 S5 _ G8a.dev)
  have HG8 := hide G8a
  have BX1 : Hid (Blk (w8.alloc (.cells #[.string ⟨#[97]⟩, .string ⟨#[118]⟩, .int .u32 0, .int .i64 0, .int .u64 2] 36)) w8.heap.size [.string ⟨#[97]⟩, .string ⟨#[118]⟩, .int .u32 0, .int .i64 0, .int .u64 2] 36) := bx1
  clear cG b8 G8 G8a bx1 HG7
  go_wp2_with fail
  refine cOn.out.mono ?_
  rintro e w9 ⟨rfl, F9, hD9, hM9⟩
  have G9 := HG8.out.devTurn hD9 hM9
  have bx9 := box_dev BX1.out HG8.out.dev hM9.keep
  have hs5 := H5.out.1
  have hcs5 : S5.cs = put4 (Dv.fresh 8).cs 4 1 (it9 [97] 1).enc := by rw [hs5.2.1, HT.out.2.2.2.2.2.2.1, HX.out.2.2.2.2.2.2]
  have hon := on_calm (S := S5) (by rw [hcs5]; exact put4_last _ _ _ _)
  have hcs9 : S5.on.cs = put4 (Dv.fresh 8).cs 4 1 (it9 [97] 1).enc := by rw [hon.1, hcs5]
  have hreg := region_one (it9 [97] 1) OK1.out.1 OK1.out.2
  have hlen9 : (0 : Nat) + 4 * 2 ≤ S5.on.cs.length := by rw [hcs9, put4_length]; decide
  have cO2 := hide (open_log sort_one hD9 hon.2.off 0 2 (by omega) (by omega) hlen9 (by rw [hcs9, hreg.1]; decide))
  have HG9 := hide G9
  have BX9 := hide bx9
  have H9 := hide (And.intro hcs9 hreg)
  clear cOn hD9 hM9 G9 bx9 hs5 hcs5 hon hcs9 hreg hlen9 HG8 BX1
  go_wp2_with fail
  refine cO2.out.mono ?_
  rintro e wa ⟨lh, mh, v5h, Th, Sh, rfl, hLh, hSh, hDh, hKh, hlowh, hnewh, hnodh, u1, u2, u3, u4, u5, u6, u7, rsh, u8, u9⟩
  rw [H9.out.1, H9.out.2.1] at u8
  rw [H9.out.1, H9.out.2.2] at u4
  obtain ⟨th, e1, e2, e3, e4⟩ := opened_one u8 u9 u5 u7
  have hLg : LgIn wa l d m v55 v67 v77 (T5.put th2) := HG9.out.lg.dev HG9.out.dev hKh
  have bxa := box_dev BX9.out HG9.out.dev hKh
  have hbela : Below w.heap.size w wa := HG9.out.bel.trans (hKh.below HG9.out.lowF HG9.out.bel.size)
  have hthm : ThAt wa th := hLh.ths th (by rw [e1]; simp)
  have hhas : Th.has [97] = some th.pos := by rw [e3]; exact updK_same _ _ _
  have cG2 := hide (get_some hLh [97] (by decide) th hthm hhas)
  have ev1 : th.it.val = .agg #[.string ⟨#[97]⟩, .string ⟨#[118]⟩, .int .u32 0, .int .i64 0, .int .u64 1] := by rw [e2]; rfl
  rw [ev1] at cG2
  have hlowm : w9.heap.size ≤ mh := hlowh mh (by simp [lfoot])
  have hgm : mh ∉ lblocks l m v55 v67 v77 (T5.put th2) := fun hq => by have := HG9.out.lg.lt mh hq; omega
  have HLh := hide hLh
  have HLg := hide hLg
  have HBa := hide bxa
  have HBEL := hide hbela
  have HE4 := hide e4
  have HU4 := hide u4
  have HGM := hide hgm
  have hx9 : w8.heap.size < w9.heap.size := BX9.out.lt
  have HXM : Hid (w8.heap.size ≠ mh) := by show _ ≠ _; omega
  have hwm : w.heap.size ≤ mh := by have := HG9.out.bel.size; omega
  have HWM := hide hwm
  have hall1 : Th.all.length = 1 := by rw [e1]; rfl
  have hrg1 : Th.regs.length ≤ 100 := by rw [u9]; have := congrArg List.length u8; simp at this; rw [(isort_perm rsh).length_eq]; omega
  have HA1 := hide (And.intro hall1 hrg1)
  clear cO2 hLh hSh hDh hKh hlowh hnewh hnodh u1 u2 u3 u4 u5 u6 u7 u8 u9 e1 e2 e3 e4 hLg bxa hbela hthm hhas ev1 hlowm hgm hx9 hwm hall1 hrg1 HG9 BX9 H9
  go_wp2_with fail
  refine cG2.out.mono ?_
  rintro e wb ⟨rfl, bb⟩
  obtain ⟨wc, hwc⟩ : ∃ wc, wc = wb.alloc (.cells #[.string ⟨#[97]⟩, .string ⟨#[118]⟩, .int .u32 0, .int .i64 0, .int .u64 1] 36) := ⟨_, rfl⟩
  have bc : Below wa.heap.size wa wc := by rw [hwc]; exact bb.trans (((Below.refl wb.heap.size wb).alloc (Nat.le_refl _) _).mono bb.size)
  have hLhc := HLh.out.below bc
  have hLgc := HLg.out.below bc
  have bx1c : Blk wc w8.heap.size _ 36 := HBa.out.same (bc.block _ HBa.out.lt)
  have bx2c : Blk wc wb.heap.size [.string ⟨#[97]⟩, .string ⟨#[118]⟩, .int .u32 0, .int .i64 0, .int .u64 1] 36 := by rw [hwc]; exact Blk.new wb _ 36
  have hbelc := HBEL.out.trans (bc.mono HBEL.out.size)
  have cNu := hide (number_log hLhc)
  rw [HU4.out] at cNu
  have cIt := hide (items_log hLhc (by rw [HA1.out.1]; decide) HA1.out.2)
  rw [HE4.out] at cIt
  have hmb : mh ≠ wb.heap.size := by have h1 := HLh.out.map.lt; have h2 := bb.size; omega
  have C1 := hide (And.intro hLhc (And.intro hLgc (And.intro bx1c (And.intro bx2c (And.intro hbelc hmb)))))
  rw [hwc] at cNu cIt
  have HWC := hide hwc
  clear cG2 bb bc hLhc hLgc bx1c bx2c hbelc hmb hwc HLh HLg HBa HBEL
  go_wp2_with fail
  refine cNu.out.mono ?_
  rintro e wd ⟨rfl, hd⟩
  obtain rfl := hd
  clear cNu
  go_wp2_with fail
  refine cIt.out.mono ?_
  rintro e we ⟨va, vn, vc, rfl, hvn, hrowe, be⟩
  have hvn1 : vn = 1 := hvn
  subst hvn1
  rw [← HWC.out] at be
  have hLhe := C1.out.1.below be
  have hLge := C1.out.2.1.below be
  have cDr := hide (drop_log hLhe [97] (by decide))
  have hb1e : Blk we w8.heap.size [.string ⟨#[97]⟩, .string ⟨#[118]⟩, .int .u32 0, .int .i64 0, .int .u64 2] 36 := C1.out.2.2.1.same (be.block _ C1.out.2.2.1.lt)
  have hb2e : Blk we wb.heap.size [.string ⟨#[97]⟩, .string ⟨#[118]⟩, .int .u32 0, .int .i64 0, .int .u64 1] 36 := C1.out.2.2.2.1.same (be.block _ C1.out.2.2.2.1.lt)
  have hbele := C1.out.2.2.2.2.1.trans (be.mono C1.out.2.2.2.2.1.size)
  have E1 := hide (And.intro hLge (And.intro hb1e (And.intro hb2e hbele)))
  have HMB := hide C1.out.2.2.2.2.2
  clear cIt hvn hrowe be hLhe hLge hb1e hb2e hbele C1
  go_wp2_with fail
  refine cDr.out.mono ?_
  rintro e wf ⟨rfl, hLhf, kf⟩
  have hLgf : LgIn wf l d m v55 v67 v77 (T5.put th2) := E1.out.1.same (fun q hq => kf.block q (E1.out.1.lt q hq) (by
    simp only [List.mem_singleton]
    rintro rfl
    exact HGM.out hq))
  have hb1f : Blk wf w8.heap.size [.string ⟨#[97]⟩, .string ⟨#[118]⟩, .int .u32 0, .int .i64 0, .int .u64 2] 36 := E1.out.2.1.same (kf.block _ E1.out.2.1.lt (by simp only [List.mem_singleton]; exact HXM.out))
  have hb2f : Blk wf wb.heap.size [.string ⟨#[97]⟩, .string ⟨#[118]⟩, .int .u32 0, .int .i64 0, .int .u64 1] 36 := E1.out.2.2.1.same (kf.block _ E1.out.2.2.1.lt (by simp only [List.mem_singleton]; exact Ne.symm HMB.out))
  have hbelf : Below w.heap.size w wf := E1.out.2.2.2.trans (kf.below (fun q hq => by simp only [List.mem_singleton] at hq; subst hq; exact HWM.out) E1.out.2.2.2.size)
  obtain ⟨CX, hCX⟩ : ∃ CX : World → Prop, CX = fun w' => Below wf.heap.size wf w' := ⟨_, rfl⟩
  have DRX : Hid (CX { wf with drawn := wf.drawn + 1 }) := by show CX _; rw [hCX]; exact (Below.refl _ _).drew
  have cB : Hid (∀ w' w2, CX w' → Below w'.heap.size w' w2 → CX w2) := fun w' w2 h1 h2 => by rw [hCX] at h1 ⊢; exact h1.trans (h2.mono h1.size)
  have cX : Hid (∀ w', CX w' → ((w'.cell? ⟨w8.heap.size, 0, none⟩ = some (.string ⟨#[97]⟩) ∧ w'.cell? ⟨w8.heap.size, 1, none⟩ = some (.string ⟨#[118]⟩) ∧ w'.cell? ⟨w8.heap.size, 2, none⟩ = some (.int .u32 0) ∧ w'.cell? ⟨w8.heap.size, 3, none⟩ = some (.int .i64 0) ∧ w'.cell? ⟨w8.heap.size, 4, none⟩ = some (.int .u64 2)) ∧ (w'.cell? ⟨wb.heap.size, 0, none⟩ = some (.string ⟨#[97]⟩) ∧ w'.cell? ⟨wb.heap.size, 1, none⟩ = some (.string ⟨#[118]⟩) ∧ w'.cell? ⟨wb.heap.size, 2, none⟩ = some (.int .u32 0) ∧ w'.cell? ⟨wb.heap.size, 3, none⟩ = some (.int .i64 0) ∧ w'.cell? ⟨wb.heap.size, 4, none⟩ = some (.int .u64 1)) ∧ True)) := fun w' h1 => by
    rw [hCX] at h1
    have q1 := hb1f.same (h1.block _ hb1f.lt)
    have q2 := hb2f.same (h1.block _ hb2f.lt)
    exact ⟨⟨q1.cell (i := 0) rfl, q1.cell (i := 1) rfl, q1.cell (i := 2) rfl, q1.cell (i := 3) rfl, q1.cell (i := 4) rfl⟩, ⟨q2.cell (i := 0) rfl, q2.cell (i := 1) rfl, q2.cell (i := 2) rfl, q2.cell (i := 3) rfl, q2.cell (i := 4) rfl⟩, trivial⟩
  have cMh : Hid (∀ w', CX w' → Calls Try.prog 24 #[.pointer (some ⟨lh, 0, none⟩), .string ⟨#[97]⟩] w' fun e w2 => e = .returned (.bool false) ∧ w2 = w') := fun w' h1 => by
    rw [hCX] at h1
    have := may_log (hLhf.below h1) [97] (by decide)
    rw [show ((Th.drop [97]).has [97]).isSome = false by show (updK Th.has [97] none [97]).isSome = false; rw [updK_same]; rfl] at this
    exact this
  have cMg : Hid (∀ w', CX w' → Calls Try.prog 24 #[.pointer (some ⟨l, 0, none⟩), .string ⟨#[97]⟩] w' fun e w2 => e = .returned (.bool true) ∧ w2 = w') := fun w' h1 => by
    rw [hCX] at h1
    have := may_log (hLgf.below h1) [97] (by decide)
    rw [HH2.out] at this
    exact this
  have HE : Hid (∀ w', CX w' → Below w.heap.size w w') := fun w' h1 => by rw [hCX] at h1; exact hbelf.trans (h1.mono hbelf.size)
  clear hCX hLhf kf hLgf hb1f hb2f hbelf cDr E1
  go_wp2_with fail
  refine wp_region_guard (by kernel_rfl) (by kernel_rfl) (fun jx => ([.int .i64 0, .bool true, .bool true, .int .i64 0, .bool true, .bool true, .bool true, .int .i64 0, .bool true, .bool true, .bool true, .int .i64 0, .bool true, .bool true, .bool true, .agg #[.string ⟨#[97]⟩, .string ⟨#[118]⟩, .int .u32 0, .int .i64 0, .int .u64 2], .agg #[.string ⟨#[97]⟩, .string ⟨#[118]⟩, .int .u32 0, .int .i64 0, .int .u64 2], .bool true, .bool true, .bool true, .int .i64 0, .bool true, .bool true, .bool true, .agg #[.string ⟨#[97]⟩, .string ⟨#[118]⟩, .int .u32 0, .int .i64 0, .int .u64 1], .agg #[.string ⟨#[97]⟩, .string ⟨#[118]⟩, .int .u32 0, .int .i64 0, .int .u64 1], .bool true, .bool true, .bool true, .int .u64 1, .bool true, .bool true, .bool true, .slice va 1 vc, .int .i64 1, .bool true, .bool true, .bool true, .pointer (some ⟨lh, 0, none⟩), .bool false, .bool true, .bool true, .bool true, .pointer (some ⟨l, 0, none⟩), .bool true, .bool true, .bool true] : List Value).getD jx undef) (CX) (size_of (n := 126) (by kernel_rfl) rfl) (DRX.out) ?_ ?_
  · intro jx ox hi w' ev hc hin hout hcst hfn
    have hltx : jx < 47 := by
      have := (Array.getElem?_eq_some_iff.1 hi).1
      simpa using this
    match jx, hltx with
    | 0, _ =>
      simp only [List.getElem?_toArray, List.getElem?_cons_zero, List.getElem?_cons_succ, Option.some.injEq] at hi
      subst hi
      rw [if_pos (by first | rfl | simp [wantV])]
      have e0 : ev (.tmp 6) = .int .i64 0 := hout 6 (by kernel_rfl) (show (6 : Nat) < 126 by decide)
      refine .inl ⟨w', ?_, hc⟩
      show _ = Result.ok (Next.value (.int .i64 0)) w'
      simp [execOp, e0, hcst, go_sem]
    | 1, _ =>
      simp only [List.getElem?_toArray, List.getElem?_cons_zero, List.getElem?_cons_succ, Option.some.injEq] at hi
      subst hi
      rw [if_pos (by first | rfl | simp [wantV])]
      have e0 : ev (.tmp 80) = .int .i64 0 := hin 80 0 ⟨0, .data⟩ (by kernel_rfl) (by simp) rfl rfl (show (80 : Nat) < 126 by decide)
      refine .inl ⟨w', ?_, hc⟩
      show _ = Result.ok (Next.value (.bool true)) w'
      simp [execOp, e0, hcst, go_sem]
    | 2, _ =>
      simp only [List.getElem?_toArray, List.getElem?_cons_zero, List.getElem?_cons_succ, Option.some.injEq] at hi
      subst hi
      rw [if_pos (by first | rfl | simp [wantV])]
      have e0 : ev (.tmp 81) = .bool true := hin 81 1 ⟨1, .data⟩ (by kernel_rfl) (by simp) rfl rfl (show (81 : Nat) < 126 by decide)
      refine .inl ⟨w', ?_, hc⟩
      show _ = Result.ok (Next.value (.bool true)) w'
      simp [execOp, e0, hcst, go_sem]
    | 3, _ =>
      simp only [List.getElem?_toArray, List.getElem?_cons_zero, List.getElem?_cons_succ, Option.some.injEq] at hi
      subst hi
      rw [if_pos (by first | rfl | simp [wantV])]
      have e0 : ev (.tmp 8) = .int .i64 0 := hout 8 (by kernel_rfl) (show (8 : Nat) < 126 by decide)
      refine .inl ⟨w', ?_, hc⟩
      show _ = Result.ok (Next.value (.int .i64 0)) w'
      simp [execOp, e0, hcst, go_sem]
    | 4, _ =>
      simp only [List.getElem?_toArray, List.getElem?_cons_zero, List.getElem?_cons_succ, Option.some.injEq] at hi
      subst hi
      rw [if_pos (by first | rfl | simp [wantV])]
      have e0 : ev (.tmp 83) = .int .i64 0 := hin 83 3 ⟨3, .data⟩ (by kernel_rfl) (by simp) rfl rfl (show (83 : Nat) < 126 by decide)
      refine .inl ⟨w', ?_, hc⟩
      show _ = Result.ok (Next.value (.bool true)) w'
      simp [execOp, e0, hcst, go_sem]
    | 5, _ =>
      simp only [List.getElem?_toArray, List.getElem?_cons_zero, List.getElem?_cons_succ, Option.some.injEq] at hi
      subst hi
      rw [if_pos (by first | rfl | simp [wantV])]
      have e0 : ev (.tmp 82) = .bool true := hin 82 2 ⟨2, .data⟩ (by kernel_rfl) (by simp) rfl rfl (show (82 : Nat) < 126 by decide)
      have e1 : ev (.tmp 84) = .bool true := hin 84 4 ⟨4, .data⟩ (by kernel_rfl) (by simp) rfl rfl (show (84 : Nat) < 126 by decide)
      refine .inl ⟨w', ?_, hc⟩
      show _ = Result.ok (Next.value (.bool true)) w'
      simp [execOp, e0, e1, hcst, go_sem]
    | 6, _ =>
      simp only [List.getElem?_toArray, List.getElem?_cons_zero, List.getElem?_cons_succ, Option.some.injEq] at hi
      subst hi
      rw [if_pos (by first | rfl | simp [wantV])]
      have e0 : ev (.tmp 85) = .bool true := hin 85 5 ⟨5, .data⟩ (by kernel_rfl) (by simp) rfl rfl (show (85 : Nat) < 126 by decide)
      refine .inl ⟨w', ?_, hc⟩
      show _ = Result.ok (Next.value (.bool true)) w'
      simp [execOp, e0, hcst, go_sem]
    | 7, _ =>
      simp only [List.getElem?_toArray, List.getElem?_cons_zero, List.getElem?_cons_succ, Option.some.injEq] at hi
      subst hi
      rw [if_pos (by first | rfl | simp [wantV])]
      have e0 : ev (.tmp 10) = .int .i64 0 := hout 10 (by kernel_rfl) (show (10 : Nat) < 126 by decide)
      refine .inl ⟨w', ?_, hc⟩
      show _ = Result.ok (Next.value (.int .i64 0)) w'
      simp [execOp, e0, hcst, go_sem]
    | 8, _ =>
      simp only [List.getElem?_toArray, List.getElem?_cons_zero, List.getElem?_cons_succ, Option.some.injEq] at hi
      subst hi
      rw [if_pos (by first | rfl | simp [wantV])]
      have e0 : ev (.tmp 87) = .int .i64 0 := hin 87 7 ⟨7, .data⟩ (by kernel_rfl) (by simp) rfl rfl (show (87 : Nat) < 126 by decide)
      refine .inl ⟨w', ?_, hc⟩
      show _ = Result.ok (Next.value (.bool true)) w'
      simp [execOp, e0, hcst, go_sem]
    | 9, _ =>
      simp only [List.getElem?_toArray, List.getElem?_cons_zero, List.getElem?_cons_succ, Option.some.injEq] at hi
      subst hi
      rw [if_pos (by first | rfl | simp [wantV])]
      have e0 : ev (.tmp 86) = .bool true := hin 86 6 ⟨6, .data⟩ (by kernel_rfl) (by simp) rfl rfl (show (86 : Nat) < 126 by decide)
      have e1 : ev (.tmp 88) = .bool true := hin 88 8 ⟨8, .data⟩ (by kernel_rfl) (by simp) rfl rfl (show (88 : Nat) < 126 by decide)
      refine .inl ⟨w', ?_, hc⟩
      show _ = Result.ok (Next.value (.bool true)) w'
      simp [execOp, e0, e1, hcst, go_sem]
    | 10, _ =>
      simp only [List.getElem?_toArray, List.getElem?_cons_zero, List.getElem?_cons_succ, Option.some.injEq] at hi
      subst hi
      rw [if_pos (by first | rfl | simp [wantV])]
      have e0 : ev (.tmp 89) = .bool true := hin 89 9 ⟨9, .data⟩ (by kernel_rfl) (by simp) rfl rfl (show (89 : Nat) < 126 by decide)
      refine .inl ⟨w', ?_, hc⟩
      show _ = Result.ok (Next.value (.bool true)) w'
      simp [execOp, e0, hcst, go_sem]
    | 11, _ =>
      simp only [List.getElem?_toArray, List.getElem?_cons_zero, List.getElem?_cons_succ, Option.some.injEq] at hi
      subst hi
      rw [if_pos (by first | rfl | simp [wantV])]
      have e0 : ev (.tmp 12) = .int .i64 0 := hout 12 (by kernel_rfl) (show (12 : Nat) < 126 by decide)
      refine .inl ⟨w', ?_, hc⟩
      show _ = Result.ok (Next.value (.int .i64 0)) w'
      simp [execOp, e0, hcst, go_sem]
    | 12, _ =>
      simp only [List.getElem?_toArray, List.getElem?_cons_zero, List.getElem?_cons_succ, Option.some.injEq] at hi
      subst hi
      rw [if_pos (by first | rfl | simp [wantV])]
      have e0 : ev (.tmp 91) = .int .i64 0 := hin 91 11 ⟨11, .data⟩ (by kernel_rfl) (by simp) rfl rfl (show (91 : Nat) < 126 by decide)
      refine .inl ⟨w', ?_, hc⟩
      show _ = Result.ok (Next.value (.bool true)) w'
      simp [execOp, e0, hcst, go_sem]
    | 13, _ =>
      simp only [List.getElem?_toArray, List.getElem?_cons_zero, List.getElem?_cons_succ, Option.some.injEq] at hi
      subst hi
      rw [if_pos (by first | rfl | simp [wantV])]
      have e0 : ev (.tmp 90) = .bool true := hin 90 10 ⟨10, .data⟩ (by kernel_rfl) (by simp) rfl rfl (show (90 : Nat) < 126 by decide)
      have e1 : ev (.tmp 92) = .bool true := hin 92 12 ⟨12, .data⟩ (by kernel_rfl) (by simp) rfl rfl (show (92 : Nat) < 126 by decide)
      refine .inl ⟨w', ?_, hc⟩
      show _ = Result.ok (Next.value (.bool true)) w'
      simp [execOp, e0, e1, hcst, go_sem]
    | 14, _ =>
      simp only [List.getElem?_toArray, List.getElem?_cons_zero, List.getElem?_cons_succ, Option.some.injEq] at hi
      subst hi
      rw [if_pos (by first | rfl | simp [wantV])]
      have e0 : ev (.tmp 93) = .bool true := hin 93 13 ⟨13, .data⟩ (by kernel_rfl) (by simp) rfl rfl (show (93 : Nat) < 126 by decide)
      refine .inl ⟨w', ?_, hc⟩
      show _ = Result.ok (Next.value (.bool true)) w'
      simp [execOp, e0, hcst, go_sem]
    | 15, _ =>
      simp only [List.getElem?_toArray, List.getElem?_cons_zero, List.getElem?_cons_succ, Option.some.injEq] at hi
      subst hi
      rw [if_pos (by first | rfl | simp [wantV])]
      have e0 : ev (.tmp 11) = .pointer (some ⟨w8.heap.size, 0, none⟩) := hout 11 (by kernel_rfl) (show (11 : Nat) < 126 by decide)
      refine .inl ⟨w', ?_, hc⟩
      show _ = Result.ok (Next.value (.agg #[.string ⟨#[97]⟩, .string ⟨#[118]⟩, .int .u32 0, .int .i64 0, .int .u64 2])) w'
      obtain ⟨q0, q1, q2, q3, q4⟩ := (cX.out w' hc).1
      simp [execOp, e0, q0, q1, q2, q3, q4, hcst, go_sem]
    | 16, _ =>
      simp only [List.getElem?_toArray, List.getElem?_cons_zero, List.getElem?_cons_succ, Option.some.injEq] at hi
      subst hi
      rw [if_pos (by first | rfl | simp [wantV])]
      refine .inr (.inr ⟨22, #[.string ⟨#[97]⟩, .int .u64 2], ?_, ?_⟩)
      · have ef := hfn 22
        simp [execOp, resolve, invoke, ef, hcst, Result.andThen]
        exact enter22 _ _
      · refine (it_any ⟨#[97]⟩ 2 w').mono ?_
        rintro e w2 ⟨rfl, b2⟩
        exact ⟨rfl, cB.out w' w2 hc b2⟩
    | 17, _ =>
      simp only [List.getElem?_toArray, List.getElem?_cons_zero, List.getElem?_cons_succ, Option.some.injEq] at hi
      subst hi
      rw [if_pos (by first | rfl | simp [wantV])]
      have e0 : ev (.tmp 95) = .agg #[.string ⟨#[97]⟩, .string ⟨#[118]⟩, .int .u32 0, .int .i64 0, .int .u64 2] := hin 95 15 ⟨15, .data⟩ (by kernel_rfl) (by simp) rfl rfl (show (95 : Nat) < 126 by decide)
      have e1 : ev (.tmp 96) = .agg #[.string ⟨#[97]⟩, .string ⟨#[118]⟩, .int .u32 0, .int .i64 0, .int .u64 2] := hin 96 16 ⟨16, .data⟩ (by kernel_rfl) (by simp) rfl rfl (show (96 : Nat) < 126 by decide)
      refine .inl ⟨w', ?_, hc⟩
      show _ = Result.ok (Next.value (.bool true)) w'
      have q := run_eql_items (it9 [97] 2) (it9 [97] 2) w'
      rw [itEq_self] at q
      have q' : (binOp .eql 36 (.agg #[.string ⟨#[97]⟩, .string ⟨#[118]⟩, .int .u32 0, .int .i64 0, .int .u64 2]) (.agg #[.string ⟨#[97]⟩, .string ⟨#[118]⟩, .int .u32 0, .int .i64 0, .int .u64 2])).run Try.prog w' = .ok (.bool true) w' := q
      simp [execOp, e0, e1, hcst, q', Result.andThen, go_sem]
    | 18, _ =>
      simp only [List.getElem?_toArray, List.getElem?_cons_zero, List.getElem?_cons_succ, Option.some.injEq] at hi
      subst hi
      rw [if_pos (by first | rfl | simp [wantV])]
      have e0 : ev (.tmp 94) = .bool true := hin 94 14 ⟨14, .data⟩ (by kernel_rfl) (by simp) rfl rfl (show (94 : Nat) < 126 by decide)
      have e1 : ev (.tmp 97) = .bool true := hin 97 17 ⟨17, .data⟩ (by kernel_rfl) (by simp) rfl rfl (show (97 : Nat) < 126 by decide)
      refine .inl ⟨w', ?_, hc⟩
      show _ = Result.ok (Next.value (.bool true)) w'
      simp [execOp, e0, e1, hcst, go_sem]
    | 19, _ =>
      simp only [List.getElem?_toArray, List.getElem?_cons_zero, List.getElem?_cons_succ, Option.some.injEq] at hi
      subst hi
      rw [if_pos (by first | rfl | simp [wantV])]
      have e0 : ev (.tmp 98) = .bool true := hin 98 18 ⟨18, .data⟩ (by kernel_rfl) (by simp) rfl rfl (show (98 : Nat) < 126 by decide)
      refine .inl ⟨w', ?_, hc⟩
      show _ = Result.ok (Next.value (.bool true)) w'
      simp [execOp, e0, hcst, go_sem]
    | 20, _ =>
      simp only [List.getElem?_toArray, List.getElem?_cons_zero, List.getElem?_cons_succ, Option.some.injEq] at hi
      subst hi
      rw [if_pos (by first | rfl | simp [wantV])]
      have e0 : ev (.tmp 16) = .int .i64 0 := hout 16 (by kernel_rfl) (show (16 : Nat) < 126 by decide)
      refine .inl ⟨w', ?_, hc⟩
      show _ = Result.ok (Next.value (.int .i64 0)) w'
      simp [execOp, e0, hcst, go_sem]
    | 21, _ =>
      simp only [List.getElem?_toArray, List.getElem?_cons_zero, List.getElem?_cons_succ, Option.some.injEq] at hi
      subst hi
      rw [if_pos (by first | rfl | simp [wantV])]
      have e0 : ev (.tmp 100) = .int .i64 0 := hin 100 20 ⟨20, .data⟩ (by kernel_rfl) (by simp) rfl rfl (show (100 : Nat) < 126 by decide)
      refine .inl ⟨w', ?_, hc⟩
      show _ = Result.ok (Next.value (.bool true)) w'
      simp [execOp, e0, hcst, go_sem]
    | 22, _ =>
      simp only [List.getElem?_toArray, List.getElem?_cons_zero, List.getElem?_cons_succ, Option.some.injEq] at hi
      subst hi
      rw [if_pos (by first | rfl | simp [wantV])]
      have e0 : ev (.tmp 99) = .bool true := hin 99 19 ⟨19, .data⟩ (by kernel_rfl) (by simp) rfl rfl (show (99 : Nat) < 126 by decide)
      have e1 : ev (.tmp 101) = .bool true := hin 101 21 ⟨21, .data⟩ (by kernel_rfl) (by simp) rfl rfl (show (101 : Nat) < 126 by decide)
      refine .inl ⟨w', ?_, hc⟩
      show _ = Result.ok (Next.value (.bool true)) w'
      simp [execOp, e0, e1, hcst, go_sem]
    | 23, _ =>
      simp only [List.getElem?_toArray, List.getElem?_cons_zero, List.getElem?_cons_succ, Option.some.injEq] at hi
      subst hi
      rw [if_pos (by first | rfl | simp [wantV])]
      have e0 : ev (.tmp 102) = .bool true := hin 102 22 ⟨22, .data⟩ (by kernel_rfl) (by simp) rfl rfl (show (102 : Nat) < 126 by decide)
      refine .inl ⟨w', ?_, hc⟩
      show _ = Result.ok (Next.value (.bool true)) w'
      simp [execOp, e0, hcst, go_sem]
    | 24, _ =>
      simp only [List.getElem?_toArray, List.getElem?_cons_zero, List.getElem?_cons_succ, Option.some.injEq] at hi
      subst hi
      rw [if_pos (by first | rfl | simp [wantV])]
      have e0 : ev (.tmp 15) = .pointer (some ⟨wb.heap.size, 0, none⟩) := hout 15 (by kernel_rfl) (show (15 : Nat) < 126 by decide)
      refine .inl ⟨w', ?_, hc⟩
      show _ = Result.ok (Next.value (.agg #[.string ⟨#[97]⟩, .string ⟨#[118]⟩, .int .u32 0, .int .i64 0, .int .u64 1])) w'
      obtain ⟨q0, q1, q2, q3, q4⟩ := (cX.out w' hc).2.1
      simp [execOp, e0, q0, q1, q2, q3, q4, hcst, go_sem]
    | 25, _ =>
      simp only [List.getElem?_toArray, List.getElem?_cons_zero, List.getElem?_cons_succ, Option.some.injEq] at hi
      subst hi
      rw [if_pos (by first | rfl | simp [wantV])]
      refine .inr (.inr ⟨22, #[.string ⟨#[97]⟩, .int .u64 1], ?_, ?_⟩)
      · have ef := hfn 22
        simp [execOp, resolve, invoke, ef, hcst, Result.andThen]
        exact enter22 _ _
      · refine (it_any ⟨#[97]⟩ 1 w').mono ?_
        rintro e w2 ⟨rfl, b2⟩
        exact ⟨rfl, cB.out w' w2 hc b2⟩
    | 26, _ =>
      simp only [List.getElem?_toArray, List.getElem?_cons_zero, List.getElem?_cons_succ, Option.some.injEq] at hi
      subst hi
      rw [if_pos (by first | rfl | simp [wantV])]
      have e0 : ev (.tmp 104) = .agg #[.string ⟨#[97]⟩, .string ⟨#[118]⟩, .int .u32 0, .int .i64 0, .int .u64 1] := hin 104 24 ⟨24, .data⟩ (by kernel_rfl) (by simp) rfl rfl (show (104 : Nat) < 126 by decide)
      have e1 : ev (.tmp 105) = .agg #[.string ⟨#[97]⟩, .string ⟨#[118]⟩, .int .u32 0, .int .i64 0, .int .u64 1] := hin 105 25 ⟨25, .data⟩ (by kernel_rfl) (by simp) rfl rfl (show (105 : Nat) < 126 by decide)
      refine .inl ⟨w', ?_, hc⟩
      show _ = Result.ok (Next.value (.bool true)) w'
      have q := run_eql_items (it9 [97] 1) (it9 [97] 1) w'
      rw [itEq_self] at q
      have q' : (binOp .eql 36 (.agg #[.string ⟨#[97]⟩, .string ⟨#[118]⟩, .int .u32 0, .int .i64 0, .int .u64 1]) (.agg #[.string ⟨#[97]⟩, .string ⟨#[118]⟩, .int .u32 0, .int .i64 0, .int .u64 1])).run Try.prog w' = .ok (.bool true) w' := q
      simp [execOp, e0, e1, hcst, q', Result.andThen, go_sem]
    | 27, _ =>
      simp only [List.getElem?_toArray, List.getElem?_cons_zero, List.getElem?_cons_succ, Option.some.injEq] at hi
      subst hi
      rw [if_pos (by first | rfl | simp [wantV])]
      have e0 : ev (.tmp 103) = .bool true := hin 103 23 ⟨23, .data⟩ (by kernel_rfl) (by simp) rfl rfl (show (103 : Nat) < 126 by decide)
      have e1 : ev (.tmp 106) = .bool true := hin 106 26 ⟨26, .data⟩ (by kernel_rfl) (by simp) rfl rfl (show (106 : Nat) < 126 by decide)
      refine .inl ⟨w', ?_, hc⟩
      show _ = Result.ok (Next.value (.bool true)) w'
      simp [execOp, e0, e1, hcst, go_sem]
    | 28, _ =>
      simp only [List.getElem?_toArray, List.getElem?_cons_zero, List.getElem?_cons_succ, Option.some.injEq] at hi
      subst hi
      rw [if_pos (by first | rfl | simp [wantV])]
      have e0 : ev (.tmp 107) = .bool true := hin 107 27 ⟨27, .data⟩ (by kernel_rfl) (by simp) rfl rfl (show (107 : Nat) < 126 by decide)
      refine .inl ⟨w', ?_, hc⟩
      show _ = Result.ok (Next.value (.bool true)) w'
      simp [execOp, e0, hcst, go_sem]
    | 29, _ =>
      simp only [List.getElem?_toArray, List.getElem?_cons_zero, List.getElem?_cons_succ, Option.some.injEq] at hi
      subst hi
      rw [if_pos (by first | rfl | simp [wantV])]
      have e0 : ev (.tmp 17) = .int .u64 1 := hout 17 (by kernel_rfl) (show (17 : Nat) < 126 by decide)
      refine .inl ⟨w', ?_, hc⟩
      show _ = Result.ok (Next.value (.int .u64 1)) w'
      simp [execOp, e0, hcst, go_sem]
    | 30, _ =>
      simp only [List.getElem?_toArray, List.getElem?_cons_zero, List.getElem?_cons_succ, Option.some.injEq] at hi
      subst hi
      rw [if_pos (by first | rfl | simp [wantV])]
      have e0 : ev (.tmp 109) = .int .u64 1 := hin 109 29 ⟨29, .data⟩ (by kernel_rfl) (by simp) rfl rfl (show (109 : Nat) < 126 by decide)
      refine .inl ⟨w', ?_, hc⟩
      show _ = Result.ok (Next.value (.bool true)) w'
      simp [execOp, e0, hcst, go_sem]
    | 31, _ =>
      simp only [List.getElem?_toArray, List.getElem?_cons_zero, List.getElem?_cons_succ, Option.some.injEq] at hi
      subst hi
      rw [if_pos (by first | rfl | simp [wantV])]
      have e0 : ev (.tmp 108) = .bool true := hin 108 28 ⟨28, .data⟩ (by kernel_rfl) (by simp) rfl rfl (show (108 : Nat) < 126 by decide)
      have e1 : ev (.tmp 110) = .bool true := hin 110 30 ⟨30, .data⟩ (by kernel_rfl) (by simp) rfl rfl (show (110 : Nat) < 126 by decide)
      refine .inl ⟨w', ?_, hc⟩
      show _ = Result.ok (Next.value (.bool true)) w'
      simp [execOp, e0, e1, hcst, go_sem]
    | 32, _ =>
      simp only [List.getElem?_toArray, List.getElem?_cons_zero, List.getElem?_cons_succ, Option.some.injEq] at hi
      subst hi
      rw [if_pos (by first | rfl | simp [wantV])]
      have e0 : ev (.tmp 111) = .bool true := hin 111 31 ⟨31, .data⟩ (by kernel_rfl) (by simp) rfl rfl (show (111 : Nat) < 126 by decide)
      refine .inl ⟨w', ?_, hc⟩
      show _ = Result.ok (Next.value (.bool true)) w'
      simp [execOp, e0, hcst, go_sem]
    | 33, _ =>
      simp only [List.getElem?_toArray, List.getElem?_cons_zero, List.getElem?_cons_succ, Option.some.injEq] at hi
      subst hi
      rw [if_pos (by first | rfl | simp [wantV])]
      have e0 : ev (.tmp 18) = .slice va 1 vc := hout 18 (by kernel_rfl) (show (18 : Nat) < 126 by decide)
      refine .inl ⟨w', ?_, hc⟩
      show _ = Result.ok (Next.value (.slice va 1 vc)) w'
      simp [execOp, e0, hcst, go_sem]
    | 34, _ =>
      simp only [List.getElem?_toArray, List.getElem?_cons_zero, List.getElem?_cons_succ, Option.some.injEq] at hi
      subst hi
      rw [if_pos (by first | rfl | simp [wantV])]
      have e0 : ev (.tmp 113) = .slice va 1 vc := hin 113 33 ⟨33, .data⟩ (by kernel_rfl) (by simp) rfl rfl (show (113 : Nat) < 126 by decide)
      refine .inl ⟨w', ?_, hc⟩
      show _ = Result.ok (Next.value (.int .i64 1)) w'
      simp [execOp, e0, hcst, go_sem]
    | 35, _ =>
      simp only [List.getElem?_toArray, List.getElem?_cons_zero, List.getElem?_cons_succ, Option.some.injEq] at hi
      subst hi
      rw [if_pos (by first | rfl | simp [wantV])]
      have e0 : ev (.tmp 114) = .int .i64 1 := hin 114 34 ⟨34, .data⟩ (by kernel_rfl) (by simp) rfl rfl (show (114 : Nat) < 126 by decide)
      refine .inl ⟨w', ?_, hc⟩
      show _ = Result.ok (Next.value (.bool true)) w'
      simp [execOp, e0, hcst, go_sem]
    | 36, _ =>
      simp only [List.getElem?_toArray, List.getElem?_cons_zero, List.getElem?_cons_succ, Option.some.injEq] at hi
      subst hi
      rw [if_pos (by first | rfl | simp [wantV])]
      have e0 : ev (.tmp 112) = .bool true := hin 112 32 ⟨32, .data⟩ (by kernel_rfl) (by simp) rfl rfl (show (112 : Nat) < 126 by decide)
      have e1 : ev (.tmp 115) = .bool true := hin 115 35 ⟨35, .data⟩ (by kernel_rfl) (by simp) rfl rfl (show (115 : Nat) < 126 by decide)
      refine .inl ⟨w', ?_, hc⟩
      show _ = Result.ok (Next.value (.bool true)) w'
      simp [execOp, e0, e1, hcst, go_sem]
    | 37, _ =>
      simp only [List.getElem?_toArray, List.getElem?_cons_zero, List.getElem?_cons_succ, Option.some.injEq] at hi
      subst hi
      rw [if_pos (by first | rfl | simp [wantV])]
      have e0 : ev (.tmp 116) = .bool true := hin 116 36 ⟨36, .data⟩ (by kernel_rfl) (by simp) rfl rfl (show (116 : Nat) < 126 by decide)
      refine .inl ⟨w', ?_, hc⟩
      show _ = Result.ok (Next.value (.bool true)) w'
      simp [execOp, e0, hcst, go_sem]
    | 38, _ =>
      simp only [List.getElem?_toArray, List.getElem?_cons_zero, List.getElem?_cons_succ, Option.some.injEq] at hi
      subst hi
      rw [if_pos (by first | rfl | simp [wantV])]
      have e0 : ev (.tmp 13) = .pointer (some ⟨lh, 0, none⟩) := hout 13 (by kernel_rfl) (show (13 : Nat) < 126 by decide)
      refine .inl ⟨w', ?_, hc⟩
      show _ = Result.ok (Next.value (.pointer (some ⟨lh, 0, none⟩))) w'
      simp [execOp, e0, hcst, go_sem]
    | 39, _ =>
      simp only [List.getElem?_toArray, List.getElem?_cons_zero, List.getElem?_cons_succ, Option.some.injEq] at hi
      subst hi
      rw [if_pos (by first | rfl | simp [wantV])]
      have e0 : ev (.tmp 118) = .pointer (some ⟨lh, 0, none⟩) := hin 118 38 ⟨38, .data⟩ (by kernel_rfl) (by simp) rfl rfl (show (118 : Nat) < 126 by decide)
      refine .inr (.inr ⟨24, #[.pointer (some ⟨lh, 0, none⟩), .string ⟨#[97]⟩], ?_, ?_⟩)
      · have ef := hfn 24
        simp [execOp, resolve, invoke, ef, hcst, e0, Result.andThen]
        exact enter24 _ _
      · refine (cMh.out w' hc).mono ?_
        rintro e w2 ⟨rfl, h2⟩
        rw [h2]
        exact ⟨rfl, hc⟩
    | 40, _ =>
      simp only [List.getElem?_toArray, List.getElem?_cons_zero, List.getElem?_cons_succ, Option.some.injEq] at hi
      subst hi
      rw [if_pos (by first | rfl | simp [wantV])]
      have e0 : ev (.tmp 119) = .bool false := hin 119 39 ⟨39, .data⟩ (by kernel_rfl) (by simp) rfl rfl (show (119 : Nat) < 126 by decide)
      refine .inl ⟨w', ?_, hc⟩
      show _ = Result.ok (Next.value (.bool true)) w'
      simp [execOp, e0, hcst, go_sem]
    | 41, _ =>
      simp only [List.getElem?_toArray, List.getElem?_cons_zero, List.getElem?_cons_succ, Option.some.injEq] at hi
      subst hi
      rw [if_pos (by first | rfl | simp [wantV])]
      have e0 : ev (.tmp 117) = .bool true := hin 117 37 ⟨37, .data⟩ (by kernel_rfl) (by simp) rfl rfl (show (117 : Nat) < 126 by decide)
      have e1 : ev (.tmp 120) = .bool true := hin 120 40 ⟨40, .data⟩ (by kernel_rfl) (by simp) rfl rfl (show (120 : Nat) < 126 by decide)
      refine .inl ⟨w', ?_, hc⟩
      show _ = Result.ok (Next.value (.bool true)) w'
      simp [execOp, e0, e1, hcst, go_sem]
    | 42, _ =>
      simp only [List.getElem?_toArray, List.getElem?_cons_zero, List.getElem?_cons_succ, Option.some.injEq] at hi
      subst hi
      rw [if_pos (by first | rfl | simp [wantV])]
      have e0 : ev (.tmp 121) = .bool true := hin 121 41 ⟨41, .data⟩ (by kernel_rfl) (by simp) rfl rfl (show (121 : Nat) < 126 by decide)
      refine .inl ⟨w', ?_, hc⟩
      show _ = Result.ok (Next.value (.bool true)) w'
      simp [execOp, e0, hcst, go_sem]
    | 43, _ =>
      simp only [List.getElem?_toArray, List.getElem?_cons_zero, List.getElem?_cons_succ, Option.some.injEq] at hi
      subst hi
      rw [if_pos (by first | rfl | simp [wantV])]
      have e0 : ev (.tmp 3) = .pointer (some ⟨l, 0, none⟩) := hout 3 (by kernel_rfl) (show (3 : Nat) < 126 by decide)
      refine .inl ⟨w', ?_, hc⟩
      show _ = Result.ok (Next.value (.pointer (some ⟨l, 0, none⟩))) w'
      simp [execOp, e0, hcst, go_sem]
    | 44, _ =>
      simp only [List.getElem?_toArray, List.getElem?_cons_zero, List.getElem?_cons_succ, Option.some.injEq] at hi
      subst hi
      rw [if_pos (by first | rfl | simp [wantV])]
      have e0 : ev (.tmp 123) = .pointer (some ⟨l, 0, none⟩) := hin 123 43 ⟨43, .data⟩ (by kernel_rfl) (by simp) rfl rfl (show (123 : Nat) < 126 by decide)
      refine .inr (.inr ⟨24, #[.pointer (some ⟨l, 0, none⟩), .string ⟨#[97]⟩], ?_, ?_⟩)
      · have ef := hfn 24
        simp [execOp, resolve, invoke, ef, hcst, e0, Result.andThen]
        exact enter24 _ _
      · refine (cMg.out w' hc).mono ?_
        rintro e w2 ⟨rfl, h2⟩
        rw [h2]
        exact ⟨rfl, hc⟩
    | 45, _ =>
      simp only [List.getElem?_toArray, List.getElem?_cons_zero, List.getElem?_cons_succ, Option.some.injEq] at hi
      subst hi
      rw [if_pos (by first | rfl | simp [wantV])]
      have e0 : ev (.tmp 122) = .bool true := hin 122 42 ⟨42, .data⟩ (by kernel_rfl) (by simp) rfl rfl (show (122 : Nat) < 126 by decide)
      have e1 : ev (.tmp 124) = .bool true := hin 124 44 ⟨44, .data⟩ (by kernel_rfl) (by simp) rfl rfl (show (124 : Nat) < 126 by decide)
      refine .inl ⟨w', ?_, hc⟩
      show _ = Result.ok (Next.value (.bool true)) w'
      simp [execOp, e0, e1, hcst, go_sem]
    | 46, _ =>
      simp only [List.getElem?_toArray, List.getElem?_cons_zero, List.getElem?_cons_succ, Option.some.injEq] at hi
      subst hi
      rw [if_pos (by first | rfl | simp [wantV])]
      have e0 : ev (.tmp 125) = .bool true := hin 125 45 ⟨45, .data⟩ (by kernel_rfl) (by simp) rfl rfl (show (125 : Nat) < 126 by decide)
      refine .inl ⟨w', ?_, hc⟩
      show _ = Result.ok (Next.value (.bool true)) w'
      simp [execOp, e0, hcst, go_sem]
  · intro w7 hc
    simp only [lexF, Act.put, List.setIfInBounds_toArray, List.set_cons_succ, List.set_cons_zero, List.getD_cons_succ, List.getD_cons_zero]
    have HEE := hide (HE.out w7 hc)
    clear hc
    go_wp2
    go_ret
    exact ⟨rfl, HEE.out⟩
end Go.Proofs.Ytbjkahdlejaheaa

/- Open on a new device, and where it may not be. -/
set_option linter.unusedVariables false
set_option linter.unusedSimpArgs false
set_option maxRecDepth 8000
namespace Go.Proofs.Ytbjkahdlejaheaa
open Go.RowKit Go.Deep Math

/-- What is known of a log that was opened on a new device. -/
structure New9 (n first regions : Nat) (S : Dv) (T : Lg) : Prop where
  cs : S.cs = (Dv.fresh n).cs
  calm : Calm S
  losses : S.losses = T.losses
  regs : T.regs = []
  num : T.num = 0
  cap : T.cap = 0
  opn : T.opn = []
  first' : T.first = first
  regions' : T.regions = regions
  has : T.has = fun _ => none
theorem open_new {w0 W : World} {d n : Nat} {F : List Nat} (L : Law w0 d F (Dv.fresh n) W) (first regions : Nat) (h1 : 1 ≤ regions) (h64 : regions ≤ 64) (hin : first + 4 * regions ≤ n) :
    Calls Try.prog 10 #[.pointer (some ⟨d, 0, none⟩), .int .i64 first, .int .i64 regions] W fun e W' => ∃ l m v5 T S', e = .returned (.tuple #[.pointer (some ⟨l, 0, none⟩), .int .i64 0]) ∧ LG w0 W' d F S' l m v5 (.slice none 0 0) (.slice none 0 0) T ∧ New9 n first regions S' T ∧ Keep F W W' := by
  have hc0 := fresh_cnts n first regions
  refine (open_log sort_one L.dev rfl first regions h1 h64 (by simpa [Dv.fresh] using hin) (by rw [hc0.1]; exact Nat.zero_le _)).mono ?_
  rintro e w2 ⟨l, m, v5, T0, S2, rfl, hLg, hS2, hD2, hK2, hlow, hnew, hnod, t1, t2, t3, t4, t5, t6, t7, rs, t8, t9⟩
  have hrs : rs = [] := by
    rw [hc0.1] at t8
    exact List.map_eq_nil_iff.1 t8
  have hregs : T0.regs = [] := by rw [t9, hrs]; rfl
  have hall : T0.all = [] := by unfold Lg.all; rw [hregs, t5]; rfl
  have hsz1 := L.bel.size
  exact ⟨l, m, v5, T0, S2, rfl, ⟨hLg, hD2, L.bel.trans (hK2.below L.low hsz1), L.low, fun q hq => Nat.le_trans hsz1 (hlow q hq)⟩,
    ⟨hS2.cs, ⟨hS2.armed, hS2.off⟩, by rw [t1, hS2.losses], hregs, by rw [t4, hc0.2], by rw [t6, hall]; rfl, t5, t2, t3, by rw [t7, hall]; rfl⟩, hK2⟩
set_option maxHeartbeats 400000 in
theorem open_bad {w : World} {d : Nat} {S : Dv} {F : List Nat} (hD : DvAt w d F S) (first regions : Nat) (h1 : 1 ≤ regions) (h64 : regions ≤ 64) (hin : S.cs.length < first + 4 * regions) (hf : first ≤ 4096) :
    Calls Try.prog 10 #[.pointer (some ⟨d, 0, none⟩), .int .i64 first, .int .i64 regions] w fun e w' => e = .returned (.tuple #[.pointer none, .int .i64 1]) ∧ w' = w := by
  have hm := hD.good.many
  have cP := hide (pages_at hD)
  have q1 : ¬ (first : Int) < 0 := by omega
  have q2 : ¬ (regions : Int) < 1 := by omega
  have q3 : ¬ (64 : Int) < (regions : Int) := by omega
  have q4 : ((S.cs.length : Int) - 4 * (regions : Int)) < (first : Int) := by omega
  have q5 : (S.cs.length : Int) ≤ 4096 := by omega
  clear hD hin hm
  generalize S.cs.length = len at *
  go_enter Try.func10, Try.ntmps10
  go_wp2_with (go_at_call 25; refine cP.out.mono ?_; rintro e w' ⟨rfl, h1⟩; obtain rfl := h1.symm; clear h1)
  go_ret2
  exact ⟨rfl, rfl⟩
end Go.Proofs.Ytbjkahdlejaheaa

/- slices.Delete of one region. -/
set_option linter.unusedVariables false
set_option linter.unusedSimpArgs false
set_option maxRecDepth 8000
namespace Go.Proofs.Ytbjkahdlejaheaa
open Go.RowKit Go.Deep Math

def rg0 : List Value := [.int .i64 0, .int .u64 0, .slice none 0 0]
/-- 'clear(s)', s a slice of one region. -/
theorem run_clear_rg (w : World) (b o c : Nat) (hc : ∀ j, j < 3 → (w.cell? ⟨b, o + j, none⟩).isSome = true) (hf : ∀ j, j < 3 → w.frozen? ⟨b, o + j, none⟩ = false) (ty : TypeId) :
    (Builtin.clear_ #[62] ty #[.slice (some ⟨b, o, none⟩) 1 c]).run Try.prog w = .ok (.tuple #[]) (w.setCells b o rg0) := by
  have hL : (Builtin.zeroCells (Value.agg #[.int .i64 0, .int .u64 0, .slice none 0 0]).cells 1).toList = rg0 := by kernel_rfl
  have h1 : ∀ v ∈ rg0, v.oneCell' = true := by
    intro v hv
    simp only [rg0, List.mem_cons, List.not_mem_nil, or_false] at hv
    rcases hv with rfl | rfl | rfl <;> rfl
  have hst := run_storeCells_cells (P := Try.prog) b o rg0 0 w (by simpa [rg0] using hc) (by simpa [rg0] using hf) h1
  simp only [Nat.add_zero] at hst
  simp [Builtin.clear_, run_underlying Try.underlying62, Try.zeroValue68, hL, hst]
theorem rgs_one (rs : List Rg) (hv : ∀ r ∈ rs, r.v.oneCell' = true) : ∀ u ∈ rgRow rs, u.oneCell' = true := by
  intro u hu
  simp only [rgRow, List.mem_flatMap] at hu
  obtain ⟨x, hx, hu⟩ := hu
  simp only [rgCells, List.mem_cons, List.not_mem_nil, or_false] at hu
  rcases hu with rfl | rfl | rfl
  · rfl
  · rfl
  · exact hv x hx

set_option maxHeartbeats 4000000 in
theorem delete_rg (g n cap i j : Nat) (A C : List Rg) (r : Rg) (pad : List Value) (hn : n = A.length + 1 + C.length) (hi : i = A.length) (hj : j = i + 1) (hn1 : n ≤ 100) (hcap : n ≤ cap) (hm : cap ≤ 9223372036854775807) (hv : ∀ r ∈ C, r.v.oneCell' = true) (w : World) (h : Blk w g (rgRow (A ++ r :: C) ++ pad) 68) :
    Calls Try.prog 49 #[.slice (some ⟨g, 0, none⟩) n cap, .int .i64 (i : Int), .int .i64 (j : Int)] w fun e w' => e = .returned (.slice (some ⟨g, 0, none⟩) (n - 1) cap) ∧ Blk w' g (rgRow (A ++ C) ++ (rg0 ++ pad)) 68 ∧ Keep [g] w w' := by
  obtain ⟨i0, hi0, hp0⟩ := Option.map_eq_some_iff.1 info68
  simp only [Prod.mk.injEq] at hp0
  have hz1 := hp0.2.1
  obtain ⟨news, hnews⟩ : ∃ news, news = rgRow C := ⟨_, rfl⟩
  have hnl : news.length = (n - j) * 3 := by rw [hnews, rgRow_length]; omega
  have e1 : rgRow (A ++ r :: C) ++ pad = rgRow A ++ rgCells r ++ rgRow C ++ pad := by simp [rgRow]
  have hcell : ∀ t, t < n * 3 → (w.cell? ⟨g, t, none⟩).isSome = true ∧ w.frozen? ⟨g, t, none⟩ = false := fun t ht => by
    have hl : t < (rgRow (A ++ r :: C) ++ pad).length := by rw [List.length_append, rgRow_length]; simp; omega
    exact ⟨by rw [h.cell (List.getElem?_eq_getElem hl)]; rfl, h.frozen t⟩
  obtain ⟨ad, hA, hsrc⟩ : ∃ ad : Addr, (if cap = j then some (⟨g, 0, none⟩ : Addr) else some ⟨g, j * 3, none⟩) = some ad ∧ Hid (∀ t u, news[t]? = some u → w.drew.cell? (ad.add t) = some u) := by
    by_cases hc : cap = j
    · refine ⟨⟨g, 0, none⟩, by simp [hc], fun t u hu => ?_⟩
      have h0 : news.length = 0 := by rw [hnl]; omega
      rw [List.length_eq_zero_iff.1 h0] at hu
      simp at hu
    · refine ⟨⟨g, j * 3, none⟩, by simp [hc], fun t u hu => ?_⟩
      rw [Addr.add_lit]
      refine h.cell (i := j * 3 + t) ?_
      rw [e1, List.append_assoc, List.getElem?_append_right (by simp [rgRow_length, rgCells]; omega)]
      rw [← hnews, List.getElem?_append_left (by simp [rgRow_length, rgCells]; have := (List.getElem?_eq_some_iff.1 hu).1; omega)]
      rw [← hu]
      congr 1
      simp [rgRow_length, rgCells]
      omega
  have s1 : Hid (news.length = (n - j) * 3) := hnl
  have s2 : Hid (∀ u ∈ news, u.oneCell' = true) := by rw [hnews]; exact rgs_one C hv
  have s3 : Hid (∀ t, t < news.length → (w.drew.cell? ⟨g, 0 + i * 3 + t, none⟩).isSome = true ∧ w.drew.frozen? ⟨g, 0 + i * 3 + t, none⟩ = false) := by
    intro t ht
    rw [hnl] at ht
    exact hcell (0 + i * 3 + t) (by omega)
  obtain ⟨W1, hW1⟩ : ∃ W1, W1 = w.drew.setCells g (0 + i * 3) news := ⟨_, rfl⟩
  -- the world behind the append
  obtain ⟨T3, hT3, hb1⟩ : ∃ T3 : List Value, T3.length = 3 ∧ Blk W1 g (rgRow (A ++ C) ++ (T3 ++ pad)) 68 := by
    obtain ⟨M, T3, hMT, hM⟩ : ∃ M T3, rgCells r ++ rgRow C = M ++ T3 ∧ M.length = news.length := ⟨(rgCells r ++ rgRow C).take news.length, (rgCells r ++ rgRow C).drop news.length, (List.take_append_drop _ _).symm, by rw [List.length_take]; simp [hnews, rgCells]; omega⟩
    have hT : T3.length = 3 := by
      have := congrArg List.length hMT
      simp [rgCells, hM, hnews] at this
      omega
    refine ⟨T3, hT, ?_⟩
    have h2 : Blk w.drew g (rgRow A ++ M ++ (T3 ++ pad)) 68 := by
      have : rgRow A ++ M ++ (T3 ++ pad) = rgRow (A ++ r :: C) ++ pad := by
        rw [e1, ← List.append_assoc, List.append_assoc (rgRow A) M T3, ← hMT]; simp
      rw [this]
      exact h.same rfl
    have h3 := Blk.sets news (rgRow A) M (T3 ++ pad) w.drew hM h2
    rw [show (rgRow A).length = 0 + i * 3 by rw [rgRow_length]; omega, ← hW1] at h3
    rw [rgRow_append, ← hnews]
    exact h3
  have hcl : ∀ ty, (Builtin.clear_ #[62] ty #[.slice (some ⟨g, (i + (n - j)) * 3, none⟩) 1 (cap - (i + (n - j)))]).run Try.prog W1 = .ok (.tuple #[]) (W1.setCells g ((i + (n - j)) * 3) rg0) := fun ty => by
    have hl : ∀ t, t < 3 → ∃ v, (rgRow (A ++ C) ++ (T3 ++ pad))[(i + (n - j)) * 3 + t]? = some v := fun t ht => ⟨_, List.getElem?_eq_getElem (by rw [List.length_append, rgRow_length]; simp; omega)⟩
    exact run_clear_rg W1 g _ _ (fun t ht => by obtain ⟨v, hv⟩ := hl t ht; rw [hb1.cell hv]; rfl) (fun t ht => hb1.frozen _) ty
  have hfin : Hid (Blk (W1.setCells g ((i + (n - j)) * 3) rg0) g (rgRow (A ++ C) ++ (rg0 ++ pad)) 68) := by
    have h4 := Blk.sets rg0 (rgRow (A ++ C)) T3 pad W1 hT3 (by rw [List.append_assoc]; exact hb1)
    rw [show (rgRow (A ++ C)).length = (i + (n - j)) * 3 by rw [rgRow_length]; simp; omega, List.append_assoc] at h4
    exact h4
  have hkp : Hid (Keep [g] w (W1.setCells g ((i + (n - j)) * 3) rg0)) := by
    rw [hW1]
    exact ((Keep.refl [g] w).drew.setCells (.inl (by simp)) _ _).setCells (.inl (by simp)) _ _
  have hW : Hid (W1 = w.drew.setCells g (0 + i * 3) news) := hW1
  have hic : i ≤ cap := by omega
  have hjc : j ≤ cap := by omega
  have hij : i ≠ j := by omega
  have hij2 : i ≤ j := by omega
  have hjn : j ≤ n := by omega
  have hlen : i + (n - j) = n - 1 := by omega
  have hlt : n - 1 < cap := by omega
  rw [hlen] at hcl hfin hkp
  rw [show (1 : Nat) = n - (n - 1) by omega, show n - (n - (n - 1)) = n - 1 by omega] at hcl
  clear hW1 hb1 hT3 h hcell e1 hnews hnl hp0 hv hn hi hj
  have mixed : Try.prog.follows .mixedOrders = true := rfl
  go_enter Try.func49, Try.ntmps49
  go_wp2_with fail
  go_region_law_o (refine step_append_room rfl (.tmp 22) (.tmp 25) 62 rfl 68 i0 3 Try.underlying62 hi0 hz1 g 0 i cap (by simp [Act.eval, Act.put]) ad (n - j) (cap - j) news (by simp [Act.eval, Act.put]) s1.out hsrc.out s2.out (by omega) s3.out ?_; rw [← hW.out])
  go_wp2
  go_ret
  exact ⟨rfl, hfin.out, hkp.out⟩
end Go.Proofs.Ytbjkahdlejaheaa

/- 'lose', where a region stands in the place. -/
set_option linter.unusedVariables false
set_option linter.unusedSimpArgs false
set_option maxRecDepth 8000
namespace Go.Proofs.Ytbjkahdlejaheaa
open Go.RowKit Go.Deep Math

theorem rg_form {w : World} {base n : Nat} {v : Value} {rs : List Rg} (h : w.ownsRow base 68 3 v n (rgRow rs)) (h0 : 0 < n) : ∃ g cap pad, v = .slice (some ⟨g, 0, none⟩) n cap ∧ base ≤ g ∧ Blk w g (rgRow rs ++ pad) 68 ∧ n ≤ cap ∧ cap ≤ maxLen ∧ (rgRow rs ++ pad).length = cap * 3 := by
  rcases h.2 with ⟨_, h1⟩ | ⟨g, cap, cur, hv, hb, hh, hc, hm, hs, ht⟩
  · omega
  · have e : rgRow rs ++ cur.toList.drop (n * 3) = cur.toList := by rw [← ht, List.take_append_drop]
    refine ⟨g, cap, cur.toList.drop (n * 3), hv, hb, ?_, hc, hm, by rw [e]; simpa using hs⟩
    unfold Blk
    rw [e]
    simpa using hh
theorem rg_of {w : World} {base g cap : Nat} {rs : List Rg} {pad : List Value} (hb : base ≤ g) (h : Blk w g (rgRow rs ++ pad) 68) (hc : rs.length ≤ cap) (hm : cap ≤ maxLen) (hl : (rgRow rs ++ pad).length = cap * 3) : w.ownsRow base 68 3 (.slice (some ⟨g, 0, none⟩) rs.length cap) rs.length (rgRow rs) := by
  refine ⟨rgRow_length rs, .inr ⟨g, cap, (rgRow rs ++ pad).toArray, rfl, hb, h, hc, hm, by simpa using hl, ?_⟩⟩
  rw [List.toList_toArray, ← rgRow_length rs]
  simp
theorem delKeys_some : ∀ (l : List It) (M : List UInt8 → Option (Nat × Nat)) (k : List UInt8) (p : Nat × Nat), delKeys M l k = some p → M k = some p ∧ ∀ x ∈ l, x.key ≠ k
  | [], M, k, p, h => ⟨h, fun x hx => by cases hx⟩
  | y :: l, M, k, p, h => by
    obtain ⟨h1, h2⟩ := delKeys_some l (updK M y.key none) k p h
    by_cases e : k = y.key
    · rw [e, updK_same] at h1; cases h1
    · rw [updK_other _ _ _ _ e] at h1
      exact ⟨h1, fun x hx => by
        rcases List.mem_cons.1 hx with rfl | hx
        · exact Ne.symm e
        · exact h2 x hx⟩
theorem delKeys_take (M : List UInt8 → Option (Nat × Nat)) (l : List It) (i : Nat) (x : It) (h : l[i]? = some x) : delKeys M (l.take (i + 1)) = updK (delKeys M (l.take i)) x.key none := by
  unfold delKeys
  rw [List.take_add_one, h]
  simp
/-- One region less. -/
theorem lose_state {W w5 w' : World} {l d m g n5 c5 : Nat} {v6 v7 : Value} {T1 : Lg} (h : LgIn W l d m (.slice (some ⟨g, 0, none⟩) n5 c5) v6 v7 T1) (rs : List Rg) (ho : w5.ownsRow 0 68 3 (.slice (some ⟨g, 0, none⟩) rs.length c5) rs.length (rgRow rs)) (hk : Keep [g] W w5)
    (hsub : ∀ r ∈ rs, r ∈ T1.regs) (hat : ∀ k p, T1.has k = some p → ∃ t ∈ rs.flatMap Rg.ths ++ T1.opn, t.pos = p ∧ t.it.key = k) (hw : w' = w5.setCell ⟨l, 5, none⟩ (.slice (some ⟨g, 0, none⟩) rs.length c5)) :
    LgIn w' l d m (.slice (some ⟨g, 0, none⟩) rs.length c5) v6 v7 { T1 with regs := rs } ∧ Keep [l, g] W w' := by
  have hown : ∀ {q : Nat} {c : Array Value} {e : TypeId}, W.heap[q]? = some (.cells c e (0, 0)) → e ≠ 68 → q ∉ [g] := fun {q c e} hq hne hm => by
    simp only [List.mem_singleton] at hm
    subst hm
    exact own_notin h.sld hq hne (by simp [own, Value.ownBlock])
  have hl : Blk w5 l (lgCells d m (.slice (some ⟨g, 0, none⟩) n5 c5) v6 v7 T1) 65 := h.box.same (hk.block l h.box.lt (hown h.box (by decide)))
  have hset : ∀ q, q ≠ l → w'.heap[q]? = w5.heap[q]? := fun q hq => by rw [hw]; exact blk_setCell_other _ ⟨l, 5, none⟩ _ q hq
  have sm : ∀ {q : Nat} {c : Array Value} {e : TypeId}, W.heap[q]? = some (.cells c e (0, 0)) → e ≠ 68 → e ≠ 65 → w'.heap[q]? = W.heap[q]? := fun {q c e} hq h1 h2 =>
    (hset q (ty_ne hq h.box h2)).trans (hk.block q (Array.getElem?_eq_some_iff.1 hq).1 (hown hq h1))
  have hall : ∀ t, t ∈ rs.flatMap Rg.ths ++ T1.opn → t ∈ T1.all := fun t ht => by
    rcases List.mem_append.1 ht with h1 | h1
    · obtain ⟨r, hr, ht⟩ := List.mem_flatMap.1 h1
      exact mem_all_regs (hsub r hr) ht
    · exact List.mem_append.2 (.inr h1)
  constructor
  · refine ⟨?_, ?_, fun x hx => ?_, own_same h.opn (fun q hq => ?_), own_same h.cont (fun q hq => ?_), h.map.same ?_, fun t ht => ?_, fun x hx q hq => h.apart x (hsub x hx) q hq, hat⟩
    · rw [hw]; exact hl.set 5 _
    · refine own_same ho (fun q hq => hset q ?_)
      obtain ⟨c, hc⟩ := own_ty ho hq
      exact ty_ne hc hl (by decide)
    · refine own_same (h.rows x (hsub x hx)) (fun q hq => ?_)
      obtain ⟨c, hc⟩ := own_ty (h.rows x (hsub x hx)) hq; exact sm hc (by decide) (by decide)
    · obtain ⟨c, hc⟩ := own_ty h.opn hq; exact sm hc (by decide) (by decide)
    · obtain ⟨c, hc⟩ := own_ty h.cont hq; exact sm hc (by decide) (by decide)
    · refine (hset m (Ne.symm (h.notM h.box))).trans (hk.block m h.map.lt (fun hm => ?_))
      simp only [List.mem_singleton] at hm
      obtain ⟨c, hc⟩ := own_ty h.sld (q := g) rfl
      exact h.notM hc hm.symm
    · have ht' := h.ths t (hall t ht)
      obtain ⟨c, hc⟩ := ht'.ty
      exact ht'.same (sm hc (by decide) (by decide))
  · rw [hw]
    exact (hk.mono (fun q hq => .inl (by simp only [List.mem_singleton] at hq; simp [hq]))).setCell (.inl (by simp)) _
section
variable {w : World} {l d m : Nat} {v5 v6 v7 : Value} {T : Lg}
set_option maxHeartbeats 8000000 in
theorem lose_at (h : LgIn w l d m v5 v6 v7 T) (P i : Nat) (hP : idxP P T.regs = some i) (hr : T.regs.length ≤ 100) (hbig : T.all.length ≤ 40000) :
    Calls Try.prog 33 #[.pointer (some ⟨l, 0, none⟩), .int .i64 (P : Int)] w (LosePost w l d m v5 v6 v7 T P) := by
  have hi : i < T.regs.length := by
    have := hP
    unfold idxP at this
    exact (List.findIdx?_eq_some_iff_getElem.1 this).1
  obtain ⟨r, hri⟩ : ∃ r, T.regs[i]? = some r := ⟨_, List.getElem?_eq_getElem hi⟩
  obtain ⟨A, C, hAC, hAi⟩ : ∃ A C, T.regs = A ++ r :: C ∧ A.length = i := by
    obtain ⟨hi, he⟩ := List.getElem?_eq_some_iff.1 hri
    refine ⟨T.regs.take i, T.regs.drop (i + 1), ?_, by simp; omega⟩
    rw [← he, ← List.drop_eq_getElem_cons hi, List.take_append_drop]
  have hmem := List.mem_of_getElem? hri
  have hlost : T.lost P = T.hadOf r.ths := by unfold Lg.lost; rw [hP]; simp [hri]
  have hlose : T.lose P = { T with regs := A ++ C, has := delKeys T.has (T.hadOf r.ths) } := by
    unfold Lg.lose
    rw [hP]
    simp only
    rw [hlost, hAC, ← hAi, List.eraseIdx_append_of_length_le (Nat.le_refl _)]
    simp
  have hA := h.alloc (.cells #[.int .i64 (P : Int)] 3)
  obtain ⟨g, c5, pad0, rfl, _, _, _, _, _⟩ := rg_form h.sld (by omega)
  have k5 := hA.box.cell (i := 5) rfl
  have hBx := (Blk.new w [.int .i64 (P : Int)] 3).cell (i := 0) rfl
  have cI := hide (index9 (some ⟨g, 0, none⟩) T.regs.length c5 T.regs P w.heap.size hr _ hA.sld hBx)
  obtain ⟨ra, rc, hrv⟩ := own_slice (h.rows r hmem)
  have hths : r.ths.length ≤ 40000 := by
    have h1 := flat_len T.regs hmem
    have : T.all.length = (T.regs.flatMap Rg.ths).length + T.opn.length := by unfold Lg.all; rw [List.length_append]
    omega
  have H := hide h
  have HA := hide hA
  have HP := hide hP
  have HRI := hide hri
  have HAC := hide hAC
  have HAI := hide hAi
  have HM := hide hmem
  have HLT := hide hlost
  have HLS := hide hlose
  have HRV := hide hrv
  have HTH := hide hths
  have HHL := hide (Nat.le_trans (hadOf_length T r.ths) hths)
  have HR := hide hr
  have HI := hide hi
  have B0 := hide ((Below.refl w.heap.size w).alloc (Nat.le_refl _) (.cells #[.int .i64 (P : Int)] 3))
  clear h hA hBx hP hri hAC hAi hmem hlost hlose hrv hths hbig
  obtain ⟨n5, hn5⟩ : ∃ n5, n5 = T.regs.length := ⟨_, rfl⟩
  rw [← hn5] at k5 cI hr hi
  have HN5 := hide hn5
  clear hn5
  go_enter Try.func33, Try.ntmps33
  go_wp2_with fail
  refine cI.out.mono ?_
  rintro e w2 ⟨⟨k, rfl, hk⟩, b2⟩
  have hL2 := HA.out.below b2
  have hBB := B0.out.trans (b2.mono (by rw [nblk_alloc]; omega))
  rcases hk with ⟨_, hk⟩ | ⟨i', rfl, hk⟩
  · rw [HP.out] at hk; cases hk
  obtain rfl : i' = i := by rw [HP.out] at hk; exact (Option.some.inj hk).symm
  obtain ⟨_, _, hv, k0, k1, k2, _, hnc⟩ := rg_cell hL2.sld HRI.out
  simp only [Value.slice.injEq, Option.some.injEq, Addr.mk.injEq, and_true, true_and] at hv
  obtain ⟨rfl, rfl⟩ := hv
  have j5 := hL2.box.cell (i := 5) rfl
  have hrow := hL2.rows r HM.out
  rw [HRV.out] at k2 hrow
  have cH := hide (had_any hL2 w.heap.size (fun q hq => H.out.lt q hq) hBB.size none 0 0 [] (Row.nil _ _) ra _ rc r.ths hrow (fun t ht => mem_all_regs HM.out ht) (fun q hq => List.mem_append.2 (.inr (List.mem_append.2 (.inl (List.mem_flatMap.2 ⟨r, HM.out, by rw [HRV.out]; exact hq⟩))))) (by have := HTH.out; simp; omega))
  rw [← HN5.out] at j5 hnc
  have L2 := hide hL2
  have BB := hide hBB
  have hi2 : (i' : Int) < (n5 : Int) := by omega
  have hi3 : (n5 : Int) ≤ 100 := by omega
  clear hk hL2 hBB hrow b2 cI k5
  generalize r.ths.length = rn at *
  generalize (r.place : Int) = rp at *
  generalize (r.num : Int) = rnum at *
  go_wp2_with fail
  refine cH.out.mono ?_
  rintro e w3 ⟨va, vn, vc, rfl, hrow3, hk3, _⟩
  rw [List.nil_append] at hrow3
  have hL3 : LgIn w3 l d m (.slice (some ⟨g, 0, none⟩) T.regs.length c5) v6 v7 T := L2.out.same (fun q hq => hk3.block q (L2.out.lt q hq) (by simp [own, Value.ownBlock]))
  have hK3 : Keep [m] w w3 := (Keep.of_below BB.out).trans hk3 (fun q hq => by simp [own, Value.ownBlock] at hq)
  obtain ⟨xs, hxs⟩ : ∃ xs, xs = T.hadOf r.ths := ⟨_, rfl⟩
  rw [← hxs] at hrow3
  have hvn : vn = xs.length := by obtain ⟨_, _, he⟩ := hrow3.sl; simp only [Value.slice.injEq] at he; exact he.2.1
  have hoks : Oks xs := fun x hx => by
    rw [hxs] at hx
    unfold Lg.hadOf at hx
    obtain ⟨t, ht, rfl⟩ := List.mem_map.1 hx
    have := L2.out.ths t (mem_all_regs HM.out (List.mem_filter.1 ht).1)
    exact ⟨this.fits, this.key, this.val⟩
  have hvn4 : vn ≤ 40000 := by
    have h1 := HHL.out
    rw [hvn, hxs]; exact h1
  have HXS := hide hxs
  have HVN := hide hvn
  have HOK := hide hoks
  have S3 := hide (And.intro hrow3 (And.intro hL3 hK3))
  clear hrow3 hL3 hK3 hk3 cH k0 k1 k2 j5 hxs hvn hoks
  go_wp2_with fail
  go_loopg [29] vn (fun kx s29 wr => ∃ j : Nat, s29 = .int .i64 j ∧ j ≤ vn ∧ vn - j ≤ kx ∧ Hid (Row wr w.heap.size (.slice va vn vc) xs ∧ LgIn wr l d m (.slice (some ⟨g, 0, none⟩) T.regs.length c5) v6 v7 { T with has := delKeys T.has (xs.take j) } ∧ Keep [m] w wr))
  case atStart => exact ⟨0, rfl, Nat.zero_le _, by omega, S3.out⟩
  case round =>
    obtain ⟨j, rfl, hjn, hg, I⟩ := hrel
    by_cases hlt : j < vn
    · have hlt2 : (j : Int) < (vn : Int) := by omega
      obtain ⟨x, hx⟩ : ∃ x, xs[j]? = some x := ⟨_, List.getElem?_eq_getElem (by rw [← HVN.out]; exact hlt)⟩
      obtain ⟨a0, cap0, he0, hI, _, hcap0, _⟩ := I.out.1.its HOK.out
      simp only [Value.slice.injEq] at he0
      obtain ⟨rfl, _, rfl⟩ := he0
      obtain ⟨gb, go, rfl, hgw, hc⟩ := hI.cell j x hx
      obtain ⟨c0, c1, c2, c3, c4⟩ := hc.vals
      have hok := HOK.out x (List.mem_of_getElem? hx)
      obtain ⟨W6, hW6⟩ : ∃ W6, W6 = wr.alloc (.cells #[.string (txt x.key), .string (txt x.value), .int .u32 x.flags, .int .i64 x.exp, .int .u64 x.ver] 36) := ⟨_, rfl⟩
      have b6 : Below wr.heap.size wr W6 := by rw [hW6]; exact (Below.refl _ _).alloc (Nat.le_refl _) _
      have hL6 := (I.out.2.1.below b6).heap (w' := W6.drew) rfl
      have bk6 : Blk W6 wr.heap.size [.string (txt x.key), .string (txt x.value), .int .u32 x.flags, .int .i64 x.exp, .int .u64 x.ver] 36 := by rw [hW6]; exact Blk.new wr _ 36
      obtain ⟨W7, hdel, hm7, hkp7, _⟩ := hL6.map.drop x.key (Nat.le_trans hok.2.1 (by decide)) 0
      have hL7 := hL6.mapTurn hm7 hkp7 (fun y p hy => by
        by_cases e : y = x.key
        · rw [e, updK_same] at hy; cases hy
        · rw [updK_other _ _ _ _ e] at hy; exact hL6.hasAt y p hy)
      have g8 : W6.drew.cell? ⟨l, 8, none⟩ = some (.map (some m)) := hL6.box.cell (i := 8) rfl
      have bx0 : W6.drew.cell? ⟨wr.heap.size, 0, none⟩ = some (.string (txt x.key)) := bk6.cell (i := 0) rfl
      have HW6D : Hid ((wr.alloc (.cells #[.string (txt x.key), .string (txt x.value), .int .u32 x.flags, .int .i64 x.exp, .int .u64 x.ver] 36)).drew = W6.drew) := by show _ = _; rw [hW6]
      have k6d : Keep [m] w W6.drew := (I.out.2.2.trans (Keep.of_below (F := []) b6) (fun q hq => by cases hq)).drew
      have hmlt : m < w.heap.size := H.out.map.lt
      have S7 : Hid (Row W7 w.heap.size (.slice (some ⟨gb, go, none⟩) vn vc) xs ∧ LgIn W7 l d m (.slice (some ⟨g, 0, none⟩) T.regs.length c5) v6 v7 { T with has := delKeys T.has (xs.take (j + 1)) } ∧ Keep [m] w W7) := by
        refine ⟨(I.out.1.below b6).keep (fun q hq => ?_), ?_, k6d.trans hkp7 (fun q hq => .inl hq)⟩
        · have h1 := (I.out.1.below b6).lt q hq
          exact hkp7.block q h1.2 (fun hm => by simp only [List.mem_singleton] at hm; omega)
        · rw [delKeys_take _ _ _ _ hx]; exact hL7
      clear hW6 b6 hL6 bk6 hm7 hkp7 hL7 k6d hI hc hx hok hcap0
      generalize txt x.key = kb at *
      generalize txt x.value = vb at *
      obtain ⟨CC, hCC⟩ : ∃ CC : Nat → World → Prop, CC = fun s w' => match s with
        | 0 => w' = W6.drew
        | _ => w' = W7 := ⟨_, rfl⟩
      have DR : Hid (CC 0 (wr.alloc (.cells #[.string kb, .string vb, .int .u32 x.flags, .int .i64 x.exp, .int .u64 x.ver] 36)).drew) := by show CC 0 _; rw [hCC]; exact HW6D.out
      have cS : Hid (∀ s w', CC s w' → s ≤ 0 → w'.cell? ⟨l, 8, none⟩ = some (.map (some m)) ∧ w'.cell? ⟨wr.heap.size, 0, none⟩ = some (.string kb)) := fun s w' hw hs => by
        rw [hCC] at hw
        match s, hs with
        | 0, _ => simp only at hw; subst hw; exact ⟨g8, bx0⟩
      have cX : Hid (∀ w', CC 0 w' → CC 1 W7 ∧ (Builtin.delete_ #[61, 9] 0 #[.map (some m), .string kb]).run Try.prog w' = .ok (.tuple #[]) W7) := fun w' hw => by
        rw [hCC] at hw ⊢
        simp only at hw ⊢
        subst hw
        refine ⟨?_, hdel⟩
        first | rfl | trivial
      have HE : Hid (∀ w', CC 1 w' → w' = W7) := fun w' hw => by rw [hCC] at hw; exact hw
      clear hCC HW6D g8 bx0 hdel
      go_wp2_with fail
      refine wp_region_chain (by kernel_rfl) (by kernel_rfl) (fun jx => ([.pointer (some ⟨l, 0, none⟩), .pointer (some ⟨l, 0, none⟩), .pointer (some ⟨l, 8, none⟩), .map (some m), .pointer (some ⟨wr.heap.size, 0, none⟩), .string kb, .tuple #[]] : List Value).getD jx undef) [6] (by kernel_rfl) (CC) (DR.out) ?_ ?_
      · intro jx ox hi sx w' ev hlm hks hc hin hout hcst hfn
        have hltx : jx < 7 := by
          have := (Array.getElem?_eq_some_iff.1 hi).1
          simpa using this
        match jx, hltx with
        | 0, _ =>
          simp only [List.getElem?_toArray, List.getElem?_cons_zero, List.getElem?_cons_succ, Option.some.injEq] at hi
          subst hi
          have e0 : ev (.tmp 0) = .pointer (some ⟨l, 0, none⟩) := hout 0 (by kernel_rfl) (show (0 : Nat) < 52 by decide)
          rw [if_neg (by decide)]
          refine .inl ⟨w', ?_, hc⟩
          show _ = Result.ok (Next.value (.pointer (some ⟨l, 0, none⟩))) w'
          simp [execOp, e0, hcst, go_sem]
        | 1, _ =>
          simp only [List.getElem?_toArray, List.getElem?_cons_zero, List.getElem?_cons_succ, Option.some.injEq] at hi
          subst hi
          have e0 : ev (.tmp 33) = .pointer (some ⟨l, 0, none⟩) := hin 33 0 ⟨0, .data⟩ (by kernel_rfl) (by simp) rfl rfl (show (33 : Nat) < 52 by decide)
          rw [if_neg (by decide)]
          refine .inl ⟨w', ?_, hc⟩
          show _ = Result.ok (Next.value (.pointer (some ⟨l, 0, none⟩))) w'
          simp [execOp, e0, hcst, go_sem]
        | 2, _ =>
          simp only [List.getElem?_toArray, List.getElem?_cons_zero, List.getElem?_cons_succ, Option.some.injEq] at hi
          subst hi
          have e0 : ev (.tmp 34) = .pointer (some ⟨l, 0, none⟩) := hin 34 1 ⟨1, .data⟩ (by kernel_rfl) (by simp) rfl rfl (show (34 : Nat) < 52 by decide)
          rw [if_neg (by decide)]
          refine .inl ⟨w', ?_, hc⟩
          show _ = Result.ok (Next.value (.pointer (some ⟨l, 8, none⟩))) w'
          simp [execOp, e0, hcst, go_sem]
        | 3, _ =>
          simp only [List.getElem?_toArray, List.getElem?_cons_zero, List.getElem?_cons_succ, Option.some.injEq] at hi
          subst hi
          have e0 : ev (.tmp 35) = .pointer (some ⟨l, 8, none⟩) := hin 35 2 ⟨2, .data⟩ (by kernel_rfl) (by simp) rfl rfl (show (35 : Nat) < 52 by decide)
          rw [if_neg (by decide)]
          refine .inl ⟨w', ?_, hc⟩
          show _ = Result.ok (Next.value (.map (some m))) w'
          have hl2 : sx ≤ 0 := Nat.le_trans hlm (Nat.le_of_eq (by kernel_rfl))
          have q := (cS.out sx w' hc (by omega)).1
          simp [execOp, e0, q, hcst, go_sem]
        | 4, _ =>
          simp only [List.getElem?_toArray, List.getElem?_cons_zero, List.getElem?_cons_succ, Option.some.injEq] at hi
          subst hi
          have e0 : ev (.tmp 8) = .pointer (some ⟨wr.heap.size, 0, none⟩) := hout 8 (by kernel_rfl) (show (8 : Nat) < 52 by decide)
          rw [if_neg (by decide)]
          refine .inl ⟨w', ?_, hc⟩
          show _ = Result.ok (Next.value (.pointer (some ⟨wr.heap.size, 0, none⟩))) w'
          simp [execOp, e0, hcst, go_sem]
        | 5, _ =>
          simp only [List.getElem?_toArray, List.getElem?_cons_zero, List.getElem?_cons_succ, Option.some.injEq] at hi
          subst hi
          have e0 : ev (.tmp 37) = .pointer (some ⟨wr.heap.size, 0, none⟩) := hin 37 4 ⟨4, .data⟩ (by kernel_rfl) (by simp) rfl rfl (show (37 : Nat) < 52 by decide)
          rw [if_neg (by decide)]
          refine .inl ⟨w', ?_, hc⟩
          show _ = Result.ok (Next.value (.string kb)) w'
          have hl2 : sx ≤ 0 := Nat.le_trans hlm (Nat.le_of_eq (by kernel_rfl))
          have q := (cS.out sx w' hc (by omega)).2
          simp [execOp, e0, q, hcst, go_sem]
        | 6, _ =>
          simp only [List.getElem?_toArray, List.getElem?_cons_zero, List.getElem?_cons_succ, Option.some.injEq] at hi
          subst hi
          have e0 : ev (.tmp 36) = .map (some m) := hin 36 3 ⟨3, .data⟩ (by kernel_rfl) (by simp) rfl rfl (show (36 : Nat) < 52 by decide)
          have e1 : ev (.tmp 38) = .string kb := hin 38 5 ⟨5, .data⟩ (by kernel_rfl) (by simp) rfl rfl (show (38 : Nat) < 52 by decide)
          rw [if_pos (by decide)]
          have hsx : sx = 0 := hks 0 rfl
          subst hsx
          have q := cX.out w' hc
          refine .inl ⟨W7, ?_, q.1⟩
          have hdl := q.2
          simp [execOp, e0, e1, hcst, resolve, invoke, builtin, hdl, Result.andThen]
      · intro w9 hc
        simp only [lexF, Act.put, List.setIfInBounds_toArray, List.set_cons_succ, List.set_cons_zero, List.getD_cons_succ, List.getD_cons_zero]
        obtain rfl := HE.out w9 hc
        clear hc DR cS cX HE c0 c1 c2 c3 c4
        go_wp2
        go_roundg (vn - (j + 1))
        case measure => omega
        case rel => exact ⟨j + 1, rfl, by omega, by omega, S7.out⟩
    · obtain rfl : j = vn := by omega
      have hlt2 : ¬ (j : Int) < (j : Int) := by omega
      have I' := I.out
      rw [HVN.out, List.take_length] at I'
      obtain ⟨hrow4, hL4, hK4⟩ := I'
      have j5 := hL4.box.cell (i := 5) rfl
      have hsl := hL4.sld
      obtain ⟨g', cap', pad, hv', _, hblk, hnc', hmx, hlen⟩ := rg_form hsl (show 0 < T.regs.length by have := HI.out; omega)
      simp only [Value.slice.injEq, Option.some.injEq, Addr.mk.injEq, and_true, true_and] at hv'
      obtain ⟨rfl, rfl⟩ := hv'
      have hblk' : Blk wr g (rgRow (A ++ r :: C) ++ pad) 68 := by have := hblk; rw [show ({ T with has := delKeys T.has xs } : Lg).regs = A ++ r :: C from HAC.out] at this; exact this
      have hlen' : (rgRow (A ++ r :: C) ++ pad).length = c5 * 3 := by have := hlen; rw [show ({ T with has := delKeys T.has xs } : Lg).regs = A ++ r :: C from HAC.out] at this; exact this
      have hnl : n5 = A.length + 1 + C.length := by rw [HN5.out, HAC.out]; simp; omega
      have cD := hide (delete_rg g n5 c5 i' (i' + 1) A C r pad hnl HAI.out.symm rfl hr (by rw [HN5.out]; exact hnc') (Nat.le_trans hmx (by decide)) (fun x hx => by
        obtain ⟨xa, xc, hxv⟩ := own_slice (hL4.rows x (show x ∈ T.regs by rw [HAC.out]; simp [hx]))
        rw [hxv]; rfl) wr hblk')
      rw [show ((i' + 1 : Nat) : Int) = (i' : Int) + 1 from rfl] at cD
      rw [← HN5.out] at j5
      have S4 := hide (And.intro hrow4 (And.intro hL4 (And.intro hK4 hlen')))
      have HNL := hide hnl
      have HMX := hide hmx
      clear hrow4 hL4 hK4 hsl hblk hblk' hlen hlen' hnl hmx I
      go_wp2_with fail
      refine cD.out.mono ?_
      rintro e w5 ⟨rfl, hb5, hk5⟩
      have e5 : n5 - 1 = (A ++ C).length := by have := HNL.out; rw [List.length_append]; omega
      have ho5 : w5.ownsRow 0 68 3 (.slice (some ⟨g, 0, none⟩) (A ++ C).length c5) (A ++ C).length (rgRow (A ++ C)) := by
        refine rg_of (Nat.zero_le _) hb5 (by omega) HMX.out ?_
        have h1 := S4.out.2.2.2
        rw [List.length_append, rgRow_length] at h1 ⊢
        simp [rg0] at h1 ⊢
        omega
      have hmA : ∀ x ∈ A ++ C, x ∈ T.regs := fun x hx => by rw [HAC.out]; rcases List.mem_append.1 hx with h1 | h1 <;> simp [h1]
      have hbl : Blk w5 l (lgCells d m (.slice (some ⟨g, 0, none⟩) T.regs.length c5) v6 v7 { T with has := delKeys T.has xs }) 65 := S4.out.2.1.box.same (hk5.block l S4.out.2.1.box.lt (fun hm => by
        simp only [List.mem_singleton] at hm
        exact own_notin S4.out.2.1.sld S4.out.2.1.box (by decide) (by rw [hm]; simp [own, Value.ownBlock])))
      have q5 := hbl.cell (i := 5) rfl
      have z5 := hbl.frozen 5
      obtain ⟨f1, f2⟩ := lose_state S4.out.2.1 (A ++ C) ho5 hk5 hmA (fun k p hkp => by
        obtain ⟨h1, h2⟩ := delKeys_some xs T.has k p hkp
        obtain ⟨t, ht, hp, hkey⟩ := H.out.hasAt k p h1
        refine ⟨t, ?_, hp, hkey⟩
        by_cases hin : t ∈ r.ths
        · exact absurd hkey (h2 t.it (by
            rw [HXS.out]
            exact List.mem_map.2 ⟨t, List.mem_filter.2 ⟨hin, by unfold Lg.cur; rw [hkey, h1, hp]; simp⟩, rfl⟩))
        · unfold Lg.all at ht
          rw [HAC.out] at ht
          simp only [List.flatMap_append, List.flatMap_cons, List.mem_append] at ht ⊢
          rcases ht with (h3 | h3 | h3) | h3
          · exact .inl (.inl h3)
          · exact absurd h3 hin
          · exact .inl (.inr h3)
          · exact .inr h3) (w' := w5.setCell ⟨l, 5, none⟩ (.slice (some ⟨g, 0, none⟩) (A ++ C).length c5)) rfl
      have TT : Hid (LosePost w l d m (.slice (some ⟨g, 0, none⟩) T.regs.length c5) v6 v7 T P (.returned (.slice va j vc)) (w5.setCell ⟨l, 5, none⟩ (.slice (some ⟨g, 0, none⟩) (n5 - 1) c5))) := by
        rw [e5]
        have hgl : g < w.heap.size := own_lt H.out.sld g (by simp [own, Value.ownBlock])
        have hll : l < w.heap.size := H.out.box.lt
        refine ⟨va, j, vc, .slice (some ⟨g, 0, none⟩) (A ++ C).length c5, rfl, by rw [HLT.out, ← HXS.out]; exact HVN.out, ?_, ?_, ?_, fun q hq => hq⟩
        · rw [HLT.out, ← HXS.out]
          have hrw := S4.out.1
          rw [← HVN.out] at hrw
          refine hrw.keep (fun q hq => f2.block q (hrw.lt q hq).2 (fun hm => ?_))
          have h1 := (hrw.lt q hq).1
          simp only [List.mem_cons, List.not_mem_nil, or_false] at hm
          rcases hm with rfl | rfl <;> omega
        · rw [HLS.out, ← HXS.out]; exact f1
        · refine (S4.out.2.2.1.mono (fun q hq => .inl ?_)).trans f2 (fun q hq => .inl ?_)
          · simp only [List.mem_singleton] at hq; simp [hq]
          · simp only [List.mem_cons, List.not_mem_nil, or_false] at hq
            rcases hq with rfl | rfl <;> simp [own, Value.ownBlock]
      rw [← HN5.out] at q5
      clear cD hb5 hk5 e5 ho5 hmA hbl f1 f2 S4
      go_wp2
      go_ret
      rw [HN5.out] at *
      exact TT.out
end
theorem lose_any {w : World} {l d m : Nat} {v5 v6 v7 : Value} {T : Lg} (h : LgIn w l d m v5 v6 v7 T) (P : Nat) (hr : T.regs.length ≤ 100) (hbig : T.all.length ≤ 40000) (q : Nat) :
    Calls Try.prog 33 #[.pointer (some ⟨l, 0, none⟩), .int .i64 (P : Int)] (w.drewN q) (LosePost w l d m v5 v6 v7 T P) := by
  cases hP : idxP P T.regs with
  | none => exact lose_idle h P hP hr q
  | some i => exact (lose_at (w := w.drewN q) (h.heap rfl) P i hP hr hbig).mono (fun e w' hp => hp.ofDrew)
end Go.Proofs.Ytbjkahdlejaheaa

/- Put where there is no room: it seals first. -/
set_option linter.unusedVariables false
set_option linter.unusedSimpArgs false
set_option maxRecDepth 8000
namespace Go.Proofs.Ytbjkahdlejaheaa
open Go.RowKit Go.Deep Math

def PutPost (w : World) (l d m : Nat) (v5 v6 v7 : Value) (T : Lg) (S : Dv) (F : List Nat) (place n : Nat) (x : It) (e : Ending) (w' : World) : Prop :=
  ∃ va vn vc v5' F', vn = (T.lost place).length ∧ Row w' w.heap.size (.slice va vn vc) (T.lost place) ∧ DvAt w' d F' (wrR (T.first + 4 * place) n 4 S T.cont).2 ∧ Keep (F ++ l :: m :: own v5) w w' ∧ (∀ q ∈ F', q ∈ F ∨ w.heap.size ≤ q) ∧ (∀ q ∈ own v5', q ∈ own v5 ∨ w.heap.size ≤ q) ∧
    e = .returned (.tuple #[.slice va vn vc, .int .i64 (wrR (T.first + 4 * place) n 4 S T.cont).1]) ∧
    (((wrR (T.first + 4 * place) n 4 S T.cont).1 ≠ 0 ∧ LgIn w' l d m v5' v6 v7 (T.lose place)) ∨
     ((wrR (T.first + 4 * place) n 4 S T.cont).1 = 0 ∧ ∃ v6' v7', LgIn w' l d m v5' v6' v7' (((T.lose place).sealed v6 place n).put ⟨w.heap.size, 0, x⟩) ∧ (∀ q ∈ own v6', w.heap.size ≤ q) ∧ (∀ q ∈ own v7', w.heap.size ≤ q)))
set_option maxHeartbeats 8000000 in
theorem put_full {w : World} {l d m : Nat} {v5 v6 v7 : Value} {T : Lg} {S : Dv} {F : List Nat} (h : LgIn w l d m v5 v6 v7 T) (hD : DvAt w d F S) (x : It) (hf : x.fits) (hg : x.good = true) (hfull : 1472 < T.cont.length + x.size) (hcap : T.cap < 1000000)
    (hopn : T.opn ≠ []) (hloss : S.losses = T.losses) (hnum : T.num < 18446744073709551615) (hreg1 : 1 ≤ T.regions) (hreg : T.regions ≤ 64) (hfi : T.first ≤ 4096) (hcl : T.cont.length ≤ 1472) (hcne : T.cont ≠ []) (hrl : T.regs.length ≤ 100) (hbig : T.all.length ≤ 40000)
    (place n : Nat) (hn : n = T.num + 1) (hpl : place = n % T.regions) :
    Calls Try.prog 11 #[.pointer (some ⟨l, 0, none⟩), x.val] w (PutPost w l d m v5 v6 v7 T S F place n x) := by
  have SEAL : Hid (∀ W, Below w.heap.size w W → Calls Try.prog 12 #[.pointer (some ⟨l, 0, none⟩)] W (SealPost W l d m v5 v6 v7 T S F place n)) := fun W b =>
    seal_log (h.below b) (hD.below b) hopn hloss hnum hreg1 hreg hfi hcl hcne hrl place n hn hpl (lose_any (h.below b) place hrl hbig)
  have HD0 := hide hD
  have HFULL := hide hfull
  have HCL0 := hide hcl
  clear hD hopn hloss hnum hreg1 hreg hfi hcne hrl hbig hn hpl
  have gs := good_sizes hg
  have hsz : x.size = 32 + x.key.length + x.value.length := rfl
  obtain ⟨A, hA⟩ : ∃ A, A = w.alloc (.cells #[.string (txt x.key), .string (txt x.value), .int .u32 x.flags, .int .i64 x.exp, .int .u64 x.ver] 36) := ⟨_, rfl⟩
  have bA : Below w.heap.size w A := by rw [hA]; exact (Below.refl _ _).alloc (Nat.le_refl _) _
  have hszA : A.heap.size = w.heap.size + 1 := by rw [hA, nblk_alloc]
  have bkA : Blk A w.heap.size (itCells x) 36 := by rw [hA]; exact Blk.new w (itCells x) 36
  have tA : ThAt A ⟨w.heap.size, 0, x⟩ := ⟨hf, by show x.key.length ≤ _; omega, by show x.value.length ≤ _; omega, ⟨_, bkA⟩, bkA.cell (i := 0) rfl, bkA.cell (i := 1) rfl, bkA.cell (i := 2) rfl, bkA.cell (i := 3) rfl, bkA.cell (i := 4) rfl⟩
  have cP := hide (rput_ok x hf hg A)
  have EV : Hid (x.val = .agg #[.string (txt x.key), .string (txt x.value), .int .u32 x.flags, .int .i64 x.exp, .int .u64 x.ver]) := rfl
  rw [EV.out] at cP ⊢
  have H := hide h
  have HF := hide hf
  have HCAP := hide hcap
  have BA := hide bA
  have SZA := hide hszA
  have TA := hide tA
  have BKA := hide bkA
  have GS := hide gs
  have HSZ := hide hsz
  have hsz2 : (x.size : Int) ≤ 1472 := by omega
  clear h hf hg hcap bA hszA tA bkA gs hsz EV
  subst hA
  go_enter Try.func11, Try.ntmps11
  go_wp2_with fail
  refine cP.out.mono ?_
  rintro e w2 ⟨g, rfl, hg0, hbuf, b2⟩
  have bW : Below w.heap.size w w2 := BA.out.trans (b2.mono (by rw [SZA.out]; omega))
  have hL1 := H.out.below bW
  have t1 : ThAt w2 ⟨w.heap.size, 0, x⟩ := TA.out.same (b2.block _ TA.out.lt)
  have hbs1 : BS w2 (some ⟨g, 0, none⟩) x.size x.size x.enc := buf_bs hbuf (x.enc_length).symm (Nat.le_refl _)
  obtain ⟨a7, c7, hv7⟩ := own_slice hL1.cont
  have k7 := hL1.box.cell (i := 7) rfl
  rw [hv7] at k7
  have cSl := hide (SEAL.out w2 bW)
  have BW := hide bW
  have T1 := hide t1
  have HBS1 := hide hbs1
  have HG0 := hide hg0
  have q1 : ¬ (1472 : Int) < (x.size : Int) := by omega
  have q2 : ((1472 : Int) - (T.cont.length : Int)) < (x.size : Int) := by have := HFULL.out; omega
  have q3 : (T.cont.length : Int) ≤ 1472 := by have := HCL0.out; omega
  clear bW hL1 t1 hbs1 hg0 hbuf b2 cP hv7 SEAL hfull hcl
  generalize T.cont.length = n7 at k7 q2 q3
  obtain ⟨xs, hxs⟩ : ∃ xs, xs = x.size := ⟨_, rfl⟩
  rw [← hxs] at q1 q2 hsz2 ⊢
  have HXS := hide hxs
  clear hxs
  go_wp2_with fail
  refine cSl.out.mono ?_
  rintro e w1 ⟨va, vn, vc, v5', F', hvn, hrow, hDs, hKs, hFs, h5s, rfl, hend⟩
  have exs := HXS.out
  subst exs
  clear cSl k7 q1 q2 q3 HXS
  have hszW := BW.out.size
  have SVN := hide hvn
  have SR : Hid (Row w1 w.heap.size (.slice va vn vc) (T.lost place)) := hrow.mono hszW
  have SD := hide hDs
  have SK : Hid (Keep (F ++ l :: m :: own v5) w w1) := (Keep.of_below BW.out).trans hKs (fun q hq => .inl hq)
  have SF : Hid (∀ q ∈ F', q ∈ F ∨ w.heap.size ≤ q) := fun q hq => by
    rcases hFs q hq with h1 | h1
    · exact .inl h1
    · exact .inr (Nat.le_trans hszW h1)
  have S5 : Hid (∀ q ∈ own v5', q ∈ own v5 ∨ w.heap.size ≤ q) := fun q hq => by
    rcases h5s q hq with h1 | h1
    · exact .inl h1
    · exact .inr (Nat.le_trans hszW h1)
  have hlow : ∀ q ∈ F ++ l :: m :: own v5, q < w.heap.size := fun q hq => by
    simp only [List.mem_append, List.mem_cons] at hq
    rcases hq with h1 | h1 | h1 | h1
    · exact HD0.out.lt q h1
    · rw [h1]; exact H.out.box.lt
    · rw [h1]; exact H.out.map.lt
    · exact own_lt H.out.sld q h1
  have t2 : ThAt w1 ⟨w.heap.size, 0, x⟩ := T1.out.same (hKs.block _ T1.out.lt (fun hm => by have := hlow _ hm; simp at this))
  have HT2b := hide t2
  have HBS : Hid (BS w1 (some ⟨g, 0, none⟩) x.size x.size x.enc) := by
    have hgl := HG0.out
    have hx0 := HSZ.out
    have hsA := SZA.out
    exact HBS1.out.same (hKs.block g (HBS1.out.glt (by omega)) (fun hm => by have := hlow g hm; omega))
  obtain ⟨er, her⟩ : ∃ er, er = (wrR (T.first + 4 * place) n 4 S T.cont).1 := ⟨_, rfl⟩
  rw [← her] at hend ⊢
  have HER := hide her
  clear hvn hrow hDs hKs hFs h5s hlow her t2 T1 HBS1
  rcases hend with ⟨h0, hLs⟩ | ⟨h0, hLs⟩
  · have he : (er != 0) = true := by rw [bne_iff_ne]; exact h0
    have HE := hide (And.intro h0 hLs)
    clear h0 hLs
    go_wp2
    go_ret2
    exact ⟨va, vn, vc, v5', F', SVN.out, SR.out, SD.out, SK.out, SF.out, S5.out, by rw [← HER.out]; rfl, .inl ⟨by rw [← HER.out]; exact HE.out.1, HE.out.2⟩⟩
  subst h0
  obtain ⟨T2, hT2⟩ : ∃ T2, T2 = (T.lose place).sealed v6 place n := ⟨_, rfl⟩
  rw [← hT2] at hLs
  have hc2 : T2.cont = [] := by rw [hT2]; rfl
  have ho2 : T2.opn = [] := by rw [hT2]; rfl
  have hcap2 : T2.cap < 1000000 := by rw [hT2]; show (T.lose place).cap < _; rw [(lose_same T place).2.2.2.2.2.1]; exact HCAP.out
  obtain ⟨v6s, v7s, hL2, ho6, ho7⟩ : ∃ v6s v7s, LgIn w1 l d m v5' v6s v7s T2 ∧ own v6s = [] ∧ own v7s = [] := ⟨_, _, hLs, rfl, rfl⟩
  have t2 := HT2b.out
  have HROOM : Hid (T2.cont.length + x.size ≤ 1472) := by show _ ≤ _; rw [hc2]; simp; omega
  have HCAP2 := hide hcap2
  have HOP : Hid (T2.opn.length ≤ 1000) := by show _ ≤ _; rw [ho2]; simp
  have HT2 := hide hT2
  clear hLs hc2 ho2 hcap2 hT2
  obtain ⟨a7, c7, rfl⟩ := own_slice hL2.cont
  obtain ⟨a6, c6, rfl⟩ := own_slice hL2.opn
  have HO6 := hide ho6
  have HO7 := hide ho7
  clear ho6 ho7
  have hbs : BS w1 (some ⟨g, 0, none⟩) x.size x.size x.enc := HBS.out
  obtain ⟨ua7, uc7, w3, hrun7, hrow7, hkp7, hblk7⟩ := app_bytes hL2.cont hbs (by have := HROOM.out; omega) (Nat.zero_le _)
  have hl3 : Blk w3 l (lgCells d m v5' (.slice a6 T2.opn.length c6) (.slice a7 T2.cont.length c7) T2) 65 := hL2.box.same (hkp7.block l hL2.box.lt (own_notin hL2.cont hL2.box (by decide)))
  have hl4 := hl3.set 7 (.slice ua7 (T2.cont.length + x.size) uc7)
  obtain ⟨W4, hW4⟩ : ∃ W4, w3.setCell ⟨l, 7, none⟩ (.slice ua7 (T2.cont.length + x.size) uc7) = W4 := ⟨_, rfl⟩
  rw [hW4] at hl4
  have h64 : W4.ownsRow 0 71 1 (.slice a6 T2.opn.length c6) T2.opn.length (ptrCells T2.opn) := own_same hL2.opn (fun q hq => by
    obtain ⟨c, hc⟩ := own_ty hL2.opn hq
    rw [← hW4]
    refine (blk_setCell_other w3 ⟨l, 7, none⟩ _ q (ty_ne hc hL2.box (by decide))).trans ?_
    exact hkp7.block q (Array.getElem?_eq_some_iff.1 hc).1 (own_notin hL2.cont hc (by decide)))
  obtain ⟨ua6, uc6, w5, hrun6, hrow6, hkp6, hblk6, hsz6⟩ := app_ptr h64 (.pointer (some ⟨w.heap.size, 0, none⟩)) rfl (by have := HOP.out; omega) (Nat.zero_le _)
  have hkp6' : Keep (own (.slice a6 T2.opn.length c6)) (w3.setCell ⟨l, 7, none⟩ (.slice ua7 (T2.cont.length + x.size) uc7)) w5 := by rw [hW4]; exact hkp6
  obtain ⟨hm6, ht6, hl5⟩ := put_mid (v6' := .slice ua6 (T2.opn.length + 1) uc6) hL2 ⟨w.heap.size, 0, x⟩ t2 hkp7 hkp6'
  obtain ⟨W6, hW6⟩ : ∃ W6, w5.setCell ⟨l, 6, none⟩ (.slice ua6 (T2.opn.length + 1) uc6) = W6 := ⟨_, rfl⟩
  have hl6 := hl5.set 6 (.slice ua6 (T2.opn.length + 1) uc6)
  rw [hW6] at hm6 ht6 hl6
  have hm6d : MapAt W6.drew m T2.cap T2.has := hm6.same rfl
  obtain ⟨W7, hupd0, hmap7, hkp7m, _⟩ := hm6d.store x.key (by have := GS.out; unfold maxLen; omega) HCAP2.out (w.heap.size, 0)
  have hupd : (Instr.mapUpdate 61 (.map (some m)) (.string (txt x.key)) (.pointer (some ⟨w.heap.size, 0, none⟩))).run Try.prog W6.drew = .ok () W7 := hupd0
  have k7m : Keep [m] (w5.setCell ⟨l, 6, none⟩ (.slice ua6 (T2.opn.length + 1) uc6)) W7 := by
    rw [hW6]
    exact ((Keep.refl [m] W6).drew).trans hkp7m (fun q hq => .inl hq)
  have hb6 : ∀ q ∈ own (.slice ua6 (T2.opn.length + 1) uc6), q ∈ own (.slice a6 T2.opn.length c6) ∨ w1.heap.size ≤ q := fun q hq => by
    rcases hblk6 q hq with h1 | h1
    · exact .inl h1
    · refine .inr (Nat.le_trans hkp7.size ?_)
      rw [← hW4, nblk_setCell] at h1
      exact h1
  have TT : Hid (PutPost w l d m v5 v6 v7 T S F place n x (.returned (.tuple #[.slice va vn vc, .int .i64 0])) W7) := by
    have e7 : (T2.cont ++ x.enc).length = T2.cont.length + x.size := by rw [List.length_append, x.enc_length]
    obtain ⟨f1, f2⟩ := put_state (v7' := .slice ua7 (T2.cont.length + x.size) uc7) (v6' := .slice ua6 (T2.opn.length + 1) uc6) hL2 ⟨w.heap.size, 0, x⟩ t2 (by simp only; rw [e7]; exact hrow7) hkp7 hrow6 hkp6' hb6 hmap7 k7m
    have hown0 : ∀ q ∈ own (.slice a6 T2.opn.length c6), False := fun q hq => by rw [HO6.out] at hq; cases hq
    have hown1 : ∀ q ∈ own (.slice a7 T2.cont.length c7), False := fun q hq => by rw [HO7.out] at hq; cases hq
    have hk : Keep (F ++ l :: m :: own v5) w W7 := SK.out.trans f2 (fun q hq => by
      simp only [List.mem_cons, List.mem_append] at hq ⊢
      rcases hq with h1 | h1 | h1 | h1
      · exact .inl (.inr (.inl h1))
      · exact .inl (.inr (.inr (.inl h1)))
      · exact absurd h1 (fun h => hown0 q h)
      · exact absurd h1 (fun h => hown1 q h))
    refine ⟨va, vn, vc, v5', F', SVN.out, SR.out.keep (fun q hq => f2.block q (SR.out.lt q hq).2 (fun hm => ?_)), SD.out.same (fun q hq => f2.block q (SD.out.lt q hq) (fun hm => ?_)), hk, SF.out, S5.out, by rw [← HER.out], .inr ⟨HER.out.symm, .slice ua6 (T2.opn.length + 1) uc6, .slice ua7 (T2.cont.length + x.size) uc7, ?_, fun q hq => ?_, fun q hq => ?_⟩⟩
    · have h1 := (SR.out.lt q hq).1
      simp only [List.mem_cons, List.mem_append] at hm
      rcases hm with h2 | h2 | h2 | h2
      · have := H.out.box.lt; omega
      · have := H.out.map.lt; omega
      · exact hown0 q h2
      · exact hown1 q h2
    · simp only [List.mem_cons, List.mem_append] at hm
      refine hL2.off SD.out q (List.mem_append.2 (.inl ?_)) hq
      simp only [lfoot, List.mem_cons, List.mem_append]
      rcases hm with h2 | h2 | h2 | h2
      · exact .inl h2
      · exact .inr (.inl h2)
      · exact absurd h2 (fun h => hown0 q h)
      · exact absurd h2 (fun h => hown1 q h)
    · rw [← HT2.out]; exact f1
    · rcases hb6 q hq with h1 | h1
      · exact absurd h1 (fun h => hown0 q h)
      · have := SK.out.size; omega
    · rcases hblk7 q hq with h1 | h1
      · exact absurd h1 (fun h => hown1 q h)
      · have := SK.out.size; omega
  have k7 := hL2.box.cell (i := 7) rfl
  have c7c := hl3.cell (i := 7) rfl
  have f7c := hl3.frozen 7
  have c64 : (w3.setCell ⟨l, 7, none⟩ (.slice ua7 (T2.cont.length + x.size) uc7)).cell? ⟨l, 6, none⟩ = some (.slice a6 T2.opn.length c6) := by rw [hW4]; exact hl4.cell (i := 6) rfl
  have c65 := hl5.cell (i := 6) rfl
  have f65 := hl5.frozen 6
  have g8 : W6.drew.cell? ⟨l, 8, none⟩ = some (.map (some m)) := hl6.cell (i := 8) rfl
  have bx0 : W6.drew.cell? ⟨w.heap.size, 0, none⟩ = some (.string (txt x.key)) := ht6.one.c0
  have HR7 := hide hrun7
  have hrun6' : ∀ ty, (Builtin.append_ #[63, 63] ty #[.slice a6 T2.opn.length c6, .slice (some ⟨w3.heap.size, 0, none⟩) 1 1]).run Try.prog ((w3.setCell ⟨l, 7, none⟩ (.slice ua7 (T2.cont.length + x.size) uc7)).alloc (.cells #[.pointer (some ⟨w.heap.size, 0, none⟩)] 71)) = .ok (.slice ua6 (T2.opn.length + 1) uc6) w5 := by
    have e : w3.heap.size = W4.heap.size := by rw [← hW4, nblk_setCell]
    rw [hW4, e]
    exact hrun6
  have HR6 := hide hrun6'
  have HW6D : Hid ((w5.setCell ⟨l, 6, none⟩ (.slice ua6 (T2.opn.length + 1) uc6)).drew = W6.drew) := by show _ = _; rw [hW6]
  have q1 : ¬ (1472 : Int) < (x.size : Int) := by omega
  have q2 : ¬ ((1472 : Int) - (T2.cont.length : Int)) < (x.size : Int) := by have := HROOM.out; omega
  have q3 : (T2.cont.length : Int) ≤ 1472 := by have := HROOM.out; omega
  clear hrun6 hrun6' hrun7 hrow7 hkp7 hblk7 hl3 hl4 hl5 hl6 hrow6 hkp6 hkp6' hblk6 hsz6 hm6 ht6 hm6d hupd0 hmap7 hkp7m k7m hb6 hL2 t2 hbs h64 hW4 hW6
  obtain ⟨n7, hn7⟩ : ∃ n7, n7 = T2.cont.length := ⟨_, rfl⟩
  rw [← hn7] at k7 c7c c64 HR7 HR6 q2 q3
  clear hn7
  obtain ⟨n6, hn6⟩ : ∃ n6, n6 = T2.opn.length := ⟨_, rfl⟩
  rw [← hn6] at c64 c65 HR6 HW6D
  clear hn6
  generalize x.size = xn at *
  generalize txt x.key = kb at *
  go_wp2_with (at_builtin; first
    | refine Lib.wpList_append_run _ rfl _ _ _ _ rfl _ _ rfl rfl _ _ (HR7.out _) ?_
    | refine Lib.wpList_append_run _ rfl _ _ _ _ rfl _ _ rfl rfl _ _ (HR6.out _) ?_)
  refine wp_region_last (by kernel_rfl) (by kernel_rfl) (fun jx => ([.pointer (some ⟨l, 0, none⟩), .pointer (some ⟨l, 0, none⟩), .pointer (some ⟨l, 8, none⟩), .map (some m), .pointer (some ⟨w.heap.size, 0, none⟩), .string kb, undef] : List Value).getD jx undef) 6 (by decide) (by kernel_rfl) (fun w' => w' = W6.drew) (fun w' => w' = W7) (HW6D.out) ?_ ?_
  · intro jx ox hi w' ev hc hin hout hcst hfn
    have hltx : jx < 7 := by
      have := (Array.getElem?_eq_some_iff.1 hi).1
      simpa using this
    match jx, hltx with
    | 0, _ =>
      simp only [List.getElem?_toArray, List.getElem?_cons_zero, List.getElem?_cons_succ, Option.some.injEq] at hi
      subst hi
      have e0 : ev (.tmp 0) = .pointer (some ⟨l, 0, none⟩) := hout 0 (by kernel_rfl) (show (0 : Nat) < 64 by decide)
      rw [if_neg (by decide)]
      refine .inl ⟨w', ?_, hc⟩
      show _ = Result.ok (Next.value (.pointer (some ⟨l, 0, none⟩))) w'
      simp [execOp, e0, hcst, go_sem]
    | 1, _ =>
      simp only [List.getElem?_toArray, List.getElem?_cons_zero, List.getElem?_cons_succ, Option.some.injEq] at hi
      subst hi
      have e0 : ev (.tmp 57) = .pointer (some ⟨l, 0, none⟩) := hin 57 0 ⟨0, .data⟩ (by kernel_rfl) (by simp) rfl rfl (show (57 : Nat) < 64 by decide)
      rw [if_neg (by decide)]
      refine .inl ⟨w', ?_, hc⟩
      show _ = Result.ok (Next.value (.pointer (some ⟨l, 0, none⟩))) w'
      simp [execOp, e0, hcst, go_sem]
    | 2, _ =>
      simp only [List.getElem?_toArray, List.getElem?_cons_zero, List.getElem?_cons_succ, Option.some.injEq] at hi
      subst hi
      have e0 : ev (.tmp 58) = .pointer (some ⟨l, 0, none⟩) := hin 58 1 ⟨1, .data⟩ (by kernel_rfl) (by simp) rfl rfl (show (58 : Nat) < 64 by decide)
      rw [if_neg (by decide)]
      refine .inl ⟨w', ?_, hc⟩
      show _ = Result.ok (Next.value (.pointer (some ⟨l, 8, none⟩))) w'
      simp [execOp, e0, hcst, go_sem]
    | 3, _ =>
      simp only [List.getElem?_toArray, List.getElem?_cons_zero, List.getElem?_cons_succ, Option.some.injEq] at hi
      subst hi
      have e0 : ev (.tmp 59) = .pointer (some ⟨l, 8, none⟩) := hin 59 2 ⟨2, .data⟩ (by kernel_rfl) (by simp) rfl rfl (show (59 : Nat) < 64 by decide)
      rw [if_neg (by decide)]
      refine .inl ⟨w', ?_, hc⟩
      show _ = Result.ok (Next.value (.map (some m))) w'
      subst hc
      simp [execOp, e0, g8, hcst, go_sem]
    | 4, _ =>
      simp only [List.getElem?_toArray, List.getElem?_cons_zero, List.getElem?_cons_succ, Option.some.injEq] at hi
      subst hi
      have e0 : ev (.tmp 3) = .pointer (some ⟨w.heap.size, 0, none⟩) := hout 3 (by kernel_rfl) (show (3 : Nat) < 64 by decide)
      rw [if_neg (by decide)]
      refine .inl ⟨w', ?_, hc⟩
      show _ = Result.ok (Next.value (.pointer (some ⟨w.heap.size, 0, none⟩))) w'
      simp [execOp, e0, hcst, go_sem]
    | 5, _ =>
      simp only [List.getElem?_toArray, List.getElem?_cons_zero, List.getElem?_cons_succ, Option.some.injEq] at hi
      subst hi
      have e0 : ev (.tmp 61) = .pointer (some ⟨w.heap.size, 0, none⟩) := hin 61 4 ⟨4, .data⟩ (by kernel_rfl) (by simp) rfl rfl (show (61 : Nat) < 64 by decide)
      rw [if_neg (by decide)]
      refine .inl ⟨w', ?_, hc⟩
      show _ = Result.ok (Next.value (.string kb)) w'
      subst hc
      simp [execOp, e0, bx0, hcst, go_sem]
    | 6, _ =>
      simp only [List.getElem?_toArray, List.getElem?_cons_zero, List.getElem?_cons_succ, Option.some.injEq] at hi
      subst hi
      have e0 : ev (.tmp 60) = .map (some m) := hin 60 3 ⟨3, .data⟩ (by kernel_rfl) (by simp) rfl rfl (show (60 : Nat) < 64 by decide)
      have e1 : ev (.tmp 62) = .string kb := hin 62 5 ⟨5, .data⟩ (by kernel_rfl) (by simp) rfl rfl (show (62 : Nat) < 64 by decide)
      have e2 : ev (.tmp 3) = .pointer (some ⟨w.heap.size, 0, none⟩) := hout 3 (by kernel_rfl) (show (3 : Nat) < 64 by decide)
      rw [if_pos rfl]
      subst hc
      refine .inr (.inl ⟨rfl, W7, ?_, rfl⟩)
      simp [execOp, e0, e1, e2, hcst, hupd, Result.andThen]
  · intro w9 hc
    simp only [lexF, Act.put, List.setIfInBounds_toArray, List.set_cons_succ, List.set_cons_zero, List.getD_cons_succ, List.getD_cons_zero]
    obtain rfl := hc
    clear hupd g8 bx0 HW6D
    go_wp2
    go_ret2
    exact TT.out
end Go.Proofs.Ytbjkahdlejaheaa

