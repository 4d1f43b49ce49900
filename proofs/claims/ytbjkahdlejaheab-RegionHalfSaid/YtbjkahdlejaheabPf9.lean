/- Put where there is no room: it seals first. -/
import Derived.Test.YtbjkahdlejaheabPt9
import Derived.Test.YtbjkahdlejaheabLos9
set_option linter.unusedVariables false
set_option linter.unusedSimpArgs false
set_option maxRecDepth 8000
namespace Go.Proofs.Ytbjkahdlejaheab
open Go.RowKit Go.Deep Math

def PutPost (w : World) (l d m : Nat) (v5 v6 v7 : Value) (T : Lg) (S : Dv) (F : List Nat) (place n : Nat) (x : It) (e : Ending) (w' : World) : Prop :=
  ∃ va vn vc v5' F', vn = (T.lost place).length ∧ Row w' w.heap.size (.slice va vn vc) (T.lost place) ∧ DvAt w' d F' (wrR (T.first + 4 * place) n 4 S T.cont).2 ∧ Keep (F ++ l :: m :: own v5) w w' ∧ (∀ q ∈ F', q ∈ F ∨ w.heap.size ≤ q) ∧ (∀ q ∈ own v5', q ∈ own v5 ∨ w.heap.size ≤ q) ∧
    e = .returned (.tuple #[.slice va vn vc, .int .i64 (wrR (T.first + 4 * place) n 4 S T.cont).1]) ∧
    (((wrR (T.first + 4 * place) n 4 S T.cont).1 ≠ 0 ∧ LgIn w' l d m v5' v6 v7 (T.lose place)) ∨
     ((wrR (T.first + 4 * place) n 4 S T.cont).1 = 0 ∧ ∃ v6' v7', LgIn w' l d m v5' v6' v7' (((T.lose place).sealed v6 place n).put ⟨w.heap.size, 0, x⟩) ∧ (∀ q ∈ own v6', w.heap.size ≤ q) ∧ (∀ q ∈ own v7', w.heap.size ≤ q)))
set_option maxHeartbeats 8000000 in
theorem put_full {w : World} {l d m : Nat} {v5 v6 v7 : Value} {T : Lg} {S : Dv} {F : List Nat} (h : LgIn w l d m v5 v6 v7 T) (hD : DvAt w d F S) (x : It) (hf : x.fits) (hg : x.good = true) (hfull : 1472 < T.cont.length + x.size) (hcap : T.cap < 1000000)
    (hopn : T.opn ≠ []) (hloss : S.losses = T.losses) (hnum : T.num < 18446744073709551615) (hreg1 : 1 ≤ T.regions) (hreg : T.regions ≤ 64) (hfi : T.first ≤ 4096) (hcl : T.cont.length ≤ 1472) (hcne : T.cont ≠ []) (hrl : T.regs.length ≤ 100) (hbig : T.all.length ≤ 40000)
    (place n : Nat) (hn : n = T.num + 1) (hpl : place = n % T.regions) :
    Calls Try.prog 10 #[.pointer (some ⟨l, 0, none⟩), x.val] w (PutPost w l d m v5 v6 v7 T S F place n x) := by
  have SEAL : Hid (∀ W, Below w.heap.size w W → Calls Try.prog 11 #[.pointer (some ⟨l, 0, none⟩)] W (SealPost W l d m v5 v6 v7 T S F place n)) := fun W b =>
    seal_log (h.below b) (hD.below b) hopn hloss hnum hreg1 hreg hfi hcl hcne hrl place n hn hpl (lose_any (h.below b) place hrl hbig)
  have HD0 := hide hD
  have HFULL := hide hfull
  have HCL0 := hide hcl
  clear hD hopn hloss hnum hreg1 hreg hfi hcne hrl hbig hn hpl
  have gs := good_sizes hg
  have hsz : x.size = 32 + x.key.length + x.value.length := rfl
  obtain ⟨A, hA⟩ : ∃ A, A = w.alloc (.cells #[.string (txt x.key), .string (txt x.value), .int .u32 x.flags, .int .i64 x.exp, .int .u64 x.ver] 36) := ⟨_, rfl⟩
  have bA : Below w.heap.size w A := by rw [hA]; exact (Below.refl _ _).alloc (Nat.le_refl _) _
  have hszA : A.heap.size = w.heap.size + 1 := by rw [hA, nblk_alloc]
  have bkA : Blk A w.heap.size (itCells x) 36 := by rw [hA]; exact Blk.new w (itCells x) 36
  have tA : ThAt A ⟨w.heap.size, 0, x⟩ := ⟨hf, by show x.key.length ≤ _; omega, by show x.value.length ≤ _; omega, ⟨_, bkA⟩, bkA.cell (i := 0) rfl, bkA.cell (i := 1) rfl, bkA.cell (i := 2) rfl, bkA.cell (i := 3) rfl, bkA.cell (i := 4) rfl⟩
  have cP := hide (rput_ok x hf hg A)
  have EV : Hid (x.val = .agg #[.string (txt x.key), .string (txt x.value), .int .u32 x.flags, .int .i64 x.exp, .int .u64 x.ver]) := rfl
  rw [EV.out] at cP ⊢
  have H := hide h
  have HF := hide hf
  have HCAP := hide hcap
  have BA := hide bA
  have SZA := hide hszA
  have TA := hide tA
  have BKA := hide bkA
  have GS := hide gs
  have HSZ := hide hsz
  have hsz2 : (x.size : Int) ≤ 1472 := by omega
  clear h hf hg hcap bA hszA tA bkA gs hsz EV
  subst hA
  go_enter Try.func10, Try.ntmps10
  go_wp2_with fail
  refine cP.out.mono ?_
  rintro e w2 ⟨g, rfl, hg0, hbuf, b2⟩
  have bW : Below w.heap.size w w2 := BA.out.trans (b2.mono (by rw [SZA.out]; omega))
  have hL1 := H.out.below bW
  have t1 : ThAt w2 ⟨w.heap.size, 0, x⟩ := TA.out.same (b2.block _ TA.out.lt)
  have hbs1 : BS w2 (some ⟨g, 0, none⟩) x.size x.size x.enc := buf_bs hbuf (x.enc_length).symm (Nat.le_refl _)
  obtain ⟨a7, c7, hv7⟩ := own_slice hL1.cont
  have k7 := hL1.box.cell (i := 7) rfl
  rw [hv7] at k7
  have cSl := hide (SEAL.out w2 bW)
  have BW := hide bW
  have T1 := hide t1
  have HBS1 := hide hbs1
  have HG0 := hide hg0
  have q1 : ¬ (1472 : Int) < (x.size : Int) := by omega
  have q2 : ((1472 : Int) - (T.cont.length : Int)) < (x.size : Int) := by have := HFULL.out; omega
  have q3 : (T.cont.length : Int) ≤ 1472 := by have := HCL0.out; omega
  clear bW hL1 t1 hbs1 hg0 hbuf b2 cP hv7 SEAL hfull hcl
  generalize T.cont.length = n7 at k7 q2 q3
  obtain ⟨xs, hxs⟩ : ∃ xs, xs = x.size := ⟨_, rfl⟩
  rw [← hxs] at q1 q2 hsz2 ⊢
  have HXS := hide hxs
  clear hxs
  go_wp2_with fail
  refine cSl.out.mono ?_
  rintro e w1 ⟨va, vn, vc, v5', F', hvn, hrow, hDs, hKs, hFs, h5s, rfl, hend⟩
  have exs := HXS.out
  subst exs
  clear cSl k7 q1 q2 q3 HXS
  have hszW := BW.out.size
  have SVN := hide hvn
  have SR : Hid (Row w1 w.heap.size (.slice va vn vc) (T.lost place)) := hrow.mono hszW
  have SD := hide hDs
  have SK : Hid (Keep (F ++ l :: m :: own v5) w w1) := (Keep.of_below BW.out).trans hKs (fun q hq => .inl hq)
  have SF : Hid (∀ q ∈ F', q ∈ F ∨ w.heap.size ≤ q) := fun q hq => by
    rcases hFs q hq with h1 | h1
    · exact .inl h1
    · exact .inr (Nat.le_trans hszW h1)
  have S5 : Hid (∀ q ∈ own v5', q ∈ own v5 ∨ w.heap.size ≤ q) := fun q hq => by
    rcases h5s q hq with h1 | h1
    · exact .inl h1
    · exact .inr (Nat.le_trans hszW h1)
  have hlow : ∀ q ∈ F ++ l :: m :: own v5, q < w.heap.size := fun q hq => by
    simp only [List.mem_append, List.mem_cons] at hq
    rcases hq with h1 | h1 | h1 | h1
    · exact HD0.out.lt q h1
    · rw [h1]; exact H.out.box.lt
    · rw [h1]; exact H.out.map.lt
    · exact own_lt H.out.sld q h1
  have t2 : ThAt w1 ⟨w.heap.size, 0, x⟩ := T1.out.same (hKs.block _ T1.out.lt (fun hm => by have := hlow _ hm; simp at this))
  have HT2b := hide t2
  have HBS : Hid (BS w1 (some ⟨g, 0, none⟩) x.size x.size x.enc) := by
    have hgl := HG0.out
    have hx0 := HSZ.out
    have hsA := SZA.out
    exact HBS1.out.same (hKs.block g (HBS1.out.glt (by omega)) (fun hm => by have := hlow g hm; omega))
  obtain ⟨er, her⟩ : ∃ er, er = (wrR (T.first + 4 * place) n 4 S T.cont).1 := ⟨_, rfl⟩
  rw [← her] at hend ⊢
  have HER := hide her
  clear hvn hrow hDs hKs hFs h5s hlow her t2 T1 HBS1
  rcases hend with ⟨h0, hLs⟩ | ⟨h0, hLs⟩
  · have he : (er != 0) = true := by rw [bne_iff_ne]; exact h0
    have HE := hide (And.intro h0 hLs)
    clear h0 hLs
    go_wp2
    go_ret2
    exact ⟨va, vn, vc, v5', F', SVN.out, SR.out, SD.out, SK.out, SF.out, S5.out, by rw [← HER.out]; rfl, .inl ⟨by rw [← HER.out]; exact HE.out.1, HE.out.2⟩⟩
  subst h0
  obtain ⟨T2, hT2⟩ : ∃ T2, T2 = (T.lose place).sealed v6 place n := ⟨_, rfl⟩
  rw [← hT2] at hLs
  have hc2 : T2.cont = [] := by rw [hT2]; rfl
  have ho2 : T2.opn = [] := by rw [hT2]; rfl
  have hcap2 : T2.cap < 1000000 := by rw [hT2]; show (T.lose place).cap < _; rw [(lose_same T place).2.2.2.2.2.1]; exact HCAP.out
  obtain ⟨v6s, v7s, hL2, ho6, ho7⟩ : ∃ v6s v7s, LgIn w1 l d m v5' v6s v7s T2 ∧ own v6s = [] ∧ own v7s = [] := ⟨_, _, hLs, rfl, rfl⟩
  have t2 := HT2b.out
  have HROOM : Hid (T2.cont.length + x.size ≤ 1472) := by show _ ≤ _; rw [hc2]; simp; omega
  have HCAP2 := hide hcap2
  have HOP : Hid (T2.opn.length ≤ 1000) := by show _ ≤ _; rw [ho2]; simp
  have HT2 := hide hT2
  clear hLs hc2 ho2 hcap2 hT2
  obtain ⟨a7, c7, rfl⟩ := own_slice hL2.cont
  obtain ⟨a6, c6, rfl⟩ := own_slice hL2.opn
  have HO6 := hide ho6
  have HO7 := hide ho7
  clear ho6 ho7
  have hbs : BS w1 (some ⟨g, 0, none⟩) x.size x.size x.enc := HBS.out
  obtain ⟨ua7, uc7, w3, hrun7, hrow7, hkp7, hblk7⟩ := app_bytes hL2.cont hbs (by have := HROOM.out; omega) (Nat.zero_le _)
  have hl3 : Blk w3 l (lgCells d m v5' (.slice a6 T2.opn.length c6) (.slice a7 T2.cont.length c7) T2) 67 := hL2.box.same (hkp7.block l hL2.box.lt (own_notin hL2.cont hL2.box (by decide)))
  have hl4 := hl3.set 7 (.slice ua7 (T2.cont.length + x.size) uc7)
  obtain ⟨W4, hW4⟩ : ∃ W4, w3.setCell ⟨l, 7, none⟩ (.slice ua7 (T2.cont.length + x.size) uc7) = W4 := ⟨_, rfl⟩
  rw [hW4] at hl4
  have h64 : W4.ownsRow 0 73 1 (.slice a6 T2.opn.length c6) T2.opn.length (ptrCells T2.opn) := own_same hL2.opn (fun q hq => by
    obtain ⟨c, hc⟩ := own_ty hL2.opn hq
    rw [← hW4]
    refine (blk_setCell_other w3 ⟨l, 7, none⟩ _ q (ty_ne hc hL2.box (by decide))).trans ?_
    exact hkp7.block q (Array.getElem?_eq_some_iff.1 hc).1 (own_notin hL2.cont hc (by decide)))
  obtain ⟨ua6, uc6, w5, hrun6, hrow6, hkp6, hblk6, hsz6⟩ := app_ptr h64 (.pointer (some ⟨w.heap.size, 0, none⟩)) rfl (by have := HOP.out; omega) (Nat.zero_le _)
  have hkp6' : Keep (own (.slice a6 T2.opn.length c6)) (w3.setCell ⟨l, 7, none⟩ (.slice ua7 (T2.cont.length + x.size) uc7)) w5 := by rw [hW4]; exact hkp6
  obtain ⟨hm6, ht6, hl5⟩ := put_mid (v6' := .slice ua6 (T2.opn.length + 1) uc6) hL2 ⟨w.heap.size, 0, x⟩ t2 hkp7 hkp6'
  obtain ⟨W6, hW6⟩ : ∃ W6, w5.setCell ⟨l, 6, none⟩ (.slice ua6 (T2.opn.length + 1) uc6) = W6 := ⟨_, rfl⟩
  have hl6 := hl5.set 6 (.slice ua6 (T2.opn.length + 1) uc6)
  rw [hW6] at hm6 ht6 hl6
  have hm6d : MapAt W6.drew m T2.cap T2.has := hm6.same rfl
  obtain ⟨W7, hupd0, hmap7, hkp7m, _⟩ := hm6d.store x.key (by have := GS.out; unfold maxLen; omega) HCAP2.out (w.heap.size, 0)
  have hupd : (Instr.mapUpdate 63 (.map (some m)) (.string (txt x.key)) (.pointer (some ⟨w.heap.size, 0, none⟩))).run Try.prog W6.drew = .ok () W7 := hupd0
  have k7m : Keep [m] (w5.setCell ⟨l, 6, none⟩ (.slice ua6 (T2.opn.length + 1) uc6)) W7 := by
    rw [hW6]
    exact ((Keep.refl [m] W6).drew).trans hkp7m (fun q hq => .inl hq)
  have hb6 : ∀ q ∈ own (.slice ua6 (T2.opn.length + 1) uc6), q ∈ own (.slice a6 T2.opn.length c6) ∨ w1.heap.size ≤ q := fun q hq => by
    rcases hblk6 q hq with h1 | h1
    · exact .inl h1
    · refine .inr (Nat.le_trans hkp7.size ?_)
      rw [← hW4, nblk_setCell] at h1
      exact h1
  have TT : Hid (PutPost w l d m v5 v6 v7 T S F place n x (.returned (.tuple #[.slice va vn vc, .int .i64 0])) W7) := by
    have e7 : (T2.cont ++ x.enc).length = T2.cont.length + x.size := by rw [List.length_append, x.enc_length]
    obtain ⟨f1, f2⟩ := put_state (v7' := .slice ua7 (T2.cont.length + x.size) uc7) (v6' := .slice ua6 (T2.opn.length + 1) uc6) hL2 ⟨w.heap.size, 0, x⟩ t2 (by simp only; rw [e7]; exact hrow7) hkp7 hrow6 hkp6' hb6 hmap7 k7m
    have hown0 : ∀ q ∈ own (.slice a6 T2.opn.length c6), False := fun q hq => by rw [HO6.out] at hq; cases hq
    have hown1 : ∀ q ∈ own (.slice a7 T2.cont.length c7), False := fun q hq => by rw [HO7.out] at hq; cases hq
    have hk : Keep (F ++ l :: m :: own v5) w W7 := SK.out.trans f2 (fun q hq => by
      simp only [List.mem_cons, List.mem_append] at hq ⊢
      rcases hq with h1 | h1 | h1 | h1
      · exact .inl (.inr (.inl h1))
      · exact .inl (.inr (.inr (.inl h1)))
      · exact absurd h1 (fun h => hown0 q h)
      · exact absurd h1 (fun h => hown1 q h))
    refine ⟨va, vn, vc, v5', F', SVN.out, SR.out.keep (fun q hq => f2.block q (SR.out.lt q hq).2 (fun hm => ?_)), SD.out.same (fun q hq => f2.block q (SD.out.lt q hq) (fun hm => ?_)), hk, SF.out, S5.out, by rw [← HER.out], .inr ⟨HER.out.symm, .slice ua6 (T2.opn.length + 1) uc6, .slice ua7 (T2.cont.length + x.size) uc7, ?_, fun q hq => ?_, fun q hq => ?_⟩⟩
    · have h1 := (SR.out.lt q hq).1
      simp only [List.mem_cons, List.mem_append] at hm
      rcases hm with h2 | h2 | h2 | h2
      · have := H.out.box.lt; omega
      · have := H.out.map.lt; omega
      · exact hown0 q h2
      · exact hown1 q h2
    · simp only [List.mem_cons, List.mem_append] at hm
      refine hL2.off SD.out q (List.mem_append.2 (.inl ?_)) hq
      simp only [lfoot, List.mem_cons, List.mem_append]
      rcases hm with h2 | h2 | h2 | h2
      · exact .inl h2
      · exact .inr (.inl h2)
      · exact absurd h2 (fun h => hown0 q h)
      · exact absurd h2 (fun h => hown1 q h)
    · rw [← HT2.out]; exact f1
    · rcases hb6 q hq with h1 | h1
      · exact absurd h1 (fun h => hown0 q h)
      · have := SK.out.size; omega
    · rcases hblk7 q hq with h1 | h1
      · exact absurd h1 (fun h => hown1 q h)
      · have := SK.out.size; omega
  have k7 := hL2.box.cell (i := 7) rfl
  have c7c := hl3.cell (i := 7) rfl
  have f7c := hl3.frozen 7
  have c64 : (w3.setCell ⟨l, 7, none⟩ (.slice ua7 (T2.cont.length + x.size) uc7)).cell? ⟨l, 6, none⟩ = some (.slice a6 T2.opn.length c6) := by rw [hW4]; exact hl4.cell (i := 6) rfl
  have c65 := hl5.cell (i := 6) rfl
  have f65 := hl5.frozen 6
  have g8 : W6.drew.cell? ⟨l, 8, none⟩ = some (.map (some m)) := hl6.cell (i := 8) rfl
  have bx0 : W6.drew.cell? ⟨w.heap.size, 0, none⟩ = some (.string (txt x.key)) := ht6.one.c0
  have HR7 := hide hrun7
  have hrun6' : ∀ ty, (Builtin.append_ #[65, 65] ty #[.slice a6 T2.opn.length c6, .slice (some ⟨w3.heap.size, 0, none⟩) 1 1]).run Try.prog ((w3.setCell ⟨l, 7, none⟩ (.slice ua7 (T2.cont.length + x.size) uc7)).alloc (.cells #[.pointer (some ⟨w.heap.size, 0, none⟩)] 73)) = .ok (.slice ua6 (T2.opn.length + 1) uc6) w5 := by
    have e : w3.heap.size = W4.heap.size := by rw [← hW4, nblk_setCell]
    rw [hW4, e]
    exact hrun6
  have HR6 := hide hrun6'
  have HW6D : Hid ((w5.setCell ⟨l, 6, none⟩ (.slice ua6 (T2.opn.length + 1) uc6)).drew = W6.drew) := by show _ = _; rw [hW6]
  have q1 : ¬ (1472 : Int) < (x.size : Int) := by omega
  have q2 : ¬ ((1472 : Int) - (T2.cont.length : Int)) < (x.size : Int) := by have := HROOM.out; omega
  have q3 : (T2.cont.length : Int) ≤ 1472 := by have := HROOM.out; omega
  clear hrun6 hrun6' hrun7 hrow7 hkp7 hblk7 hl3 hl4 hl5 hl6 hrow6 hkp6 hkp6' hblk6 hsz6 hm6 ht6 hm6d hupd0 hmap7 hkp7m k7m hb6 hL2 t2 hbs h64 hW4 hW6
  obtain ⟨n7, hn7⟩ : ∃ n7, n7 = T2.cont.length := ⟨_, rfl⟩
  rw [← hn7] at k7 c7c c64 HR7 HR6 q2 q3
  clear hn7
  obtain ⟨n6, hn6⟩ : ∃ n6, n6 = T2.opn.length := ⟨_, rfl⟩
  rw [← hn6] at c64 c65 HR6 HW6D
  clear hn6
  generalize x.size = xn at *
  generalize txt x.key = kb at *
  go_wp2_with (at_builtin; first
    | refine Lib.wpList_append_run _ rfl _ _ _ _ rfl _ _ rfl rfl _ _ (HR7.out _) ?_
    | refine Lib.wpList_append_run _ rfl _ _ _ _ rfl _ _ rfl rfl _ _ (HR6.out _) ?_)
  refine wp_region_last (by kernel_rfl) (by kernel_rfl) (fun jx => ([.pointer (some ⟨l, 0, none⟩), .pointer (some ⟨l, 0, none⟩), .pointer (some ⟨l, 8, none⟩), .map (some m), .pointer (some ⟨w.heap.size, 0, none⟩), .string kb, undef] : List Value).getD jx undef) 6 (by decide) (by kernel_rfl) (fun w' => w' = W6.drew) (fun w' => w' = W7) (HW6D.out) ?_ ?_
  · intro jx ox hi w' ev hc hin hout hcst hfn
    have hltx : jx < 7 := by
      have := (Array.getElem?_eq_some_iff.1 hi).1
      simpa using this
    match jx, hltx with
    | 0, _ =>
      simp only [List.getElem?_toArray, List.getElem?_cons_zero, List.getElem?_cons_succ, Option.some.injEq] at hi
      subst hi
      have e0 : ev (.tmp 0) = .pointer (some ⟨l, 0, none⟩) := hout 0 (by kernel_rfl) (show (0 : Nat) < 64 by decide)
      rw [if_neg (by decide)]
      refine .inl ⟨w', ?_, hc⟩
      show _ = Result.ok (Next.value (.pointer (some ⟨l, 0, none⟩))) w'
      simp [execOp, e0, hcst, go_sem]
    | 1, _ =>
      simp only [List.getElem?_toArray, List.getElem?_cons_zero, List.getElem?_cons_succ, Option.some.injEq] at hi
      subst hi
      have e0 : ev (.tmp 57) = .pointer (some ⟨l, 0, none⟩) := hin 57 0 ⟨0, .data⟩ (by kernel_rfl) (by simp) rfl rfl (show (57 : Nat) < 64 by decide)
      rw [if_neg (by decide)]
      refine .inl ⟨w', ?_, hc⟩
      show _ = Result.ok (Next.value (.pointer (some ⟨l, 0, none⟩))) w'
      simp [execOp, e0, hcst, go_sem]
    | 2, _ =>
      simp only [List.getElem?_toArray, List.getElem?_cons_zero, List.getElem?_cons_succ, Option.some.injEq] at hi
      subst hi
      have e0 : ev (.tmp 58) = .pointer (some ⟨l, 0, none⟩) := hin 58 1 ⟨1, .data⟩ (by kernel_rfl) (by simp) rfl rfl (show (58 : Nat) < 64 by decide)
      rw [if_neg (by decide)]
      refine .inl ⟨w', ?_, hc⟩
      show _ = Result.ok (Next.value (.pointer (some ⟨l, 8, none⟩))) w'
      simp [execOp, e0, hcst, go_sem]
    | 3, _ =>
      simp only [List.getElem?_toArray, List.getElem?_cons_zero, List.getElem?_cons_succ, Option.some.injEq] at hi
      subst hi
      have e0 : ev (.tmp 59) = .pointer (some ⟨l, 8, none⟩) := hin 59 2 ⟨2, .data⟩ (by kernel_rfl) (by simp) rfl rfl (show (59 : Nat) < 64 by decide)
      rw [if_neg (by decide)]
      refine .inl ⟨w', ?_, hc⟩
      show _ = Result.ok (Next.value (.map (some m))) w'
      subst hc
      simp [execOp, e0, g8, hcst, go_sem]
    | 4, _ =>
      simp only [List.getElem?_toArray, List.getElem?_cons_zero, List.getElem?_cons_succ, Option.some.injEq] at hi
      subst hi
      have e0 : ev (.tmp 3) = .pointer (some ⟨w.heap.size, 0, none⟩) := hout 3 (by kernel_rfl) (show (3 : Nat) < 64 by decide)
      rw [if_neg (by decide)]
      refine .inl ⟨w', ?_, hc⟩
      show _ = Result.ok (Next.value (.pointer (some ⟨w.heap.size, 0, none⟩))) w'
      simp [execOp, e0, hcst, go_sem]
    | 5, _ =>
      simp only [List.getElem?_toArray, List.getElem?_cons_zero, List.getElem?_cons_succ, Option.some.injEq] at hi
      subst hi
      have e0 : ev (.tmp 61) = .pointer (some ⟨w.heap.size, 0, none⟩) := hin 61 4 ⟨4, .data⟩ (by kernel_rfl) (by simp) rfl rfl (show (61 : Nat) < 64 by decide)
      rw [if_neg (by decide)]
      refine .inl ⟨w', ?_, hc⟩
      show _ = Result.ok (Next.value (.string kb)) w'
      subst hc
      simp [execOp, e0, bx0, hcst, go_sem]
    | 6, _ =>
      simp only [List.getElem?_toArray, List.getElem?_cons_zero, List.getElem?_cons_succ, Option.some.injEq] at hi
      subst hi
      have e0 : ev (.tmp 60) = .map (some m) := hin 60 3 ⟨3, .data⟩ (by kernel_rfl) (by simp) rfl rfl (show (60 : Nat) < 64 by decide)
      have e1 : ev (.tmp 62) = .string kb := hin 62 5 ⟨5, .data⟩ (by kernel_rfl) (by simp) rfl rfl (show (62 : Nat) < 64 by decide)
      have e2 : ev (.tmp 3) = .pointer (some ⟨w.heap.size, 0, none⟩) := hout 3 (by kernel_rfl) (show (3 : Nat) < 64 by decide)
      rw [if_pos rfl]
      subst hc
      refine .inr (.inl ⟨rfl, W7, ?_, rfl⟩)
      simp [execOp, e0, e1, e2, hcst, hupd, Result.andThen]
  · intro w9 hc
    simp only [lexF, Act.put, List.setIfInBounds_toArray, List.set_cons_succ, List.set_cons_zero, List.getD_cons_succ, List.getD_cons_zero]
    obtain rfl := hc
    clear hupd g8 bx0 HW6D
    go_wp2
    go_ret2
    exact TT.out
end Go.Proofs.Ytbjkahdlejaheab
