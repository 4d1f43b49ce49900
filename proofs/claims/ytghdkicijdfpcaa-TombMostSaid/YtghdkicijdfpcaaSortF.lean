/- Partition of a row of numbers. -/
import Derived.Test.YtghdkicijdfpcaaSortE
set_option linter.unusedVariables false
set_option linter.unusedSimpArgs false
set_option maxRecDepth 8000
namespace Go.Proofs.Ytghdkicijdfpcaa
open Go.RowKit Go.Deep Go.Sort

theorem pl_stop (a i j i2 j2 : Nat) (d : Array Nat) (h1 : scanUp (fun x => lt64 x d[a]!) d j i = i2) (h2 : scanDown (fun x => !lt64 x d[a]!) d i2 j = j2) (h : j2 < i2) : partLoop lt64 a i j d = (j2, d) := by
  rw [partLoop]
  simp only [h1, h2]
  rw [if_pos h]
theorem pl_go (a i j i2 j2 : Nat) (d : Array Nat) (h1 : scanUp (fun x => lt64 x d[a]!) d j i = i2) (h2 : scanDown (fun x => !lt64 x d[a]!) d i2 j = j2) (h : ¬ j2 < i2) (hg : (j2 - 1) + 1 - (i2 + 1) < j + 1 - i) : partLoop lt64 a i j d = partLoop lt64 a (i2 + 1) (j2 - 1) (swp d i2 j2) := by
  conv => lhs; rw [partLoop]
  simp only [h1, h2]
  rw [if_neg h, dif_pos hg]
theorem par_one (a b pv i2 j2 : Nat) (d d1 : Array Nat) (hd : d1 = swp d a pv) (h1 : scanUp (fun x => lt64 x d1[a]!) d1 (b - 1) (a + 1) = i2) (h2 : scanDown (fun x => !lt64 x d1[a]!) d1 i2 (b - 1) = j2) (h : j2 < i2) : Sort.partition lt64 d a b pv = (j2, true, swp d1 j2 a) := by
  unfold Sort.partition
  simp only [← hd, h1, h2]
  rw [if_pos h]
theorem par_two (a b pv i2 j2 : Nat) (d d1 : Array Nat) (hd : d1 = swp d a pv) (h1 : scanUp (fun x => lt64 x d1[a]!) d1 (b - 1) (a + 1) = i2) (h2 : scanDown (fun x => !lt64 x d1[a]!) d1 i2 (b - 1) = j2) (h : ¬ j2 < i2) : Sort.partition lt64 d a b pv = ((partLoop lt64 a (i2 + 1) (j2 - 1) (swp d1 i2 j2)).1, false, swp (partLoop lt64 a (i2 + 1) (j2 - 1) (swp d1 i2 j2)).2 (partLoop lt64 a (i2 + 1) (j2 - 1) (swp d1 i2 j2)).1 a) := by
  unfold Sort.partition
  simp only [← hd, h1, h2]
  rw [if_neg h]
set_option maxHeartbeats 8000000 in
theorem part_any (w0 : World) (blk N cap a b pv : Nat) (d : Array Nat) (W : World) (hN : d.size = N) (h : SR w0 W blk d) (hab : a < b) (hb : b ≤ N) (hpa : a ≤ pv) (hpb : pv < b) (hsz : N ≤ 1000000) :
    Calls Try.prog 77 #[.slice (some ⟨blk, 0, none⟩) N cap, .int .i64 a, .int .i64 b, .int .i64 pv] W fun e W' => e = .returned (.tuple #[.int .i64 ((Sort.partition lt64 d a b pv).1 : Nat), .bool (Sort.partition lt64 d a b pv).2.1]) ∧ SR w0 W' blk (Sort.partition lt64 d a b pv).2.2 := by
  have H := hide' h
  have HN := hide' hN
  obtain ⟨b1, hb1⟩ : ∃ b1, b = b1 + 1 := ⟨b - 1, by omega⟩
  subst hb1
  obtain ⟨G, g1, g2, g3⟩ := h.fam
  rw [hN] at g2 g3
  have HG := hide' g1
  have ia : (a : Int) < (N : Int) := by omega
  have ip : (pv : Int) < (N : Int) := by omega
  have ya := g2 a (by omega)
  have yp := g2 pv (by omega)
  have za := g3 a (by omega)
  have zp := g3 pv (by omega)
  obtain ⟨⟨q1, x1⟩, x2⟩ := h.after a (G pv) pv (by omega) (by omega)
  obtain ⟨⟨q2, x3⟩, x4⟩ := h.after pv (G a) a (by omega) (by omega)
  clear h hN g1 g2 g3
  have eS : b1 + 1 - 1 = b1 := by omega
  have HE := hide' eS
  clear eS
  obtain ⟨i, hi⟩ : ∃ i, i = a + 1 := ⟨_, rfl⟩
  have ei : (a : Int) + 1 = (i : Int) := by omega
  have HI := hide' hi
  have hai : a < i := by omega
  have hib : i ≤ b1 + 1 := by omega
  have haj : a ≤ b1 := by omega
  have hjb : b1 ≤ b1 := by omega
  clear hi
  go_enter Try.func77, Try.ntmps77
  go_wp2_with fail
  go_region
  all_goals go_wp2_with fail
  have hS := H.out.swap a pv (by rw [HN.out]; omega) (by rw [HN.out]; omega)
  rw [← HG.out, ← HG.out] at hS
  obtain ⟨dk, hd1⟩ : ∃ d1, d1 = swp d a pv := ⟨_, rfl⟩
  rw [← hd1] at hS
  have HD1 := hide' hd1
  have NK : Hid (dk.size = N) := by show _ = _; rw [hd1, swp_size]; exact HN.out
  have S1 := hide' hS
  clear hS hd1 x1 x2 x3 x4 ya yp za zp HG
  obtain ⟨G, HG⟩ : ∃ G : Nat → Nat, Hid (∀ t, G t = dk[t]!) := ⟨fun t => dk[t]!, fun _ => rfl⟩
  have FAM : Hid (∀ wx, SR w0 wx blk dk → ∀ t, t < N → wx.cell? ⟨blk, t, none⟩ = some (.int .u64 (G t : Int)) ∧ wx.frozen? ⟨blk, t, none⟩ = false) := fun wx hx t ht => by
    have := hx.at
    rw [HG.out]
    exact ⟨this.1 t (by rw [NK.out]; exact ht), this.2 t (by rw [NK.out]; exact ht)⟩
  go_loopg [10] (b1 + 2) (fun kx s10 wr => ∃ ii : Nat, s10 = .int .i64 ii ∧ i ≤ ii ∧ (ii ≤ b1 + 1 ∨ ii = i) ∧ b1 + 1 - ii ≤ kx ∧ Hid (SR w0 wr blk dk ∧ scanUp (fun x => lt64 x dk[a]!) dk b1 ii = scanUp (fun x => lt64 x dk[a]!) dk b1 i))
  case atStart => exact ⟨i, rfl, Nat.le_refl _, .inr rfl, by omega, S1.out.heap rfl rfl rfl rfl, rfl⟩
  case round =>
    obtain ⟨ii, rfl, hii, hij, hgi, K1⟩ := hrel
    by_cases hc : ii ≤ b1
    · have hc2 : (ii : Int) ≤ (b1 : Int) := by omega
      obtain ⟨ya, _⟩ := FAM.out wr K1.out.1 a (by omega)
      obtain ⟨yi, _⟩ := FAM.out wr K1.out.1 ii (by omega)
      have iA : (a : Int) < (N : Int) := by omega
      have iI : (ii : Int) < (N : Int) := by omega
      cases hm : lt64 (G ii) (G a)
      · have cX : Hid (∀ W, Calls Try.prog 75 #[.int .u64 (G ii : Int), .int .u64 (G a : Int)] W fun e w' => e = .returned (.bool false) ∧ w' = W) := fun W => by have := less_any (G ii) (G a) W; rw [hm] at this; exact this
        have I2 : Hid (scanUp (fun x => lt64 x dk[a]!) dk b1 i = ii) := by
          show _ = _
          rw [← K1.out.2]
          exact up_stop _ _ _ _ (.inr (by simp only [← HG.out]; exact hm))
        go_wp2_with fail
        go_quiet (first | (go_at_call 75; refine Calls.quiet_of_same (cX.out _)))
        have SQ1 := hide' (K1.out.1.drewN nq)
        clear ya yi hc2 cX hm
        go_wp2_with fail
        go_loopg [11] (b1 + 1) (fun kx s11 wr => ∃ jj : Nat, s11 = .int .i64 jj ∧ jj ≤ b1 ∧ a ≤ jj ∧ jj ≤ kx ∧ Hid (SR w0 wr blk dk ∧ scanDown (fun x => !lt64 x dk[a]!) dk ii jj = scanDown (fun x => !lt64 x dk[a]!) dk ii b1))
        case atStart => exact ⟨b1, rfl, Nat.le_refl _, haj, by omega, SQ1.out, rfl⟩
        case round =>
          obtain ⟨jj, rfl, hjj, hajj, hgj, K2⟩ := hrel
          by_cases hc : ii ≤ jj
          · have hc2 : (ii : Int) ≤ (jj : Int) := by omega
            obtain ⟨ya, _⟩ := FAM.out wr K2.out.1 a (by omega)
            obtain ⟨yj, _⟩ := FAM.out wr K2.out.1 jj (by omega)
            have iA : (a : Int) < (N : Int) := by omega
            have iJ : (jj : Int) < (N : Int) := by omega
            cases hm : lt64 (G jj) (G a)
            · have cX : Hid (∀ W, Calls Try.prog 75 #[.int .u64 (G jj : Int), .int .u64 (G a : Int)] W fun e w' => e = .returned (.bool false) ∧ w' = W) := fun W => by have := less_any (G jj) (G a) W; rw [hm] at this; exact this
              go_wp2_with fail
              go_quiet (first | (go_at_call 75; refine Calls.quiet_of_same (cX.out _)))
              go_wp2
              go_roundg (jj - 1)
              case measure => omega
              case rel =>
                refine ⟨jj - 1, by congr 1; omega, by omega, by omega, Nat.le_refl _, K2.out.1.heap rfl rfl rfl rfl, ?_⟩
                rw [← K2.out.2, ← down_go _ _ _ _ hc (by omega) (by simp only [← HG.out]; rw [hm]; rfl)]
            · have cX : Hid (∀ W, Calls Try.prog 75 #[.int .u64 (G jj : Int), .int .u64 (G a : Int)] W fun e w' => e = .returned (.bool true) ∧ w' = W) := fun W => by have := less_any (G jj) (G a) W; rw [hm] at this; exact this
              have J2 : Hid (scanDown (fun x => !lt64 x dk[a]!) dk ii b1 = jj) := by
                show _ = _
                rw [← K2.out.2]
                exact down_stop _ _ _ _ (.inr (by simp only [← HG.out]; rw [hm]; rfl))
              go_wp2_with fail
              go_quiet (first | (go_at_call 75; refine Calls.quiet_of_same (cX.out _)))
              obtain ⟨wq, hwq⟩ : ∃ wq, wq = wr.drewN nq := ⟨_, rfl⟩
              rw [← hwq]
              have SQ : Hid (SR w0 wq blk dk) := by rw [hwq]; exact K2.out.1.drewN nq
              clear hwq ya yj
              obtain ⟨yi, zi⟩ := FAM.out wq SQ.out ii (by omega)
              obtain ⟨yj, zj⟩ := FAM.out wq SQ.out jj (by omega)
              obtain ⟨⟨q1, x1⟩, x2⟩ := SQ.out.after ii (G jj) jj (by rw [NK.out]; omega) (by rw [NK.out]; omega)
              obtain ⟨⟨q2, x3⟩, x4⟩ := SQ.out.after jj (G ii) ii (by rw [NK.out]; omega) (by rw [NK.out]; omega)
              have iI : (ii : Int) < (N : Int) := by omega
              go_wp2_with fail
              go_region
              all_goals go_wp2_with fail
              have hS := SQ.out.swap ii jj (by rw [NK.out]; omega) (by rw [NK.out]; omega)
              rw [← HG.out, ← HG.out] at hS
              have P2 := hide' (par_two a (b1 + 1) pv ii jj d dk HD1.out (by rw [HE.out, ← HI.out]; exact I2.out) (by rw [HE.out]; exact J2.out) (by omega))
              obtain ⟨d3, hd3⟩ : ∃ d3, d3 = swp dk ii jj := ⟨_, rfl⟩
              obtain ⟨i3, hi3⟩ : ∃ i3, i3 = ii + 1 := ⟨_, rfl⟩
              obtain ⟨j3, hj3⟩ : ∃ j3, j3 = jj - 1 := ⟨_, rfl⟩
              rw [← hd3] at hS P2
              rw [← hi3, ← hj3] at P2
              have N3 : Hid (d3.size = N) := by show _ = _; rw [hd3, swp_size]; exact NK.out
              have S3 := hide' hS
              have e5 : (ii : Int) + 1 = (i3 : Int) := by omega
              have e6 : (jj : Int) - 1 = (j3 : Int) := by omega
              clear hS hd3 x1 x2 x3 x4 yi zi yj zj
              go_loopg [10, 11] (b1 + 2) (fun kx s10 s11 wr => ∃ (i j : Nat) (dk : Array Nat), s10 = .int .i64 i ∧ s11 = .int .i64 j ∧ a < i ∧ i ≤ b1 + 1 ∧ a ≤ j ∧ j ≤ b1 ∧ i ≤ j + 2 ∧ j + 1 - i ≤ kx ∧ Hid (dk.size = N ∧ SR w0 wr blk dk ∧ partLoop lt64 a i j dk = partLoop lt64 a i3 j3 d3))
              case atStart => exact ⟨i3, j3, d3, by congr 1, by congr 1, by omega, by omega, by omega, by omega, by omega, by omega, N3.out, S3.out.heap rfl rfl rfl rfl, rfl⟩
              case round =>
                clear FAM HG hai hib haj hjb e5 e6 ei cX hm hc2 hc iI iA iJ
                obtain ⟨i, j, dk, rfl, rfl, hai, hib, haj, hjb, hij2, hg, K⟩ := hrel
                have NK := hide' K.out.1
                have S1 := hide' K.out.2.1
                have EK := hide' K.out.2.2
                clear K
                obtain ⟨G, HG⟩ : ∃ G : Nat → Nat, Hid (∀ t, G t = dk[t]!) := ⟨fun t => dk[t]!, fun _ => rfl⟩
                have FAM : Hid (∀ wx, SR w0 wx blk dk → ∀ t, t < N → wx.cell? ⟨blk, t, none⟩ = some (.int .u64 (G t : Int)) ∧ wx.frozen? ⟨blk, t, none⟩ = false) := fun wx hx t ht => by
                  have := hx.at
                  rw [HG.out]
                  exact ⟨this.1 t (by rw [NK.out]; exact ht), this.2 t (by rw [NK.out]; exact ht)⟩
                go_wp2_with fail
                go_loopg [10] (j + 2) (fun kx s10 wr => ∃ ii : Nat, s10 = .int .i64 ii ∧ i ≤ ii ∧ (ii ≤ j + 1 ∨ ii = i) ∧ j + 1 - ii ≤ kx ∧ Hid (SR w0 wr blk dk ∧ scanUp (fun x => lt64 x dk[a]!) dk j ii = scanUp (fun x => lt64 x dk[a]!) dk j i))
                case atStart => exact ⟨i, rfl, Nat.le_refl _, .inr rfl, by omega, S1.out.heap rfl rfl rfl rfl, rfl⟩
                case round =>
                  obtain ⟨ii, rfl, hii, hij, hgi, K1⟩ := hrel
                  by_cases hc : ii ≤ j
                  · have hc2 : (ii : Int) ≤ (j : Int) := by omega
                    obtain ⟨ya, _⟩ := FAM.out wr K1.out.1 a (by omega)
                    obtain ⟨yi, _⟩ := FAM.out wr K1.out.1 ii (by omega)
                    have iA : (a : Int) < (N : Int) := by omega
                    have iI : (ii : Int) < (N : Int) := by omega
                    cases hm : lt64 (G ii) (G a)
                    · have cX : Hid (∀ W, Calls Try.prog 75 #[.int .u64 (G ii : Int), .int .u64 (G a : Int)] W fun e w' => e = .returned (.bool false) ∧ w' = W) := fun W => by have := less_any (G ii) (G a) W; rw [hm] at this; exact this
                      have I2 : Hid (scanUp (fun x => lt64 x dk[a]!) dk j i = ii) := by
                        show _ = _
                        rw [← K1.out.2]
                        exact up_stop _ _ _ _ (.inr (by simp only [← HG.out]; exact hm))
                      go_wp2_with fail
                      go_quiet (first | (go_at_call 75; refine Calls.quiet_of_same (cX.out _)))
                      have SQ1 := hide' (K1.out.1.drewN nq)
                      clear ya yi hc2 cX hm
                      go_wp2_with fail
                      go_loopg [11] (j + 1) (fun kx s11 wr => ∃ jj : Nat, s11 = .int .i64 jj ∧ jj ≤ j ∧ a ≤ jj ∧ jj ≤ kx ∧ Hid (SR w0 wr blk dk ∧ scanDown (fun x => !lt64 x dk[a]!) dk ii jj = scanDown (fun x => !lt64 x dk[a]!) dk ii j))
                      case atStart => exact ⟨j, rfl, Nat.le_refl _, haj, by omega, SQ1.out, rfl⟩
                      case round =>
                        obtain ⟨jj, rfl, hjj, hajj, hgj, K2⟩ := hrel
                        by_cases hc : ii ≤ jj
                        · have hc2 : (ii : Int) ≤ (jj : Int) := by omega
                          obtain ⟨ya, _⟩ := FAM.out wr K2.out.1 a (by omega)
                          obtain ⟨yj, _⟩ := FAM.out wr K2.out.1 jj (by omega)
                          have iA : (a : Int) < (N : Int) := by omega
                          have iJ : (jj : Int) < (N : Int) := by omega
                          cases hm : lt64 (G jj) (G a)
                          · have cX : Hid (∀ W, Calls Try.prog 75 #[.int .u64 (G jj : Int), .int .u64 (G a : Int)] W fun e w' => e = .returned (.bool false) ∧ w' = W) := fun W => by have := less_any (G jj) (G a) W; rw [hm] at this; exact this
                            go_wp2_with fail
                            go_quiet (first | (go_at_call 75; refine Calls.quiet_of_same (cX.out _)))
                            go_wp2
                            go_roundg (jj - 1)
                            case measure => omega
                            case rel =>
                              refine ⟨jj - 1, by congr 1; omega, by omega, by omega, Nat.le_refl _, K2.out.1.heap rfl rfl rfl rfl, ?_⟩
                              rw [← K2.out.2, ← down_go _ _ _ _ hc (by omega) (by simp only [← HG.out]; rw [hm]; rfl)]
                          · have cX : Hid (∀ W, Calls Try.prog 75 #[.int .u64 (G jj : Int), .int .u64 (G a : Int)] W fun e w' => e = .returned (.bool true) ∧ w' = W) := fun W => by have := less_any (G jj) (G a) W; rw [hm] at this; exact this
                            have J2 : Hid (scanDown (fun x => !lt64 x dk[a]!) dk ii j = jj) := by
                              show _ = _
                              rw [← K2.out.2]
                              exact down_stop _ _ _ _ (.inr (by simp only [← HG.out]; rw [hm]; rfl))
                            go_wp2_with fail
                            go_quiet (first | (go_at_call 75; refine Calls.quiet_of_same (cX.out _)))
                            obtain ⟨wq, hwq⟩ : ∃ wq, wq = wr.drewN nq := ⟨_, rfl⟩
                            rw [← hwq]
                            have SQ : Hid (SR w0 wq blk dk) := by rw [hwq]; exact K2.out.1.drewN nq
                            clear hwq ya yj
                            obtain ⟨yi, zi⟩ := FAM.out wq SQ.out ii (by omega)
                            obtain ⟨yj, zj⟩ := FAM.out wq SQ.out jj (by omega)
                            obtain ⟨⟨q1, x1⟩, x2⟩ := SQ.out.after ii (G jj) jj (by rw [NK.out]; omega) (by rw [NK.out]; omega)
                            obtain ⟨⟨q2, x3⟩, x4⟩ := SQ.out.after jj (G ii) ii (by rw [NK.out]; omega) (by rw [NK.out]; omega)
                            have iI : (ii : Int) < (N : Int) := by omega
                            go_wp2_with fail
                            go_region
                            all_goals go_wp2
                            go_roundg (j + 1 - i - 1)
                            case measure => omega
                            case rel =>
                              refine ⟨ii + 1, jj - 1, swp dk ii jj, by go_num, by congr 1; omega, by omega, by omega, by omega, by omega, by omega, by omega, by rw [swp_size]; exact NK.out, ?_, ?_⟩
                              · have hS := SQ.out.swap ii jj (by rw [NK.out]; omega) (by rw [NK.out]; omega)
                                rw [← HG.out, ← HG.out] at hS
                                exact SR.heap hS rfl rfl rfl rfl
                              · rw [← EK.out, pl_go a i j ii jj dk I2.out J2.out (by omega) (by omega)]
                        · have hc2 : ¬ (ii : Int) ≤ (jj : Int) := by omega
                          have hc3 : decide ((ii : Int) ≤ (jj : Int)) = false := decide_eq_false hc2
                          have hc4 : (jj : Int) < (ii : Int) := by omega
                          have J2 : Hid (scanDown (fun x => !lt64 x dk[a]!) dk ii j = jj) := by
                            show _ = _
                            rw [← K2.out.2]
                            exact down_stop _ _ _ _ (.inl (by omega))
                          go_wp2_with fail
                          go_quiet (fail)
                          have SQ := hide' (K2.out.1.drewN nq)
                          obtain ⟨wq, hwq⟩ : ∃ wq, wq = wr.drewN nq := ⟨_, rfl⟩
                          rw [← hwq] at SQ ⊢
                          clear hwq
                          obtain ⟨ya, za⟩ := FAM.out wq SQ.out a (by omega)
                          obtain ⟨yj, zj⟩ := FAM.out wq SQ.out jj (by omega)
                          obtain ⟨⟨q1, x1⟩, x2⟩ := SQ.out.after jj (G a) a (by rw [NK.out]; omega) (by rw [NK.out]; omega)
                          obtain ⟨⟨q2, x3⟩, x4⟩ := SQ.out.after a (G jj) jj (by rw [NK.out]; omega) (by rw [NK.out]; omega)
                          have iA : (a : Int) < (N : Int) := by omega
                          have iJ : (jj : Int) < (N : Int) := by omega
                          go_wp2_with fail
                          go_region
                          all_goals go_wp2
                          go_ret2
                          have hS := SQ.out.swap jj a (by rw [NK.out]; omega) (by rw [NK.out]; omega)
                          rw [← HG.out, ← HG.out] at hS
                          have h1 := pl_stop a i j ii jj dk I2.out J2.out (by omega)
                          rw [EK.out] at h1
                          have h2 := P2.out
                          rw [h1] at h2
                          rw [h2]
                          exact ⟨rfl, SR.heap hS rfl rfl rfl rfl⟩
                    · have cX : Hid (∀ W, Calls Try.prog 75 #[.int .u64 (G ii : Int), .int .u64 (G a : Int)] W fun e w' => e = .returned (.bool true) ∧ w' = W) := fun W => by have := less_any (G ii) (G a) W; rw [hm] at this; exact this
                      go_wp2_with fail
                      go_quiet (first | (go_at_call 75; refine Calls.quiet_of_same (cX.out _)))
                      go_wp2
                      go_roundg (j + 1 - (ii + 1))
                      case measure => omega
                      case rel =>
                        refine ⟨ii + 1, by go_num, by omega, by omega, Nat.le_refl _, K1.out.1.heap rfl rfl rfl rfl, ?_⟩
                        rw [← K1.out.2, up_go _ _ _ _ hc (by simp only [← HG.out]; exact hm)]
                  · have hc2 : ¬ (ii : Int) ≤ (j : Int) := by omega
                    have hc3 : decide ((ii : Int) ≤ (j : Int)) = false := decide_eq_false hc2
                    have I2 : Hid (scanUp (fun x => lt64 x dk[a]!) dk j i = ii) := by
                      show _ = _
                      rw [← K1.out.2]
                      exact up_stop _ _ _ _ (.inl (by omega))
                    go_wp2_with fail
                    go_quiet (fail)
                    have SQ1 := hide' (K1.out.1.drewN nq)
                    clear hc2 hc3
                    go_wp2_with fail
                    go_loopg [11] (j + 1) (fun kx s11 wr => ∃ jj : Nat, s11 = .int .i64 jj ∧ jj ≤ j ∧ a ≤ jj ∧ jj ≤ kx ∧ Hid (SR w0 wr blk dk ∧ scanDown (fun x => !lt64 x dk[a]!) dk ii jj = scanDown (fun x => !lt64 x dk[a]!) dk ii j))
                    case atStart => exact ⟨j, rfl, Nat.le_refl _, haj, by omega, SQ1.out, rfl⟩
                    case round =>
                      obtain ⟨jj, rfl, hjj, hajj, hgj, K2⟩ := hrel
                      by_cases hc : ii ≤ jj
                      · exact absurd hc (by omega)
                      · have hc2 : ¬ (ii : Int) ≤ (jj : Int) := by omega
                        have hc3 : decide ((ii : Int) ≤ (jj : Int)) = false := decide_eq_false hc2
                        have hc4 : (jj : Int) < (ii : Int) := by omega
                        have J2 : Hid (scanDown (fun x => !lt64 x dk[a]!) dk ii j = jj) := by
                          show _ = _
                          rw [← K2.out.2]
                          exact down_stop _ _ _ _ (.inl (by omega))
                        go_wp2_with fail
                        go_quiet (fail)
                        have SQ := hide' (K2.out.1.drewN nq)
                        obtain ⟨wq, hwq⟩ : ∃ wq, wq = wr.drewN nq := ⟨_, rfl⟩
                        rw [← hwq] at SQ ⊢
                        clear hwq
                        obtain ⟨ya, za⟩ := FAM.out wq SQ.out a (by omega)
                        obtain ⟨yj, zj⟩ := FAM.out wq SQ.out jj (by omega)
                        obtain ⟨⟨q1, x1⟩, x2⟩ := SQ.out.after jj (G a) a (by rw [NK.out]; omega) (by rw [NK.out]; omega)
                        obtain ⟨⟨q2, x3⟩, x4⟩ := SQ.out.after a (G jj) jj (by rw [NK.out]; omega) (by rw [NK.out]; omega)
                        have iA : (a : Int) < (N : Int) := by omega
                        have iJ : (jj : Int) < (N : Int) := by omega
                        go_wp2_with fail
                        go_region
                        all_goals go_wp2
                        go_ret2
                        have hS := SQ.out.swap jj a (by rw [NK.out]; omega) (by rw [NK.out]; omega)
                        rw [← HG.out, ← HG.out] at hS
                        have h1 := pl_stop a i j ii jj dk I2.out J2.out (by omega)
                        rw [EK.out] at h1
                        have h2 := P2.out
                        rw [h1] at h2
                        rw [h2]
                        exact ⟨rfl, SR.heap hS rfl rfl rfl rfl⟩
          · have hc2 : ¬ (ii : Int) ≤ (jj : Int) := by omega
            have hc3 : decide ((ii : Int) ≤ (jj : Int)) = false := decide_eq_false hc2
            have hc4 : (jj : Int) < (ii : Int) := by omega
            have J2 : Hid (scanDown (fun x => !lt64 x dk[a]!) dk ii b1 = jj) := by
              show _ = _
              rw [← K2.out.2]
              exact down_stop _ _ _ _ (.inl (by omega))
            go_wp2_with fail
            go_quiet (fail)
            have SQ := hide' (K2.out.1.drewN nq)
            obtain ⟨wq, hwq⟩ : ∃ wq, wq = wr.drewN nq := ⟨_, rfl⟩
            rw [← hwq] at SQ ⊢
            clear hwq
            obtain ⟨ya, za⟩ := FAM.out wq SQ.out a (by omega)
            obtain ⟨yj, zj⟩ := FAM.out wq SQ.out jj (by omega)
            obtain ⟨⟨q1, x1⟩, x2⟩ := SQ.out.after jj (G a) a (by rw [NK.out]; omega) (by rw [NK.out]; omega)
            obtain ⟨⟨q2, x3⟩, x4⟩ := SQ.out.after a (G jj) jj (by rw [NK.out]; omega) (by rw [NK.out]; omega)
            have iA : (a : Int) < (N : Int) := by omega
            have iJ : (jj : Int) < (N : Int) := by omega
            go_wp2_with fail
            go_region
            all_goals go_wp2
            go_ret2
            have hS := SQ.out.swap jj a (by rw [NK.out]; omega) (by rw [NK.out]; omega)
            rw [← HG.out, ← HG.out] at hS
            have h2 := par_one a (b1 + 1) pv ii jj d dk HD1.out (by rw [HE.out, ← HI.out]; exact I2.out) (by rw [HE.out]; exact J2.out) (by omega)
            rw [h2]
            exact ⟨rfl, SR.heap hS rfl rfl rfl rfl⟩
      · have cX : Hid (∀ W, Calls Try.prog 75 #[.int .u64 (G ii : Int), .int .u64 (G a : Int)] W fun e w' => e = .returned (.bool true) ∧ w' = W) := fun W => by have := less_any (G ii) (G a) W; rw [hm] at this; exact this
        go_wp2_with fail
        go_quiet (first | (go_at_call 75; refine Calls.quiet_of_same (cX.out _)))
        go_wp2
        go_roundg (b1 + 1 - (ii + 1))
        case measure => omega
        case rel =>
          refine ⟨ii + 1, by go_num, by omega, by omega, Nat.le_refl _, K1.out.1.heap rfl rfl rfl rfl, ?_⟩
          rw [← K1.out.2, up_go _ _ _ _ hc (by simp only [← HG.out]; exact hm)]
    · have hc2 : ¬ (ii : Int) ≤ (b1 : Int) := by omega
      have hc3 : decide ((ii : Int) ≤ (b1 : Int)) = false := decide_eq_false hc2
      have I2 : Hid (scanUp (fun x => lt64 x dk[a]!) dk b1 i = ii) := by
        show _ = _
        rw [← K1.out.2]
        exact up_stop _ _ _ _ (.inl (by omega))
      go_wp2_with fail
      go_quiet (fail)
      have SQ1 := hide' (K1.out.1.drewN nq)
      clear hc2 hc3
      go_wp2_with fail
      go_loopg [11] (b1 + 1) (fun kx s11 wr => ∃ jj : Nat, s11 = .int .i64 jj ∧ jj ≤ b1 ∧ a ≤ jj ∧ jj ≤ kx ∧ Hid (SR w0 wr blk dk ∧ scanDown (fun x => !lt64 x dk[a]!) dk ii jj = scanDown (fun x => !lt64 x dk[a]!) dk ii b1))
      case atStart => exact ⟨b1, rfl, Nat.le_refl _, haj, by omega, SQ1.out, rfl⟩
      case round =>
        obtain ⟨jj, rfl, hjj, hajj, hgj, K2⟩ := hrel
        by_cases hc : ii ≤ jj
        · exact absurd hc (by omega)
        · have hc2 : ¬ (ii : Int) ≤ (jj : Int) := by omega
          have hc3 : decide ((ii : Int) ≤ (jj : Int)) = false := decide_eq_false hc2
          have hc4 : (jj : Int) < (ii : Int) := by omega
          have J2 : Hid (scanDown (fun x => !lt64 x dk[a]!) dk ii b1 = jj) := by
            show _ = _
            rw [← K2.out.2]
            exact down_stop _ _ _ _ (.inl (by omega))
          go_wp2_with fail
          go_quiet (fail)
          have SQ := hide' (K2.out.1.drewN nq)
          obtain ⟨wq, hwq⟩ : ∃ wq, wq = wr.drewN nq := ⟨_, rfl⟩
          rw [← hwq] at SQ ⊢
          clear hwq
          obtain ⟨ya, za⟩ := FAM.out wq SQ.out a (by omega)
          obtain ⟨yj, zj⟩ := FAM.out wq SQ.out jj (by omega)
          obtain ⟨⟨q1, x1⟩, x2⟩ := SQ.out.after jj (G a) a (by rw [NK.out]; omega) (by rw [NK.out]; omega)
          obtain ⟨⟨q2, x3⟩, x4⟩ := SQ.out.after a (G jj) jj (by rw [NK.out]; omega) (by rw [NK.out]; omega)
          have iA : (a : Int) < (N : Int) := by omega
          have iJ : (jj : Int) < (N : Int) := by omega
          go_wp2_with fail
          go_region
          all_goals go_wp2
          go_ret2
          have hS := SQ.out.swap jj a (by rw [NK.out]; omega) (by rw [NK.out]; omega)
          rw [← HG.out, ← HG.out] at hS
          have h2 := par_one a (b1 + 1) pv ii jj d dk HD1.out (by rw [HE.out, ← HI.out]; exact I2.out) (by rw [HE.out]; exact J2.out) (by omega)
          rw [h2]
          exact ⟨rfl, SR.heap hS rfl rfl rfl rfl⟩
end Go.Proofs.Ytghdkicijdfpcaa
