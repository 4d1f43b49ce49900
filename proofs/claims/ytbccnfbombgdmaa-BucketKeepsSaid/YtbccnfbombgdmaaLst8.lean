/- The laws' own functions over rows of items: without, others, total. -/
import Derived.Test.YtbccnfbombgdmaaCut8
set_option linter.unusedVariables false
set_option linter.unusedSimpArgs false
set_option maxRecDepth 8000
namespace Go.Proofs.Ytbccnfbombgdmaa
open Go.RowKit Go.Deep Math

theorem app_one {w : World} {base : Nat} {v : Value} {xs : List It} (h : Row w base v xs) (x : It) (hx : Oks [x]) (hn : xs.length + 1 ≤ 1048576) (hb : base ≤ w.heap.size) :
    ∃ va vn vc w', (Builtin.append_ #[30, 30] 30 #[v, .slice (some ⟨w.heap.size, 0, none⟩) 1 1]).run Try.prog (w.alloc (.cells #[.string (txt x.key), .string (txt x.value), .int .u32 x.flags, .int .i64 x.exp, .int .u64 x.ver] 36)) = .ok (.slice va vn vc) w' ∧ vn = xs.length + 1 ∧ Row w' base (.slice va vn vc) (xs ++ [x]) ∧ Keep v.ownBlock.toList w w' := by
  have hbk : Blk (w.alloc (.cells #[.string (txt x.key), .string (txt x.value), .int .u32 x.flags, .int .i64 x.exp, .int .u64 x.ver] 36)) w.heap.size (itCells x) 36 := Blk.new w _ 36
  have hI : ItsAt (w.alloc (.cells #[.string (txt x.key), .string (txt x.value), .int .u32 x.flags, .int .i64 x.exp, .int .u64 x.ver] 36)) (some ⟨w.heap.size, 0, none⟩) [x].length [x] := its_blk (pad := []) (by simpa [itsCells] using hbk) rfl hx
  have b := (Below.refl w.heap.size w).alloc (Nat.le_refl _) (.cells #[.string (txt x.key), .string (txt x.value), .int .u32 x.flags, .int .i64 x.exp, .int .u64 x.ver] 36)
  obtain ⟨v', w2, h1, h2, h3, _⟩ := run_app (c := 1) (h.below b) hI (by simp; omega) (Nat.le_trans hb b.size)
  obtain ⟨va, vc, rfl⟩ := h2.sl
  refine ⟨va, _, vc, w2, h1 30, by simp, h2, ?_⟩
  have k1 : Keep v.ownBlock.toList w (w.alloc (.cells #[.string (txt x.key), .string (txt x.value), .int .u32 x.flags, .int .i64 x.exp, .int .u64 x.ver] 36)) := Keep.of_below b
  exact k1.trans ⟨h3.os, h3.tape, h3.output, h3.size, fun q hq hn => h3.block q hq (fun e => hn (by rw [← e]; simp))⟩ (fun q hq => .inl hq)
theorem row_keep_bel {w0 w w' : World} {v : Value} {xs : List It} (hr : Row w w0.heap.size v xs) (hb : Below w0.heap.size w0 w) (k : Keep v.ownBlock.toList w w') : Below w0.heap.size w0 w' :=
  hb.trans (k.below (fun q hq => (hr.lt q (by simpa using hq)).1) hb.size)

set_option maxHeartbeats 4000000 in
theorem without_any (a : Option Addr) (n cap : Nat) (xs : List It) (key : List UInt8) (hn : n ≤ 1000) (w : World) (h : ItsAt w a n xs) :
    Calls Try.prog 15 #[.slice a n cap, .string (txt key)] w fun e w' => ∃ va vn vc, e = .returned (.slice va vn vc) ∧ vn = (xs.filter (notKey key)).length ∧ Row w' w.heap.size (.slice va vn vc) (xs.filter (notKey key)) ∧ Below w.heap.size w w' := by
  have H := hide h
  have HL := hide h.len
  clear h
  go_enter Try.func15, Try.ntmps15
  go_wp2_with fail
  go_loopg [5, 6] n (fun kx s5 s6 wr => ∃ (i : Nat) (va : Option Addr) (vn vc : Nat), s5 = .slice va vn vc ∧ s6 = .int .i64 i ∧ i ≤ n ∧ n - i ≤ kx ∧ Hid (vn = ((xs.take i).filter (notKey key)).length ∧ Row wr w.heap.size (.slice va vn vc) ((xs.take i).filter (notKey key)) ∧ Below w.heap.size w wr))
  case atStart => exact ⟨0, none, 0, 0, rfl, rfl, Nat.zero_le _, by omega, rfl, Row.nil _ _, Below.refl _ _⟩
  case round =>
    obtain ⟨i, va, vn, vc, rfl, rfl, hin, hg, I⟩ := hrel
    by_cases hlt : i < n
    · have hlt2 : (i : Int) < (n : Int) := by omega
      obtain ⟨x, hx⟩ : ∃ x, xs[i]? = some x := ⟨_, List.getElem?_eq_getElem (by rw [← HL.out]; exact hlt)⟩
      obtain ⟨b, o, rfl, hb, hc⟩ := (H.out.below I.out.2.2).cell i x hx
      obtain ⟨c0, c1, c2, c3, c4⟩ := hc.vals
      have HT : Hid (xs.take (i + 1) = xs.take i ++ [x]) := by show _ = _; rw [List.take_add_one, hx]; rfl
      have HO : Hid (Oks [x]) := fun z hz => by simp at hz; rw [hz]; exact H.out.fits x (List.mem_of_getElem? hx)
      have he : ((txt x.key).toList == (txt key).toList) = decide (x.key = key) := by rw [txt_list, txt_list]; by_cases h : x.key = key <;> simp [h]
      clear hc hx hb
      by_cases hk : x.key = key
      · rw [decide_eq_true hk] at he
        have E : Hid ((xs.take (i + 1)).filter (notKey key) = (xs.take i).filter (notKey key)) := by show _ = _; rw [HT.out]; simp [notKey, hk]
        clear hk HT
        go_wp2
        go_roundg (n - (i + 1))
        case measure => omega
        case rel => exact ⟨i + 1, va, vn, vc, rfl, rfl, by omega, by omega, by rw [E.out]; exact I.out⟩
      · rw [decide_eq_false hk] at he
        have E : Hid ((xs.take (i + 1)).filter (notKey key) = (xs.take i).filter (notKey key) ++ [x]) := by show _ = _; rw [HT.out]; simp [notKey, hk]
        have hfl : ((xs.take i).filter (notKey key)).length ≤ 1000 := by
          have h1 := List.length_filter_le (notKey key) (xs.take i)
          have h2 : (xs.take i).length ≤ i := by rw [List.length_take]; omega
          omega
        obtain ⟨ua, un, uc, w2, hrun, hun, hrow, hkp⟩ := app_one I.out.2.1 x HO.out (by omega) I.out.2.2.size
        have HR := hide hrun
        have T : Hid (un = ((xs.take (i + 1)).filter (notKey key)).length ∧ Row w2 w.heap.size (.slice ua un uc) ((xs.take (i + 1)).filter (notKey key)) ∧ Below w.heap.size w w2) := by
          refine ⟨by rw [E.out, hun]; simp, by rw [E.out]; exact hrow, row_keep_bel I.out.2.1 I.out.2.2 hkp⟩
        clear hk HT hrun hun hrow hkp hfl
        go_wp2_with (at_builtin; refine Lib.wpList_append_run _ rfl _ _ _ _ rfl _ _ rfl rfl _ _ HR.out ?_)
        go_roundg (n - (i + 1))
        case measure => omega
        case rel => exact ⟨i + 1, ua, un, uc, rfl, rfl, by omega, by omega, T.out⟩
    · obtain rfl : i = n := by omega
      have hlt2 : ¬ (i : Int) < (i : Int) := by omega
      have I' := I.out
      rw [HL.out, List.take_length] at I'
      have II := hide I'
      clear I'
      go_wp2
      go_ret
      exact ⟨va, vn, vc, rfl, II.out⟩

/-- An item stands in another bucket than the one told. -/
def notAt (home : Int) (x : It) : Bool := decide (Bl.hashK (txt x.key) % 4 ≠ home)
set_option maxHeartbeats 4000000 in
theorem others_any (a : Option Addr) (n cap : Nat) (xs : List It) (home : Int) (hn : n ≤ 1000) (w : World) (h : ItsAt w a n xs) :
    Calls Try.prog 25 #[.slice a n cap, .int .u64 home] w fun e w' => ∃ va vn vc, e = .returned (.slice va vn vc) ∧ vn = (xs.filter (notAt home)).length ∧ Row w' w.heap.size (.slice va vn vc) (xs.filter (notAt home)) ∧ Below w.heap.size w w' := by
  have H := hide h
  have HL := hide h.len
  clear h
  go_enter Try.func25, Try.ntmps25
  go_wp2_with fail
  go_loopg [5, 6] n (fun kx s5 s6 wr => ∃ (i : Nat) (va : Option Addr) (vn vc : Nat), s5 = .slice va vn vc ∧ s6 = .int .i64 i ∧ i ≤ n ∧ n - i ≤ kx ∧ Hid (vn = ((xs.take i).filter (notAt home)).length ∧ Row wr w.heap.size (.slice va vn vc) ((xs.take i).filter (notAt home)) ∧ Below w.heap.size w wr))
  case atStart => exact ⟨0, none, 0, 0, rfl, rfl, Nat.zero_le _, by omega, rfl, Row.nil _ _, Below.refl _ _⟩
  case round =>
    obtain ⟨i, va, vn, vc, rfl, rfl, hin, hg, I⟩ := hrel
    by_cases hlt : i < n
    · have hlt2 : (i : Int) < (n : Int) := by omega
      obtain ⟨x, hx⟩ : ∃ x, xs[i]? = some x := ⟨_, List.getElem?_eq_getElem (by rw [← HL.out]; exact hlt)⟩
      obtain ⟨b, o, rfl, hb, hc⟩ := (H.out.below I.out.2.2).cell i x hx
      obtain ⟨c0, c1, c2, c3, c4⟩ := hc.vals
      have HT : Hid (xs.take (i + 1) = xs.take i ++ [x]) := by show _ = _; rw [List.take_add_one, hx]; rfl
      have HO : Hid (Oks [x]) := fun z hz => by simp at hz; rw [hz]; exact H.out.fits x (List.mem_of_getElem? hx)
      have cH : Hid (Calls Try.prog 24 #[.string (txt x.key)] wr fun e w' => e = .returned (.int .u64 (Bl.hashK (txt x.key))) ∧ w' = wr) := Bl.refHash_any (txt x.key) wr (by rw [txt_size]; have := (H.out.fits x (List.mem_of_getElem? hx)).2.1; unfold maxLen; omega)
      have hr := Bl.hashK_range (txt x.key)
      obtain ⟨K, hK⟩ : ∃ K, K = Bl.hashK (txt x.key) := ⟨_, rfl⟩
      rw [← hK] at cH hr
      have HK := hide hK
      have hr0 := hr.1
      have hr1 := hr.2
      clear hc hx hb hK hr
      go_wp2_with fail
      refine cH.out.mono ?_
      rintro e w9 ⟨rfl, hw9⟩
      obtain rfl : wr = w9 := hw9.symm
      clear hw9 cH
      by_cases hk : K % 4 = home
      · have hq : (K % 4 == home) = true := by simpa using hk
        have E : Hid ((xs.take (i + 1)).filter (notAt home) = (xs.take i).filter (notAt home)) := by show _ = _; rw [HT.out]; simp [notAt, ← HK.out, hk]
        clear hk HT
        go_wp2
        go_roundg (n - (i + 1))
        case measure => omega
        case rel => exact ⟨i + 1, va, vn, vc, rfl, rfl, by omega, by omega, by rw [E.out]; exact I.out⟩
      · have hq : (K % 4 == home) = false := by simpa using hk
        have E : Hid ((xs.take (i + 1)).filter (notAt home) = (xs.take i).filter (notAt home) ++ [x]) := by show _ = _; rw [HT.out]; simp [notAt, ← HK.out, hk]
        have hfl : ((xs.take i).filter (notAt home)).length ≤ 1000 := by
          have h1 := List.length_filter_le (notAt home) (xs.take i)
          have h2 : (xs.take i).length ≤ i := by rw [List.length_take]; omega
          omega
        obtain ⟨ua, un, uc, w2, hrun, hun, hrow, hkp⟩ := app_one I.out.2.1 x HO.out (by omega) I.out.2.2.size
        have HR := hide hrun
        have T : Hid (un = ((xs.take (i + 1)).filter (notAt home)).length ∧ Row w2 w.heap.size (.slice ua un uc) ((xs.take (i + 1)).filter (notAt home)) ∧ Below w.heap.size w w2) := by
          refine ⟨by rw [E.out, hun]; simp, by rw [E.out]; exact hrow, row_keep_bel I.out.2.1 I.out.2.2 hkp⟩
        clear hk HT hrun hun hrow hkp hfl
        go_wp2_with (at_builtin; refine Lib.wpList_append_run _ rfl _ _ _ _ rfl _ _ rfl rfl _ _ HR.out ?_)
        go_roundg (n - (i + 1))
        case measure => omega
        case rel => exact ⟨i + 1, ua, un, uc, rfl, rfl, by omega, by omega, T.out⟩
    · obtain rfl : i = n := by omega
      have hlt2 : ¬ (i : Int) < (i : Int) := by omega
      have I' := I.out
      rw [HL.out, List.take_length] at I'
      have II := hide I'
      clear I'
      go_wp2
      go_ret
      exact ⟨va, vn, vc, rfl, II.out⟩

set_option maxHeartbeats 4000000 in
theorem total_any (a : Option Addr) (n cap : Nat) (xs : List It) (hn : n ≤ 1000) (ht : total xs ≤ 1000000) (w : World) (h : ItsAt w a n xs) :
    Calls Try.prog 26 #[.slice a n cap] w fun e w' => e = .returned (.int .i64 (total xs : Nat)) ∧ Below w.heap.size w w' := by
  have H := hide h
  have HL := hide h.len
  have HTT := hide ht
  clear h ht
  go_enter Try.func26, Try.ntmps26
  go_wp2_with fail
  go_loopg [3, 4] n (fun kx s3 s4 wr => ∃ i m : Nat, s3 = .int .i64 m ∧ s4 = .int .i64 i ∧ i ≤ n ∧ n - i ≤ kx ∧ m ≤ 1000000 ∧ Hid (m = total (xs.take i) ∧ Below w.heap.size w wr))
  case atStart => exact ⟨0, 0, rfl, rfl, Nat.zero_le _, by omega, by omega, rfl, Below.refl _ _⟩
  case round =>
    obtain ⟨i, m, rfl, rfl, hin, hg, hm, I⟩ := hrel
    by_cases hlt : i < n
    · have hlt2 : (i : Int) < (n : Int) := by omega
      obtain ⟨x, hx⟩ : ∃ x, xs[i]? = some x := ⟨_, List.getElem?_eq_getElem (by rw [← HL.out]; exact hlt)⟩
      obtain ⟨b, o, rfl, hb, hc⟩ := (H.out.below I.out.2).cell i x hx
      obtain ⟨c0, c1, c2, c3, c4⟩ := hc.vals
      have hs := total_take_succ xs i x hx
      have hle := total_take_le xs (i + 1)
      have htt := HTT.out
      have hm0 := I.out.1
      have hsz : m + (32 + x.key.length + x.value.length) ≤ 1000000 := by unfold It.size at hs; omega
      have s0 := txt_size x.key
      have s1 := txt_size x.value
      obtain ⟨kl, hkl⟩ : ∃ kl, kl = x.key.length := ⟨_, rfl⟩
      obtain ⟨vl, hvl⟩ : ∃ vl, vl = x.value.length := ⟨_, rfl⟩
      rw [← hkl] at s0 hsz
      rw [← hvl] at s1 hsz
      have T : Hid (m + 32 + kl + vl = total (xs.take (i + 1))) := by show _ = _; rw [hs, hm0, hkl, hvl]; unfold It.size; omega
      clear hc hx hb hs hle htt hm0 hkl hvl
      go_wp2_with fail
      go_quiet (first | fail)
      go_wp2
      go_roundg (n - (i + 1))
      case measure => omega
      case rel => exact ⟨i + 1, m + 32 + kl + vl, by simp, rfl, by omega, by omega, by omega, T.out, I.out.2.trans ((below_q2 wr nq).mono I.out.2.size)⟩
    · obtain rfl : i = n := by omega
      have hlt2 : ¬ (i : Int) < (i : Int) := by omega
      have I' := I.out
      rw [HL.out, List.take_length] at I'
      have II := hide I'
      clear I'
      go_wp2
      go_ret
      exact ⟨by rw [II.out.1]; rfl, II.out.2⟩
end Go.Proofs.Ytbccnfbombgdmaa
