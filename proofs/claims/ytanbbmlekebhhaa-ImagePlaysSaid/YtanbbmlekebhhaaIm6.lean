/- Package image: 'Load'. -/
import Derived.Test.YtanbbmlekebhhaaIm5
set_option linter.unusedVariables false
set_option linter.unusedSimpArgs false
set_option maxRecDepth 8000
namespace Go.Proofs.Ytanbbmlekebhhaa
open Go.RowKit Go.Deep Math

/-- The same device, but for its counts. -/
structure Like (S S' : Dv) : Prop where
  cs : S'.cs = S.cs
  armed : S'.armed = S.armed
  off : S'.off = S.off
  losses : S'.losses = S.losses
theorem Like.refl (S : Dv) : Like S S := ⟨rfl, rfl, rfl, rfl⟩
theorem Like.trans {a b c : Dv} (h : Like a b) (k : Like b c) : Like a c := ⟨k.cs.trans h.cs, k.armed.trans h.armed, k.off.trans h.off, k.losses.trans h.losses⟩
theorem like_read (S : Dv) (k : Int) : Like S (S.readDo k) := by
  unfold Dv.readDo
  split
  · exact Like.refl S
  · split
    · exact Like.refl S
    · exact ⟨rfl, rfl, rfl, rfl⟩
theorem Like.part {S S' : Dv} (h : Like S S') (at0 : Int) (k : Nat) : S'.part at0 k = S.part at0 k := by
  have h1 : S'.readErr at0 = S.readErr at0 := by unfold Dv.readErr Dv.has; rw [h.cs, h.off]
  have h2 : S'.readText at0 = S.readText at0 := by unfold Dv.readText Dv.has; rw [h.cs, h.off]
  unfold Dv.part; rw [h1, h2]

/-- What the first k of n pages have together. -/
def Dv.joined (S : Dv) (first n : Nat) : Nat → Option (List UInt8)
  | 0 => some []
  | k + 1 => match S.joined first n k with
    | none => none
    | some b => match S.part ((first + k : Nat) : Int) k with
      | none => none
      | some p => if p.length < 376 ∧ k + 1 < n then none else some (b ++ p)
theorem Dv.joined_le (S : Dv) (first n : Nat) (hp : ∀ k p, S.part ((first + k : Nat) : Int) k = some p → p.length ≤ 376) : ∀ (k : Nat) (b : List UInt8), S.joined first n k = some b → b.length ≤ 376 * k
  | 0, b, h => by simp only [Dv.joined, Option.some.injEq] at h; subst h; simp
  | k + 1, b, h => by
    unfold Dv.joined at h
    split at h
    · cases h
    · rename_i b0 hb0
      split at h
      · cases h
      · rename_i p hp0
        split at h
        · cases h
        · simp only [Option.some.injEq] at h
          subst h
          have h1 := Dv.joined_le S first n hp k b0 hb0
          have h2 := hp k p hp0
          rw [List.length_append]; omega
theorem part_le {S : Dv} {at0 : Int} {k : Nat} {p : List UInt8} (h : S.part at0 k = some p) : p.length ≤ 376 := by
  unfold Dv.part at h
  split at h
  · unfold imP at h
    split at h
    · rename_i hh
      simp only [Option.some.injEq] at h
      subst h
      generalize up (sl (S.readText at0).data.toList 2 4) = u at hh ⊢
      unfold sl
      rw [List.length_drop, List.length_take]
      omega
    · cases h
  · cases h
theorem joined_none (S : Dv) (first n : Nat) : ∀ (k j : Nat), S.joined first n k = none → S.joined first n (k + j) = none
  | k, 0, h => h
  | k, j + 1, h => by
    have := joined_none S first n k j h
    rw [show k + (j + 1) = (k + j) + 1 by omega, Dv.joined, this]

def Dv.loadErr (S : Dv) (first n : Int) : Int := if withinB S.cs.length first n = false then 1 else if S.off = true then 4 else
  match S.joined first.toNat n.toNat n.toNat with
  | none => 3
  | some b => match lsi b with
    | none => 3
    | some _ => 0
def Dv.loadIts (S : Dv) (first n : Int) : List It := if withinB S.cs.length first n = false then [] else if S.off = true then [] else
  match S.joined first.toNat n.toNat n.toNat with
  | none => []
  | some b => (lsi b).getD []
def LdPost (w : World) (d : Nat) (F : List Nat) (S : Dv) (er : Int) (xs : List It) (e : Ending) (w' : World) : Prop :=
  ∃ v, e = .returned (.tuple #[v, .int .i64 er]) ∧ w'.ownsRow w.heap.size 32 5 v xs.length (itsCells xs) ∧ Keep F w w' ∧ ∃ S', Like S S' ∧ DvAt w' d F S'

theorem own_lower {w : World} {base base' : Nat} {e : TypeId} {size : Nat} {v : Value} {n : Nat} {xs : List Value} (h : w.ownsRow base e size v n xs) (hb : base' ≤ base) : w.ownsRow base' e size v n xs := by
  refine ⟨h.1, ?_⟩
  rcases h.2 with h2 | ⟨g, cap, cur, hv, hg, r⟩
  · exact .inl h2
  · exact .inr ⟨g, cap, cur, hv, Nat.le_trans hb hg, r⟩
theorem own_keepF {w w0 w' : World} {F : List Nat} {e : TypeId} {size : Nat} {v : Value} {n : Nat} {xs : List Value} (h : w.ownsRow w0.heap.size e size v n xs) (hF : ∀ k ∈ F, k < w0.heap.size) (k : Keep F w w') : w'.ownsRow w0.heap.size e size v n xs := by
  refine ⟨h.1, ?_⟩
  rcases h.2 with h2 | ⟨g, cap, cur, hv, hg, hh, r⟩
  · exact .inl h2
  · refine .inr ⟨g, cap, cur, hv, hg, ?_, r⟩
    rw [k.block g (Array.getElem?_eq_some_iff.1 hh).1 (fun hf => by have := hF g hf; omega)]
    exact hh
theorem BS.news {w : World} {a : Addr} {n cap : Nat} {l : List UInt8} (h : BS w (some a) n cap l) : ∀ j u, (bCells l)[j]? = some u → w.cell? (a.add j) = some u := by
  intro j u hu
  have hj : j < n := by have := (List.getElem?_eq_some_iff.1 hu).1; rw [bCells_length, ← h.len] at this; exact this
  obtain ⟨b, off, ha, _, hc⟩ := h.cell j hj
  cases ha
  rw [Addr.add_lit, hc, ← hu]
  have hj2 : j < l.length := by rw [← h.len]; exact hj
  simp [bCells, List.getD_eq_getElem?_getD, List.getElem?_eq_getElem hj2]

set_option maxHeartbeats 4000000 in
theorem load15 (d : Nat) (F : List Nat) (S : Dv) (first n : Int) (hn1 : n ≤ 9223372036854775807) (w : World) (hD : DvAt w d F S) :
    Calls Try.prog 12 #[.pointer (some ⟨d, 0, none⟩), .int .i64 first, .int .i64 n] w (LdPost w d F S (S.loadErr first n) (S.loadIts first n)) := by
  have cw := hide (within_any d F S first n hn1 w hD)
  have cp := hide (power_at d F S w hD)
  have HD := hide hD
  have HF := hide hD.lt
  have hm := hD.good.many
  unfold LdPost
  cases hw : withinB S.cs.length first n with
  | false =>
    rw [hw] at cw
    rw [show S.loadErr first n = 1 by unfold Dv.loadErr; rw [hw]; rfl, show S.loadIts first n = [] by unfold Dv.loadIts; rw [hw]; rfl]
    clear hw hm hD
    go_enter Try.func12, Try.ntmps12
    go_wp2_with (go_at_call 28; refine cw.out.mono ?_; rintro e w' ⟨rfl, hw⟩; obtain rfl : w = w' := hw.symm; clear hw)
    go_ret2
    exact ⟨_, rfl, World.ownsRow_nil _ _ _ _, Keep.refl _ _, S, Like.refl S, HD.out⟩
  | true =>
    rw [hw] at cw
    have hw2 := hw
    simp only [withinB, Bool.and_eq_true, decide_eq_true_eq] at hw2
    obtain ⟨w1, w2, w3⟩ := hw2
    obtain ⟨f, rfl⟩ := Int.eq_ofNat_of_zero_le w1
    obtain ⟨N, rfl⟩ := Int.eq_ofNat_of_zero_le w2
    have hfN : f + N ≤ 4096 := by omega
    clear w1 w2 w3 hn1 hm hD
    cases hO : S.off with
    | true =>
      rw [hO] at cp
      rw [show S.loadErr f N = 4 by unfold Dv.loadErr; rw [hw, hO]; rfl, show S.loadIts f N = [] by unfold Dv.loadIts; rw [hw, hO]; rfl]
      clear hw hO
      go_enter Try.func12, Try.ntmps12
      go_wp2_with (first
        | (go_at_call 28; refine cw.out.mono ?_; rintro e w' ⟨rfl, hw⟩; obtain rfl : w = w' := hw.symm; clear hw)
        | (go_at_call 33; refine cp.out.mono ?_; rintro e w' ⟨rfl, hw⟩; obtain rfl : w = w' := hw.symm; clear hw))
      go_ret2
      exact ⟨_, rfl, World.ownsRow_nil _ _ _ _, Keep.refl _ _, S, Like.refl S, HD.out⟩
    | false =>
      rw [hO] at cp
      obtain ⟨er, her⟩ : ∃ er, er = S.loadErr f N := ⟨_, rfl⟩
      obtain ⟨xs, hxs⟩ : ∃ xs, xs = S.loadIts f N := ⟨_, rfl⟩
      have E1 : Hid (er = match S.joined f N N with | none => 3 | some b => match lsi b with | none => 3 | some _ => 0) := by
        show _ = _
        rw [her]; unfold Dv.loadErr; rw [hw, hO]; simp
      have E2 : Hid (xs = match S.joined f N N with | none => [] | some b => (lsi b).getD []) := by
        show _ = _
        rw [hxs]; unfold Dv.loadIts; rw [hw, hO]; simp
      rw [← her, ← hxs]
      clear her hxs hw hO
      have HFN := hide hfN
      have hN : N ≤ 4096 := by omega
      obtain ⟨i0, hi0, hp0⟩ := Option.map_eq_some_iff.1 info5
      simp only [Prod.mk.injEq] at hp0
      obtain ⟨hz0, hz1, hz2⟩ := hp0
      clear hfN
      go_enter Try.func12, Try.ntmps12
      go_wp2_with (first
        | (go_at_call 28; refine cw.out.mono ?_; rintro e w' ⟨rfl, hw⟩; obtain rfl : w = w' := hw.symm; clear hw)
        | (go_at_call 33; refine cp.out.mono ?_; rintro e w' ⟨rfl, hw⟩; obtain rfl : w = w' := hw.symm; clear hw))
      go_loopg [8, 21] N (fun kx s8 s21 wr => ∃ (k : Nat) (va : Option Addr) (vk vc : Nat), s21 = .int .i64 k ∧ s8 = .slice va vk vc ∧ k ≤ N ∧ N - k ≤ kx ∧ Hid (∃ (b : List UInt8) (Sk : Dv), S.joined f N k = some b ∧ vk = b.length ∧ wr.ownsRow w.heap.size 5 1 (.slice va vk vc) vk (bCells b) ∧ Keep F w wr ∧ Like S Sk ∧ DvAt wr d F Sk))
      case atStart => exact ⟨0, none, 0, 0, rfl, rfl, Nat.zero_le _, by omega, [], S, rfl, rfl, World.ownsRow_nil _ _ _ _, Keep.refl _ _, Like.refl _, HD.out⟩
      case round =>
        obtain ⟨k, va, vk, vc, rfl, rfl, hkN, hkx, I⟩ := hrel
        obtain ⟨b, Sk, hj, hvk, hown, hkp, hlk, hdk⟩ := I.out
        clear I
        by_cases hlt : k < N
        · have hlt2 : (k : Int) < (N : Int) := by omega
          have cr := hide (read15 d F Sk f k (by have := HFN.out; omega) (by omega) wr hdk)
          have hpt := hlk.part ((f + k : Nat) : Int) k
          have hlk2 := hlk.trans (like_read Sk ((f + k : Nat) : Int))
          unfold RdPost at cr
          rw [hpt] at cr
          generalize Sk.readDo ((f + k : Nat) : Int) = Sn at *
          have hbl := S.joined_le f N (fun _ _ => part_le) k b hj
          have HBL : Hid (b.length ≤ 1540096) := by show _ ≤ _; omega
          cases hP : S.part ((f + k : Nat) : Int) k with
          | none =>
            rw [hP] at cr
            have NJ : Hid (S.joined f N N = none) := by
              have h1 : S.joined f N (k + 1) = none := by rw [Dv.joined, hj]; simp only; rw [hP]
              have := joined_none S f N (k + 1) (N - (k + 1)) h1
              rw [show k + 1 + (N - (k + 1)) = N by omega] at this
              exact this
            have HKP := hide hkp
            have HLK := hide hlk2
            clear hj hvk hown hkp hlk hdk hP hpt hlk2 hbl
            go_wp2_with (go_at_call 34; refine cr.out.mono ?_; rintro e w1 ⟨h1, h2, rfl⟩; have H1 := hide h1; have H2 := hide h2; clear h1 h2)
            go_ret2
            have e1 := E1.out
            have e2 := E2.out
            rw [NJ.out] at e1 e2
            rw [e1, e2]
            exact ⟨_, rfl, World.ownsRow_nil _ _ _ _, HKP.out.trans H2.out (fun x hx => .inl hx), _, HLK.out, H1.out⟩
          | some p =>
            rw [hP] at cr
            have hpl := part_le hP
            by_cases hsh : p.length < 376 ∧ k + 1 < N
            · have NJ : Hid (S.joined f N N = none) := by
                have h1 : S.joined f N (k + 1) = none := by rw [Dv.joined, hj]; simp only; rw [hP]; simp only; rw [if_pos hsh]
                have := joined_none S f N (k + 1) (N - (k + 1)) h1
                rw [show k + 1 + (N - (k + 1)) = N by omega] at this
                exact this
              have HKP := hide hkp
              have HLK := hide hlk2
              have q1 : ((p.length : Int) < 376) = True := eq_true (by omega)
              have q2 : ((k : Int) < (N : Int) - 1) = True := eq_true (by omega)
              clear hj hvk hown hkp hlk hdk hP hpt hlk2 hbl hsh hpl
              go_wp2_with (go_at_call 34; refine cr.out.mono ?_; rintro e w1 ⟨h1, h2, g, hg, rfl, hb, hbl⟩; have H1 := hide h1; have H2 := hide h2; clear h1 h2 hb hg hbl)
              go_ret2
              have e1 := E1.out
              have e2 := E2.out
              rw [NJ.out] at e1 e2
              rw [e1, e2]
              exact ⟨_, rfl, World.ownsRow_nil _ _ _ _, HKP.out.trans H2.out (fun x hx => .inl hx), _, HLK.out, H1.out⟩
            · have NJ : Hid (S.joined f N (k + 1) = some (b ++ p)) := by
                show _ = _
                rw [Dv.joined, hj]; simp only; rw [hP]; simp only; rw [if_neg hsh]
              have HKP := hide hkp
              have HLK := hide hlk2
              have HOWN := hide hown
              have HVK := hide hvk
              have HPL := hide hpl
              have HSH := hide hsh
              clear hj hkp hlk hdk hP hpt hlk2 hbl hown hvk hsh hpl
              by_cases hq : p.length < 376
              · have q1 : ((p.length : Int) < 376) = True := eq_true (by omega)
                have q2 : ((k : Int) < (N : Int) - 1) = False := eq_false (by have := HSH.out; omega)
                clear hq
                go_wp2_with (first
                  | (go_at_call 34; refine cr.out.mono ?_; rintro e w1 ⟨h1, h2, g, hg, rfl, hb, hbl⟩; have H1 := hide h1; have H2 := hide h2; have HG := hide hg; have HB := hide hb; clear h1 h2 hb hg hbl)
                  | (at_builtin; refine wpList_append_own _ rfl _ _ 39 rfl w.heap.size 5 i0 _ 1 1 Try.underlying39 hi0 hz0 hz1 hz2 rfl (by decide) _ _ _ rfl (own_keepF HOWN.out HF.out H2.out) ⟨g, 8, none⟩ p.length 376 (bCells p) rfl ?qc1 ?qc2 ?qc3 ?qc4 ?qc5 ?qc6 ?_))
                case qc1 => rw [bCells_length, Nat.mul_one]
                case qc2 => exact HB.out.news
                case qc3 => exact bCells_one _
                case qc4 => have := HBL.out; have := HVK.out; have := HPL.out; unfold maxLen; omega
                case qc5 => have := HBL.out; have := HVK.out; have := HPL.out; omega
                case qc6 => have := HKP.out.size; have := H2.out.size; omega
                intro v' w2 hown2 hgrow hnil
                rw [← bCells_append] at hown2
                obtain ⟨a', c', rfl⟩ := own_slice hown2
                have FK := hide ((HKP.out.trans H2.out (fun x hx => .inl hx)).grown hgrow (fun q hq => .inr (HOWN.out.lt q hq).1))
                have hK3 : Keep ((Value.slice va vk vc).ownBlock).toList w1 w2 := (Keep.refl _ w1).grown hgrow (fun q hq => .inl (by rw [hq]; simp))
                have FD := hide (H1.out.same (fun q hq => hK3.block q (H1.out.lt q hq) (fun hm => by
                  have h1 := (HOWN.out.lt q (Option.mem_toList.1 hm)).1
                  have h2 := HF.out q hq
                  omega)))
                have FO := hide hown2
                clear hown2 hgrow hnil hK3
                go_wp2_with fail
                go_roundg (N - (k + 1))
                case measure => omega
                case rel => exact ⟨k + 1, a', _, c', rfl, rfl, by omega, by omega, b ++ p, Sn, NJ.out, by rw [List.length_append, HVK.out], FO.out, FK.out, HLK.out, FD.out⟩
              · have q1 : ((p.length : Int) < 376) = False := eq_false (by omega)
                clear hq
                go_wp2_with (first
                  | (go_at_call 34; refine cr.out.mono ?_; rintro e w1 ⟨h1, h2, g, hg, rfl, hb, hbl⟩; have H1 := hide h1; have H2 := hide h2; have HG := hide hg; have HB := hide hb; clear h1 h2 hb hg hbl)
                  | (at_builtin; refine wpList_append_own _ rfl _ _ 39 rfl w.heap.size 5 i0 _ 1 1 Try.underlying39 hi0 hz0 hz1 hz2 rfl (by decide) _ _ _ rfl (own_keepF HOWN.out HF.out H2.out) ⟨g, 8, none⟩ p.length 376 (bCells p) rfl ?qc1 ?qc2 ?qc3 ?qc4 ?qc5 ?qc6 ?_))
                case qc1 => rw [bCells_length, Nat.mul_one]
                case qc2 => exact HB.out.news
                case qc3 => exact bCells_one _
                case qc4 => have := HBL.out; have := HVK.out; have := HPL.out; unfold maxLen; omega
                case qc5 => have := HBL.out; have := HVK.out; have := HPL.out; omega
                case qc6 => have := HKP.out.size; have := H2.out.size; omega
                intro v' w2 hown2 hgrow hnil
                rw [← bCells_append] at hown2
                obtain ⟨a', c', rfl⟩ := own_slice hown2
                have FK := hide ((HKP.out.trans H2.out (fun x hx => .inl hx)).grown hgrow (fun q hq => .inr (HOWN.out.lt q hq).1))
                have hK3 : Keep ((Value.slice va vk vc).ownBlock).toList w1 w2 := (Keep.refl _ w1).grown hgrow (fun q hq => .inl (by rw [hq]; simp))
                have FD := hide (H1.out.same (fun q hq => hK3.block q (H1.out.lt q hq) (fun hm => by
                  have h1 := (HOWN.out.lt q (Option.mem_toList.1 hm)).1
                  have h2 := HF.out q hq
                  omega)))
                have FO := hide hown2
                clear hown2 hgrow hnil hK3
                go_wp2_with fail
                go_roundg (N - (k + 1))
                case measure => omega
                case rel => exact ⟨k + 1, a', _, c', rfl, rfl, by omega, by omega, b ++ p, Sn, NJ.out, by rw [List.length_append, HVK.out], FO.out, FK.out, HLK.out, FD.out⟩
        · obtain rfl : k = N := by omega
          have hlt2 : ¬ (k : Int) < (k : Int) := by omega
          obtain ⟨hbs, hvc⟩ := own_bs hown
          have hbl := S.joined_le f k (fun _ _ => part_le) k b hj
          have ci := hide (items15 take_is va vk vc b hvc (by omega) wr hbs)
          unfold ItsPost at ci
          have e1 := E1.out
          have e2 := E2.out
          rw [hj] at e1 e2
          simp only [] at e1 e2
          have HKP := hide hkp
          have HLK := hide hlk
          have HDK := hide hdk
          clear hj hvk hown hkp hlk hdk hbs hvc hbl E1 E2
          cases hL : lsi b with
          | none =>
            rw [hL] at ci e1 e2
            have X1 := hide e1
            have X2 := hide e2
            clear hL e1 e2
            go_wp2_with (go_at_call 35; refine ci.out.mono ?_; rintro e w1 ⟨h1, rfl⟩; have H1 := hide h1; clear h1)
            go_ret2
            rw [X1.out, X2.out]
            exact ⟨_, rfl, World.ownsRow_nil _ _ _ _, HKP.out.trans (Keep.of_below H1.out) (fun x hx => .inl hx), _, HLK.out, HDK.out.below H1.out⟩
          | some ys =>
            rw [hL] at ci e1 e2
            have X1 := hide e1
            have X2 := hide e2
            clear hL e1 e2
            go_wp2_with (go_at_call 35; refine ci.out.mono ?_; rintro e w1 ⟨h1, v, rfl, h2⟩; have H1 := hide h1; have H2 := hide h2; clear h1 h2)
            go_ret2
            rw [X1.out, X2.out]
            exact ⟨v, rfl, own_lower H2.out HKP.out.size, HKP.out.trans (Keep.of_below H1.out) (fun x hx => .inl hx), _, HLK.out, HDK.out.below H1.out⟩
end Go.Proofs.Ytanbbmlekebhhaa
