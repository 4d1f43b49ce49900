/- Package image: 'write', 'read'. -/
import Derived.Test.YtanbbmlekebhhaaIm3
import Derived.Test.YtanbbmlekebhhaaPage
set_option linter.unusedVariables false
set_option linter.unusedSimpArgs false
set_option maxRecDepth 8000
namespace Go.Proofs.Ytanbbmlekebhhaa
open Go.RowKit Go.Deep Math

theorem BS.same {w w' : World} {g off n cap : Nat} {l : List UInt8} (h : BS w (some ⟨g, off, none⟩) n cap l) (e : w'.heap[g]? = w.heap[g]?) : BS w' (some ⟨g, off, none⟩) n cap l :=
  BS.mk' h.len h.cap ⟨fun i hi => by
    obtain ⟨b, off', ha, hc⟩ := h.reads.1 i hi
    cases ha
    exact ⟨g, off, rfl, (World.cell?_of_block (a := ⟨g, off + i, none⟩) (show w'.heap[g]? = w.heap[g]? from e)).trans hc⟩, h.reads.2⟩
theorem BS.glt {w : World} {g off n cap : Nat} {l : List UInt8} (h : BS w (some ⟨g, off, none⟩) n cap l) (hn : 0 < n) : g < w.heap.size := by
  obtain ⟨b, o, e, h1, _⟩ := h.cell 0 hn
  cases e
  exact h1
theorem BS.keepF {w w' : World} {F : List Nat} {a : Option Addr} {n cap : Nat} {l : List UInt8} (h : BS w a n cap l) (hF : ∀ x, a = some x → x.block ∉ F) (k : Keep F w w') : BS w' a n cap l := by
  rcases Nat.eq_zero_or_pos n with h0 | h0
  · have hl : l = [] := List.eq_nil_of_length_eq_zero (by have := h.len; omega)
    subst hl
    exact BS.mk' h.len h.cap (Reads.nil _ _)
  · obtain ⟨b, off, rfl, hb, _⟩ := h.cell 0 h0
    exact h.same (k.block b hb (hF _ rfl))
theorem buf_bslice {w : World} {g : Nat} {l : List UInt8} (h : Buf w g l 0) : BSlice w (some ⟨g, 0, none⟩) l g := by
  refine .inr ⟨?_, 0, rfl, fun j hj => ?_⟩
  · unfold Buf at h; exact h.lt
  · unfold Buf at h
    rw [Nat.zero_add]
    refine h.cell ?_
    rw [List.getElem?_append_left (by rw [bCells_length]; exact hj)]
    simp [bCells, List.getElem?_eq_getElem hj]

/-- What the writing of bytes, from page k on, answers and leaves. -/
def wrI (first : Nat) : Nat → Dv → Nat → List UInt8 → Int × Dv
  | 0, S, _, _ => (S.flushErr, S.flushDo)
  | f + 1, S, k, c => if c.length = 0 then (S.flushErr, S.flushDo) else
    if S.writeErr ((first + k : Nat) : Int) ⟨(pageI k (c.take 376)).toArray⟩ = 0 then wrI first f (S.writeDo ((first + k : Nat) : Int) ⟨(pageI k (c.take 376)).toArray⟩) (k + 1) (c.drop 376)
    else (S.writeErr ((first + k : Nat) : Int) ⟨(pageI k (c.take 376)).toArray⟩, S.writeDo ((first + k : Nat) : Int) ⟨(pageI k (c.take 376)).toArray⟩)
/-- How many pages so many bytes take. -/
def pgsN (n : Nat) : Nat := (n + 375) / 376
theorem pgsN_step {rn mm : Nat} (h0 : 0 < rn) (h1 : mm ≤ rn) (h2 : mm = 376 ∨ mm = rn) (h3 : mm ≤ 376) : pgsN rn = 1 + pgsN (rn - mm) := by
  unfold pgsN
  rcases h2 with rfl | rfl
  · omega
  · rw [Nat.sub_self]; omega
def WrPost (w : World) (d : Nat) (F : List Nat) (n : Nat) (er : Int) (S' : Dv) (e : Ending) (w' : World) : Prop :=
  ∃ m : Nat, e = .returned (.tuple #[.int .i64 m, .int .i64 er]) ∧ (er = 0 → m = pgsN n) ∧ ∃ F', DvAt w' d F' S' ∧ Moves F F' w w'

set_option maxHeartbeats 2000000 in
theorem write15 (d : Nat) (F : List Nat) (S : Dv) (first : Nat) (hfi : first ≤ 4096) (a : Option Addr) (n cap : Nat) (b : List UInt8) (hn20 : n ≤ 16777216) (hcap : cap ≤ 9223372036854775807) (w : World) (h : BS w a n cap b) (hgF : ∀ x, a = some x → x.block ∉ F) (hlt : ∀ x, a = some x → x.block < w.heap.size) (hD : DvAt w d F S) :
    Calls Try.prog 31 #[.pointer (some ⟨d, 0, none⟩), .int .i64 first, .slice a n cap] w (WrPost w d F n (wrI first n S 0 b).1 (wrI first n S 0 b).2) := by
  have H := hide h
  have HG := hide hgF
  have HLT := hide hlt
  have HD := hide hD
  have hnc : n ≤ cap := h.cap
  clear h hgF hD hlt
  go_enter Try.func31, Try.ntmps31
  go_wp2_with fail
  go_loopg [2, 8] n (fun kx s2 s8 wr => ∃ (k : Nat) (ra : Option Addr) (rn rc : Nat), s2 = .slice ra rn rc ∧ s8 = .int .i64 k ∧ rn ≤ kx ∧ rn ≤ rc ∧ rc ≤ 9223372036854775807 ∧ rn ≤ n ∧ k ≤ n ∧ k + rn ≤ n ∧ Hid (∃ (c : List UInt8) (Sk : Dv) (Fk : List Nat) (fk : Nat), BS wr ra rn rc c ∧ wrI first fk Sk k c = wrI first n S 0 b ∧ rn ≤ fk ∧ k + pgsN rn = pgsN n ∧ DvAt wr d Fk Sk ∧ Moves F Fk w wr ∧ (∀ x, ra = some x → x.block ∉ Fk ∧ x.block < w.heap.size)))
  case atStart => exact ⟨0, a, n, cap, rfl, rfl, Nat.le_refl _, hnc, hcap, Nat.le_refl _, Nat.zero_le _, by omega, b, S, F, n, H.out, rfl, Nat.le_refl _, by omega, HD.out, Moves.refl _ _, fun x hx => ⟨HG.out x hx, HLT.out x hx⟩⟩
  case round =>
    obtain ⟨k, ra, rn, rc, rfl, rfl, hkx, hrc, hrc63, hrn, hkn, hkr, I⟩ := hrel
    obtain ⟨c, Sk, Fk, fk, hBS, hwr, hfk, hpg, hDk, hMk, hra⟩ := I.out
    clear I
    by_cases h0 : rn = 0
    · have h02 : ¬ (0 : Int) < (rn : Int) := by omega
      have cf := hide (flush_at d Fk Sk wr hDk)
      have E : Hid (wrI first n S 0 b = (Sk.flushErr, Sk.flushDo)) := by
        show _ = _
        rw [← hwr]
        have hc0 : c.length = 0 := by have := hBS.len; omega
        cases fk with
        | zero => rfl
        | succ f => rw [wrI, if_pos hc0]
      have PG : Hid (k = pgsN n) := by show _ = _; rw [← hpg, h0]; rfl
      have HM := hide hMk
      generalize Sk.flushErr = er at *
      generalize Sk.flushDo = S2 at *
      clear hBS hwr hfk hpg hDk hMk hra h0
      go_wp2_with (go_at_call 38; refine cf.out.mono ?_; rintro e w' ⟨rfl, F2, h1, h2⟩; have H1 := hide h1; have H2 := hide h2; clear h1 h2)
      go_ret2
      rw [E.out]
      exact ⟨k, rfl, fun _ => PG.out, F2, H1.out, HM.out.trans H2.out⟩
    · have h02 : (0 : Int) < (rn : Int) := by omega
      obtain ⟨mm, hmm⟩ : ∃ mm, mm = min 376 rn := ⟨_, rfl⟩
      have hmi : min (376 : Int) (rn : Int) = (mm : Int) := by omega
      have hm1 : mm ≤ rn := by omega
      have hm2 : mm ≤ 376 := by omega
      have hm0 : 0 < mm := by omega
      have hm3 : mm = 376 ∨ mm = rn := by omega
      have hclen := hBS.len
      obtain ⟨g, off, rfl, hgl, _⟩ := hBS.cell 0 (by omega)
      have hBp : BS wr (some ⟨g, off, none⟩) mm rc (c.take 376) := by
        have := hBS.sub 0 mm off mm rc rfl (by omega) hm1 rfl (by omega)
        have e : sl c 0 mm = c.take 376 := by
          rw [sl_zero]
          rcases Nat.lt_or_ge 376 rn with h1 | h1
          · rw [show mm = 376 by omega]
          · rw [List.take_of_length_le (by omega), List.take_of_length_le (by omega)]
        rw [e] at this
        exact this
      obtain ⟨er, her⟩ : ∃ er, er = Sk.writeErr ((first + k : Nat) : Int) ⟨(pageI k (c.take 376)).toArray⟩ := ⟨_, rfl⟩
      obtain ⟨S2, hS2⟩ : ∃ S2, S2 = Sk.writeDo ((first + k : Nat) : Int) ⟨(pageI k (c.take 376)).toArray⟩ := ⟨_, rfl⟩
      have hwr2 : (er = 0 → ∃ f2, rn - mm ≤ f2 ∧ wrI first f2 S2 (k + 1) (c.drop 376) = wrI first n S 0 b) ∧ (er ≠ 0 → wrI first n S 0 b = (er, S2)) := by
        obtain ⟨f2, rfl⟩ : ∃ f2, fk = f2 + 1 := ⟨fk - 1, by omega⟩
        rw [wrI, if_neg (by omega), ← her, ← hS2] at hwr
        refine ⟨fun h0 => ⟨f2, by omega, ?_⟩, fun h0 => ?_⟩
        · rw [if_pos h0] at hwr
          exact hwr
        · rw [if_neg h0] at hwr
          exact hwr.symm
      have cl := hide (laid15 k (by omega) (some ⟨g, off, none⟩) mm rc _ hm2 wr hBp)
      have hpl : 8 + mm = (pageI k (c.take 376)).length := by rw [pageI_length, ← hBp.len]
      have cw : Hid (∀ w1, Buf w1 wr.heap.size (pageI k (c.take 376)) 0 → Below wr.heap.size wr w1 → Calls Try.prog 26 #[.pointer (some ⟨d, 0, none⟩), .int .i64 ((first + k : Nat) : Int), .slice (some ⟨wr.heap.size, 0, none⟩) (8 + mm) (8 + mm)] w1 fun e w2 => e = .returned (.int .i64 er) ∧ ∃ F2, DvAt w2 d F2 S2 ∧ Moves Fk F2 wr w2) := fun w1 hb1 b1 => by
        refine (write_at d Fk Sk ((first + k : Nat) : Int) (some ⟨wr.heap.size, 0, none⟩) (8 + mm) (8 + mm) wr.heap.size (pageI k (c.take 376)) hpl w1 (buf_bslice hb1) (fun h => by cases h) (fun _ => hDk.new _ (Nat.le_refl _)) (hDk.below b1)).mono ?_
        rintro e w2 ⟨rfl, F2, h1, h2⟩
        exact ⟨by rw [her], F2, by rw [hS2]; exact h1, (Moves.of_keep (Keep.of_below b1)).trans h2⟩
      have hgk := hra _ rfl
      have HE : Hid (∀ (w2 : World) (F2 : List Nat), Moves Fk F2 wr w2 → BS w2 (some ⟨g, off, none⟩) rn rc c ∧ g ∉ F2) := fun w2 F2 h2 => by
        refine ⟨hBS.same (h2.keep.block g hgl hgk.1), fun hf => ?_⟩
        rcases h2.foot g hf with h3 | h3
        · exact hgk.1 h3
        · omega
      have GL := hide hgk.2
      have HW2 := hide hwr2
      have HCL := hide hclen
      have HMM := hide hmm
      have HMk := hide hMk
      have PG : Hid (k + 1 + pgsN (rn - mm) = pgsN n) := by show _ = _; rw [← hpg, pgsN_step (by omega) hm1 hm3 hm2]; omega
      have hfk2 : ((first + k : Nat) : Int) = (first : Int) + (k : Int) := by omega
      rw [hfk2] at cw
      clear hwr2 her hS2 hBp hBS hwr hDk hMk hclen hmm hfk hpg hra hgk hfk2 h0 hpl hm3
      have DRP : Hid (∀ w', BS w' (some ⟨g, off, none⟩) rn rc c → (rc ≠ mm → BS w' (some ⟨g, off + mm, none⟩) (rn - mm) (rc - mm) (c.drop 376)) ∧ (rc = mm → BS w' (some ⟨g, off, none⟩) (rn - mm) (rc - mm) (c.drop 376))) := fun w' hB => by
        have h1 := HCL.out
        have h2 := HMM.out
        have hl := List.length_drop (i := 376) (l := c)
        refine ⟨fun hne => ?_, fun he => ?_⟩
        · have h3 := hB.sub mm rn (off + mm) (rn - mm) (rc - mm) rfl hm1 (Nat.le_refl _) rfl (by omega)
          have e : sl c mm rn = c.drop 376 := by
            unfold sl
            rw [List.take_of_length_le (by omega)]
            rcases Nat.lt_or_ge 376 rn with h4 | h4
            · rw [show mm = 376 by omega]
            · rw [List.drop_eq_nil_of_le (by omega), List.drop_eq_nil_of_le (by omega)]
          rw [e] at h3
          exact h3
        · have h4 : c.drop 376 = [] := List.drop_eq_nil_of_le (by omega)
          rw [h4]
          exact BS.mk' (by simp; omega) (by omega) (Reads.nil _ _)
      by_cases hez : er = 0
      · subst hez
        obtain ⟨f2, hf2, HW3⟩ := HW2.out.1 rfl
        have HF2 := hide hf2
        have HW4 := hide HW3
        clear HW2 HW3 hf2
        by_cases hcap2 : rc = mm
        · have hcp : (rc = mm) = True := eq_true hcap2
          have HCAP := hide hcap2
          clear hcap2
          go_wp2_with (first
            | (go_at_call 55; refine cl.out.mono ?_; rintro e w1 ⟨rfl, h1, h2⟩; have H1 := hide h1; have H2 := hide h2; clear h1 h2)
            | (go_at_call 26; refine (cw.out _ H1.out H2.out).mono ?_; rintro e w2 ⟨rfl, F2, h3, h4⟩; have H3 := hide h3; have H4 := hide h4; clear h3 h4))
          go_roundg (rn - mm)
          case measure => omega
          case rel =>
            refine ⟨k + 1, some ⟨g, off, none⟩, rn - mm, rc - mm, rfl, rfl, Nat.le_refl _, by omega, by omega, by omega, by omega, by omega, c.drop 376, S2, F2, f2, ((DRP.out _ (HE.out _ _ H4.out).1).2 HCAP.out), HW4.out, HF2.out, PG.out, H3.out, HMk.out.trans H4.out, ?_⟩
            rintro x hx
            cases hx
            exact ⟨(HE.out _ _ H4.out).2, GL.out⟩
        · go_wp2_with (first
            | (go_at_call 55; refine cl.out.mono ?_; rintro e w1 ⟨rfl, h1, h2⟩; have H1 := hide h1; have H2 := hide h2; clear h1 h2)
            | (go_at_call 26; refine (cw.out _ H1.out H2.out).mono ?_; rintro e w2 ⟨rfl, F2, h3, h4⟩; have H3 := hide h3; have H4 := hide h4; clear h3 h4))
          go_roundg (rn - mm)
          case measure => omega
          case rel =>
            refine ⟨k + 1, some ⟨g, off + mm, none⟩, rn - mm, rc - mm, rfl, rfl, Nat.le_refl _, by omega, by omega, by omega, by omega, by omega, c.drop 376, S2, F2, f2, ((DRP.out _ (HE.out _ _ H4.out).1).1 (by omega)), HW4.out, HF2.out, PG.out, H3.out, HMk.out.trans H4.out, ?_⟩
            rintro x hx
            cases hx
            exact ⟨(HE.out _ _ H4.out).2, GL.out⟩
      · have hE3 := hide (HW2.out.2 hez)
        have HEZ := hide hez
        clear HW2
        go_wp2_with (first
          | (go_at_call 55; refine cl.out.mono ?_; rintro e w1 ⟨rfl, h1, h2⟩; have H1 := hide h1; have H2 := hide h2; clear h1 h2)
          | (go_at_call 26; refine (cw.out _ H1.out H2.out).mono ?_; rintro e w2 ⟨rfl, F2, h3, h4⟩; have H3 := hide h3; have H4 := hide h4; clear h3 h4))
        go_ret2
        rw [hE3.out]
        exact ⟨0, rfl, fun h => absurd h HEZ.out, F2, H3.out, HMk.out.trans H4.out⟩
end Go.Proofs.Ytanbbmlekebhhaa
