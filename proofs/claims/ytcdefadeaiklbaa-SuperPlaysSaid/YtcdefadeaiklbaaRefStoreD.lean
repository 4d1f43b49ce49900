/- The document's own 'Store', whole. -/
import Derived.Test.YtcdefadeaiklbaaRefStoreA
import Derived.Test.YtcdefadeaiklbaaRefStoreB
import Derived.Test.YtcdefadeaiklbaaRefStoreC
set_option linter.unusedVariables false
set_option linter.unusedSimpArgs false
set_option maxRecDepth 8000
namespace Go.Proofs.Ytcdefadeaiklbaa
open Go.RowKit Go.Deep Math

theorem rstore_any (d : Nat) (F : List Nat) (S : Dv) (b : Bk) (hf : b.fits) (w : World) (h : RfAt w d F S) :
    Calls Try.prog 21 #[.pointer (some ⟨d, 0, none⟩), .agg #[.int .u64 b.seq, .int .u64 b.epoch, .int .u64 b.res, .int .u64 b.hor, .int .u64 b.gen, .bool b.clean, .int .i64 b.image]] w fun e w' =>
      e = .returned (bkV (S.storeB b) S.storeE) ∧ ∃ F', RfAt w' d F' (S.storeDo b) ∧ Moves F F' w w' := by
  have cL := fun (W : World) (hW : RfAt W d F S) => rload_any d F S W hW
  by_cases h2 : S.cs.length < 2
  · have e1 : S.storeB b = Bk.zero := by unfold Dv.storeB; rw [if_pos h2]
    have e2 : S.storeE = 1 := by unfold Dv.storeE; rw [if_pos h2]
    have e3 : S.storeDo b = S := by unfold Dv.storeDo; rw [if_pos h2]
    have e4 : S.loadV = bkV Bk.zero 1 := by unfold Dv.loadV; rw [if_pos h2]
    have e5 : S.loadDo = S := by unfold Dv.loadDo; rw [if_pos h2]
    rw [e4, e5] at cL
    rw [e1, e2, e3]
    exact rstore_bad1 d F S b hf w h cL
  cases ho : S.off with
  | true =>
    have e1 : S.storeB b = Bk.zero := by unfold Dv.storeB; rw [if_neg h2, if_pos ho]
    have e2 : S.storeE = 4 := by unfold Dv.storeE; rw [if_neg h2, if_pos ho]
    have e3 : S.storeDo b = S := by unfold Dv.storeDo; rw [if_neg h2, if_pos ho]
    have e4 : S.loadV = bkV Bk.zero 4 := by unfold Dv.loadV; rw [if_neg h2, if_pos ho]
    have e5 : S.loadDo = S := by unfold Dv.loadDo; rw [if_neg h2, if_pos ho]
    rw [e4, e5] at cL
    rw [e1, e2, e3]
    exact rstore_bad4 d F S b hf w h cL
  | false =>
    have hno : ¬ S.off = true := by rw [ho]; decide
    have e4 : S.loadV = slotV S.loadB := by unfold Dv.loadV; rw [if_neg h2, if_neg hno]
    rw [e4] at cL
    have hE := wrote_err S (S.nextB b) (by omega) ho
    by_cases hw : S.lastSeq = 18446744073709551615
    · have e1 : S.storeB b = Bk.zero := by unfold Dv.storeB; rw [if_neg h2, if_neg hno, if_pos hw]
      have e2 : S.storeE = 9 := by unfold Dv.storeE; rw [if_neg h2, if_neg hno, if_pos hw]
      have e3 : S.storeDo b = S.loadDo := by unfold Dv.storeDo; rw [if_neg h2, if_neg hno, if_pos hw]
      rw [e1, e2, e3]
      cases hl : S.loadB with
      | none => unfold Dv.lastSeq at hw; rw [hl] at hw; simp at hw
      | some x =>
        rw [hl] at cL
        have hx : x.seq = 18446744073709551615 := by unfold Dv.lastSeq at hw; rw [hl] at hw; exact hw
        exact rstore_worn d F S b hf x (loadB_fits hl) w h cL hx
    · by_cases ha1 : S.armed = 1
      · have e1 : S.storeB b = Bk.zero := by unfold Dv.storeB; rw [if_neg h2, if_neg hno, if_neg hw, if_pos ha1]
        have e2 : S.storeE = 4 := by unfold Dv.storeE; rw [if_neg h2, if_neg hno, if_neg hw, if_pos ha1]
        have e3 : S.storeDo b = S.wrote (S.nextB b) := by unfold Dv.storeDo; rw [if_neg h2, if_neg hno, if_neg hw, if_pos ha1]
        rw [e1, e2, e3]
        rw [if_pos ha1] at hE
        cases hl : S.loadB with
        | none =>
          rw [hl] at cL
          by_cases h0 : b.image < 0
          · exact rstore_w4_none0 d F S b hf w h cL h0 (S.nextB b) (by unfold Dv.nextB Dv.lastSeq; rw [hl]) hE
          · by_cases h1 : 2147483647 < b.image
            · exact rstore_w4_none1 d F S b hf w h cL h1 (S.nextB b) (by unfold Dv.nextB Dv.lastSeq; rw [hl]) hE
            · exact rstore_w4_none2 d F S b hf w h cL h0 h1 (S.nextB b) (by unfold Dv.nextB Dv.lastSeq; rw [hl]) hE
        | some x =>
          rw [hl] at cL
          have hx : x.seq ≠ 18446744073709551615 := by unfold Dv.lastSeq at hw; rw [hl] at hw; exact hw
          by_cases h0 : b.image < 0
          · exact rstore_w4_some0 d F S b hf x (loadB_fits hl) w h cL hx h0 (S.nextB b) (by unfold Dv.nextB Dv.lastSeq; rw [hl]) hE
          · by_cases h1 : 2147483647 < b.image
            · exact rstore_w4_some1 d F S b hf x (loadB_fits hl) w h cL hx h1 (S.nextB b) (by unfold Dv.nextB Dv.lastSeq; rw [hl]) hE
            · exact rstore_w4_some2 d F S b hf x (loadB_fits hl) w h cL hx h0 h1 (S.nextB b) (by unfold Dv.nextB Dv.lastSeq; rw [hl]) hE
      · rw [if_neg ha1] at hE
        have hF := flush_err S (S.nextB b) (by omega) ho ha1
        have e3 : S.storeDo b = (S.wrote (S.nextB b)).flushDo := by unfold Dv.storeDo; rw [if_neg h2, if_neg hno, if_neg hw, if_neg ha1]
        rw [e3]
        by_cases ha2 : S.armed = 2
        · have e1 : S.storeB b = Bk.zero := by unfold Dv.storeB; rw [if_neg h2, if_neg hno, if_neg hw, if_neg ha1, if_pos ha2]
          have e2 : S.storeE = 4 := by unfold Dv.storeE; rw [if_neg h2, if_neg hno, if_neg hw, if_neg ha1, if_pos ha2]
          rw [e1, e2]
          rw [if_pos ha2] at hF
          cases hl : S.loadB with
          | none =>
            rw [hl] at cL
            by_cases h0 : b.image < 0
            · exact rstore_f4_none0 d F S b hf w h cL h0 (S.nextB b) (by unfold Dv.nextB Dv.lastSeq; rw [hl]) hE hF
            · by_cases h1 : 2147483647 < b.image
              · exact rstore_f4_none1 d F S b hf w h cL h1 (S.nextB b) (by unfold Dv.nextB Dv.lastSeq; rw [hl]) hE hF
              · exact rstore_f4_none2 d F S b hf w h cL h0 h1 (S.nextB b) (by unfold Dv.nextB Dv.lastSeq; rw [hl]) hE hF
          | some x =>
            rw [hl] at cL
            have hx : x.seq ≠ 18446744073709551615 := by unfold Dv.lastSeq at hw; rw [hl] at hw; exact hw
            by_cases h0 : b.image < 0
            · exact rstore_f4_some0 d F S b hf x (loadB_fits hl) w h cL hx h0 (S.nextB b) (by unfold Dv.nextB Dv.lastSeq; rw [hl]) hE hF
            · by_cases h1 : 2147483647 < b.image
              · exact rstore_f4_some1 d F S b hf x (loadB_fits hl) w h cL hx h1 (S.nextB b) (by unfold Dv.nextB Dv.lastSeq; rw [hl]) hE hF
              · exact rstore_f4_some2 d F S b hf x (loadB_fits hl) w h cL hx h0 h1 (S.nextB b) (by unfold Dv.nextB Dv.lastSeq; rw [hl]) hE hF
        · have e1 : S.storeB b = S.nextB b := by unfold Dv.storeB; rw [if_neg h2, if_neg hno, if_neg hw, if_neg ha1, if_neg ha2]
          have e2 : S.storeE = 0 := by unfold Dv.storeE; rw [if_neg h2, if_neg hno, if_neg hw, if_neg ha1, if_neg ha2]
          rw [e1, e2]
          rw [if_neg ha2] at hF
          cases hl : S.loadB with
          | none =>
            rw [hl] at cL
            by_cases h0 : b.image < 0
            · exact rstore_ok_none0 d F S b hf w h cL h0 (S.nextB b) (by unfold Dv.nextB Dv.lastSeq; rw [hl]) hE hF
            · by_cases h1 : 2147483647 < b.image
              · exact rstore_ok_none1 d F S b hf w h cL h1 (S.nextB b) (by unfold Dv.nextB Dv.lastSeq; rw [hl]) hE hF
              · exact rstore_ok_none2 d F S b hf w h cL h0 h1 (S.nextB b) (by unfold Dv.nextB Dv.lastSeq; rw [hl]) hE hF
          | some x =>
            rw [hl] at cL
            have hx : x.seq ≠ 18446744073709551615 := by unfold Dv.lastSeq at hw; rw [hl] at hw; exact hw
            by_cases h0 : b.image < 0
            · exact rstore_ok_some0 d F S b hf x (loadB_fits hl) w h cL hx h0 (S.nextB b) (by unfold Dv.nextB Dv.lastSeq; rw [hl]) hE hF
            · by_cases h1 : 2147483647 < b.image
              · exact rstore_ok_some1 d F S b hf x (loadB_fits hl) w h cL hx h1 (S.nextB b) (by unfold Dv.nextB Dv.lastSeq; rw [hl]) hE hF
              · exact rstore_ok_some2 d F S b hf x (loadB_fits hl) w h cL hx h0 h1 (S.nextB b) (by unfold Dv.nextB Dv.lastSeq; rw [hl]) hE hF

end Go.Proofs.Ytcdefadeaiklbaa
