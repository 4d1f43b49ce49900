/- 'write': a region's pages are written, and flushed. -/
import Derived.Test.YtbjkahdlejaheaaOpn9
set_option linter.unusedVariables false
set_option linter.unusedSimpArgs false
set_option maxRecDepth 8000
namespace Go.Proofs.Ytbjkahdlejaheaa
open Go.RowKit Go.Deep Math

/-- What the writing of the last r of four pages answers, and leaves. -/
def wrR (base n : Nat) : Nat → Dv → List UInt8 → Int × Dv
  | 0, S, _ => (S.flushErr, S.flushDo)
  | r + 1, S, c =>
    if S.writeErr ((base + (3 - r) : Nat) : Int) ⟨(pageR (3 - r) n (c.take 368)).toArray⟩ = 0 then wrR base n r (S.writeDo ((base + (3 - r) : Nat) : Int) ⟨(pageR (3 - r) n (c.take 368)).toArray⟩) (c.drop 368)
    else (S.writeErr ((base + (3 - r) : Nat) : Int) ⟨(pageR (3 - r) n (c.take 368)).toArray⟩, S.writeDo ((base + (3 - r) : Nat) : Int) ⟨(pageR (3 - r) n (c.take 368)).toArray⟩)
theorem enter51 (args : Array Value) (w : World) : (callFunc 51 args).run Try.prog w = .ok (.enter 51 args) w := enters_of Try.func51 (by kernel_rfl) rfl args w
theorem enter50 (args : Array Value) (w : World) : (callFunc 50 args).run Try.prog w = .ok (.enter 50 args) w := enters_of Try.func50 (by kernel_rfl) rfl args w
theorem buf_bslice {w : World} {g : Nat} {l : List UInt8} (h : Buf w g l 0) : BSlice w (some ⟨g, 0, none⟩) l g := by
  refine .inr ⟨?_, 0, rfl, fun j hj => ?_⟩
  · unfold Buf at h; exact h.lt
  · unfold Buf at h
    rw [Nat.zero_add]
    refine h.cell ?_
    rw [List.getElem?_append_left (by rw [bCells_length]; exact hj)]
    simp [bCells, List.getElem?_eq_getElem hj]
def WritePost (w : World) (l d m : Nat) (v5 v6 v7 : Value) (T : Lg) (F : List Nat) (er : Int) (S' : Dv) (e : Ending) (w' : World) : Prop :=
  e = .returned (.int .i64 er) ∧ LgIn w' l d m v5 v6 v7 T ∧ ∃ F', DvAt w' d F' S' ∧ Moves F F' w w'
set_option maxHeartbeats 8000000 in
theorem write_log {w : World} {l d m : Nat} {v5 v6 v7 : Value} {T : Lg} {S : Dv} {F : List Nat} (h : LgIn w l d m v5 v6 v7 T) (hD : DvAt w d F S) (place n : Nat) (hpl : place < 64) (hn : n < 18446744073709551616) (hfi : T.first ≤ 4096) (hne : T.cont ≠ []) (hcl : T.cont.length ≤ 1472) :
    Calls Try.prog 34 #[.pointer (some ⟨l, 0, none⟩), .int .i64 place, .int .u64 n] w (WritePost w l d m v5 v6 v7 T F (wrR (T.first + 4 * place) n 4 S T.cont).1 (wrR (T.first + 4 * place) n 4 S T.cont).2) := by
  obtain ⟨base, hbase⟩ : ∃ base, base = T.first + 4 * place := ⟨_, rfl⟩
  rw [← hbase]
  obtain ⟨a7, c7, rfl⟩ := own_slice h.cont
  obtain ⟨hBS0, hc7⟩ := own_bs h.cont
  have ha7 : ∃ g7, a7 = some ⟨g7, 0, none⟩ := by
    rcases h.cont.2 with ⟨h1, h0⟩ | ⟨g, cap, cur, h1, _⟩
    · exact absurd (List.eq_nil_of_length_eq_zero h0) hne
    · simp only [Value.slice.injEq] at h1
      exact ⟨g, h1.1⟩
  obtain ⟨g7, rfl⟩ := ha7
  have c7c := h.box.cell (i := 7) rfl
  obtain ⟨n7, hn7⟩ : ∃ n7, n7 = T.cont.length := ⟨_, rfl⟩
  rw [← hn7] at c7c hBS0 hcl
  have H := hide h
  have HD := hide hD
  have HB := hide hbase
  have HPL := hide hpl
  have HFI := hide hfi
  have HN := hide hn
  have HBS0 := hide hBS0
  have HC7 := hide hc7
  have c0w := h.box.cell (i := 0) rfl
  clear h hD hbase hfi hBS0 hc7 hne hn7 hn
  go_enter Try.func34, Try.ntmps34
  go_wp2_with fail
  go_loopg [7, 15] 4 (fun kx s7 s15 wr => ∃ (k off rn rc : Nat), s7 = .slice (some ⟨g7, off, none⟩) rn rc ∧ s15 = .int .i64 k ∧ k ≤ 4 ∧ 4 - k ≤ kx ∧ rn ≤ rc ∧ rc ≤ 9223372036854775807 ∧ rn ≤ 1472 ∧ Hid (∃ (c : List UInt8) (Sk : Dv) (Fk : List Nat), BS wr (some ⟨g7, off, none⟩) rn rc c ∧ wrR base n (4 - k) Sk c = wrR base n 4 S T.cont ∧ DvAt wr d Fk Sk ∧ Moves F Fk w wr ∧ LgIn wr l d m v5 v6 (.slice (some ⟨g7, 0, none⟩) T.cont.length c7) T))
  case atStart => exact ⟨0, 0, n7, c7, rfl, rfl, by omega, by omega, HBS0.out.cap, HC7.out, hcl, T.cont, S, F, HBS0.out, rfl, HD.out, Moves.refl _ _, H.out⟩
  case round =>
    obtain ⟨k, off, rn, rc, rfl, rfl, hk4, hg, hrc, hrc63, hrn, I⟩ := hrel
    obtain ⟨c, Sk, Fk, hBS, hwr, hDk, hMk, hLk⟩ := I.out
    clear I
    by_cases hlt : k < 4
    · have hlt2 : (k : Int) < 4 := by omega
      obtain ⟨mm, hmm⟩ : ∃ mm, mm = min 368 rn := ⟨_, rfl⟩
      have hmi : min (368 : Int) (rn : Int) = (mm : Int) := by omega
      have hm1 : mm ≤ rn := by omega
      have hm2 : mm ≤ 368 := by omega
      have hclen := hBS.len
      have hBp : BS wr (some ⟨g7, off, none⟩) mm rc (c.take 368) := by
        have := hBS.sub 0 mm off mm rc rfl (by omega) hm1 rfl (by omega)
        have e : sl c 0 mm = c.take 368 := by
          rw [sl_zero]
          rcases Nat.lt_or_ge 368 rn with h1 | h1
          · rw [show mm = 368 by omega]
          · rw [List.take_of_length_le (by omega), List.take_of_length_le (by omega)]
        rw [e] at this
        exact this
      obtain ⟨er, her⟩ : ∃ er, er = Sk.writeErr ((base + k : Nat) : Int) ⟨(pageR k n (c.take 368)).toArray⟩ := ⟨_, rfl⟩
      obtain ⟨S2, hS2⟩ : ∃ S2, S2 = Sk.writeDo ((base + k : Nat) : Int) ⟨(pageR k n (c.take 368)).toArray⟩ := ⟨_, rfl⟩
      have hwr2 : (er = 0 → wrR base n (4 - (k + 1)) S2 (c.drop 368) = wrR base n 4 S T.cont) ∧ (er ≠ 0 → wrR base n 4 S T.cont = (er, S2)) := by
        rw [show 4 - k = (3 - k) + 1 by omega, wrR, show 3 - (3 - k) = k by omega, ← her, ← hS2] at hwr
        refine ⟨fun h0 => ?_, fun h0 => ?_⟩
        · rw [if_pos h0] at hwr
          rw [show 4 - (k + 1) = 3 - k by omega]
          exact hwr
        · rw [if_neg h0] at hwr
          exact hwr.symm
      obtain ⟨CC, hCC⟩ : ∃ CC : Nat → World → Prop, CC = fun s w' => match s with
        | 0 => w' = wr.drew
        | 1 => Buf w' wr.heap.size (pageR k n (c.take 368)) 0 ∧ Below wr.heap.size wr w'
        | _ => ∃ F2, DvAt w' d F2 S2 ∧ Moves Fk F2 wr w' := ⟨_, rfl⟩
      have DR : Hid (CC 0 { wr with drawn := wr.drawn + 1 }) := by show CC 0 _; rw [hCC]; exact (rfl : wr.drew = wr.drew)
      have lgC : Hid (∀ s w', CC s w' → s ≤ 1 → LgIn w' l d m v5 v6 (.slice (some ⟨g7, 0, none⟩) T.cont.length c7) T) := fun s w' hw hs => by
        rw [hCC] at hw
        match s, hs with
        | 0, _ => simp only at hw; subst hw; exact hLk.heap rfl
        | 1, _ => exact hLk.below hw.2
      have cWh : Hid (∀ s w', CC s w' → s ≤ 1 → Calls Try.prog 38 #[.pointer (some ⟨l, 0, none⟩), .int .i64 (place : Int), .int .i64 (k : Int)] w' fun e w2 => e = .returned (.int .i64 ((base + k : Nat) : Int)) ∧ w2 = w') := fun s w' hw hs => by
        have := where_any (lgC.out s w' hw hs) place k HFI.out (by have := HPL.out; omega) (by omega)
        rw [HB.out]
        exact this
      have cDv : Hid (∀ s w', CC s w' → s ≤ 1 → w'.cell? ⟨l, 0, none⟩ = some (.pointer (some ⟨d, 0, none⟩))) := fun s w' hw hs => (lgC.out s w' hw hs).box.cell (i := 0) rfl
      have cLd : Hid (∀ w', CC 0 w' → Calls Try.prog 51 #[.int .i64 (k : Int), .int .u64 (n : Int), .slice (some ⟨g7, off, none⟩) mm rc] w' fun e w2 => e = .returned (.slice (some ⟨wr.heap.size, 0, none⟩) (16 + mm) (16 + mm)) ∧ CC (0 + 1) w2) := fun w' hw => by
        rw [hCC] at hw ⊢
        simp only at hw
        subst hw
        refine (laid_any k n (by omega) HN.out (some ⟨g7, off, none⟩) mm rc _ hm2 wr.drew (hBp.heap rfl)).mono ?_
        rintro e w2 ⟨rfl, h1, h2⟩
        exact ⟨rfl, h1, (((Below.refl wr.heap.size wr).drew).trans h2)⟩
      have cWr : Hid (∀ w', CC 1 w' → Calls Try.prog 50 #[.pointer (some ⟨d, 0, none⟩), .int .i64 ((base + k : Nat) : Int), .slice (some ⟨wr.heap.size, 0, none⟩) (16 + mm) (16 + mm)] w' fun e w2 => e = .returned (.int .i64 er) ∧ CC (1 + 1) w2) := fun w' hw => by
        rw [hCC] at hw ⊢
        simp only at hw
        refine (write_at d Fk Sk ((base + k : Nat) : Int) (some ⟨wr.heap.size, 0, none⟩) (16 + mm) (16 + mm) wr.heap.size (pageR k n (c.take 368)) (by rw [pageR_length, ← hBp.len]) w' (buf_bslice hw.1) (fun h => by cases h) (fun _ => hDk.new _ (Nat.le_refl _)) (hDk.below hw.2)).mono ?_
        rintro e w2 ⟨rfl, F2, h1, h2⟩
        refine ⟨by rw [her], F2, by rw [hS2]; exact h1, (Moves.of_keep (Keep.of_below hw.2)).trans h2⟩
      have HE : Hid (∀ w', CC 2 w' → ∃ F2, DvAt w' d F2 S2 ∧ Moves F F2 w w' ∧ LgIn w' l d m v5 v6 (.slice (some ⟨g7, 0, none⟩) T.cont.length c7) T ∧ BS w' (some ⟨g7, off, none⟩) rn rc c) := fun w' hw => by
        rw [hCC] at hw
        obtain ⟨F2, h1, h2⟩ := hw
        have hLk2 := hLk.dev hDk h2.keep
        refine ⟨F2, h1, hMk.trans h2, hLk2, hBS.same (h2.keep.block g7 ?_ ?_)⟩
        · exact own_lt hLk.cont g7 (by simp [own, Value.ownBlock])
        · obtain ⟨cc, hcc⟩ := own_ty hLk.cont (q := g7) rfl
          intro hF
          obtain ⟨c2, e2, h3, h4⟩ := hDk.kinds g7 hF
          exact ty_ne hcc h3 (by rcases h4 with rfl | rfl | rfl <;> decide) rfl
      have HW2 := hide hwr2
      have HCL := hide hclen
      have HMM := hide hmm
      clear hCC hwr2 her hS2 hBp hBS hwr hDk hMk hLk hclen hmm
      have DRP : Hid (∀ w', BS w' (some ⟨g7, off, none⟩) rn rc c → (rc ≠ mm → BS w' (some ⟨g7, off + mm, none⟩) (rn - mm) (rc - mm) (c.drop 368)) ∧ (rc = mm → BS w' (some ⟨g7, off, none⟩) (rn - mm) (rc - mm) (c.drop 368))) := fun w' hB => by
        have h1 := HCL.out
        have h2 := HMM.out
        have hl := List.length_drop (i := 368) (l := c)
        refine ⟨fun hne => ?_, fun he => ?_⟩
        · have h3 := hB.sub mm rn (off + mm) (rn - mm) (rc - mm) rfl hm1 (Nat.le_refl _) rfl (by omega)
          have e : sl c mm rn = c.drop 368 := by
            unfold sl
            rw [List.take_of_length_le (by omega)]
            rcases Nat.lt_or_ge 368 rn with h4 | h4
            · rw [show mm = 368 by omega]
            · rw [List.drop_eq_nil_of_le (by omega), List.drop_eq_nil_of_le (by omega)]
          rw [e] at h3
          exact h3
        · have h4 : c.drop 368 = [] := List.drop_eq_nil_of_le (by omega)
          rw [h4]
          exact BS.mk' (by simp; omega) (by omega) (Reads.nil _ _)
      by_cases hcap : rc = mm
      · have hcp : (rc = mm) = True := eq_true hcap
        have HCAP := hide hcap
        clear hcap
        go_wp2_with fail
        refine wp_region_chain (by kernel_rfl) (by kernel_rfl) (fun jx => ([.pointer (some ⟨l, 0, none⟩), .pointer (some ⟨l, 0, none⟩), .pointer (some ⟨l, 0, none⟩), .pointer (some ⟨d, 0, none⟩), .pointer (some ⟨l, 0, none⟩), .int .i64 (place : Int), .int .i64 (k : Int), .int .i64 ((base + k : Nat) : Int), .int .i64 (k : Int), .int .u64 (n : Int), .slice (some ⟨g7, off, none⟩) mm rc, .slice (some ⟨wr.heap.size, 0, none⟩) (16 + mm) (16 + mm), .int .i64 er, .int .i64 er] : List Value).getD jx undef) [11, 12] (by kernel_rfl) (CC) (DR.out) ?_ ?_
        · intro jx ox hi sx w' ev hlm hks hc hin hout hcst hfn
          have hltx : jx < 14 := by
            have := (Array.getElem?_eq_some_iff.1 hi).1
            simpa using this
          match jx, hltx with
          | 0, _ =>
            simp only [List.getElem?_toArray, List.getElem?_cons_zero, List.getElem?_cons_succ, Option.some.injEq] at hi
            subst hi
            have e0 : ev (.tmp 0) = .pointer (some ⟨l, 0, none⟩) := hout 0 (by kernel_rfl) (show (0 : Nat) < 49 by decide)
            rw [if_neg (by decide)]
            refine .inl ⟨w', ?_, hc⟩
            show _ = Result.ok (Next.value (.pointer (some ⟨l, 0, none⟩))) w'
            simp [execOp, e0, hcst, go_sem]
          | 1, _ =>
            simp only [List.getElem?_toArray, List.getElem?_cons_zero, List.getElem?_cons_succ, Option.some.injEq] at hi
            subst hi
            have e0 : ev (.tmp 27) = .pointer (some ⟨l, 0, none⟩) := hin 27 0 ⟨0, .data⟩ (by kernel_rfl) (by simp) rfl rfl (show (27 : Nat) < 49 by decide)
            rw [if_neg (by decide)]
            refine .inl ⟨w', ?_, hc⟩
            show _ = Result.ok (Next.value (.pointer (some ⟨l, 0, none⟩))) w'
            simp [execOp, e0, hcst, go_sem]
          | 2, _ =>
            simp only [List.getElem?_toArray, List.getElem?_cons_zero, List.getElem?_cons_succ, Option.some.injEq] at hi
            subst hi
            have e0 : ev (.tmp 28) = .pointer (some ⟨l, 0, none⟩) := hin 28 1 ⟨1, .data⟩ (by kernel_rfl) (by simp) rfl rfl (show (28 : Nat) < 49 by decide)
            rw [if_neg (by decide)]
            refine .inl ⟨w', ?_, hc⟩
            show _ = Result.ok (Next.value (.pointer (some ⟨l, 0, none⟩))) w'
            simp [execOp, e0, hcst, go_sem]
          | 3, _ =>
            simp only [List.getElem?_toArray, List.getElem?_cons_zero, List.getElem?_cons_succ, Option.some.injEq] at hi
            subst hi
            have e0 : ev (.tmp 29) = .pointer (some ⟨l, 0, none⟩) := hin 29 2 ⟨2, .data⟩ (by kernel_rfl) (by simp) rfl rfl (show (29 : Nat) < 49 by decide)
            rw [if_neg (by decide)]
            refine .inl ⟨w', ?_, hc⟩
            show _ = Result.ok (Next.value (.pointer (some ⟨d, 0, none⟩))) w'
            have hl2 : sx ≤ 1 := Nat.le_trans hlm (Nat.le_of_eq (by kernel_rfl))
            have q := cDv.out sx w' hc (by omega)
            simp [execOp, e0, q, hcst, go_sem]
          | 4, _ =>
            simp only [List.getElem?_toArray, List.getElem?_cons_zero, List.getElem?_cons_succ, Option.some.injEq] at hi
            subst hi
            have e0 : ev (.tmp 0) = .pointer (some ⟨l, 0, none⟩) := hout 0 (by kernel_rfl) (show (0 : Nat) < 49 by decide)
            rw [if_neg (by decide)]
            refine .inl ⟨w', ?_, hc⟩
            show _ = Result.ok (Next.value (.pointer (some ⟨l, 0, none⟩))) w'
            simp [execOp, e0, hcst, go_sem]
          | 5, _ =>
            simp only [List.getElem?_toArray, List.getElem?_cons_zero, List.getElem?_cons_succ, Option.some.injEq] at hi
            subst hi
            have e0 : ev (.tmp 1) = .int .i64 (place : Int) := hout 1 (by kernel_rfl) (show (1 : Nat) < 49 by decide)
            rw [if_neg (by decide)]
            refine .inl ⟨w', ?_, hc⟩
            show _ = Result.ok (Next.value (.int .i64 (place : Int))) w'
            simp [execOp, e0, hcst, go_sem]
          | 6, _ =>
            simp only [List.getElem?_toArray, List.getElem?_cons_zero, List.getElem?_cons_succ, Option.some.injEq] at hi
            subst hi
            have e0 : ev (.tmp 8) = .int .i64 (k : Int) := hout 8 (by kernel_rfl) (show (8 : Nat) < 49 by decide)
            rw [if_neg (by decide)]
            refine .inl ⟨w', ?_, hc⟩
            show _ = Result.ok (Next.value (.int .i64 (k : Int))) w'
            simp [execOp, e0, hcst, go_sem]
          | 7, _ =>
            simp only [List.getElem?_toArray, List.getElem?_cons_zero, List.getElem?_cons_succ, Option.some.injEq] at hi
            subst hi
            have e0 : ev (.tmp 31) = .pointer (some ⟨l, 0, none⟩) := hin 31 4 ⟨4, .data⟩ (by kernel_rfl) (by simp) rfl rfl (show (31 : Nat) < 49 by decide)
            have e1 : ev (.tmp 32) = .int .i64 (place : Int) := hin 32 5 ⟨5, .data⟩ (by kernel_rfl) (by simp) rfl rfl (show (32 : Nat) < 49 by decide)
            have e2 : ev (.tmp 33) = .int .i64 (k : Int) := hin 33 6 ⟨6, .data⟩ (by kernel_rfl) (by simp) rfl rfl (show (33 : Nat) < 49 by decide)
            rw [if_neg (by decide)]
            refine .inr (.inr ⟨38, #[.pointer (some ⟨l, 0, none⟩), .int .i64 (place : Int), .int .i64 (k : Int)], ?_, ?_⟩)
            · have ef := hfn 38
              simp [execOp, resolve, invoke, ef, hcst, e0, e1, e2, Result.andThen]
              exact enter38 _ _
            · have hl2 : sx ≤ 0 := Nat.le_trans hlm (Nat.le_of_eq (by kernel_rfl))
              refine (cWh.out sx w' hc (by omega)).mono ?_
              rintro e w2 ⟨rfl, h2⟩
              rw [h2]
              exact ⟨rfl, hc⟩
          | 8, _ =>
            simp only [List.getElem?_toArray, List.getElem?_cons_zero, List.getElem?_cons_succ, Option.some.injEq] at hi
            subst hi
            have e0 : ev (.tmp 8) = .int .i64 (k : Int) := hout 8 (by kernel_rfl) (show (8 : Nat) < 49 by decide)
            rw [if_neg (by decide)]
            refine .inl ⟨w', ?_, hc⟩
            show _ = Result.ok (Next.value (.int .i64 (k : Int))) w'
            simp [execOp, e0, hcst, go_sem]
          | 9, _ =>
            simp only [List.getElem?_toArray, List.getElem?_cons_zero, List.getElem?_cons_succ, Option.some.injEq] at hi
            subst hi
            have e0 : ev (.tmp 2) = .int .u64 (n : Int) := hout 2 (by kernel_rfl) (show (2 : Nat) < 49 by decide)
            rw [if_neg (by decide)]
            refine .inl ⟨w', ?_, hc⟩
            show _ = Result.ok (Next.value (.int .u64 (n : Int))) w'
            simp [execOp, e0, hcst, go_sem]
          | 10, _ =>
            simp only [List.getElem?_toArray, List.getElem?_cons_zero, List.getElem?_cons_succ, Option.some.injEq] at hi
            subst hi
            have e0 : ev (.tmp 9) = .slice (some ⟨g7, off, none⟩) mm rc := hout 9 (by kernel_rfl) (show (9 : Nat) < 49 by decide)
            rw [if_neg (by decide)]
            refine .inl ⟨w', ?_, hc⟩
            show _ = Result.ok (Next.value (.slice (some ⟨g7, off, none⟩) mm rc)) w'
            simp [execOp, e0, hcst, go_sem]
          | 11, _ =>
            simp only [List.getElem?_toArray, List.getElem?_cons_zero, List.getElem?_cons_succ, Option.some.injEq] at hi
            subst hi
            have e0 : ev (.tmp 35) = .int .i64 (k : Int) := hin 35 8 ⟨8, .data⟩ (by kernel_rfl) (by simp) rfl rfl (show (35 : Nat) < 49 by decide)
            have e1 : ev (.tmp 36) = .int .u64 (n : Int) := hin 36 9 ⟨9, .data⟩ (by kernel_rfl) (by simp) rfl rfl (show (36 : Nat) < 49 by decide)
            have e2 : ev (.tmp 37) = .slice (some ⟨g7, off, none⟩) mm rc := hin 37 10 ⟨10, .data⟩ (by kernel_rfl) (by simp) rfl rfl (show (37 : Nat) < 49 by decide)
            rw [if_pos (by decide)]
            have hsx : sx = 0 := hks 0 rfl
            subst hsx
            refine .inr (.inr ⟨51, #[.int .i64 (k : Int), .int .u64 (n : Int), .slice (some ⟨g7, off, none⟩) mm rc], ?_, ?_⟩)
            · have ef := hfn 51
              simp [execOp, resolve, invoke, ef, hcst, e0, e1, e2, Result.andThen]
              exact enter51 _ _
            · refine (cLd.out w' hc).mono ?_
              rintro e w2 ⟨rfl, h2⟩
              exact ⟨rfl, h2⟩
          | 12, _ =>
            simp only [List.getElem?_toArray, List.getElem?_cons_zero, List.getElem?_cons_succ, Option.some.injEq] at hi
            subst hi
            have e0 : ev (.tmp 30) = .pointer (some ⟨d, 0, none⟩) := hin 30 3 ⟨3, .data⟩ (by kernel_rfl) (by simp) rfl rfl (show (30 : Nat) < 49 by decide)
            have e1 : ev (.tmp 34) = .int .i64 ((base + k : Nat) : Int) := hin 34 7 ⟨7, .data⟩ (by kernel_rfl) (by simp) rfl rfl (show (34 : Nat) < 49 by decide)
            have e2 : ev (.tmp 38) = .slice (some ⟨wr.heap.size, 0, none⟩) (16 + mm) (16 + mm) := hin 38 11 ⟨11, .data⟩ (by kernel_rfl) (by simp) rfl rfl (show (38 : Nat) < 49 by decide)
            rw [if_pos (by decide)]
            have hsx : sx = 1 := hks 1 rfl
            subst hsx
            refine .inr (.inr ⟨50, #[.pointer (some ⟨d, 0, none⟩), .int .i64 ((base + k : Nat) : Int), .slice (some ⟨wr.heap.size, 0, none⟩) (16 + mm) (16 + mm)], ?_, ?_⟩)
            · have ef := hfn 50
              simp [execOp, resolve, invoke, ef, hcst, e0, e1, e2, Result.andThen]
              exact enter50 _ _
            · refine (cWr.out w' hc).mono ?_
              rintro e w2 ⟨rfl, h2⟩
              exact ⟨rfl, h2⟩
          | 13, _ =>
            simp only [List.getElem?_toArray, List.getElem?_cons_zero, List.getElem?_cons_succ, Option.some.injEq] at hi
            subst hi
            have e0 : ev (.tmp 39) = .int .i64 er := hin 39 12 ⟨12, .data⟩ (by kernel_rfl) (by simp) rfl rfl (show (39 : Nat) < 49 by decide)
            rw [if_neg (by decide)]
            refine .inl ⟨w', ?_, hc⟩
            show _ = Result.ok (Next.value (.int .i64 er)) w'
            simp [execOp, e0, hcst, go_sem]
        · intro w9 hc
          simp only [lexF, Act.put, List.setIfInBounds_toArray, List.set_cons_succ, List.set_cons_zero, List.getD_cons_succ, List.getD_cons_zero]
          obtain ⟨F2, h1, h2, h3, h4⟩ := HE.out w9 hc
          have HF := hide (And.intro h1 (And.intro h2 h3))
          have HBS := hide h4
          clear hc h1 h2 h3 h4 DR lgC cWh cDv cLd cWr HE
          by_cases h0 : er = 0
          · have HW3 := hide (HW2.out.1 h0)
            subst h0
            go_wp2
            go_roundg (4 - (k + 1))
            case measure => omega
            case rel => exact ⟨k + 1, off, rn - mm, rc - mm, rfl, rfl, by omega, by omega, by omega, by omega, by omega, c.drop 368, S2, F2, (DRP.out _ HBS.out).2 HCAP.out, HW3.out, HF.out.1, HF.out.2.1, HF.out.2.2⟩
          · have HW3 := hide (HW2.out.2 h0)
            have he : (er != 0) = true := by rw [bne_iff_ne]; exact h0
            clear h0
            go_wp2
            go_ret
            rw [HW3.out]
            exact ⟨rfl, HF.out.2.2, F2, HF.out.1, HF.out.2.1⟩
      · have hcp : (rc = mm) = False := eq_false hcap
        have HCAP := hide hcap
        clear hcap
        go_wp2_with fail
        refine wp_region_chain (by kernel_rfl) (by kernel_rfl) (fun jx => ([.pointer (some ⟨l, 0, none⟩), .pointer (some ⟨l, 0, none⟩), .pointer (some ⟨l, 0, none⟩), .pointer (some ⟨d, 0, none⟩), .pointer (some ⟨l, 0, none⟩), .int .i64 (place : Int), .int .i64 (k : Int), .int .i64 ((base + k : Nat) : Int), .int .i64 (k : Int), .int .u64 (n : Int), .slice (some ⟨g7, off, none⟩) mm rc, .slice (some ⟨wr.heap.size, 0, none⟩) (16 + mm) (16 + mm), .int .i64 er, .int .i64 er] : List Value).getD jx undef) [11, 12] (by kernel_rfl) (CC) (DR.out) ?_ ?_
        · intro jx ox hi sx w' ev hlm hks hc hin hout hcst hfn
          have hltx : jx < 14 := by
            have := (Array.getElem?_eq_some_iff.1 hi).1
            simpa using this
          match jx, hltx with
          | 0, _ =>
            simp only [List.getElem?_toArray, List.getElem?_cons_zero, List.getElem?_cons_succ, Option.some.injEq] at hi
            subst hi
            have e0 : ev (.tmp 0) = .pointer (some ⟨l, 0, none⟩) := hout 0 (by kernel_rfl) (show (0 : Nat) < 49 by decide)
            rw [if_neg (by decide)]
            refine .inl ⟨w', ?_, hc⟩
            show _ = Result.ok (Next.value (.pointer (some ⟨l, 0, none⟩))) w'
            simp [execOp, e0, hcst, go_sem]
          | 1, _ =>
            simp only [List.getElem?_toArray, List.getElem?_cons_zero, List.getElem?_cons_succ, Option.some.injEq] at hi
            subst hi
            have e0 : ev (.tmp 27) = .pointer (some ⟨l, 0, none⟩) := hin 27 0 ⟨0, .data⟩ (by kernel_rfl) (by simp) rfl rfl (show (27 : Nat) < 49 by decide)
            rw [if_neg (by decide)]
            refine .inl ⟨w', ?_, hc⟩
            show _ = Result.ok (Next.value (.pointer (some ⟨l, 0, none⟩))) w'
            simp [execOp, e0, hcst, go_sem]
          | 2, _ =>
            simp only [List.getElem?_toArray, List.getElem?_cons_zero, List.getElem?_cons_succ, Option.some.injEq] at hi
            subst hi
            have e0 : ev (.tmp 28) = .pointer (some ⟨l, 0, none⟩) := hin 28 1 ⟨1, .data⟩ (by kernel_rfl) (by simp) rfl rfl (show (28 : Nat) < 49 by decide)
            rw [if_neg (by decide)]
            refine .inl ⟨w', ?_, hc⟩
            show _ = Result.ok (Next.value (.pointer (some ⟨l, 0, none⟩))) w'
            simp [execOp, e0, hcst, go_sem]
          | 3, _ =>
            simp only [List.getElem?_toArray, List.getElem?_cons_zero, List.getElem?_cons_succ, Option.some.injEq] at hi
            subst hi
            have e0 : ev (.tmp 29) = .pointer (some ⟨l, 0, none⟩) := hin 29 2 ⟨2, .data⟩ (by kernel_rfl) (by simp) rfl rfl (show (29 : Nat) < 49 by decide)
            rw [if_neg (by decide)]
            refine .inl ⟨w', ?_, hc⟩
            show _ = Result.ok (Next.value (.pointer (some ⟨d, 0, none⟩))) w'
            have hl2 : sx ≤ 1 := Nat.le_trans hlm (Nat.le_of_eq (by kernel_rfl))
            have q := cDv.out sx w' hc (by omega)
            simp [execOp, e0, q, hcst, go_sem]
          | 4, _ =>
            simp only [List.getElem?_toArray, List.getElem?_cons_zero, List.getElem?_cons_succ, Option.some.injEq] at hi
            subst hi
            have e0 : ev (.tmp 0) = .pointer (some ⟨l, 0, none⟩) := hout 0 (by kernel_rfl) (show (0 : Nat) < 49 by decide)
            rw [if_neg (by decide)]
            refine .inl ⟨w', ?_, hc⟩
            show _ = Result.ok (Next.value (.pointer (some ⟨l, 0, none⟩))) w'
            simp [execOp, e0, hcst, go_sem]
          | 5, _ =>
            simp only [List.getElem?_toArray, List.getElem?_cons_zero, List.getElem?_cons_succ, Option.some.injEq] at hi
            subst hi
            have e0 : ev (.tmp 1) = .int .i64 (place : Int) := hout 1 (by kernel_rfl) (show (1 : Nat) < 49 by decide)
            rw [if_neg (by decide)]
            refine .inl ⟨w', ?_, hc⟩
            show _ = Result.ok (Next.value (.int .i64 (place : Int))) w'
            simp [execOp, e0, hcst, go_sem]
          | 6, _ =>
            simp only [List.getElem?_toArray, List.getElem?_cons_zero, List.getElem?_cons_succ, Option.some.injEq] at hi
            subst hi
            have e0 : ev (.tmp 8) = .int .i64 (k : Int) := hout 8 (by kernel_rfl) (show (8 : Nat) < 49 by decide)
            rw [if_neg (by decide)]
            refine .inl ⟨w', ?_, hc⟩
            show _ = Result.ok (Next.value (.int .i64 (k : Int))) w'
            simp [execOp, e0, hcst, go_sem]
          | 7, _ =>
            simp only [List.getElem?_toArray, List.getElem?_cons_zero, List.getElem?_cons_succ, Option.some.injEq] at hi
            subst hi
            have e0 : ev (.tmp 31) = .pointer (some ⟨l, 0, none⟩) := hin 31 4 ⟨4, .data⟩ (by kernel_rfl) (by simp) rfl rfl (show (31 : Nat) < 49 by decide)
            have e1 : ev (.tmp 32) = .int .i64 (place : Int) := hin 32 5 ⟨5, .data⟩ (by kernel_rfl) (by simp) rfl rfl (show (32 : Nat) < 49 by decide)
            have e2 : ev (.tmp 33) = .int .i64 (k : Int) := hin 33 6 ⟨6, .data⟩ (by kernel_rfl) (by simp) rfl rfl (show (33 : Nat) < 49 by decide)
            rw [if_neg (by decide)]
            refine .inr (.inr ⟨38, #[.pointer (some ⟨l, 0, none⟩), .int .i64 (place : Int), .int .i64 (k : Int)], ?_, ?_⟩)
            · have ef := hfn 38
              simp [execOp, resolve, invoke, ef, hcst, e0, e1, e2, Result.andThen]
              exact enter38 _ _
            · have hl2 : sx ≤ 0 := Nat.le_trans hlm (Nat.le_of_eq (by kernel_rfl))
              refine (cWh.out sx w' hc (by omega)).mono ?_
              rintro e w2 ⟨rfl, h2⟩
              rw [h2]
              exact ⟨rfl, hc⟩
          | 8, _ =>
            simp only [List.getElem?_toArray, List.getElem?_cons_zero, List.getElem?_cons_succ, Option.some.injEq] at hi
            subst hi
            have e0 : ev (.tmp 8) = .int .i64 (k : Int) := hout 8 (by kernel_rfl) (show (8 : Nat) < 49 by decide)
            rw [if_neg (by decide)]
            refine .inl ⟨w', ?_, hc⟩
            show _ = Result.ok (Next.value (.int .i64 (k : Int))) w'
            simp [execOp, e0, hcst, go_sem]
          | 9, _ =>
            simp only [List.getElem?_toArray, List.getElem?_cons_zero, List.getElem?_cons_succ, Option.some.injEq] at hi
            subst hi
            have e0 : ev (.tmp 2) = .int .u64 (n : Int) := hout 2 (by kernel_rfl) (show (2 : Nat) < 49 by decide)
            rw [if_neg (by decide)]
            refine .inl ⟨w', ?_, hc⟩
            show _ = Result.ok (Next.value (.int .u64 (n : Int))) w'
            simp [execOp, e0, hcst, go_sem]
          | 10, _ =>
            simp only [List.getElem?_toArray, List.getElem?_cons_zero, List.getElem?_cons_succ, Option.some.injEq] at hi
            subst hi
            have e0 : ev (.tmp 9) = .slice (some ⟨g7, off, none⟩) mm rc := hout 9 (by kernel_rfl) (show (9 : Nat) < 49 by decide)
            rw [if_neg (by decide)]
            refine .inl ⟨w', ?_, hc⟩
            show _ = Result.ok (Next.value (.slice (some ⟨g7, off, none⟩) mm rc)) w'
            simp [execOp, e0, hcst, go_sem]
          | 11, _ =>
            simp only [List.getElem?_toArray, List.getElem?_cons_zero, List.getElem?_cons_succ, Option.some.injEq] at hi
            subst hi
            have e0 : ev (.tmp 35) = .int .i64 (k : Int) := hin 35 8 ⟨8, .data⟩ (by kernel_rfl) (by simp) rfl rfl (show (35 : Nat) < 49 by decide)
            have e1 : ev (.tmp 36) = .int .u64 (n : Int) := hin 36 9 ⟨9, .data⟩ (by kernel_rfl) (by simp) rfl rfl (show (36 : Nat) < 49 by decide)
            have e2 : ev (.tmp 37) = .slice (some ⟨g7, off, none⟩) mm rc := hin 37 10 ⟨10, .data⟩ (by kernel_rfl) (by simp) rfl rfl (show (37 : Nat) < 49 by decide)
            rw [if_pos (by decide)]
            have hsx : sx = 0 := hks 0 rfl
            subst hsx
            refine .inr (.inr ⟨51, #[.int .i64 (k : Int), .int .u64 (n : Int), .slice (some ⟨g7, off, none⟩) mm rc], ?_, ?_⟩)
            · have ef := hfn 51
              simp [execOp, resolve, invoke, ef, hcst, e0, e1, e2, Result.andThen]
              exact enter51 _ _
            · refine (cLd.out w' hc).mono ?_
              rintro e w2 ⟨rfl, h2⟩
              exact ⟨rfl, h2⟩
          | 12, _ =>
            simp only [List.getElem?_toArray, List.getElem?_cons_zero, List.getElem?_cons_succ, Option.some.injEq] at hi
            subst hi
            have e0 : ev (.tmp 30) = .pointer (some ⟨d, 0, none⟩) := hin 30 3 ⟨3, .data⟩ (by kernel_rfl) (by simp) rfl rfl (show (30 : Nat) < 49 by decide)
            have e1 : ev (.tmp 34) = .int .i64 ((base + k : Nat) : Int) := hin 34 7 ⟨7, .data⟩ (by kernel_rfl) (by simp) rfl rfl (show (34 : Nat) < 49 by decide)
            have e2 : ev (.tmp 38) = .slice (some ⟨wr.heap.size, 0, none⟩) (16 + mm) (16 + mm) := hin 38 11 ⟨11, .data⟩ (by kernel_rfl) (by simp) rfl rfl (show (38 : Nat) < 49 by decide)
            rw [if_pos (by decide)]
            have hsx : sx = 1 := hks 1 rfl
            subst hsx
            refine .inr (.inr ⟨50, #[.pointer (some ⟨d, 0, none⟩), .int .i64 ((base + k : Nat) : Int), .slice (some ⟨wr.heap.size, 0, none⟩) (16 + mm) (16 + mm)], ?_, ?_⟩)
            · have ef := hfn 50
              simp [execOp, resolve, invoke, ef, hcst, e0, e1, e2, Result.andThen]
              exact enter50 _ _
            · refine (cWr.out w' hc).mono ?_
              rintro e w2 ⟨rfl, h2⟩
              exact ⟨rfl, h2⟩
          | 13, _ =>
            simp only [List.getElem?_toArray, List.getElem?_cons_zero, List.getElem?_cons_succ, Option.some.injEq] at hi
            subst hi
            have e0 : ev (.tmp 39) = .int .i64 er := hin 39 12 ⟨12, .data⟩ (by kernel_rfl) (by simp) rfl rfl (show (39 : Nat) < 49 by decide)
            rw [if_neg (by decide)]
            refine .inl ⟨w', ?_, hc⟩
            show _ = Result.ok (Next.value (.int .i64 er)) w'
            simp [execOp, e0, hcst, go_sem]
        · intro w9 hc
          simp only [lexF, Act.put, List.setIfInBounds_toArray, List.set_cons_succ, List.set_cons_zero, List.getD_cons_succ, List.getD_cons_zero]
          obtain ⟨F2, h1, h2, h3, h4⟩ := HE.out w9 hc
          have HF := hide (And.intro h1 (And.intro h2 h3))
          have HBS := hide h4
          clear hc h1 h2 h3 h4 DR lgC cWh cDv cLd cWr HE
          by_cases h0 : er = 0
          · have HW3 := hide (HW2.out.1 h0)
            subst h0
            go_wp2
            go_roundg (4 - (k + 1))
            case measure => omega
            case rel => exact ⟨k + 1, off + mm, rn - mm, rc - mm, rfl, rfl, by omega, by omega, by omega, by omega, by omega, c.drop 368, S2, F2, (DRP.out _ HBS.out).1 HCAP.out, HW3.out, HF.out.1, HF.out.2.1, HF.out.2.2⟩
          · have HW3 := hide (HW2.out.2 h0)
            have he : (er != 0) = true := by rw [bne_iff_ne]; exact h0
            clear h0
            go_wp2
            go_ret
            rw [HW3.out]
            exact ⟨rfl, HF.out.2.2, F2, HF.out.1, HF.out.2.1⟩
    · obtain rfl : k = 4 := by omega
      have hlt2 : ¬ ((4 : Nat) : Int) < 4 := by omega
      have c0 := hLk.box.cell (i := 0) rfl
      have cF := hide (flush_at d Fk Sk wr hDk)
      have E : Hid (wrR base n 4 S T.cont = (Sk.flushErr, Sk.flushDo)) := by show _ = _; rw [← hwr]; rfl
      have HL := hide hLk
      have HDk := hide hDk
      have HMk := hide hMk
      clear hBS hwr hDk hMk hLk
      go_wp2_with fail
      refine cF.out.mono ?_
      rintro e w9 ⟨rfl, F2, h1, h2⟩
      have T9 : Hid (LgIn w9 l d m v5 v6 (.slice (some ⟨g7, 0, none⟩) T.cont.length c7) T ∧ DvAt w9 d F2 Sk.flushDo ∧ Moves F F2 w w9) := ⟨HL.out.dev HDk.out h2.keep, h1, HMk.out.trans h2⟩
      clear h1 h2 cF
      generalize Sk.flushErr = fe at *
      go_wp2
      go_ret
      rw [E.out]
      exact ⟨rfl, T9.out.1, F2, T9.out.2.1, T9.out.2.2⟩
end Go.Proofs.Ytbjkahdlejaheaa
