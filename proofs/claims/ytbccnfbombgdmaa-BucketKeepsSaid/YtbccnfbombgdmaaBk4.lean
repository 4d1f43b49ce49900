/- A page is written; a filter is made of a page. -/
import Derived.Test.YtbccnfbombgdmaaBkP
set_option linter.unusedVariables false
set_option linter.unusedSimpArgs false
set_option maxRecDepth 8000
namespace Go.Proofs.Ytbccnfbombgdmaa
open Go.RowKit Go.Deep Math
variable {w0 W W' : World} {d s : Nat} {F F' : List Nat} {S S' : Dv} {L : Int} {first : Nat} {M : SM}

theorem BS.slice {w : World} {b off n cap : Nat} {l : List UInt8} (h : BS w (some ⟨b, off, none⟩) n cap l) : BSlice w (some ⟨b, off, none⟩) l b := by
  by_cases hl : l = []
  · exact .inl hl
  · have h0 : 0 < n := by rw [h.len]; exact List.length_pos_iff.2 hl
    obtain ⟨b', off', he, hb, _⟩ := h.cell 0 h0
    cases he
    refine .inr ⟨hb, off, rfl, fun j hj => ?_⟩
    obtain ⟨b', off', he, _, hc⟩ := h.cell j (by rw [h.len]; exact hj)
    cases he
    rw [hc]
    simp [List.getD_eq_getElem?_getD, hj]
/-- The page of a list. -/
def pgB (xs : List It) : ByteArray := ⟨(encs xs ++ List.replicate (384 - total xs) 0).toArray⟩
theorem pgB_size (xs : List It) (h : total xs ≤ 384) : (pgB xs).size = 384 := by
  show (encs xs ++ List.replicate (384 - total xs) 0).toArray.size = 384
  simp [encs_length]; omega
theorem take_zeros (n : Nat) : take (List.replicate n 0) = .none := by
  cases n with
  | zero => simp [take, ended]
  | succ n => simp [take, ended, List.replicate_succ]
theorem pgB_its (xs : List It) (h : total xs ≤ 384) (hg : ∀ x ∈ xs, x.fits ∧ x.good = true) : (Pg.whole (pgB xs)).its = xs := by
  have h1 := pgB_size xs h
  have e : (full (pgB xs)).data.toList = encs xs ++ List.replicate (384 - total xs) 0 := by
    rw [full_data, h1, Nat.sub_self]
    simp [pgB]
  show lsO _ = xs
  rw [e]
  unfold lsO
  rw [lst_encs xs _ hg (take_zeros _)]
  rfl
theorem enter51 (args : Array Value) (w : World) : (callFunc 51 args).run Try.prog w = .ok (.enter 51 args) w := enters_of Try.func51 (by kernel_rfl) rfl args w
set_option maxHeartbeats 2000000 in
theorem write_any (h : Bk w0 W d F S s L first M) (at0 : Nat) (hk : first + at0 ≤ 4096) (a : Option Addr) (n cap : Nat) (xs : List It) (hn : n ≤ 1048576) (hI : ItsAt W a n xs) (hg : xs.all It.good = true) (hfit : total xs ≤ 384) :
    Calls Try.prog 36 #[.pointer (some ⟨s, 0, none⟩), .int .i64 at0, .slice a n cap] W fun e W' => e = .returned (.int .i64 (S.writeErr (first + at0 : Nat) (pgB xs))) ∧ ∃ F', Bk w0 W' d F' (S.writeDo (first + at0 : Nat) (pgB xs)) s L first M ∧ Moves F F' W W' := by
  have cY := hide (lay_ok a n cap xs 384 (by omega) (by omega) W hI hg hfit)
  have H := hide h
  obtain ⟨k, hkk⟩ : ∃ k, k = first + at0 := ⟨_, rfl⟩
  rw [← hkk] at hk ⊢
  have e1 : (first : Int) + (at0 : Int) = (k : Int) := by omega
  have hx1 : first ≤ 4096 := by omega
  have hx2 : at0 ≤ 4096 := by omega
  have hwr : IntKind.i64.wrap ((first : Int) + (at0 : Int)) = (k : Int) := by rw [IntKind.wrap_i64, e1]; omega
  obtain ⟨er, her⟩ : ∃ er, er = S.writeErr (k : Nat) (pgB xs) := ⟨_, rfl⟩
  rw [← her]
  have HF := hide hfit
  have HER := hide her
  clear h hkk hI hg hfit her
  go_enter Try.func36, Try.ntmps36
  go_wp2_with fail
  refine cY.out.mono ?_
  rintro e w1 ⟨g, rfl, hgl, hbuf, b1⟩
  have hbs : BS w1 (some ⟨g, 0, none⟩) 384 384 (encs xs ++ List.replicate (384 - total xs) 0) := buf_bs (buf_full hbuf) (by rw [List.length_append, encs_length, List.length_replicate]; have := HF.out; omega) (Nat.le_refl _)
  have B1 := hide b1
  have HBS := hide hbs
  have HG : Hid (g ∉ F) := H.out.law.dev.new g hgl
  have H1 := hide (H.out.below b1)
  clear b1 hbs hbuf hgl cY
  go_wp2_with fail
  obtain ⟨CC, hCC⟩ : ∃ CC : Bool → World → Prop, CC = fun f w' => match f with
      | false => w' = w1.drewN 1
      | true => ∃ F', DvAt w' d F' (S.writeDo (k : Nat) (pgB xs)) ∧ Moves F F' w1 w' := ⟨_, rfl⟩
  have DR : Hid (CC false { w1 with drawn := w1.drawn + 1 }) := by show CC false _; rw [hCC]; rfl
  have cC : Hid (∀ w', CC false w' → Calls Try.prog 51 #[.pointer (some ⟨d, 0, none⟩), .int .i64 (k : Nat), .slice (some ⟨g, 0, none⟩) 384 384] w' fun e w' => e = .returned (.int .i64 er) ∧ CC true w') := fun w' hw => by
    rw [hCC] at hw ⊢
    simp only at hw
    subst hw
    have hb2 : BS (w1.drewN 1) (some ⟨g, 0, none⟩) 384 384 (encs xs ++ List.replicate (384 - total xs) 0) := HBS.out.heap rfl
    refine (write_at d F S (k : Nat) (some ⟨g, 0, none⟩) 384 384 g _ HBS.out.len (w1.drewN 1) hb2.slice (fun h => by cases h) (fun _ => HG.out) (H1.out.law.dev.same (fun _ _ => rfl))).mono ?_
    rintro e w2 ⟨rfl, F', h1, h2⟩
    refine ⟨by rw [HER.out]; rfl, F', h1, ?_⟩
    exact (Moves.of_keep (keep_q w1 1)).trans h2
  have cells : Hid (∀ f w', CC f w' → w'.cell? ⟨s, 0, none⟩ = some (.pointer (some ⟨d, 0, none⟩)) ∧ w'.cell? ⟨s, 2, none⟩ = some (.int .i64 (first : Int))) := fun f w' hw => by
    rw [hCC] at hw
    cases f with
    | false =>
      simp only at hw
      subst hw
      exact ⟨H1.out.st.box.cell (i := 0) rfl, H1.out.st.box.cell (i := 2) rfl⟩
    | true =>
      obtain ⟨F', h1, h2⟩ := hw
      have := (H1.out.move h1 h2).st.box
      exact ⟨this.cell (i := 0) rfl, this.cell (i := 2) rfl⟩
  have HE : Hid (∀ w', CC true w' → ∃ F', DvAt w' d F' (S.writeDo (k : Nat) (pgB xs)) ∧ Moves F F' w1 w') := fun w' hw => by rw [hCC] at hw; exact hw
  clear hCC
  refine wp_region_turn (by kernel_rfl) (by kernel_rfl) (fun i => ([.pointer (some ⟨s, 0, none⟩), .pointer (some ⟨s, 0, none⟩), .pointer (some ⟨s, 0, none⟩), .pointer (some ⟨d, 0, none⟩), .pointer (some ⟨s, 0, none⟩), .pointer (some ⟨s, 0, none⟩), .pointer (some ⟨s, 2, none⟩), .int .i64 (first : Int), .int .i64 (at0 : Int), .int .i64 (k : Int), .slice (some ⟨g, 0, none⟩) 384 384, .int .i64 er, .int .i64 er] : List Value).getD i undef) 11 (by decide) (CC) (DR.out) ?_ ?_
  · intro i o hi f w' ev hc hz hin hout hcst hfn
    have hlt : i < 13 := by
      have := (Array.getElem?_eq_some_iff.1 hi).1
      simpa using this
    match i, hlt with
    | 0, _ =>
      simp only [List.getElem?_toArray, List.getElem?_cons_zero, List.getElem?_cons_succ, Option.some.injEq] at hi
      subst hi
      have e0 : ev (.tmp 0) = .pointer (some ⟨s, 0, none⟩) := hout 0 (by kernel_rfl) (show (0 : Nat) < 29 by decide)
      rw [if_neg (by decide)]
      refine .inl ⟨w', ?_, hc⟩
      show _ = Result.ok (Next.value (.pointer (some ⟨s, 0, none⟩))) w'
      simp [execOp, e0, hcst, go_sem]
    | 1, _ =>
      simp only [List.getElem?_toArray, List.getElem?_cons_zero, List.getElem?_cons_succ, Option.some.injEq] at hi
      subst hi
      have e0 : ev (.tmp 17) = .pointer (some ⟨s, 0, none⟩) := hin 17 0 ⟨0, .data⟩ (by kernel_rfl) (by simp) rfl rfl (show (17 : Nat) < 29 by decide)
      rw [if_neg (by decide)]
      refine .inl ⟨w', ?_, hc⟩
      show _ = Result.ok (Next.value (.pointer (some ⟨s, 0, none⟩))) w'
      simp [execOp, e0, hcst, go_sem]
    | 2, _ =>
      simp only [List.getElem?_toArray, List.getElem?_cons_zero, List.getElem?_cons_succ, Option.some.injEq] at hi
      subst hi
      have e0 : ev (.tmp 18) = .pointer (some ⟨s, 0, none⟩) := hin 18 1 ⟨1, .data⟩ (by kernel_rfl) (by simp) rfl rfl (show (18 : Nat) < 29 by decide)
      rw [if_neg (by decide)]
      refine .inl ⟨w', ?_, hc⟩
      show _ = Result.ok (Next.value (.pointer (some ⟨s, 0, none⟩))) w'
      simp [execOp, e0, hcst, go_sem]
    | 3, _ =>
      simp only [List.getElem?_toArray, List.getElem?_cons_zero, List.getElem?_cons_succ, Option.some.injEq] at hi
      subst hi
      have e0 : ev (.tmp 19) = .pointer (some ⟨s, 0, none⟩) := hin 19 2 ⟨2, .data⟩ (by kernel_rfl) (by simp) rfl rfl (show (19 : Nat) < 29 by decide)
      rw [if_neg (by decide)]
      refine .inl ⟨w', ?_, hc⟩
      show _ = Result.ok (Next.value (.pointer (some ⟨d, 0, none⟩))) w'
      have q := (cells.out f w' hc).1
      simp [execOp, e0, q, hcst, go_sem]
    | 4, _ =>
      simp only [List.getElem?_toArray, List.getElem?_cons_zero, List.getElem?_cons_succ, Option.some.injEq] at hi
      subst hi
      have e0 : ev (.tmp 0) = .pointer (some ⟨s, 0, none⟩) := hout 0 (by kernel_rfl) (show (0 : Nat) < 29 by decide)
      rw [if_neg (by decide)]
      refine .inl ⟨w', ?_, hc⟩
      show _ = Result.ok (Next.value (.pointer (some ⟨s, 0, none⟩))) w'
      simp [execOp, e0, hcst, go_sem]
    | 5, _ =>
      simp only [List.getElem?_toArray, List.getElem?_cons_zero, List.getElem?_cons_succ, Option.some.injEq] at hi
      subst hi
      have e0 : ev (.tmp 21) = .pointer (some ⟨s, 0, none⟩) := hin 21 4 ⟨4, .data⟩ (by kernel_rfl) (by simp) rfl rfl (show (21 : Nat) < 29 by decide)
      rw [if_neg (by decide)]
      refine .inl ⟨w', ?_, hc⟩
      show _ = Result.ok (Next.value (.pointer (some ⟨s, 0, none⟩))) w'
      simp [execOp, e0, hcst, go_sem]
    | 6, _ =>
      simp only [List.getElem?_toArray, List.getElem?_cons_zero, List.getElem?_cons_succ, Option.some.injEq] at hi
      subst hi
      have e0 : ev (.tmp 22) = .pointer (some ⟨s, 0, none⟩) := hin 22 5 ⟨5, .data⟩ (by kernel_rfl) (by simp) rfl rfl (show (22 : Nat) < 29 by decide)
      rw [if_neg (by decide)]
      refine .inl ⟨w', ?_, hc⟩
      show _ = Result.ok (Next.value (.pointer (some ⟨s, 2, none⟩))) w'
      simp [execOp, e0, hcst, go_sem]
    | 7, _ =>
      simp only [List.getElem?_toArray, List.getElem?_cons_zero, List.getElem?_cons_succ, Option.some.injEq] at hi
      subst hi
      have e0 : ev (.tmp 23) = .pointer (some ⟨s, 2, none⟩) := hin 23 6 ⟨6, .data⟩ (by kernel_rfl) (by simp) rfl rfl (show (23 : Nat) < 29 by decide)
      rw [if_neg (by decide)]
      refine .inl ⟨w', ?_, hc⟩
      show _ = Result.ok (Next.value (.int .i64 (first : Int))) w'
      have q := (cells.out f w' hc).2
      simp [execOp, e0, q, hcst, go_sem]
    | 8, _ =>
      simp only [List.getElem?_toArray, List.getElem?_cons_zero, List.getElem?_cons_succ, Option.some.injEq] at hi
      subst hi
      have e0 : ev (.tmp 1) = .int .i64 (at0 : Int) := hout 1 (by kernel_rfl) (show (1 : Nat) < 29 by decide)
      rw [if_neg (by decide)]
      refine .inl ⟨w', ?_, hc⟩
      show _ = Result.ok (Next.value (.int .i64 (at0 : Int))) w'
      simp [execOp, e0, hcst, go_sem]
    | 9, _ =>
      simp only [List.getElem?_toArray, List.getElem?_cons_zero, List.getElem?_cons_succ, Option.some.injEq] at hi
      subst hi
      have e0 : ev (.tmp 24) = .int .i64 (first : Int) := hin 24 7 ⟨7, .data⟩ (by kernel_rfl) (by simp) rfl rfl (show (24 : Nat) < 29 by decide)
      have e1 : ev (.tmp 25) = .int .i64 (at0 : Int) := hin 25 8 ⟨8, .data⟩ (by kernel_rfl) (by simp) rfl rfl (show (25 : Nat) < 29 by decide)
      rw [if_neg (by decide)]
      refine .inl ⟨w', ?_, hc⟩
      show _ = Result.ok (Next.value (.int .i64 (k : Int))) w'
      simp [execOp, e0, e1, hcst, go_sem, hwr]
    | 10, _ =>
      simp only [List.getElem?_toArray, List.getElem?_cons_zero, List.getElem?_cons_succ, Option.some.injEq] at hi
      subst hi
      have e0 : ev (.tmp 7) = .slice (some ⟨g, 0, none⟩) 384 384 := hout 7 (by kernel_rfl) (show (7 : Nat) < 29 by decide)
      rw [if_neg (by decide)]
      refine .inl ⟨w', ?_, hc⟩
      show _ = Result.ok (Next.value (.slice (some ⟨g, 0, none⟩) 384 384)) w'
      simp [execOp, e0, hcst, go_sem]
    | 11, _ =>
      simp only [List.getElem?_toArray, List.getElem?_cons_zero, List.getElem?_cons_succ, Option.some.injEq] at hi
      subst hi
      have e0 : ev (.tmp 20) = .pointer (some ⟨d, 0, none⟩) := hin 20 3 ⟨3, .data⟩ (by kernel_rfl) (by simp) rfl rfl (show (20 : Nat) < 29 by decide)
      have e1 : ev (.tmp 26) = .int .i64 (k : Int) := hin 26 9 ⟨9, .data⟩ (by kernel_rfl) (by simp) rfl rfl (show (26 : Nat) < 29 by decide)
      have e2 : ev (.tmp 27) = .slice (some ⟨g, 0, none⟩) 384 384 := hin 27 10 ⟨10, .data⟩ (by kernel_rfl) (by simp) rfl rfl (show (27 : Nat) < 29 by decide)
      rw [if_pos rfl]
      refine .inr (.inr ⟨51, #[.pointer (some ⟨d, 0, none⟩), .int .i64 (k : Int), .slice (some ⟨g, 0, none⟩) 384 384], ?_, ?_⟩)
      · have ef := hfn 51
        simp [execOp, resolve, invoke, ef, hcst, e0, e1, e2, Result.andThen]
        exact enter51 _ _
      · rw [hz rfl] at hc
        refine (cC.out w' hc).mono ?_
        rintro e w2 ⟨rfl, h2⟩
        exact ⟨rfl, h2⟩
    | 12, _ =>
      simp only [List.getElem?_toArray, List.getElem?_cons_zero, List.getElem?_cons_succ, Option.some.injEq] at hi
      subst hi
      have e0 : ev (.tmp 28) = .int .i64 er := hin 28 11 ⟨11, .data⟩ (by kernel_rfl) (by simp) rfl rfl (show (28 : Nat) < 29 by decide)
      rw [if_neg (by decide)]
      refine .inl ⟨w', ?_, hc⟩
      show _ = Result.ok (Next.value (.int .i64 er)) w'
      simp [execOp, e0, hcst, go_sem]
  · intro w7 hc
    simp only [lexF, Act.put, List.setIfInBounds_toArray, List.set_cons_succ, List.set_cons_zero, List.getD_cons_succ, List.getD_cons_zero]
    have T := hide (HE.out w7 hc)
    clear hwr hc cC cells DR HE
    go_wp2
    go_ret
    obtain ⟨F', h1, h2⟩ := T.out
    exact ⟨rfl, F', H1.out.move h1 h2, (Moves.of_keep (Keep.of_below B1.out)).trans h2⟩
end Go.Proofs.Ytbccnfbombgdmaa
