/- Texts joined: Bk4, Bk5. -/
import Derived.Test.YtbccnfbombgdmaaGreatJ17
/- A page is written; a filter is made of a page. -/
set_option linter.unusedVariables false
set_option linter.unusedSimpArgs false
set_option maxRecDepth 8000
namespace Go.Proofs.YtbccnfbombgdmaaGreat
open Go.RowKit Go.Deep Math
variable {w0 W W' : World} {d s : Nat} {F F' : List Nat} {S S' : Dv} {L : Int} {first : Nat} {M : SM}

theorem BS.slice {w : World} {b off n cap : Nat} {l : List UInt8} (h : BS w (some ⟨b, off, none⟩) n cap l) : BSlice w (some ⟨b, off, none⟩) l b := by
  by_cases hl : l = []
  · exact .inl hl
  · have h0 : 0 < n := by rw [h.len]; exact List.length_pos_iff.2 hl
    obtain ⟨b', off', he, hb, _⟩ := h.cell 0 h0
    cases he
    refine .inr ⟨hb, off, rfl, fun j hj => ?_⟩
    obtain ⟨b', off', he, _, hc⟩ := h.cell j (by rw [h.len]; exact hj)
    cases he
    rw [hc]
    simp [List.getD_eq_getElem?_getD, hj]
/-- The page of a list. -/
def pgB (xs : List It) : ByteArray := ⟨(encs xs ++ List.replicate (384 - total xs) 0).toArray⟩
theorem pgB_size (xs : List It) (h : total xs ≤ 384) : (pgB xs).size = 384 := by
  show (encs xs ++ List.replicate (384 - total xs) 0).toArray.size = 384
  simp [encs_length]; omega
theorem take_zeros (n : Nat) : take (List.replicate n 0) = .none := by
  cases n with
  | zero => simp [take, ended]
  | succ n => simp [take, ended, List.replicate_succ]
theorem pgB_its (xs : List It) (h : total xs ≤ 384) (hg : ∀ x ∈ xs, x.fits ∧ x.good = true) : (Pg.whole (pgB xs)).its = xs := by
  have h1 := pgB_size xs h
  have e : (full (pgB xs)).data.toList = encs xs ++ List.replicate (384 - total xs) 0 := by
    rw [full_data, h1, Nat.sub_self]
    simp [pgB]
  show lsO _ = xs
  rw [e]
  unfold lsO
  rw [lst_encs xs _ hg (take_zeros _)]
  rfl
theorem enter51 (args : Array Value) (w : World) : (callFunc 46 args).run Tryz.prog w = .ok (.enter 46 args) w := enters_of Tryz.func46 (by kernel_rfl) rfl args w
set_option maxHeartbeats 2000000 in
theorem write_any (h : Bk w0 W d F S s L first M) (at0 : Nat) (hk : first + at0 ≤ 4096) (a : Option Addr) (n cap : Nat) (xs : List It) (hn : n ≤ 1048576) (hI : ItsAt W a n xs) (hg : xs.all It.good = true) (hfit : total xs ≤ 384) :
    Calls Tryz.prog 33 #[.pointer (some ⟨s, 0, none⟩), .int .i64 at0, .slice a n cap] W fun e W' => e = .returned (.int .i64 (S.writeErr (first + at0 : Nat) (pgB xs))) ∧ ∃ F', Bk w0 W' d F' (S.writeDo (first + at0 : Nat) (pgB xs)) s L first M ∧ Moves F F' W W' := by
  have cY := hide (lay_ok a n cap xs 384 (by omega) (by omega) W hI hg hfit)
  have H := hide h
  obtain ⟨k, hkk⟩ : ∃ k, k = first + at0 := ⟨_, rfl⟩
  rw [← hkk] at hk ⊢
  have e1 : (first : Int) + (at0 : Int) = (k : Int) := by omega
  have hx1 : first ≤ 4096 := by omega
  have hx2 : at0 ≤ 4096 := by omega
  have hwr : IntKind.i64.wrap ((first : Int) + (at0 : Int)) = (k : Int) := by rw [IntKind.wrap_i64, e1]; omega
  obtain ⟨er, her⟩ : ∃ er, er = S.writeErr (k : Nat) (pgB xs) := ⟨_, rfl⟩
  rw [← her]
  have HF := hide hfit
  have HER := hide her
  clear h hkk hI hg hfit her
  go_enter Tryz.func33, Tryz.ntmps33
  go_wp2_with fail
  refine cY.out.mono ?_
  rintro e w1 ⟨g, rfl, hgl, hbuf, b1⟩
  have hbs : BS w1 (some ⟨g, 0, none⟩) 384 384 (encs xs ++ List.replicate (384 - total xs) 0) := buf_bs (buf_full hbuf) (by rw [List.length_append, encs_length, List.length_replicate]; have := HF.out; omega) (Nat.le_refl _)
  have B1 := hide b1
  have HBS := hide hbs
  have HG : Hid (g ∉ F) := H.out.law.dev.new g hgl
  have H1 := hide (H.out.below b1)
  clear b1 hbs hbuf hgl cY
  go_wp2_with fail
  obtain ⟨CC, hCC⟩ : ∃ CC : Bool → World → Prop, CC = fun f w' => match f with
      | false => w' = w1.drewN 1
      | true => ∃ F', DvAt w' d F' (S.writeDo (k : Nat) (pgB xs)) ∧ Moves F F' w1 w' := ⟨_, rfl⟩
  have DR : Hid (CC false { w1 with drawn := w1.drawn + 1 }) := by show CC false _; rw [hCC]; rfl
  have cC : Hid (∀ w', CC false w' → Calls Tryz.prog 46 #[.pointer (some ⟨d, 0, none⟩), .int .i64 (k : Nat), .slice (some ⟨g, 0, none⟩) 384 384] w' fun e w' => e = .returned (.int .i64 er) ∧ CC true w') := fun w' hw => by
    rw [hCC] at hw ⊢
    simp only at hw
    subst hw
    have hb2 : BS (w1.drewN 1) (some ⟨g, 0, none⟩) 384 384 (encs xs ++ List.replicate (384 - total xs) 0) := HBS.out.heap rfl
    refine (write_at d F S (k : Nat) (some ⟨g, 0, none⟩) 384 384 g _ HBS.out.len (w1.drewN 1) hb2.slice (fun h => by cases h) (fun _ => HG.out) (H1.out.law.dev.same (fun _ _ => rfl))).mono ?_
    rintro e w2 ⟨rfl, F', h1, h2⟩
    refine ⟨by rw [HER.out]; rfl, F', h1, ?_⟩
    exact (Moves.of_keep (keep_q w1 1)).trans h2
  have cells : Hid (∀ f w', CC f w' → w'.cell? ⟨s, 0, none⟩ = some (.pointer (some ⟨d, 0, none⟩)) ∧ w'.cell? ⟨s, 2, none⟩ = some (.int .i64 (first : Int))) := fun f w' hw => by
    rw [hCC] at hw
    cases f with
    | false =>
      simp only at hw
      subst hw
      exact ⟨H1.out.st.box.cell (i := 0) rfl, H1.out.st.box.cell (i := 2) rfl⟩
    | true =>
      obtain ⟨F', h1, h2⟩ := hw
      have := (H1.out.move h1 h2).st.box
      exact ⟨this.cell (i := 0) rfl, this.cell (i := 2) rfl⟩
  have HE : Hid (∀ w', CC true w' → ∃ F', DvAt w' d F' (S.writeDo (k : Nat) (pgB xs)) ∧ Moves F F' w1 w') := fun w' hw => by rw [hCC] at hw; exact hw
  clear hCC
  refine wp_region_turn (by kernel_rfl) (by kernel_rfl) (fun i => ([.pointer (some ⟨s, 0, none⟩), .pointer (some ⟨s, 0, none⟩), .pointer (some ⟨s, 0, none⟩), .pointer (some ⟨d, 0, none⟩), .pointer (some ⟨s, 0, none⟩), .pointer (some ⟨s, 0, none⟩), .pointer (some ⟨s, 2, none⟩), .int .i64 (first : Int), .int .i64 (at0 : Int), .int .i64 (k : Int), .slice (some ⟨g, 0, none⟩) 384 384, .int .i64 er, .int .i64 er] : List Value).getD i undef) 11 (by decide) (CC) (DR.out) ?_ ?_
  · intro i o hi f w' ev hc hz hin hout hcst hfn
    have hlt : i < 13 := by
      have := (Array.getElem?_eq_some_iff.1 hi).1
      simpa using this
    match i, hlt with
    | 0, _ =>
      simp only [List.getElem?_toArray, List.getElem?_cons_zero, List.getElem?_cons_succ, Option.some.injEq] at hi
      subst hi
      have e0 : ev (.tmp 0) = .pointer (some ⟨s, 0, none⟩) := hout 0 (by kernel_rfl) (show (0 : Nat) < 29 by decide)
      rw [if_neg (by decide)]
      refine .inl ⟨w', ?_, hc⟩
      show _ = Result.ok (Next.value (.pointer (some ⟨s, 0, none⟩))) w'
      simp [execOp, e0, hcst, go_sem]
    | 1, _ =>
      simp only [List.getElem?_toArray, List.getElem?_cons_zero, List.getElem?_cons_succ, Option.some.injEq] at hi
      subst hi
      have e0 : ev (.tmp 17) = .pointer (some ⟨s, 0, none⟩) := hin 17 0 ⟨0, .data⟩ (by kernel_rfl) (by simp) rfl rfl (show (17 : Nat) < 29 by decide)
      rw [if_neg (by decide)]
      refine .inl ⟨w', ?_, hc⟩
      show _ = Result.ok (Next.value (.pointer (some ⟨s, 0, none⟩))) w'
      simp [execOp, e0, hcst, go_sem]
    | 2, _ =>
      simp only [List.getElem?_toArray, List.getElem?_cons_zero, List.getElem?_cons_succ, Option.some.injEq] at hi
      subst hi
      have e0 : ev (.tmp 18) = .pointer (some ⟨s, 0, none⟩) := hin 18 1 ⟨1, .data⟩ (by kernel_rfl) (by simp) rfl rfl (show (18 : Nat) < 29 by decide)
      rw [if_neg (by decide)]
      refine .inl ⟨w', ?_, hc⟩
      show _ = Result.ok (Next.value (.pointer (some ⟨s, 0, none⟩))) w'
      simp [execOp, e0, hcst, go_sem]
    | 3, _ =>
      simp only [List.getElem?_toArray, List.getElem?_cons_zero, List.getElem?_cons_succ, Option.some.injEq] at hi
      subst hi
      have e0 : ev (.tmp 19) = .pointer (some ⟨s, 0, none⟩) := hin 19 2 ⟨2, .data⟩ (by kernel_rfl) (by simp) rfl rfl (show (19 : Nat) < 29 by decide)
      rw [if_neg (by decide)]
      refine .inl ⟨w', ?_, hc⟩
      show _ = Result.ok (Next.value (.pointer (some ⟨d, 0, none⟩))) w'
      have q := (cells.out f w' hc).1
      simp [execOp, e0, q, hcst, go_sem]
    | 4, _ =>
      simp only [List.getElem?_toArray, List.getElem?_cons_zero, List.getElem?_cons_succ, Option.some.injEq] at hi
      subst hi
      have e0 : ev (.tmp 0) = .pointer (some ⟨s, 0, none⟩) := hout 0 (by kernel_rfl) (show (0 : Nat) < 29 by decide)
      rw [if_neg (by decide)]
      refine .inl ⟨w', ?_, hc⟩
      show _ = Result.ok (Next.value (.pointer (some ⟨s, 0, none⟩))) w'
      simp [execOp, e0, hcst, go_sem]
    | 5, _ =>
      simp only [List.getElem?_toArray, List.getElem?_cons_zero, List.getElem?_cons_succ, Option.some.injEq] at hi
      subst hi
      have e0 : ev (.tmp 21) = .pointer (some ⟨s, 0, none⟩) := hin 21 4 ⟨4, .data⟩ (by kernel_rfl) (by simp) rfl rfl (show (21 : Nat) < 29 by decide)
      rw [if_neg (by decide)]
      refine .inl ⟨w', ?_, hc⟩
      show _ = Result.ok (Next.value (.pointer (some ⟨s, 0, none⟩))) w'
      simp [execOp, e0, hcst, go_sem]
    | 6, _ =>
      simp only [List.getElem?_toArray, List.getElem?_cons_zero, List.getElem?_cons_succ, Option.some.injEq] at hi
      subst hi
      have e0 : ev (.tmp 22) = .pointer (some ⟨s, 0, none⟩) := hin 22 5 ⟨5, .data⟩ (by kernel_rfl) (by simp) rfl rfl (show (22 : Nat) < 29 by decide)
      rw [if_neg (by decide)]
      refine .inl ⟨w', ?_, hc⟩
      show _ = Result.ok (Next.value (.pointer (some ⟨s, 2, none⟩))) w'
      simp [execOp, e0, hcst, go_sem]
    | 7, _ =>
      simp only [List.getElem?_toArray, List.getElem?_cons_zero, List.getElem?_cons_succ, Option.some.injEq] at hi
      subst hi
      have e0 : ev (.tmp 23) = .pointer (some ⟨s, 2, none⟩) := hin 23 6 ⟨6, .data⟩ (by kernel_rfl) (by simp) rfl rfl (show (23 : Nat) < 29 by decide)
      rw [if_neg (by decide)]
      refine .inl ⟨w', ?_, hc⟩
      show _ = Result.ok (Next.value (.int .i64 (first : Int))) w'
      have q := (cells.out f w' hc).2
      simp [execOp, e0, q, hcst, go_sem]
    | 8, _ =>
      simp only [List.getElem?_toArray, List.getElem?_cons_zero, List.getElem?_cons_succ, Option.some.injEq] at hi
      subst hi
      have e0 : ev (.tmp 1) = .int .i64 (at0 : Int) := hout 1 (by kernel_rfl) (show (1 : Nat) < 29 by decide)
      rw [if_neg (by decide)]
      refine .inl ⟨w', ?_, hc⟩
      show _ = Result.ok (Next.value (.int .i64 (at0 : Int))) w'
      simp [execOp, e0, hcst, go_sem]
    | 9, _ =>
      simp only [List.getElem?_toArray, List.getElem?_cons_zero, List.getElem?_cons_succ, Option.some.injEq] at hi
      subst hi
      have e0 : ev (.tmp 24) = .int .i64 (first : Int) := hin 24 7 ⟨7, .data⟩ (by kernel_rfl) (by simp) rfl rfl (show (24 : Nat) < 29 by decide)
      have e1 : ev (.tmp 25) = .int .i64 (at0 : Int) := hin 25 8 ⟨8, .data⟩ (by kernel_rfl) (by simp) rfl rfl (show (25 : Nat) < 29 by decide)
      rw [if_neg (by decide)]
      refine .inl ⟨w', ?_, hc⟩
      show _ = Result.ok (Next.value (.int .i64 (k : Int))) w'
      simp [execOp, e0, e1, hcst, go_sem, hwr]
    | 10, _ =>
      simp only [List.getElem?_toArray, List.getElem?_cons_zero, List.getElem?_cons_succ, Option.some.injEq] at hi
      subst hi
      have e0 : ev (.tmp 7) = .slice (some ⟨g, 0, none⟩) 384 384 := hout 7 (by kernel_rfl) (show (7 : Nat) < 29 by decide)
      rw [if_neg (by decide)]
      refine .inl ⟨w', ?_, hc⟩
      show _ = Result.ok (Next.value (.slice (some ⟨g, 0, none⟩) 384 384)) w'
      simp [execOp, e0, hcst, go_sem]
    | 11, _ =>
      simp only [List.getElem?_toArray, List.getElem?_cons_zero, List.getElem?_cons_succ, Option.some.injEq] at hi
      subst hi
      have e0 : ev (.tmp 20) = .pointer (some ⟨d, 0, none⟩) := hin 20 3 ⟨3, .data⟩ (by kernel_rfl) (by simp) rfl rfl (show (20 : Nat) < 29 by decide)
      have e1 : ev (.tmp 26) = .int .i64 (k : Int) := hin 26 9 ⟨9, .data⟩ (by kernel_rfl) (by simp) rfl rfl (show (26 : Nat) < 29 by decide)
      have e2 : ev (.tmp 27) = .slice (some ⟨g, 0, none⟩) 384 384 := hin 27 10 ⟨10, .data⟩ (by kernel_rfl) (by simp) rfl rfl (show (27 : Nat) < 29 by decide)
      rw [if_pos rfl]
      refine .inr (.inr ⟨46, #[.pointer (some ⟨d, 0, none⟩), .int .i64 (k : Int), .slice (some ⟨g, 0, none⟩) 384 384], ?_, ?_⟩)
      · have ef := hfn 46
        simp [execOp, resolve, invoke, ef, hcst, e0, e1, e2, Result.andThen]
        exact enter51 _ _
      · rw [hz rfl] at hc
        refine (cC.out w' hc).mono ?_
        rintro e w2 ⟨rfl, h2⟩
        exact ⟨rfl, h2⟩
    | 12, _ =>
      simp only [List.getElem?_toArray, List.getElem?_cons_zero, List.getElem?_cons_succ, Option.some.injEq] at hi
      subst hi
      have e0 : ev (.tmp 28) = .int .i64 er := hin 28 11 ⟨11, .data⟩ (by kernel_rfl) (by simp) rfl rfl (show (28 : Nat) < 29 by decide)
      rw [if_neg (by decide)]
      refine .inl ⟨w', ?_, hc⟩
      show _ = Result.ok (Next.value (.int .i64 er)) w'
      simp [execOp, e0, hcst, go_sem]
  · intro w7 hc
    simp only [lexF, Act.put, List.setIfInBounds_toArray, List.set_cons_succ, List.set_cons_zero, List.getD_cons_succ, List.getD_cons_zero]
    have T := hide (HE.out w7 hc)
    clear hwr hc cC cells DR HE
    go_wp2
    go_ret
    obtain ⟨F', h1, h2⟩ := T.out
    exact ⟨rfl, F', H1.out.move h1 h2, (Moves.of_keep (Keep.of_below B1.out)).trans h2⟩
end Go.Proofs.YtbccnfbombgdmaaGreat

/- A filter is made of a page. -/
set_option linter.unusedVariables false
set_option linter.unusedSimpArgs false
set_option maxRecDepth 8000
namespace Go.Proofs.YtbccnfbombgdmaaGreat
open Go.RowKit Go.Deep Math
variable {w0 W W' : World} {d s : Nat} {F F' : List Nat} {S S' : Dv} {L : Int} {first : Nat} {M : SM}

theorem OneIt.same {w w' : World} {b o : Nat} {x : It} (h : OneIt w b o x) (e : w'.heap[b]? = w.heap[b]?) : OneIt w' b o x := by
  have k : ∀ j, w'.cell? ⟨b, j, none⟩ = w.cell? ⟨b, j, none⟩ := fun j => World.cell?_of_block (a := ⟨b, j, none⟩) e
  exact ⟨(k _).trans h.c0, (k _).trans h.c1, (k _).trans h.c2, (k _).trans h.c3, (k _).trans h.c4⟩
theorem ItsAt.same {w w' : World} {a : Option Addr} {len : Nat} {xs : List It} (h : ItsAt w a len xs) (hs : w.heap.size ≤ w'.heap.size) (k : ∀ b o, a = some ⟨b, o, none⟩ → w'.heap[b]? = w.heap[b]?) : ItsAt w' a len xs :=
  ⟨h.len, h.fits, fun i x hx => by
    obtain ⟨b, o, ha, hb, hc⟩ := h.cell i x hx
    exact ⟨b, o, ha, Nat.lt_of_lt_of_le hb hs, hc.same (k b o ha)⟩⟩
theorem Oks.of_good {xs : List It} (h : ∀ x ∈ xs, x.fits ∧ x.good = true) : Oks xs := fun x hx => by
  have := good_sizes (h x hx).2
  exact ⟨(h x hx).1, by omega, by omega⟩
/-- The bits of a list's keys. -/
def keyB (l : List Bool) (x : It) : List Bool := Bl.setB l (Bl.plc (txt x.key) 256 3)
def toldB (xs : List It) : List Bool := xs.foldl keyB (List.replicate 256 false)
theorem keyB_length (l : List Bool) (x : It) : (keyB l x).length = l.length := Bl.setB_length _ _
theorem toldB_snoc (xs : List It) (x : It) : toldB (xs ++ [x]) = keyB (toldB xs) x := by simp [toldB]
theorem foldB_length (xs : List It) : ∀ l : List Bool, (xs.foldl keyB l).length = l.length := by
  induction xs with
  | nil => intro l; rfl
  | cons x r ih => intro l; rw [List.foldl_cons, ih, keyB_length]
theorem toldB_length (xs : List It) : (toldB xs).length = 256 := by unfold toldB; rw [foldB_length, List.length_replicate]

set_option maxHeartbeats 2000000 in
theorem filter_ok (h : Bk w0 W d F S s L first M) (hL : L = S.losses) (hoff : S.off = false) (at0 : Nat) (c : Cl) (hk : S.cs[first + at0]? = some c) (hcf : c.now.fits) :
    Calls Tryz.prog 25 #[.pointer (some ⟨s, 0, none⟩), .int .i64 at0] W fun e W' => e = .returned (.tuple #[.pointer (some ⟨W.heap.size + 1, 0, none⟩), .int .i64 0]) ∧
      Bl.FltIn W' (W.heap.size + 1) W.heap.size (toldB c.now.its) 3 ∧ Bk w0 W' d F (S.readDo (first + at0 : Nat)) s L first M ∧ Keep F W W' := by
  have cN := hide (Bl.new_ok 256 3 W (by omega) (by omega) (by omega) (by omega))
  obtain ⟨N, hN⟩ : ∃ N, N = W.heap.size := ⟨_, rfl⟩
  rw [← hN] at cN ⊢
  have H := hide h
  have HL := hide hL
  have HO := hide hoff
  have HK := hide hk
  have HC := hide (Pg.its_all c.now hcf)
  have HNN := hide hN
  obtain ⟨xs, hxs⟩ : ∃ xs, xs = c.now.its := ⟨_, rfl⟩
  rw [← hxs] at HC ⊢
  have HXS := hide hxs
  have hxl : xs.length ≤ 100 := by have h1 := HC.out.1; have h2 := total_len xs; omega
  clear h hL hoff hk hcf hN hxs
  go_enter Tryz.func25, Tryz.ntmps25
  go_wp2_with fail
  refine cN.out.mono ?_
  rintro e w1 ⟨rfl, hf, b1⟩
  rw [HNN.out] at b1
  have H1 := hide (H.out.below b1)
  have F1 := hide hf
  have B1 := hide b1
  have cT := hide (list_ok H1.out HL.out HO.out at0 c HK.out)
  clear hf b1 cN
  go_wp2_with fail
  refine cT.out.mono ?_
  rintro e w2 ⟨v, rfl, hr, hb2, k2⟩
  rw [← HXS.out] at hr
  have hNF : N ∉ F ∧ N + 1 ∉ F := ⟨by rw [HNN.out]; exact H.out.law.dev.new _ (Nat.le_refl _), by rw [HNN.out]; exact H.out.law.dev.new _ (by omega)⟩
  have F2 := hide (F1.out.keep k2 hNF.2 hNF.1)
  have H2 := hide hb2
  have K2 := hide k2
  obtain ⟨a, cap, rfl, hI, hq, _, _⟩ := hr.its (Oks.of_good HC.out.2)
  have hw1 : N < w1.heap.size := F1.out.row.lt
  have HQ : Hid (∀ b o, a = some ⟨b, o, none⟩ → b ≠ N) := fun b o hab => by
    have := (hr.lt b (by rw [hab]; rfl)).1
    omega
  have HI := hide hI
  obtain ⟨n, hn⟩ : ∃ n, n = xs.length := ⟨_, rfl⟩
  rw [← hn] at HI hxl ⊢
  have HN2 := hide hn
  clear hr hb2 k2 cT hI hq hn
  go_wp2_with fail
  go_loopg [26] n (fun kx s26 wr => ∃ i : Nat, s26 = .int .i64 i ∧ i ≤ n ∧ n - i ≤ kx ∧ Hid (Bl.FltIn wr (N + 1) N (toldB (xs.take i)) 3 ∧ Keep [N] w2 wr))
  case atStart => exact ⟨0, rfl, Nat.zero_le _, by omega, F2.out, Keep.refl _ _⟩
  case round =>
    obtain ⟨i, rfl, hin, hg, I⟩ := hrel
    by_cases hlt : i < n
    · have hlt2 : (i : Int) < (n : Int) := by omega
      obtain ⟨x, hx⟩ : ∃ x, xs[i]? = some x := ⟨_, List.getElem?_eq_getElem (by rw [← HN2.out]; exact hlt)⟩
      have IW := HI.out.same I.out.2.size (fun b o hab => I.out.2.block b (by
        obtain ⟨b', o', ha', hb', _⟩ := HI.out.cell i x hx
        rw [hab] at ha'
        cases ha'
        exact hb') (by simpa using HQ.out b o hab))
      obtain ⟨b, o, rfl, hb, hc⟩ := IW.cell i x hx
      obtain ⟨c0, c1, c2, c3, c4⟩ := hc.vals
      have hxg := good_sizes (HC.out.2 x (List.mem_of_getElem? hx)).2
      have cA := hide (fun (V : World) (hV : Bl.FltIn V (N + 1) N (toldB (xs.take i)) 3) => Bl.add_any (N + 1) N 3 (toldB (xs.take i)) (txt x.key) (by rw [txt_size]; unfold maxLen; omega) V hV)
      rw [toldB_length] at cA
      have TT : Hid (toldB (xs.take (i + 1)) = Bl.setB (toldB (xs.take i)) (Bl.plc (txt x.key) 256 3)) := by
        show _ = _
        rw [List.take_add_one, hx]
        exact toldB_snoc _ _
      clear hc hx IW hxg
      go_wp2_with fail
      refine (cA.out _ (I.out.1.alloc _)).mono ?_
      rintro e w3 ⟨rfl, hf3, k3⟩
      have F3 := hide hf3
      have K3 := hide ((I.out.2.alloc (.cells #[.string (txt x.key), .string (txt x.value), .int .u32 x.flags, .int .i64 x.exp, .int .u64 x.ver] 39)).trans k3 (fun q hq => .inl hq))
      clear hf3 k3 cA
      go_wp2
      go_roundg (n - (i + 1))
      case measure => omega
      case rel => exact ⟨i + 1, rfl, by omega, by omega, by rw [TT.out]; exact F3.out, K3.out⟩
    · obtain rfl : i = n := by omega
      have hlt2 : ¬ (i : Int) < (i : Int) := by omega
      have I' := I.out
      rw [HN2.out, List.take_length] at I'
      have II := hide I'
      have NS : Hid (N ∉ M.foot s ∧ w0.heap.size ≤ N) := ⟨fun hf => by have := H.out.st.lt N hf; have := HNN.out; omega, by rw [HNN.out]; exact H.out.law.bel.size⟩
      have HNF := hide hNF
      clear I' hNF
      go_wp2
      go_ret2
      refine ⟨rfl, II.out.1, H2.out.keep II.out.2 (fun b hb => by simp at hb; subst hb; exact ⟨HNF.out.1, NS.out⟩), ?_⟩
      have k0 : Keep F W w1 := Keep.of_below B1.out
      exact (k0.trans K2.out (fun q hq => .inl hq)).trans II.out.2 (fun q hq => by simp at hq; subst hq; exact .inr (by have := HNN.out; omega))
end Go.Proofs.YtbccnfbombgdmaaGreat
