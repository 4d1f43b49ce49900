/- Texts joined: BothW. -/
import Derived.Test.YtbccnfbombgdmaaGreatJ25
/- 'both': Write on the device and on the document's own, in whatever order their operands are taken. -/
set_option linter.unusedVariables false
set_option linter.unusedSimpArgs false
set_option maxRecDepth 30000
namespace Go.Proofs.YtbccnfbombgdmaaGreat
open Go.RowKit Go.Deep

/-- Both devices, apart from each other. -/
structure Pair (w : World) (d r : Nat) (F G : List Nat) (S T : Dv) : Prop where
  dev : DvAt w d F S
  ref : RfAt w r G T
  apart : ApartF w F G

theorem Pair.below {w w' : World} {d r : Nat} {F G : List Nat} {S T : Dv} (h : Pair w d r F G S T) (b : Below w.heap.size w w') : Pair w' d r F G S T :=
  ⟨h.dev.below b, h.ref.below b, (h.apart.below b).1⟩
theorem Moves.left {F F' G : List Nat} {w w' : World} (m : Moves F F' w w') : Moves (F ++ G) (F' ++ G) w w' :=
  ⟨m.keep.mono (fun k hk => .inl (by simp [hk])), fun k hk => by
    rcases List.mem_append.1 hk with h | h
    · rcases m.foot k h with h1 | h1
      · exact .inl (by simp [h1])
      · exact .inr h1
    · exact .inl (by simp [h])⟩
theorem Moves.right {F G G' : List Nat} {w w' : World} (m : Moves G G' w w') : Moves (F ++ G) (F ++ G') w w' :=
  ⟨m.keep.mono (fun k hk => .inl (by simp [hk])), fun k hk => by
    rcases List.mem_append.1 hk with h | h
    · exact .inl (by simp [h])
    · rcases m.foot k h with h1 | h1
      · exact .inl (by simp [h1])
      · exact .inr h1⟩
theorem ApartF.swap {w : World} {F G : List Nat} (a : ApartF w F G) (hF : ∀ k ∈ F, k < w.heap.size) : ApartF w G F := fun k hk => ⟨hF k hk, fun hg => (a k hg).2 hk⟩

/-- A step of the first alone. -/
theorem Pair.step1 {w w' : World} {d r : Nat} {F F' G : List Nat} {S S' T : Dv} (h : Pair w d r F G S T) (hd : DvAt w' d F' S') (m : Moves F F' w w') : Pair w' d r F' G S' T := by
  obtain ⟨a, hs⟩ := m.apart h.apart
  exact ⟨hd, h.ref.same hs, a⟩
/-- A step of the second alone. -/
theorem Pair.step2 {w w' : World} {d r : Nat} {F G G' : List Nat} {S T T' : Dv} (h : Pair w d r F G S T) (hr : RfAt w' r G' T') (m : Moves G G' w w') : Pair w' d r F G' S T' := by
  obtain ⟨a, hs⟩ := m.apart (h.apart.swap h.dev.lt)
  exact ⟨h.dev.same hs, hr, a.swap (fun k hk => hr.lt k hk)⟩

set_option maxHeartbeats 4000000 in
set_option maxRecDepth 100000 in
theorem both_write (d r : Nat) (F G : List Nat) (S T : Dv) (page : Int) (a : Option Addr) (n cap bb : Nat) (l : List UInt8) (hn : n = l.length) (hl : n ≤ 140737488355328) (w : World) (hP : Pair w d r F G S T)
    (hbs : BSlice w a l bb) (hnil : a = none → l = []) (hbF : l ≠ [] → bb ∉ F) (hbG : l ≠ [] → bb ∉ G) :
    Calls Tryz.prog 18 #[.pointer (some ⟨d, 0, none⟩), .pointer (some ⟨r, 0, none⟩), .agg #[.int .i64 0, .int .i64 page, .slice a n cap]] w fun e w' =>
      e = .returned (.bool (S.writeErr page ⟨l.toArray⟩ == T.writeErr page ⟨l.toArray⟩)) ∧ ∃ F', Pair w' d r F' G (S.writeDo page ⟨l.toArray⟩) (T.writeDo page ⟨l.toArray⟩) ∧ Moves (F ++ G) (F' ++ G) w w' := by
  obtain ⟨W0, hW0⟩ : ∃ W0, W0 = (w.alloc (.cells #[.int .i64 0, .int .i64 page, .slice a n cap] 42)).drew := ⟨_, rfl⟩
  have hs0 : W0.heap.size = w.heap.size + 1 := by rw [hW0]; exact nblk_alloc _ _
  have B0 : Below w.heap.size w W0 := by rw [hW0]; exact ((Below.refl _ _).alloc (Nat.le_refl _) _).drew
  have bx0 : Blk W0 w.heap.size [.int .i64 0, .int .i64 page, .slice a n cap] 42 := by rw [hW0]; exact Blk.new w _ 42
  have bs0 : BSlice W0 a l bb := hbs.same B0.size (fun h _ => B0.block bb h)
  obtain ⟨g, cap', WA, pad, hrA, hgA, hbA, hBA⟩ := append_bytes W0 a l bb cap bs0 hnil (by omega)
  rw [← hn] at hrA
  obtain ⟨Box, hBox⟩ : ∃ Box : World → Prop, Box = fun W => Blk W w.heap.size [.int .i64 0, .int .i64 page, .slice a n cap] 42 ∧ BSlice W a l bb := ⟨_, rfl⟩
  obtain ⟨P2, hP2⟩ : ∃ P2 : World → Prop, P2 = fun W => ∃ F', Pair W d r F' G (S.writeDo page ⟨l.toArray⟩) T ∧ Moves (F ++ G) (F' ++ G) w W ∧ ApartF W F' [w.heap.size] ∧ (l ≠ [] → bb ∉ F') ∧ Box W := ⟨_, rfl⟩
  obtain ⟨P3, hP3⟩ : ∃ P3 : World → Prop, P3 = fun W => ∃ F', Pair W d r F' G (S.writeDo page ⟨l.toArray⟩) (T.writeDo page ⟨l.toArray⟩) ∧ Moves (F ++ G) (F' ++ G) w W ∧ Box W := ⟨_, rfl⟩
  obtain ⟨C, hC⟩ : ∃ C : Array Bool → World → Prop, C = fun listed W => (listed.getD 14 false = true → listed.getD 7 false = true) ∧ (listed.getD 7 false = true → listed.getD 6 false = true) ∧ (listed.getD 6 false = true → listed.getD 3 false = true) ∧
      (if listed.getD 14 false = true then P3 W else if listed.getD 7 false = true then P2 W else if listed.getD 6 false = true then W = WA else if listed.getD 3 false = true then W = W0.alloc (.cells #[] 5) else W = W0) := ⟨_, rfl⟩
  have hBelow : ∀ W, Below W0.heap.size W0 W → Box W := fun W hB => by
    rw [hBox]
    exact ⟨bx0.same (hB.block _ (by omega)), bs0.same hB.size (fun h _ => hB.block bb h)⟩
  have boxOf : ∀ listed W, C listed W → Box W := fun listed W hc => by
    rw [hC] at hc
    obtain ⟨_, _, _, hc⟩ := hc
    split at hc
    · rw [hP3] at hc; obtain ⟨_, _, _, h⟩ := hc; exact h
    · split at hc
      · rw [hP2] at hc; obtain ⟨_, _, _, _, _, h⟩ := hc; exact h
      · split at hc
        · subst hc; exact hBelow _ hBA
        · split at hc
          · subst hc; exact hBelow _ ((Below.refl _ _).alloc (Nat.le_refl _) _)
          · subst hc; exact hBelow _ (Below.refl _ _)
  have keepC : ∀ listed W i, i < listed.size → i ≠ 3 → i ≠ 6 → i ≠ 7 → i ≠ 14 → C listed W → C (listed.setIfInBounds i true) W := fun listed W i hi h3 h6 h7 h14 hc => by
    rw [hC] at hc ⊢
    simp only [getD_set _ _ _ hi, if_neg (Ne.symm h3), if_neg (Ne.symm h6), if_neg (Ne.symm h7), if_neg (Ne.symm h14)]
    exact hc
  have start : C (Array.replicate 17 false) W0 := by rw [hC]; simp
  have unlisted : ∀ (listed : Array Bool) (i : Nat), i < listed.size → listed.getD i true = false → listed.getD i false = false := fun listed i hi h => by
    simp only [Array.getD_eq_getD_getElem?, Array.getElem?_eq_getElem hi, Option.getD_some] at h ⊢
    exact h
  -- the two calls
  have hPA : Pair WA d r F G S T := (hP.below B0).below hBA
  have gF : g ∉ F := fun hf => by have := hP.dev.lt g hf; omega
  have callD : Calls Tryz.prog 46 #[.pointer (some ⟨d, 0, none⟩), .int .i64 page, .slice (some ⟨g, 0, none⟩) n cap'] WA fun e W => e = .returned (.int .i64 (S.writeErr page ⟨l.toArray⟩)) ∧ P2 W := by
    refine (write_at d F S page (some ⟨g, 0, none⟩) n cap' g l hn WA (blk_slice (cap := cap') hbA) (fun h => by cases h) (fun _ => gF) hPA.dev).mono ?_
    rintro e W ⟨rfl, F', hd', m'⟩
    refine ⟨rfl, ?_⟩
    rw [hP2]
    have hAB : Below w.heap.size w WA := B0.trans (hBA.mono (by omega))
    have apN := m'.apart (G := [w.heap.size]) (fun k hk => by
      simp at hk; subst hk
      exact ⟨by have := hBA.size; omega, fun hf => by have := hP.dev.lt _ hf; omega⟩)
    have boxA := hBelow WA hBA
    rw [hBox] at boxA
    have hbb : ∀ h : l ≠ [], bb ∉ F' ∧ (bb < WA.heap.size → W.heap[bb]? = WA.heap[bb]?) := fun h => by
      have hlt : bb < w.heap.size := by
        rcases hbs with h0 | ⟨h0, _⟩
        · exact absurd h0 h
        · exact h0
      have := m'.apart (G := [bb]) (fun k hk => by simp at hk; subst hk; exact ⟨by have := hAB.size; omega, hbF h⟩)
      exact ⟨(this.1 bb (by simp)).2, fun _ => this.2 bb (by simp)⟩
    refine ⟨F', hPA.step1 hd' m', ?_, apN.1, fun h => (hbb h).1, ?_⟩
    · exact ⟨(Keep.mono (F := []) ⟨hAB.os, hAB.tape, hAB.output, hAB.size, fun k hk _ => hAB.block k hk⟩ (fun k hk => by cases hk)).trans m'.left.keep (fun x hx => .inl hx), fun k hk => by
        rcases m'.left.foot k hk with h1 | h1
        · exact .inl h1
        · exact .inr (Nat.le_trans hAB.size h1)⟩
    · rw [hBox]
      exact ⟨boxA.1.same (apN.2 _ (by simp)), boxA.2.same m'.keep.size (fun h1 h2 => (hbb h2).2 h1)⟩
  have callR : ∀ W', P2 W' → Calls Tryz.prog 43 #[.pointer (some ⟨r, 0, none⟩), .int .i64 page, .string ⟨l.toArray⟩] W' fun e W => e = .returned (.int .i64 (T.writeErr page ⟨l.toArray⟩)) ∧ P3 W := fun W' h2 => by
    rw [hP2] at h2
    obtain ⟨F', hp', mv', ap', hb', hbx'⟩ := h2
    refine (rwrite_at r G T page ⟨l.toArray⟩ W' hp'.ref).mono ?_
    rintro e W ⟨rfl, hr', kr'⟩
    refine ⟨rfl, ?_⟩
    rw [hP3]
    have mr := Moves.of_keep kr'
    rw [hBox] at hbx'
    refine ⟨F', hp'.step2 hr' mr, mv'.trans mr.right, ?_⟩
    rw [hBox]
    refine ⟨hbx'.1.same (kr'.block _ hbx'.1.lt (fun hg => by have := hP.ref.lt _ hg; omega)), hbx'.2.same kr'.size (fun h1 h2 => kr'.block bb h1 (hbG h2))⟩
  obtain ⟨ea, hea⟩ : ∃ ea, ea = S.writeErr page ⟨l.toArray⟩ := ⟨_, rfl⟩
  obtain ⟨eb, heb⟩ : ∃ eb, eb = T.writeErr page ⟨l.toArray⟩ := ⟨_, rfl⟩
  rw [← hea] at callD
  rw [← heb] at callR
  have fin : ∀ W, C (Array.replicate 17 true) W → P3 W := fun W hc => by
    rw [hC] at hc
    simpa using hc.2.2.2
  refine Calls.mono (R := fun e w' => e = .returned (.bool (ea == eb)) ∧ P3 w') ?_ (by
    rintro e w' ⟨rfl, h3⟩
    rw [hP3] at h3
    obtain ⟨F', hp', mv', _⟩ := h3
    exact ⟨by rw [hea, heb], F', hp', mv'⟩)
  have ST := hide start
  have HC0 := hide hW0
  rw [hW0] at ST
  have boxOf2 : ∀ listed W, C listed W → Blk W w.heap.size [.int .i64 0, .int .i64 page, .slice a n cap] 42 ∧ BSlice W a l bb := fun listed W hc => by
    have := boxOf listed W hc
    rw [hBox] at this
    exact this
  have KC := hide keepC
  have BO := hide boxOf2
  have FI := hide fin
  have UL := hide unlisted
  have CD := hide callD
  have CR := hide callR
  have HRA := hide hrA
  have HCE := hide hC
  have HNN := hide hn
  have HNIL := hide hnil
  have HS0 := hide hs0
  clear keepC boxOf boxOf2 fin unlisted callD callR hrA hC start hBelow hBox hP2 hP3 bx0 bs0 hbA hBA hPA hgA gF hbs hbF hbG hP B0 hl hea heb hW0 hnil hs0 hn
  go_enter Tryz.func18, Tryz.ntmps18
  go_wp2_with fail
  have keepC := KC.out
  have boxOf := BO.out
  have unlisted := UL.out
  have callD := CD.out
  have callR := CR.out
  have hC := HCE.out
  have hrA := HRA.out
  have hn := HNN.out
  have hnil := HNIL.out
  have hs0 := HS0.out
  refine wp_region_slots (by kernel_rfl) (by kernel_rfl) (fun i => ([.pointer (some ⟨d, 0, none⟩), .pointer (some ⟨w.heap.size, 1, none⟩), .int .i64 page, .slice (some ⟨w.heap.size + 1, 0, none⟩) 0 0, .pointer (some ⟨w.heap.size, 2, none⟩), .slice a n cap,
    .slice (some ⟨g, 0, none⟩) n cap', .int .i64 ea, .pointer (some ⟨r, 0, none⟩), .pointer (some ⟨w.heap.size, 1, none⟩), .int .i64 page, .pointer (some ⟨w.heap.size, 2, none⟩), .slice a n cap, .string ⟨l.toArray⟩, .int .i64 eb, .bool (ea == eb), .bool (ea == eb)] : List Value).getD i undef) C ST.out ?_ ?_
  · intro i o hi listed w' ev hs hc hfree hdep hev hcv hfn
    have hs17 : listed.size = 17 := hs
    have bx := boxOf listed w' hc
    have hlt : i < 17 := by
      have := (Array.getElem?_eq_some_iff.1 hi).1
      simpa using this
    clear ST KC BO UL CD CR HCE HRA HNN HNIL HS0
    match i, hlt with
    | 0, _ =>
      simp only [List.getElem?_toArray, List.getElem?_cons_zero, List.getElem?_cons_succ, Option.some.injEq] at hi
      subst hi
      have e0 : ev (.tmp 0) = .pointer (some ⟨d, 0, none⟩) := ((hev 0 (show (0 : Nat) < 71 by decide)).trans (pick_none (by kernel_rfl)))
      exact .inl ⟨w', by rw [x_move, e0]; rfl, keepC listed w' 0 (by omega) (by decide) (by decide) (by decide) (by decide) hc⟩
    | 1, _ =>
      simp only [List.getElem?_toArray, List.getElem?_cons_zero, List.getElem?_cons_succ, Option.some.injEq] at hi
      subst hi
      have e0 : ev (.tmp 5) = .pointer (some ⟨w.heap.size, 0, none⟩) := ((hev 5 (show (5 : Nat) < 71 by decide)).trans (pick_none (by kernel_rfl)))
      exact .inl ⟨w', x_field1 _ _ _ _ _ _ _ _ e0, keepC listed w' 1 (by omega) (by decide) (by decide) (by decide) (by decide) hc⟩
    | 2, _ =>
      simp only [List.getElem?_toArray, List.getElem?_cons_zero, List.getElem?_cons_succ, Option.some.injEq] at hi
      subst hi
      have e0 : ev (.tmp 16) = .pointer (some ⟨w.heap.size, 1, none⟩) := ((hev 16 (show (16 : Nat) < 71 by decide)).trans (pick_own (by kernel_rfl) (hdep ⟨1, .data⟩ (by simp) rfl)))
      exact .inl ⟨w', x_load3 _ _ _ _ _ _ _ _ _ _ _ e0 (bx.1.cell (i := 1) rfl), keepC listed w' 2 (by omega) (by decide) (by decide) (by decide) (by decide) hc⟩
    | 3, _ =>
      simp only [List.getElem?_toArray, List.getElem?_cons_zero, List.getElem?_cons_succ, Option.some.injEq] at hi
      subst hi
      rw [hC] at hc
      obtain ⟨c1, c2, c3, hc⟩ := hc
      have n3 : listed.getD 3 false = false := unlisted listed 3 (by omega) hfree
      have n6 : ¬ listed.getD 6 false = true := fun h => by rw [c3 h] at n3; cases n3
      have n7 : ¬ listed.getD 7 false = true := fun h => n6 (c2 h)
      have n14 : ¬ listed.getD 14 false = true := fun h => n7 (c1 h)
      rw [if_neg n14, if_neg n7, if_neg n6, if_neg (by rw [n3]; decide)] at hc
      subst hc
      refine .inl ⟨_, by rw [x_build0, hs0]; rfl, ?_⟩
      rw [hC]
      simp only [getD_set _ _ _ (show 3 < listed.size by omega)]
      simp [n6, n7, n14]
    | 4, _ =>
      simp only [List.getElem?_toArray, List.getElem?_cons_zero, List.getElem?_cons_succ, Option.some.injEq] at hi
      subst hi
      have e0 : ev (.tmp 5) = .pointer (some ⟨w.heap.size, 0, none⟩) := ((hev 5 (show (5 : Nat) < 71 by decide)).trans (pick_none (by kernel_rfl)))
      exact .inl ⟨w', x_field2 _ _ _ _ _ _ _ _ e0, keepC listed w' 4 (by omega) (by decide) (by decide) (by decide) (by decide) hc⟩
    | 5, _ =>
      simp only [List.getElem?_toArray, List.getElem?_cons_zero, List.getElem?_cons_succ, Option.some.injEq] at hi
      subst hi
      have e0 : ev (.tmp 19) = .pointer (some ⟨w.heap.size, 2, none⟩) := ((hev 19 (show (19 : Nat) < 71 by decide)).trans (pick_own (by kernel_rfl) (hdep ⟨4, .data⟩ (by simp) rfl)))
      exact .inl ⟨w', x_load29 _ _ _ _ _ _ _ _ _ _ _ _ _ e0 (bx.1.cell (i := 2) rfl), keepC listed w' 5 (by omega) (by decide) (by decide) (by decide) (by decide) hc⟩
    | 6, _ =>
      simp only [List.getElem?_toArray, List.getElem?_cons_zero, List.getElem?_cons_succ, Option.some.injEq] at hi
      subst hi
      have l3 : listed.getD 3 false = true := hdep ⟨3, .data⟩ (by simp) rfl
      have e0 : ev (.tmp 18) = .slice (some ⟨w.heap.size + 1, 0, none⟩) 0 0 := ((hev 18 (show (18 : Nat) < 71 by decide)).trans (pick_own (by kernel_rfl) (hdep ⟨3, .data⟩ (by simp) rfl)))
      have e1 : ev (.tmp 20) = .slice a n cap := ((hev 20 (show (20 : Nat) < 71 by decide)).trans (pick_own (by kernel_rfl) (hdep ⟨5, .data⟩ (by simp) rfl)))
      rw [hC] at hc
      obtain ⟨c1, c2, c3, hc⟩ := hc
      have n6 : listed.getD 6 false = false := unlisted listed 6 (by omega) hfree
      have n7 : ¬ listed.getD 7 false = true := fun h => by rw [c2 h] at n6; cases n6
      have n14 : ¬ listed.getD 14 false = true := fun h => n7 (c1 h)
      rw [if_neg n14, if_neg n7, if_neg (by rw [n6]; decide), if_pos l3] at hc
      subst hc
      rw [hs0] at hrA
      refine .inl ⟨WA, x_append _ _ _ _ _ _ _ _ _ _ _ _ _ e0 e1 hrA, ?_⟩
      rw [hC]
      simp only [getD_set _ _ _ (show 6 < listed.size by omega)]
      simp [l3, n7, n14]
    | 7, _ =>
      simp only [List.getElem?_toArray, List.getElem?_cons_zero, List.getElem?_cons_succ, Option.some.injEq] at hi
      subst hi
      have l6 : listed.getD 6 false = true := hdep ⟨6, .data⟩ (by simp) rfl
      have e0 : ev (.tmp 15) = .pointer (some ⟨d, 0, none⟩) := ((hev 15 (show (15 : Nat) < 71 by decide)).trans (pick_own (by kernel_rfl) (hdep ⟨0, .data⟩ (by simp) rfl)))
      have e1 : ev (.tmp 17) = .int .i64 page := ((hev 17 (show (17 : Nat) < 71 by decide)).trans (pick_own (by kernel_rfl) (hdep ⟨2, .data⟩ (by simp) rfl)))
      have e2 : ev (.tmp 21) = .slice (some ⟨g, 0, none⟩) n cap' := ((hev 21 (show (21 : Nat) < 71 by decide)).trans (pick_own (by kernel_rfl) (hdep ⟨6, .data⟩ (by simp) rfl)))
      rw [hC] at hc
      obtain ⟨c1, c2, c3, hc⟩ := hc
      have n7 : listed.getD 7 false = false := unlisted listed 7 (by omega) hfree
      have n14 : ¬ listed.getD 14 false = true := fun h => by rw [c1 h] at n7; cases n7
      rw [if_neg n14, if_neg (by rw [n7]; decide), if_pos l6] at hc
      subst hc
      refine .inr (.inr ⟨46, _, (x_call3 ev 46 (hfn 46) _ _ _ _ _ _ _ _ _ _ _ _ _ e0 e1 e2 _).trans (enter12 _ _), ?_⟩)
      refine callD.mono ?_
      rintro e W ⟨rfl, hw2⟩
      refine ⟨rfl, ?_⟩
      rw [hC]
      simp only [getD_set _ _ _ (show 7 < listed.size by omega)]
      simp only [n14, l6, c3 l6]
      simpa using hw2
    | 8, _ =>
      simp only [List.getElem?_toArray, List.getElem?_cons_zero, List.getElem?_cons_succ, Option.some.injEq] at hi
      subst hi
      have e0 : ev (.tmp 1) = .pointer (some ⟨r, 0, none⟩) := ((hev 1 (show (1 : Nat) < 71 by decide)).trans (pick_none (by kernel_rfl)))
      exact .inl ⟨w', by rw [x_move, e0]; rfl, keepC listed w' 8 (by omega) (by decide) (by decide) (by decide) (by decide) hc⟩
    | 9, _ =>
      simp only [List.getElem?_toArray, List.getElem?_cons_zero, List.getElem?_cons_succ, Option.some.injEq] at hi
      subst hi
      have e0 : ev (.tmp 5) = .pointer (some ⟨w.heap.size, 0, none⟩) := ((hev 5 (show (5 : Nat) < 71 by decide)).trans (pick_none (by kernel_rfl)))
      exact .inl ⟨w', x_field1 _ _ _ _ _ _ _ _ e0, keepC listed w' 9 (by omega) (by decide) (by decide) (by decide) (by decide) hc⟩
    | 10, _ =>
      simp only [List.getElem?_toArray, List.getElem?_cons_zero, List.getElem?_cons_succ, Option.some.injEq] at hi
      subst hi
      have e0 : ev (.tmp 24) = .pointer (some ⟨w.heap.size, 1, none⟩) := ((hev 24 (show (24 : Nat) < 71 by decide)).trans (pick_own (by kernel_rfl) (hdep ⟨9, .data⟩ (by simp) rfl)))
      exact .inl ⟨w', x_load3 _ _ _ _ _ _ _ _ _ _ _ e0 (bx.1.cell (i := 1) rfl), keepC listed w' 10 (by omega) (by decide) (by decide) (by decide) (by decide) hc⟩
    | 11, _ =>
      simp only [List.getElem?_toArray, List.getElem?_cons_zero, List.getElem?_cons_succ, Option.some.injEq] at hi
      subst hi
      have e0 : ev (.tmp 5) = .pointer (some ⟨w.heap.size, 0, none⟩) := ((hev 5 (show (5 : Nat) < 71 by decide)).trans (pick_none (by kernel_rfl)))
      exact .inl ⟨w', x_field2 _ _ _ _ _ _ _ _ e0, keepC listed w' 11 (by omega) (by decide) (by decide) (by decide) (by decide) hc⟩
    | 12, _ =>
      simp only [List.getElem?_toArray, List.getElem?_cons_zero, List.getElem?_cons_succ, Option.some.injEq] at hi
      subst hi
      have e0 : ev (.tmp 26) = .pointer (some ⟨w.heap.size, 2, none⟩) := ((hev 26 (show (26 : Nat) < 71 by decide)).trans (pick_own (by kernel_rfl) (hdep ⟨11, .data⟩ (by simp) rfl)))
      exact .inl ⟨w', x_load29 _ _ _ _ _ _ _ _ _ _ _ _ _ e0 (bx.1.cell (i := 2) rfl), keepC listed w' 12 (by omega) (by decide) (by decide) (by decide) (by decide) hc⟩
    | 13, _ =>
      simp only [List.getElem?_toArray, List.getElem?_cons_zero, List.getElem?_cons_succ, Option.some.injEq] at hi
      subst hi
      have e0 : ev (.tmp 27) = .slice a n cap := ((hev 27 (show (27 : Nat) < 71 by decide)).trans (pick_own (by kernel_rfl) (hdep ⟨12, .data⟩ (by simp) rfl)))
      exact .inl ⟨w', x_convert _ _ _ _ _ _ _ _ _ _ e0 (by rw [hn]; exact str_any bx.2 hnil cap), keepC listed w' 13 (by omega) (by decide) (by decide) (by decide) (by decide) hc⟩
    | 14, _ =>
      simp only [List.getElem?_toArray, List.getElem?_cons_zero, List.getElem?_cons_succ, Option.some.injEq] at hi
      subst hi
      have l7 : listed.getD 7 false = true := hdep ⟨7, .chain⟩ (by simp) rfl
      have e0 : ev (.tmp 23) = .pointer (some ⟨r, 0, none⟩) := ((hev 23 (show (23 : Nat) < 71 by decide)).trans (pick_own (by kernel_rfl) (hdep ⟨8, .data⟩ (by simp) rfl)))
      have e1 : ev (.tmp 25) = .int .i64 page := ((hev 25 (show (25 : Nat) < 71 by decide)).trans (pick_own (by kernel_rfl) (hdep ⟨10, .data⟩ (by simp) rfl)))
      have e2 : ev (.tmp 28) = .string ⟨l.toArray⟩ := ((hev 28 (show (28 : Nat) < 71 by decide)).trans (pick_own (by kernel_rfl) (hdep ⟨13, .data⟩ (by simp) rfl)))
      rw [hC] at hc
      obtain ⟨c1, c2, c3, hc⟩ := hc
      have n14 : listed.getD 14 false = false := unlisted listed 14 (by omega) hfree
      rw [if_neg (by rw [n14]; decide), if_pos l7] at hc
      refine .inr (.inr ⟨43, _, (x_call3 ev 43 (hfn 43) _ _ _ _ _ _ _ _ _ _ _ _ _ e0 e1 e2 _).trans (enter31 _ _), ?_⟩)
      refine (callR w' hc).mono ?_
      rintro e W ⟨rfl, hw3⟩
      refine ⟨rfl, ?_⟩
      rw [hC]
      simp only [getD_set _ _ _ (show 14 < listed.size by omega)]
      simp only [l7, c2 l7, c3 (c2 l7)]
      simpa using hw3
    | 15, _ =>
      simp only [List.getElem?_toArray, List.getElem?_cons_zero, List.getElem?_cons_succ, Option.some.injEq] at hi
      subst hi
      have e0 : ev (.tmp 22) = .int .i64 ea := ((hev 22 (show (22 : Nat) < 71 by decide)).trans (pick_own (by kernel_rfl) (hdep ⟨7, .data⟩ (by simp) rfl)))
      have e1 : ev (.tmp 29) = .int .i64 eb := ((hev 29 (show (29 : Nat) < 71 by decide)).trans (pick_own (by kernel_rfl) (hdep ⟨14, .data⟩ (by simp) rfl)))
      exact .inl ⟨w', x_eql _ _ _ _ _ _ _ _ _ _ _ _ e0 e1, keepC listed w' 15 (by omega) (by decide) (by decide) (by decide) (by decide) hc⟩
    | 16, _ =>
      simp only [List.getElem?_toArray, List.getElem?_cons_zero, List.getElem?_cons_succ, Option.some.injEq] at hi
      subst hi
      have e0 : ev (.tmp 30) = .bool (ea == eb) := ((hev 30 (show (30 : Nat) < 71 by decide)).trans (pick_own (by kernel_rfl) (hdep ⟨15, .data⟩ (by simp) rfl)))
      exact .inl ⟨w', by rw [x_assign, e0]; rfl, keepC listed w' 16 (by omega) (by decide) (by decide) (by decide) (by decide) hc⟩
  · intro w' fr hc' hdf hev
    have h3 := FI.out w' hc'
    have e6 : fr.eval (.tmp 6) = .bool (ea == eb) := (hev 6 (show (6 : Nat) < 71 by decide)).trans (pick_own (j := 16) (by kernel_rfl) (by kernel_rfl))
    have ed : fr.defers = [] := hdf
    clear ST KC BO UL CD CR HCE HRA HNN HNIL HS0 keepC boxOf unlisted callD callR hC hrA hn hnil hs0 hc' FI hev hdf
    have H3 := hide h3
    clear h3
    have e7 : fr.tmps.getD 6 undef = .bool (ea == eb) := e6
    go_wp2
    exact bodyPost_ret_by ((results_tmp (t := 6) Tryz.results18 fr.tmps _ _).trans (by rw [e7])) ed ⟨rfl, H3.out⟩
end Go.Proofs.YtbccnfbombgdmaaGreat
