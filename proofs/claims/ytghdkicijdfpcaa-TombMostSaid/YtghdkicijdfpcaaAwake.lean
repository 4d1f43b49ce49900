/- 'awake' answers true and turns nothing that was there. -/
import Derived.Test.YtghdkicijdfpcaaLaw6
set_option linter.unusedVariables false
set_option linter.unusedSimpArgs false
set_option maxRecDepth 8000
namespace Go.Proofs.Ytghdkicijdfpcaa
open Go.RowKit Go.Deep Math

/-- A journal as it stands. -/
structure Jr.is (J : Jr) (L : Int) (f p u g : Nat) (M : Nat → Option Nat) : Prop where
  losses : J.losses = L
  first : J.first = (f : Int)
  pages : J.pages = (p : Int)
  used : J.used = (u : Int)
  gen : J.gen = g
  M : J.M = M
theorem Jr.is.ok {J : Jr} {L : Int} {f p u g : Nat} {M : Nat → Option Nat} (h : J.is L f p u g M) {S : Dv} (hu : u ≤ p) (hf : f + p ≤ S.cs.length) : J.ok S f p u := ⟨h.first, h.pages, h.used, hu, hf⟩
theorem openJ_is (S : Dv) (f p g : Nat) (xss : List (List Mk)) (h : scanP g (S.pgs f p) = xss) : (openJ S f p g).is S.losses f p xss.length g (kM (fun _ => none) xss.flatten) := by
  obtain ⟨h1, h2, h3, h4, h5, h6⟩ := openJ_vals S f p g
  rw [h] at h4 h6
  exact ⟨h1, h2, h3, h4, h5, h6⟩
theorem Jr.is.add {J : Jr} {L : Int} {f p u g : Nat} {M : Nat → Option Nat} (h : J.is L f p u g M) (xs : List Mk) : (({ J with used := J.used + 1 } : Jr).keeps xs).is L f p (u + 1) g (kM M xs) := by
  obtain ⟨s1, s2, s3, s4, s5⟩ := keeps_same xs { J with used := J.used + 1 }
  refine ⟨s1.trans h.losses, s2.trans h.first, s3.trans h.pages, ?_, s5.trans h.gen, ?_⟩
  · rw [s4]; show J.used + 1 = _; rw [h.used]; simp
  · rw [keeps_M, ← h.M]
theorem Jr.is.begin {J : Jr} {L : Int} {f p u g : Nat} {M : Nat → Option Nat} (h : J.is L f p u g M) (g2 : Nat) : ({ J with used := 0, gen := g2, M := fun _ => none } : Jr).is L f p 0 g2 (fun _ => none) := ⟨h.losses, h.first, h.pages, rfl, rfl, rfl⟩
theorem Jr.is.gone {J : Jr} {L : Int} {f p u g : Nat} {M : Nat → Option Nat} (h : J.is L f p u g M) (k v : Nat) : J.gone k v = (match M k with | none => false | some u => decide (v ≤ u)) := by unfold Jr.gone; rw [h.M]; cases M k <;> rfl

theorem open_is {w0 W : World} {d : Nat} {F : List Nat} {S : Dv} (h : Law w0 d F S W) (hs : Sure S) (first pages gen : Nat) (h1 : 1 ≤ pages) (h2 : first + pages ≤ S.cs.length) (hgen : gen < 18446744073709551616) (xss : List (List Mk)) (hx : scanP gen (S.pgs first pages) = xss) :
    Calls Try.prog 11 #[.pointer (some ⟨d, 0, none⟩), .int .i64 (first : Nat), .int .i64 (pages : Nat), .int .u64 gen] W fun e W' => ∃ j m n S' J, e = .returned (.tuple #[.pointer (some ⟨j, 0, none⟩), .int .i64 0]) ∧
      Law w0 d F S' W' ∧ S.like S' ∧ JH w0 W' d F j m n J ∧ J.is S.losses first pages xss.length gen (kM (fun _ => none) xss.flatten) ∧ n ≤ 23 * pages ∧ W.heap.size ≤ j ∧ W.heap.size ≤ m ∧ Keep F W W' := by
  refine (open_l h first pages gen h1 h2 hs.off hgen).mono ?_
  rintro e W' ⟨j, m, n, S', rfl, a, b, c, d, e, f, g⟩
  exact ⟨j, m, n, S', _, rfl, a, b, c, openJ_is S first pages gen xss hx, d, e, f, g⟩
theorem add_is {w0 W : World} {d : Nat} {F : List Nat} {S : Dv} {j m n : Nat} {J : Jr} (h : Law w0 d F S W) (hs : Sure S) (hj : JH w0 W d F j m n J) {f p u g : Nat} {M : Nat → Option Nat} (hi : J.is S.losses f p u g M) (hu : u < p) (hfp : f + p ≤ S.cs.length) (hgen : g < 18446744073709551616)
    {a : Option Addr} {len : Nat} (cap : Nat) {xs : List Mk} (hx : MkIn W j m F a len xs) (h1 : 1 ≤ len) (h23 : len ≤ 23) (hn : n < 900000) :
    Calls Try.prog 12 #[.pointer (some ⟨j, 0, none⟩), .slice a len cap] W fun e W' => e = .returned (.int .i64 0) ∧ ∃ F' n' S' J', Law w0 d F' S' W' ∧ Added S S' (f + u) (pgOf g xs) ∧ JH w0 W' d F' j m n' J' ∧ J'.is S.losses f p (u + 1) g (kM M xs) ∧ n' ≤ n + len ∧ Keep (j :: m :: F) W W' ∧ (∀ x ∈ F', x ∈ F ∨ W.heap.size ≤ x) := by
  refine (add_l h hj (hi.ok (Nat.le_of_lt hu) hfp) hu (by rw [hi.gen]; exact hgen) cap hx h1 h23 hi.losses.symm hn).mono ?_
  rintro e W' ⟨rfl, F', n', a, b, c, d, e⟩
  rw [hi.gen] at a b ⊢
  have hpg : (pgOf g xs).size ≤ 384 := by rw [pgOf_size, ← hx.at_.len]; omega
  obtain ⟨q1, q2, q3⟩ := sure_add hs J (f + u) (by omega) (pgOf g xs) hpg xs
  rw [q1]
  rw [q2] at b
  exact ⟨rfl, F', n', _, _, a, q3, b, hi.add xs, c, d, e⟩
theorem full_is {w0 W : World} {d : Nat} {F : List Nat} {S : Dv} {j m n : Nat} {J : Jr} (h : Law w0 d F S W) (hj : JH w0 W d F j m n J) {f p g : Nat} {M : Nat → Option Nat} (hi : J.is S.losses f p p g M) (hfp : f + p ≤ S.cs.length)
    (a : Option Addr) (len cap : Nat) (h1 : 1 ≤ len) (h23 : len ≤ 23) :
    Calls Try.prog 12 #[.pointer (some ⟨j, 0, none⟩), .slice a len cap] W fun e W' => e = .returned (.int .i64 7) ∧ ∃ F' n', Law w0 d F' S W' ∧ JH w0 W' d F' j m n' J ∧ n' ≤ n ∧ Keep (j :: m :: F) W W' ∧ (∀ x ∈ F', x ∈ F ∨ W.heap.size ≤ x) :=
  add_idle h hj (add_full j d m n F J S f p p (hi.ok (Nat.le_refl _) hfp) rfl a len cap h1 h23 hi.losses.symm W (hj.jd h))
theorem room_is {w0 W : World} {d : Nat} {F : List Nat} {j m n : Nat} {J : Jr} (hj : JH w0 W d F j m n J) {L : Int} {f p u g : Nat} {M : Nat → Option Nat} (hi : J.is L f p u g M) (hup : u ≤ p) (hp4 : p ≤ 5000) :
    Calls Try.prog 13 #[.pointer (some ⟨j, 0, none⟩)] W fun e W' => e = .returned (.int .i64 ((p - u : Nat) : Int)) ∧ Below W.heap.size W W' := room_l hj hi.pages hi.used hup hp4

theorem Law.len {w0 W : World} {d : Nat} {F : List Nat} {S : Dv} (h : Law w0 d F S W) : S.cs.length ≤ 4096 := h.dev.good.many

set_option maxHeartbeats 2000000 in
theorem awake_any (w : World) :
    Calls Try.prog 9 #[] w fun e w' => e = .returned (.bool true) ∧ Below w.heap.size w w' := by
  have cN := hide' (new_law (Below.refl w.heap.size w) 4 (by omega) (by omega))
  go_enter Try.func9, Try.ntmps9
  go_wp2_with fail
  refine cN.out.mono ?_
  rintro e w1 ⟨d, F1, rfl, hl1, _⟩
  have L1 := hide' hl1
  clear hl1 cN
  have hsc : scanP 1 ((Dv.fresh 4).pgs 2 1) = [] := by rw [pgs_pl, fresh_pl]; rfl
  have cO := hide' (open_is L1.out (Sure.fresh 4) 2 1 1 (by omega) (by show 3 ≤ _; simp [Dv.fresh]) (by decide) [] hsc)
  clear hsc
  go_wp2_with fail
  refine cO.out.mono ?_
  rintro e w2 ⟨j, m, n, S2, J2, rfl, hl2, hlk, hj2, hi2, hn, _, _, _⟩
  have L2 := hide' hl2
  have SU2 := hide' ((Sure.fresh 4).like hlk)
  have J2h := hide' hj2
  have HI2 : Hid (J2.is S2.losses 2 1 0 1 (fun _ => none)) := by have := hi2; rw [← hlk.losses] at this; exact this
  have P2 : Hid (S2.pl = List.replicate 4 .blank) := by show _ = _; rw [like_pl hlk, fresh_pl]
  have N2 : Hid (S2.cs.length = 4) := by show _ = _; rw [hlk.cs]; simp [Dv.fresh]
  have hn' : n ≤ 23 := by omega
  clear hl2 hlk hj2 hi2 hn cO L1
  -- Add
  have LA := hide' (L2.out.alloc (.cells #[.int .u64 ((5 : Nat) : Int), .int .u64 ((9 : Nat) : Int)] 48))
  have JA := hide' (J2h.out.below ((Below.refl _ w2).alloc (Nat.le_refl _) (.cells #[.int .u64 ((5 : Nat) : Int), .int .u64 ((9 : Nat) : Int)] 48)))
  have cA := hide' (add_is LA.out SU2.out JA.out HI2.out (by omega) (by rw [N2.out]; omega) (by decide) 1 (MkIn.built L2.out J2h.out 5 9 (by decide) (by decide)) (by omega) (by omega) (by omega))
  go_wp2_with fail
  refine cA.out.mono ?_
  rintro e w3 ⟨rfl, F3, n3, S3, J3, hl3, had, hj3, hi3, hn3, _, _⟩
  have L3 := hide' hl3
  have AD := hide' had
  have J3h := hide' hj3
  have HI3 : Hid (J3.is S3.losses 2 1 1 1 (kM (fun _ => none) [(5, 9)])) := by rw [had.losses]; exact hi3
  have P3 : Hid (S3.pl = (List.replicate 4 Pg.blank).set 2 (.whole (pgOf 1 [(5, 9)]))) := by show _ = _; rw [had.pl, P2.out]
  have N3 : Hid (S3.cs.length = 4) := by show _ = _; rw [← pl_length, P3.out]; simp
  have hn3' : n3 ≤ 24 := by omega
  clear hl3 had hj3 hi3 hn3 cA LA JA L2 SU2 J2h HI2 P2 N2 hn'
  -- Add once more: full
  have LA := hide' (L3.out.alloc (.cells #[.int .u64 5, .int .u64 10] 48))
  have JA := hide' (J3h.out.below ((Below.refl _ w3).alloc (Nat.le_refl _) (.cells #[.int .u64 5, .int .u64 10] 48)))
  have cA := hide' (full_is LA.out JA.out HI3.out (by rw [N3.out]; omega) (some ⟨w3.heap.size, 0, none⟩) 1 1 (by omega) (by omega))
  go_wp2_with fail
  refine cA.out.mono ?_
  rintro e w4 ⟨rfl, F4, n4, hl4, hj4, hn4, _, _⟩
  have L4 := hide' hl4
  have J4h := hide' hj4
  have hn4' : n4 ≤ 24 := by omega
  clear hl4 hj4 hn4 cA LA JA L3 J3h
  -- Marks
  have hone : OneKey J3.M 5 := fun y hy => by rw [HI3.out.M, kM_one] at hy; by_cases e : y = 5 <;> simp [e] at hy; exact e
  have cM := hide' (marks_one J4h.out (by omega) hone)
  clear hone
  go_wp2_with fail
  refine cM.out.mono ?_
  rintro e w5 ⟨g, cap, ys, rfl, htold, hmk, hg, hb5⟩
  have ey : ys = [(5, 9)] := told_one htold (fun y => by rw [HI3.out.M, kM_one])
  subst ey
  have L5 := hide' (L4.out.below hb5)
  have J5h := hide' (J4h.out.below hb5)
  have hmk0 := hmk.cell 0 (5, 9) rfl
  obtain ⟨b0, o0, eb, hbl, hc0⟩ := hmk0
  cases eb
  have C5 := hide' hc0
  have G5 := hide' hbl
  have GW := hide' hg
  have NG : Hid (g ∉ F4 ∧ g ≠ j) := ⟨L4.out.dev.new g hg, by have := J4h.out.jr.blk.lt; omega⟩
  clear hmk hg hb5 htold hc0 hbl cM L4 J4h
  -- Open anew
  have hsc : scanP 1 (S3.pgs 2 1) = [[(5, 9)]] := by
    rw [pgs_pl, P3.out]
    show scanP 1 ([.whole (pgOf 1 [(5, 9)])] ++ []) = _
    rw [scan_append _ [] [[(5, 9)]] (by simp [tk_page 1 [(5, 9)] (by decide) (by decide) (by simp [Mk.fits])])]
    rfl
  have cO := hide' (open_is L5.out AD.out.sure 2 1 1 (by omega) (by rw [N3.out]; omega) (by decide) _ hsc)
  clear hsc
  go_wp2_with fail
  refine cO.out.mono ?_
  rintro e w6 ⟨k, mk, nk, S6, J6, rfl, hl6, _, hj6, hi6, _, hk6, hmk6, kp6⟩
  have L6 := hide' hl6
  have K6h := hide' hj6
  have HK6 := hide' hi6
  have J6h := hide' (J5h.out.move kp6 J5h.out.nj J5h.out.nm (fun x hx => .inl hx))
  have C6 := hide' (C5.out.same (kp6.block g G5.out NG.out.1))
  have G6 := hide' (Nat.lt_of_lt_of_le G5.out kp6.size)
  have KJ : Hid (k ≠ j ∧ mk ≠ j) := ⟨by have := J5h.out.jr.blk.lt; omega, by have := J5h.out.jr.blk.lt; omega⟩
  clear hl6 hj6 hi6 hk6 hmk6 kp6 cO L5 J5h C5 G5
  -- Begin
  have cB := hide' (begin_l L6.out J6h.out 2)
  go_wp2_with fail
  refine cB.out.mono ?_
  rintro e w7 ⟨rfl, m7, hl7, hj7, _, kp7⟩
  have B7 := hide' hl7.bel
  have J7h := hide' hj7
  have HI7 := hide' (HI3.out.begin 2)
  have K7h := hide' (K6h.out.move kp7 (by simpa using KJ.out.1) (by simpa using KJ.out.2) (fun x hx => .inl hx))
  have C7 := C6.out.same (kp7.block g G6.out (by simpa using NG.out.2))
  have c0 := C7.c0
  have c1 := C7.c1
  clear hl7 hj7 kp7 cB C7 C6 G6 KJ L6 J6h K6h
  have e9 : Hid (J6.gone 5 9 = true ∧ J6.gone 5 10 = false) := by
    rw [HK6.out.gone, HK6.out.gone, show ([[(5, 9)]] : List (List Mk)).flatten = [(5, 9)] from rfl, kM_one]
    exact ⟨rfl, rfl⟩
  have cG1 : Hid (∀ W, JH w W d F4 k mk nk J6 → Calls Try.prog 22 #[.pointer (some ⟨k, 0, none⟩), .int .u64 5, .int .u64 9] W fun e W' => e = .returned (.bool true) ∧ W' = W) := fun W hW => by
    have := gone_l hW 5 9 (by decide); rw [e9.out.1] at this; exact this
  have cG2 : Hid (∀ W, JH w W d F4 k mk nk J6 → Calls Try.prog 22 #[.pointer (some ⟨k, 0, none⟩), .int .u64 5, .int .u64 10] W fun e W' => e = .returned (.bool false) ∧ W' = W) := fun W hW => by
    have := gone_l hW 5 10 (by decide); rw [e9.out.2] at this; exact this
  go_wp2_with fail
  refine (cG1.out _ K7h.out).mono ?_
  rintro e w8 ⟨rfl, h8⟩
  obtain rfl : w7 = w8 := h8.symm
  clear h8 cG1
  go_wp2_with fail
  refine (cG2.out _ K7h.out).mono ?_
  rintro e w8 ⟨rfl, h8⟩
  obtain rfl : w7 = w8 := h8.symm
  clear h8 cG2
  go_wp2_with fail
  refine (room_is K7h.out HK6.out (by show 1 ≤ 1; omega) (by omega)).mono ?_
  rintro e w8 ⟨rfl, b8⟩
  have J8h := hide' (J7h.out.below b8)
  have B8 := hide' (B7.out.trans (b8.mono B7.out.size))
  have c0' := cell_later b8 c0
  have c1' := cell_later b8 c1
  clear b8 c0 c1 J7h B7 K7h
  have e7 : ∀ J : Jr, J.is S3.losses 2 1 0 2 (fun _ => none) → J.gone 5 9 = false := fun J h => by rw [h.gone]
  have cG3 := hide' (gone_l J8h.out 5 9 (by decide))
  rw [e7 _ HI7.out] at cG3
  clear e7
  go_wp2_with fail
  refine cG3.out.mono ?_
  rintro e w9 ⟨rfl, h9⟩
  obtain rfl : w8 = w9 := h9.symm
  clear h9 cG3
  have cR := hide' (room_is J8h.out HI7.out (by omega) (by omega))
  go_wp2_with fail
  refine cR.out.mono ?_
  rintro e w9 ⟨rfl, b9⟩
  have B9 := hide' (B8.out.trans (b9.mono B8.out.size))
  clear b9 cR
  go_wp2
  go_ret
  exact ⟨rfl, B9.out⟩
end Go.Proofs.Ytghdkicijdfpcaa
