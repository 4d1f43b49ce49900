/-
  What was added with OK is gone behind every crash, by a journal that is opened anew with that generation: proof of the law 'TombLasts'. No conditions.
-/
import Derived.WalkKit
import Derived.Below
import Derived.Test.YtghdkicijdfpcaaCut6
import Derived.BigQuiet
namespace Go.Proofs.Ytghdkicijdfpcaa.tombLasts
open Go.RowKit Go.Deep Math
set_option linter.unusedVariables false
set_option linter.unusedSimpArgs false

/-- What is known ahead of an Add. -/
def LAt (w : World) (d j : Nat) (xss : List (List Mk)) (c : Nat) (F : List Nat) (m n : Nat) (J : Jr) (W : World) : Prop := ∃ S, Law w d F S W ∧ JH w W d F j m n J ∧ n ≤ c ∧ ((Alive S xss ∧ ∃ M, J.is 0 1 12 xss.length 7 M) ∨ (Dead S xss ∧ J.losses = 0))
/-- Marks that fit. -/
def AllFit (xss : List (List Mk)) : Prop := ∀ xs ∈ xss, xs.length ≤ 23 ∧ ∀ x ∈ xs, Mk.fits x
theorem lat_step {w W : World} {d j c m n : Nat} {xss : List (List Mk)} {F : List Nat} {J : Jr} (h : LAt w d j xss c F m n J W) (hc : c < 900000) (hfit : AllFit xss) {a : Option Addr} {len cap : Nat} {xs : List Mk} (hx : MksAt w a len xs) (h23 : len ≤ 23) :
    Calls Try.prog 12 #[.pointer (some ⟨j, 0, none⟩), .slice a len cap] W fun e W' => ∃ er, e = .returned (.int .i64 er) ∧ ∃ F' n' J' xss', LAt w d j xss' (c + 23) F' m n' J' W' ∧ Keep (j :: m :: F) W W' ∧ (∀ x ∈ F', x ∈ F ∨ W.heap.size ≤ x) ∧ AllFit xss' ∧
      ((er = 0 ∧ xss'.flatten = xss.flatten ++ xs) ∨ (er ≠ 0 ∧ xss' = xss)) := by
  obtain ⟨S, h1, h2, h3, h4⟩ := h
  by_cases h0 : len = 0
  · subst h0
    refine (add_none j a cap W).mono ?_
    rintro e W' ⟨rfl, rfl⟩
    have e : xs = [] := List.eq_nil_of_length_eq_zero hx.len.symm
    exact ⟨0, rfl, F, n, J, xss, ⟨S, h1, h2, by omega, h4⟩, Keep.refl _ _, fun x hx => .inl hx, hfit, .inl ⟨rfl, by rw [e, List.append_nil]⟩⟩
  · have hmk : MkIn W j m F a len xs := ⟨hx.below h1.bel, fun b o e => by
      obtain ⟨x, hx'⟩ : ∃ x, xs[0]? = some x := ⟨_, List.getElem?_eq_getElem (by rw [← hx.len]; omega)⟩
      obtain ⟨b', o', e', hb', _⟩ := hx.cell 0 x hx'
      rw [e] at e'
      cases e'
      exact ⟨fun hf => by have := h1.low b hf; omega, by have := h2.lj; omega, by have := h2.lm; omega⟩⟩
    have hxl : xs.length ≤ 23 := by rw [← hx.len]; exact h23
    rcases h4 with ⟨ha, M, hi⟩ | ⟨hd, hj0⟩
    · have hi' : J.is S.losses 1 12 xss.length 7 M := by rw [ha.losses]; exact hi
      by_cases hu : xss.length < 12
      · refine (add_l h1 h2 (hi'.ok (Nat.le_of_lt hu) (by rw [ha.len]; omega)) hu (by rw [hi.gen]; decide) cap hmk (by omega) h23 hi'.losses.symm (by omega)).mono ?_
        rintro e W' ⟨rfl, F', n', b1, b2, b3, b4, b5⟩
        rw [hi.gen] at b1 b2 ⊢
        rcases add_step ha hu xs hxl with ⟨s1, s2, s3⟩ | ⟨s1, s2, s3⟩
        · refine ⟨_, rfl, F', n', _, xss ++ [xs], ⟨_, b1, b2, by omega, .inl ⟨s2, kM M xs, ?_⟩⟩, b4, b5, ?_, .inl ⟨s1, by simp⟩⟩
          · rw [s3 J, List.length_append]; exact hi.add xs
          · intro ys hys
            rcases List.mem_append.1 hys with hy | hy
            · exact hfit ys hy
            · simp at hy; subst hy; exact ⟨hxl, hx.fits⟩
        · exact ⟨_, rfl, F', n', _, xss, ⟨_, b1, b2, by omega, .inr ⟨s2, by rw [s3 J, hi.losses]⟩⟩, b4, b5, hfit, .inr ⟨by rw [s1]; decide, rfl⟩⟩
      · have e12 : xss.length = 12 := by have := ha.le; omega
        rw [e12] at hi'
        refine (full_is h1 h2 hi' (by rw [ha.len]; omega) a len cap (by omega) h23).mono ?_
        rintro e W' ⟨rfl, F', n', b1, b2, b3, b4, b5⟩
        exact ⟨7, rfl, F', n', J, xss, ⟨S, b1, b2, by omega, .inl ⟨ha, M, hi⟩⟩, b4, b5, hfit, .inr ⟨by decide, rfl⟩⟩
    · refine (add_idle h1 h2 (add_done j d m n F J S a len cap (by omega) h23 (by rw [hd.losses, hj0]; decide) W (h2.jd h1))).mono ?_
      rintro e W' ⟨rfl, F', n', b1, b2, b3, b4, b5⟩
      exact ⟨4, rfl, F', n', J, xss, ⟨S, b1, b2, by omega, .inr ⟨hd, hj0⟩⟩, b4, b5, hfit, .inr ⟨by decide, rfl⟩⟩
/-- Device, journal, and the row of what is sure. -/
def LS6 (w : World) (d j c : Nat) (a : Option Addr) (k cp : Nat) (W : World) : Prop := ∃ F m n J xss, LAt w d j xss c F m n J W ∧ AllFit xss ∧ k ≤ 23 * xss.length ∧ W.ownsRow w.heap.size 48 2 (.slice a k cp) k (mkCells xss.flatten)
theorem flat_le {xss : List (List Mk)} (h : AllFit xss) : xss.flatten.length ≤ 23 * xss.length := by
  induction xss with
  | nil => simp
  | cons x r ih =>
    have h1 := (h x (by simp)).1
    have h2 := ih (fun y hy => h y (by simp [hy]))
    rw [List.flatten_cons, List.length_append, List.length_cons]
    omega
theorem row_len {W : World} {base k cp : Nat} {a : Option Addr} {xs : List Mk} (h : W.ownsRow base 48 2 (.slice a k cp) k (mkCells xs)) : k = xs.length := by
  have := h.1; rw [mkCells_length] at this; omega
theorem LAt.le {w W : World} {d j c m n : Nat} {xss : List (List Mk)} {F : List Nat} {J : Jr} (h : LAt w d j xss c F m n J W) : xss.length ≤ 12 := by
  obtain ⟨S, _, _, _, h4 | h4⟩ := h
  · exact h4.1.le
  · exact h4.1.le
theorem lat_grown {w W W' : World} {d j c m n : Nat} {xss : List (List Mk)} {F : List Nat} {J : Jr} {row : Option Nat} (h : LAt w d j xss c F m n J W) (hg : W.grownBy W' row) (hr : ∀ q, row = some q → (q ∉ F ∧ q ≠ j ∧ q ≠ m) ∧ w.heap.size ≤ q) : LAt w d j xss c F m n J W' := by
  obtain ⟨S, h1, h2, h3, h4⟩ := h
  have e : ∀ x, x < W.heap.size → (∀ q, row = some q → x ≠ q) → W'.heap[x]? = W.heap[x]? := fun x hx hq => hg.block x hx (fun e => hq x e.symm rfl)
  refine ⟨S, ⟨h1.dev.same (fun x hx => e x (h1.dev.lt x hx) (fun q hq e' => (hr q hq).1.1 (e' ▸ hx))), h1.low, h1.bel.grown hg h1.bel.size (fun q hq => (hr q hq).2)⟩, ⟨h2.jr.same (e j h2.jr.blk.lt (fun q hq e' => (hr q hq).1.2.1 e'.symm)) (e m h2.jr.mlt (fun q hq e' => (hr q hq).1.2.2 e'.symm)), h2.nj, h2.nm, h2.lj, h2.lm⟩, h3, h4⟩
theorem row_off {W : World} {d : Nat} {F : List Nat} {S : Dv} {base : Nat} {v : Value} {k : Nat} {xs : List Value} (ho : W.ownsRow base 48 2 v k xs) (hd : DvAt W d F S) : ∀ q, v.ownBlock = some q → q ∉ F := by
  intro q hq
  obtain ⟨cur, hh⟩ : ∃ cur, W.heap[q]? = some (.cells cur 48 (0, 0)) := by
    rcases ho.2 with ⟨rfl, _⟩ | ⟨g, cap, cur, rfl, _, hh, _⟩
    · simp [Value.ownBlock] at hq
    · simp [Value.ownBlock] at hq; subst hq; exact ⟨cur, hh⟩
  intro hf
  obtain ⟨p, pd, wa, wc, rfl, hd⟩ := hd
  simp only [foot, List.mem_cons] at hf
  rcases hf with rfl | rfl | hf
  · have := hd.dev; unfold Blk at this; rw [hh] at this; simp at this
  · have := hd.row; unfold Blk at this; rw [hh] at this; simp at this
  · cases wa with
    | none => simp at hf
    | some a =>
      simp at hf
      subst hf
      rcases hd.own.2 with ⟨h0, _⟩ | ⟨g, cap, cur2, hv, _, hh2, _⟩
      · simp at h0
      · simp only [Value.slice.injEq, Option.some.injEq] at hv
        rw [hv.1] at hh
        simp only at hh
        rw [hh] at hh2
        simp at hh2
theorem LAt.laid {w W : World} {d j c m n : Nat} {xss : List (List Mk)} {F : List Nat} {J : Jr} (h : LAt w d j xss c F m n J W) : ∃ S tail, Law w d F S W ∧ Laid S 7 xss tail ∧ tail.length = 13 - xss.length := by
  obtain ⟨S, h1, _, _, h4 | h4⟩ := h
  · exact ⟨S, _, h1, h4.1.laid, by simp⟩
  · obtain ⟨tail, t1, t2⟩ := h4.1.laid
    exact ⟨S, tail, h1, t1, t2⟩
set_option maxRecDepth 8000 in
set_option maxHeartbeats 4000000 in
theorem walk (a0 : Option Addr) (len0 cap0 : Nat) (z0 : List Rw) (a1 : Int) (a2 : Option Addr) (len2 cap2 : Nat) (z2 : List UInt8) (w : World) (hw0 : RowsAt w a0 len0 z0) (hw1 : (Lit.int .i64 a1).wf = true) (hw2 : BS w a2 len2 cap2 z2 ∧ (a2 = none → z2 = []) ∧ len2 ≤ 140737488351232) :
    Calls Try.prog 5 #[.slice a0 len0 cap0, .int .i64 a1, .slice a2 len2 cap2] w fun e w' => e = .returned (.bool true) ∧ Below w.heap.size w w' := by
  have ca := hide' (awake_any w)
  have q1 := wfi64 hw1
  have hlen := hw0.len
  obtain ⟨hb, hnil, hbl⟩ := hw2
  have HP := hide' hb
  have HPN := hide' hnil
  have HPL := hide' hbl
  have HW := hide' hw0
  have HA := hide' q1
  clear hw0 hw1 hb hnil hbl q1
  by_cases e1 : 12 < len0
  · have e1' : ((12 : Int) < (len0 : Int)) = True := eq_true (by omega)
    clear e1 hlen
    go_enter Try.func5, Try.ntmps5
    go_wp2_with fail
    refine ca.out.mono ?_
    rintro r w1 ⟨rfl, h1⟩
    have B1 := hide' h1
    clear h1 ca
    go_wp2
    go_ret
    exact ⟨rfl, B1.out⟩
  have e1' : ((12 : Int) < (len0 : Int)) = False := eq_false (by omega)
  have HL := hide' (Nat.le_of_not_lt e1)
  have HLEN := hide' hlen
  obtain ⟨i0, hi0, hz0, hz1, hz2⟩ := info48'
  have HI := hide' hi0
  have Z0 := hide' hz0
  have Z1 := hide' hz1
  have Z2 := hide' hz2
  clear e1 hlen hi0 hz0 hz1 hz2
  go_enter Try.func5, Try.ntmps5
  go_wp2_with fail
  refine ca.out.mono ?_
  rintro r w1 ⟨rfl, h1⟩
  have B1 := hide' h1
  clear h1 ca
  have cN := hide' (new_law B1.out 14 (by omega) (by omega))
  go_wp2_with fail
  refine cN.out.mono ?_
  rintro e w2 ⟨d, F2, rfl, hl2, _⟩
  have L2 := hide' hl2
  clear hl2 cN e1'
  have hsc : scanP 7 ((Dv.fresh 14).pgs 1 12) = [] := by rw [pgs_pl, fresh_pl]; exact scan_none _ _ rfl
  have cO := hide' (open_is L2.out (Sure.fresh 14) 1 12 7 (by omega) (by show 13 ≤ 14; omega) (by decide) [] hsc)
  clear hsc
  go_wp2_with fail
  refine cO.out.mono ?_
  rintro e w3 ⟨j, m, n, S3, J3, rfl, hl3, hlk, hj3, hi3, hn, _, _, _⟩
  have cAr := hide' (arm_law hl3 a1 HA.out.2)
  have J3h := hide' hj3
  have HI3 := hide' hi3
  have LK := hide' hlk
  have hn' : n ≤ 276 := by omega
  clear hl3 hlk hj3 hi3 hn cO L2
  go_wp2_with fail
  refine cAr.out.mono ?_
  rintro e w4 ⟨rfl, hl4, mv4⟩
  have T4 : Hid (LS6 w d j 276 none 0 0 w4) := by
    refine ⟨F2, m, n, J3, [], ⟨S3.arm a1, hl4, J3h.out.move mv4.keep J3h.out.nj J3h.out.nm (fun x hx => .inl hx), hn', .inl ⟨⟨?_, ?_, ⟨⟨.blank, none⟩, rfl, ?_⟩, by simp⟩, _, HI3.out⟩⟩, fun ys hys => by simp at hys, by simp, World.ownsRow_nil _ _ _ _⟩
    · show S3.off = false; rw [LK.out.off]; rfl
    · show S3.losses = 0; rw [LK.out.losses]; rfl
    · show S3.cs = _; rw [LK.out.cs]; rfl
  clear hl4 mv4 cAr J3h HI3 LK
  go_wp2_with fail
  go_loopg [11, 12] len0 (fun kx s11 s12 wr => ∃ i k cp : Nat, ∃ a, s11 = .slice a k cp ∧ s12 = .int .i64 i ∧ i ≤ len0 ∧ len0 - i ≤ kx ∧ Hid (LS6 w d j (276 + 23 * i) a k cp wr))
  case atStart => exact ⟨0, 0, 0, none, rfl, rfl, Nat.zero_le _, by omega, T4.out⟩
  case round =>
    obtain ⟨i, k, cp, a, rfl, rfl, hin, hg, I⟩ := hrel
    by_cases hlt : i < len0
    · have hlt2 : (i : Int) < (len0 : Int) := by omega
      have hl12 : len0 ≤ 12 := HL.out
      obtain ⟨F, m, n, J, xss, l1, l2, l3, l4⟩ := I.out
      obtain ⟨r, hr⟩ : ∃ r, z0[i]? = some r := ⟨_, List.getElem?_eq_getElem (by rw [← HLEN.out]; exact hlt)⟩
      obtain ⟨b, o, ha0, hb, hc⟩ := HW.out.cell i r hr
      have hrow := HW.out.row i r hr
      subst ha0
      have CE : Hid (∀ W, Below w.heap.size w W → W.cell? ⟨b, o + i, none⟩ = some (.slice r.a r.len r.cap)) := fun W hW => (World.cell?_of_block (hW.block b hb)).trans hc
      have hbel : Below w.heap.size w wr := by obtain ⟨S, s1, _⟩ := l1; exact s1.bel
      have c1 := CE.out wr hbel
      have HR := hide' hrow
      have HZ := hide' (HW.out.nil i r hr)
      obtain ⟨ra, rl, rc, rx⟩ := r
      simp only at c1 CE HR HZ
      clear hr hc hrow hb
      by_cases h23 : 23 < rl
      · have h23' : ((23 : Int) < (rl : Int)) = True := eq_true (by omega)
        have B9 := hide' hbel
        clear h23 l1 l2 l3 l4 hbel I
        go_wp2
        go_ret
        exact ⟨rfl, B9.out⟩
      have h23' : ((23 : Int) < (rl : Int)) = False := eq_false (by omega)
      have cA := hide' (lat_step l1 (by have := HL.out; omega) l2 (cap := rc) HR.out (Nat.le_of_not_lt h23))
      have R1 := hide' l4
      have A1 : Hid (∀ q, (Value.slice a k cp).ownBlock = some q → q ∉ F ∧ q ≠ j ∧ q ≠ m) := by obtain ⟨S, s1, s2, _⟩ := l1; exact row_apart l4 s1.dev s2.jr
      have H23 := hide' (Nat.le_of_not_lt h23)
      clear l1 l2 l3 l4 hbel I h23
      go_wp2_with fail
      refine cA.out.mono ?_
      rintro e w5 ⟨er, rfl, F5, n5, J5, xss5, t1, t2, t3, t4, t5⟩
      have R5 : Hid (w5.ownsRow w.heap.size 48 2 (.slice a k cp) k (mkCells xss.flatten)) := row_keep R1.out (fun q hq => t2.block q (R1.out.lt q hq).2 (by have := A1.out q hq; simp; exact ⟨this.2.1, this.2.2, this.1⟩))
      have hbel5 : Below w.heap.size w w5 := by obtain ⟨S, s1, _⟩ := t1; exact s1.bel
      have c5 := CE.out w5 hbel5
      have B5 := hide' hbel5
      have T1 := hide' t1
      have T4' := hide' t4
      clear t1 t2 t3 t4 hbel5 cA R1 A1 c1 h23'
      rcases t5 with ⟨rfl, hfl⟩ | ⟨hne, rfl⟩
      · have HF := hide' hfl
        clear hfl
        have hk12 : k ≤ 276 := by
          have := row_len R5.out
          have h2 := flat_le T4'.out
          rw [HF.out, List.length_append] at h2
          have := T1.out.le
          omega
        have hrl : rl = rx.length := HR.out.len
        have HRL := hide' hrl
        have hrl23 : rl ≤ 23 := H23.out
        clear hrl
        cases ra with
        | none =>
          have hr0 : rl = 0 := by
            rw [HRL.out]
            cases rx with
            | nil => rfl
            | cons x t => obtain ⟨b', o', e', _⟩ := HR.out.cell 0 x rfl; cases e'
          have hrx : rx = [] := List.eq_nil_of_length_eq_zero (by rw [← HRL.out, hr0])
          subst hr0
          have hxs : rc = rc := rfl
          have N6 : Hid (xss5.flatten = xss.flatten) := by show _ = _; rw [HF.out, hrx, List.append_nil]
          have hrc : rc = 0 := HZ.out rfl
          · subst hrc
            go_wp2_with (at_builtin; refine wpList_append_own_none rfl _ _ 31 rfl w.heap.size 48 i0 2 Try.underlying31 HI.out _ _ _ rfl R5.out rfl ?_)
            go_wp2
            go_roundg (len0 - (i + 1))
            case measure => omega
            case rel => exact ⟨i + 1, k, cp, a, rfl, by go_num, by omega, by omega, F5, m, n5, J5, xss5, by have := T1.out; rw [show 276 + 23 * (i + 1) = 276 + 23 * i + 23 by omega]; exact this, T4'.out, by have := row_len R5.out; have := flat_le T4'.out; rw [N6.out] at this; omega, by rw [N6.out]; exact R5.out⟩
        | some ad =>
          have hnews : ∀ (t : Nat) (u : Value), (mkCells rx)[t]? = some u → w5.cell? (ad.add t) = some u := fun t u ht => by
            have hpos : 0 < rx.length := by have := (List.getElem?_eq_some_iff.1 ht).1; rw [mkCells_length] at this; omega
            obtain ⟨b', o', e', _, _⟩ := HR.out.cell 0 _ (List.getElem?_eq_getElem hpos)
            cases e'
            exact mks_news (HR.out.below B5.out) t u ht
          have HNEWS := hide' hnews
          clear hnews
          go_wp2_with (at_builtin; refine wpList_append_own _ rfl _ _ 31 rfl w.heap.size 48 i0 (.agg #[.int .u64 0, .int .u64 0]) 2 16 Try.underlying31 HI.out Z0.out Z1.out Z2.out rfl (by decide) _ _ _ rfl R5.out ad rl rc (mkCells rx) rfl ?c1 HNEWS.out (mkCells_one rx) ?c3 ?c4 ?c5 ?_)
          case c1 => rw [mkCells_length, HRL.out]
          case c3 => unfold maxLen; omega
          case c4 => omega
          case c5 => exact B5.out.size
          intro v' w6 hown' hgrow _
          have hv' : ∃ a' cp', v' = .slice a' (k + rl) cp' := by
            rcases hown'.2 with ⟨rfl, h0⟩ | ⟨g, cap, cur, rfl, _⟩
            · exact ⟨none, 0, by rw [h0]⟩
            · exact ⟨_, _, rfl⟩
          obtain ⟨a', cp', rfl⟩ := hv'
          have T6 := hide' (lat_grown T1.out hgrow (fun q hq => by
            obtain ⟨S, s1, s2, _⟩ := T1.out
            exact ⟨row_apart R5.out s1.dev s2.jr q hq, (R5.out.lt q hq).1⟩))
          rw [mkCells_append, ← HF.out] at hown'
          have R6 := hide' hown'
          clear hown' hgrow HNEWS
          go_wp2
          go_roundg (len0 - (i + 1))
          case measure => omega
          case rel => exact ⟨i + 1, k + rl, cp', a', rfl, by go_num, by omega, by omega, F5, m, n5, J5, xss5, by have := T6.out; rw [show 276 + 23 * (i + 1) = 276 + 23 * i + 23 by omega]; exact this, T4'.out, by have := row_len R6.out; have := flat_le T4'.out; omega, R6.out⟩
      · have hne2 : (er == 0) = false := by simpa using hne
        clear hne
        go_wp2
        go_roundg (len0 - (i + 1))
        case measure => omega
        case rel => exact ⟨i + 1, k, cp, a, rfl, by go_num, by omega, by omega, F5, m, n5, J5, xss5, by have := T1.out; rw [show 276 + 23 * (i + 1) = 276 + 23 * i + 23 by omega]; exact this, T4'.out, by have := row_len R5.out; have := flat_le T4'.out; omega, R5.out⟩
    · obtain rfl : i = len0 := by omega
      have hlt2 : ¬ (i : Int) < (i : Int) := by omega
      obtain ⟨F, m, n, J, xss, l1, l2, l3, l4⟩ := I.out
      obtain ⟨S, tail, s1, s2, s3⟩ := l1.laid
      have hx12 := l1.le
      have cC := hide' (crash_law s1 (cap := cap2) HP.out HPN.out HPL.out)
      have RW := hide' l4
      have OFF := hide' (row_off l4 s1.dev)
      have LD := hide' s2
      have LE := hide' s3
      have AF := hide' l2
      have SZ := hide' (show S.cs.length = 14 by obtain ⟨c0, _, hcs⟩ := s2; rw [hcs]; simp; omega)
      clear l1 l2 l3 l4 s1 s2 s3 I T4 hg
      go_wp2_with fail
      refine cC.out.mono ?_
      rintro e w5 ⟨rfl, F5, hl5, m5⟩
      have R5 := hide' (row_keep RW.out (fun q hq => m5.keep.block q (RW.out.lt q hq).2 (OFF.out q hq)))
      have cOn := hide' (on_law hl5)
      have OFF5 := hide' (row_off R5.out hl5.dev)
      clear hl5 m5 cC RW OFF
      go_wp2_with fail
      refine cOn.out.mono ?_
      rintro e w6 ⟨rfl, F6, hl6, m6⟩
      have R6 := hide' (row_keep R5.out (fun q hq => m6.keep.block q (R5.out.lt q hq).2 (OFF5.out q hq)))
      obtain ⟨S6, hS6⟩ : ∃ S6, S6 = (S.crash z2).on := ⟨_, rfl⟩
      rw [← hS6] at hl6
      have LD6 : Hid (∃ tl, Laid S6 7 xss tl) := ⟨_, (LD.out.settle z2 (S' := S.crash z2) rfl).settle [] (by rw [hS6]; rfl)⟩
      have SU6 : Hid (Sure S6) := by rw [hS6]; exact ⟨rfl, rfl⟩
      have N6 : Hid (S6.cs.length = 14) := by
        show _ = _
        rw [hS6]
        show (settle (settle S.cs z2) []).length = 14
        rw [settle_length, settle_length]; exact SZ.out
      obtain ⟨tl, htl⟩ := LD6.out
      obtain ⟨rr, hrr⟩ := htl.scan 12 hx12 (by decide) AF.out
      have cO := hide' (open_is hl6 SU6.out 1 12 7 (by omega) (by rw [N6.out]; omega) (by decide) _ hrr)
      have OFF6 := hide' (row_off R6.out hl6.dev)
      clear hl6 m6 hS6 htl hrr cOn R5 OFF5 LD6
      go_wp2_with fail
      refine cO.out.mono ?_
      rintro e w7 ⟨ko, mo, no, S7, J7, rfl, hl7, _, hj7, hi7, _, _, _, kp7⟩
      have R7 := hide' (row_keep R6.out (fun q hq => kp7.block q (R6.out.lt q hq).2 (OFF6.out q hq)))
      have J7h := hide' hj7
      have HI7 := hide' hi7
      have B7 := hide' hl7.bel
      clear hl7 hj7 hi7 kp7 cO R6 OFF6
      have hkk : Hid (k = xss.flatten.length) := row_len R7.out
      have hk300 : k ≤ 276 := by have := hkk.out; have := flat_le AF.out; omega
      go_wp2_with fail
      go_loopg [15] k (fun kx s15 wr => ∃ t : Nat, s15 = .int .i64 t ∧ t ≤ k ∧ k - t ≤ kx ∧ Hid (wr.ownsRow w.heap.size 48 2 (.slice a k cp) k (mkCells xss.flatten) ∧ JH w wr d F6 ko mo no J7 ∧ Below w.heap.size w wr))
      case atStart => exact ⟨0, rfl, Nat.zero_le _, by omega, R7.out, J7h.out, B7.out⟩
      case round =>
        obtain ⟨t, rfl, htk, hgt, K⟩ := hrel
        by_cases hlt : t < k
        · have hlt3 : (t : Int) < (k : Int) := by omega
          obtain ⟨x, hx⟩ : ∃ x, xss.flatten[t]? = some x := ⟨_, List.getElem?_eq_getElem (by have := hkk.out; omega)⟩
          have hfx : Mk.fits x := by
            obtain ⟨ys, hys, hxy⟩ := List.mem_flatten.1 (List.mem_of_getElem? hx)
            exact (AF.out ys hys).2 x hxy
          have hgo : J7.gone x.1 x.2 = true := gone_mem HI7.out (by rw [List.flatten_append]; exact List.mem_append.2 (.inl (List.mem_of_getElem? hx)))
          obtain ⟨g0, g1⟩ := mkCells_get _ t x hx
          have hrow := K.out.1.2
          have hex : ∃ g cur, a = some ⟨g, 0, none⟩ ∧ wr.heap[g]? = some (.cells cur 48 (0, 0)) ∧ cur[t * 2]? = some (.int .u64 (x.1 : Int)) ∧ cur[t * 2 + 1]? = some (.int .u64 (x.2 : Int)) := by
            rcases hrow with ⟨_, h0⟩ | ⟨g, cap, cur, hv, _, hh, _, _, _, htk⟩
            · omega
            · simp only [Value.slice.injEq] at hv
              rw [← htk, List.getElem?_take] at g0 g1
              refine ⟨g, cur, hv.1, hh, ?_, ?_⟩
              · split at g0
                · simpa using g0
                · cases g0
              · split at g1
                · simpa using g1
                · cases g1
          obtain ⟨g, cur, rfl, hh, hc0, hc1⟩ := hex
          obtain ⟨kx, vx⟩ := x
          have y0 : wr.cell? ⟨g, t * 2, none⟩ = some (.int .u64 (kx : Int)) := by simp [World.cell?, hh, hc0]
          have y1 : wr.cell? ⟨g, t * 2 + 1, none⟩ = some (.int .u64 (vx : Int)) := by simp [World.cell?, hh, hc1]
          have cG : Hid (∀ W : World, W.heap = wr.heap → Calls Try.prog 22 #[.pointer (some ⟨ko, 0, none⟩), .int .u64 (kx : Int), .int .u64 (vx : Int)] W fun e W' => e = .returned (.bool true) ∧ W' = W) := fun W hW => by
            have hj : JH w W d F6 ko mo no J7 := ⟨K.out.2.1.jr.same (by rw [hW]) (by rw [hW]), K.out.2.1.nj, K.out.2.1.nm, K.out.2.1.lj, K.out.2.1.lm⟩
            have := gone_l hj kx vx hfx.1
            rw [hgo] at this
            exact this
          clear hx hfx hgo g0 g1 hrow hh hc0 hc1
          go_wp2_with fail
          go_quiet (first | (go_at_call 22; refine Calls.quiet_of_same (cG.out _ ?_); rfl))
          go_wp2
          go_roundg (k - (t + 1))
          case measure => omega
          case rel => exact ⟨t + 1, by go_num, by omega, by omega, row_keep K.out.1 (fun _ _ => rfl), ⟨K.out.2.1.jr.same rfl rfl, K.out.2.1.nj, K.out.2.1.nm, K.out.2.1.lj, K.out.2.1.lm⟩, ⟨K.out.2.2.os, K.out.2.2.tape, K.out.2.2.output, K.out.2.2.size, K.out.2.2.block⟩⟩
        · obtain rfl : t = k := by omega
          have hlt3 : ¬ (t : Int) < (t : Int) := by omega
          go_wp2
          go_ret
          exact ⟨rfl, K.out.2.2⟩
end Go.Proofs.Ytghdkicijdfpcaa.tombLasts
