/- The document's own device: Write, Erase. -/
import Derived.Test.YthnfdgjikbjgoaaRef
set_option linter.unusedVariables false
set_option linter.unusedSimpArgs false
namespace Go.Proofs.Ythnfdgjikbjgoaa
open Go.RowKit Go.Deep

theorem rRow_append (a b : List Pg) : rRow (a ++ b) = rRow a ++ rRow b := by simp [rRow]
theorem rRow_cons (x : Pg) (b : List Pg) : rRow (x :: b) = rpg x ++ rRow b := by simp [rRow]
theorem rRow_length (l : List Pg) : (rRow l).length = l.length * 2 := flat_length rpg 2 (fun _ => rfl) l

theorem rRow_set {w : World} {p : Nat} {pd : List Value} {a : List Pg} {x : Pg} {b : List Pg} (h : Blk w p (rRow (a ++ x :: b) ++ pd) 79) (y : Pg) :
    Blk ((w.setCell ⟨p, a.length * 2, none⟩ (.int .i64 y.kind)).setCell ⟨p, a.length * 2 + 1, none⟩ (.string y.read)) p (rRow (a ++ y :: b) ++ pd) 79 := by
  have e1 : rRow (a ++ x :: b) ++ pd = rRow a ++ .int .i64 x.kind :: ([.string x.read] ++ (rRow b ++ pd)) := by rw [rRow_append, rRow_cons]; simp [rpg]
  rw [e1] at h
  have b1 := h.set (a.length * 2) (.int .i64 y.kind)
  rw [set_append_len _ _ _ _ _ (rRow_length a).symm] at b1
  have e2 : rRow a ++ .int .i64 (y.kind : Int) :: ([.string x.read] ++ (rRow b ++ pd)) = (rRow a ++ [.int .i64 (y.kind : Int)]) ++ .string x.read :: (rRow b ++ pd) := by simp
  rw [e2] at b1
  have b2 := b1.set (a.length * 2 + 1) (.string y.read)
  rw [set_append_len _ _ _ _ _ (by rw [List.length_append, rRow_length]; rfl)] at b2
  have e3 : rRow (a ++ y :: b) ++ pd = (rRow a ++ [.int .i64 (y.kind : Int)]) ++ .string y.read :: (rRow b ++ pd) := by rw [rRow_append, rRow_cons]; simp [rpg]
  rw [e3]
  exact b2

theorem wRow_set {w : World} {p : Nat} {pd : List Value} {A : List Cl} {c : Cl} {B : List Cl} (h : Blk w p (wRow (A ++ c :: B) ++ pd) 4) (c' : Cl) (hc : c'.last.isSome = true) :
    Blk (w.setCell ⟨p, A.length, none⟩ (.bool true)) p (wRow (A ++ c' :: B) ++ pd) 4 := by
  have e1 : wRow (A ++ c :: B) ++ pd = wRow A ++ .bool c.last.isSome :: (wRow B ++ pd) := by simp [wRow]
  rw [e1] at h
  have b1 := h.set A.length (.bool true)
  rw [set_append_len _ _ _ _ _ (by simp [wRow])] at b1
  have e3 : wRow (A ++ c' :: B) ++ pd = wRow A ++ .bool true :: (wRow B ++ pd) := by simp [wRow, hc]
  rw [e3]
  exact b1

theorem nows_part (A : List Cl) (c : Cl) (B : List Cl) : nows (A ++ c :: B) = nows A ++ c.now :: nows B := by simp [nows]
theorem lasts_put (A : List Cl) (c : Cl) (B : List Cl) (p : Pg) : lasts (A ++ c.put p :: B) = lasts (A ++ c :: B) := by simp [lasts, Cl.put]
theorem nows_length (A : List Cl) : (nows A).length = A.length := by simp [nows]

theorem zeros_succ (j : Nat) : zeros (j + 1) = zeros j ++ ⟨#[0]⟩ := by
  apply ByteArray.ext
  rw [ByteArray.data_append]
  apply Array.ext'
  simp [zeros, List.replicate_succ']
theorem zeros_size (j : Nat) : (zeros j).size = j := by show (List.replicate j (0 : UInt8)).toArray.size = j; simp
theorem cat_assoc (a b c : ByteArray) : a ++ b ++ c = a ++ (b ++ c) := by
  apply ByteArray.ext
  simp [ByteArray.data_append, Array.append_assoc]
theorem cat_size (a b : ByteArray) : (a ++ b).size = a.size + b.size := by
  show (a ++ b).data.size = _
  rw [ByteArray.data_append, Array.size_append]
  rfl
theorem cat_none (b : ByteArray) : b ++ zeros 0 = b := by
  apply ByteArray.ext
  rw [ByteArray.data_append]
  apply Array.ext'
  simp [zeros]

/-- The end of Put: the page, its mark, the count. -/
theorem rput_end {w w' : World} {r : Nat} {L : RLoc} {S : Dv} {A : List Cl} {c : Cl} {B : List Cl} {pg : Pg} (hf : pg.fits) (H : RfIn w r L S) (hcs : S.cs = A ++ c :: B) (x kv : Int) (hkv : kv = (pg.kind : Int))
    (hw : w' = ((((w.setCell ⟨L.now, A.length * 2, none⟩ (.int .i64 kv)).setCell ⟨L.now, A.length * 2 + 1, none⟩ (.string pg.read)).setCell ⟨L.waits, A.length, none⟩ (.bool true)).setCell ⟨r, 6, none⟩ (.int .i64 x))) :
    RfIn w' r L { S with cs := A ++ c.put pg :: B, wr := x } ∧ Keep (rfoot r L) w w' := by
  obtain ⟨n1, n2, n3, n4, n5, n6⟩ := H.ne
  subst hkv
  have K : Keep (rfoot r L) w w' := by
    rw [hw]
    exact ((((Keep.refl _ w).setCell (.inl (by simp [rfoot])) _).setCell (.inl (by simp [rfoot])) _).setCell (.inl (by simp [rfoot])) _).setCell (.inl (by simp [rfoot])) _
  have hcl : (A ++ c.put pg :: B).length = S.cs.length := by rw [hcs]; simp
  refine ⟨⟨?_, ?_, ?_, ?_, H.apart, ?_⟩, K⟩
  · have b := (((H.dev.other (a := ⟨L.now, A.length * 2, none⟩) n2 (.int .i64 pg.kind)).other (a := ⟨L.now, A.length * 2 + 1, none⟩) n2 (.string pg.read)).other (a := ⟨L.waits, A.length, none⟩) n3 (.bool true)).set 6 (.int .i64 x)
    rw [← hw] at b
    have e : rCells L { S with cs := A ++ c.put pg :: B, wr := x } = (rCells L S).set 6 (.int .i64 x) := by simp only [rCells, hcl]; rfl
    rw [e]
    exact b
  · have b := (((H.last.other (a := ⟨L.now, A.length * 2, none⟩) n4 (.int .i64 pg.kind)).other (a := ⟨L.now, A.length * 2 + 1, none⟩) n4 (.string pg.read)).other (a := ⟨L.waits, A.length, none⟩) n5 (.bool true)).other (a := ⟨r, 6, none⟩) (Ne.symm n1) (.int .i64 x)
    rw [← hw, hcs] at b
    show Blk w' L.last (rRow (lasts (A ++ c.put pg :: B)) ++ L.pl) 79
    rw [lasts_put]
    exact b
  · have b0 := H.now
    rw [hcs, nows_part] at b0
    have b := ((rRow_set b0 pg).other (a := ⟨L.waits, A.length, none⟩) n6 (.bool true)).other (a := ⟨r, 6, none⟩) (Ne.symm n2) (.int .i64 x)
    rw [nows_length, ← hw] at b
    show Blk w' L.now (rRow (nows (A ++ c.put pg :: B)) ++ L.pn) 79
    rw [nows_part]
    exact b
  · have b0 := (H.waits.other (a := ⟨L.now, A.length * 2, none⟩) (Ne.symm n6) (.int .i64 pg.kind)).other (a := ⟨L.now, A.length * 2 + 1, none⟩) (Ne.symm n6) (.string pg.read)
    rw [hcs] at b0
    have b := (wRow_set b0 (c.put pg) rfl).other (a := ⟨r, 6, none⟩) (Ne.symm n3) (.int .i64 x)
    rw [← hw] at b
    exact b
  · have hfit := putAt_fits (p := pg) hf S.cs A.length H.good.fits
    rw [hcs, putAt_part] at hfit
    exact ⟨by show (A ++ c.put pg :: B).length ≤ _; rw [hcl]; exact H.good.many, H.good.armed, hfit⟩

/-- How far the page's text is filled. -/
def Padded (pg : Pg) (t : ByteArray) : Prop := (pg.kind = 1 ∧ ∃ j, t = pg.text ++ zeros j) ∨ (pg.kind ≠ 1 ∧ t = pg.text)
theorem padded_step {pg : Pg} {t : ByteArray} (h : Padded pg t) (hk : pg.kind = 1) : Padded pg (t ++ ⟨#[0]⟩) := by
  rcases h with ⟨h1, j, rfl⟩ | ⟨h1, _⟩
  · exact .inl ⟨h1, j + 1, by rw [zeros_succ, cat_assoc]⟩
  · exact absurd hk h1
theorem padded_end {pg : Pg} {t : ByteArray} (hpt : pg ≠ .torn) (hf : pg.fits) (h : Padded pg t) (hs : pg.kind = 1 → t.size = 384) : t = pg.read := by
  rcases h with ⟨h1, j, rfl⟩ | ⟨h1, h2⟩
  · have hsz := hs h1
    cases pg using Pg.elim3 with
    | blank => simp [Pg.kind] at h1
    | torn => exact absurd rfl hpt
    | whole b =>
      show b ++ zeros j = full b
      have : (b ++ zeros j).size = 384 := hsz
      rw [cat_size, zeros_size] at this
      have hj : j = 384 - b.size := by omega
      rw [hj]; rfl
  · cases pg using Pg.elim3 with
    | blank => exact h2
    | torn => exact absurd rfl hpt
    | whole b => simp [Pg.kind] at h1

set_option maxHeartbeats 2000000 in
theorem rput_any (r : Nat) (L : RLoc) (S : Dv) (at0 : Int) (pg : Pg) (hf : pg.fits) (hpt : pg ≠ .torn) (w : World) (h : RfIn w r L S) :
    Calls Try.prog 43 #[.pointer (some ⟨r, 0, none⟩), .int .i64 at0, .agg #[.int .i64 pg.kind, .string pg.text]] w fun e w' => e = .returned (.int .i64 (S.putErr at0)) ∧ RfIn w' r L (S.putDo at0 pg) ∧ Keep (rfoot r L) w w' := by
  obtain ⟨O, hO⟩ : ∃ O : Obj, O = .cells #[.int .i64 pg.kind, .string pg.text] 79 := ⟨_, rfl⟩
  have hA := h.same (w' := w.alloc O) (fun k hk => blk_alloc_lt _ _ _ (h.lt k hk))
  have cg := hide (rgone_any r L S _ hA)
  have c1 := h.dev.cell (i := 1) rfl
  have hrw := h.dev.lt
  have H := hide h
  have HA := hide hA
  have hsz : (pg.text.size : Int) ≤ 384 := by have : pg.text.size ≤ 384 := hf; omega
  have hsz2 : ¬ (384 : Int) < (pg.text.size : Int) := by omega
  rw [hO] at cg
  have HO := hide hO
  clear h hA hO
  cases hh : S.has at0 with
  | false =>
    have E1 : Hid (S.putErr at0 = 1) := by simp [Hid, Dv.putErr, hh]
    have E2 : Hid (S.putDo at0 pg = S) := by simp [Hid, Dv.putDo, hh]
    by_cases h0 : at0 < 0
    · clear hh
      go_enter Try.func43, Try.ntmps43
      go_wp2
      go_ret
      rw [← HO.out]
      exact ⟨by rw [E1.out]; rfl, by rw [E2.out]; exact HA.out, (Keep.refl _ _).alloc _⟩
    · have h1 : (S.cs.length : Int) ≤ at0 := by
        simp [Dv.has] at hh; omega
      clear hh
      go_enter Try.func43, Try.ntmps43
      go_wp2
      go_ret
      rw [← HO.out]
      exact ⟨by rw [E1.out]; rfl, by rw [E2.out]; exact HA.out, (Keep.refl _ _).alloc _⟩
  | true =>
    obtain ⟨A, c, B, hcs, hat⟩ := Dv.has_part hh
    subst hat
    have h0 : ¬ (A.length : Int) < 0 := by omega
    have h1 : ¬ (S.cs.length : Int) ≤ (A.length : Int) := by rw [hcs]; simp; omega
    have h1' : (A.length : Int) < (S.cs.length : Int) := by omega
    cases hg : S.gone with
    | true =>
      rw [hg] at cg
      have E1 : Hid (S.putErr ↑A.length = 4) := by simp [Hid, Dv.putErr, hh, hg]
      have E2 : Hid (S.putDo ↑A.length pg = S.used) := by simp [Hid, Dv.putDo, hh, hg]
      clear hh hg hcs
      go_enter Try.func43, Try.ntmps43
      go_wp2_with (go_at_call 44; refine cg.out.mono ?_; rintro e w' ⟨rfl, hu, ku⟩)
      go_ret
      exact ⟨by rw [E1.out]; rfl, by rw [E2.out]; exact hu, ((Keep.refl _ _).alloc _).trans ku.to_rfoot (fun x hx => .inl hx)⟩
    | false =>
      rw [hg] at cg
      have E1 : Hid (S.putErr ↑A.length = 0) := by simp [Hid, Dv.putErr, hh, hg]
      have E2 : Hid (S.putDo ↑A.length pg = { S.used with cs := A ++ c.put pg :: B, wr := wrap64 (S.wr + 1) }) := by
        show S.putDo _ pg = _
        unfold Dv.putDo
        rw [if_neg (by simp [hh]), if_neg (by simp [hg]), hcs, Int.toNat_natCast, putAt_part]
      have hwr : S.used.wr = S.wr := by unfold Dv.used; split <;> (try split) <;> rfl
      have HCS := hide hcs
      have HWR := hide hwr
      clear hh hg hcs hwr
      go_enter Try.func43, Try.ntmps43
      go_wp2_with fail
      refine cg.out.mono ?_
      rintro e w1 ⟨rfl, hu, ku⟩
      have ucs : S.used.cs = A ++ c :: B := by rw [S.used_cs]; exact HCS.out
      have bn0 : Blk (w.alloc (.cells #[.int .i64 pg.kind, .string pg.text] 79)) w.heap.size [.int .i64 pg.kind, .string pg.text] 79 := Blk.new _ _ _
      have hNr : w.heap.size ≠ r := by omega
      have bn := bn0.same (ku.block w.heap.size (by rw [nblk_alloc]; omega) (by simpa using hNr))
      have hNL : ∀ k ∈ rfoot r L, w.heap.size ≠ k := fun k hk => by have := H.out.lt k hk; omega
      have HU := hide hu
      have KU := hide ku
      have UCS := hide ucs
      have BN := hide bn
      have HNL := hide hNL
      clear hu ku ucs bn0 bn hNL hNr
      have HF := hide hf
      have HPT := hide hpt
      clear hf hpt
      go_wp2
      go_loopg [] 384 (fun kx wr => ∃ t : ByteArray, t.size ≤ 384 ∧ 384 - t.size ≤ kx ∧ Hid (Padded pg t) ∧ Hid (Keep [w.heap.size] w1 wr ∧ Blk wr w.heap.size [.int .i64 pg.kind, .string t] 79))
      case atStart =>
        refine ⟨pg.text, HF.out, by omega, ?_, Keep.refl _ _, BN.out⟩
        show Padded pg pg.text
        by_cases hk : pg.kind = 1
        · exact .inl ⟨hk, 0, (cat_none _).symm⟩
        · exact .inr ⟨hk, rfl⟩
      case round =>
        obtain ⟨t, ht, hg, P, I⟩ := hrel
        have q0 := I.out.2.cell (i := 0) rfl
        have q1 := I.out.2.cell (i := 1) rfl
        have g1 := I.out.2.frozen 1
        by_cases hc : pg.kind = 1 ∧ t.size < 384
        · obtain ⟨hk, hlt⟩ := hc
          have hki : (pg.kind : Int) = 1 := by omega
          have hlt2 : (t.size : Int) < 384 := by omega
          have hbig : ¬ 9223372036854775807 < t.size + 1 := by omega
          have PS := hide (padded_step P.out hk)
          have hs2 : (t ++ ⟨#[0]⟩).size = t.size + 1 := by rw [cat_size]; rfl
          have HS2 := hide hs2
          clear hs2 hk
          go_wp2
          go_roundg (384 - (t.size + 1))
          case measure => omega
          case rel => exact ⟨t ++ ⟨#[0]⟩, by have := HS2.out; omega, by have := HS2.out; omega, PS, I.out.1.setCell (.inl (by simp)) _, I.out.2.set 1 (.string (t ++ ⟨#[0]⟩))⟩
        · have hread : t = pg.read := padded_end HPT.out HF.out P.out (fun hk => by omega)
          subst hread
          have hur := HU.out.same (fun k hk => I.out.1.block k (HU.out.lt k hk) (by simpa using Ne.symm (HNL.out k hk)))
          obtain ⟨n1, n2, n3, n4, n5, n6⟩ := hur.ne
          have d1 := hur.dev.cell (i := 1) rfl
          rw [S.used_cs] at d1
          have rn := hur.now
          rw [UCS.out, nows_part] at rn
          have r0 := rn.cell (i := (nows A).length * 2 + 0) (v := .int .i64 c.now.kind) (flat_getP rpg 2 (fun _ => rfl) (nows A) c.now (nows B) L.pn 0 (by decide))
          have r1 := rn.cell (i := (nows A).length * 2 + 1) (v := .string c.now.read) (flat_getP rpg 2 (fun _ => rfl) (nows A) c.now (nows B) L.pn 1 (by decide))
          rw [nows_length, Nat.add_zero] at r0
          rw [nows_length] at r1
          have y0 := rn.frozen (A.length * 2)
          have y1 := rn.frozen (A.length * 2 + 1)
          obtain ⟨V, hV⟩ : ∃ V, V = ((wr.setCell ⟨L.now, A.length * 2, none⟩ (.int .i64 pg.kind)).setCell ⟨L.now, A.length * 2 + 1, none⟩ (.string pg.read)).drew := ⟨_, rfl⟩
          have bd : Blk V r (rCells L S.used) 48 := by rw [hV]; exact (hur.dev.other (a := ⟨L.now, A.length * 2, none⟩) n2 _).other (a := ⟨L.now, A.length * 2 + 1, none⟩) n2 _
          have bw : Blk V L.waits (wRow (A ++ c :: B) ++ L.pw) 4 := by
            have := hur.waits
            rw [UCS.out] at this
            rw [hV]; exact (this.other (a := ⟨L.now, A.length * 2, none⟩) (Ne.symm n6) _).other (a := ⟨L.now, A.length * 2 + 1, none⟩) (Ne.symm n6) _
          have d2 := bd.cell (i := 2) rfl
          have d6 := bd.cell (i := 6) rfl
          have e6 := bd.frozen 6
          rw [S.used_cs] at d2
          rw [HWR.out] at d6
          have r2 := bw.cell (i := A.length) (v := .bool c.last.isSome) (by simp [wRow])
          have y2 := bw.frozen A.length
          have m3 := Ne.symm n3
          have HUR := hide hur
          have KT : Hid (Keep (rfoot r L) w wr) := ((((Keep.refl _ _).alloc _).trans KU.out.to_rfoot (fun x hx => .inl hx)).trans (I.out.1) (fun x hx => .inr (by simp at hx; omega)))
          have hkc : ¬ (pg.kind : Int) = 1 ∨ ((pg.kind : Int) = 1 ∧ ¬ (pg.read.size : Int) < 384) := by omega
          have D2 := hide d2
          have D6 := hide d6
          have E6 := hide e6
          have R2 := hide r2
          have Y2 := hide y2
          have N3 := hide n3
          have M3 := hide m3
          have HV := hide hV
          clear hur rn I n1 n2 n3 n4 n5 n6 c1 cg H HA HO hsz hsz2 BN KU HU HNL hrw HCS P d2 d6 e6 r2 y2 m3 bd bw hV hc ht hg g1
          rcases hkc with hk1 | ⟨hk1, hk2⟩
          · go_wp2
            go_region
            all_goals (
              rw [← HV.out]
              clear q0 q1 d1 r0 r1 y0 y1
              have d2 := D2.out
              have r2 := R2.out
              have y2 := Y2.out
              have n3 := N3.out
              have m3 := M3.out
              have d6 := D6.out
              have e6 := E6.out
              go_wp2
              go_region
              all_goals go_wp2
              all_goals (
                go_ret
                have EV := HV.out
                subst EV
                obtain ⟨D, K⟩ := rput_end HF.out HUR.out UCS.out (wrap64 (S.wr + 1)) (pg.kind : Int) rfl rfl
                refine ⟨by rw [E1.out]; rfl, ?_, ((KT.out.trans K (fun x hx => .inl hx)).drew).drew⟩
                rw [E2.out]
                exact D.same (fun _ _ => rfl)))
          · rw [hk1] at HV
            go_wp2
            go_region
            all_goals (
              rw [← HV.out]
              clear q0 q1 d1 r0 r1 y0 y1
              have d2 := D2.out
              have r2 := R2.out
              have y2 := Y2.out
              have n3 := N3.out
              have m3 := M3.out
              have d6 := D6.out
              have e6 := E6.out
              go_wp2
              go_region
              all_goals go_wp2
              all_goals (
                go_ret
                have EV := HV.out
                subst EV
                obtain ⟨D, K⟩ := rput_end HF.out HUR.out UCS.out (wrap64 (S.wr + 1)) 1 hk1.symm rfl
                refine ⟨by rw [E1.out]; rfl, ?_, ((KT.out.trans K (fun x hx => .inl hx)).drew).drew⟩
                rw [E2.out]
                exact D.same (fun _ _ => rfl)))

theorem rbig_any (r : Nat) (L : RLoc) (S : Dv) (at0 : Int) (b : ByteArray) (hb : 384 < b.size) (w : World) (h : RfIn w r L S) :
    Calls Try.prog 43 #[.pointer (some ⟨r, 0, none⟩), .int .i64 at0, .agg #[.int .i64 1, .string b]] w fun e w' => e = .returned (.int .i64 1) ∧ RfIn w' r L S ∧ Keep (rfoot r L) w w' := by
  have c1 := h.dev.cell (i := 1) rfl
  have hrw := h.dev.lt
  have HA := hide (h.same (w' := w.alloc (.cells #[.int .i64 1, .string b] 79)) (fun k hk => blk_alloc_lt _ _ _ (h.lt k hk)))
  have hb2 : (384 : Int) < (b.size : Int) := by omega
  clear h hb
  by_cases h0 : at0 < 0
  · go_enter Try.func43, Try.ntmps43
    go_wp2
    go_ret
    exact ⟨rfl, HA.out, (Keep.refl _ _).alloc _⟩
  · by_cases h1 : (S.cs.length : Int) ≤ at0
    · go_enter Try.func43, Try.ntmps43
      go_wp2
      go_ret
      exact ⟨rfl, HA.out, (Keep.refl _ _).alloc _⟩
    · go_enter Try.func43, Try.ntmps43
      go_wp2
      go_ret
      exact ⟨rfl, HA.out, (Keep.refl _ _).alloc _⟩

set_option maxHeartbeats 400000 in
theorem rwrite_at (r : Nat) (G : List Nat) (S : Dv) (at0 : Int) (b : ByteArray) (w : World) (h : RfAt w r G S) :
    Calls Try.prog 31 #[.pointer (some ⟨r, 0, none⟩), .int .i64 at0, .string b] w fun e w' => e = .returned (.int .i64 (S.writeErr at0 b)) ∧ RfAt w' r G (S.writeDo at0 b) ∧ Keep G w w' := by
  obtain ⟨L, rfl, h⟩ := h
  by_cases hbig : 384 < b.size
  · have cp := hide (rbig_any r L S at0 b hbig w h)
    have E1 : Hid (S.writeErr at0 b = 1) := by simp [Hid, Dv.writeErr, hbig]
    have E2 : Hid (S.writeDo at0 b = S) := by simp [Hid, Dv.writeDo, hbig]
    clear h hbig
    go_enter Try.func31, Try.ntmps31
    go_wp2_with (go_at_call 43; refine cp.out.mono ?_; rintro e w' ⟨rfl, h1, k1⟩)
    go_ret
    exact ⟨by rw [E1.out]; rfl, ⟨L, rfl, by rw [E2.out]; exact h1⟩, k1⟩
  · have cp := hide (rput_any r L S at0 (.whole b) (by show b.size ≤ 384; omega) (fun h => by cases h) w h)
    have E1 : Hid (S.writeErr at0 b = S.putErr at0) := by simp [Hid, Dv.writeErr, hbig]
    have E2 : Hid (S.writeDo at0 b = S.putDo at0 (.whole b)) := by simp [Hid, Dv.writeDo, hbig]
    clear h hbig
    go_enter Try.func31, Try.ntmps31
    go_wp2_with (go_at_call 43; refine cp.out.mono ?_; rintro e w' ⟨rfl, h1, k1⟩)
    go_ret
    exact ⟨by rw [E1.out]; rfl, ⟨L, rfl, by rw [E2.out]; exact h1⟩, k1⟩

set_option maxHeartbeats 400000 in
theorem rerase_at (r : Nat) (G : List Nat) (S : Dv) (at0 : Int) (w : World) (h : RfAt w r G S) :
    Calls Try.prog 32 #[.pointer (some ⟨r, 0, none⟩), .int .i64 at0] w fun e w' => e = .returned (.int .i64 (S.putErr at0)) ∧ RfAt w' r G (S.putDo at0 .blank) ∧ Keep G w w' := by
  obtain ⟨L, rfl, h⟩ := h
  have cp := hide (rput_any r L S at0 .blank (Nat.zero_le _) (fun h => by cases h) w h)
  clear h
  go_enter Try.func32, Try.ntmps32
  go_wp2_with (go_at_call 43; refine cp.out.mono ?_; rintro e w' ⟨rfl, h1, k1⟩)
  go_ret
  exact ⟨rfl, ⟨L, rfl, h1⟩, k1⟩
end Go.Proofs.Ythnfdgjikbjgoaa
