/- Texts joined: RefDPut, RBytes3, Run. -/
import Derived.Test.YtbccnfbombgdmaaGreatJ24
import Derived.Test.YtbccnfbombgdmaaGreatJ16
/- The document's own device: Write, Erase. -/
set_option linter.unusedVariables false
set_option linter.unusedSimpArgs false
set_option maxRecDepth 30000
namespace Go.Proofs.YtbccnfbombgdmaaGreat
open Go.RowKit Go.Deep

theorem rRow_append (a b : List Pg) : rRow (a ++ b) = rRow a ++ rRow b := by simp [rRow]
theorem rRow_cons (x : Pg) (b : List Pg) : rRow (x :: b) = rpg x ++ rRow b := by simp [rRow]
theorem rRow_length (l : List Pg) : (rRow l).length = l.length * 2 := flat_length rpg 2 (fun _ => rfl) l

theorem rRow_set {w : World} {p : Nat} {pd : List Value} {a : List Pg} {x : Pg} {b : List Pg} (h : Blk w p (rRow (a ++ x :: b) ++ pd) 118) (y : Pg) :
    Blk ((w.setCell ⟨p, a.length * 2, none⟩ (.int .i64 y.kind)).setCell ⟨p, a.length * 2 + 1, none⟩ (.string y.read)) p (rRow (a ++ y :: b) ++ pd) 118 := by
  have e1 : rRow (a ++ x :: b) ++ pd = rRow a ++ .int .i64 x.kind :: ([.string x.read] ++ (rRow b ++ pd)) := by rw [rRow_append, rRow_cons]; simp [rpg]
  rw [e1] at h
  have b1 := h.set (a.length * 2) (.int .i64 y.kind)
  rw [set_append_len _ _ _ _ _ (rRow_length a).symm] at b1
  have e2 : rRow a ++ .int .i64 (y.kind : Int) :: ([.string x.read] ++ (rRow b ++ pd)) = (rRow a ++ [.int .i64 (y.kind : Int)]) ++ .string x.read :: (rRow b ++ pd) := by simp
  rw [e2] at b1
  have b2 := b1.set (a.length * 2 + 1) (.string y.read)
  rw [set_append_len _ _ _ _ _ (by rw [List.length_append, rRow_length]; rfl)] at b2
  have e3 : rRow (a ++ y :: b) ++ pd = (rRow a ++ [.int .i64 (y.kind : Int)]) ++ .string y.read :: (rRow b ++ pd) := by rw [rRow_append, rRow_cons]; simp [rpg]
  rw [e3]
  exact b2

theorem wRow_set {w : World} {p : Nat} {pd : List Value} {A : List Cl} {c : Cl} {B : List Cl} (h : Blk w p (wRow (A ++ c :: B) ++ pd) 4) (c' : Cl) (hc : c'.last.isSome = true) :
    Blk (w.setCell ⟨p, A.length, none⟩ (.bool true)) p (wRow (A ++ c' :: B) ++ pd) 4 := by
  have e1 : wRow (A ++ c :: B) ++ pd = wRow A ++ .bool c.last.isSome :: (wRow B ++ pd) := by simp [wRow]
  rw [e1] at h
  have b1 := h.set A.length (.bool true)
  rw [set_append_len _ _ _ _ _ (by simp [wRow])] at b1
  have e3 : wRow (A ++ c' :: B) ++ pd = wRow A ++ .bool true :: (wRow B ++ pd) := by simp [wRow, hc]
  rw [e3]
  exact b1

theorem nows_part (A : List Cl) (c : Cl) (B : List Cl) : nows (A ++ c :: B) = nows A ++ c.now :: nows B := by simp [nows]
theorem lasts_put (A : List Cl) (c : Cl) (B : List Cl) (p : Pg) : lasts (A ++ c.put p :: B) = lasts (A ++ c :: B) := by simp [lasts, Cl.put]
theorem nows_length (A : List Cl) : (nows A).length = A.length := by simp [nows]

theorem zeros_succ (j : Nat) : zeros (j + 1) = zeros j ++ ⟨#[0]⟩ := by
  apply ByteArray.ext
  rw [ByteArray.data_append]
  apply Array.ext'
  simp [zeros, List.replicate_succ']
theorem zeros_size (j : Nat) : (zeros j).size = j := by show (List.replicate j (0 : UInt8)).toArray.size = j; simp
theorem cat_assoc (a b c : ByteArray) : a ++ b ++ c = a ++ (b ++ c) := by
  apply ByteArray.ext
  simp [ByteArray.data_append, Array.append_assoc]
theorem cat_size (a b : ByteArray) : (a ++ b).size = a.size + b.size := by
  show (a ++ b).data.size = _
  rw [ByteArray.data_append, Array.size_append]
  rfl
theorem cat_none (b : ByteArray) : b ++ zeros 0 = b := by
  apply ByteArray.ext
  rw [ByteArray.data_append]
  apply Array.ext'
  simp [zeros]

/-- The end of Put: the page, its mark, the count. -/
theorem rput_end {w w' : World} {r : Nat} {L : RLoc} {S : Dv} {A : List Cl} {c : Cl} {B : List Cl} {pg : Pg} (hf : pg.fits) (H : RfIn w r L S) (hcs : S.cs = A ++ c :: B) (x kv : Int) (hkv : kv = (pg.kind : Int))
    (hw : w' = ((((w.setCell ⟨L.now, A.length * 2, none⟩ (.int .i64 kv)).setCell ⟨L.now, A.length * 2 + 1, none⟩ (.string pg.read)).setCell ⟨L.waits, A.length, none⟩ (.bool true)).setCell ⟨r, 6, none⟩ (.int .i64 x))) :
    RfIn w' r L { S with cs := A ++ c.put pg :: B, wr := x } ∧ Keep (rfoot r L) w w' := by
  obtain ⟨n1, n2, n3, n4, n5, n6⟩ := H.ne
  subst hkv
  have K : Keep (rfoot r L) w w' := by
    rw [hw]
    exact ((((Keep.refl _ w).setCell (.inl (by simp [rfoot])) _).setCell (.inl (by simp [rfoot])) _).setCell (.inl (by simp [rfoot])) _).setCell (.inl (by simp [rfoot])) _
  have hcl : (A ++ c.put pg :: B).length = S.cs.length := by rw [hcs]; simp
  refine ⟨⟨?_, ?_, ?_, ?_, H.apart, ?_⟩, K⟩
  · have b := (((H.dev.other (a := ⟨L.now, A.length * 2, none⟩) n2 (.int .i64 pg.kind)).other (a := ⟨L.now, A.length * 2 + 1, none⟩) n2 (.string pg.read)).other (a := ⟨L.waits, A.length, none⟩) n3 (.bool true)).set 6 (.int .i64 x)
    rw [← hw] at b
    have e : rCells L { S with cs := A ++ c.put pg :: B, wr := x } = (rCells L S).set 6 (.int .i64 x) := by simp only [rCells, hcl]; rfl
    rw [e]
    exact b
  · have b := (((H.last.other (a := ⟨L.now, A.length * 2, none⟩) n4 (.int .i64 pg.kind)).other (a := ⟨L.now, A.length * 2 + 1, none⟩) n4 (.string pg.read)).other (a := ⟨L.waits, A.length, none⟩) n5 (.bool true)).other (a := ⟨r, 6, none⟩) (Ne.symm n1) (.int .i64 x)
    rw [← hw, hcs] at b
    show Blk w' L.last (rRow (lasts (A ++ c.put pg :: B)) ++ L.pl) 118
    rw [lasts_put]
    exact b
  · have b0 := H.now
    rw [hcs, nows_part] at b0
    have b := ((rRow_set b0 pg).other (a := ⟨L.waits, A.length, none⟩) n6 (.bool true)).other (a := ⟨r, 6, none⟩) (Ne.symm n2) (.int .i64 x)
    rw [nows_length, ← hw] at b
    show Blk w' L.now (rRow (nows (A ++ c.put pg :: B)) ++ L.pn) 118
    rw [nows_part]
    exact b
  · have b0 := (H.waits.other (a := ⟨L.now, A.length * 2, none⟩) (Ne.symm n6) (.int .i64 pg.kind)).other (a := ⟨L.now, A.length * 2 + 1, none⟩) (Ne.symm n6) (.string pg.read)
    rw [hcs] at b0
    have b := (wRow_set b0 (c.put pg) rfl).other (a := ⟨r, 6, none⟩) (Ne.symm n3) (.int .i64 x)
    rw [← hw] at b
    exact b
  · have hfit := putAt_fits (p := pg) hf S.cs A.length H.good.fits
    rw [hcs, putAt_part] at hfit
    exact ⟨by show (A ++ c.put pg :: B).length ≤ _; rw [hcl]; exact H.good.many, H.good.armed, hfit⟩

/-- How far the page's text is filled. -/
def Padded (pg : Pg) (t : ByteArray) : Prop := (pg.kind = 1 ∧ ∃ j, t = pg.text ++ zeros j) ∨ (pg.kind ≠ 1 ∧ t = pg.text)
theorem padded_step {pg : Pg} {t : ByteArray} (h : Padded pg t) (hk : pg.kind = 1) : Padded pg (t ++ ⟨#[0]⟩) := by
  rcases h with ⟨h1, j, rfl⟩ | ⟨h1, _⟩
  · exact .inl ⟨h1, j + 1, by rw [zeros_succ, cat_assoc]⟩
  · exact absurd hk h1
theorem padded_end {pg : Pg} {t : ByteArray} (hpt : pg ≠ .torn) (hf : pg.fits) (h : Padded pg t) (hs : pg.kind = 1 → t.size = 384) : t = pg.read := by
  rcases h with ⟨h1, j, rfl⟩ | ⟨h1, h2⟩
  · have hsz := hs h1
    cases pg using Pg.elim3 with
    | blank => simp [Pg.kind] at h1
    | torn => exact absurd rfl hpt
    | whole b =>
      show b ++ zeros j = full b
      have : (b ++ zeros j).size = 384 := hsz
      rw [cat_size, zeros_size] at this
      have hj : j = 384 - b.size := by omega
      rw [hj]; rfl
  · cases pg using Pg.elim3 with
    | blank => exact h2
    | torn => exact absurd rfl hpt
    | whole b => simp [Pg.kind] at h1

set_option maxHeartbeats 2000000 in
theorem rput_any (r : Nat) (L : RLoc) (S : Dv) (at0 : Int) (pg : Pg) (hf : pg.fits) (hpt : pg ≠ .torn) (w : World) (h : RfIn w r L S) :
    Calls Tryz.prog 71 #[.pointer (some ⟨r, 0, none⟩), .int .i64 at0, .agg #[.int .i64 pg.kind, .string pg.text]] w fun e w' => e = .returned (.int .i64 (S.putErr at0)) ∧ RfIn w' r L (S.putDo at0 pg) ∧ Keep (rfoot r L) w w' := by
  obtain ⟨O, hO⟩ : ∃ O : Obj, O = .cells #[.int .i64 pg.kind, .string pg.text] 118 := ⟨_, rfl⟩
  have hA := h.same (w' := w.alloc O) (fun k hk => blk_alloc_lt _ _ _ (h.lt k hk))
  have cg := hide (rgone_any r L S _ hA)
  have c1 := h.dev.cell (i := 1) rfl
  have hrw := h.dev.lt
  have H := hide h
  have HA := hide hA
  have hsz : (pg.text.size : Int) ≤ 384 := by have : pg.text.size ≤ 384 := hf; omega
  have hsz2 : ¬ (384 : Int) < (pg.text.size : Int) := by omega
  rw [hO] at cg
  have HO := hide hO
  clear h hA hO
  cases hh : S.has at0 with
  | false =>
    have E1 : Hid (S.putErr at0 = 1) := by simp [Hid, Dv.putErr, hh]
    have E2 : Hid (S.putDo at0 pg = S) := by simp [Hid, Dv.putDo, hh]
    by_cases h0 : at0 < 0
    · clear hh
      go_enter Tryz.func71, Tryz.ntmps71
      go_wp2
      go_ret
      rw [← HO.out]
      exact ⟨by rw [E1.out]; rfl, by rw [E2.out]; exact HA.out, (Keep.refl _ _).alloc _⟩
    · have h1 : (S.cs.length : Int) ≤ at0 := by
        simp [Dv.has] at hh; omega
      clear hh
      go_enter Tryz.func71, Tryz.ntmps71
      go_wp2
      go_ret
      rw [← HO.out]
      exact ⟨by rw [E1.out]; rfl, by rw [E2.out]; exact HA.out, (Keep.refl _ _).alloc _⟩
  | true =>
    obtain ⟨A, c, B, hcs, hat⟩ := Dv.has_part hh
    subst hat
    have h0 : ¬ (A.length : Int) < 0 := by omega
    have h1 : ¬ (S.cs.length : Int) ≤ (A.length : Int) := by rw [hcs]; simp; omega
    have h1' : (A.length : Int) < (S.cs.length : Int) := by omega
    cases hg : S.gone with
    | true =>
      rw [hg] at cg
      have E1 : Hid (S.putErr ↑A.length = 4) := by simp [Hid, Dv.putErr, hh, hg]
      have E2 : Hid (S.putDo ↑A.length pg = S.used) := by simp [Hid, Dv.putDo, hh, hg]
      clear hh hg hcs
      go_enter Tryz.func71, Tryz.ntmps71
      go_wp2_with (go_at_call 75; refine cg.out.mono ?_; rintro e w' ⟨rfl, hu, ku⟩)
      go_ret
      exact ⟨by rw [E1.out]; rfl, by rw [E2.out]; exact hu, ((Keep.refl _ _).alloc _).trans ku.to_rfoot (fun x hx => .inl hx)⟩
    | false =>
      rw [hg] at cg
      have E1 : Hid (S.putErr ↑A.length = 0) := by simp [Hid, Dv.putErr, hh, hg]
      have E2 : Hid (S.putDo ↑A.length pg = { S.used with cs := A ++ c.put pg :: B, wr := wrap64 (S.wr + 1) }) := by
        show S.putDo _ pg = _
        unfold Dv.putDo
        rw [if_neg (by simp [hh]), if_neg (by simp [hg]), hcs, Int.toNat_natCast, putAt_part]
      have hwr : S.used.wr = S.wr := by unfold Dv.used; split <;> (try split) <;> rfl
      have HCS := hide hcs
      have HWR := hide hwr
      clear hh hg hcs hwr
      go_enter Tryz.func71, Tryz.ntmps71
      go_wp2_with fail
      refine cg.out.mono ?_
      rintro e w1 ⟨rfl, hu, ku⟩
      have ucs : S.used.cs = A ++ c :: B := by rw [S.used_cs]; exact HCS.out
      have bn0 : Blk (w.alloc (.cells #[.int .i64 pg.kind, .string pg.text] 118)) w.heap.size [.int .i64 pg.kind, .string pg.text] 118 := Blk.new _ _ _
      have hNr : w.heap.size ≠ r := by omega
      have bn := bn0.same (ku.block w.heap.size (by rw [nblk_alloc]; omega) (by simpa using hNr))
      have hNL : ∀ k ∈ rfoot r L, w.heap.size ≠ k := fun k hk => by have := H.out.lt k hk; omega
      have HU := hide hu
      have KU := hide ku
      have UCS := hide ucs
      have BN := hide bn
      have HNL := hide hNL
      clear hu ku ucs bn0 bn hNL hNr
      have HF := hide hf
      have HPT := hide hpt
      clear hf hpt
      go_wp2
      go_loopg [] 384 (fun kx wr => ∃ t : ByteArray, t.size ≤ 384 ∧ 384 - t.size ≤ kx ∧ Hid (Padded pg t) ∧ Hid (Keep [w.heap.size] w1 wr ∧ Blk wr w.heap.size [.int .i64 pg.kind, .string t] 118))
      case atStart =>
        refine ⟨pg.text, HF.out, by omega, ?_, Keep.refl _ _, BN.out⟩
        show Padded pg pg.text
        by_cases hk : pg.kind = 1
        · exact .inl ⟨hk, 0, (cat_none _).symm⟩
        · exact .inr ⟨hk, rfl⟩
      case round =>
        obtain ⟨t, ht, hg, P, I⟩ := hrel
        have q0 := I.out.2.cell (i := 0) rfl
        have q1 := I.out.2.cell (i := 1) rfl
        have g1 := I.out.2.frozen 1
        by_cases hc : pg.kind = 1 ∧ t.size < 384
        · obtain ⟨hk, hlt⟩ := hc
          have hki : (pg.kind : Int) = 1 := by omega
          have hlt2 : (t.size : Int) < 384 := by omega
          have hbig : ¬ 9223372036854775807 < t.size + 1 := by omega
          have PS := hide (padded_step P.out hk)
          have hs2 : (t ++ ⟨#[0]⟩).size = t.size + 1 := by rw [cat_size]; rfl
          have HS2 := hide hs2
          clear hs2 hk
          go_wp2
          go_roundg (384 - (t.size + 1))
          case measure => omega
          case rel => exact ⟨t ++ ⟨#[0]⟩, by have := HS2.out; omega, by have := HS2.out; omega, PS, I.out.1.setCell (.inl (by simp)) _, I.out.2.set 1 (.string (t ++ ⟨#[0]⟩))⟩
        · have hread : t = pg.read := padded_end HPT.out HF.out P.out (fun hk => by omega)
          subst hread
          have hur := HU.out.same (fun k hk => I.out.1.block k (HU.out.lt k hk) (by simpa using Ne.symm (HNL.out k hk)))
          obtain ⟨n1, n2, n3, n4, n5, n6⟩ := hur.ne
          have d1 := hur.dev.cell (i := 1) rfl
          rw [S.used_cs] at d1
          have rn := hur.now
          rw [UCS.out, nows_part] at rn
          have r0 := rn.cell (i := (nows A).length * 2 + 0) (v := .int .i64 c.now.kind) (flat_getP rpg 2 (fun _ => rfl) (nows A) c.now (nows B) L.pn 0 (by decide))
          have r1 := rn.cell (i := (nows A).length * 2 + 1) (v := .string c.now.read) (flat_getP rpg 2 (fun _ => rfl) (nows A) c.now (nows B) L.pn 1 (by decide))
          rw [nows_length, Nat.add_zero] at r0
          rw [nows_length] at r1
          have y0 := rn.frozen (A.length * 2)
          have y1 := rn.frozen (A.length * 2 + 1)
          obtain ⟨V, hV⟩ : ∃ V, V = ((wr.setCell ⟨L.now, A.length * 2, none⟩ (.int .i64 pg.kind)).setCell ⟨L.now, A.length * 2 + 1, none⟩ (.string pg.read)).drew := ⟨_, rfl⟩
          have bd : Blk V r (rCells L S.used) 68 := by rw [hV]; exact (hur.dev.other (a := ⟨L.now, A.length * 2, none⟩) n2 _).other (a := ⟨L.now, A.length * 2 + 1, none⟩) n2 _
          have bw : Blk V L.waits (wRow (A ++ c :: B) ++ L.pw) 4 := by
            have := hur.waits
            rw [UCS.out] at this
            rw [hV]; exact (this.other (a := ⟨L.now, A.length * 2, none⟩) (Ne.symm n6) _).other (a := ⟨L.now, A.length * 2 + 1, none⟩) (Ne.symm n6) _
          have d2 := bd.cell (i := 2) rfl
          have d6 := bd.cell (i := 6) rfl
          have e6 := bd.frozen 6
          rw [S.used_cs] at d2
          rw [HWR.out] at d6
          have r2 := bw.cell (i := A.length) (v := .bool c.last.isSome) (by simp [wRow])
          have y2 := bw.frozen A.length
          have m3 := Ne.symm n3
          have HUR := hide hur
          have KT : Hid (Keep (rfoot r L) w wr) := ((((Keep.refl _ _).alloc _).trans KU.out.to_rfoot (fun x hx => .inl hx)).trans (I.out.1) (fun x hx => .inr (by simp at hx; omega)))
          have hkc : ¬ (pg.kind : Int) = 1 ∨ ((pg.kind : Int) = 1 ∧ ¬ (pg.read.size : Int) < 384) := by omega
          have D2 := hide d2
          have D6 := hide d6
          have E6 := hide e6
          have R2 := hide r2
          have Y2 := hide y2
          have N3 := hide n3
          have M3 := hide m3
          have HV := hide hV
          clear hur rn I n1 n2 n3 n4 n5 n6 c1 cg H HA HO hsz hsz2 BN KU HU HNL hrw HCS P d2 d6 e6 r2 y2 m3 bd bw hV hc ht hg g1
          rcases hkc with hk1 | ⟨hk1, hk2⟩
          · go_wp2
            go_region
            all_goals (
              rw [← HV.out]
              clear q0 q1 d1 r0 r1 y0 y1
              have d2 := D2.out
              have r2 := R2.out
              have y2 := Y2.out
              have n3 := N3.out
              have m3 := M3.out
              have d6 := D6.out
              have e6 := E6.out
              go_wp2
              go_region
              all_goals go_wp2
              all_goals (
                go_ret
                have EV := HV.out
                subst EV
                obtain ⟨D, K⟩ := rput_end HF.out HUR.out UCS.out (wrap64 (S.wr + 1)) (pg.kind : Int) rfl rfl
                refine ⟨by rw [E1.out]; rfl, ?_, ((KT.out.trans K (fun x hx => .inl hx)).drew).drew⟩
                rw [E2.out]
                exact D.same (fun _ _ => rfl)))
          · rw [hk1] at HV
            go_wp2
            go_region
            all_goals (
              rw [← HV.out]
              clear q0 q1 d1 r0 r1 y0 y1
              have d2 := D2.out
              have r2 := R2.out
              have y2 := Y2.out
              have n3 := N3.out
              have m3 := M3.out
              have d6 := D6.out
              have e6 := E6.out
              go_wp2
              go_region
              all_goals go_wp2
              all_goals (
                go_ret
                have EV := HV.out
                subst EV
                obtain ⟨D, K⟩ := rput_end HF.out HUR.out UCS.out (wrap64 (S.wr + 1)) 1 hk1.symm rfl
                refine ⟨by rw [E1.out]; rfl, ?_, ((KT.out.trans K (fun x hx => .inl hx)).drew).drew⟩
                rw [E2.out]
                exact D.same (fun _ _ => rfl)))

theorem rbig_any (r : Nat) (L : RLoc) (S : Dv) (at0 : Int) (b : ByteArray) (hb : 384 < b.size) (w : World) (h : RfIn w r L S) :
    Calls Tryz.prog 71 #[.pointer (some ⟨r, 0, none⟩), .int .i64 at0, .agg #[.int .i64 1, .string b]] w fun e w' => e = .returned (.int .i64 1) ∧ RfIn w' r L S ∧ Keep (rfoot r L) w w' := by
  have c1 := h.dev.cell (i := 1) rfl
  have hrw := h.dev.lt
  have HA := hide (h.same (w' := w.alloc (.cells #[.int .i64 1, .string b] 118)) (fun k hk => blk_alloc_lt _ _ _ (h.lt k hk)))
  have hb2 : (384 : Int) < (b.size : Int) := by omega
  clear h hb
  by_cases h0 : at0 < 0
  · go_enter Tryz.func71, Tryz.ntmps71
    go_wp2
    go_ret
    exact ⟨rfl, HA.out, (Keep.refl _ _).alloc _⟩
  · by_cases h1 : (S.cs.length : Int) ≤ at0
    · go_enter Tryz.func71, Tryz.ntmps71
      go_wp2
      go_ret
      exact ⟨rfl, HA.out, (Keep.refl _ _).alloc _⟩
    · go_enter Tryz.func71, Tryz.ntmps71
      go_wp2
      go_ret
      exact ⟨rfl, HA.out, (Keep.refl _ _).alloc _⟩

set_option maxHeartbeats 400000 in
theorem rwrite_at (r : Nat) (G : List Nat) (S : Dv) (at0 : Int) (b : ByteArray) (w : World) (h : RfAt w r G S) :
    Calls Tryz.prog 43 #[.pointer (some ⟨r, 0, none⟩), .int .i64 at0, .string b] w fun e w' => e = .returned (.int .i64 (S.writeErr at0 b)) ∧ RfAt w' r G (S.writeDo at0 b) ∧ Keep G w w' := by
  obtain ⟨L, rfl, h⟩ := h
  by_cases hbig : 384 < b.size
  · have cp := hide (rbig_any r L S at0 b hbig w h)
    have E1 : Hid (S.writeErr at0 b = 1) := by simp [Hid, Dv.writeErr, hbig]
    have E2 : Hid (S.writeDo at0 b = S) := by simp [Hid, Dv.writeDo, hbig]
    clear h hbig
    go_enter Tryz.func43, Tryz.ntmps43
    go_wp2_with (go_at_call 71; refine cp.out.mono ?_; rintro e w' ⟨rfl, h1, k1⟩)
    go_ret
    exact ⟨by rw [E1.out]; rfl, ⟨L, rfl, by rw [E2.out]; exact h1⟩, k1⟩
  · have cp := hide (rput_any r L S at0 (.whole b) (by show b.size ≤ 384; omega) (fun h => by cases h) w h)
    have E1 : Hid (S.writeErr at0 b = S.putErr at0) := by simp [Hid, Dv.writeErr, hbig]
    have E2 : Hid (S.writeDo at0 b = S.putDo at0 (.whole b)) := by simp [Hid, Dv.writeDo, hbig]
    clear h hbig
    go_enter Tryz.func43, Tryz.ntmps43
    go_wp2_with (go_at_call 71; refine cp.out.mono ?_; rintro e w' ⟨rfl, h1, k1⟩)
    go_ret
    exact ⟨by rw [E1.out]; rfl, ⟨L, rfl, by rw [E2.out]; exact h1⟩, k1⟩

set_option maxHeartbeats 400000 in
theorem rerase_at (r : Nat) (G : List Nat) (S : Dv) (at0 : Int) (w : World) (h : RfAt w r G S) :
    Calls Tryz.prog 48 #[.pointer (some ⟨r, 0, none⟩), .int .i64 at0] w fun e w' => e = .returned (.int .i64 (S.putErr at0)) ∧ RfAt w' r G (S.putDo at0 .blank) ∧ Keep G w w' := by
  obtain ⟨L, rfl, h⟩ := h
  have cp := hide (rput_any r L S at0 .blank (Nat.zero_le _) (fun h => by cases h) w h)
  clear h
  go_enter Tryz.func48, Tryz.ntmps48
  go_wp2_with (go_at_call 71; refine cp.out.mono ?_; rintro e w' ⟨rfl, h1, k1⟩)
  go_ret
  exact ⟨rfl, ⟨L, rfl, h1⟩, k1⟩
end Go.Proofs.YtbccnfbombgdmaaGreat

/- Slices of bytes that came in; a copy of one's own. -/
set_option linter.unusedVariables false
set_option linter.unusedSimpArgs false
set_option maxRecDepth 30000
namespace Go.Proofs.YtbccnfbombgdmaaGreat
open Go.RowKit Go.Deep

/-- A slice of bytes as it comes in. -/
def RowIs (w : World) (a : Option Addr) (len cap : Nat) (zs : List Int) : Prop :=
  (a = none ∧ len = 0 ∧ cap = 0 ∧ zs = []) ∨
  ∃ x, a = some x ∧ len ≤ cap ∧ cap ≤ maxLen ∧ zs.length = cap ∧ (∀ i, i < zs.length → w.cell? (x.add i) = some (.int .u8 (zs.getD i 0))) ∧ ∀ n ∈ zs, (Lit.int .u8 n).wf = true

theorem row_bytes {w : World} {a : Option Addr} {len cap : Nat} {zs : List Int} (h : RowIs w a len cap zs) :
    ∃ (l : List UInt8) (bb : Nat), l.length = len ∧ BSlice w a l bb ∧ (a = none → l = []) ∧ (l ≠ [] → bb < w.heap.size) := by
  rcases h with ⟨rfl, rfl, rfl, rfl⟩ | ⟨x, rfl, hlc, hm, hz, hc, hwf⟩
  · exact ⟨[], 0, rfl, .inl rfl, fun _ => rfl, fun h => absurd rfl h⟩
  · refine ⟨(zs.take len).map (fun z => UInt8.ofNat z.toNat), x.block, by simp; omega, ?_, (fun h => by cases h), ?_⟩
    · by_cases h0 : len = 0
      · exact .inl (by subst h0; simp)
      · have c0 := hc 0 (by omega)
        have hspot : x.spot = none := by simpa [Addr.add] using World.cell?_spot c0
        obtain ⟨b, off, sp⟩ := x
        simp only at hspot
        subst hspot
        refine .inr ⟨block_lt_of_cell (by simpa [Addr.add] using c0), off, rfl, fun j hj => ?_⟩
        have hjl : j < len := by simp at hj; omega
        have cj := hc j (by omega)
        rw [Addr.add_lit] at cj
        rw [cj]
        have hmem : zs.getD j 0 ∈ zs := by rw [List.getD_eq_getElem?_getD, List.getElem?_eq_getElem (by omega)]; exact List.getElem_mem _
        have hb := u8_wf (hwf _ hmem)
        have e1 : ((zs.take len).map (fun z => UInt8.ofNat z.toNat))[j] = UInt8.ofNat (zs.getD j 0).toNat := by
          simp [List.getD_eq_getElem?_getD, List.getElem?_eq_getElem (show j < zs.length by omega)]
        rw [e1, UInt8.toNat_ofNat']
        have e2 : ((zs.getD j 0).toNat % 2 ^ 8 : Nat) = (zs.getD j 0).toNat := Nat.mod_eq_of_lt (by omega)
        rw [e2]
        congr 2
        omega
    · intro hne
      have h0 : 0 < len := by
        rcases Nat.eq_zero_or_pos len with h | h
        · subst h; simp at hne
        · exact h
      have c0 := hc 0 (by omega)
      obtain ⟨b, off, sp⟩ := x
      exact block_lt_of_cell (by simpa [Addr.add] using c0)

/-- 'append([]byte{}, b...)'. -/
theorem append_bytes (w1 : World) (a : Option Addr) (l : List UInt8) (bb cap : Nat) (hb : BSlice w1 a l bb) (hnil : a = none → l = []) (hl : l.length ≤ 140737488355328) :
    ∃ g cap' w' pad, (Builtin.append_ #[40, 40] 40 #[.slice (some ⟨w1.heap.size, 0, none⟩) 0 0, .slice a l.length cap]).run Tryz.prog (w1.alloc (.cells #[] 5)) = .ok (.slice (some ⟨g, 0, none⟩) l.length cap') w' ∧
      w1.heap.size ≤ g ∧ Blk w' g (bCells l ++ pad) 5 ∧ Below w1.heap.size w1 w' := by
  obtain ⟨i0, hi0, hp0⟩ := Option.map_eq_some_iff.1 info5
  simp only [Prod.mk.injEq] at hp0
  obtain ⟨hz0, hz1, hz2⟩ := hp0
  have hown : (w1.alloc (.cells #[] 5)).ownsRow w1.heap.size 5 1 (.slice (some ⟨w1.heap.size, 0, none⟩) 0 0) 0 [] := World.ownsRow_made w1 #[] 0 (Nat.le_refl _) (Nat.zero_le _) (by simp)
  have fin : ∀ v' w', w'.ownsRow w1.heap.size 5 1 v' l.length (bCells l) → v' ≠ .slice none 0 0 → ∃ g cap' pad, v' = .slice (some ⟨g, 0, none⟩) l.length cap' ∧ w1.heap.size ≤ g ∧ Blk w' g (bCells l ++ pad) 5 := by
    intro v' w' ho hv
    rcases ho.2 with ⟨h, _⟩ | ⟨g, c', cur, hv2, hB, hh, _, _, _, ht⟩
    · exact absurd h hv
    · refine ⟨g, c', cur.toList.drop (l.length * 1), hv2, hB, ?_⟩
      unfold Blk
      rw [← ht, List.take_append_drop, Array.toArray_toList]
      exact hh
  cases a with
  | none =>
    have h0 := hnil rfl
    subst h0
    have hr : (Builtin.append_ #[40, 40] 40 #[.slice (some ⟨w1.heap.size, 0, none⟩) 0 0, .slice none 0 cap]).run Tryz.prog (w1.alloc (.cells #[] 5)) = .ok (.slice (some ⟨w1.heap.size, 0, none⟩) 0 0) (w1.alloc (.cells #[] 5)) := by
      have h := run_append_room_src (P := Tryz.prog) (w1.alloc (.cells #[] 5)) 40 40 40 5 i0 Tryz.underlying40 hi0 w1.heap.size 0 0 0 (.slice none 0 cap) 0 [] (Src.ofNil _ Tryz.underlying40 cap) (Nat.le_refl _) (fun j hj => by simp at hj) (fun j hj => by simp at hj)
      exact h
    exact ⟨w1.heap.size, 0, _, [], hr, Nat.le_refl _, Blk.new w1 [] 5, (Below.refl _ _).alloc (Nat.le_refl _) _⟩
  | some x =>
    have hcells : ∀ j u, (bCells l)[j]? = some u → (w1.alloc (.cells #[] 5)).cell? (x.add j) = some u := by
      intro j u hj
      have hjl : j < l.length := by have := (List.getElem?_eq_some_iff.1 hj).1; simpa [bCells] using this
      rcases hb with h | ⟨hb0, off, ha, hc⟩
      · subst h; simp at hjl
      · cases ha
        rw [Addr.add_lit]
        have : u = .int .u8 (l[j].toNat : Int) := by
          have e : (bCells l)[j]? = some (.int .u8 (l[j].toNat : Int)) := by simp [bCells, hjl]
          rw [e] at hj
          exact (Option.some.inj hj).symm
        rw [this]
        exact Lib.cell?_alloc_some _ (hc j hjl)
    obtain ⟨v', w', hr, ho, hg, hnl⟩ := run_append_own (P := Tryz.prog) (w1.alloc (.cells #[] 5)) w1.heap.size 40 40 5 i0 (.int .u8 0) 1 1 Tryz.underlying40 hi0 hz0 hz1 hz2 rfl (by decide) _ 0 [] hown x l.length cap (bCells l) (by simp [bCells]) hcells
      (fun u hu => by obtain ⟨_, _, rfl⟩ := List.mem_map.1 hu; rfl) (by unfold maxLen; omega) (by omega) (by rw [nblk_alloc]; omega)
    rw [Nat.zero_add, List.nil_append] at ho
    obtain ⟨g, c', pad, rfl, hgB, hblk⟩ := fin v' w' ho (fun h => by have := (hnl.1 h).1; simp at this)
    exact ⟨g, c', w', pad, hr, hgB, hblk, ((Below.refl _ w1).alloc (Nat.le_refl _) _).grown hg (by rw [nblk_alloc]; omega) (by intro k hk; simp [Value.ownBlock] at hk; omega)⟩

theorem blk_slice {w : World} {g cap : Nat} {l : List UInt8} {pad : List Value} (h : Blk w g (bCells l ++ pad) 5) : BSlice w (some ⟨g, 0, none⟩) l g := by
  refine .inr ⟨h.lt, 0, rfl, fun j hj => ?_⟩
  rw [Nat.zero_add]
  refine h.cell ?_
  rw [List.getElem?_append_left (by simpa [bCells] using hj)]
  simp [bCells, hj]
end Go.Proofs.YtbccnfbombgdmaaGreat

/- Single operations, run with whatever operands. -/
set_option linter.unusedVariables false
set_option linter.unusedSimpArgs false
set_option maxRecDepth 30000
namespace Go.Proofs.YtbccnfbombgdmaaGreat
open Go.RowKit Go.Deep

theorem pick_own {own : Nat → Option Nat} {V : Nat → Value} {listed : Array Bool} {t j : Nat} {v : Value} (h : own t = some j) (hl : listed.getD j false = true) : pickSlot own V listed t v = V j := by
  simp [pickSlot, h, hl]
theorem pick_none {own : Nat → Option Nat} {V : Nat → Value} {listed : Array Bool} {t : Nat} {v : Value} (h : own t = none) : pickSlot own V listed t v = v := by
  simp [pickSlot, h]

theorem x_move (ev : Operand → Value) (dst : Option Tmp) (x : Operand) (ty : TypeId) (pos : String) (after : Array Edge) (guard : Option (Nat × Bool)) (P : Program) (w : World) :
    (execOp ev { dst, op := .move x, type := ty, pos, after, guard }).run P w = .ok (.value (ev x)) w := by
  simp [execOp]
theorem x_assign (ev : Operand → Value) (dst : Option Tmp) (x : Operand) (ty : TypeId) (pos : String) (after : Array Edge) (guard : Option (Nat × Bool)) (P : Program) (w : World) :
    (execOp ev { dst, op := .assign x, type := ty, pos, after, guard }).run P w = .ok (.value (ev x)) w := by
  simp [execOp]
theorem x_field1 (ev : Operand → Value) (dst : Option Tmp) (ty : TypeId) (pos : String) (after : Array Edge) (guard : Option (Nat × Bool)) (w : World) (N : Nat) (h : ev (.tmp 5) = .pointer (some ⟨N, 0, none⟩)) :
    (execOp ev { dst, op := .fieldAddr 42 (.tmp 5) 1, type := ty, pos, after, guard }).run Tryz.prog w = .ok (.value (.pointer (some ⟨N, 1, none⟩))) w := by
  simp only [execOp, h]
  go_simp
theorem x_field2 (ev : Operand → Value) (dst : Option Tmp) (ty : TypeId) (pos : String) (after : Array Edge) (guard : Option (Nat × Bool)) (w : World) (N : Nat) (h : ev (.tmp 5) = .pointer (some ⟨N, 0, none⟩)) :
    (execOp ev { dst, op := .fieldAddr 42 (.tmp 5) 2, type := ty, pos, after, guard }).run Tryz.prog w = .ok (.value (.pointer (some ⟨N, 2, none⟩))) w := by
  simp only [execOp, h]
  go_simp
theorem x_load3 (ev : Operand → Value) (dst : Option Tmp) (x : Operand) (ty : TypeId) (pos : String) (after : Array Edge) (guard : Option (Nat × Bool)) (w : World) (b o : Nat) (k : Int) (h : ev x = .pointer (some ⟨b, o, none⟩)) (hc : w.cell? ⟨b, o, none⟩ = some (.int .i64 k)) :
    (execOp ev { dst, op := .load 3 x, type := ty, pos, after, guard }).run Tryz.prog w = .ok (.value (.int .i64 k)) w := by
  simp only [execOp, h]
  go_simp
theorem x_load29 (ev : Operand → Value) (dst : Option Tmp) (x : Operand) (ty : TypeId) (pos : String) (after : Array Edge) (guard : Option (Nat × Bool)) (w : World) (b o : Nat) (a : Option Addr) (n cap : Nat) (h : ev x = .pointer (some ⟨b, o, none⟩)) (hc : w.cell? ⟨b, o, none⟩ = some (.slice a n cap)) :
    (execOp ev { dst, op := .load 40 x, type := ty, pos, after, guard }).run Tryz.prog w = .ok (.value (.slice a n cap)) w := by
  simp only [execOp, h]
  go_simp
theorem x_build0 (ev : Operand → Value) (dst : Option Tmp) (ty : TypeId) (pos : String) (after : Array Edge) (guard : Option (Nat × Bool)) (w : World) :
    (execOp ev { dst, op := .buildSlice 40 0 #[], type := ty, pos, after, guard }).run Tryz.prog w = .ok (.value (.slice (some ⟨w.heap.size, 0, none⟩) 0 0)) (w.alloc (.cells #[] 5)) := by
  simp only [execOp]
  go_simp
theorem x_append (ev : Operand → Value) (dst : Option Tmp) (x y : Operand) (ty : TypeId) (pos : String) (after : Array Edge) (guard : Option (Nat × Bool)) (w w' : World) (u v r : Value) (hx : ev x = u) (hy : ev y = v) (hr : (Builtin.append_ #[40, 40] ty #[u, v]).run Tryz.prog w = .ok r w') :
    (execOp ev { dst, op := .call { callee := .builtin .append, args := #[x, y], argTypes := #[40, 40] }, type := ty, pos, after, guard }).run Tryz.prog w = .ok (.value r) w' := by
  simp [execOp, resolve, invoke, builtin, hx, hy, hr, Result.andThen]
theorem x_convert (ev : Operand → Value) (dst : Option Tmp) (x : Operand) (ty : TypeId) (pos : String) (after : Array Edge) (guard : Option (Nat × Bool)) (w : World) (u v : Value) (hx : ev x = u) (hr : (convert 40 9 u).run Tryz.prog w = .ok v w) :
    (execOp ev { dst, op := .convert 40 9 x, type := ty, pos, after, guard }).run Tryz.prog w = .ok (.value v) w := by
  simp [execOp, hx, hr, Result.andThen]
theorem x_eql (ev : Operand → Value) (dst : Option Tmp) (x y : Operand) (t2 ty : TypeId) (pos : String) (after : Array Edge) (guard : Option (Nat × Bool)) (w : World) (a b : Int) (hx : ev x = .int .i64 a) (hy : ev y = .int .i64 b) :
    (execOp ev { dst, op := .binOp .eql 25 x y t2, type := ty, pos, after, guard }).run Tryz.prog w = .ok (.value (.bool (a == b))) w := by
  simp only [execOp, hx, hy]
  go_simp
theorem x_call3 (ev : Operand → Value) (f : FuncId) (hfn : ev (.func f) = .func (.func f) #[] #[]) (dst : Option Tmp) (x y z : Operand) (ats : Array TypeId) (ty : TypeId) (pos : String) (after : Array Edge) (guard : Option (Nat × Bool)) (w : World) (a b c : Value) (hx : ev x = a) (hy : ev y = b) (hz : ev z = c) (P : Program) :
    (execOp ev { dst, op := .call { callee := .value (.func f), args := #[x, y, z], argTypes := ats }, type := ty, pos, after, guard }).run P w = (callFunc f #[a, b, c]).run P w := by
  simp [execOp, resolve, invoke, hfn, hx, hy, hz, Result.andThen]
  rfl
theorem enter12 (args : Array Value) (w : World) : (callFunc 46 args).run Tryz.prog w = .ok (.enter 46 args) w := by go_simp
theorem enter31 (args : Array Value) (w : World) : (callFunc 43 args).run Tryz.prog w = .ok (.enter 43 args) w := by go_simp
end Go.Proofs.YtbccnfbombgdmaaGreat
