/- The document's own device, records, Dump and Load beside the program's: texts joined. -/
import Derived.Test.YtanbbmlekebhhaaJ3
import Derived.Deep.RegionLaw
/- The document's own device: Write, Erase. -/
set_option linter.unusedVariables false
set_option linter.unusedSimpArgs false
namespace Go.Proofs.Ytanbbmlekebhhaa
open Go.RowKit Go.Deep

theorem rRow_append (a b : List Pg) : rRow (a ++ b) = rRow a ++ rRow b := by simp [rRow]
theorem rRow_cons (x : Pg) (b : List Pg) : rRow (x :: b) = rpg x ++ rRow b := by simp [rRow]
theorem rRow_length (l : List Pg) : (rRow l).length = l.length * 2 := flat_length rpg 2 (fun _ => rfl) l

theorem rRow_set {w : World} {p : Nat} {pd : List Value} {a : List Pg} {x : Pg} {b : List Pg} (h : Blk w p (rRow (a ++ x :: b) ++ pd) 101) (y : Pg) :
    Blk ((w.setCell ⟨p, a.length * 2, none⟩ (.int .i64 y.kind)).setCell ⟨p, a.length * 2 + 1, none⟩ (.string y.read)) p (rRow (a ++ y :: b) ++ pd) 101 := by
  have e1 : rRow (a ++ x :: b) ++ pd = rRow a ++ .int .i64 x.kind :: ([.string x.read] ++ (rRow b ++ pd)) := by rw [rRow_append, rRow_cons]; simp [rpg]
  rw [e1] at h
  have b1 := h.set (a.length * 2) (.int .i64 y.kind)
  rw [set_append_len _ _ _ _ _ (rRow_length a).symm] at b1
  have e2 : rRow a ++ .int .i64 (y.kind : Int) :: ([.string x.read] ++ (rRow b ++ pd)) = (rRow a ++ [.int .i64 (y.kind : Int)]) ++ .string x.read :: (rRow b ++ pd) := by simp
  rw [e2] at b1
  have b2 := b1.set (a.length * 2 + 1) (.string y.read)
  rw [set_append_len _ _ _ _ _ (by rw [List.length_append, rRow_length]; rfl)] at b2
  have e3 : rRow (a ++ y :: b) ++ pd = (rRow a ++ [.int .i64 (y.kind : Int)]) ++ .string y.read :: (rRow b ++ pd) := by rw [rRow_append, rRow_cons]; simp [rpg]
  rw [e3]
  exact b2

theorem wRow_set {w : World} {p : Nat} {pd : List Value} {A : List Cl} {c : Cl} {B : List Cl} (h : Blk w p (wRow (A ++ c :: B) ++ pd) 4) (c' : Cl) (hc : c'.last.isSome = true) :
    Blk (w.setCell ⟨p, A.length, none⟩ (.bool true)) p (wRow (A ++ c' :: B) ++ pd) 4 := by
  have e1 : wRow (A ++ c :: B) ++ pd = wRow A ++ .bool c.last.isSome :: (wRow B ++ pd) := by simp [wRow]
  rw [e1] at h
  have b1 := h.set A.length (.bool true)
  rw [set_append_len _ _ _ _ _ (by simp [wRow])] at b1
  have e3 : wRow (A ++ c' :: B) ++ pd = wRow A ++ .bool true :: (wRow B ++ pd) := by simp [wRow, hc]
  rw [e3]
  exact b1

theorem nows_part (A : List Cl) (c : Cl) (B : List Cl) : nows (A ++ c :: B) = nows A ++ c.now :: nows B := by simp [nows]
theorem lasts_put (A : List Cl) (c : Cl) (B : List Cl) (p : Pg) : lasts (A ++ c.put p :: B) = lasts (A ++ c :: B) := by simp [lasts, Cl.put]
theorem nows_length (A : List Cl) : (nows A).length = A.length := by simp [nows]

theorem zeros_succ (j : Nat) : zeros (j + 1) = zeros j ++ ⟨#[0]⟩ := by
  apply ByteArray.ext
  rw [ByteArray.data_append]
  apply Array.ext'
  simp [zeros, List.replicate_succ']
theorem zeros_size (j : Nat) : (zeros j).size = j := by show (List.replicate j (0 : UInt8)).toArray.size = j; simp
theorem cat_assoc (a b c : ByteArray) : a ++ b ++ c = a ++ (b ++ c) := by
  apply ByteArray.ext
  simp [ByteArray.data_append, Array.append_assoc]
theorem cat_size (a b : ByteArray) : (a ++ b).size = a.size + b.size := by
  show (a ++ b).data.size = _
  rw [ByteArray.data_append, Array.size_append]
  rfl
theorem cat_none (b : ByteArray) : b ++ zeros 0 = b := by
  apply ByteArray.ext
  rw [ByteArray.data_append]
  apply Array.ext'
  simp [zeros]

/-- The end of Put: the page, its mark, the count. -/
theorem rput_end {w w' : World} {r : Nat} {L : RLoc} {S : Dv} {A : List Cl} {c : Cl} {B : List Cl} {pg : Pg} (hf : pg.fits) (H : RfIn w r L S) (hcs : S.cs = A ++ c :: B) (x kv : Int) (hkv : kv = (pg.kind : Int))
    (hw : w' = ((((w.setCell ⟨L.now, A.length * 2, none⟩ (.int .i64 kv)).setCell ⟨L.now, A.length * 2 + 1, none⟩ (.string pg.read)).setCell ⟨L.waits, A.length, none⟩ (.bool true)).setCell ⟨r, 6, none⟩ (.int .i64 x))) :
    RfIn w' r L { S with cs := A ++ c.put pg :: B, wr := x } ∧ Keep (rfoot r L) w w' := by
  obtain ⟨n1, n2, n3, n4, n5, n6⟩ := H.ne
  subst hkv
  have K : Keep (rfoot r L) w w' := by
    rw [hw]
    exact ((((Keep.refl _ w).setCell (.inl (by simp [rfoot])) _).setCell (.inl (by simp [rfoot])) _).setCell (.inl (by simp [rfoot])) _).setCell (.inl (by simp [rfoot])) _
  have hcl : (A ++ c.put pg :: B).length = S.cs.length := by rw [hcs]; simp
  refine ⟨⟨?_, ?_, ?_, ?_, H.apart, ?_⟩, K⟩
  · have b := (((H.dev.other (a := ⟨L.now, A.length * 2, none⟩) n2 (.int .i64 pg.kind)).other (a := ⟨L.now, A.length * 2 + 1, none⟩) n2 (.string pg.read)).other (a := ⟨L.waits, A.length, none⟩) n3 (.bool true)).set 6 (.int .i64 x)
    rw [← hw] at b
    have e : rCells L { S with cs := A ++ c.put pg :: B, wr := x } = (rCells L S).set 6 (.int .i64 x) := by simp only [rCells, hcl]; rfl
    rw [e]
    exact b
  · have b := (((H.last.other (a := ⟨L.now, A.length * 2, none⟩) n4 (.int .i64 pg.kind)).other (a := ⟨L.now, A.length * 2 + 1, none⟩) n4 (.string pg.read)).other (a := ⟨L.waits, A.length, none⟩) n5 (.bool true)).other (a := ⟨r, 6, none⟩) (Ne.symm n1) (.int .i64 x)
    rw [← hw, hcs] at b
    show Blk w' L.last (rRow (lasts (A ++ c.put pg :: B)) ++ L.pl) 101
    rw [lasts_put]
    exact b
  · have b0 := H.now
    rw [hcs, nows_part] at b0
    have b := ((rRow_set b0 pg).other (a := ⟨L.waits, A.length, none⟩) n6 (.bool true)).other (a := ⟨r, 6, none⟩) (Ne.symm n2) (.int .i64 x)
    rw [nows_length, ← hw] at b
    show Blk w' L.now (rRow (nows (A ++ c.put pg :: B)) ++ L.pn) 101
    rw [nows_part]
    exact b
  · have b0 := (H.waits.other (a := ⟨L.now, A.length * 2, none⟩) (Ne.symm n6) (.int .i64 pg.kind)).other (a := ⟨L.now, A.length * 2 + 1, none⟩) (Ne.symm n6) (.string pg.read)
    rw [hcs] at b0
    have b := (wRow_set b0 (c.put pg) rfl).other (a := ⟨r, 6, none⟩) (Ne.symm n3) (.int .i64 x)
    rw [← hw] at b
    exact b
  · have hfit := putAt_fits (p := pg) hf S.cs A.length H.good.fits
    rw [hcs, putAt_part] at hfit
    exact ⟨by show (A ++ c.put pg :: B).length ≤ _; rw [hcl]; exact H.good.many, H.good.armed, hfit⟩

/-- How far the page's text is filled. -/
def Padded (pg : Pg) (t : ByteArray) : Prop := (pg.kind = 1 ∧ ∃ j, t = pg.text ++ zeros j) ∨ (pg.kind ≠ 1 ∧ t = pg.text)
theorem padded_step {pg : Pg} {t : ByteArray} (h : Padded pg t) (hk : pg.kind = 1) : Padded pg (t ++ ⟨#[0]⟩) := by
  rcases h with ⟨h1, j, rfl⟩ | ⟨h1, _⟩
  · exact .inl ⟨h1, j + 1, by rw [zeros_succ, cat_assoc]⟩
  · exact absurd hk h1
theorem padded_end {pg : Pg} {t : ByteArray} (hpt : pg ≠ .torn) (hf : pg.fits) (h : Padded pg t) (hs : pg.kind = 1 → t.size = 384) : t = pg.read := by
  rcases h with ⟨h1, j, rfl⟩ | ⟨h1, h2⟩
  · have hsz := hs h1
    cases pg using Pg.elim3 with
    | blank => simp [Pg.kind] at h1
    | torn => exact absurd rfl hpt
    | whole b =>
      show b ++ zeros j = full b
      have : (b ++ zeros j).size = 384 := hsz
      rw [cat_size, zeros_size] at this
      have hj : j = 384 - b.size := by omega
      rw [hj]; rfl
  · cases pg using Pg.elim3 with
    | blank => exact h2
    | torn => exact absurd rfl hpt
    | whole b => simp [Pg.kind] at h1

set_option maxHeartbeats 2000000 in
theorem rput_any (r : Nat) (L : RLoc) (S : Dv) (at0 : Int) (pg : Pg) (hf : pg.fits) (hpt : pg ≠ .torn) (w : World) (h : RfIn w r L S) :
    Calls Try.prog 59 #[.pointer (some ⟨r, 0, none⟩), .int .i64 at0, .agg #[.int .i64 pg.kind, .string pg.text]] w fun e w' => e = .returned (.int .i64 (S.putErr at0)) ∧ RfIn w' r L (S.putDo at0 pg) ∧ Keep (rfoot r L) w w' := by
  obtain ⟨O, hO⟩ : ∃ O : Obj, O = .cells #[.int .i64 pg.kind, .string pg.text] 101 := ⟨_, rfl⟩
  have hA := h.same (w' := w.alloc O) (fun k hk => blk_alloc_lt _ _ _ (h.lt k hk))
  have cg := hide (rgone_any r L S _ hA)
  have c1 := h.dev.cell (i := 1) rfl
  have hrw := h.dev.lt
  have H := hide h
  have HA := hide hA
  have hsz : (pg.text.size : Int) ≤ 384 := by have : pg.text.size ≤ 384 := hf; omega
  have hsz2 : ¬ (384 : Int) < (pg.text.size : Int) := by omega
  rw [hO] at cg
  have HO := hide hO
  clear h hA hO
  cases hh : S.has at0 with
  | false =>
    have E1 : Hid (S.putErr at0 = 1) := by simp [Hid, Dv.putErr, hh]
    have E2 : Hid (S.putDo at0 pg = S) := by simp [Hid, Dv.putDo, hh]
    by_cases h0 : at0 < 0
    · clear hh
      go_enter Try.func59, Try.ntmps59
      go_wp2
      go_ret
      rw [← HO.out]
      exact ⟨by rw [E1.out]; rfl, by rw [E2.out]; exact HA.out, (Keep.refl _ _).alloc _⟩
    · have h1 : (S.cs.length : Int) ≤ at0 := by
        simp [Dv.has] at hh; omega
      clear hh
      go_enter Try.func59, Try.ntmps59
      go_wp2
      go_ret
      rw [← HO.out]
      exact ⟨by rw [E1.out]; rfl, by rw [E2.out]; exact HA.out, (Keep.refl _ _).alloc _⟩
  | true =>
    obtain ⟨A, c, B, hcs, hat⟩ := Dv.has_part hh
    subst hat
    have h0 : ¬ (A.length : Int) < 0 := by omega
    have h1 : ¬ (S.cs.length : Int) ≤ (A.length : Int) := by rw [hcs]; simp; omega
    have h1' : (A.length : Int) < (S.cs.length : Int) := by omega
    cases hg : S.gone with
    | true =>
      rw [hg] at cg
      have E1 : Hid (S.putErr ↑A.length = 4) := by simp [Hid, Dv.putErr, hh, hg]
      have E2 : Hid (S.putDo ↑A.length pg = S.used) := by simp [Hid, Dv.putDo, hh, hg]
      clear hh hg hcs
      go_enter Try.func59, Try.ntmps59
      go_wp2_with (go_at_call 61; refine cg.out.mono ?_; rintro e w' ⟨rfl, hu, ku⟩)
      go_ret
      exact ⟨by rw [E1.out]; rfl, by rw [E2.out]; exact hu, ((Keep.refl _ _).alloc _).trans ku.to_rfoot (fun x hx => .inl hx)⟩
    | false =>
      rw [hg] at cg
      have E1 : Hid (S.putErr ↑A.length = 0) := by simp [Hid, Dv.putErr, hh, hg]
      have E2 : Hid (S.putDo ↑A.length pg = { S.used with cs := A ++ c.put pg :: B, wr := wrap64 (S.wr + 1) }) := by
        show S.putDo _ pg = _
        unfold Dv.putDo
        rw [if_neg (by simp [hh]), if_neg (by simp [hg]), hcs, Int.toNat_natCast, putAt_part]
      have hwr : S.used.wr = S.wr := by unfold Dv.used; split <;> (try split) <;> rfl
      have HCS := hide hcs
      have HWR := hide hwr
      clear hh hg hcs hwr
      go_enter Try.func59, Try.ntmps59
      go_wp2_with fail
      refine cg.out.mono ?_
      rintro e w1 ⟨rfl, hu, ku⟩
      have ucs : S.used.cs = A ++ c :: B := by rw [S.used_cs]; exact HCS.out
      have bn0 : Blk (w.alloc (.cells #[.int .i64 pg.kind, .string pg.text] 101)) w.heap.size [.int .i64 pg.kind, .string pg.text] 101 := Blk.new _ _ _
      have hNr : w.heap.size ≠ r := by omega
      have bn := bn0.same (ku.block w.heap.size (by rw [nblk_alloc]; omega) (by simpa using hNr))
      have hNL : ∀ k ∈ rfoot r L, w.heap.size ≠ k := fun k hk => by have := H.out.lt k hk; omega
      have HU := hide hu
      have KU := hide ku
      have UCS := hide ucs
      have BN := hide bn
      have HNL := hide hNL
      clear hu ku ucs bn0 bn hNL hNr
      have HF := hide hf
      have HPT := hide hpt
      clear hf hpt
      go_wp2
      go_loopg [] 384 (fun kx wr => ∃ t : ByteArray, t.size ≤ 384 ∧ 384 - t.size ≤ kx ∧ Hid (Padded pg t) ∧ Hid (Keep [w.heap.size] w1 wr ∧ Blk wr w.heap.size [.int .i64 pg.kind, .string t] 101))
      case atStart =>
        refine ⟨pg.text, HF.out, by omega, ?_, Keep.refl _ _, BN.out⟩
        show Padded pg pg.text
        by_cases hk : pg.kind = 1
        · exact .inl ⟨hk, 0, (cat_none _).symm⟩
        · exact .inr ⟨hk, rfl⟩
      case round =>
        obtain ⟨t, ht, hg, P, I⟩ := hrel
        have q0 := I.out.2.cell (i := 0) rfl
        have q1 := I.out.2.cell (i := 1) rfl
        have g1 := I.out.2.frozen 1
        by_cases hc : pg.kind = 1 ∧ t.size < 384
        · obtain ⟨hk, hlt⟩ := hc
          have hki : (pg.kind : Int) = 1 := by omega
          have hlt2 : (t.size : Int) < 384 := by omega
          have hbig : ¬ 9223372036854775807 < t.size + 1 := by omega
          have PS := hide (padded_step P.out hk)
          have hs2 : (t ++ ⟨#[0]⟩).size = t.size + 1 := by rw [cat_size]; rfl
          have HS2 := hide hs2
          clear hs2 hk
          go_wp2
          go_roundg (384 - (t.size + 1))
          case measure => omega
          case rel => exact ⟨t ++ ⟨#[0]⟩, by have := HS2.out; omega, by have := HS2.out; omega, PS, I.out.1.setCell (.inl (by simp)) _, I.out.2.set 1 (.string (t ++ ⟨#[0]⟩))⟩
        · have hread : t = pg.read := padded_end HPT.out HF.out P.out (fun hk => by omega)
          subst hread
          have hur := HU.out.same (fun k hk => I.out.1.block k (HU.out.lt k hk) (by simpa using Ne.symm (HNL.out k hk)))
          obtain ⟨n1, n2, n3, n4, n5, n6⟩ := hur.ne
          have d1 := hur.dev.cell (i := 1) rfl
          rw [S.used_cs] at d1
          have rn := hur.now
          rw [UCS.out, nows_part] at rn
          have r0 := rn.cell (i := (nows A).length * 2 + 0) (v := .int .i64 c.now.kind) (flat_getP rpg 2 (fun _ => rfl) (nows A) c.now (nows B) L.pn 0 (by decide))
          have r1 := rn.cell (i := (nows A).length * 2 + 1) (v := .string c.now.read) (flat_getP rpg 2 (fun _ => rfl) (nows A) c.now (nows B) L.pn 1 (by decide))
          rw [nows_length, Nat.add_zero] at r0
          rw [nows_length] at r1
          have y0 := rn.frozen (A.length * 2)
          have y1 := rn.frozen (A.length * 2 + 1)
          obtain ⟨V, hV⟩ : ∃ V, V = ((wr.setCell ⟨L.now, A.length * 2, none⟩ (.int .i64 pg.kind)).setCell ⟨L.now, A.length * 2 + 1, none⟩ (.string pg.read)).drew := ⟨_, rfl⟩
          have bd : Blk V r (rCells L S.used) 79 := by rw [hV]; exact (hur.dev.other (a := ⟨L.now, A.length * 2, none⟩) n2 _).other (a := ⟨L.now, A.length * 2 + 1, none⟩) n2 _
          have bw : Blk V L.waits (wRow (A ++ c :: B) ++ L.pw) 4 := by
            have := hur.waits
            rw [UCS.out] at this
            rw [hV]; exact (this.other (a := ⟨L.now, A.length * 2, none⟩) (Ne.symm n6) _).other (a := ⟨L.now, A.length * 2 + 1, none⟩) (Ne.symm n6) _
          have d2 := bd.cell (i := 2) rfl
          have d6 := bd.cell (i := 6) rfl
          have e6 := bd.frozen 6
          rw [S.used_cs] at d2
          rw [HWR.out] at d6
          have r2 := bw.cell (i := A.length) (v := .bool c.last.isSome) (by simp [wRow])
          have y2 := bw.frozen A.length
          have m3 := Ne.symm n3
          have HUR := hide hur
          have KT : Hid (Keep (rfoot r L) w wr) := ((((Keep.refl _ _).alloc _).trans KU.out.to_rfoot (fun x hx => .inl hx)).trans (I.out.1) (fun x hx => .inr (by simp at hx; omega)))
          have hkc : ¬ (pg.kind : Int) = 1 ∨ ((pg.kind : Int) = 1 ∧ ¬ (pg.read.size : Int) < 384) := by omega
          have D2 := hide d2
          have D6 := hide d6
          have E6 := hide e6
          have R2 := hide r2
          have Y2 := hide y2
          have N3 := hide n3
          have M3 := hide m3
          have HV := hide hV
          clear hur rn I n1 n2 n3 n4 n5 n6 c1 cg H HA HO hsz hsz2 BN KU HU HNL hrw HCS P d2 d6 e6 r2 y2 m3 bd bw hV hc ht hg g1
          rcases hkc with hk1 | ⟨hk1, hk2⟩
          · go_wp2
            go_region
            all_goals (
              rw [← HV.out]
              clear q0 q1 d1 r0 r1 y0 y1
              have d2 := D2.out
              have r2 := R2.out
              have y2 := Y2.out
              have n3 := N3.out
              have m3 := M3.out
              have d6 := D6.out
              have e6 := E6.out
              go_wp2
              go_region
              all_goals go_wp2
              all_goals (
                go_ret
                have EV := HV.out
                subst EV
                obtain ⟨D, K⟩ := rput_end HF.out HUR.out UCS.out (wrap64 (S.wr + 1)) (pg.kind : Int) rfl rfl
                refine ⟨by rw [E1.out]; rfl, ?_, ((KT.out.trans K (fun x hx => .inl hx)).drew).drew⟩
                rw [E2.out]
                exact D.same (fun _ _ => rfl)))
          · rw [hk1] at HV
            go_wp2
            go_region
            all_goals (
              rw [← HV.out]
              clear q0 q1 d1 r0 r1 y0 y1
              have d2 := D2.out
              have r2 := R2.out
              have y2 := Y2.out
              have n3 := N3.out
              have m3 := M3.out
              have d6 := D6.out
              have e6 := E6.out
              go_wp2
              go_region
              all_goals go_wp2
              all_goals (
                go_ret
                have EV := HV.out
                subst EV
                obtain ⟨D, K⟩ := rput_end HF.out HUR.out UCS.out (wrap64 (S.wr + 1)) 1 hk1.symm rfl
                refine ⟨by rw [E1.out]; rfl, ?_, ((KT.out.trans K (fun x hx => .inl hx)).drew).drew⟩
                rw [E2.out]
                exact D.same (fun _ _ => rfl)))

theorem rbig_any (r : Nat) (L : RLoc) (S : Dv) (at0 : Int) (b : ByteArray) (hb : 384 < b.size) (w : World) (h : RfIn w r L S) :
    Calls Try.prog 59 #[.pointer (some ⟨r, 0, none⟩), .int .i64 at0, .agg #[.int .i64 1, .string b]] w fun e w' => e = .returned (.int .i64 1) ∧ RfIn w' r L S ∧ Keep (rfoot r L) w w' := by
  have c1 := h.dev.cell (i := 1) rfl
  have hrw := h.dev.lt
  have HA := hide (h.same (w' := w.alloc (.cells #[.int .i64 1, .string b] 101)) (fun k hk => blk_alloc_lt _ _ _ (h.lt k hk)))
  have hb2 : (384 : Int) < (b.size : Int) := by omega
  clear h hb
  by_cases h0 : at0 < 0
  · go_enter Try.func59, Try.ntmps59
    go_wp2
    go_ret
    exact ⟨rfl, HA.out, (Keep.refl _ _).alloc _⟩
  · by_cases h1 : (S.cs.length : Int) ≤ at0
    · go_enter Try.func59, Try.ntmps59
      go_wp2
      go_ret
      exact ⟨rfl, HA.out, (Keep.refl _ _).alloc _⟩
    · go_enter Try.func59, Try.ntmps59
      go_wp2
      go_ret
      exact ⟨rfl, HA.out, (Keep.refl _ _).alloc _⟩

set_option maxHeartbeats 400000 in
theorem rwrite_at (r : Nat) (G : List Nat) (S : Dv) (at0 : Int) (b : ByteArray) (w : World) (h : RfAt w r G S) :
    Calls Try.prog 36 #[.pointer (some ⟨r, 0, none⟩), .int .i64 at0, .string b] w fun e w' => e = .returned (.int .i64 (S.writeErr at0 b)) ∧ RfAt w' r G (S.writeDo at0 b) ∧ Keep G w w' := by
  obtain ⟨L, rfl, h⟩ := h
  by_cases hbig : 384 < b.size
  · have cp := hide (rbig_any r L S at0 b hbig w h)
    have E1 : Hid (S.writeErr at0 b = 1) := by simp [Hid, Dv.writeErr, hbig]
    have E2 : Hid (S.writeDo at0 b = S) := by simp [Hid, Dv.writeDo, hbig]
    clear h hbig
    go_enter Try.func36, Try.ntmps36
    go_wp2_with (go_at_call 59; refine cp.out.mono ?_; rintro e w' ⟨rfl, h1, k1⟩)
    go_ret
    exact ⟨by rw [E1.out]; rfl, ⟨L, rfl, by rw [E2.out]; exact h1⟩, k1⟩
  · have cp := hide (rput_any r L S at0 (.whole b) (by show b.size ≤ 384; omega) (fun h => by cases h) w h)
    have E1 : Hid (S.writeErr at0 b = S.putErr at0) := by simp [Hid, Dv.writeErr, hbig]
    have E2 : Hid (S.writeDo at0 b = S.putDo at0 (.whole b)) := by simp [Hid, Dv.writeDo, hbig]
    clear h hbig
    go_enter Try.func36, Try.ntmps36
    go_wp2_with (go_at_call 59; refine cp.out.mono ?_; rintro e w' ⟨rfl, h1, k1⟩)
    go_ret
    exact ⟨by rw [E1.out]; rfl, ⟨L, rfl, by rw [E2.out]; exact h1⟩, k1⟩

set_option maxHeartbeats 400000 in
theorem rerase_at (r : Nat) (G : List Nat) (S : Dv) (at0 : Int) (w : World) (h : RfAt w r G S) :
    Calls Try.prog 37 #[.pointer (some ⟨r, 0, none⟩), .int .i64 at0] w fun e w' => e = .returned (.int .i64 (S.putErr at0)) ∧ RfAt w' r G (S.putDo at0 .blank) ∧ Keep G w w' := by
  obtain ⟨L, rfl, h⟩ := h
  have cp := hide (rput_any r L S at0 .blank (Nat.zero_le _) (fun h => by cases h) w h)
  clear h
  go_enter Try.func37, Try.ntmps37
  go_wp2_with (go_at_call 59; refine cp.out.mono ?_; rintro e w' ⟨rfl, h1, k1⟩)
  go_ret
  exact ⟨rfl, ⟨L, rfl, h1⟩, k1⟩
end Go.Proofs.Ytanbbmlekebhhaa

/- The document's own device: Flush, On, Read, NewDev. -/
set_option linter.unusedVariables false
set_option linter.unusedSimpArgs false
set_option maxRecDepth 30000
namespace Go.Proofs.Ytanbbmlekebhhaa
open Go.RowKit Go.Deep

theorem info79 : (Try.prog.info? 101).map (fun i => (i.zero, i.size, i.bytes)) = some (some (.agg #[.int .i64 0, .string ⟨#[]⟩]), 2, 24) := by kernel_rfl
theorem info4 : (Try.prog.info? 4).map (fun i => (i.zero, i.size, i.bytes)) = some (some (.bool false), 1, 1) := by kernel_rfl

theorem makeBools (n : Nat) (hn : n ≤ 4096) (W : World) : (Instr.makeSlice 76 (.int .i64 n) (.int .i64 n)).run Try.prog W = .ok (.slice (some ⟨W.heap.size, 0, none⟩) n n) (W.alloc (.cells (List.replicate n (Value.bool false)).toArray 4)) := by
  have h := run_make_row' (P := Try.prog) 76 4 (.bool false) 1 Try.underlying76 info4 rfl .i64 .i64 n (by omega) (by omega) W
  have e : madeCells #[Value.bool false] n = (List.replicate n (Value.bool false)).toArray := by
    apply Array.ext'
    rw [toList_madeCells_one]
  rw [e] at h
  exact h

theorem rRow_fresh : ∀ n : Nat, rRow (List.replicate n Pg.blank) = (List.replicate n ()).flatMap (fun _ => [Value.int .i64 0, Value.string ⟨#[]⟩])
  | 0 => rfl
  | n + 1 => by
    rw [List.replicate_succ, rRow_cons, rRow_fresh n, List.replicate_succ]
    rfl
theorem makeRef (n : Nat) (hn : n ≤ 4096) (W : World) : (Instr.makeSlice 75 (.int .i64 n) (.int .i64 n)).run Try.prog W = .ok (.slice (some ⟨W.heap.size, 0, none⟩) n n) (W.alloc (.cells (rRow (List.replicate n Pg.blank)).toArray 101)) := by
  obtain ⟨i0, hi0, hp0⟩ := Option.map_eq_some_iff.1 info79
  simp only [Prod.mk.injEq] at hp0
  obtain ⟨hz0, hz1, hz2⟩ := hp0
  have h := run_make (P := Try.prog) W 75 101 i0 _ Try.underlying75 hi0 hz0 .i64 .i64 (n : Int) (n : Int) (by omega) (by omega) (by rw [hz2]; omega) (by omega)
  rw [h]
  simp only [Int.toNat_natCast, hz1]
  congr 3
  apply Array.ext'
  rw [rRow_fresh]
  exact made_two _ _ n

theorem rRow_one (l : List Pg) : ∀ v ∈ rRow l, v.oneCell' = true := by
  intro v hv
  obtain ⟨x, _, hx⟩ := List.mem_flatMap.1 hv
  simp only [rpg, List.mem_cons, List.not_mem_nil, or_false] at hx
  rcases hx with rfl | rfl <;> rfl

theorem nows_flush (cs : List Cl) : nows (cs.map Cl.flush) = nows cs := by simp [nows, Cl.flush]
theorem lasts_flush (cs : List Cl) : lasts (cs.map Cl.flush) = nows cs := by simp [nows, lasts, Cl.flush]
theorem wRow_flush (cs : List Cl) : wRow (cs.map Cl.flush) = List.replicate cs.length (.bool false) := by
  induction cs with
  | nil => rfl
  | cons c r ih => simp only [wRow, List.map_cons, List.length_cons, List.replicate_succ] at *; rw [ih]; rfl
theorem lasts_length (A : List Cl) : (lasts A).length = A.length := by simp [lasts]
theorem nows_settle0 : ∀ cs : List Cl, nows (settle cs []) = lasts cs
  | [] => rfl
  | c :: r => by
    have ih := nows_settle0 r
    cases h : c.last with
    | none => simp only [settle, h, nows, lasts, List.map_cons] at *; rw [ih]; simp [h]
    | some l => simp only [settle, h, nows, lasts, List.map_cons, List.tail_nil] at *; rw [ih]; simp [h, pick]
theorem lasts_settle : ∀ (cs : List Cl) (ps : List UInt8), lasts (settle cs ps) = nows (settle cs ps)
  | [], _ => rfl
  | c :: r, ps => by
    cases h : c.last with
    | none =>
      have ih := lasts_settle r ps
      simp only [settle, h, nows, lasts, List.map_cons] at *; rw [ih]; rfl
    | some l =>
      have ih := lasts_settle r ps.tail
      simp only [settle, h, nows, lasts, List.map_cons] at *; rw [ih]; rfl
theorem wRow_settle : ∀ (cs : List Cl) (ps : List UInt8), wRow (settle cs ps) = List.replicate cs.length (.bool false)
  | [], _ => rfl
  | c :: r, ps => by
    cases h : c.last with
    | none =>
      have ih := wRow_settle r ps
      simp only [settle, h, wRow, List.map_cons, List.length_cons, List.replicate_succ] at *; rw [ih]; rfl
    | some l =>
      have ih := wRow_settle r ps.tail
      simp only [settle, h, wRow, List.map_cons, List.length_cons, List.replicate_succ] at *; rw [ih]; rfl

/-- One row is copied over the other. -/
theorem copyRow {w : World} {x y n cx cy : Nat} {a b : List Pg} {px py : List Value} (hx : Blk w x (rRow a ++ px) 101) (hy : Blk w y (rRow b ++ py) 101) (ha : a.length = n) (hb : b.length = n) (ty : TypeId) :
    (Builtin.copy_ #[75, 75] ty #[.slice (some ⟨x, 0, none⟩) n cx, .slice (some ⟨y, 0, none⟩) n cy]).run Try.prog w = .ok (goInt n) (w.setCells x 0 (rRow b)) := by
  obtain ⟨i0, hi0, hp0⟩ := Option.map_eq_some_iff.1 info79
  simp only [Prod.mk.injEq] at hp0
  have hsz : (Try.prog.info? 101).map (·.size) = some 2 := by rw [hi0]; simp [hp0.2.1]
  have hmn : Nat.min n n = n := Nat.min_self n
  have h := run_copy_cellsK w 75 75 ty 101 x 0 n cx ⟨y, 0, none⟩ n cy 2 (rRow b) Try.underlying75 hsz (by decide) (by rw [rRow_length, hb, hmn])
    (fun j v hj => by rw [Addr.add_lit, Nat.zero_add]; exact hy.cell (by rw [List.getElem?_append_left (List.getElem?_eq_some_iff.1 hj).1]; exact hj))
    (fun j hj => by
      have : 0 + j < (rRow a ++ px).length := by rw [rRow_length] at hj; rw [List.length_append, rRow_length]; omega
      rw [hx.cell (List.getElem?_eq_getElem this)]; rfl)
    (fun j hj => hx.frozen _) (rRow_one b)
  rw [hmn] at h
  exact h

/-- Behind such a copy, a new row of marks, and stores into its own block. -/
theorem copied {w w1 W : World} {x : Nat} {a b : List Pg} {px : List Value} (hx : Blk w x (rRow a ++ px) 101) (hl : a.length = b.length) : Blk (w.setCells x 0 (rRow b)) x (rRow b ++ px) 101 := by
  have h := Blk.sets (rRow b) [] (rRow a) px w (by rw [rRow_length, rRow_length, hl]) (by simpa using hx)
  simpa using h

/-- Behind a copy of a row, with new marks. -/
theorem ref_end {w1 Wf : World} {r : Nat} {L : RLoc} {S1 S' : Dv} (h1 : RfIn w1 r L S1) (hN : Blk Wf w1.heap.size (wRow S'.cs) 4) (hd : Blk Wf r (rCells { L with waits := w1.heap.size, pw := [] } S') 79)
    (hl : Blk Wf L.last (rRow (lasts S'.cs) ++ L.pl) 101) (hn : Blk Wf L.now (rRow (nows S'.cs) ++ L.pn) 101) (hg : S'.good) (hk : Keep (rfoot r L) w1 Wf) :
    RfIn Wf r { L with waits := w1.heap.size, pw := [] } S' ∧ Moves (rfoot r L) (rfoot r { L with waits := w1.heap.size, pw := [] }) w1 Wf := by
  obtain ⟨n1, n2, n3, n4, n5, n6⟩ := h1.ne
  have l1 := h1.dev.lt
  have l2 := h1.last.lt
  have l3 := h1.now.lt
  refine ⟨⟨hd, hl, hn, by rw [List.append_nil]; exact hN, ?_, hg⟩, hk, fun k hk' => ?_⟩
  · simp only [List.nodup_cons, List.mem_cons, List.not_mem_nil, or_false, not_or, not_false_eq_true, List.nodup_nil, and_true]
    exact ⟨⟨n1, n2, by omega⟩, ⟨n4, by omega⟩, by omega⟩
  · simp only [rfoot, List.mem_cons, List.not_mem_nil, or_false] at hk'
    rcases hk' with rfl | rfl | rfl | rfl
    · exact .inl (by simp [rfoot])
    · exact .inl (by simp [rfoot])
    · exact .inl (by simp [rfoot])
    · exact .inr (Nat.le_refl _)

set_option maxHeartbeats 1000000 in
theorem rflush_at (r : Nat) (G : List Nat) (S : Dv) (w : World) (h : RfAt w r G S) :
    Calls Try.prog 39 #[.pointer (some ⟨r, 0, none⟩)] w fun e w' => e = .returned (.int .i64 S.flushErr) ∧ ∃ G', RfAt w' r G' S.flushDo ∧ Moves G G' w w' := by
  obtain ⟨L, rfl, h⟩ := h
  have cg := hide (rgone_any r L S w h)
  have HG := hide h.good
  clear h
  cases hg : S.gone with
  | true =>
    rw [hg] at cg
    have E1 : Hid (S.flushErr = 4) := by simp [Hid, Dv.flushErr, hg]
    have E2 : Hid (S.flushDo = S.used) := by simp [Hid, Dv.flushDo, hg]
    clear hg
    go_enter Try.func39, Try.ntmps39
    go_wp2_with (go_at_call 61; refine cg.out.mono ?_; rintro e w' ⟨rfl, h1, k1⟩)
    go_ret
    exact ⟨by rw [E1.out]; rfl, rfoot r L, ⟨L, rfl, by rw [E2.out]; exact h1⟩, Moves.of_keep k1.to_rfoot⟩
  | false =>
    rw [hg] at cg
    have E1 : Hid (S.flushErr = 0) := by simp [Hid, Dv.flushErr, hg]
    have E2 : Hid (S.flushDo = { S.used with cs := S.cs.map Cl.flush, fl := wrap64 (S.fl + 1) }) := by simp [Hid, Dv.flushDo, hg]
    have hfl : S.used.fl = S.fl := by unfold Dv.used; split <;> (try split) <;> rfl
    have HFL := hide hfl
    obtain ⟨n, hn⟩ : ∃ n, n = S.cs.length := ⟨_, rfl⟩
    have HN := hide hn
    have hnl : n ≤ 4096 := by rw [hn]; exact HG.out.many
    clear hg hfl hn
    go_enter Try.func39, Try.ntmps39
    go_wp2_with fail
    refine cg.out.mono ?_
    rintro e w1 ⟨rfl, h1, k1⟩
    obtain ⟨n1, n2, n3, n4, n5, n6⟩ := h1.ne
    have d0 := h1.dev.cell (i := 0) rfl
    have d1 := h1.dev.cell (i := 1) rfl
    have d2 := h1.dev.cell (i := 2) rfl
    have d7 := h1.dev.cell (i := 7) rfl
    have e2 := h1.dev.frozen 2
    have e7 := h1.dev.frozen 7
    rw [S.used_cs, ← HN.out] at d0 d1 d2
    rw [HFL.out] at d7
    have hla : (lasts S.used.cs).length = n := by rw [lasts_length, S.used_cs, HN.out]
    have hna : (nows S.used.cs).length = n := by rw [nows_length, S.used_cs, HN.out]
    obtain ⟨W1, hW1⟩ : ∃ W1, W1 = w1.drew.setCells L.last 0 (rRow (nows S.used.cs)) := ⟨_, rfl⟩
    have hcp : ∀ ty cx cy, (Builtin.copy_ #[75, 75] ty #[.slice (some ⟨L.last, 0, none⟩) n cx, .slice (some ⟨L.now, 0, none⟩) n cy]).run Try.prog w1.drew = .ok (goInt n) W1 := fun ty cx cy => by
      rw [hW1]; exact copyRow (w := w1.drew) h1.last h1.now hla hna ty
    have keepW : ∀ k, k ≠ L.last → W1.heap[k]? = w1.heap[k]? := fun k hk => by rw [hW1]; exact heap_setCells_other _ _ _ _ _ hk
    have hWs : W1.heap.size = w1.heap.size := by rw [hW1]; exact size_setCells _ _ _ _
    have b1 := h1.dev.same (keepW r n1)
    have dd1 := b1.cell (i := 1) rfl
    have dd2 := b1.cell (i := 2) rfl
    have dd7 := b1.cell (i := 7) rfl
    have ee2 := b1.frozen 2
    have ee7 := b1.frozen 7
    rw [S.used_cs, ← HN.out] at dd1 dd2
    rw [HFL.out] at dd7
    have hrW : r < W1.heap.size := b1.lt
    have hmk := makeBools n hnl
    generalize hZ : (List.replicate n (Value.bool false)).toArray = Z at hmk
    have HZ := hide hZ
    have HCP := hide hcp
    have H1 := hide h1
    have K1 := hide k1
    have HW1 := hide hW1
    have KW := hide keepW
    have HWS := hide hWs
    clear hZ hcp h1 k1 hW1 keepW hWs b1 hla hna
    go_wp2
    go_region_law (refine step_copy_runI rfl _ _ 75 75 rfl (.slice (some ⟨L.last, 0, none⟩) n (n + L.pl.length / 2)) (.slice (some ⟨L.now, 0, none⟩) n (n + L.pn.length / 2)) (by simp [Act.eval, Act.put]) (by simp [Act.eval, Act.put]) (HCP.out _ _ _) ?_)
    all_goals go_wp2
    all_goals go_region
    all_goals go_wp2
    all_goals (
      go_ret
      obtain ⟨n1, n2, n3, n4, n5, n6⟩ := H1.out.ne
      have hcs := S.used_cs
      have E2' := E2.out
      obtain ⟨Wf, hWf⟩ : ∃ Wf, Wf = (((W1.setCell ⟨r, 2, none⟩ (.slice (some ⟨W1.heap.size, 0, none⟩) n n)).setCell ⟨r, 7, none⟩ (.int .i64 (wrap64 (S.fl + 1)))).alloc (.cells Z 4)).drew := ⟨_, rfl⟩
      rw [← hWf]
      have KW1 : Keep (rfoot r L) w1 W1 := by rw [HW1.out]; exact ((Keep.refl _ _).drew).setCells (.inl (by simp [rfoot])) _ _
      have KWf : Keep (rfoot r L) w1 Wf := by
        rw [hWf]; exact (((KW1.setCell (.inl (by simp [rfoot])) _).setCell (.inl (by simp [rfoot])) _).alloc _).drew
      have hcl : (S.cs.map Cl.flush).length = n := by rw [List.length_map, HN.out]
      have R := ref_end (S' := S.flushDo) (Wf := Wf) H1.out ?_ ?_ ?_ ?_ (Dv.flushDo_good HG.out) KWf
      · exact ⟨by rw [E1.out]; rfl, _, ⟨_, rfl, R.1⟩, (Moves.of_keep K1.out.to_rfoot).trans R.2⟩
      · rw [E2']
        show Blk Wf w1.heap.size (wRow (S.cs.map Cl.flush)) 4
        rw [wRow_flush, ← HN.out]
        unfold Blk
        rw [HZ.out, ← HWS.out, hWf]
        have := blk_alloc_new ((W1.setCell ⟨r, 2, none⟩ (.slice (some ⟨W1.heap.size, 0, none⟩) n n)).setCell ⟨r, 7, none⟩ (.int .i64 (wrap64 (S.fl + 1)))) (.cells Z 4)
        rw [nblk_setCell, nblk_setCell] at this
        exact this
      · have b := (((H1.out.dev.same (KW.out r n1)).set 2 (.slice (some ⟨W1.heap.size, 0, none⟩) n n)).set 7 (.int .i64 (wrap64 (S.fl + 1)))).alloc (.cells Z 4)
        rw [E2']
        have e : rCells { L with waits := w1.heap.size, pw := [] } { S.used with cs := S.cs.map Cl.flush, fl := wrap64 (S.fl + 1) } = ((rCells L S.used).set 2 (.slice (some ⟨W1.heap.size, 0, none⟩) n n)).set 7 (.int .i64 (wrap64 (S.fl + 1))) := by
          simp only [rCells, hcl, hcs, ← HN.out, HWS.out]; rfl
        rw [e, hWf]
        exact b
      · rw [E2']
        show Blk Wf L.last (rRow (lasts (S.cs.map Cl.flush)) ++ L.pl) 101
        rw [lasts_flush, ← hcs]
        have b := copied (w := w1.drew) (w1 := w1) (W := w1) (b := nows S.used.cs) H1.out.last (by rw [lasts_length, nows_length])
        rw [← HW1.out] at b
        rw [hWf]
        exact ((b.other (a := ⟨r, 2, none⟩) (Ne.symm n1) _).other (a := ⟨r, 7, none⟩) (Ne.symm n1) _).alloc _
      · rw [E2']
        show Blk Wf L.now (rRow (nows (S.cs.map Cl.flush)) ++ L.pn) 101
        rw [nows_flush, ← hcs]
        have b := H1.out.now.same (KW.out L.now (Ne.symm n4))
        rw [hWf]
        exact ((b.other (a := ⟨r, 2, none⟩) (Ne.symm n2) _).other (a := ⟨r, 7, none⟩) (Ne.symm n2) _).alloc _)

set_option maxHeartbeats 1000000 in
theorem ron_at (r : Nat) (G : List Nat) (S : Dv) (w : World) (h : RfAt w r G S) :
    Calls Try.prog 42 #[.pointer (some ⟨r, 0, none⟩)] w fun e w' => e = .returned (.tuple #[]) ∧ ∃ G', RfAt w' r G' S.on ∧ Moves G G' w w' := by
  obtain ⟨L, rfl, h1⟩ := h
  have HG := hide h1.good
  obtain ⟨n, hn⟩ : ∃ n, n = S.cs.length := ⟨_, rfl⟩
  have HN := hide hn
  have hnl : n ≤ 4096 := by rw [hn]; exact h1.good.many
  clear hn
  obtain ⟨n1, n2, n3, n4, n5, n6⟩ := h1.ne
  have d0 := h1.dev.cell (i := 0) rfl
  have d1 := h1.dev.cell (i := 1) rfl
  rw [← HN.out] at d0 d1
  have hla : (lasts S.cs).length = n := by rw [lasts_length, HN.out]
  have hna : (nows S.cs).length = n := by rw [nows_length, HN.out]
  obtain ⟨W1, hW1⟩ : ∃ W1, W1 = w.drew.setCells L.now 0 (rRow (lasts S.cs)) := ⟨_, rfl⟩
  have hcp : ∀ ty cx cy, (Builtin.copy_ #[75, 75] ty #[.slice (some ⟨L.now, 0, none⟩) n cx, .slice (some ⟨L.last, 0, none⟩) n cy]).run Try.prog w.drew = .ok (goInt n) W1 := fun ty cx cy => by
    rw [hW1]; exact copyRow (w := w.drew) h1.now h1.last hna hla ty
  have keepW : ∀ k, k ≠ L.now → W1.heap[k]? = w.heap[k]? := fun k hk => by rw [hW1]; exact heap_setCells_other _ _ _ _ _ hk
  have hWs : W1.heap.size = w.heap.size := by rw [hW1]; exact size_setCells _ _ _ _
  have b1 := h1.dev.same (keepW r n2)
  have dd1 := b1.cell (i := 1) rfl
  have dd2 := b1.cell (i := 2) rfl
  have dd3 := b1.cell (i := 3) rfl
  have dd4 := b1.cell (i := 4) rfl
  have dd5 := b1.cell (i := 5) rfl
  have ee2 := b1.frozen 2
  have ee3 := b1.frozen 3
  have ee4 := b1.frozen 4
  have ee5 := b1.frozen 5
  rw [← HN.out] at dd1 dd2
  have hrW : r < W1.heap.size := b1.lt
  have hmk := makeBools n hnl
  generalize hZ : (List.replicate n (Value.bool false)).toArray = Z at hmk
  have HZ := hide hZ
  have HCP := hide hcp
  have H1 := hide h1
  have HW1 := hide hW1
  have KW := hide keepW
  have HWS := hide hWs
  clear hZ hcp h1 hW1 keepW hWs b1 hla hna n1 n2 n3 n4 n5 n6
  go_enter Try.func42, Try.ntmps42
  go_wp2
  go_region_law (refine step_copy_runI rfl _ _ 75 75 rfl (.slice (some ⟨L.now, 0, none⟩) n (n + L.pn.length / 2)) (.slice (some ⟨L.last, 0, none⟩) n (n + L.pl.length / 2)) (by simp [Act.eval, Act.put]) (by simp [Act.eval, Act.put]) (HCP.out _ _ _) ?_)
  all_goals go_wp2
  all_goals (
    go_end0
    obtain ⟨n1, n2, n3, n4, n5, n6⟩ := H1.out.ne
    obtain ⟨Wf, hWf⟩ : ∃ Wf, Wf = ((((W1.setCell ⟨r, 2, none⟩ (.slice (some ⟨W1.heap.size, 0, none⟩) n n)).setCell ⟨r, 3, none⟩ (.bool false)).setCell ⟨r, 4, none⟩ (.int .i64 0)).setCell ⟨r, 5, none⟩ (.int .i64 (wrap64 (S.losses + 1)))).alloc (.cells Z 4) := ⟨_, rfl⟩
    rw [← hWf]
    have KW1 : Keep (rfoot r L) w W1 := by rw [HW1.out]; exact ((Keep.refl _ _).drew).setCells (.inl (by simp [rfoot])) _ _
    have KWf : Keep (rfoot r L) w Wf := by
      rw [hWf]; exact ((((KW1.setCell (.inl (by simp [rfoot])) _).setCell (.inl (by simp [rfoot])) _).setCell (.inl (by simp [rfoot])) _).setCell (.inl (by simp [rfoot])) _).alloc _
    have hcl : (settle S.cs []).length = n := by rw [settle_length, HN.out]
    have R := ref_end (S' := S.on) (Wf := Wf) H1.out ?_ ?_ ?_ ?_ (Dv.on_good HG.out) KWf
    · exact ⟨rfl, _, ⟨_, rfl, R.1⟩, R.2⟩
    · show Blk Wf w.heap.size (wRow (settle S.cs [])) 4
      rw [wRow_settle, ← HN.out]
      unfold Blk
      rw [HZ.out, ← HWS.out, hWf]
      have := blk_alloc_new ((((W1.setCell ⟨r, 2, none⟩ (.slice (some ⟨W1.heap.size, 0, none⟩) n n)).setCell ⟨r, 3, none⟩ (.bool false)).setCell ⟨r, 4, none⟩ (.int .i64 0)).setCell ⟨r, 5, none⟩ (.int .i64 (wrap64 (S.losses + 1)))) (.cells Z 4)
      rw [nblk_setCell, nblk_setCell, nblk_setCell, nblk_setCell] at this
      exact this
    · have b := (((((H1.out.dev.same (KW.out r n2)).set 2 (.slice (some ⟨W1.heap.size, 0, none⟩) n n)).set 3 (.bool false)).set 4 (.int .i64 0)).set 5 (.int .i64 (wrap64 (S.losses + 1)))).alloc (.cells Z 4)
      have e : rCells { L with waits := w.heap.size, pw := [] } S.on = ((((rCells L S).set 2 (.slice (some ⟨W1.heap.size, 0, none⟩) n n)).set 3 (.bool false)).set 4 (.int .i64 0)).set 5 (.int .i64 (wrap64 (S.losses + 1))) := by
        simp only [rCells, Dv.on, hcl, ← HN.out, HWS.out]; rfl
      rw [e, hWf]
      exact b
    · show Blk Wf L.last (rRow (lasts (settle S.cs [])) ++ L.pl) 101
      rw [lasts_settle, nows_settle0]
      have b := H1.out.last.same (KW.out L.last n4)
      rw [hWf]
      exact ((((b.other (a := ⟨r, 2, none⟩) (Ne.symm n1) _).other (a := ⟨r, 3, none⟩) (Ne.symm n1) _).other (a := ⟨r, 4, none⟩) (Ne.symm n1) _).other (a := ⟨r, 5, none⟩) (Ne.symm n1) _).alloc _
    · show Blk Wf L.now (rRow (nows (settle S.cs [])) ++ L.pn) 101
      rw [nows_settle0]
      have b := copied (w := w.drew) (w1 := w) (W := w) (b := lasts S.cs) H1.out.now (by rw [lasts_length, nows_length])
      rw [← HW1.out] at b
      rw [hWf]
      exact ((((b.other (a := ⟨r, 2, none⟩) (Ne.symm n2) _).other (a := ⟨r, 3, none⟩) (Ne.symm n2) _).other (a := ⟨r, 4, none⟩) (Ne.symm n2) _).other (a := ⟨r, 5, none⟩) (Ne.symm n2) _).alloc _)

set_option maxHeartbeats 1000000 in
theorem rread_at (r : Nat) (G : List Nat) (S : Dv) (at0 : Int) (w : World) (h : RfAt w r G S) :
    Calls Try.prog 46 #[.pointer (some ⟨r, 0, none⟩), .int .i64 at0] w fun e w' => e = .returned (.tuple #[.string (S.readText at0), .int .i64 (S.readErr at0)]) ∧ RfAt w' r G (S.readDo at0) ∧ Keep G w w' := by
  obtain ⟨L, rfl, h⟩ := h
  have c1 := h.dev.cell (i := 1) rfl
  cases hh : S.has at0 with
  | false =>
    have E1 : Hid (S.readErr at0 = 1) := by simp [Hid, Dv.readErr, hh]
    have E2 : Hid (S.readText at0 = ⟨#[]⟩) := by simp [Hid, Dv.readText, hh]
    have E3 : Hid (S.readDo at0 = S) := by simp [Hid, Dv.readDo, hh]
    have H := hide h
    by_cases h0 : at0 < 0
    · clear h hh
      go_enter Try.func46, Try.ntmps46
      go_wp2
      go_ret2
      exact ⟨by rw [E1.out, E2.out]; rfl, ⟨L, rfl, by rw [E3.out]; exact H.out⟩, Keep.refl _ _⟩
    · have h1 : (S.cs.length : Int) ≤ at0 := by simp [Dv.has] at hh; omega
      clear h hh
      go_enter Try.func46, Try.ntmps46
      go_wp2
      go_ret2
      exact ⟨by rw [E1.out, E2.out]; rfl, ⟨L, rfl, by rw [E3.out]; exact H.out⟩, Keep.refl _ _⟩
  | true =>
    obtain ⟨A, c, B, hcs, hat⟩ := Dv.has_part hh
    have h0 : ¬ at0 < 0 := by omega
    have h1 : ¬ (S.cs.length : Int) ≤ at0 := by rw [hcs, hat]; simp; omega
    have c3 := h.dev.cell (i := 3) rfl
    cases ho : S.off with
    | true =>
      rw [ho] at c3
      have E1 : Hid (S.readErr at0 = 4) := by simp [Hid, Dv.readErr, hh, ho]
      have E2 : Hid (S.readText at0 = ⟨#[]⟩) := by simp [Hid, Dv.readText, hh, ho]
      have E3 : Hid (S.readDo at0 = S) := by simp [Hid, Dv.readDo, hh, ho]
      have H := hide h
      clear h hh ho hcs hat
      go_enter Try.func46, Try.ntmps46
      go_wp2
      go_ret2
      exact ⟨by rw [E1.out, E2.out]; rfl, ⟨L, rfl, by rw [E3.out]; exact H.out⟩, Keep.refl _ _⟩
    | false =>
      rw [ho] at c3
      have hget : S.cs[at0.toNat]? = some c := by rw [hcs, hat]; simp
      have E1 : Hid (S.readErr at0 = c.now.err) := by simp [Hid, Dv.readErr, hh, ho, hget]
      have E2 : Hid (S.readText at0 = c.now.read) := by simp [Hid, Dv.readText, hh, ho, hget]
      have E3 : Hid (S.readDo at0 = { S with rd := wrap64 (S.rd + 1) }) := by simp [Hid, Dv.readDo, hh, ho]
      have hlt : (A.length : Int) < (S.cs.length : Int) := by rw [hcs]; simp; omega
      have c8 := h.dev.cell (i := 8) rfl
      have f8 := h.dev.frozen 8
      have rn := h.now
      rw [hcs, nows_part] at rn
      have r0 := rn.cell (i := (nows A).length * 2 + 0) (v := .int .i64 c.now.kind) (flat_getP rpg 2 (fun _ => rfl) (nows A) c.now (nows B) L.pn 0 (by decide))
      have r1 := rn.cell (i := (nows A).length * 2 + 1) (v := .string c.now.read) (flat_getP rpg 2 (fun _ => rfl) (nows A) c.now (nows B) L.pn 1 (by decide))
      rw [nows_length, Nat.add_zero] at r0
      rw [nows_length] at r1
      obtain ⟨n1, n2, n3, n4, n5, n6⟩ := h.ne
      have m2 := Ne.symm n2
      have K : Keep [r] w (w.setCell ⟨r, 8, none⟩ (.int .i64 (wrap64 (S.rd + 1)))) := (Keep.refl [r] w).setCell (.inl (by simp)) _
      have D : RfIn (w.setCell ⟨r, 8, none⟩ (.int .i64 (wrap64 (S.rd + 1)))) r L { S with rd := wrap64 (S.rd + 1) } := h.turn K (h.dev.set 8 _) rfl ⟨h.good.many, h.good.armed, h.good.fits⟩
      have HK := hide K
      have HD := hide D
      subst hat
      clear h hh ho hget hcs K D rn n1 n3 n4 n5 n6
      obtain ⟨now, last⟩ := c
      simp only at r0 r1 E1 E2
      cases now using Pg.elim3 with
      | blank =>
        simp only [Pg.kind, Pg.read] at r0 r1
        go_enter Try.func46, Try.ntmps46
        go_wp2
        go_region
        all_goals go_wp2
        all_goals (go_ret2; exact ⟨by rw [E1.out, E2.out]; rfl, ⟨L, rfl, by rw [E3.out]; exact HD.out.same (fun _ _ => rfl)⟩, HK.out.to_rfoot.drew⟩)
      | torn =>
        simp only [Pg.kind, Pg.read] at r0 r1
        go_enter Try.func46, Try.ntmps46
        go_wp2
        go_region
        all_goals go_wp2
        all_goals (go_ret2; exact ⟨by rw [E1.out, E2.out]; rfl, ⟨L, rfl, by rw [E3.out]; exact HD.out.same (fun _ _ => rfl)⟩, HK.out.to_rfoot.drew⟩)
      | whole b =>
        simp only [Pg.kind, Pg.read] at r0 r1
        have E2' : Hid (S.readText ↑A.length = full b) := E2.out
        clear E2
        generalize full b = fb at r1 E2'
        go_enter Try.func46, Try.ntmps46
        go_wp2
        go_region
        all_goals go_wp2
        all_goals (go_ret2; exact ⟨by rw [E1.out, E2'.out]; rfl, ⟨L, rfl, by rw [E3.out]; exact HD.out.same (fun _ _ => rfl)⟩, HK.out.to_rfoot.drew⟩)
end Go.Proofs.Ytanbbmlekebhhaa
