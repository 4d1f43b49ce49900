/-
  A page that is torn behind its marks hides those marks alone: proof of the law 'TombTorn'. No conditions.
-/
import Derived.WalkKit
import Derived.Below
import Derived.Test.YtghdkicijdfpcabCut6
namespace Go.Proofs.Ytghdkicijdfpcab.tombTorn
open Go.RowKit Go.Deep Math
set_option linter.unusedVariables false
set_option linter.unusedSimpArgs false

theorem settle_same : ∀ (A : List Cl) (ps : List UInt8), (∀ c ∈ A, c.last = none) → settle A ps = A := by
  intro A ps h
  have := settle_clean A [] ps h
  rw [List.append_nil] at this
  rw [this]
  show A ++ [] = A
  simp
theorem settle_torn : ∀ (A : List Cl) (q : Nat) (p : Pg), (∀ c ∈ A, c.last = none) → settle (putAt A q p) [2] = A.set q ⟨.torn, none⟩
  | [], q, p, _ => by simp [putAt, settle]
  | c :: r, 0, p, h => by
    have e : settle r [] = r := settle_same r [] (fun x hx => h x (by simp [hx]))
    show settle (c.put p :: r) [2] = _
    simp only [settle, Cl.put, List.tail_cons, List.headD_cons, List.set_cons_zero]
    rw [e]
    rfl
  | c :: r, q + 1, p, h => by
    have e := settle_torn r q p (fun x hx => h x (by simp [hx]))
    have hc := h c (by simp)
    show settle (c :: putAt r q p) [2] = _
    simp only [settle, hc, List.set_cons_succ]
    rw [e]
def pgW (xs : List Mk) : Pg := .whole (pgOf 5 xs)
/-- The device while marks are added. -/
structure Tn (S : Dv) (xss : List (List Mk)) : Prop where
  sure : Sure S
  losses : S.losses = 0
  clean : ∀ c ∈ S.cs, c.last = none
  pl : S.pl = .blank :: (xss.map pgW ++ List.replicate (9 - xss.length) .blank)
  le : xss.length ≤ 9
theorem Tn.len {S : Dv} {xss : List (List Mk)} (h : Tn S xss) : S.cs.length = 10 := by
  have := h.le
  rw [← pl_length, h.pl]; simp; omega
theorem Tn.add {S S' : Dv} {xss : List (List Mk)} (h : Tn S xss) (hu : xss.length < 9) {xs : List Mk} (a : Added S S' (1 + xss.length) (pgOf 5 xs)) : Tn S' (xss ++ [xs]) := by
  refine ⟨a.sure, a.losses.trans h.losses, a.clean, ?_, by simp; omega⟩
  rw [a.pl, h.pl, Nat.add_comm 1, List.set_cons_succ]
  have e : 9 - xss.length = (9 - (xss.length + 1)) + 1 := by omega
  rw [List.set_append_right _ _ (by simp), List.length_map, Nat.sub_self, e, List.replicate_succ, List.set_cons_zero]
  simp [pgW]
/-- What is there behind the torn write. -/
def tearD (S : Dv) (q : Nat) : Dv := (Dv.crash { S with cs := putAt S.cs q (.whole ⟨([] : List UInt8).toArray⟩), wr := wrap64 (S.wr + 1) } [2]).on
theorem tear_sure (S : Dv) (q : Nat) : Sure (tearD S q) := ⟨rfl, rfl⟩
theorem tear_pl {S : Dv} {xss : List (List Mk)} (h : Tn S xss) (q : Nat) : (tearD S q).pl = S.pl.set q .torn := by
  have e1 : (tearD S q).cs = S.cs.set q ⟨.torn, none⟩ := by
    show settle (settle (putAt S.cs q _) [2]) [] = _
    rw [settle_torn _ _ _ h.clean]
    apply settle_same
    intro c hc
    rcases List.mem_or_eq_of_mem_set hc with h1 | h1
    · exact h.clean c h1
    · rw [h1]
  unfold Dv.pl
  rw [e1, List.map_set]
theorem tear_len {S : Dv} {xss : List (List Mk)} (h : Tn S xss) (q : Nat) : (tearD S q).cs.length = 10 := by
  rw [← pl_length, tear_pl h, List.length_set, pl_length, h.len]
theorem tear_scan {S : Dv} {xss : List (List Mk)} (h : Tn S xss) (p : Nat) (hp : p < xss.length) (hx : ∀ xs ∈ xss, xs.length ≤ 23 ∧ ∀ x ∈ xs, Mk.fits x) : scanP 5 ((tearD S (1 + p)).pgs 1 9) = xss.set p [] := by
  have hle := h.le
  rw [pgs_pl, tear_pl h, h.pl, Nat.add_comm 1, List.set_cons_succ, List.drop_succ_cons, List.drop_zero]
  rw [List.set_append_left _ _ (by rw [List.length_map]; exact hp)]
  rw [List.take_of_length_le (by simp; omega)]
  rw [scan_append (g := 5) _ _ (xss.set p []), scan_blank, List.append_nil]
  rw [List.map_set, List.map_set, List.map_map]
  have e : List.map (Pg.tk 5 ∘ pgW) xss = xss.map some := by
    apply List.map_congr_left
    intro xs hxs
    exact tk_page 5 xs (by decide) (hx xs hxs).1 (hx xs hxs).2
  rw [e]
  rfl
theorem write_nil {w0 W : World} {d : Nat} {F : List Nat} {S : Dv} {xss : List (List Mk)} (h : Law w0 d F S W) (ht : Tn S xss) (q : Nat) (hq : q < 10) :
    Calls Try.prog 9 #[.pointer (some ⟨d, 0, none⟩), .int .i64 (q : Int), .slice none 0 0] W fun e W' => e = .returned (.int .i64 0) ∧ ∃ F', Law w0 d F' { S with cs := putAt S.cs q (.whole ⟨([] : List UInt8).toArray⟩), wr := wrap64 (S.wr + 1) } W' ∧ Moves F F' W W' := by
  obtain ⟨e1, e2⟩ := sure_write ht.sure q (by rw [ht.len]; exact hq) ⟨([] : List UInt8).toArray⟩ (by show ([] : List UInt8).toArray.size ≤ 384; simp)
  refine (write_at d F S (q : Int) none 0 0 0 [] rfl W (.inl rfl) (fun _ => rfl) (fun h => absurd rfl h) h.dev).mono ?_
  rintro e W' ⟨rfl, F', hd, m⟩
  rw [e1]
  rw [e2] at hd
  exact ⟨rfl, F', h.move hd m, m⟩
theorem crash_two {w0 W : World} {d : Nat} {F : List Nat} {S : Dv} (h : Law w0 d F S W) :
    Calls Try.prog 10 #[.pointer (some ⟨d, 0, none⟩), .slice (some ⟨W.heap.size, 0, none⟩) 1 1] (W.alloc (.cells #[.int .u8 2] 5)) fun e W' => e = .returned (.tuple #[]) ∧ ∃ F', Law w0 d F' (S.crash [2]) W' := by
  have hl := h.alloc (.cells #[.int .u8 2] 5)
  have hb := Blk.new W [.int .u8 2] 5
  refine (crash_at d F S (some ⟨W.heap.size, 0, none⟩) 1 1 W.heap.size [2] rfl (by omega) _ (.inr ⟨hb.lt, 0, rfl, fun j hj => ?_⟩) (fun _ => h.dev.new _ (Nat.le_refl _)) hl.dev).mono ?_
  · have : j = 0 := by simp at hj; exact hj
    subst this
    exact hb.cell (i := 0) rfl
  · rintro e W' ⟨rfl, F', hd, m⟩
    exact ⟨rfl, F', hl.move hd m⟩
/-- What is known ahead of an Add. -/
def TnAt (w : World) (d j : Nat) (xss : List (List Mk)) (c : Nat) (W : World) : Prop := ∃ F S m n J M, Law w d F S W ∧ Tn S xss ∧ JH w W d F j m n J ∧ J.is 0 1 9 xss.length 5 M ∧ n ≤ c
theorem tn_add {w W : World} {d j c : Nat} {xss : List (List Mk)} (h : TnAt w d j xss c W) (hu : xss.length < 9) (hc : c < 900000) {a : Option Addr} {len : Nat} (cap : Nat) {xs : List Mk} (hx : MksAt w a len xs) (h1 : 1 ≤ len) (h23 : len ≤ 23) :
    Calls Try.prog 8 #[.pointer (some ⟨j, 0, none⟩), .slice a len cap] W fun e W' => e = .returned (.int .i64 0) ∧ TnAt w d j (xss ++ [xs]) (c + 23) W' := by
  obtain ⟨F, S, m, n, J, M, g1, g2, g3, g4, g5⟩ := h
  have hmk : MkIn W j m F a len xs := ⟨hx.below g1.bel, fun b o e => by
      obtain ⟨x, hx'⟩ : ∃ x, xs[0]? = some x := ⟨_, List.getElem?_eq_getElem (by rw [← hx.len]; omega)⟩
      obtain ⟨b', o', e', hb', _⟩ := hx.cell 0 x hx'
      rw [e] at e'
      cases e'
      exact ⟨fun hf => by have := g1.low b hf; omega, by have := g3.lj; omega, by have := g3.lm; omega⟩⟩
  have g4' : J.is S.losses 1 9 xss.length 5 M := by rw [g2.losses]; exact g4
  refine (add_is g1 g2.sure g3 g4' hu (by rw [g2.len]; omega) (by decide) cap hmk h1 h23 (by omega)).mono ?_
  rintro e W' ⟨rfl, F', n', S', J', b1, b2, b3, b4, b5, _, _⟩
  rw [g2.losses] at b4
  exact ⟨rfl, F', S', m, n', J', _, b1, g2.add hu b2, b3, by rw [List.length_append]; exact b4, by omega⟩
/-- The marks of the first rows. -/
def rowsTo (z : List Rw) (i : Nat) : List (List Mk) := (z.take i).map (·.xs)
theorem rowsTo_length (z : List Rw) (i : Nat) (h : i ≤ z.length) : (rowsTo z i).length = i := by simp [rowsTo]; omega
theorem rowsTo_succ (z : List Rw) (i : Nat) (r : Rw) (h : z[i]? = some r) : rowsTo z (i + 1) = rowsTo z i ++ [r.xs] := by
  unfold rowsTo
  rw [List.take_add_one, h]
  simp
theorem rowsTo_get (z : List Rw) (i : Nat) (r : Rw) (h : z[i]? = some r) : (rowsTo z z.length)[i]? = some r.xs := by
  unfold rowsTo
  rw [List.take_length, List.getElem?_map, h]; rfl
theorem rowsTo_fits {w : World} {a : Option Addr} {len : Nat} {z : List Rw} (h : RowsAt w a len z) (h23 : ∀ (i : Nat) (r : Rw), z[i]? = some r → r.len ≤ 23) : ∀ xs ∈ rowsTo z z.length, xs.length ≤ 23 ∧ ∀ x ∈ xs, Mk.fits x := by
  intro xs hxs
  unfold rowsTo at hxs
  rw [List.take_length] at hxs
  obtain ⟨r, hr, rfl⟩ := List.mem_map.1 hxs
  obtain ⟨i, hi, rfl⟩ := List.getElem_of_mem hr
  have hr' := h.row i _ (List.getElem?_eq_getElem hi)
  have := h23 i _ (List.getElem?_eq_getElem hi)
  exact ⟨by rw [← hr'.len]; exact this, hr'.fits⟩
set_option maxRecDepth 8000 in
set_option maxHeartbeats 4000000 in
theorem walk (a0 : Option Addr) (len0 cap0 : Nat) (z0 : List Rw) (a1 : Int) (w : World) (hw0 : RowsAt w a0 len0 z0) (hw1 : (Lit.int .i64 a1).wf = true) :
    Calls Try.prog 3 #[.slice a0 len0 cap0, .int .i64 a1] w fun e w' => e = .returned (.bool true) ∧ Below w.heap.size w w' := by
  have ca := hide' (awake_any w)
  have q1 := wfi64 hw1
  have hlen := hw0.len
  have HW := hide' hw0
  clear hw0 hw1
  by_cases hbad : len0 < 1 ∨ 8 < len0 ∨ a1 < 0 ∨ (len0 : Int) ≤ a1
  · have HB := hide' hbad
    clear hbad hlen HW
    by_cases e1 : len0 < 1
    · have e1' : ((len0 : Int) < 1) = True := eq_true (by omega)
      clear HB e1 q1
      go_enter Try.func3, Try.ntmps3
      go_wp2_with fail
      refine ca.out.mono ?_
      rintro r w1 ⟨rfl, h1⟩
      have B1 := hide' h1
      clear h1 ca
      go_wp2
      go_ret
      exact ⟨rfl, B1.out⟩
    have e1' : ((len0 : Int) < 1) = False := eq_false (by omega)
    by_cases e2 : 8 < len0
    · have e2' : ((8 : Int) < (len0 : Int)) = True := eq_true (by omega)
      clear HB e1 e2 q1
      go_enter Try.func3, Try.ntmps3
      go_wp2_with fail
      refine ca.out.mono ?_
      rintro r w1 ⟨rfl, h1⟩
      have B1 := hide' h1
      clear h1 ca
      go_wp2
      go_ret
      exact ⟨rfl, B1.out⟩
    have e2' : ((8 : Int) < (len0 : Int)) = False := eq_false (by omega)
    by_cases e3 : a1 < 0
    · have e3' : (a1 < 0) = True := eq_true e3
      clear HB e1 e2 e3 q1
      go_enter Try.func3, Try.ntmps3
      go_wp2_with fail
      refine ca.out.mono ?_
      rintro r w1 ⟨rfl, h1⟩
      have B1 := hide' h1
      clear h1 ca
      go_wp2
      go_ret
      exact ⟨rfl, B1.out⟩
    have e3' : (a1 < 0) = False := eq_false e3
    have e4' : ((len0 : Int) ≤ a1) = True := eq_true (by have := HB.out; omega)
    clear HB e1 e2 e3 q1
    go_enter Try.func3, Try.ntmps3
    go_wp2_with fail
    refine ca.out.mono ?_
    rintro r w1 ⟨rfl, h1⟩
    have B1 := hide' h1
    clear h1 ca
    go_wp2
    go_ret
    exact ⟨rfl, B1.out⟩
  obtain ⟨p, rfl⟩ : ∃ p : Nat, a1 = (p : Int) := ⟨a1.toNat, by omega⟩
  have hp : p < len0 := by omega
  have hl8 : len0 ≤ 8 := by omega
  have e1' : ((len0 : Int) < 1) = False := eq_false (by omega)
  have e2' : ((8 : Int) < (len0 : Int)) = False := eq_false (by omega)
  have e3' : ((p : Int) < 0) = False := eq_false (by omega)
  have e4' : ((len0 : Int) ≤ (p : Int)) = False := eq_false (by omega)
  clear hbad q1
  have HP := hide' hp
  have HL := hide' hl8
  have HLEN := hide' hlen
  clear hp hl8 hlen
  go_enter Try.func3, Try.ntmps3
  go_wp2_with fail
  refine ca.out.mono ?_
  rintro r w1 ⟨rfl, h1⟩
  have B1 := hide' h1
  clear h1 ca
  have cN := hide' (new_law B1.out 10 (by omega) (by omega))
  go_wp2_with fail
  refine cN.out.mono ?_
  rintro e w2 ⟨d, F2, rfl, hl2, _⟩
  have L2 := hide' hl2
  clear hl2 cN e1' e2' e3' e4'
  have hsc : scanP 5 ((Dv.fresh 10).pgs 1 9) = [] := by rw [pgs_pl, fresh_pl]; exact scan_none _ _ rfl
  have cO := hide' (open_is L2.out (Sure.fresh 10) 1 9 5 (by omega) (by show 10 ≤ 10; omega) (by decide) [] hsc)
  clear hsc
  go_wp2_with fail
  refine cO.out.mono ?_
  rintro e w3 ⟨j, m, n, S3, J3, rfl, hl3, hlk, hj3, hi3, hn, _, _, _⟩
  have T3 : Hid (TnAt w d j (rowsTo z0 0) 207 w3) := by
    refine ⟨F2, S3, m, n, J3, _, hl3, ⟨(Sure.fresh 10).like hlk, by rw [hlk.losses]; rfl, fun c hc => ?_, ?_, by simp [rowsTo]⟩, hj3, hi3, by omega⟩
    · rw [hlk.cs] at hc
      rw [List.eq_of_mem_replicate hc]
    · rw [like_pl hlk, fresh_pl]; rfl
  clear hl3 hlk hj3 hi3 hn cO L2
  go_wp2_with fail
  go_loopg [9] len0 (fun kx s9 wr => ∃ i : Nat, s9 = .int .i64 i ∧ i ≤ len0 ∧ len0 - i ≤ kx ∧ Hid (TnAt w d j (rowsTo z0 i) (207 + 23 * i) wr ∧ ∀ (t : Nat) (r : Rw), t < i → z0[t]? = some r → r.len ≤ 23))
  case atStart => exact ⟨0, rfl, Nat.zero_le _, by omega, T3.out, fun t r ht => by omega⟩
  case round =>
    obtain ⟨i, rfl, hin, hg, I⟩ := hrel
    by_cases hlt : i < len0
    · have hlt2 : (i : Int) < (len0 : Int) := by omega
      have hl8n : len0 ≤ 8 := HL.out
      obtain ⟨l1, l2⟩ := I.out
      obtain ⟨r, hr⟩ : ∃ r, z0[i]? = some r := ⟨_, List.getElem?_eq_getElem (by rw [← HLEN.out]; exact hlt)⟩
      obtain ⟨b, o, ha0, hb, hc⟩ := HW.out.cell i r hr
      have hrow := HW.out.row i r hr
      subst ha0
      have CE : Hid (∀ W, Below w.heap.size w W → W.cell? ⟨b, o + i, none⟩ = some (.slice r.a r.len r.cap)) := fun W hW => (World.cell?_of_block (hW.block b hb)).trans hc
      have hbel : Below w.heap.size w wr := by obtain ⟨_, _, _, _, _, _, s1, _⟩ := l1; exact s1.bel
      have c1 := CE.out wr hbel
      have HR := hide' hrow
      have hxs := rowsTo_succ z0 i r hr
      have h23s : r.len ≤ 23 → ∀ (t : Nat) (r : Rw), t < i + 1 → z0[t]? = some r → r.len ≤ 23 := fun h t r' ht hr' => by
        by_cases e : t = i
        · subst e; rw [hr] at hr'; cases hr'; exact h
        · exact l2 t r' (by omega) hr'
      obtain ⟨ra, rl, rc, rx⟩ := r
      simp only at c1 CE HR hxs h23s
      clear hr hc hrow hb
      have B9 := hide' hbel
      by_cases h0 : rl < 1
      · have h0' : ((rl : Int) < 1) = True := eq_true (by omega)
        clear h0 l1 l2 hbel I hxs h23s
        go_wp2
        go_ret
        exact ⟨rfl, B9.out⟩
      have h0' : ((rl : Int) < 1) = False := eq_false (by omega)
      by_cases h23 : 23 < rl
      · have h23' : ((23 : Int) < (rl : Int)) = True := eq_true (by omega)
        clear h0 h23 l1 l2 hbel I hxs h23s
        go_wp2
        go_ret
        exact ⟨rfl, B9.out⟩
      have h23' : ((23 : Int) < (rl : Int)) = False := eq_false (by omega)
      have cA := hide' (tn_add l1 (by rw [rowsTo_length _ _ (by rw [← HLEN.out]; omega)]; have := HL.out; omega) (by have := HL.out; omega) rc HR.out (by omega) (by omega))
      rw [← hxs] at cA
      have Q := hide' (h23s (by omega))
      clear h0 h23 l1 l2 hbel I hxs h23s
      go_wp2_with fail
      refine cA.out.mono ?_
      rintro e w5 ⟨rfl, t1⟩
      have T1 := hide' t1
      clear t1 cA c1 h0' h23' CE HR
      go_wp2
      go_roundg (len0 - (i + 1))
      case measure => omega
      case rel => exact ⟨i + 1, by go_num, by omega, by omega, by have := T1.out; rw [show 207 + 23 * (i + 1) = 207 + 23 * i + 23 by omega]; exact this, Q.out⟩
    · obtain rfl : i = len0 := by omega
      have hlt2 : ¬ (i : Int) < (i : Int) := by omega
      obtain ⟨⟨F, S, m, n, J, M, l1, l2, l3, l4, l5⟩, l6⟩ := I.out
      have hpi := HP.out
      have hi8 := HL.out
      have hpp : p ≤ 8 := by omega
      have cW := hide' (write_nil l1 l2 (1 + p) (by omega))
      have TN := hide' l2
      have HZ : Hid (∀ (t : Nat) (r : Rw), z0[t]? = some r → r.len ≤ 23) := fun t r hr => l6 t r (by rw [HLEN.out]; exact (List.getElem?_eq_some_iff.1 hr).1) hr
      clear l1 l2 l3 l4 l5 l6 I T3 hg hlt
      go_wp2_with fail
      refine cW.out.mono ?_
      rintro e w5 ⟨rfl, F5, hl5, _⟩
      have cC := hide' (crash_two hl5)
      clear hl5 cW
      go_wp2_with fail
      refine cC.out.mono ?_
      rintro e w6 ⟨rfl, F6, hl6⟩
      have cOn := hide' (on_law hl6)
      clear hl6 cC
      go_wp2_with fail
      refine cOn.out.mono ?_
      rintro e w7 ⟨rfl, F7, hl7, _⟩
      have hl7' : Law w d F7 (tearD S (1 + p)) w7 := hl7
      have hzl : rowsTo z0 i = rowsTo z0 z0.length := by rw [← HLEN.out]
      have hfit := rowsTo_fits HW.out HZ.out
      have hll : (rowsTo z0 i).length = i := rowsTo_length _ _ (by rw [← HLEN.out]; omega)
      have hsc := tear_scan TN.out p (by rw [hll]; exact HP.out) (by rw [hzl]; exact hfit)
      have cO := hide' (open_is hl7' (tear_sure S _) 1 9 5 (by omega) (by rw [tear_len TN.out]; omega) (by decide) _ hsc)
      have HLL := hide' hll
      have HZL := hide' hzl
      clear hl7 hl7' hsc hfit hll hzl cOn
      go_wp2_with fail
      refine cO.out.mono ?_
      rintro e w8 ⟨ko, mo, no, S8, J8, rfl, hl8, _, hk8, hi8', _, _, _, _⟩
      have K8 := hide' hk8
      have HI8 := hide' hi8'
      have B8 := hide' hl8.bel
      have cR := hide' (room_is hk8 hi8' (by rw [List.length_set, HLL.out]; omega) (by omega))
      rw [List.length_set, HLL.out] at cR
      have hsub : ((9 - i : Nat) : Int) = 9 - (i : Int) := by omega
      rw [hsub] at cR
      clear hl8 hk8 hi8' cO hsub
      go_wp2_with fail
      refine cR.out.mono ?_
      rintro e w9 ⟨rfl, b9⟩
      have K9 := hide' (K8.out.below b9)
      have B9 := hide' (B8.out.trans (b9.mono B8.out.size))
      clear b9 cR K8 B8
      go_wp2_with fail
      go_loopg [12] i (fun kx s12 wr => ∃ t : Nat, s12 = .int .i64 t ∧ t ≤ i ∧ i - t ≤ kx ∧ Hid (JH w wr d F7 ko mo no J8 ∧ Below w.heap.size w wr))
      case atStart => exact ⟨0, rfl, Nat.zero_le _, by omega, K9.out, B9.out⟩
      case round =>
        obtain ⟨t, rfl, hti, hgt, K⟩ := hrel
        by_cases hlt : t < i
        · have hlt3 : (t : Int) < (i : Int) := by omega
          obtain ⟨r, hr⟩ : ∃ r, z0[t]? = some r := ⟨_, List.getElem?_eq_getElem (by rw [← HLEN.out]; exact hlt)⟩
          obtain ⟨b, o, ha0, hb, hc⟩ := HW.out.cell t r hr
          have hrow := HW.out.row t r hr
          have hr23 := HZ.out t r hr
          subst ha0
          have CE : Hid (∀ W, Below w.heap.size w W → W.cell? ⟨b, o + t, none⟩ = some (.slice r.a r.len r.cap)) := fun W hW => (World.cell?_of_block (hW.block b hb)).trans hc
          have HR := hide' hrow
          have HMEM : Hid (t ≠ p → ∀ x ∈ r.xs, x ∈ ((rowsTo z0 i).set p []).flatten) := fun hne x hx => by
            refine List.mem_flatten.2 ⟨r.xs, ?_, hx⟩
            have h1 : (rowsTo z0 i)[t]? = some r.xs := by rw [HZL.out]; exact rowsTo_get z0 t r hr
            apply List.mem_of_getElem? (i := t)
            rw [List.getElem?_set_ne (fun e => hne e.symm)]
            exact h1
          obtain ⟨ra, rl, rc, rx⟩ := r
          simp only at CE HR HMEM hr23
          clear hr hc hrow hb
          go_wp2_with fail
          go_loopg [13] rl (fun kx s13 wr2 => ∃ u : Nat, s13 = .int .i64 u ∧ u ≤ rl ∧ rl - u ≤ kx ∧ Hid (JH w wr2 d F7 ko mo no J8 ∧ Below w.heap.size w wr2))
          case atStart => exact ⟨0, rfl, Nat.zero_le _, by omega, K.out⟩
          case round =>
            obtain ⟨u, rfl, hur, hgu, K2⟩ := hrel
            have c1 := CE.out wr K2.out.2
            by_cases hlu : u < rl
            · have hlt4 : (u : Int) < (rl : Int) := by omega
              by_cases htp : t = p
              · have e5 : ((t : Int) == (p : Int)) = true := by rw [htp]; simp
                clear htp
                go_wp2
                go_roundg (i - (t + 1))
                case measure => omega
                case rel => exact ⟨t + 1, by go_num, by omega, by omega, K2.out⟩
              have e5 : ((t : Int) == (p : Int)) = false := by
                have : ¬ (t : Int) = (p : Int) := by omega
                simpa using this
              obtain ⟨x, hx⟩ : ∃ x, rx[u]? = some x := ⟨_, List.getElem?_eq_getElem (by rw [← HR.out.len]; exact hlu)⟩
              have hfx := HR.out.fits x (List.mem_of_getElem? hx)
              have hgo : J8.gone x.1 x.2 = true := gone_mem HI8.out (HMEM.out htp x (List.mem_of_getElem? hx))
              obtain ⟨b', o', e', hb', hc'⟩ := HR.out.cell u x hx
              have hc2 := hc'.below K2.out.2 hb'
              obtain ⟨kx, vx⟩ := x
              have y0 := hc2.c0
              have y1 := hc2.c1
              simp only at y0 y1 hgo hfx
              subst e'
              have cG : Hid (∀ W : World, W.heap = wr.heap → Calls Try.prog 13 #[.pointer (some ⟨ko, 0, none⟩), .int .u64 (kx : Int), .int .u64 (vx : Int)] W fun e W' => e = .returned (.bool true) ∧ W' = W) := fun W hW => by
                have hj : JH w W d F7 ko mo no J8 := ⟨K2.out.1.jr.same (by rw [hW]) (by rw [hW]), K2.out.1.nj, K2.out.1.nm, K2.out.1.lj, K2.out.1.lm⟩
                have := gone_l hj kx vx hfx.1
                rw [hgo] at this
                exact this
              clear hx hfx hgo hb' hc' hc2 htp
              go_wp2_with fail
              go_quiet (first | (go_at_call 13; refine Calls.quiet_of_same (cG.out _ ?_); rfl))
              go_wp2
              go_roundg (rl - (u + 1))
              case measure => omega
              case rel => exact ⟨u + 1, by go_num, by omega, by omega, ⟨K2.out.1.jr.same rfl rfl, K2.out.1.nj, K2.out.1.nm, K2.out.1.lj, K2.out.1.lm⟩, ⟨K2.out.2.os, K2.out.2.tape, K2.out.2.output, K2.out.2.size, K2.out.2.block⟩⟩
            · obtain rfl : u = rl := by omega
              have hlt4 : ¬ (u : Int) < (u : Int) := by omega
              go_wp2
              go_roundg (i - (t + 1))
              case measure => omega
              case rel => exact ⟨t + 1, by go_num, by omega, by omega, K2.out⟩
        · obtain rfl : t = i := by omega
          have hlt3 : ¬ (t : Int) < (t : Int) := by omega
          go_wp2
          go_ret
          exact ⟨rfl, K.out.2⟩
end Go.Proofs.Ytghdkicijdfpcab.tombTorn
