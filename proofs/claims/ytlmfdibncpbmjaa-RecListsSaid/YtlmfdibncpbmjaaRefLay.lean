/- 'Lay' of the reckoning side. -/
import Derived.Test.YtlmfdibncpbmjaaRefPut
import Derived.Test.YtlmfdibncpbmjaaRefTakeC
import Derived.Test.YtlmfdibncpbmjaaRow
import Derived.Deep.RegionHeld3
set_option linter.unusedVariables false
set_option linter.unusedSimpArgs false
namespace Go.Proofs.Ytlmfdibncpbmjaa
open Go.RowKit Go.Deep Math

theorem total_le : ∀ (l : List It), l.all It.good = true → total l ≤ 1306 * l.length
  | [], _ => by simp [total]
  | x :: r, h => by
    simp only [List.all_cons, Bool.and_eq_true] at h
    obtain ⟨q1, q2, q3, q4⟩ := x.good_iff.1 h.1
    have := total_le r h.2
    simp only [total, List.length_cons]
    unfold It.size
    omega
theorem encs_take_succ (xs : List It) (i : Nat) (x : It) (h : xs[i]? = some x) : encs (xs.take (i + 1)) = encs (xs.take i) ++ x.enc := by
  rw [List.take_add_one, h, encs_append]; simp [encs]
theorem make_len (n : Nat) (hn : n ≤ 1048576) (W : World) : (Instr.makeSlice 23 (.int .i64 n) (.int .i64 n)).run Try.prog W = .ok (.slice (some ⟨W.heap.size, 0, none⟩) n n) (W.alloc (.cells (zc n).toArray 5)) := by
  obtain ⟨i0, hi0, hp0⟩ := Option.map_eq_some_iff.1 info5
  simp only [Prod.mk.injEq] at hp0
  obtain ⟨hz0, hz1, hz2⟩ := hp0
  have h := run_make (P := Try.prog) W 23 5 i0 _ Try.underlying23 hi0 hz0 .i64 .i64 (n : Int) (n : Int) (by omega) (by omega) (by rw [hz2]; omega) (by omega)
  rw [h]
  simp only [Int.toNat_natCast]
  congr 3
  apply Array.ext'
  rw [hz1, Nat.mul_one, show (Value.int IntKind.u8 0).cells = #[Value.int IntKind.u8 0] from rfl, toList_madeCells_one]
  rfl
/-- What it answers. -/
def layS (xs : List It) (room : Int) : Value :=
  if 65536 < room then .tuple #[.string (txt []), .int .i64 1]
  else if xs.all It.good = false then .tuple #[.string (txt []), .int .i64 1]
  else if (total xs : Int) ≤ room then .tuple #[.string (txt (encs xs ++ List.replicate (room.toNat - total xs) 0)), .int .i64 0]
  else .tuple #[.string (txt []), .int .i64 7]
theorem refGood_it' (x : It) (w : World) : Calls Try.prog 16 #[.agg #[.string (txt x.key), .string (txt x.value), .int .u32 x.flags, .int .i64 x.exp, .int .u64 x.ver]] w fun r w' => r = .returned (.bool x.good) ∧ Below w.heap.size w w' := by
  rw [x.good_mayBe]; exact refGood_any (txt x.key) (txt x.value) x.flags x.exp x.ver w

set_option maxHeartbeats 1000000 in
theorem refLay_any (a : Option Addr) (n cap : Nat) (xs : List It) (room : Int) (hr0 : -9223372036854775808 ≤ room) (hr1 : room ≤ 9223372036854775807) (hn : n ≤ 30) (w : World) (h : RawAt w a n xs) :
    Calls Try.prog 23 #[.slice a n cap, .int .i64 room] w fun e w' => e = .returned (layS xs room) ∧ Below w.heap.size w w' := by
  have HR := hide h
  have HL : Hid (n = xs.length) := h.len
  clear h
  by_cases hbig : 65536 < room
  · have E : Hid (layS xs room = .tuple #[.string (txt []), .int .i64 1]) := by show _ = _; unfold layS; rw [if_pos hbig]
    have hb' : ((65536 : Int) < room) = True := eq_true hbig
    clear hbig
    go_enter Try.func23, Try.ntmps23
    go_wp2
    go_ret2
    exact ⟨by rw [E.out]; rfl, Below.refl _ _⟩
  have hb' : ((65536 : Int) < room) = False := eq_false hbig
  have HBIG := hide hbig
  clear hbig
  go_enter Try.func23, Try.ntmps23
  go_wp2_with fail
  go_loopg [6, 7] n (fun kx s6 s7 wr => ∃ (i : Nat) (s : ByteArray), s7 = .int .i64 i ∧ s6 = .string s ∧ i ≤ n ∧ n - i ≤ kx ∧ Hid (s = txt (encs (xs.take i)) ∧ (xs.take i).all It.good = true ∧ Below w.heap.size w wr))
  case atStart => exact ⟨0, _, rfl, rfl, Nat.zero_le _, by omega, rfl, rfl, Below.refl _ _⟩
  case round =>
    obtain ⟨i, s, rfl, rfl, hin, hg, I⟩ := hrel
    have hsz0 : s.size = total (xs.take i) := by rw [I.out.1, txt_size, encs_length]
    have hsz : s.size ≤ 39180 := by
      have h1 := total_le _ I.out.2.1
      rw [List.length_take] at h1
      omega
    by_cases hlt : i < n
    · have hlt2 : (i : Int) < (n : Int) := by omega
      obtain ⟨x, hx⟩ : ∃ x, xs[i]? = some x := ⟨_, List.getElem?_eq_getElem (by rw [← HL.out]; exact hlt)⟩
      obtain ⟨b, o, rfl, hb, hcl⟩ := HR.out.cell i x hx
      have hc' := hcl.below I.out.2.2 hb
      have x0 := hc'.c0
      have x1 := hc'.c1
      have x2 := hc'.c2
      have x3 := hc'.c3
      have x4 := hc'.c4
      have cg := hide (refGood_it' x)
      have AT := hide (all_take_succ xs i x hx)
      have AF := hide (all_false xs i x hx)
      have ET := hide (encs_take_succ xs i x hx)
      have FX := hide (HR.out.fits x (List.mem_of_getElem? hx))
      have HB := hide hb
      have HCL := hide hcl
      clear hc' hx hcl hb hsz0
      cases hgx : x.good with
      | false =>
        rw [hgx] at cg
        have E : Hid (layS xs room = .tuple #[.string (txt []), .int .i64 1]) := by show _ = _; unfold layS; rw [if_neg (by have := HBIG.out; omega), if_pos (AF.out hgx)]
        clear hgx
        go_wp2_with (go_at_call 16; refine (cg.out _).mono ?_; rintro r w2 ⟨rfl, h2⟩; have B2 := hide (I.out.2.2.trans (h2.mono I.out.2.2.size)); clear h2)
        go_ret2
        exact ⟨by rw [E.out]; rfl, B2.out⟩
      | true =>
        rw [hgx] at cg AT
        have cp := hide (refPut_any x FX.out hgx)
        have XS : (txt x.enc).size ≤ 1306 := by
          obtain ⟨q1, q2, q3, q4⟩ := x.good_iff.1 hgx
          rw [txt_size, x.enc_length]; unfold It.size; omega
        have ES : Hid (s ++ txt x.enc = txt (encs (xs.take (i + 1)))) := by show _ = _; rw [I.out.1, txt_append, ET.out]
        clear hgx
        generalize txt x.enc = ex at cp XS ES
        have hle : ((s.size : Int) ≤ 1048576) = True := eq_true (by omega)
        have hov : ¬ 9223372036854775807 < s.size + ex.size := by omega
        go_wp2_with fail
        refine (cg.out _).mono ?_
        rintro r w2 ⟨rfl, h2⟩
        have B2 := hide (I.out.2.2.trans (h2.mono I.out.2.2.size))
        clear h2 cg x0 x1 x2 x3 x4
        have hc' := HCL.out.below B2.out HB.out
        have x0 := hc'.c0
        have x1 := hc'.c1
        have x2 := hc'.c2
        have x3 := hc'.c3
        have x4 := hc'.c4
        clear hc'
        go_wp2_with (go_at_call 19; refine (cp.out _).mono ?_; rintro r w3 ⟨rfl, h3⟩; have B3 := hide (B2.out.trans (h3.mono B2.out.size)); clear h3)
        go_roundg (n - (i + 1))
        case measure => omega
        case rel => exact ⟨i + 1, _, rfl, rfl, by omega, by omega, ES.out, by rw [AT.out, I.out.2.1]; rfl, B3.out⟩
    · obtain rfl : i = n := by omega
      have hlt2 : ¬ (i : Int) < (i : Int) := by omega
      have hall : xs.all It.good = true := by have := I.out.2.1; rwa [HL.out, List.take_length] at this
      have hs : s = txt (encs xs) := by have := I.out.1; rwa [HL.out, List.take_length] at this
      have hss : s.size = total xs := by rw [hs, txt_size, encs_length]
      have hnf : ¬ xs.all It.good = false := by rw [hall]; simp
      by_cases hfit : (s.size : Int) ≤ room
      · obtain ⟨R, rfl⟩ : ∃ R : Nat, room = (R : Int) := ⟨room.toNat, by omega⟩
        have E : Hid (layS xs (R : Int) = .tuple #[.string (s ++ txt (List.replicate (R - s.size) 0)), .int .i64 0]) := by
          show _ = _
          unfold layS
          rw [if_neg (by have := HBIG.out; omega), if_neg hnf, if_pos (by omega), hs, txt_append, txt_size, encs_length]
          simp
        have hlt3 : ((R : Int) < (s.size : Int)) = False := eq_false (by omega)
        obtain ⟨q, hq⟩ : ∃ q : Nat, q = R - s.size := ⟨_, rfl⟩
        rw [← hq] at E
        have hqi : (R : Int) - (s.size : Int) = (q : Int) := by omega
        have hm := make_len q (by have := HBIG.out; omega) wr
        rw [← hqi] at hm
        obtain ⟨Z, hZ⟩ : ∃ Z, Z = (zc q).toArray := ⟨_, rfl⟩
        rw [← hZ] at hm
        have sC : (convert 23 9 (.slice (some ⟨wr.heap.size, 0, none⟩) q q)).run Try.prog (wr.alloc (.cells Z 5)) = .ok (.string (txt (List.replicate q 0))) (wr.alloc (.cells Z 5)) := by
          have hB : Buf (wr.alloc (.cells Z 5)) wr.heap.size (List.replicate q 0) 0 := by
            unfold Buf
            rw [show bCells (List.replicate q 0) = zc q by simp [bCells, zc], show zc 0 = [] from rfl, List.append_nil]
            unfold Blk
            rw [← hZ]
            exact blk_alloc_new _ _
          exact str_bs (buf_bs hB (by simp) (Nat.le_refl _)) (fun h => by cases h)
        have htz : (txt (List.replicate q 0)).size = q := by rw [txt_size, List.length_replicate]
        have hov : ¬ 9223372036854775807 < s.size + (txt (List.replicate q 0)).size := by have := HBIG.out; omega
        generalize txt (List.replicate q 0) = tz at sC hov E
        have B9 := hide (I.out.2.2.alloc I.out.2.2.size (.cells Z 5))
        clear hs hss hall hnf hsz0 hsz hq hqi hZ htz hfit I
        go_wp2
        go_ret2
        exact ⟨by rw [E.out]; rfl, B9.out⟩
      · have E : Hid (layS xs room = .tuple #[.string (txt []), .int .i64 7]) := by
          show _ = _
          unfold layS
          rw [if_neg (by have := HBIG.out; omega), if_neg hnf, if_neg (by omega)]
        have hlt3 : (room < (s.size : Int)) = True := eq_true (by omega)
        clear hs hss hall hnf hfit hsz0 hsz
        go_wp2
        go_ret2
        exact ⟨by rw [E.out]; rfl, I.out.2.2⟩
end Go.Proofs.Ytlmfdibncpbmjaa
