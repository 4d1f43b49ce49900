/- Items in a row; 'allGood', 'fit', 'Lay'. -/
import Derived.Test.YtbccnfbombgdmaaRPut
set_option linter.unusedVariables false
set_option linter.unusedSimpArgs false
namespace Go.Proofs.Ytbccnfbombgdmaa
open Go.RowKit Go.Deep Math

/-- An item in five cells of a row. -/
structure OneIt (w : World) (b o : Nat) (x : It) : Prop where
  c0 : w.cell? ⟨b, o, none⟩ = some (.string (txt x.key))
  c1 : w.cell? ⟨b, o + 1, none⟩ = some (.string (txt x.value))
  c2 : w.cell? ⟨b, o + 2, none⟩ = some (.int .u32 x.flags)
  c3 : w.cell? ⟨b, o + 3, none⟩ = some (.int .i64 x.exp)
  c4 : w.cell? ⟨b, o + 4, none⟩ = some (.int .u64 x.ver)
theorem OneIt.below {w w' : World} {b o : Nat} {x : It} {B : Nat} (h : OneIt w b o x) (k : Below B w w') (hb : b < B) : OneIt w' b o x :=
  ⟨(k.cell (p := ⟨b, o, none⟩) hb).trans h.c0, (k.cell (p := ⟨b, o + 1, none⟩) hb).trans h.c1, (k.cell (p := ⟨b, o + 2, none⟩) hb).trans h.c2, (k.cell (p := ⟨b, o + 3, none⟩) hb).trans h.c3, (k.cell (p := ⟨b, o + 4, none⟩) hb).trans h.c4⟩
/-- A slice of items. -/
structure ItsAt (w : World) (a : Option Addr) (len : Nat) (xs : List It) : Prop where
  len : len = xs.length
  fits : ∀ x ∈ xs, x.fits ∧ x.key.length ≤ 140737488351232 ∧ x.value.length ≤ 140737488351232
  cell : ∀ i x, xs[i]? = some x → ∃ b o, a = some ⟨b, o, none⟩ ∧ b < w.heap.size ∧ OneIt w b (o + i * 5) x
theorem ItsAt.below {w w' : World} {a : Option Addr} {len : Nat} {xs : List It} (h : ItsAt w a len xs) (k : Below w.heap.size w w') : ItsAt w' a len xs :=
  ⟨h.len, h.fits, fun i x hx => by
    obtain ⟨b, o, ha, hb, hc⟩ := h.cell i x hx
    exact ⟨b, o, ha, Nat.lt_of_lt_of_le hb k.size, hc.below k hb⟩⟩

def total : List It → Nat
  | [] => 0
  | x :: r => x.size + total r
theorem total_append : ∀ a b : List It, total (a ++ b) = total a + total b
  | [], _ => by simp [total]
  | x :: r, b => by simp [total, total_append r b]; omega
def encs : List It → List UInt8
  | [] => []
  | x :: r => x.enc ++ encs r
theorem encs_append : ∀ a b : List It, encs (a ++ b) = encs a ++ encs b
  | [], _ => rfl
  | x :: r, b => by simp [encs, encs_append r b]
theorem encs_length : ∀ xs, (encs xs).length = total xs
  | [] => rfl
  | x :: r => by simp [encs, total, x.enc_length, encs_length r]

theorem all_take_succ (xs : List It) (i : Nat) (x : It) (h : xs[i]? = some x) : (xs.take (i + 1)).all It.good = ((xs.take i).all It.good && x.good) := by
  rw [List.take_add_one, h]; simp
theorem all_false (xs : List It) (i : Nat) (x : It) (h : xs[i]? = some x) (hg : x.good = false) : xs.all It.good = false := by
  rw [List.all_eq_false]
  exact ⟨x, List.mem_of_getElem? h, by simp [hg]⟩
theorem total_take_succ (xs : List It) (i : Nat) (x : It) (h : xs[i]? = some x) : total (xs.take (i + 1)) = total (xs.take i) + x.size := by
  rw [List.take_add_one, h, total_append]; simp [total]
theorem total_take_le (xs : List It) (i : Nat) : total (xs.take i) ≤ total xs := by
  have := congrArg total (List.take_append_drop i xs)
  rw [total_append] at this
  omega

set_option maxHeartbeats 1000000 in
theorem allGood_any (a : Option Addr) (n cap : Nat) (xs : List It) (hn63 : n ≤ 9223372036854775807) (w : World) (h : ItsAt w a n xs) :
    Calls Try.prog 58 #[.slice a n cap] w fun e w' => e = .returned (.bool (xs.all It.good)) ∧ Below w.heap.size w w' := by
  have H := hide h
  clear h
  go_enter Try.func58, Try.ntmps58
  go_wp2
  go_loopg [7] n (fun kx s7 wr => ∃ i : Nat, s7 = .int .i64 i ∧ i ≤ n ∧ n - i ≤ kx ∧ Hid ((xs.take i).all It.good = true ∧ Below w.heap.size w wr))
  case atStart => exact ⟨0, rfl, Nat.zero_le _, by omega, by simp, Below.refl _ _⟩
  case round =>
    obtain ⟨i, rfl, hin, hg, I⟩ := hrel
    by_cases hlt : i < n
    · have hlt2 : (i : Int) < (n : Int) := by omega
      obtain ⟨x, hx⟩ : ∃ x, xs[i]? = some x := ⟨_, List.getElem?_eq_getElem (by rw [← H.out.len]; exact hlt)⟩
      obtain ⟨b, o, rfl, hb, hc⟩ := H.out.cell i x hx
      have hc' := hc.below I.out.2 hb
      have c0 := hc'.c0
      have c1 := hc'.c1
      have c2 := hc'.c2
      have c3 := hc'.c3
      have c4 := hc'.c4
      have hbw : b < wr.heap.size := Nat.lt_of_lt_of_le hb I.out.2.size
      have cg := hide (good_any (txt x.key) (txt x.value) x.flags x.exp x.ver)
      rw [← x.good_mayBe] at cg
      unfold itV at cg
      have AT := hide (all_take_succ xs i x hx)
      have AF := hide (all_false xs i x hx)
      clear hc hc' hx
      cases hgx : x.good with
      | true =>
        rw [hgx] at cg AT
        clear AF hgx
        go_wp2_with (go_at_call 30; refine (cg.out _).mono ?_; rintro r w1 ⟨rfl, b1⟩; have B1 := hide b1; clear b1)
        go_roundg (n - (i + 1))
        case measure => omega
        case rel => exact ⟨i + 1, rfl, by omega, by omega, by rw [AT.out, I.out.1]; rfl, (I.out.2.alloc I.out.2.size _).trans (B1.out.mono (by rw [nblk_alloc]; have := I.out.2.size; omega))⟩
      | false =>
        rw [hgx] at cg
        have AF' := hide (AF.out hgx)
        clear AT AF hgx
        go_wp2_with (go_at_call 30; refine (cg.out _).mono ?_; rintro r w1 ⟨rfl, b1⟩; have B1 := hide b1; clear b1)
        go_ret
        exact ⟨by rw [AF'.out]; rfl, (I.out.2.alloc I.out.2.size _).trans (B1.out.mono (by rw [nblk_alloc]; have := I.out.2.size; omega))⟩
    · obtain rfl : i = n := by omega
      have hlt2 : ¬ (i : Int) < (i : Int) := by omega
      go_wp2
      go_ret
      have := I.out.1
      rw [H.out.len, List.take_length] at this
      exact ⟨by rw [this]; rfl, I.out.2⟩

set_option maxHeartbeats 1000000 in
theorem fit_any (a : Option Addr) (n cap : Nat) (xs : List It) (room : Int) (hr0 : -9223372036854775808 ≤ room) (hr1 : room ≤ 65536) (hn63 : n ≤ 9223372036854775807) (w : World) (h : ItsAt w a n xs) :
    Calls Try.prog 59 #[.slice a n cap, .int .i64 room] w fun e w' => e = .returned (.bool (decide ((total xs : Int) ≤ room))) ∧ Below w.heap.size w w' := by
  have H := hide h
  clear h
  go_enter Try.func59, Try.ntmps59
  go_wp2
  go_loopg [1, 9] n (fun kx s1 s9 wr => ∃ (i : Nat) (rm : Int), s9 = .int .i64 i ∧ s1 = .int .i64 rm ∧ i ≤ n ∧ n - i ≤ kx ∧ -9223372036854775808 ≤ rm ∧ rm ≤ 65536 ∧ Hid (rm = room - (total (xs.take i) : Int) ∧ (0 < i → 0 ≤ rm) ∧ Below w.heap.size w wr))
  case atStart => exact ⟨0, room, rfl, rfl, Nat.zero_le _, by omega, hr0, hr1, by simp [total], fun h => absurd h (by omega), Below.refl _ _⟩
  case round =>
    obtain ⟨i, rm, rfl, rfl, hin, hg, hm0, hm1, I⟩ := hrel
    by_cases hlt : i < n
    · have hlt2 : (i : Int) < (n : Int) := by omega
      obtain ⟨x, hx⟩ : ∃ x, xs[i]? = some x := ⟨_, List.getElem?_eq_getElem (by rw [← H.out.len]; exact hlt)⟩
      obtain ⟨b, o, rfl, hb, hc⟩ := H.out.cell i x hx
      have hc' := hc.below I.out.2.2 hb
      have c0 := hc'.c0
      have c1 := hc'.c1
      have c2 := hc'.c2
      have c3 := hc'.c3
      have c4 := hc'.c4
      have hbw : b < wr.heap.size := Nat.lt_of_lt_of_le hb I.out.2.2.size
      have hf := H.out.fits x (List.mem_of_getElem? hx)
      have cs := hide (size_any (txt x.key) (txt x.value) x.flags x.exp x.ver (by rw [txt_size]; exact hf.2.1) (by rw [txt_size]; exact hf.2.2))
      have es : 32 + (txt x.key).size + (txt x.value).size = x.size := by rw [txt_size, txt_size]; rfl
      rw [es] at cs
      unfold itV at cs
      have TT := hide (total_take_succ xs i x hx)
      have TL := hide (total_take_le xs (i + 1))
      have hsz : x.size ≤ 281474976702496 := by unfold It.size; omega
      have HSZ := hide hsz
      generalize x.size = sz at cs TT hsz HSZ
      clear hc hc' hx es hf hsz
      by_cases hfit : rm < (sz : Int)
      · have hf2 : (rm < (sz : Int)) = True := eq_true hfit
        have E : Hid (decide ((total xs : Int) ≤ room) = false) := by
          show _ = false
          rw [decide_eq_false_iff_not]
          have := TT.out; have := TL.out; have := I.out.1
          omega
        clear hfit
        go_wp2_with (go_at_call 31; refine (cs.out _).mono ?_; rintro r w1 ⟨rfl, b1⟩; have B1 := hide b1; clear b1)
        go_ret
        exact ⟨by rw [E.out]; rfl, (I.out.2.2.alloc I.out.2.2.size _).trans (B1.out.mono (by rw [nblk_alloc]; have := I.out.2.2.size; omega))⟩
      · have hf2 : (rm < (sz : Int)) = False := eq_false hfit
        have hw := hide (show wrap64 (rm - (sz : Int)) = rm - (sz : Int) by have := HSZ.out; unfold wrap64; omega)
        have HFI := hide hfit
        clear hfit
        go_wp2_with fail
        refine (cs.out _).mono ?_
        rintro r w1 ⟨rfl, b1⟩
        have B1 := hide ((I.out.2.2.alloc I.out.2.2.size (.cells #[.string (txt x.key), .string (txt x.value), .int .u32 x.flags, .int .i64 x.exp, .int .u64 x.ver] 36)).trans (b1.mono (by rw [nblk_alloc]; have := I.out.2.2.size; omega)))
        have bx : Five w1 wr.heap.size (txt x.key) (txt x.value) x.flags x.exp x.ver := by
          have b := (Blk.new wr [.string (txt x.key), .string (txt x.value), .int .u32 x.flags, .int .i64 x.exp, .int .u64 x.ver] 36).same (b1.block wr.heap.size (by rw [nblk_alloc]; omega))
          exact ⟨b.cell rfl, b.cell rfl, b.cell rfl, b.cell rfl, b.cell rfl⟩
        obtain ⟨f0, f1, f2, f3, f4⟩ := bx
        have lw1 : wr.heap.size < w1.heap.size := by have := b1.size; rw [nblk_alloc] at this; omega
        clear b1
        go_wp2_with fail
        refine (cs.out _).mono ?_
        rintro r w2 ⟨rfl, b2⟩
        have B2 := hide (B1.out.trans (b2.mono B1.out.size))
        clear b2
        go_wp2_with fail
        go_roundg (n - (i + 1))
        case measure => omega
        case rel => exact ⟨i + 1, rm - (sz : Int), rfl, by rw [hw.out], by omega, by omega, by have := HFI.out; omega, by have := HFI.out; omega, by rw [TT.out, I.out.1]; omega, fun _ => by have := HFI.out; omega, B2.out⟩
    · obtain rfl : i = n := by omega
      have hlt2 : ¬ (i : Int) < (i : Int) := by omega
      have hr := I.out.1
      rw [H.out.len, List.take_length] at hr
      have E : Hid (decide ((total xs : Int) ≤ room) = decide (0 ≤ rm)) := by show _ = _; rw [decide_eq_decide]; omega
      clear hr
      go_wp2
      go_ret
      exact ⟨by rw [E.out]; rfl, I.out.2.2⟩
end Go.Proofs.Ytbccnfbombgdmaa
