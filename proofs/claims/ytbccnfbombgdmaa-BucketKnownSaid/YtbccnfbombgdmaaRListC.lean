/- 'List' of a slice with whatever room behind it. -/
import Derived.Test.YtbccnfbombgdmaaRList
set_option linter.unusedVariables false
set_option linter.unusedSimpArgs false
namespace Go.Proofs.Ytbccnfbombgdmaa
open Go.RowKit Go.Deep Math

set_option maxHeartbeats 1000000 in
theorem list_cap (ht : TakeIs) (a : Option Addr) (n cap : Nat) (l : List UInt8) (hcap : cap ≤ 9223372036854775807) (hn20 : n ≤ 1048576) (w : World) (h : BS w a n cap l) :
    Calls Try.prog 47 #[.slice a n cap] w (ListPost w (lst l)) := by
  have H := hide h
  clear h
  go_enter Try.func47, Try.ntmps47
  go_wp2_with fail
  obtain ⟨i0, hi0, hp0⟩ := Option.map_eq_some_iff.1 info30
  simp only [Prod.mk.injEq] at hp0
  obtain ⟨hz0, hz1, hz2⟩ := hp0
  have hn : n ≤ cap := H.out.cap
  go_loopg [0, 4] n (fun kx s0 s4 wr => ∃ (a' : Option Addr) (n' c' : Nat) (va : Option Addr) (vk vc : Nat), s0 = .slice a' n' c' ∧ s4 = .slice va vk vc ∧ n' ≤ kx ∧ n' ≤ c' ∧ c' ≤ 9223372036854775807 ∧ ∃ (acc : List It) (r : List UInt8), Hid (BS w a' n' c' r ∧ wr.ownsRow w.heap.size 36 5 (.slice va vk vc) acc.length (itsCells acc) ∧ lst l = (lst r).map (acc ++ ·) ∧ Below w.heap.size w wr ∧ acc.length + n' ≤ n))
  case atStart => exact ⟨a, n, cap, none, 0, 0, rfl, rfl, Nat.le_refl _, hn, hcap, [], l, H.out, World.ownsRow_nil _ _ _ _, by cases lst l <;> simp, Below.refl _ _, by simp⟩
  case round =>
    obtain ⟨a', n', c', va, vk, vc, rfl, rfl, hk, hnc, hc20, acc, r, I⟩ := hrel
    have ce := hide (ended_any a' n' c' r wr (I.out.1.later I.out.2.2.2.1))
    cases hE : ended r with
    | true =>
      rw [hE] at ce
      have E : Hid (lst l = some acc) := by
        show _ = _
        rw [I.out.2.2.1, lst_none (by simp [take, hE])]
        simp
      clear hE
      go_wp2_with (go_at_call 55; refine ce.out.mono ?_; rintro r1 w1 ⟨rfl, h1⟩; obtain rfl : wr = w1 := h1.symm; clear h1)
      go_ret2
      rw [E.out]
      exact ⟨I.out.2.2.2.1, _, rfl, I.out.2.1⟩
    | false =>
      rw [hE] at ce
      have ct := hide (ht a' n' c' r (by omega) wr (I.out.1.later I.out.2.2.2.1))
      have hpos : 0 < n' := by
        rcases Nat.eq_zero_or_pos n' with h0 | h0
        · have := I.out.1.len
          rw [h0] at this
          have h2 : r = [] := List.eq_nil_of_length_eq_zero this.symm
          rw [h2] at hE
          simp [ended] at hE
        · exact h0
      obtain ⟨b, off, rfl, _, _⟩ := I.out.1.cell 0 hpos
      cases hT : take r using Tk.elim3 with
      | none => simp [take, hE] at hT; split at hT <;> (try split at hT) <;> simp at hT
      | bad =>
        rw [hT] at ct
        have E : Hid (lst l = none) := by
          show _ = _
          rw [I.out.2.2.1, lst_bad hT]
          rfl
        have etk : tkV Tk.bad = .tuple #[.agg #[.string (txt []), .string (txt []), .int .u32 0, .int .i64 0, .int .u64 0], .int .i64 0, .int .i64 3] := rfl
        rw [etk] at ct
        clear hE hT etk
        generalize txt [] = nb at ct
        go_wp2_with (first
          | (go_at_call 55; refine ce.out.mono ?_; rintro r1 w1 ⟨rfl, h1⟩; obtain rfl : wr = w1 := h1.symm; clear h1)
          | (go_at_call 56; refine ct.out.mono ?_; rintro r1 w1 ⟨rfl, b1⟩; have B1 := hide b1; clear b1))
        go_ret2
        rw [E.out]
        exact ⟨((I.out.2.2.2.1.trans (B1.out.mono I.out.2.2.2.1.size)).alloc (Nat.le_trans I.out.2.2.2.1.size B1.out.size) _), rfl⟩
      | ok x sz =>
        obtain ⟨t1, t2, t3, t4, t5⟩ := take_ok hT
        rw [hT] at ct
        have E : Hid (lst l = (lst (r.drop sz)).map ((acc ++ [x]) ++ ·)) := by
          show _ = _
          rw [I.out.2.2.1, lst_ok hT]
          cases lst (r.drop sz) <;> simp
        have etk : tkV (Tk.ok x sz) = .tuple #[.agg #[.string (txt x.key), .string (txt x.value), .int .u32 x.flags, .int .i64 x.exp, .int .u64 x.ver], .int .i64 sz, .int .i64 0] := rfl
        rw [etk] at ct
        have hsz : sz ≤ n' := by rw [I.out.1.len]; exact t4
        have hsp : 0 < sz := by rw [t3]; exact x.size_pos
        have hszi : (sz : Int) ≤ (n' : Int) := by omega
        have SP := hide hsp
        have SZ := hide hsz
        clear hE hT etk t1 t2 t3 t4 t5 hsp hsz
        have hac : acc.length ≤ 1048576 := by have := I.out.2.2.2.2; omega
        go_wp2_with (first
          | (go_at_call 55; refine ce.out.mono ?_; rintro r1 w1 ⟨rfl, h1⟩; obtain rfl : wr = w1 := h1.symm; clear h1)
          | (go_at_call 56; refine ct.out.mono ?_; rintro r1 w1 ⟨rfl, b1⟩; have B1 := hide b1; clear b1)
          | (at_builtin; refine wpList_append_own _ rfl _ _ 30 rfl w.heap.size 36 i0 _ 5 56 Try.underlying30 hi0 hz0 hz1 hz2 rfl (by decide) _ _ _ rfl (((rown_below I.out.2.1 B1.out).alloc _).alloc _) ⟨w1.heap.size + 1, 0, none⟩ 1 1 (itCells x) rfl ?qc1 ?qc2 ?qc3 ?qc4 ?qc5 ?qc6 ?_))
        case qc1 => rfl
        case qc2 =>
          intro j u hj
          rw [Addr.add_lit, Nat.zero_add]
          have hh := (Blk.new (w1.alloc (.cells #[.string (txt x.key), .string (txt x.value), .int .u32 x.flags, .int .i64 x.exp, .int .u64 x.ver] 36)) (itCells x) 36).cell hj
          rw [nblk_alloc] at hh
          exact hh
        case qc3 => intro u hu; simp [itCells] at hu; rcases hu with rfl | rfl | rfl | rfl | rfl <;> rfl
        case qc4 => unfold maxLen; omega
        case qc5 => omega
        case qc6 => have := I.out.2.2.2.1.size; have := B1.out.size; simp; omega
        intro v' w2 hown hgrow hnil
        obtain ⟨g2, cp2, rfl⟩ : ∃ g2 cp2, v' = .slice (some ⟨g2, 0, none⟩) (acc.length + 1) cp2 := by
          rcases hown.2 with ⟨_, h0⟩ | ⟨g2, cp2, _, hv, _⟩
          · omega
          · exact ⟨g2, cp2, hv⟩
        have hB2 : Below w.heap.size w w2 := by
          have h1 := I.out.2.2.2.1.trans (B1.out.mono I.out.2.2.2.1.size)
          have h2 := (h1.alloc h1.size (.cells #[.string (txt x.key), .string (txt x.value), .int .u32 x.flags, .int .i64 x.exp, .int .u64 x.ver] 36))
          have h3 := (h2.alloc h2.size (.cells #[.string (txt x.key), .string (txt x.value), .int .u32 x.flags, .int .i64 x.exp, .int .u64 x.ver] 36))
          exact h3.grown hgrow h3.size (fun k hk => (I.out.2.1.lt k hk).1)
        rw [itsCells_snoc] at hown
        have FO := hide hown
        have FB := hide hB2
        clear hown hgrow hnil hB2
        have hl : Hid (acc.length + 1 = (acc ++ [x]).length) := by show _ = _; simp
        have szl : Hid (n' - sz = (r.drop sz).length) := by show _ = _; rw [List.length_drop, ← I.out.1.len]
        by_cases hce : c' = sz
        · have hc2 : (c' = sz) = True := eq_true hce
          have HCE := hide hce
          clear hce
          go_wp2
          go_roundg (n' - sz)
          case measure => have := SP.out; omega
          case rel =>
            refine ⟨_, n' - sz, c' - sz, _, _, _, rfl, rfl, Nat.le_refl _, by omega, by omega, acc ++ [x], r.drop sz, ?_, ?_, E.out, FB.out, ?_⟩
            · have h0 : r.drop sz = [] := List.eq_nil_of_length_eq_zero (by have := szl.out; have := HCE.out; omega)
              rw [h0]
              have := HCE.out
              exact ⟨by simp; omega, by omega, Reads.nil _ _, fun i hi => absurd hi (by omega)⟩
            · rw [← hl.out]; exact FO.out
            · rw [← hl.out]; have := I.out.2.2.2.2; have := SP.out; have := SZ.out; omega
        · go_wp2
          go_roundg (n' - sz)
          case measure => have := SP.out; omega
          case rel =>
            refine ⟨_, n' - sz, c' - sz, _, _, _, rfl, rfl, Nat.le_refl _, by omega, by omega, acc ++ [x], r.drop sz, ?_, ?_, E.out, FB.out, ?_⟩
            · have h0 := I.out.1.sub sz n' (off + sz) (n' - sz) (c' - sz) rfl SZ.out (Nat.le_refl _) rfl (by omega)
              rw [show sl r sz n' = r.drop sz by unfold sl; rw [I.out.1.len, List.take_length]] at h0
              exact h0
            · rw [← hl.out]; exact FO.out
            · rw [← hl.out]; have := I.out.2.2.2.2; have := SP.out; have := SZ.out; omega
end Go.Proofs.Ytbccnfbombgdmaa
