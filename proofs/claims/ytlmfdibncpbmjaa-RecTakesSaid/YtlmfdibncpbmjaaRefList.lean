/- 'List' of the reckoning side. -/
import Derived.Test.YtlmfdibncpbmjaaRefTakeC
import Derived.Test.YtlmfdibncpbmjaaList
set_option linter.unusedVariables false
set_option linter.unusedSimpArgs false
namespace Go.Proofs.Ytlmfdibncpbmjaa
open Go.RowKit Go.Deep Math

/-- What it answers. -/
def RListPost (w : World) (o : Option (List It)) (e : Ending) (w' : World) : Prop := Below w.heap.size w w' ∧ match o with
  | none => e = .returned (.tuple #[.slice none 0 0, .bool false])
  | some xs => ∃ v, e = .returned (.tuple #[v, .bool true]) ∧ w'.ownsRow w.heap.size 30 5 v xs.length (itsCells xs)

set_option maxHeartbeats 1000000 in
theorem refList_any (l : List UInt8) (hl : l.length ≤ 1048576) (w : World) :
    Calls Try.prog 21 #[.string (txt l)] w (RListPost w (lst l)) := by
  go_enter Try.func21, Try.ntmps21
  go_wp2_with fail
  obtain ⟨i0, hi0, hp0⟩ := Option.map_eq_some_iff.1 info30
  simp only [Prod.mk.injEq] at hp0
  obtain ⟨hz0, hz1, hz2⟩ := hp0
  go_loopg [0, 4] l.length (fun kx s0 s4 wr => ∃ (s : ByteArray) (va : Option Addr) (vk vc : Nat) (acc : List It) (r : List UInt8), s0 = .string s ∧ s4 = .slice va vk vc ∧ r.length ≤ kx ∧ Hid (s = txt r ∧ wr.ownsRow w.heap.size 30 5 (.slice va vk vc) acc.length (itsCells acc) ∧ lst l = (lst r).map (acc ++ ·) ∧ Below w.heap.size w wr ∧ acc.length + r.length ≤ l.length))
  case atStart => exact ⟨txt l, none, 0, 0, [], l, rfl, rfl, Nat.le_refl _, rfl, World.ownsRow_nil _ _ _ _, by cases lst l <;> simp, Below.refl _ _, by simp⟩
  case round =>
    obtain ⟨s, va, vk, vc, acc, r, rfl, rfl, hk, I⟩ := hrel
    have ct : Hid (Calls Try.prog 20 #[.string s] wr fun e w' => e = .returned (tkV (take r)) ∧ Below wr.heap.size wr w') := by
      show Calls _ _ _ _ _
      rw [I.out.1]
      exact refTake_any r (by have := I.out.2.2.2.2; omega) wr
    have hsz0 : s.size = r.length := by rw [I.out.1, txt_size]
    cases hT : take r using Tk.elim3 with
    | none =>
      rw [hT] at ct
      have E : Hid (lst l = some acc) := by
        show _ = _
        rw [I.out.2.2.1, lst_none hT]
        simp
      have etk : tkV Tk.none = .tuple #[.agg #[.string (txt []), .string (txt []), .int .u32 0, .int .i64 0, .int .u64 0], .int .i64 0, .int .i64 5] := rfl
      rw [etk] at ct
      clear hT etk hsz0
      generalize txt [] = nb at ct
      go_wp2_with (go_at_call 20; refine ct.out.mono ?_; rintro r1 w1 ⟨rfl, b1⟩; have B1 := hide b1; clear b1)
      go_ret2
      rw [E.out]
      have h1 := I.out.2.2.2.1.trans (B1.out.mono I.out.2.2.2.1.size)
      exact ⟨h1.alloc h1.size _, _, rfl, (own_below I.out.2.1 B1.out).alloc _⟩
    | bad =>
      rw [hT] at ct
      have E : Hid (lst l = none) := by
        show _ = _
        rw [I.out.2.2.1, lst_bad hT]
        rfl
      have etk : tkV Tk.bad = .tuple #[.agg #[.string (txt []), .string (txt []), .int .u32 0, .int .i64 0, .int .u64 0], .int .i64 0, .int .i64 3] := rfl
      rw [etk] at ct
      clear hT etk hsz0
      generalize txt [] = nb at ct
      go_wp2_with (go_at_call 20; refine ct.out.mono ?_; rintro r1 w1 ⟨rfl, b1⟩; have B1 := hide b1; clear b1)
      go_ret2
      rw [E.out]
      have h1 := I.out.2.2.2.1.trans (B1.out.mono I.out.2.2.2.1.size)
      exact ⟨h1.alloc h1.size _, rfl⟩
    | ok x sz =>
      obtain ⟨t1, t2, t3, t4, t5⟩ := take_ok hT
      rw [hT] at ct
      have E : Hid (lst l = (lst (r.drop sz)).map ((acc ++ [x]) ++ ·)) := by
        show _ = _
        rw [I.out.2.2.1, lst_ok hT]
        cases lst (r.drop sz) <;> simp
      have etk : tkV (Tk.ok x sz) = .tuple #[.agg #[.string (txt x.key), .string (txt x.value), .int .u32 x.flags, .int .i64 x.exp, .int .u64 x.ver], .int .i64 sz, .int .i64 0] := rfl
      rw [etk] at ct
      have hsp : 0 < sz := by rw [t3]; exact x.size_pos
      have hszi : (sz : Int) ≤ (s.size : Int) := by omega
      have SP := hide hsp
      have SZ := hide t4
      have EX : Hid (s.extract sz s.size = txt (r.drop sz)) := by
        show _ = _
        rw [hsz0, I.out.1, txt_extract]
        unfold sl
        rw [List.take_length]
      clear hT etk t1 t2 t3 t4 t5 hsp hsz0
      have hac : acc.length ≤ 1048576 := by have := I.out.2.2.2.2; omega
      go_wp2_with (first
        | (go_at_call 20; refine ct.out.mono ?_; rintro r1 w1 ⟨rfl, b1⟩; have B1 := hide b1; clear b1)
        | (at_builtin; refine wpList_append_own _ rfl _ _ 35 rfl w.heap.size 30 i0 _ 5 56 Try.underlying35 hi0 hz0 hz1 hz2 rfl (by decide) _ _ _ rfl (((own_below I.out.2.1 B1.out).alloc _).alloc _) ⟨w1.heap.size + 1, 0, none⟩ 1 1 (itCells x) rfl ?qc1 ?qc2 ?qc3 ?qc4 ?qc5 ?qc6 ?_))
      case qc1 => rfl
      case qc2 =>
        intro j u hj
        rw [Addr.add_lit, Nat.zero_add]
        have hh := (Blk.new (w1.alloc (.cells #[.string (txt x.key), .string (txt x.value), .int .u32 x.flags, .int .i64 x.exp, .int .u64 x.ver] 30)) (itCells x) 30).cell hj
        rw [nblk_alloc] at hh
        exact hh
      case qc3 => intro u hu; simp [itCells] at hu; rcases hu with rfl | rfl | rfl | rfl | rfl <;> rfl
      case qc4 => unfold maxLen; omega
      case qc5 => omega
      case qc6 => have := I.out.2.2.2.1.size; have := B1.out.size; simp; omega
      intro v' w2 hown hgrow hnil
      obtain ⟨g2, cp2, rfl⟩ : ∃ g2 cp2, v' = .slice (some ⟨g2, 0, none⟩) (acc.length + 1) cp2 := by
        rcases hown.2 with ⟨_, h0⟩ | ⟨g2, cp2, _, hv, _⟩
        · omega
        · exact ⟨g2, cp2, hv⟩
      have hB2 : Below w.heap.size w w2 := by
        have h1 := I.out.2.2.2.1.trans (B1.out.mono I.out.2.2.2.1.size)
        have h2 := (h1.alloc h1.size (.cells #[.string (txt x.key), .string (txt x.value), .int .u32 x.flags, .int .i64 x.exp, .int .u64 x.ver] 30))
        have h3 := (h2.alloc h2.size (.cells #[.string (txt x.key), .string (txt x.value), .int .u32 x.flags, .int .i64 x.exp, .int .u64 x.ver] 30))
        exact h3.grown hgrow h3.size (fun k hk => (I.out.2.1.lt k hk).1)
      rw [itsCells_snoc] at hown
      have FO := hide hown
      have FB := hide hB2
      clear hown hgrow hnil hB2
      have hl2 : Hid (acc.length + 1 = (acc ++ [x]).length) := by show _ = _; simp
      go_wp2
      go_roundg (r.drop sz).length
      case measure => have := SP.out; have := SZ.out; rw [List.length_drop]; omega
      case rel =>
        refine ⟨_, _, _, _, acc ++ [x], r.drop sz, rfl, rfl, Nat.le_refl _, EX.out, ?_, E.out, FB.out, ?_⟩
        · rw [← hl2.out]; exact FO.out
        · rw [← hl2.out, List.length_drop]; have := I.out.2.2.2.2; have := SP.out; have := SZ.out; omega
end Go.Proofs.Ytlmfdibncpbmjaa
