/- 'one', 'awake'. -/
import Derived.Test.YtlmfdibncpbmjaaList
import Derived.Deep.RegionHeld
set_option linter.unusedVariables false
set_option linter.unusedSimpArgs false
namespace Go.Proofs.Ytlmfdibncpbmjaa
open Go.RowKit Go.Deep Math

theorem buf_full {w : World} {g r : Nat} {l : List UInt8} (h : Buf w g l r) : Buf w g (l ++ List.replicate r 0) 0 := by
  unfold Buf at *
  rw [bCells_append, show bCells (List.replicate r 0) = zc r by simp [bCells, zc], show zc 0 = [] from rfl, List.append_nil]
  exact h
theorem buf_bs {w : World} {g : Nat} {l : List UInt8} {n cap : Nat} (h : Buf w g l 0) (hn : n = l.length) (hc : n ≤ cap) : BS w (some ⟨g, 0, none⟩) n cap l :=
  BS.mk' hn hc (by have := h.reads 0; rwa [List.drop_zero] at this)

theorem its_get (xs : List It) (i : Nat) (x : It) (hx : xs[i]? = some x) (j : Nat) (hj : j < 5) : (itsCells xs)[i * 5 + j]? = (itCells x)[j]? := by
  obtain ⟨hi, he⟩ := List.getElem?_eq_some_iff.1 hx
  have h1 : xs = xs.take i ++ x :: xs.drop (i + 1) := by
    rw [← he, ← List.drop_eq_getElem_cons hi, List.take_append_drop]
  have h2 := flat_get itCells 5 (fun _ => rfl) (xs.take i) x (xs.drop (i + 1)) j hj
  rw [← h1, List.length_take, Nat.min_eq_left (by omega)] at h2
  exact h2
/-- A row that begins with the items' cells. -/
theorem its_of_row {w : World} {g n : Nat} {L : List Value} {t : TypeId} {xs : List It} (h : Blk w g L t) (hL : L.take (n * 5) = itsCells xs) (hn : n = xs.length) (hf : ∀ x ∈ xs, x.fits ∧ x.key.length ≤ 140737488351232 ∧ x.value.length ≤ 140737488351232) : ItsAt w (some ⟨g, 0, none⟩) n xs := by
  refine ⟨hn, hf, fun i x hx => ⟨g, 0, rfl, h.lt, ?_⟩⟩
  have hi : i < xs.length := (List.getElem?_eq_some_iff.1 hx).1
  have key : ∀ j v, j < 5 → (itCells x)[j]? = some v → w.cell? ⟨g, i * 5 + j, none⟩ = some v := fun j v hj hv => by
    refine h.cell ?_
    rw [← its_get xs i x hx j hj, ← hL, List.getElem?_take_of_lt (by omega)] at hv
    exact hv
  rw [Nat.zero_add]
  exact ⟨key 0 _ (by omega) rfl, key 1 _ (by omega) rfl, key 2 _ (by omega) rfl, key 3 _ (by omega) rfl, key 4 _ (by omega) rfl⟩
theorem own_its {w : World} {base n : Nat} {v : Value} {xs : List It} (h : w.ownsRow base 30 5 v n (itsCells xs)) (hn : n = xs.length) (hf : ∀ x ∈ xs, x.fits ∧ x.key.length ≤ 140737488351232 ∧ x.value.length ≤ 140737488351232) :
    ∃ a cap, v = .slice a n cap ∧ ItsAt w a n xs ∧ (0 < n → ∃ g, a = some ⟨g, 0, none⟩) := by
  rcases h.2 with ⟨hv, h0⟩ | ⟨g, cap, cur, hv, hb, hc, h1, h2, h3, h4⟩
  · subst h0
    have : xs = [] := List.eq_nil_of_length_eq_zero hn.symm
    subst this
    exact ⟨none, 0, hv, ⟨rfl, hf, fun i x hx => by simp at hx⟩, fun h => absurd h (by omega)⟩
  · exact ⟨_, cap, hv, its_of_row (L := cur.toList) (t := 30) (by unfold Blk; rw [Array.toArray_toList]; exact hc) h4 hn hf, fun _ => ⟨g, rfl⟩⟩

def oneIt : It := ⟨[107], [118], 0, 0, 1⟩
theorem oneIt_fits : oneIt.fits := by constructor <;> simp [oneIt]
theorem oneIt_good : oneIt.good = true := rfl

set_option maxHeartbeats 400000 in
theorem one_any (w : World) : Calls Try.prog 13 #[] w fun e w' => e = .returned (.agg #[.string ⟨#[107]⟩, .string ⟨#[118]⟩, .int .u32 0, .int .i64 0, .int .u64 1]) ∧ Below w.heap.size w w' := by
  go_enter Try.func13, Try.ntmps13
  go_wp2
  have b := Blk.new w [.string ⟨#[107]⟩, .string ⟨#[118]⟩, .int .u32 0, .int .i64 0, .int .u64 1] 30
  have x0 := b.cell (i := 0) rfl
  have x1 := b.cell (i := 1) rfl
  have x2 := b.cell (i := 2) rfl
  have x3 := b.cell (i := 3) rfl
  have x4 := b.cell (i := 4) rfl
  refine bodyPost_ret (v := .agg #[.string ⟨#[107]⟩, .string ⟨#[118]⟩, .int .u32 0, .int .i64 0, .int .u64 1]) (by simp [results, Try.results13, go_sem, x0, x1, x2, x3, x4]) rfl ⟨rfl, (Below.refl _ _).alloc (Nat.le_refl _) _⟩

theorem two_fits : ∀ x ∈ [oneIt, oneIt], x.fits ∧ x.key.length ≤ 140737488351232 ∧ x.value.length ≤ 140737488351232 := by
  intro x hx
  simp at hx
  subst hx
  exact ⟨oneIt_fits, by simp [oneIt], by simp [oneIt]⟩

def b1 : List UInt8 := oneIt.enc
def b2 : List UInt8 := encs [oneIt, oneIt] ++ List.replicate 12 0

theorem put_one (W : World) : Calls Try.prog 10 #[.agg #[.string ⟨#[107]⟩, .string ⟨#[118]⟩, .int .u32 0, .int .i64 0, .int .u64 1]] W fun e w' => ∃ g, e = .returned (.tuple #[.slice (some ⟨g, 0, none⟩) 34 34, .int .i64 0]) ∧ BS w' (some ⟨g, 0, none⟩) 34 34 b1 ∧ Below W.heap.size W w' := by
  refine (put_ok oneIt oneIt_fits oneIt_good W).mono ?_
  rintro e w' ⟨g, rfl, _, h2, h3⟩
  exact ⟨g, rfl, buf_bs h2 (by show 34 = oneIt.enc.length; rw [oneIt.enc_length]; rfl) (Nat.le_refl _), h3⟩
theorem take_one (ht : TakeIs) (W : World) (g : Nat) (h : BS W (some ⟨g, 0, none⟩) 34 34 b1) : Calls Try.prog 11 #[.slice (some ⟨g, 0, none⟩) 34 34] W fun e w' => e = .returned (.tuple #[.agg #[.string ⟨#[107]⟩, .string ⟨#[118]⟩, .int .u32 0, .int .i64 0, .int .u64 1], .int .i64 34, .int .i64 0]) ∧ Below W.heap.size W w' := by
  refine (ht _ _ _ _ (by omega) W h).mono ?_
  rintro e w' ⟨rfl, h3⟩
  refine ⟨?_, h3⟩
  have := take_rec oneIt oneIt_fits oneIt_good []
  rw [List.append_nil] at this
  show Ending.returned (tkV (take oneIt.enc)) = _
  rw [this]
  rfl
theorem lay_two (W : World) (N : Nat) (h : Blk W N (itsCells [oneIt, oneIt]) 30) : Calls Try.prog 12 #[.slice (some ⟨N, 0, none⟩) 2 2, .int .i64 80] W fun e w' => ∃ g, e = .returned (.tuple #[.slice (some ⟨g, 0, none⟩) 80 80, .int .i64 0]) ∧ BS w' (some ⟨g, 0, none⟩) 80 80 b2 ∧ Below W.heap.size W w' := by
  refine (lay_ok (some ⟨N, 0, none⟩) 2 2 [oneIt, oneIt] 80 (by omega) (by omega) W (its_of_row h (by rfl) rfl two_fits) rfl (by show 68 ≤ 80; omega)).mono ?_
  rintro e w' ⟨g, rfl, _, h2, h3⟩
  refine ⟨g, rfl, buf_bs (buf_full h2) ?_ (Nat.le_refl _), h3⟩
  show 80 = (encs [oneIt, oneIt] ++ List.replicate 12 0).length
  rw [List.length_append, encs_length, List.length_replicate]
  rfl
theorem list_two (ht : TakeIs) (W : World) (g : Nat) (h : BS W (some ⟨g, 0, none⟩) 80 80 b2) : Calls Try.prog 14 #[.slice (some ⟨g, 0, none⟩) 80 80] W fun e w' => ∃ g2 cap, e = .returned (.tuple #[.slice (some ⟨g2, 0, none⟩) 2 cap, .int .i64 0]) ∧ ItsAt w' (some ⟨g2, 0, none⟩) 2 [oneIt, oneIt] ∧ Below W.heap.size W w' := by
  refine (list_any ht _ _ _ _ (by omega) W h).mono ?_
  have e : lst b2 = some [oneIt, oneIt] := lst_encs [oneIt, oneIt] _ (fun x hx => ⟨(two_fits x hx).1, by simp at hx; subst hx; exact oneIt_good⟩) (by simp [take, ended])
  rw [e]
  rintro e w' ⟨hb, v, rfl, ho⟩
  obtain ⟨a, cap, rfl, hi, hg⟩ := own_its ho rfl two_fits
  obtain ⟨g2, rfl⟩ := hg (by decide)
  exact ⟨g2, cap, rfl, hi, hb⟩
theorem good_one (W : World) : Calls Try.prog 15 #[.agg #[.string ⟨#[107]⟩, .string ⟨#[118]⟩, .int .u32 0, .int .i64 0, .int .u64 1]] W fun e w' => e = .returned (.bool true) ∧ Below W.heap.size W w' :=
  good_any ⟨#[107]⟩ ⟨#[118]⟩ 0 0 1 W
theorem size_one (W : World) : Calls Try.prog 17 #[.agg #[.string ⟨#[107]⟩, .string ⟨#[118]⟩, .int .u32 0, .int .i64 0, .int .u64 1]] W fun e w' => e = .returned (.int .i64 34) ∧ Below W.heap.size W w' :=
  size_any ⟨#[107]⟩ ⟨#[118]⟩ 0 0 1 (by decide) (by decide) W

set_option maxHeartbeats 1000000 in
set_option maxRecDepth 4000 in
theorem awake_any (ht : TakeIs) (w : World) : Calls Try.prog 9 #[] w fun e w' => e = .returned (.bool true) ∧ Below w.heap.size w w' := by
  have c1 := hide one_any
  have cp := hide put_one
  have ct := hide (take_one ht)
  have cl := hide lay_two
  have cs := hide (list_two ht)
  have cg := hide good_one
  have cz := hide size_one
  clear ht
  go_enter Try.func9, Try.ntmps9
  go_wp2_with fail
  refine (c1.out _).mono ?_
  rintro r w1 ⟨rfl, h1⟩
  have B1 := hide h1
  clear h1
  go_wp2_with fail
  refine (cp.out _).mono ?_
  rintro r w2 ⟨g1, rfl, h2, h3⟩
  have B2 := hide (B1.out.trans (h3.mono B1.out.size))
  have S2 := hide h2
  clear h2 h3
  go_wp2_with fail
  refine (ct.out _ _ S2.out).mono ?_
  rintro r w3 ⟨rfl, h3⟩
  have B3 := hide (B2.out.trans (h3.mono B2.out.size))
  clear h3 B1 B2 S2
  go_wp2_with fail
  have AN := hide (Aft.new w3 (.cells #[.string ⟨#[107]⟩, .string ⟨#[118]⟩, .int .u32 0, .int .i64 0, .int .u64 1] 30))
  refine (c1.out _).mono ?_
  rintro r w4 ⟨rfl, h4⟩
  have A4 := hide (AN.out.then h4)
  clear h4 AN
  go_wp2_with fail
  refine (c1.out _).mono ?_
  rintro r w5 ⟨rfl, h5⟩
  have A5 := hide (A4.out.then h5)
  clear h5 A4
  go_wp2_with fail
  refine (cl.out _ _ (Blk.new w5 _ 30)).mono ?_
  rintro r w6 ⟨g2, rfl, s6, h6⟩
  have A6 := hide ((A5.out.alloc _).then h6)
  have S6 := hide s6
  clear h6 A5 s6
  go_wp2_with fail
  refine (cs.out _ _ S6.out).mono ?_
  rintro r w7 ⟨g3, cap3, rfl, s7, h7⟩
  have A7 := hide (A6.out.then h7)
  obtain ⟨bb, oo, ha, hlt, hcell⟩ := s7.cell 1 oneIt rfl
  simp only [Option.some.injEq, Addr.mk.injEq, and_true] at ha
  obtain ⟨rfl, rfl⟩ := ha
  have FF : Hid (∀ W, Below w7.heap.size w7 W → W.cell? ⟨w3.heap.size, 0, none⟩ = some (.string ⟨#[107]⟩) ∧ W.cell? ⟨w3.heap.size, 1, none⟩ = some (.string ⟨#[118]⟩) ∧ W.cell? ⟨w3.heap.size, 2, none⟩ = some (.int .u32 0) ∧ W.cell? ⟨w3.heap.size, 3, none⟩ = some (.int .i64 0) ∧ W.cell? ⟨w3.heap.size, 4, none⟩ = some (.int .u64 1) ∧ W.cell? ⟨g3, 5, none⟩ = some (.string ⟨#[107]⟩) ∧ W.cell? ⟨g3, 6, none⟩ = some (.string ⟨#[118]⟩) ∧ W.cell? ⟨g3, 7, none⟩ = some (.int .u32 0) ∧ W.cell? ⟨g3, 8, none⟩ = some (.int .i64 0) ∧ W.cell? ⟨g3, 9, none⟩ = some (.int .u64 1)) := fun W hW => by
    obtain ⟨z0, z1, z2, z3, z4⟩ := five_new (A7.out.then hW)
    have hc := hcell.below hW hlt
    exact ⟨z0, z1, z2, z3, z4, hc.c0, hc.c1, hc.c2, hc.c3, hc.c4⟩
  have BB := hide (Below.refl w7.heap.size w7).drew
  clear h7 A6 S6 s7 hlt hcell
  go_wp2_with fail
  obtain ⟨z0, z1, z2, z3, z4, y0, y1, y2, y3, y4⟩ := FF.out _ BB.out
  go_region_held (fun W => W.cell? ⟨w3.heap.size, 0, none⟩ = some (.string ⟨#[107]⟩) ∧ W.cell? ⟨w3.heap.size, 1, none⟩ = some (.string ⟨#[118]⟩) ∧ W.cell? ⟨w3.heap.size, 2, none⟩ = some (.int .u32 0) ∧ W.cell? ⟨w3.heap.size, 3, none⟩ = some (.int .i64 0) ∧ W.cell? ⟨w3.heap.size, 4, none⟩ = some (.int .u64 1) ∧ W.cell? ⟨g3, 5, none⟩ = some (.string ⟨#[107]⟩) ∧ W.cell? ⟨g3, 6, none⟩ = some (.string ⟨#[118]⟩) ∧ W.cell? ⟨g3, 7, none⟩ = some (.int .u32 0) ∧ W.cell? ⟨g3, 8, none⟩ = some (.int .i64 0) ∧ W.cell? ⟨g3, 9, none⟩ = some (.int .u64 1))
    (exact FF.out _ BB.out)
    (first
      | (go_at_call 13; refine (c1.out _).mono ?_; rintro r wx ⟨rfl, hx⟩; replace BB := hide (BB.out.trans (hx.mono BB.out.size)); clear hx)
      | (go_at_call 15; refine (cg.out _).mono ?_; rintro r wx ⟨rfl, hx⟩; replace BB := hide (BB.out.trans (hx.mono BB.out.size)); clear hx)
      | (go_at_call 17; refine (cz.out _).mono ?_; rintro r wx ⟨rfl, hx⟩; replace BB := hide (BB.out.trans (hx.mono BB.out.size)); clear hx))
  all_goals go_wp2
  all_goals (
    go_ret
    have h37 := B3.out.trans (A7.out.old.mono B3.out.size)
    exact ⟨rfl, h37.trans (BB.out.mono h37.size)⟩)
end Go.Proofs.Ytlmfdibncpbmjaa
