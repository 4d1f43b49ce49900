/- A page written over a sealed one; a byte of a number changed. -/
import Derived.Test.YtbjkahdlejaheabSr9
set_option linter.unusedVariables false
set_option linter.unusedSimpArgs false
set_option maxRecDepth 8000
namespace Go.Proofs.Ytbjkahdlejaheab
open Go.RowKit Go.Deep Math

theorem fmAt_now (cs : List Cl) (k : Nat) : fmAt cs k = ((cs[k]?).map (·.now)).bind fmPg := by
  unfold fmAt
  cases cs[k]? <;> rfl
theorem fm_put_other (cs : List Cl) (p j : Nat) (pg : Pg) (h : j ≠ p) : fmAt (putAt cs p pg) j = fmAt cs j := by
  rw [fmAt_now, fmAt_now, putAt_get, if_neg (fun e => h e.1)]
theorem fm_put_same (cs : List Cl) (p : Nat) (l : List UInt8) (hp : p < cs.length) (hl : l.length = 384) (hf : isForm l = true) : fmAt (putAt cs p (.whole ⟨l.toArray⟩)) p = some l := by
  rw [fmAt_now, putAt_get, if_pos ⟨rfl, hp⟩]
  have hd : (full ⟨l.toArray⟩).data.toList = l := by
    rw [full_data]
    have : (⟨l.toArray⟩ : ByteArray).size = 384 := by show l.toArray.size = 384; rw [List.size_toArray, hl]
    rw [this]
    simp
  have ht : pgText (.whole ⟨l.toArray⟩) = some l := by
    show some (full ⟨l.toArray⟩).data.toList = some l
    rw [hd]
  show fmPg (.whole ⟨l.toArray⟩) = some l
  unfold fmPg
  rw [ht]
  simp [hf]
theorem up_inj : ∀ (a b : List UInt8), a.length = b.length → up a = up b → a = b
  | [], [], _, _ => rfl
  | [], _ :: _, h, _ => by simp at h
  | _ :: _, [], h, _ => by simp at h
  | x :: a, y :: b, h, e => by
    simp only [up] at e
    have hx := x.toNat_lt
    have hy := y.toNat_lt
    have h1 : x.toNat = y.toNat := by omega
    have h2 : up a = up b := by omega
    rw [UInt8.toNat_inj.1 h1, up_inj a b (by simpa using h) h2]
theorem sl_set_out (l : List UInt8) (k i j : Nat) (v : UInt8) (h : k < i ∨ j ≤ k) : sl (l.set k v) i j = sl l i j := by
  unfold sl
  rcases h with h | h
  · rw [List.take_set, List.drop_set_of_lt h]
  · rw [List.take_set, List.set_eq_of_length_le (by rw [List.length_take]; omega)]
/-- One byte of a page's number is changed: the page keeps its form, its number is another. -/
theorem flip_num (l : List UInt8) (hl : l.length = 384) (hf : isForm l = true) (at0 : Nat) (ha : at0 < 8) (v : UInt8) (hv : l[8 + at0]? ≠ some v) :
    isForm (l.set (8 + at0) v) = true ∧ fmPlace (l.set (8 + at0) v) = fmPlace l ∧ fmNum (l.set (8 + at0) v) ≠ fmNum l ∧ (l.set (8 + at0) v).length = 384 := by
  have hg : ∀ i, i < 8 → (l.set (8 + at0) v).getD i 0 = l.getD i 0 := fun i hi => by
    rw [List.getD_eq_getElem?_getD, List.getD_eq_getElem?_getD, List.getElem?_set_ne (by omega)]
  refine ⟨?_, ?_, fun e => ?_, by simpa using hl⟩
  · unfold isForm at hf ⊢
    rw [sl_set_out l _ 0 2 v (.inr (by omega)), sl_set_out l _ 4 8 v (.inr (by omega)), hg 3 (by omega)]
    exact hf
  · unfold fmPlace
    rw [hg 2 (by omega)]
  · unfold fmNum at e
    have e2 := up_inj _ _ (by unfold sl; simp) e
    have e3 := congrArg (fun q => q[at0]?) e2
    simp only [sl, List.getElem?_drop] at e3
    rw [List.getElem?_take_of_lt (by omega), List.getElem?_take_of_lt (by omega), List.getElem?_set_self (by omega)] at e3
    exact hv e3.symm
theorem readDo_same (S : Dv) (k : Int) (h : Calm S) : (S.readDo k).cs = S.cs ∧ Calm (S.readDo k) ∧ (S.readDo k).losses = S.losses := by
  unfold Dv.readDo
  split
  · exact ⟨rfl, h, rfl⟩
  · split
    · exact ⟨rfl, h, rfl⟩
    · exact ⟨rfl, ⟨h.armed, h.off⟩, rfl⟩
section
variable {w0 W : World} {d : Nat} {F : List Nat} {S : Dv} {l m : Nat} {v5 v6 v7 : Value} {T : Lg}
theorem read_sealed (G : LG w0 W d F S l m v5 v6 v7 T) (hS : Calm S) (cs0 : List Cl) (n : Nat) (c : List UInt8) (hcs : S.cs = put4 cs0 0 n c) (hb : 4 ≤ cs0.length) (hn : n < 18446744073709551616) (p : Nat) (hp : p < 4) :
    Calls Try.prog 19 #[.pointer (some ⟨d, 0, none⟩), .int .i64 (p : Nat)] W fun e W' => ∃ l9 S', e = .returned (.tuple #[.slice (some ⟨W.heap.size + 1, 0, none⟩) 384 384, .int .i64 0]) ∧ Blk W' (W.heap.size + 1) (bCells l9) 5 ∧ l9.length = 384 ∧ fmAt S.cs p = some l9 ∧
      LG w0 W' d F S' l m v5 v6 v7 T ∧ S'.cs = S.cs ∧ Calm S' ∧ S'.losses = S.losses := by
  have hk : S.cs[p]? = some ⟨.whole ⟨(pageR p n (part9 c p)).toArray⟩, none⟩ := by
    have := put4_in cs0 0 n c (by omega) p hp
    rw [Nat.zero_add] at this
    rw [hcs]; exact this
  obtain ⟨rv, er, hc, hor⟩ := read_page (d := d) (F := F) hk hS.off
  obtain ⟨lf, hf, _, _⟩ := put4_form cs0 0 n c (by omega) hn p hp
  rw [Nat.zero_add, ← hcs] at hf
  rcases hor with ⟨_, _, hno⟩ | ⟨rfl, hrv, l9, hl9⟩
  · cases hno
  refine (hc W G.dev).mono ?_
  rintro e w' ⟨rfl, hd, hkp, hbl⟩
  obtain ⟨hb9, hlen⟩ := hbl l9 hl9
  have hfm : fmAt S.cs p = some l9 := by
    have h1 : fmAt S.cs p = fmPg (.whole ⟨(pageR p n (part9 c p)).toArray⟩) := by unfold fmAt; rw [hk]; rfl
    rw [h1] at hf ⊢
    unfold fmPg at hf ⊢
    have h2 : pgText (.whole ⟨(pageR p n (part9 c p)).toArray⟩) = some l9 := hl9
    rw [h2] at hf ⊢
    simp only [Option.bind_some] at hf ⊢
    split at hf
    · rename_i hq; rw [if_pos hq]
    · cases hf
  have hs := readDo_same S (p : Int) hS
  exact ⟨l9, _, by rw [hrv], hb9, hlen, hfm, G.devTurn hd (Moves.of_keep hkp), hs.1, hs.2.1, hs.2.2⟩
theorem write_page (G : LG w0 W d F S l m v5 v6 v7 T) (hS : Calm S) (p : Nat) (hp : p < S.cs.length) (g : Nat) (l9 : List UInt8) (hl : l9.length = 384) (hb : Blk W g (bCells l9) 5) :
    Calls Try.prog 15 #[.pointer (some ⟨d, 0, none⟩), .int .i64 (p : Nat), .slice (some ⟨g, 0, none⟩) 384 384] W fun e W' => e = .returned (.int .i64 0) ∧ ∃ F' S', LG w0 W' d F' S' l m v5 v6 v7 T ∧ S'.cs = putAt S.cs p (.whole ⟨l9.toArray⟩) ∧ Calm S' ∧ S'.losses = S.losses := by
  have hbuf : Buf W g l9 0 := by
    unfold Buf
    rw [show zc 0 = [] from rfl, List.append_nil]
    exact hb
  have hgF : g ∉ F := fun hm => by
    obtain ⟨c, e, h1, h2⟩ := G.dev.kinds g hm
    have h3 : W.heap[g]? = some (.cells (bCells l9).toArray 5 (0, 0)) := hb
    rw [h1] at h3
    simp only [Option.some.injEq, Obj.cells.injEq] at h3
    have := h3.2.1
    rcases h2 with rfl | rfl | rfl <;> cases this
  have hwr := write_calm hS p hp ⟨l9.toArray⟩ (by show l9.toArray.size ≤ 384; rw [List.size_toArray, hl]; exact Nat.le_refl _)
  refine (write_at d F S (p : Int) (some ⟨g, 0, none⟩) 384 384 g l9 hl.symm W (buf_bslice hbuf) (fun h => by cases h) (fun _ => hgF) G.dev).mono ?_
  rintro e w' ⟨rfl, F', hd, hm⟩
  exact ⟨by rw [hwr.1], F', _, G.devTurn hd hm, hwr.2.1, hwr.2.2.1, hwr.2.2.2⟩
/-- Open where the one region does not count: nothing is told. -/
theorem open_none (G : LG w0 W d F S l m v5 v6 v7 T) (hS : Calm S) (hlen : 4 ≤ S.cs.length) (hc : cnt S.cs 0 = none) :
    Calls Try.prog 9 #[.pointer (some ⟨d, 0, none⟩), .int .i64 0, .int .i64 1] W fun e W' => ∃ lh mh v5h v6h v7h Th S', e = .returned (.tuple #[.pointer (some ⟨lh, 0, none⟩), .int .i64 0]) ∧ LgIn W' lh d mh v5h v6h v7h Th ∧ Th.items = [] ∧ Th.all = [] ∧ Th.regs = [] ∧ Th.num = maxNum 0 (forms S.cs 0 4) ∧ LG w0 W' d F S' l m v5 v6 v7 T := by
  have hcn : cnts S.cs 0 1 = [] := by
    show [] ++ ((cnt S.cs (0 + 4 * 0)).map fun p => (0, p.1, p.2)).toList = []
    rw [hc]; rfl
  refine (open_log sort_one G.dev hS.off 0 1 (by omega) (by omega) (by omega) (by rw [hcn]; exact Nat.zero_le _)).mono ?_
  rintro e w2 ⟨lh, mh, v5h, Th, Sh, rfl, hLh, hSh, hDh, hKh, hlowh, hnewh, hnodh, u1, u2, u3, u4, u5, u6, u7, rsh, u8, u9⟩
  have hrs : rsh = [] := by rw [hcn] at u8; exact List.map_eq_nil_iff.1 u8
  have hregs : Th.regs = [] := by rw [u9, hrs]; rfl
  have hall : Th.all = [] := by unfold Lg.all; rw [hregs, u5]; rfl
  exact ⟨lh, mh, v5h, _, _, Th, Sh, rfl, hLh, by unfold Lg.items; rw [hall]; rfl, hall, hregs, u4, G.devTurn hDh (Moves.of_keep hKh)⟩
end
end Go.Proofs.Ytbjkahdlejaheab
