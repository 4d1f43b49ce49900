/- Two pages of a region change places; what a log of one region tells. -/
import Derived.Test.YtbjkahdlejaheabZr9
set_option linter.unusedVariables false
set_option linter.unusedSimpArgs false
set_option maxRecDepth 8000
namespace Go.Proofs.Ytbjkahdlejaheab
open Go.RowKit Go.Deep Math

/-- Of each key the last one, in their order. -/
def lastOnes : List It → List It
  | [] => []
  | x :: r => if r.any (fun y => decide (y.key = x.key)) = true then lastOnes r else x :: lastOnes r
theorem ones_of : ∀ (l : List Th) (M : List UInt8 → Option (Nat × Nat)), (l.map Th.pos).Nodup → (l.filter (fun t => decide (hasL M l t.it.key = some t.pos))).map Th.it = lastOnes (l.map Th.it)
  | [], M, _ => rfl
  | t :: r, M, h => by
    rw [List.map_cons, List.nodup_cons] at h
    have ih := ones_of r (updK M t.it.key (some t.pos)) h.2
    have hh : hasL M (t :: r) = hasL (updK M t.it.key (some t.pos)) r := rfl
    rw [List.filter_cons, hh, List.map_cons]
    show _ = if (r.map Th.it).any (fun y => decide (y.key = t.it.key)) = true then _ else _
    by_cases hs : (r.map Th.it).any (fun y => decide (y.key = t.it.key)) = true
    · rw [if_pos hs]
      have hne : ¬ (decide (hasL (updK M t.it.key (some t.pos)) r t.it.key = some t.pos) = true) := by
        intro hd
        have hd' := of_decide_eq_true hd
        rw [hasL_or] at hd'
        obtain ⟨x, hx, hk⟩ := List.any_eq_true.1 hs
        obtain ⟨u, hu, rfl⟩ := List.mem_map.1 hx
        have hk' : u.it.key = t.it.key := of_decide_eq_true hk
        cases hq : hasL (fun _ => none) r t.it.key with
        | none =>
          have : ∀ (l : List Th) (k : List UInt8), u ∈ l → u.it.key = k → hasL (fun _ => none) l k ≠ none := by
            intro l
            induction l with
            | nil => intro k h1; cases h1
            | cons a l ih =>
              intro k h1 h2
              show hasL (updK (fun _ => none) a.it.key (some a.pos)) l k ≠ none
              rw [hasL_or]
              rcases List.mem_cons.1 h1 with rfl | h3
              · rw [h2, updK_same]
                cases hasL (fun _ => none) l k <;> simp
              · have := ih k h3 h2
                cases hv : hasL (fun _ => none) l k with
                | none => exact absurd hv this
                | some p => simp
          exact this r _ hu hk' hq
        | some p =>
          rw [hq] at hd'
          have e : p = t.pos := Option.some.inj hd'
          obtain ⟨v, hv, _, hvp⟩ := hasL_mem hq
          exact h.1 (List.mem_map.2 ⟨v, hv, hvp.trans e⟩)
      rw [if_neg hne]
      exact ih
    · rw [if_neg hs]
      have hyes : decide (hasL (updK M t.it.key (some t.pos)) r t.it.key = some t.pos) = true := by
        refine decide_eq_true ?_
        rw [hasL_or, updK_same]
        cases hq : hasL (fun _ => none) r t.it.key with
        | none => rfl
        | some p =>
          obtain ⟨v, hv, hk, _⟩ := hasL_mem hq
          exact absurd (List.any_eq_true.2 ⟨v.it, List.mem_map.2 ⟨v, hv, rfl⟩, decide_eq_true hk⟩) hs
      rw [if_pos hyes, List.map_cons, ih]
theorem items_ones {T : Lg} (hh : T.has = hasL (fun _ => none) T.all) (hp : (T.all.map Th.pos).Nodup) : T.items = lastOnes (T.all.map Th.it) := by
  rw [← ones_of T.all (fun _ => none) hp]
  unfold Lg.items Lg.hadOf Lg.cur
  rw [hh]
/-- Of a log of one region: what its keys have. -/
structure HasI (T : Lg) : Prop where
  has : T.has = hasL (fun _ => none) T.all
  place : ∀ r ∈ T.regs, r.place = 0
  one : T.regs.length ≤ 1
theorem HasI.put {T : Lg} (h : HasI T) (t : Th) : HasI (T.put t) := by
  refine ⟨?_, h.place, h.one⟩
  show updK T.has t.it.key (some t.pos) = _
  rw [put_all, hasL_snoc, h.has]
theorem HasI.cut {T : Lg} (h : HasI T) (hp : (T.all.map Th.pos).Nodup) (v6 : Value) (hn : T.next = 0) : HasI (T.cut v6) ∧ (T.cut v6).all = T.opn := by
  have hl : (T.lose 0).regs = [] ∧ (T.lose 0).has = hasL (fun _ => none) T.opn := by
    cases hq : T.regs with
    | nil =>
      have hi : idxP 0 T.regs = none := by rw [hq]; rfl
      have e : T.lose 0 = T := by unfold Lg.lose; rw [hi]
      rw [e]
      refine ⟨hq, ?_⟩
      rw [h.has]
      unfold Lg.all
      rw [hq]; rfl
    | cons r rest =>
      have h1 := h.one
      rw [hq] at h1
      have hrest : rest = [] := by
        simp only [List.length_cons] at h1
        exact List.eq_nil_of_length_eq_zero (by omega)
      subst hrest
      have hrp : r.place = 0 := h.place r (by rw [hq]; simp)
      have hi : idxP 0 T.regs = some 0 := by
        unfold idxP
        rw [hq, List.findIdx?_cons, if_pos (by simp [hrp])]
      have hlost : T.lost 0 = T.hadOf r.ths := by unfold Lg.lost; rw [hi, hq]; rfl
      refine ⟨by unfold Lg.lose; rw [hi]; show T.regs.eraseIdx 0 = []; rw [hq]; rfl, ?_⟩
      have hhas : (T.lose 0).has = delKeys T.has (T.hadOf r.ths) := by unfold Lg.lose; rw [hi]; show delKeys T.has (T.lost 0) = _; rw [hlost]
      have hall : T.all = r.ths ++ T.opn := by unfold Lg.all; rw [hq]; simp
      rw [hhas]
      exact del_hasL _ _ (by rw [← hall]; exact hp) (by rw [← hall]; exact h.has)
  have hs1 := (lose_same T 0).1
  have hall : (T.cut v6).all = T.opn := by
    unfold Lg.cut
    rw [sealed_all, hn]
    unfold Lg.all
    rw [hl.1, hs1]; rfl
  refine ⟨⟨?_, fun r hr => ?_, ?_⟩, hall⟩
  · rw [hall]
    show (T.lose T.next).has = _
    rw [hn]; exact hl.2
  · have hr2 : r ∈ (T.lose T.next).regs ++ [(⟨T.next, T.num + 1, v6, (T.lose T.next).opn⟩ : Rg)] := hr
    rw [hn, hl.1] at hr2
    simp at hr2
    rw [hr2]
  · show ((T.lose T.next).regs ++ [(⟨T.next, T.num + 1, v6, (T.lose T.next).opn⟩ : Rg)]).length ≤ 1
    rw [hn, hl.1]; simp
section
variable {w0 W : World} {d : Nat} {F : List Nat} {S : Dv} {l m : Nat} {v5 v6 v7 : Value} {T : Lg}
theorem dev_off {L : List Value} {g : Nat} (h : DvAt W d F S) (hb : Blk W g L 5) : g ∉ F := fun hm => by
  obtain ⟨c, e, h1, h2⟩ := h.kinds g hm
  have h3 : W.heap[g]? = some (.cells L.toArray 5 (0, 0)) := hb
  rw [h1] at h3
  simp only [Option.some.injEq, Obj.cells.injEq] at h3
  have := h3.2.1
  rcases h2 with rfl | rfl | rfl <;> cases this
theorem read_two (G : LG w0 W d F S l m v5 v6 v7 T) (hS : Calm S) (cs0 : List Cl) (n : Nat) (c : List UInt8) (hcs : S.cs = put4 cs0 0 n c) (hb : 4 ≤ cs0.length) (hn : n < 18446744073709551616) (p : Nat) (hp : p < 4) :
    Calls Try.prog 19 #[.pointer (some ⟨d, 0, none⟩), .int .i64 (p : Nat)] W fun e W' => ∃ l9 S' g, e = .returned (.tuple #[.slice (some ⟨g, 0, none⟩) 384 384, .int .i64 0]) ∧ Blk W' g (bCells l9) 5 ∧ l9.length = 384 ∧ fmAt S.cs p = some l9 ∧
      LG w0 W' d F S' l m v5 v6 v7 T ∧ S'.cs = S.cs ∧ Calm S' ∧ ∀ gx L, Blk W gx L 5 → Blk W' gx L 5 := by
  have hk : S.cs[p]? = some ⟨.whole ⟨(pageR p n (part9 c p)).toArray⟩, none⟩ := by
    have := put4_in cs0 0 n c (by omega) p hp
    rw [Nat.zero_add] at this
    rw [hcs]; exact this
  obtain ⟨rv, er, hc, hor⟩ := read_page (d := d) (F := F) hk hS.off
  obtain ⟨lf, hf, _, _⟩ := put4_form cs0 0 n c (by omega) hn p hp
  rw [Nat.zero_add, ← hcs] at hf
  rcases hor with ⟨_, _, hno⟩ | ⟨rfl, hrv, l9, hl9⟩
  · cases hno
  refine (hc W G.dev).mono ?_
  rintro e w' ⟨rfl, hd, hkp, hbl⟩
  obtain ⟨hb9, hlen⟩ := hbl l9 hl9
  have hfm : fmAt S.cs p = some l9 := by
    have h1 : fmAt S.cs p = fmPg (.whole ⟨(pageR p n (part9 c p)).toArray⟩) := by unfold fmAt; rw [hk]; rfl
    rw [h1] at hf ⊢
    unfold fmPg at hf ⊢
    have h2 : pgText (.whole ⟨(pageR p n (part9 c p)).toArray⟩) = some l9 := hl9
    rw [h2] at hf ⊢
    simp only [Option.bind_some] at hf ⊢
    split at hf
    · rename_i hq; rw [if_pos hq]
    · cases hf
  have hs := readDo_same S (p : Int) hS
  exact ⟨l9, _, _, by rw [hrv], hb9, hlen, hfm, G.devTurn hd (Moves.of_keep hkp), hs.1, hs.2.1, fun gx L hx => hx.same (hkp.block gx hx.lt (dev_off G.dev hx))⟩
theorem write_two (G : LG w0 W d F S l m v5 v6 v7 T) (hS : Calm S) (p : Nat) (hp : p < S.cs.length) (g : Nat) (l9 : List UInt8) (hl : l9.length = 384) (hb : Blk W g (bCells l9) 5) :
    Calls Try.prog 15 #[.pointer (some ⟨d, 0, none⟩), .int .i64 (p : Nat), .slice (some ⟨g, 0, none⟩) 384 384] W fun e W' => e = .returned (.int .i64 0) ∧ ∃ F' S', LG w0 W' d F' S' l m v5 v6 v7 T ∧ S'.cs = putAt S.cs p (.whole ⟨l9.toArray⟩) ∧ Calm S' ∧ ∀ gx L, Blk W gx L 5 → Blk W' gx L 5 := by
  have hbuf : Buf W g l9 0 := by
    unfold Buf
    rw [show zc 0 = [] from rfl, List.append_nil]
    exact hb
  have hwr := write_calm hS p hp ⟨l9.toArray⟩ (by show l9.toArray.size ≤ 384; rw [List.size_toArray, hl]; exact Nat.le_refl _)
  refine (write_at d F S (p : Int) (some ⟨g, 0, none⟩) 384 384 g l9 hl.symm W (buf_bslice hbuf) (fun h => by cases h) (fun _ => dev_off G.dev hb) G.dev).mono ?_
  rintro e w' ⟨rfl, F', hd, hm⟩
  exact ⟨by rw [hwr.1], F', _, G.devTurn hd hm, hwr.2.1, hwr.2.2.1, fun gx L hx => hx.same (hm.keep.block gx hx.lt (dev_off G.dev hx))⟩
/-- Open where the one region counts. -/
theorem open_same (G : LG w0 W d F S l m v5 v6 v7 T) (hS : Calm S) (hlen : 4 ≤ S.cs.length) (n : Nat) (xs : List It) (hc : cnt S.cs 0 = some (n, xs)) :
    Calls Try.prog 9 #[.pointer (some ⟨d, 0, none⟩), .int .i64 0, .int .i64 1] W fun e W' => ∃ lh mh v5h Tq S', e = .returned (.tuple #[.pointer (some ⟨lh, 0, none⟩), .int .i64 0]) ∧ LgIn W' lh d mh v5h (.slice none 0 0) (.slice none 0 0) Tq ∧ Tq.items = lastOnes xs ∧ Tq.all.length ≤ 46 ∧ Tq.regs.length ≤ 1 ∧ LG w0 W' d F S' l m v5 v6 v7 T := by
  have hcn : cnts S.cs 0 1 = [(0, n, xs)] := by
    show [] ++ ((cnt S.cs (0 + 4 * 0)).map fun p => (0, p.1, p.2)).toList = _
    rw [show 0 + 4 * 0 = 0 from rfl, hc]; rfl
  refine (open_log sort_one G.dev hS.off 0 1 (by omega) (by omega) (by omega) (by rw [hcn]; simp)).mono ?_
  rintro e w2 ⟨lh, mh, v5h, Tq, Sh, rfl, hLh, hSh, hDh, hKh, hlowh, hnewh, hnodh, u1, u2, u3, u4, u5, u6, u7, rsh, u8, u9⟩
  have hlen1 : rsh.length = 1 := by
    have := congrArg List.length u8
    rw [hcn, List.length_map] at this
    simpa using this
  have hregs : Tq.regs = rsh := by rw [u9]; exact isort_one _ (by omega)
  have hall : Tq.all.map Th.it = xs := by
    rw [all_flat, hregs, u8, hcn, u5]
    simp [flatI]
  refine ⟨lh, mh, v5h, Tq, Sh, rfl, hLh, ?_, ?_, by rw [hregs]; omega, G.devTurn hDh (Moves.of_keep hKh)⟩
  · rw [items_ones u7 hnodh, hall]
  · have h1 := congrArg List.length hall
    rw [List.length_map] at h1
    rw [h1]
    exact (cnt_len hc).1
end
/-- Two pages have changed places. -/
theorem swap_cnt {cs : List Cl} {n A B : Nat} (PF : ∀ k, k < 4 → ∃ l, fmAt cs k = some l ∧ fmPlace l = k ∧ fmNum l = n) (hA : A < 4) (hB : B < 4) (hlen : 4 ≤ cs.length) {la lb : List UInt8} (ha : fmAt cs A = some la) (hb : fmAt cs B = some lb) (hla : la.length = 384) (hlb : lb.length = 384) (hne : A ≠ B) :
    cnt (putAt (putAt cs A (.whole ⟨lb.toArray⟩)) B (.whole ⟨la.toArray⟩)) 0 = none ∧ maxNum 0 (forms (putAt (putAt cs A (.whole ⟨lb.toArray⟩)) B (.whole ⟨la.toArray⟩)) 0 4) = n := by
  have hfA : isForm la = true := by
    have := forms_form cs 0 4 la ((forms_mem 4).2 ⟨A, hA, by rw [Nat.zero_add]; exact ha⟩); exact this
  have hfB : isForm lb = true := by
    have := forms_form cs 0 4 lb ((forms_mem 4).2 ⟨B, hB, by rw [Nat.zero_add]; exact hb⟩); exact this
  have PF' : ∀ k, ∃ l, k < 4 → (fmAt cs k = some l ∧ fmPlace l = k ∧ fmNum l = n) := fun k => by
    by_cases h : k < 4
    · obtain ⟨l, hl⟩ := PF k h
      exact ⟨l, fun _ => hl⟩
    · exact ⟨[], fun h' => absurd h' h⟩
  obtain ⟨f0, hf0⟩ : ∃ f0 : Nat → List UInt8, ∀ k, k < 4 → (fmAt cs k = some (f0 k) ∧ fmPlace (f0 k) = k ∧ fmNum (f0 k) = n) := ⟨fun k => Classical.choose (PF' k), fun k => Classical.choose_spec (PF' k)⟩
  have ea : f0 A = la := by have := (hf0 A hA).1; rw [ha] at this; exact (Option.some.inj this).symm
  have eb : f0 B = lb := by have := (hf0 B hB).1; rw [hb] at this; exact (Option.some.inj this).symm
  obtain ⟨f, hf⟩ : ∃ f : Nat → List UInt8, f = fun k => if k = B then la else if k = A then lb else f0 k := ⟨_, rfl⟩
  have fB : f B = la := by rw [hf]; simp
  have fA : f A = lb := by rw [hf]; simp [hne]
  have fo : ∀ k, k ≠ A → k ≠ B → f k = f0 k := fun k h1 h2 => by rw [hf]; simp [h1, h2]
  have h : ∀ k, k < 4 → fmAt (putAt (putAt cs A (.whole ⟨lb.toArray⟩)) B (.whole ⟨la.toArray⟩)) (0 + k) = some (f k) := fun k hk => by
    rw [Nat.zero_add]
    by_cases e1 : k = B
    · rw [e1, fB]; exact fm_put_same _ B la (by rw [putAt_length]; omega) hla hfA
    · rw [fm_put_other _ B k _ e1]
      by_cases e2 : k = A
      · rw [e2, fA]; exact fm_put_same cs A lb (by omega) hlb hfB
      · rw [fm_put_other cs A k _ e2, fo k e2 e1]; exact (hf0 k hk).1
  refine ⟨cnt_odd f h A hA (.inl ?_), ?_⟩
  · rw [fA, ← eb, (hf0 B hB).2.1]
    exact Ne.symm hne
  · rw [max_same f h n (fun k hk => ?_) 0]
    · omega
    · by_cases e1 : k = B
      · rw [e1, fB, ← ea]; exact (hf0 A hA).2.2
      · by_cases e2 : k = A
        · rw [e2, fA, ← eb]; exact (hf0 B hB).2.2
        · rw [fo k e2 e1]; exact (hf0 k hk).2.2
theorem same_cnt {cs : List Cl} {A : Nat} (hA : A < 4) (hlen : 4 ≤ cs.length) {la : List UInt8} (ha : fmAt cs A = some la) (hla : la.length = 384) :
    cnt (putAt (putAt cs A (.whole ⟨la.toArray⟩)) A (.whole ⟨la.toArray⟩)) 0 = cnt cs 0 := by
  have hfA : isForm la = true := forms_form cs 0 4 la ((forms_mem 4).2 ⟨A, hA, by rw [Nat.zero_add]; exact ha⟩)
  refine cnt_congr (forms_congr 4 (fun j hj => ?_))
  rw [Nat.zero_add]
  by_cases e : j = A
  · rw [e, fm_put_same _ A la (by rw [putAt_length]; omega) hla hfA, ha]
  · rw [fm_put_other _ A j _ e, fm_put_other _ A j _ e]
end Go.Proofs.Ytbjkahdlejaheab
