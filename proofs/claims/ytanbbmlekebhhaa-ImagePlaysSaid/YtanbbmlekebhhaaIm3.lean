/- Package image: 'records', 'items'. -/
import Derived.Test.YtanbbmlekebhhaaIm2
set_option linter.unusedVariables false
set_option linter.unusedSimpArgs false
set_option maxRecDepth 8000
namespace Go.Proofs.Ytanbbmlekebhhaa
open Go.RowKit Go.Deep Math

theorem own_bs {w : World} {base : Nat} {a : Option Addr} {n c : Nat} {l : List UInt8} (h : w.ownsRow base 5 1 (.slice a n c) n (bCells l)) : BS w a n c l ∧ c ≤ 9223372036854775807 := by
  have hn : n = l.length := by have := h.1; rw [bCells_length] at this; omega
  rcases h.2 with ⟨h1, h0⟩ | ⟨g, cap, cur, hv, hb, hh, hc, hm, hs, htk⟩
  · simp only [Value.slice.injEq] at h1
    obtain ⟨rfl, rfl, rfl⟩ := h1
    have hl : l = [] := List.eq_nil_of_length_eq_zero hn.symm
    subst hl
    exact ⟨BS.mk' rfl (Nat.le_refl _) (Reads.nil _ _), by omega⟩
  · simp only [Value.slice.injEq] at hv
    obtain ⟨rfl, _, rfl⟩ := hv
    refine ⟨BS.mk' hn hc ⟨fun i hi => ⟨g, 0, rfl, ?_⟩, fun i => ?_⟩, hm⟩
    · rw [ints_length] at hi
      have h1 : (cur.toList.take (n * 1))[i]? = some (.int .u8 ((l[i]).toNat : Int)) := by
        rw [htk]
        simp [bCells, List.getElem?_eq_getElem hi]
      rw [List.getElem?_take] at h1
      rw [Nat.zero_add, ints_getD]
      split at h1
      · simp [World.cell?, hh, ← Array.getElem?_toList, h1, List.getD_eq_getElem?_getD, List.getElem?_eq_getElem hi]
      · cases h1
    · rw [ints_getD]
      have := (l.getD i 0).toNat_lt
      omega
theorem own_slice {w : World} {base : Nat} {e : TypeId} {sz : Nat} {v : Value} {n : Nat} {xs : List Value} (h : w.ownsRow base e sz v n xs) : ∃ a c, v = .slice a n c := by
  rcases h.2 with ⟨h1, h0⟩ | ⟨g, cap, cur, hv, _⟩
  · exact ⟨none, 0, by rw [h1, h0]⟩
  · exact ⟨_, _, hv⟩
theorem own_some {w : World} {base : Nat} {e : TypeId} {sz : Nat} {v : Value} {n : Nat} {xs : List Value} (h : w.ownsRow base e sz v n xs) (hn : 0 < n) : ∃ g c, v = .slice (some ⟨g, 0, none⟩) n c := by
  rcases h.2 with ⟨h1, h0⟩ | ⟨g, cap, cur, hv, _⟩
  · omega
  · exact ⟨_, _, hv⟩

theorem total_mem {xs : List It} {x : It} {i : Nat} (h : xs[i]? = some x) : x.size ≤ total xs := by
  have h1 := total_take_succ xs i x h
  have h2 := total_take_le xs (i + 1)
  omega
theorem encs_take_succ (xs : List It) (i : Nat) (x : It) (h : xs[i]? = some x) : encs (xs.take (i + 1)) = encs (xs.take i) ++ x.enc := by
  rw [List.take_add_one, h, encs_append]; simp [encs]

def RecsPost (w : World) (xs : List It) (e : Ending) (w' : World) : Prop :=
  ∃ v, e = .returned v ∧ w'.ownsRow w.heap.size 5 1 v (total xs) (bCells (encs xs)) ∧ Below w.heap.size w w'

set_option maxHeartbeats 1000000 in
theorem records15 (a : Option Addr) (n cap : Nat) (xs : List It) (hg : ∀ x ∈ xs, x.good = true) (ht : total xs ≤ 1099511627776) (hn63 : n ≤ 9223372036854775807) (w : World) (h : RawAt w a n xs) :
    Calls Try.prog 32 #[.slice a n cap] w (RecsPost w xs) := by
  have H := hide h
  have HG := hide hg
  have HT := hide ht
  clear h hg ht
  obtain ⟨i0, hi0, hp0⟩ := Option.map_eq_some_iff.1 info5
  simp only [Prod.mk.injEq] at hp0
  obtain ⟨hz0, hz1, hz2⟩ := hp0
  go_enter Try.func32, Try.ntmps32
  go_wp2_with fail
  go_loopg [3, 10] n (fun kx s3 s10 wr => ∃ (i : Nat) (va : Option Addr) (vk vc : Nat), s10 = .int .i64 i ∧ s3 = .slice va vk vc ∧ i ≤ n ∧ n - i ≤ kx ∧ Hid (wr.ownsRow w.heap.size 5 1 (.slice va vk vc) (total (xs.take i)) (bCells (encs (xs.take i))) ∧ Below w.heap.size w wr))
  case atStart => exact ⟨0, none, 0, 0, rfl, rfl, Nat.zero_le _, by omega, World.ownsRow_nil _ _ _ _, Below.refl _ _⟩
  case round =>
    obtain ⟨i, va, vk, vc, rfl, rfl, hin, hk, I⟩ := hrel
    by_cases hlt : i < n
    · have hlt2 : (i : Int) < (n : Int) := by omega
      obtain ⟨x, hx⟩ : ∃ x, xs[i]? = some x := ⟨_, List.getElem?_eq_getElem (by rw [← H.out.len]; exact hlt)⟩
      obtain ⟨b, o, rfl, hb, hc⟩ := H.out.cell i x hx
      have hc' := hc.below I.out.2 hb
      have c0 := hc'.c0
      have c1 := hc'.c1
      have c2 := hc'.c2
      have c3 := hc'.c3
      have c4 := hc'.c4
      have hbw : b < wr.heap.size := Nat.lt_of_lt_of_le hb I.out.2.size
      have hmx := List.mem_of_getElem? hx
      have hgx := HG.out x hmx
      have cp := hide (rput_ok x (H.out.fits x hmx) hgx)
      have ev : x.val = .agg #[.string (txt x.key), .string (txt x.value), .int .u32 x.flags, .int .i64 x.exp, .int .u64 x.ver] := rfl
      rw [ev] at cp
      have TT := hide (total_take_succ xs i x hx)
      have TL := hide (total_take_le xs (i + 1))
      have EE := hide (encs_take_succ xs i x hx)
      have EL := hide x.enc_length
      have hsz : x.size ≤ 1099511627776 := by have := total_mem hx; have := HT.out; omega
      have HSZ := hide hsz
      generalize x.enc = xe at *
      generalize x.size = sz at *
      clear hc hc' hx hmx hgx ev
      go_wp2_with (first
        | (go_at_call 56; refine (cp.out _).mono ?_; rintro r w1 ⟨g, rfl, hg1, hb1, b1⟩; have B1 := hide b1; have HB1 := hide hb1; clear b1 hb1)
        | (at_builtin; refine wpList_append_own _ rfl _ _ 39 rfl w.heap.size 5 i0 _ 1 1 Try.underlying39 hi0 hz0 hz1 hz2 rfl (by decide) _ _ _ rfl (rown_below (I.out.1.alloc _) B1.out) ⟨g, 0, none⟩ sz sz (bCells xe) rfl ?qc1 ?qc2 ?qc3 ?qc4 ?qc5 ?qc6 ?_))
      case qc1 => rw [bCells_length, EL.out, Nat.mul_one]
      case qc2 =>
        intro j u hj
        rw [Addr.add_lit, Nat.zero_add]
        have := HB1.out
        unfold Buf at this
        refine this.cell ?_
        rw [show zc 0 = [] from rfl, List.append_nil]
        exact hj
      case qc3 => exact bCells_one _
      case qc4 => have := HT.out; have := TT.out; have := TL.out; unfold maxLen; omega
      case qc5 => have := HT.out; have := TT.out; have := TL.out; omega
      case qc6 => have := I.out.2.size; have := B1.out.size; rw [nblk_alloc] at this; omega
      intro v' w2 hown hgrow hnil
      rw [← bCells_append, ← EE.out, ← TT.out] at hown
      obtain ⟨a', c', rfl⟩ := own_slice hown
      have hB2 : Below w.heap.size w w2 := by
        have h1 := (I.out.2.alloc I.out.2.size (.cells #[.string (txt x.key), .string (txt x.value), .int .u32 x.flags, .int .i64 x.exp, .int .u64 x.ver] 32))
        have h2 := h1.trans (B1.out.mono h1.size)
        exact h2.grown hgrow h2.size (fun k hk => (I.out.1.lt k hk).1)
      have FO := hide hown
      have FB := hide hB2
      clear hown hgrow hnil hB2
      go_wp2_with fail
      go_roundg (n - (i + 1))
      case measure => omega
      case rel => exact ⟨i + 1, a', _, c', rfl, rfl, by omega, by omega, FO.out, FB.out⟩
    · obtain rfl : i = n := by omega
      have hlt2 : ¬ (i : Int) < (i : Int) := by omega
      go_wp2
      go_ret
      refine ⟨_, rfl, ?_, I.out.2⟩
      have := I.out.1
      rw [H.out.len, List.take_length] at this
      exact this

/-- What bytes are records to their end. -/
def lsiF : Nat → List UInt8 → Option (List It)
  | 0, _ => some []
  | f + 1, b => if b.length = 0 then some [] else match (take b).v with
    | some (some (x, n)) => (lsiF f (b.drop n)).map (x :: ·)
    | _ => none
def lsi (b : List UInt8) : Option (List It) := lsiF (b.length + 1) b
theorem lsiF_more : ∀ (f g : Nat) (b : List UInt8), b.length < f → b.length < g → lsiF f b = lsiF g b
  | 0, _, _, h, _ => absurd h (by omega)
  | _, 0, _, _, h => absurd h (by omega)
  | f + 1, g + 1, b, hf, hg => by
    unfold lsiF
    split
    · rfl
    cases hv : (take b).v with
    | none => rfl
    | some o =>
      cases o with
      | none => rfl
      | some p =>
        obtain ⟨x, n⟩ := p
        have ht : take b = .ok x n := by
          cases hb : take b with
          | mk v => rw [hb] at hv; simp only at hv; rw [hv]
        obtain ⟨_, _, h3, h4, _⟩ := take_ok ht
        have := x.size_pos
        have hd : (b.drop n).length < b.length := by rw [List.length_drop]; omega
        simp only
        rw [lsiF_more f g (b.drop n) (by omega) (by omega)]
theorem lsi_nil : lsi [] = some [] := rfl
theorem lsi_bad {b : List UInt8} (h0 : b.length ≠ 0) (h : take b = .bad) : lsi b = none := by
  unfold lsi lsiF; rw [if_neg h0, h]
theorem lsi_end {b : List UInt8} (h0 : b.length ≠ 0) (h : take b = .none) : lsi b = none := by
  unfold lsi lsiF; rw [if_neg h0, h]
theorem lsi_ok {b : List UInt8} {x : It} {n : Nat} (h : take b = .ok x n) : lsi b = (lsi (b.drop n)).map (x :: ·) := by
  obtain ⟨_, _, h3, h4, _⟩ := take_ok h
  have := x.size_pos
  have hd : (b.drop n).length < b.length := by rw [List.length_drop]; omega
  have e : lsi b = (lsiF b.length (b.drop n)).map (x :: ·) := by
    show lsiF (b.length + 1) b = _
    rw [lsiF, if_neg (by omega), h]
  rw [e, lsiF_more b.length ((b.drop n).length + 1) (b.drop n) (by omega) (by omega)]
  rfl
theorem lsi_encs : ∀ (xs : List It), (∀ x ∈ xs, x.fits ∧ x.good = true) → lsi (encs xs) = some xs
  | [], _ => rfl
  | x :: r, h => by
    have hx := h x (by simp)
    rw [encs, lsi_ok (take_rec x hx.1 hx.2 _), List.drop_left' x.enc_length, lsi_encs r (fun y hy => h y (by simp [hy]))]
    rfl

/-- What 'items' answers, from memory of its own. -/
def ItsPost (w : World) (o : Option (List It)) (e : Ending) (w' : World) : Prop := Below w.heap.size w w' ∧ match o with
  | none => e = .returned (.tuple #[.slice none 0 0, .int .i64 3])
  | some xs => ∃ v, e = .returned (.tuple #[v, .int .i64 0]) ∧ w'.ownsRow w.heap.size 32 5 v xs.length (itsCells xs)

set_option maxHeartbeats 1000000 in
theorem items15 (ht : TakeIs) (a : Option Addr) (n cap : Nat) (l : List UInt8) (hcap : cap ≤ 9223372036854775807) (hn20 : n ≤ 1099511627776) (w : World) (h : BS w a n cap l) :
    Calls Try.prog 35 #[.slice a n cap] w (ItsPost w (lsi l)) := by
  have H := hide h
  clear h
  go_enter Try.func35, Try.ntmps35
  go_wp2_with fail
  obtain ⟨i0, hi0, hp0⟩ := Option.map_eq_some_iff.1 info30
  simp only [Prod.mk.injEq] at hp0
  obtain ⟨hz0, hz1, hz2⟩ := hp0
  have hn : n ≤ cap := H.out.cap
  go_loopg [0, 4] n (fun kx s0 s4 wr => ∃ (a' : Option Addr) (n' c' : Nat) (va : Option Addr) (vk vc : Nat), s0 = .slice a' n' c' ∧ s4 = .slice va vk vc ∧ n' ≤ kx ∧ n' ≤ c' ∧ c' ≤ 9223372036854775807 ∧ ∃ (acc : List It) (r : List UInt8), Hid (BS w a' n' c' r ∧ wr.ownsRow w.heap.size 32 5 (.slice va vk vc) acc.length (itsCells acc) ∧ lsi l = (lsi r).map (acc ++ ·) ∧ Below w.heap.size w wr ∧ acc.length + n' ≤ n))
  case atStart => exact ⟨a, n, cap, none, 0, 0, rfl, rfl, Nat.le_refl _, hn, hcap, [], l, H.out, World.ownsRow_nil _ _ _ _, by cases lsi l <;> simp, Below.refl _ _, by simp⟩
  case round =>
    obtain ⟨a', n', c', va, vk, vc, rfl, rfl, hk, hnc, hc20, acc, r, I⟩ := hrel
    by_cases hE : n' = 0
    · have E : Hid (lsi l = some acc) := by
        show _ = _
        have h2 : r = [] := List.eq_nil_of_length_eq_zero (by have := I.out.1.len; omega)
        rw [I.out.2.2.1, h2, lsi_nil]
        simp
      have hE2 : ¬ (0 : Int) < (n' : Int) := by omega
      clear hE
      go_wp2
      go_ret2
      rw [E.out]
      exact ⟨I.out.2.2.2.1, _, rfl, I.out.2.1⟩
    · have ct := hide (ht a' n' c' r (by omega) wr (I.out.1.later I.out.2.2.2.1))
      have hpos : 0 < n' := by omega
      have hrl : r.length ≠ 0 := by have := I.out.1.len; omega
      obtain ⟨b, off, rfl, _, _⟩ := I.out.1.cell 0 hpos
      have hE2 : (0 : Int) < (n' : Int) := by omega
      rcases hT : take r with ⟨_ | _ | ⟨x, sz⟩⟩
      · rw [hT] at ct
        have E : Hid (lsi l = none) := by
          show _ = _
          rw [I.out.2.2.1, lsi_end hrl hT]
          rfl
        have etk : tkV Tk.none = .tuple #[.agg #[.string (txt []), .string (txt []), .int .u32 0, .int .i64 0, .int .u64 0], .int .i64 0, .int .i64 5] := rfl
        rw [etk] at ct
        clear hE hT etk hrl
        generalize txt [] = nb at ct
        go_wp2_with (go_at_call 58; refine ct.out.mono ?_; rintro r1 w1 ⟨rfl, b1⟩; have B1 := hide b1; clear b1)
        go_ret2
        rw [E.out]
        exact ⟨((I.out.2.2.2.1.trans (B1.out.mono I.out.2.2.2.1.size)).alloc (Nat.le_trans I.out.2.2.2.1.size B1.out.size) _), rfl⟩
      · rw [hT] at ct
        have E : Hid (lsi l = none) := by
          show _ = _
          rw [I.out.2.2.1, lsi_bad hrl hT]
          rfl
        have etk : tkV Tk.bad = .tuple #[.agg #[.string (txt []), .string (txt []), .int .u32 0, .int .i64 0, .int .u64 0], .int .i64 0, .int .i64 3] := rfl
        rw [etk] at ct
        clear hE hT etk hrl
        generalize txt [] = nb at ct
        go_wp2_with (go_at_call 58; refine ct.out.mono ?_; rintro r1 w1 ⟨rfl, b1⟩; have B1 := hide b1; clear b1)
        go_ret2
        rw [E.out]
        exact ⟨((I.out.2.2.2.1.trans (B1.out.mono I.out.2.2.2.1.size)).alloc (Nat.le_trans I.out.2.2.2.1.size B1.out.size) _), rfl⟩
      · obtain ⟨t1, t2, t3, t4, t5⟩ := take_ok hT
        rw [hT] at ct
        have E : Hid (lsi l = (lsi (r.drop sz)).map ((acc ++ [x]) ++ ·)) := by
          show _ = _
          rw [I.out.2.2.1, lsi_ok hT]
          cases lsi (r.drop sz) <;> simp
        have etk : tkV (Tk.ok x sz) = .tuple #[.agg #[.string (txt x.key), .string (txt x.value), .int .u32 x.flags, .int .i64 x.exp, .int .u64 x.ver], .int .i64 sz, .int .i64 0] := rfl
        rw [etk] at ct
        have hsz : sz ≤ n' := by rw [I.out.1.len]; exact t4
        have hsp : 0 < sz := by rw [t3]; exact x.size_pos
        have hszi : (sz : Int) ≤ (n' : Int) := by omega
        have SP := hide hsp
        have SZ := hide hsz
        clear hE hT etk t1 t2 t3 t4 t5 hsp hsz hrl
        have hac : acc.length ≤ 1099511627776 := by have := I.out.2.2.2.2; omega
        have HAC := hide (show acc.length + 1 ≤ 1099511627776 by have := I.out.2.2.2.2; omega)
        go_wp2_with (first
          | (go_at_call 58; refine ct.out.mono ?_; rintro r1 w1 ⟨rfl, b1⟩; have B1 := hide b1; clear b1)
          | (at_builtin; refine wpList_append_own _ rfl _ _ 33 rfl w.heap.size 32 i0 _ 5 56 Try.underlying33 hi0 hz0 hz1 hz2 rfl (by decide) _ _ _ rfl (((rown_below I.out.2.1 B1.out).alloc _).alloc _) ⟨w1.heap.size + 1, 0, none⟩ 1 1 (itCells x) rfl ?qc1 ?qc2 ?qc3 ?qc4 ?qc5 ?qc6 ?_))
        case qc1 => rfl
        case qc2 =>
          intro j u hj
          rw [Addr.add_lit, Nat.zero_add]
          have hh := (Blk.new (w1.alloc (.cells #[.string (txt x.key), .string (txt x.value), .int .u32 x.flags, .int .i64 x.exp, .int .u64 x.ver] 32)) (itCells x) 32).cell hj
          rw [nblk_alloc] at hh
          exact hh
        case qc3 => intro u hu; simp [itCells] at hu; rcases hu with rfl | rfl | rfl | rfl | rfl <;> rfl
        case qc4 => have := HAC.out; unfold maxLen; omega
        case qc5 => have := HAC.out; omega
        case qc6 => have := I.out.2.2.2.1.size; have := B1.out.size; simp; omega
        intro v' w2 hown hgrow hnil
        obtain ⟨g2, cp2, rfl⟩ : ∃ g2 cp2, v' = .slice (some ⟨g2, 0, none⟩) (acc.length + 1) cp2 := own_some hown (by omega)
        have hB2 : Below w.heap.size w w2 := by
          have h1 := I.out.2.2.2.1.trans (B1.out.mono I.out.2.2.2.1.size)
          have h2 := (h1.alloc h1.size (.cells #[.string (txt x.key), .string (txt x.value), .int .u32 x.flags, .int .i64 x.exp, .int .u64 x.ver] 32))
          have h3 := (h2.alloc h2.size (.cells #[.string (txt x.key), .string (txt x.value), .int .u32 x.flags, .int .i64 x.exp, .int .u64 x.ver] 32))
          exact h3.grown hgrow h3.size (fun k hk => (I.out.2.1.lt k hk).1)
        rw [itsCells_snoc] at hown
        have FO := hide hown
        have FB := hide hB2
        clear hown hgrow hnil hB2
        have hl : Hid (acc.length + 1 = (acc ++ [x]).length) := by show _ = _; simp
        have szl : Hid (n' - sz = (r.drop sz).length) := by show _ = _; rw [List.length_drop, ← I.out.1.len]
        by_cases hce : c' = sz
        · have hc2 : (c' = sz) = True := eq_true hce
          have HCE := hide hce
          clear hce
          go_wp2
          go_roundg (n' - sz)
          case measure => have := SP.out; omega
          case rel =>
            refine ⟨_, n' - sz, c' - sz, _, _, _, rfl, rfl, Nat.le_refl _, by omega, by omega, acc ++ [x], r.drop sz, ?_, ?_, E.out, FB.out, ?_⟩
            · have h0 : r.drop sz = [] := List.eq_nil_of_length_eq_zero (by have := szl.out; have := HCE.out; omega)
              rw [h0]
              have := HCE.out
              exact ⟨by simp; omega, by omega, Reads.nil _ _, fun i hi => absurd hi (by omega)⟩
            · rw [← hl.out]; exact FO.out
            · rw [← hl.out]; have := I.out.2.2.2.2; have := SP.out; have := SZ.out; omega
        · go_wp2
          go_roundg (n' - sz)
          case measure => have := SP.out; omega
          case rel =>
            refine ⟨_, n' - sz, c' - sz, _, _, _, rfl, rfl, Nat.le_refl _, by omega, by omega, acc ++ [x], r.drop sz, ?_, ?_, E.out, FB.out, ?_⟩
            · have h0 := I.out.1.sub sz n' (off + sz) (n' - sz) (c' - sz) rfl SZ.out (Nat.le_refl _) rfl (by omega)
              rw [show sl r sz n' = r.drop sz by unfold sl; rw [I.out.1.len, List.take_length]] at h0
              exact h0
            · rw [← hl.out]; exact FO.out
            · rw [← hl.out]; have := I.out.2.2.2.2; have := SP.out; have := SZ.out; omega
end Go.Proofs.Ytanbbmlekebhhaa
