/- Texts joined: RLayB, RList, RItem, REq, RItems, RRow. -/
import Derived.Test.YtbccnfbombgdmaaGreatJ04
import Derived.Laws.AppendOwn
import Derived.ChangeSlices
import Derived.Deep.Slices
import Derived.SizedLaws
import Derived.Laws.StructEq
import Derived.Deep.RegionHeld
/- 'Lay'. -/
set_option linter.unusedVariables false
set_option linter.unusedSimpArgs false
namespace Go.Proofs.YtbccnfbombgdmaaGreat
open Go.RowKit Go.Deep Math

def layErr (e : Int) : Value := .tuple #[.slice none 0 0, .int .i64 e]

set_option maxHeartbeats 400000 in
theorem lay_big (a : Option Addr) (n cap : Nat) (room : Int) (hr : 65536 < room) (w : World) :
    Calls Tryz.prog 67 #[.slice a n cap, .int .i64 room] w fun e w' => e = .returned (layErr 1) ∧ w' = w := by
  go_enter Tryz.func67, Tryz.ntmps67
  go_wp2
  go_ret2
  exact ⟨rfl, rfl⟩

set_option maxHeartbeats 400000 in
theorem lay_bad (a : Option Addr) (n cap : Nat) (xs : List It) (room : Int) (hr : room ≤ 65536) (hn63 : n ≤ 9223372036854775807) (w : World) (h : ItsAt w a n xs) (hg : xs.all It.good = false) :
    Calls Tryz.prog 67 #[.slice a n cap, .int .i64 room] w fun e w' => e = .returned (layErr 1) ∧ Below w.heap.size w w' := by
  have ca := hide (allGood_any a n cap xs hn63 w h)
  rw [hg] at ca
  have hr2 : ¬ (65536 < room) := by omega
  clear h hg hr hn63
  go_enter Tryz.func67, Tryz.ntmps67
  go_wp2_with (go_at_call 84; refine ca.out.mono ?_; rintro r w1 ⟨rfl, b1⟩; have B1 := hide b1; clear b1)
  go_ret2
  exact ⟨rfl, B1.out⟩

set_option maxHeartbeats 400000 in
theorem lay_full (a : Option Addr) (n cap : Nat) (xs : List It) (room : Int) (hr0 : -9223372036854775808 ≤ room) (hr : room ≤ 65536) (hn63 : n ≤ 9223372036854775807) (w : World) (h : ItsAt w a n xs) (hg : xs.all It.good = true) (hfull : ¬ (total xs : Int) ≤ room) :
    Calls Tryz.prog 67 #[.slice a n cap, .int .i64 room] w fun e w' => e = .returned (layErr 7) ∧ Below w.heap.size w w' := by
  have ca := hide (allGood_any a n cap xs hn63 w h)
  rw [hg] at ca
  have cf := hide (fun w1 (b : Below w.heap.size w w1) => fit_any a n cap xs room hr0 hr hn63 w1 (h.below b))
  rw [decide_eq_false hfull] at cf
  have hr2 : ¬ (65536 < room) := by omega
  clear h hg hr hn63 hfull hr0
  go_enter Tryz.func67, Tryz.ntmps67
  go_wp2_with (go_at_call 84; refine ca.out.mono ?_; rintro r w1 ⟨rfl, b1⟩; have B1 := hide b1; clear b1)
  go_wp2_with (go_at_call 85; refine (cf.out _ B1.out).mono ?_; rintro r w2 ⟨rfl, b2⟩; have B2 := hide (B1.out.trans (b2.mono B1.out.size)); clear b2)
  go_ret2
  exact ⟨rfl, B2.out⟩

set_option maxHeartbeats 1000000 in
theorem lay_ok (a : Option Addr) (n cap : Nat) (xs : List It) (room : Nat) (hr : room ≤ 65536) (hn63 : n ≤ 9223372036854775807) (w : World) (h : ItsAt w a n xs) (hg : xs.all It.good = true) (hfit : total xs ≤ room) :
    Calls Tryz.prog 67 #[.slice a n cap, .int .i64 room] w fun e w' => ∃ g, e = .returned (.tuple #[.slice (some ⟨g, 0, none⟩) room room, .int .i64 0]) ∧ w.heap.size ≤ g ∧ Buf w' g (encs xs) (room - total xs) ∧ Below w.heap.size w w' := by
  have ca := hide (allGood_any a n cap xs hn63 w h)
  rw [hg] at ca
  have cf := hide (fun w1 (b : Below w.heap.size w w1) => fit_any a n cap xs (room : Int) (by omega) (by omega) hn63 w1 (h.below b))
  rw [decide_eq_true (show (total xs : Int) ≤ (room : Int) by omega)] at cf
  have hr2 : ¬ (65536 < (room : Int)) := by omega
  have hmk := make_cap room (by omega)
  have HR := hide hr
  have HF := hide hfit
  have HG := hide hg
  generalize hZ : (zc room).toArray = Z at hmk
  have HZ := hide hZ
  have H := hide h
  clear h hg hr hfit hZ
  go_enter Tryz.func67, Tryz.ntmps67
  go_wp2_with (go_at_call 84; refine ca.out.mono ?_; rintro r w1 ⟨rfl, b1⟩; have B1 := hide b1; clear b1)
  go_wp2_with (go_at_call 85; refine (cf.out _ B1.out).mono ?_; rintro r w2 ⟨rfl, b2⟩; have B2 := hide (B1.out.trans (b2.mono B1.out.size)); clear b2)
  have hW := hide (show w.heap.size ≤ w2.heap.size from B2.out.size)
  have b0 : Hid (Buf (w2.alloc (.cells Z 5)) w2.heap.size [] room) := by
    show Buf _ _ _ _
    unfold Buf; rw [show bCells [] ++ zc room = zc room from rfl]; unfold Blk; rw [HZ.out]; exact blk_alloc_new _ _
  have B3 := hide (B2.out.alloc B2.out.size (.cells Z 5))
  clear hmk HZ ca cf B1
  generalize w2.heap.size = g at hW b0 ⊢
  generalize w2.alloc (.cells Z 5) = w3 at b0 B3 ⊢
  clear B2
  go_loopg [6, 24] n (fun kx s6 s24 wr => ∃ i m : Nat, s6 = .slice (some ⟨g, 0, none⟩) m room ∧ s24 = .int .i64 i ∧ i ≤ n ∧ n - i ≤ kx ∧ Hid (m = total (xs.take i) ∧ m ≤ room ∧ Buf wr g (encs (xs.take i)) (room - m) ∧ Below w.heap.size w wr))
  case atStart => exact ⟨0, 0, rfl, rfl, Nat.zero_le _, by omega, rfl, Nat.zero_le _, b0.out, B3.out⟩
  case round =>
    obtain ⟨i, m, rfl, rfl, hin, hg, I⟩ := hrel
    by_cases hlt : i < n
    · have hlt2 : (i : Int) < (n : Int) := by omega
      obtain ⟨x, hx⟩ : ∃ x, xs[i]? = some x := ⟨_, List.getElem?_eq_getElem (by rw [← H.out.len]; exact hlt)⟩
      obtain ⟨b, o, rfl, hb, hc⟩ := H.out.cell i x hx
      have hc' := hc.below I.out.2.2.2 hb
      have c0 := hc'.c0
      have c1 := hc'.c1
      have c2 := hc'.c2
      have c3 := hc'.c3
      have c4 := hc'.c4
      have hbw : b < wr.heap.size := Nat.lt_of_lt_of_le hb I.out.2.2.2.size
      have hxg : x.good = true := List.all_eq_true.1 HG.out x (List.mem_of_getElem? hx)
      have hxf := (H.out.fits x (List.mem_of_getElem? hx)).1
      have TT := hide (total_take_succ xs i x hx)
      have TE : Hid (encs (xs.take (i + 1)) = encs (xs.take i) ++ x.enc) := by
        show _ = _
        rw [List.take_add_one, hx, encs_append]; simp [encs]
      have hsz : m + x.size ≤ room := by
        have h1 := total_take_le xs (i + 1)
        have h2 := TT.out; have h3 := I.out.1; have h4 := HF.out
        omega
      have hm : m = (encs (xs.take i)).length := by rw [encs_length]; exact I.out.1
      have cadd := hide (fun W (hW : Buf W g (encs (xs.take i)) (room - m)) => add_any g (room - m) m room (encs (xs.take i)) x hxf hxg (by omega) hm (by rw [← hm]; have := I.out.2.1; omega) (by have := HR.out; omega) W hW)
      have ev : x.val = .agg #[.string (txt x.key), .string (txt x.value), .int .u32 x.flags, .int .i64 x.exp, .int .u64 x.ver] := rfl
      rw [ev] at cadd
      have SZ := hide hsz
      clear hc hc' hx ev hxf hxg hm hsz
      generalize x.size = sz at cadd TT SZ
      go_wp2_with (go_at_call 86; refine (cadd.out _ (I.out.2.2.1.alloc _)).mono ?_; rintro r w4 ⟨rfl, hb4, k4⟩; have HB4 := hide hb4; have K4 := hide k4; clear hb4 k4)
      go_roundg (n - (i + 1))
      case measure => omega
      case rel =>
        refine ⟨i + 1, m + sz, rfl, rfl, by omega, by omega, by rw [TT.out, I.out.1], SZ.out, ?_, ?_⟩
        · rw [TE.out, ← Nat.sub_sub]; exact HB4.out
        · exact (I.out.2.2.2.alloc I.out.2.2.2.size _).trans (K4.out.below (fun k hk => by simp at hk; subst hk; exact hW.out) (by rw [nblk_alloc]; have := I.out.2.2.2.size; omega))
    · obtain rfl : i = n := by omega
      have hlt2 : ¬ (i : Int) < (i : Int) := by omega
      have E : Hid (Buf wr g (encs xs) (room - total xs)) := by
        have h1 := I.out.1
        have h2 := I.out.2.2.1
        rw [H.out.len, List.take_length] at h1 h2
        rw [h1] at h2
        exact h2
      by_cases hr0 : room = 0
      · subst hr0
        go_wp2
        go_ret2
        exact ⟨g, rfl, hW.out, by have := E.out; rwa [Nat.zero_sub] at this, I.out.2.2.2⟩
      · have hr3 : ¬ (room : Int) = 0 := by omega
        go_wp2
        go_ret2
        exact ⟨g, rfl, hW.out, E.out, I.out.2.2.2⟩
end Go.Proofs.YtbccnfbombgdmaaGreat

/- 'List'. -/
set_option linter.unusedVariables false
set_option linter.unusedSimpArgs false
namespace Go.Proofs.YtbccnfbombgdmaaGreat
open Go.RowKit Go.Deep Math

theorem It.size_pos (x : It) : 0 < x.size := by unfold It.size; omega
/-- What List answers of a list of bytes. -/
def lstF : Nat → List UInt8 → Option (List It)
  | 0, _ => some []
  | f + 1, b => match (take b).v with
    | none => some []
    | some none => none
    | some (some (x, n)) => (lstF f (b.drop n)).map (x :: ·)
def lst (b : List UInt8) : Option (List It) := lstF (b.length + 1) b
theorem lstF_more : ∀ (f g : Nat) (b : List UInt8), b.length < f → b.length < g → lstF f b = lstF g b
  | 0, _, _, h, _ => absurd h (by omega)
  | _, 0, _, _, h => absurd h (by omega)
  | f + 1, g + 1, b, hf, hg => by
    unfold lstF
    cases hv : (take b).v with
    | none => rfl
    | some o =>
      cases o with
      | none => rfl
      | some p =>
        obtain ⟨x, n⟩ := p
        have ht : take b = .ok x n := by
          cases hb : take b with
          | mk v => rw [hb] at hv; simp only at hv; rw [hv]
        obtain ⟨_, _, h3, h4, _⟩ := take_ok ht
        have := x.size_pos
        have hd : (b.drop n).length < b.length := by rw [List.length_drop]; omega
        simp only
        rw [lstF_more f g (b.drop n) (by omega) (by omega)]
theorem lst_none {b : List UInt8} (h : take b = .none) : lst b = some [] := by
  unfold lst lstF; rw [h]
theorem lst_bad {b : List UInt8} (h : take b = .bad) : lst b = none := by
  unfold lst lstF; rw [h]
theorem lst_ok {b : List UInt8} {x : It} {n : Nat} (h : take b = .ok x n) : lst b = (lst (b.drop n)).map (x :: ·) := by
  obtain ⟨_, _, h3, h4, _⟩ := take_ok h
  have := x.size_pos
  have hd : (b.drop n).length < b.length := by rw [List.length_drop]; omega
  have e : lst b = (lstF b.length (b.drop n)).map (x :: ·) := by
    show lstF (b.length + 1) b = _
    rw [lstF, h]
  rw [e, lstF_more b.length ((b.drop n).length + 1) (b.drop n) (by omega) (by omega)]
  rfl
/-- Records one behind the other, with noughts behind. -/
theorem lst_encs : ∀ (xs : List It) (z : List UInt8), (∀ x ∈ xs, x.fits ∧ x.good = true) → take z = .none → lst (encs xs ++ z) = some xs
  | [], z, _, hz => lst_none hz
  | x :: r, z, h, hz => by
    have hx := h x (by simp)
    rw [encs, List.append_assoc, lst_ok (take_rec x hx.1 hx.2 _), List.drop_left' x.enc_length, lst_encs r z (fun y hy => h y (by simp [hy])) hz]
    rfl

def itCells (x : It) : List Value := [.string (txt x.key), .string (txt x.value), .int .u32 x.flags, .int .i64 x.exp, .int .u64 x.ver]
def itsCells (xs : List It) : List Value := xs.flatMap itCells

theorem rown_below {w w' : World} {base : Nat} {e : TypeId} {size : Nat} {v : Value} {n : Nat} {xs : List Value} (h : w.ownsRow base e size v n xs) (b : Below w.heap.size w w') : w'.ownsRow base e size v n xs := by
  refine ⟨h.1, ?_⟩
  rcases h.2 with h2 | ⟨g, cap, cur, hv, hb, hc, h3⟩
  · exact .inl h2
  · exact .inr ⟨g, cap, cur, hv, hb, (b.block g (Array.getElem?_eq_some_iff.1 hc).1).trans hc, h3⟩
theorem itsCells_length (xs : List It) : (itsCells xs).length = xs.length * 5 := flat_length itCells 5 (fun _ => rfl) xs
theorem itsCells_snoc (xs : List It) (x : It) : itsCells xs ++ itCells x = itsCells (xs ++ [x]) := by simp [itsCells]

def TakeIs : Prop := ∀ (a : Option Addr) (n cap : Nat) (l : List UInt8) (hcap : cap ≤ 9223372036854775807) (w : World) (h : BS w a n cap l),
    Calls Tryz.prog 82 #[.slice a n cap] w fun e w' => e = .returned (tkV (take l)) ∧ Below w.heap.size w w'

theorem info30 : (Tryz.prog.info? 39).map (fun i => (i.zero, i.size, i.bytes)) = some (some (.agg #[.string ⟨#[]⟩, .string ⟨#[]⟩, .int .u32 0, .int .i64 0, .int .u64 0]), 5, 56) := by kernel_rfl

/-- What List answers. -/
def ListPost (w : World) (o : Option (List It)) (e : Ending) (w' : World) : Prop := Below w.heap.size w w' ∧ match o with
  | none => e = .returned (.tuple #[.slice none 0 0, .int .i64 3])
  | some xs => ∃ v, e = .returned (.tuple #[v, .int .i64 0]) ∧ w'.ownsRow w.heap.size 39 5 v xs.length (itsCells xs)

set_option maxHeartbeats 1000000 in
theorem list_any (ht : TakeIs) (a : Option Addr) (n cap : Nat) (l : List UInt8) (hcap : cap ≤ 1048576) (w : World) (h : BS w a n cap l) :
    Calls Tryz.prog 64 #[.slice a n cap] w (ListPost w (lst l)) := by
  have H := hide h
  clear h
  go_enter Tryz.func64, Tryz.ntmps64
  go_wp2_with fail
  obtain ⟨i0, hi0, hp0⟩ := Option.map_eq_some_iff.1 info30
  simp only [Prod.mk.injEq] at hp0
  obtain ⟨hz0, hz1, hz2⟩ := hp0
  have hn : n ≤ cap := H.out.cap
  go_loopg [0, 4] n (fun kx s0 s4 wr => ∃ (a' : Option Addr) (n' c' : Nat) (va : Option Addr) (vk vc : Nat), s0 = .slice a' n' c' ∧ s4 = .slice va vk vc ∧ n' ≤ kx ∧ n' ≤ c' ∧ c' ≤ 1048576 ∧ ∃ (acc : List It) (r : List UInt8), Hid (BS w a' n' c' r ∧ wr.ownsRow w.heap.size 39 5 (.slice va vk vc) acc.length (itsCells acc) ∧ lst l = (lst r).map (acc ++ ·) ∧ Below w.heap.size w wr ∧ acc.length + n' ≤ n))
  case atStart => exact ⟨a, n, cap, none, 0, 0, rfl, rfl, Nat.le_refl _, hn, hcap, [], l, H.out, World.ownsRow_nil _ _ _ _, by cases lst l <;> simp, Below.refl _ _, by simp⟩
  case round =>
    obtain ⟨a', n', c', va, vk, vc, rfl, rfl, hk, hnc, hc20, acc, r, I⟩ := hrel
    have ce := hide (ended_any a' n' c' r wr (I.out.1.later I.out.2.2.2.1))
    cases hE : ended r with
    | true =>
      rw [hE] at ce
      have E : Hid (lst l = some acc) := by
        show _ = _
        rw [I.out.2.2.1, lst_none (by simp [take, hE])]
        simp
      clear hE
      go_wp2_with (go_at_call 81; refine ce.out.mono ?_; rintro r1 w1 ⟨rfl, h1⟩; obtain rfl : wr = w1 := h1.symm; clear h1)
      go_ret2
      rw [E.out]
      exact ⟨I.out.2.2.2.1, _, rfl, I.out.2.1⟩
    | false =>
      rw [hE] at ce
      have ct := hide (ht a' n' c' r (by omega) wr (I.out.1.later I.out.2.2.2.1))
      have hpos : 0 < n' := by
        rcases Nat.eq_zero_or_pos n' with h0 | h0
        · have := I.out.1.len
          rw [h0] at this
          have h2 : r = [] := List.eq_nil_of_length_eq_zero this.symm
          rw [h2] at hE
          simp [ended] at hE
        · exact h0
      obtain ⟨b, off, rfl, _, _⟩ := I.out.1.cell 0 hpos
      cases hT : take r using Tk.elim3 with
      | none => simp [take, hE] at hT; split at hT <;> (try split at hT) <;> simp at hT
      | bad =>
        rw [hT] at ct
        have E : Hid (lst l = none) := by
          show _ = _
          rw [I.out.2.2.1, lst_bad hT]
          rfl
        have etk : tkV Tk.bad = .tuple #[.agg #[.string (txt []), .string (txt []), .int .u32 0, .int .i64 0, .int .u64 0], .int .i64 0, .int .i64 3] := rfl
        rw [etk] at ct
        clear hE hT etk
        generalize txt [] = nb at ct
        go_wp2_with (first
          | (go_at_call 81; refine ce.out.mono ?_; rintro r1 w1 ⟨rfl, h1⟩; obtain rfl : wr = w1 := h1.symm; clear h1)
          | (go_at_call 82; refine ct.out.mono ?_; rintro r1 w1 ⟨rfl, b1⟩; have B1 := hide b1; clear b1))
        go_ret2
        rw [E.out]
        exact ⟨((I.out.2.2.2.1.trans (B1.out.mono I.out.2.2.2.1.size)).alloc (Nat.le_trans I.out.2.2.2.1.size B1.out.size) _), rfl⟩
      | ok x sz =>
        obtain ⟨t1, t2, t3, t4, t5⟩ := take_ok hT
        rw [hT] at ct
        have E : Hid (lst l = (lst (r.drop sz)).map ((acc ++ [x]) ++ ·)) := by
          show _ = _
          rw [I.out.2.2.1, lst_ok hT]
          cases lst (r.drop sz) <;> simp
        have etk : tkV (Tk.ok x sz) = .tuple #[.agg #[.string (txt x.key), .string (txt x.value), .int .u32 x.flags, .int .i64 x.exp, .int .u64 x.ver], .int .i64 sz, .int .i64 0] := rfl
        rw [etk] at ct
        have hsz : sz ≤ n' := by rw [I.out.1.len]; exact t4
        have hsp : 0 < sz := by rw [t3]; exact x.size_pos
        have hszi : (sz : Int) ≤ (n' : Int) := by omega
        have SP := hide hsp
        have SZ := hide hsz
        clear hE hT etk t1 t2 t3 t4 t5 hsp hsz
        have hac : acc.length ≤ 1048576 := by have := I.out.2.2.2.2; omega
        go_wp2_with (first
          | (go_at_call 81; refine ce.out.mono ?_; rintro r1 w1 ⟨rfl, h1⟩; obtain rfl : wr = w1 := h1.symm; clear h1)
          | (go_at_call 82; refine ct.out.mono ?_; rintro r1 w1 ⟨rfl, b1⟩; have B1 := hide b1; clear b1)
          | (at_builtin; refine wpList_append_own _ rfl _ _ 45 rfl w.heap.size 39 i0 _ 5 56 Tryz.underlying45 hi0 hz0 hz1 hz2 rfl (by decide) _ _ _ rfl (((rown_below I.out.2.1 B1.out).alloc _).alloc _) ⟨w1.heap.size + 1, 0, none⟩ 1 1 (itCells x) rfl ?qc1 ?qc2 ?qc3 ?qc4 ?qc5 ?qc6 ?_))
        case qc1 => rfl
        case qc2 =>
          intro j u hj
          rw [Addr.add_lit, Nat.zero_add]
          have hh := (Blk.new (w1.alloc (.cells #[.string (txt x.key), .string (txt x.value), .int .u32 x.flags, .int .i64 x.exp, .int .u64 x.ver] 39)) (itCells x) 39).cell hj
          rw [nblk_alloc] at hh
          exact hh
        case qc3 => intro u hu; simp [itCells] at hu; rcases hu with rfl | rfl | rfl | rfl | rfl <;> rfl
        case qc4 => unfold maxLen; omega
        case qc5 => omega
        case qc6 => have := I.out.2.2.2.1.size; have := B1.out.size; simp; omega
        intro v' w2 hown hgrow hnil
        obtain ⟨g2, cp2, rfl⟩ : ∃ g2 cp2, v' = .slice (some ⟨g2, 0, none⟩) (acc.length + 1) cp2 := by
          rcases hown.2 with ⟨_, h0⟩ | ⟨g2, cp2, _, hv, _⟩
          · omega
          · exact ⟨g2, cp2, hv⟩
        have hB2 : Below w.heap.size w w2 := by
          have h1 := I.out.2.2.2.1.trans (B1.out.mono I.out.2.2.2.1.size)
          have h2 := (h1.alloc h1.size (.cells #[.string (txt x.key), .string (txt x.value), .int .u32 x.flags, .int .i64 x.exp, .int .u64 x.ver] 39))
          have h3 := (h2.alloc h2.size (.cells #[.string (txt x.key), .string (txt x.value), .int .u32 x.flags, .int .i64 x.exp, .int .u64 x.ver] 39))
          exact h3.grown hgrow h3.size (fun k hk => (I.out.2.1.lt k hk).1)
        rw [itsCells_snoc] at hown
        have FO := hide hown
        have FB := hide hB2
        clear hown hgrow hnil hB2
        have hl : Hid (acc.length + 1 = (acc ++ [x]).length) := by show _ = _; simp
        have szl : Hid (n' - sz = (r.drop sz).length) := by show _ = _; rw [List.length_drop, ← I.out.1.len]
        by_cases hce : c' = sz
        · have hc2 : (c' = sz) = True := eq_true hce
          have HCE := hide hce
          clear hce
          go_wp2
          go_roundg (n' - sz)
          case measure => have := SP.out; omega
          case rel =>
            refine ⟨_, n' - sz, c' - sz, _, _, _, rfl, rfl, Nat.le_refl _, by omega, by omega, acc ++ [x], r.drop sz, ?_, ?_, E.out, FB.out, ?_⟩
            · have h0 : r.drop sz = [] := List.eq_nil_of_length_eq_zero (by have := szl.out; have := HCE.out; omega)
              rw [h0]
              have := HCE.out
              exact ⟨by simp; omega, by omega, Reads.nil _ _, fun i hi => absurd hi (by omega)⟩
            · rw [← hl.out]; exact FO.out
            · rw [← hl.out]; have := I.out.2.2.2.2; have := SP.out; have := SZ.out; omega
        · go_wp2
          go_roundg (n' - sz)
          case measure => have := SP.out; omega
          case rel =>
            refine ⟨_, n' - sz, c' - sz, _, _, _, rfl, rfl, Nat.le_refl _, by omega, by omega, acc ++ [x], r.drop sz, ?_, ?_, E.out, FB.out, ?_⟩
            · have h0 := I.out.1.sub sz n' (off + sz) (n' - sz) (c' - sz) rfl SZ.out (Nat.le_refl _) rfl (by omega)
              rw [show sl r sz n' = r.drop sz by unfold sl; rw [I.out.1.len, List.take_length]] at h0
              exact h0
            · rw [← hl.out]; exact FO.out
            · rw [← hl.out]; have := I.out.2.2.2.2; have := SP.out; have := SZ.out; omega
end Go.Proofs.YtbccnfbombgdmaaGreat

/- An item as it comes in. -/
set_option linter.unusedVariables false
set_option linter.unusedSimpArgs false
set_option maxRecDepth 100000
namespace Go.Proofs.YtbccnfbombgdmaaGreat
open Go.RowKit Go.Deep Go.ChangeShapes Go.WideShapes Math

theorem cells30 : Tryz.prog.cellsOf 39 = 5 := by kernel_rfl
theorem cells9 : Tryz.prog.cellsOf 9 = 1 := by kernel_rfl
theorem cells27 : Tryz.prog.cellsOf 36 = 1 := by kernel_rfl
theorem cells2 : Tryz.prog.cellsOf 2 = 1 := by kernel_rfl
theorem cells28 : Tryz.prog.cellsOf 37 = 1 := by kernel_rfl
theorem wf_i64 {z : Int} (h : (Lit.int .i64 z).wf = true) : -9223372036854775808 ≤ z ∧ z ≤ 9223372036854775807 := by
  have h1 : IntKind.i64.min = -9223372036854775808 := rfl
  have h2 : IntKind.i64.max = 9223372036854775807 := rfl
  simp [Lit.wf, h1, h2] at h
  exact h
theorem wf_u32 {z : Int} (h : (Lit.int .u32 z).wf = true) : 0 ≤ z ∧ z < 4294967296 := by
  have h1 : IntKind.u32.min = 0 := rfl
  have h2 : IntKind.u32.max = 4294967295 := rfl
  simp [Lit.wf, h1, h2] at h
  omega
theorem wf_u64 {z : Int} (h : (Lit.int .u64 z).wf = true) : 0 ≤ z ∧ z < 18446744073709551616 := by
  have h1 : IntKind.u64.min = 0 := rfl
  have h2 : IntKind.u64.max = 18446744073709551615 := rfl
  simp [Lit.wf, h1, h2] at h
  omega
theorem txt_data (s : ByteArray) : txt s.data.toList = s := by
  unfold txt; rw [Array.toArray_toList]

theorem item_open {H : Type} {enc : TypeId × Value → H} {W : World} {fuel : Nat} {cs : List Value} {x : DataW H × List MemPlace} (h : DataW.trod enc Tryz.prog W 0 (fun _ => true) true fuel 39 cs = some x) (hl : cs.length = 5) :
    ∃ t : It, t.fits ∧ cs = itCells t := by
  obtain ⟨xs, k, hk, hxy, _, hxl, hf⟩ := DataW.trod_struct Tryz.underlying39 h
  match xs, hxl, cs, hl with
  | [y0, y1, y2, y3, y4], _, [v0, v1, v2, v3, v4], _ =>
    have g0 := hf 0 _ rfl
    have g1 := hf 1 _ rfl
    have g2 := hf 2 _ rfl
    have g3 := hf 3 _ rfl
    have g4 := hf 4 _ rfl
    simp at g0 g1 g2 g3 g4
    simp only [cells9, cells27, cells2, cells28] at g0 g1 g2 g3 g4
    simp only [List.take_succ_cons, List.take_zero] at g0 g1 g2 g3 g4
    obtain ⟨s0, hv0, _, _⟩ := DataW.trod_string Tryz.underlying9 g0
    obtain ⟨s1, hv1, _, _⟩ := DataW.trod_string Tryz.underlying9 g1
    obtain ⟨n2, hv2, _, w2⟩ := DataW.trod_int Tryz.underlying36 g2
    obtain ⟨n3, hv3, _, w3⟩ := DataW.trod_int Tryz.underlying2 g3
    obtain ⟨n4, hv4, _, w4⟩ := DataW.trod_int Tryz.underlying37 g4
    simp only [List.cons.injEq, and_true] at hv0 hv1 hv2 hv3 hv4
    subst hv0 hv1 hv2 hv3 hv4
    have q2 := wf_u32 w2
    have q3 := wf_i64 w3
    have q4 := wf_u64 w4
    refine ⟨⟨s0.data.toList, s1.data.toList, n2.toNat, n3, n4.toNat⟩, ⟨by simp; omega, q3.1, q3.2, by simp; omega⟩, ?_⟩
    simp only [itCells, txt_data, List.cons.injEq, Value.int.injEq, true_and, and_true]
    exact ⟨by omega, by omega⟩
/-- The same for a parameter. -/
theorem item_param {H : Type} {enc : TypeId × Value → H} {W : World} {fuel : Nat} {cs : Array Value} {x : DataW H × List MemPlace} (h : DataW.trod enc Tryz.prog W 0 (fun _ => true) true fuel 39 (Value.agg cs).cells.toList = some x) (hl : cs.size = Tryz.prog.cellsOf 39) :
    ∃ t : It, t.fits ∧ cs = (itCells t).toArray := by
  obtain ⟨t, h1, h2⟩ := item_open (cs := cs.toList) h (by rw [Array.length_toList, hl, cells30])
  exact ⟨t, h1, by rw [← h2, Array.toArray_toList]⟩
end Go.Proofs.YtbccnfbombgdmaaGreat

/- '==' of items. -/
set_option linter.unusedVariables false
set_option linter.unusedSimpArgs false
set_option maxRecDepth 100000
namespace Go.Proofs.YtbccnfbombgdmaaGreat
open Go.RowKit Go.Deep Math

def itDec (a b : It) : Decidable (a = b) := by
  cases a; cases b
  simp only [It.mk.injEq]
  exact inferInstance

theorem txt_list (l : List UInt8) : (txt l).toList = l := by
  unfold txt
  simp [ByteArray.toList_eq]

theorem run_eql_items (x y : It) (W : World) : (binOp .eql 39 x.val y.val).run Tryz.prog W = .ok (.bool (@decide (x = y) (itDec x y))) W := by
  have e : @decide (x = y) (itDec x y) = (decide (x.key = y.key) && (decide (x.value = y.value) && (decide (x.flags = y.flags) && (decide (x.exp = y.exp) && decide (x.ver = y.ver))))) := by
    rw [Bool.eq_iff_iff]; cases x; cases y; simp [It.mk.injEq]
  rw [e]
  unfold It.val itV
  have i2 : (((x.flags : Nat) : Int) = ((y.flags : Nat) : Int)) = (x.flags = y.flags) := propext Int.ofNat_inj
  have i4 : (((x.ver : Nat) : Int) = ((y.ver : Nat) : Int)) = (x.ver = y.ver) := propext Int.ofNat_inj
  simp [go_sem, txt_list, i2, i4]
  by_cases h0 : x.key = y.key <;> by_cases h1 : x.value = y.value <;> by_cases h2 : x.flags = y.flags <;> by_cases h3 : x.exp = y.exp <;> by_cases h4 : x.ver = y.ver <;> simp [h0, h1, h2, h3, h4]
theorem run_neq_items (x y : It) (W : World) : (binOp .neq 39 x.val y.val).run Tryz.prog W = .ok (.bool (!@decide (x = y) (itDec x y))) W := by
  have e : @decide (x = y) (itDec x y) = (decide (x.key = y.key) && (decide (x.value = y.value) && (decide (x.flags = y.flags) && (decide (x.exp = y.exp) && decide (x.ver = y.ver))))) := by
    rw [Bool.eq_iff_iff]; cases x; cases y; simp [It.mk.injEq]
  rw [e]
  unfold It.val itV
  have i2 : (((x.flags : Nat) : Int) = ((y.flags : Nat) : Int)) = (x.flags = y.flags) := propext Int.ofNat_inj
  have i4 : (((x.ver : Nat) : Int) = ((y.ver : Nat) : Int)) = (x.ver = y.ver) := propext Int.ofNat_inj
  simp [go_sem, txt_list, i2, i4]
  by_cases h0 : x.key = y.key <;> by_cases h1 : x.value = y.value <;> by_cases h2 : x.flags = y.flags <;> by_cases h3 : x.exp = y.exp <;> by_cases h4 : x.ver = y.ver <;> simp [h0, h1, h2, h3, h4]
end Go.Proofs.YtbccnfbombgdmaaGreat

/- 'items': two rows of the same items. -/
set_option linter.unusedVariables false
set_option linter.unusedSimpArgs false
set_option maxRecDepth 100000
namespace Go.Proofs.YtbccnfbombgdmaaGreat
open Go.RowKit Go.Deep Math

set_option maxHeartbeats 400000 in
theorem items_same (a b : Option Addr) (n ca cb : Nat) (xs : List It) (hn : n ≤ 1048576) (w : World) (h : ItsAt w a n xs) (h' : ItsAt w b n xs) :
    Calls Tryz.prog 11 #[.slice a n ca, .slice b n cb] w fun e w' => e = .returned (.bool true) ∧ Below w.heap.size w w' := by
  have H := hide h
  have H' := hide h'
  clear h h'
  go_enter Tryz.func11, Tryz.ntmps11
  go_wp2_with fail
  go_loopg [5] n (fun kx s5 wr => ∃ i : Nat, s5 = .int .i64 i ∧ i ≤ n ∧ n - i ≤ kx ∧ Hid (Below w.heap.size w wr))
  case atStart => exact ⟨0, rfl, Nat.zero_le _, by omega, Below.refl _ _⟩
  case round =>
    obtain ⟨i, rfl, hin, hg, I⟩ := hrel
    by_cases hlt : i < n
    · have hlt2 : (i : Int) < (n : Int) := by omega
      obtain ⟨x, hx⟩ : ∃ x, xs[i]? = some x := ⟨_, List.getElem?_eq_getElem (by rw [← H.out.len]; exact hlt)⟩
      obtain ⟨b1, o1, rfl, hb1, hc1⟩ := H.out.cell i x hx
      obtain ⟨b2, o2, rfl, hb2, hc2⟩ := H'.out.cell i x hx
      have hc1 := hc1.below I.out.drew hb1
      have hc2 := hc2.below I.out.drew hb2
      have hb1' : b1 < wr.heap.size := Nat.lt_of_lt_of_le hb1 I.out.size
      have hb2' : b2 < wr.heap.size := Nat.lt_of_lt_of_le hb2 I.out.size
      have c0 := hc1.c0
      have c1 := hc1.c1
      have c2 := hc1.c2
      have c3 := hc1.c3
      have c4 := hc1.c4
      have d0 := hc2.c0
      have d1 := hc2.c1
      have d2 := hc2.c2
      have d3 := hc2.c3
      have d4 := hc2.c4
      have FF := hide (And.intro c0 (And.intro c1 (And.intro c2 (And.intro c3 (And.intro c4 (And.intro d0 (And.intro d1 (And.intro d2 (And.intro d3 d4)))))))))
      clear hc1 hc2 hx
      go_wp2_with fail
      go_region_held (fun W => W.cell? ⟨b1, o1 + i * 5, none⟩ = some (.string (txt x.key)) ∧ W.cell? ⟨b1, o1 + i * 5 + 1, none⟩ = some (.string (txt x.value)) ∧ W.cell? ⟨b1, o1 + i * 5 + 2, none⟩ = some (.int .u32 x.flags) ∧ W.cell? ⟨b1, o1 + i * 5 + 3, none⟩ = some (.int .i64 x.exp) ∧ W.cell? ⟨b1, o1 + i * 5 + 4, none⟩ = some (.int .u64 x.ver) ∧ W.cell? ⟨b2, o2 + i * 5, none⟩ = some (.string (txt x.key)) ∧ W.cell? ⟨b2, o2 + i * 5 + 1, none⟩ = some (.string (txt x.value)) ∧ W.cell? ⟨b2, o2 + i * 5 + 2, none⟩ = some (.int .u32 x.flags) ∧ W.cell? ⟨b2, o2 + i * 5 + 3, none⟩ = some (.int .i64 x.exp) ∧ W.cell? ⟨b2, o2 + i * 5 + 4, none⟩ = some (.int .u64 x.ver))
        (exact FF.out)
        (fail)
      all_goals go_wp2
      all_goals go_roundg (n - (i + 1))
      case measure => omega
      case rel => exact ⟨i + 1, rfl, by omega, by omega, I.out.drew⟩
    · obtain rfl : i = n := by omega
      have hlt2 : ¬ (i : Int) < (i : Int) := by omega
      go_wp2
      go_ret
      exact ⟨rfl, I.out⟩
end Go.Proofs.YtbccnfbombgdmaaGreat

/- A row of items as it comes in: any items, of whatever lengths. -/
set_option linter.unusedVariables false
set_option linter.unusedSimpArgs false
set_option maxRecDepth 100000
namespace Go.Proofs.YtbccnfbombgdmaaGreat
open Go.RowKit Go.Deep Go.ChangeShapes Go.WideShapes Math

structure RawAt (w : World) (a : Option Addr) (len : Nat) (xs : List It) : Prop where
  len : len = xs.length
  fits : ∀ x ∈ xs, x.fits
  cell : ∀ i x, xs[i]? = some x → ∃ b o, a = some ⟨b, o, none⟩ ∧ b < w.heap.size ∧ OneIt w b (o + i * 5) x
theorem RawAt.below {w w' : World} {a : Option Addr} {len : Nat} {xs : List It} (h : RawAt w a len xs) (k : Below w.heap.size w w') : RawAt w' a len xs :=
  ⟨h.len, h.fits, fun i x hx => by
    obtain ⟨b, o, ha, hb, hc⟩ := h.cell i x hx
    exact ⟨b, o, ha, Nat.lt_of_lt_of_le hb k.size, hc.below k hb⟩⟩
theorem RawAt.its {w : World} {a : Option Addr} {len : Nat} {xs : List It} (h : RawAt w a len xs) (hs : ∀ x ∈ xs, x.key.length ≤ 140737488351232 ∧ x.value.length ≤ 140737488351232) : ItsAt w a len xs :=
  ⟨h.len, fun x hx => ⟨h.fits x hx, hs x hx⟩, h.cell⟩

theorem choose_lt {α : Type} [Inhabited α] {n : Nat} {p : Nat → α → Prop} (h : ∀ i, i < n → ∃ t, p i t) : ∃ T : Nat → α, ∀ i, i < n → p i (T i) :=
  ⟨fun i => if hi : i < n then Classical.choose (h i hi) else default, fun i hi => by simp only [hi, dif_pos]; exact Classical.choose_spec (h i hi)⟩

set_option maxHeartbeats 400000 in
theorem its_open {H : Type} {enc : TypeId × Value → H} {W : World} {fuel : Nat} {a0 : Option Addr} {len0 cap0 : Nat} {x : DataW H × List MemPlace} (h : DataW.trod enc Tryz.prog W 0 (fun _ => true) true fuel 45 [.slice a0 len0 cap0] = some x) :
    ∃ xs, RawAt W a0 len0 xs := by
  rcases open_slice Tryz.underlying45 h with ⟨hcs, _⟩ | ⟨a, len, cap, m, n, D, Pl, hcs, _, hl, hm, hmm, hx, hel⟩
  · simp at hcs
    obtain ⟨rfl, rfl, rfl⟩ := hcs
    exact ⟨[], rfl, fun x hx => by simp at hx, fun i x hx => by simp at hx⟩
  · simp only [List.cons.injEq, Value.slice.injEq, and_true] at hcs
    obtain ⟨rfl, rfl, rfl⟩ := hcs
    have hmc : m = cap0 := by simpa using hmm
    by_cases h0 : len0 = 0
    · subst h0; exact ⟨[], rfl, fun x hx => by simp at hx, fun i x hx => by simp at hx⟩
    have hspot : a.spot = none := by
      obtain ⟨cs', h1, h2⟩ := hel 0 (by omega)
      rw [cells30] at h1
      obtain ⟨_, hlen, hcell⟩ := World.cells?_some h1
      match cs', hlen with
      | [v0, v1, v2, v3, v4], _ =>
        have e0 := hcell 0 (by omega)
        have := World.cell?_spot (v := v0) (by simpa using e0)
        simpa [Addr.add] using this
    obtain ⟨b, off, sp⟩ := a
    simp only at hspot
    subst hspot
    have each : ∀ i, i < len0 → ∃ t : It, t.fits ∧ OneIt W b (off + i * 5) t := by
      intro i hi
      obtain ⟨cs', h1, h2⟩ := hel i (by omega)
      rw [cells30] at h1
      obtain ⟨_, hlen, hcell⟩ := World.cells?_some h1
      obtain ⟨t, ht, rfl⟩ := item_open h2 hlen
      have key : ∀ j v, j < 5 → (itCells t)[j]? = some v → W.cell? ⟨b, off + i * 5 + j, none⟩ = some v := fun j v hj hv => by
        have e := hcell j (by omega)
        rw [hv] at e
        rw [Addr.add_lit, Addr.add_lit] at e
        exact e
      exact ⟨t, ht, key 0 _ (by omega) rfl, key 1 _ (by omega) rfl, key 2 _ (by omega) rfl, key 3 _ (by omega) rfl, key 4 _ (by omega) rfl⟩
    obtain ⟨T, hT⟩ := @choose_lt _ ⟨It.zero⟩ _ _ each
    refine ⟨(List.range len0).map T, by simp, fun x hx => ?_, fun i t ht => ⟨b, off, rfl, ?_, ?_⟩⟩
    · obtain ⟨i, hi, rfl⟩ := List.mem_map.1 hx
      exact (hT i (List.mem_range.1 hi)).1
    · exact block_lt_of_cell (a := ⟨b, off + 0 * 5, none⟩) (hT 0 (by omega)).2.c0
    · have hi : i < len0 := by have := (List.getElem?_eq_some_iff.1 ht).1; simpa using this
      have : t = T i := by
        rw [List.getElem?_map, List.getElem?_range hi] at ht
        simpa using ht.symm
      rw [this]
      exact (hT i hi).2
end Go.Proofs.YtbccnfbombgdmaaGreat
