/- Texts joined. -/
import Derived.Test.YtmfjaehajdephabJA
import Derived.Test.YtmfjaehajdephabJN
import Derived.Test.YtmfjaehajdephabRune
import Derived.Test.YtmfjaehajdephabPp
import Derived.Lib.ConvBytes
import Derived.Test.YtmfjaehajdephabSb
/-
  Where a line ends; what ends data.
-/
namespace Go.Proofs.Ytmfjaehajdephab
open Go.Shelf Go.RowKit Go.Deep
set_option linter.unusedVariables false
set_option linter.unusedSimpArgs false
set_option maxRecDepth 1000000

theorem str_bs {w : World} {a : Option Addr} {n cap : Nat} {l : List UInt8} (h : BS w a n cap l) : (convert 26 9 (.slice a n cap)).run Try.prog w = .ok (.string ⟨l.toArray⟩) w := by
  have hn := h.len
  subst hn
  cases a with
  | none =>
    have hl : l = [] := by
      cases l with
      | nil => rfl
      | cons x t => obtain ⟨b, off, ha, _⟩ := h.cell 0 (by simp); cases ha
    rw [hl, run_convert_bytes_string w 26 9 5 none _ cap Try.underlying26 Try.underlying5 Try.underlying9]
    unfold Conv.bytesToString
    simp [Sem.run_bind, Result.andThen]
    rfl
  | some x =>
    refine run_convert_bytes_back w 26 9 5 x cap l Try.underlying26 Try.underlying5 Try.underlying9 (fun j hj => ?_)
    obtain ⟨b, off, ha, _, hc⟩ := h.cell j hj
    cases ha
    rw [Addr.add_lit, hc]
    simp [List.getD_eq_getElem?_getD, List.getElem?_eq_getElem hj]

theorem run_no (c : UInt8) (hc : c.toNat < 128) (l : List UInt8) (h : rn l ≠ (c.toNat : Int)) : ∀ x ∈ l.take (wd l), x ≠ c := by
  cases l with
  | nil => intro x hx; simp at hx
  | cons a t =>
    intro x hx e
    subst e
    by_cases ha : a.toNat < 128
    · unfold rn wd at *
      rw [dec_low a t ha] at h hx
      have hxa : x = a := by simpa using hx
      subst hxa
      exact h (by show (if _ then _ else _) = _; rw [if_neg (by show ¬ (_ < _); omega)])
    · have := (dec_high a t (by omega)).2 x hx
      omega
theorem rn_c (c : UInt8) (hc : c.toNat < 128) (a : UInt8) (t : List UInt8) (h : rn (a :: t) = (c.toNat : Int)) : a = c ∧ wd (a :: t) = 1 := by
  by_cases ha : a.toNat < 128
  · unfold rn wd at *
    rw [dec_low a t ha] at h ⊢
    refine ⟨?_, rfl⟩
    rw [if_neg (by simp)] at h
    simp at h
    apply UInt8.toNat_inj.1
    omega
  · have := (dec_high a t (by omega)).1
    unfold rn at h
    split at h <;> omega
theorem endP_skip (l : List UInt8) (k : Nat) (hk : k ≤ l.length) (h : ∀ x ∈ l.take k, x ≠ 10) : endP l = k + endP (l.drop k) := by
  have h1 : endP (l.take k) = (l.take k).length := by
    unfold endP
    exact List.findIdx_eq_length_of_false (fun x hx => by simp; exact h x hx)
  have h2 := endP_app2 (l.take k) (l.drop k) h1
  rw [List.take_append_drop, List.length_take, Nat.min_eq_left hk] at h2
  exact h2
theorem endP_ten (t : List UInt8) : endP (10 :: t) = 0 := by simp [endP, List.findIdx_cons]
theorem endP_nil : endP [] = 0 := rfl
theorem run_ends_one (x : UInt8) (t : List UInt8) (h1 : x ≠ 10) (h2 : x ≠ 13) : rn (x :: t) ≠ 10 ∧ rn (x :: t) ≠ 13 :=
  ⟨fun e => h1 (rn_c 10 (by decide) x t e).1, fun e => h2 (rn_c 13 (by decide) x t e).1⟩

/-- What ends tells. -/
def endsI (l : List UInt8) : Int := match endsP l with
  | none => 0
  | some 0 => -1
  | some (k + 1) => (k : Int) + 1
theorem ends_any (s : ByteArray) (w : World) : Calls Try.prog 42 #[.string s] w fun e w' => e = .returned (.int .i64 (endsI s.data.toList)) ∧ Below w.heap.size w w' := by
  have B := (Below.refl w.heap.size w).alloc (Nat.le_refl _) (.stringIter s 0)
  go_enter Try.func42, Try.ntmps42
  go_wp2
  go_loopw [] (fun wr => ∃ pos : Nat, wr = w.iter s pos ∧ pos ≤ s.size ∧ Hid (pos = 0 ∨ (pos = 1 ∧ ∃ t, s.data.toList = 13 :: t))) (fun wr => s.size - wr.iterPos w.heap.size)
  case atStart => exact ⟨0, rfl, by omega, .inl rfl⟩
  case round =>
    obtain ⟨pos, rfl, hpos, H1⟩ := hrel
    by_cases hp : pos < s.size
    · have hnx : ∀ ty, (Instr.next (.pointer (some ⟨w.heap.size, 0, none⟩)) true ty).run Try.prog (w.iter s pos) = _ := fun ty => run_next_any w s pos ty hp
      obtain ⟨d1, d2⟩ := decode_rn s pos hp
      rw [d1, d2] at hnx
      clear d1 d2
      have hdh : s.data.toList.drop pos = s[pos] :: s.data.toList.drop (pos + 1) := drop_head s pos hp
      have hx : s[pos].toNat < 256 := s[pos].toNat_lt
      by_cases h10 : rn (s.data.toList.drop pos) = 10
      · have E : Hid (endsI s.data.toList = (pos : Int) + 1) := by
          rw [hdh] at h10
          have hh := (rn_c 10 (by decide) _ _ h10).1
          rcases H1.out with rfl | ⟨rfl, t, ht⟩
          · rw [List.drop_zero] at hdh
            show endsI s.data.toList = _
            rw [hdh, hh]
            simp [endsI, endsP]
          · rw [ht] at hdh
            simp only [List.drop_succ_cons, List.drop_zero] at hdh
            show endsI s.data.toList = _
            rw [ht, hdh, hh]
            simp [endsI, endsP]
        rw [h10] at hnx
        have hp1 : pos ≤ 1 := by rcases H1.out with h | h <;> omega
        have hwr : IntKind.i64.wrap ((pos : Int) + 1) = (pos : Int) + 1 := by rw [IntKind.wrap_i64]; omega
        clear hdh h10 H1 hx
        go_wp2
        go_ret
        exact ⟨by rw [E.out]; rfl, (Below.refl _ w).alloc (Nat.le_refl _) _⟩
      · by_cases h13 : rn (s.data.toList.drop pos) = 13 ∧ pos = 0
        · obtain ⟨h13, rfl⟩ := h13
          rw [hdh] at h13
          obtain ⟨hh, hw⟩ := rn_c 13 (by decide) _ _ h13
          rw [← hdh] at h13 hw
          rw [h13, hw] at hnx
          have H2 : Hid (0 + 1 = 0 ∨ (0 + 1 = 1 ∧ ∃ t, s.data.toList = 13 :: t)) := .inr ⟨rfl, _, by have := hdh; rw [List.drop_zero, hh] at this; exact this⟩
          clear hdh h10 h13 hw hh H1 hx
          go_wp2
          go_roundw
          case rel => exact ⟨0 + 1, rfl, by omega, H2⟩
          case measure => simp; omega
        · have E : Hid (endsI s.data.toList = -1) := by
            have h10' : s[pos] ≠ 10 := fun e => h10 (by rw [hdh, e]; exact (rn_low 10 _ (by decide)).1)
            rcases H1.out with rfl | ⟨rfl, t, ht⟩
            · have h13' : s[0] ≠ 13 := fun e => h13 ⟨by rw [hdh, e]; exact (rn_low 13 _ (by decide)).1, rfl⟩
              rw [List.drop_zero] at hdh
              show endsI s.data.toList = _
              rw [hdh]
              simp [endsI, endsP, h10', h13']
            · rw [ht] at hdh
              simp only [List.drop_succ_cons, List.drop_zero] at hdh
              show endsI s.data.toList = _
              rw [ht, hdh]
              simp [endsI, endsP, h10']
          have hp1 : pos ≤ 1 := by rcases H1.out with h | h <;> omega
          have hnot : ¬ (rn (s.data.toList.drop pos) = 13 ∧ pos = 0) := h13
          generalize rn (s.data.toList.drop pos) = r at *
          generalize wd (s.data.toList.drop pos) = wdd at *
          have r10 : (r == 10) = false := by simp; exact h10
          by_cases hr : r = 13
          · subst hr
            have hpp : (0 : Int) < (pos : Int) := by have : pos ≠ 0 := fun e => hnot ⟨rfl, e⟩; omega
            clear hdh h10 h13 H1 hx hnot r10
            go_wp2
            go_ret
            exact ⟨by rw [E.out]; rfl, (Below.refl _ w).alloc (Nat.le_refl _) _⟩
          · have r13 : (r != 13) = true := by simp; exact hr
            clear hdh h10 h13 H1 hx hnot hr
            go_wp2
            go_ret
            exact ⟨by rw [E.out]; rfl, (Below.refl _ w).alloc (Nat.le_refl _) _⟩
    · have hnx : ∀ ty, (Instr.next (.pointer (some ⟨w.heap.size, 0, none⟩)) true ty).run Try.prog (w.iter s pos) = _ := fun ty => run_next_end w s pos ty hp
      have E : Hid (endsI s.data.toList = 0) := by
        have h0 := drop_end s pos hp
        rcases H1.out with rfl | ⟨rfl, t, ht⟩
        · rw [List.drop_zero] at h0
          show endsI s.data.toList = _
          rw [h0]
          rfl
        · rw [ht] at h0
          simp only [List.drop_succ_cons, List.drop_zero] at h0
          show endsI s.data.toList = _
          rw [ht, h0]
          simp [endsI, endsP]
      clear H1
      go_wp2
      go_ret
      exact ⟨by rw [E.out]; rfl, (Below.refl _ w).alloc (Nat.le_refl _) _⟩
/-- A number, as a measure. -/
def vi' : Value → Nat
  | .int _ z => z.toNat
  | _ => 0
theorem run_mid (b off n cap i j : Nat) (hij : i ≤ j) (hj : j ≤ cap) (hi : i < cap) (X : World) :
    (Instr.sliceAt 26 (.slice (some ⟨b, off, none⟩) n cap) (some (.int .i64 (i : Int))) (some (.int .i64 (j : Int))) none).run Try.prog X = .ok (.slice (some ⟨b, off + i, none⟩) (j - i) (cap - i)) X := by
  have h1 : (j : Int) ≤ (cap : Int) := by omega
  have h2 : (i : Int) ≤ (j : Int) := by omega
  have h3 : ¬ cap = i := by omega
  simp [go_sem, hij, hj, h3]
theorem ending_any (a : Option Addr) (n cap : Nat) (l : List UInt8) (w : World) (h : BS w a n cap l) (hn : n ≤ 1000000) :
    Calls Try.prog 38 #[.slice a n cap] w fun e w' => e = .returned (.int .i64 (endP l : Int)) ∧ Below w.heap.size w w' := by
  have hlen := h.len
  have HL := hide hlen
  have HH := hide h
  clear hlen h
  go_enter Try.func38, Try.ntmps38
  go_wp2
  go_loopw [3] (fun bg wr => ∃ k : Nat, bg = .int .i64 (k : Int) ∧ Below w.heap.size w wr ∧ Hid ((k ≤ n ∧ endP l = k + endP (l.drop k)) ∨ (n < k ∧ k ≤ n + 256 ∧ endP l = n))) (fun bg _ => n + 256 - vi' bg)
  case atStart => exact ⟨0, rfl, Below.refl _ _, .inl ⟨by omega, by simp⟩⟩
  case round =>
    obtain ⟨k, rfl, hb, H1⟩ := hrel
    by_cases hk : k < n
    · have H2 : Hid (endP l = k + endP (l.drop k)) := by
        rcases H1.out with ⟨_, h⟩ | ⟨h, _⟩
        · exact h
        · omega
      obtain ⟨b, off, rfl, _, _⟩ := HH.out.cell 0 (by omega)
      have hcap := HH.out.cap
      obtain ⟨m, hm, hm1, hm2, hm3⟩ : ∃ m : Nat, (min ((k : Int) + 256) (n : Int) = (m : Int)) ∧ k < m ∧ m ≤ n ∧ (m = n ∨ m = k + 256) := by
        by_cases hc : k + 256 ≤ n
        · exact ⟨k + 256, by rw [Int.min_eq_left (by omega)]; omega, by omega, hc, .inr rfl⟩
        · exact ⟨n, by rw [Int.min_eq_right (by omega)], hk, Nat.le_refl _, .inl rfl⟩
      have hwr : IntKind.i64.wrap ((k : Int) + 256) = (k : Int) + 256 := by rw [IntKind.wrap_i64]; omega
      have hs1 := run_mid b off n cap k m (by omega) (by omega) (by omega)
      have HP := HH.out.sub k m (some ⟨b, off + k, none⟩) (cap - k) (by omega) hm2 (fun _ => rfl) (by omega)
      have hcv : ∀ W, Below w.heap.size w W → (convert 26 9 (.slice (some ⟨b, off + k, none⟩) (m - k) (cap - k))).run Try.prog W = .ok (.string ⟨((l.take m).drop k).toArray⟩) W := fun W hW => str_bs (HP.later hW)
      have hc1 := hcv wr hb
      have HC := hide hcv
      have HM := hide hm3
      clear hcv hm3
      obtain ⟨P, hP⟩ : ∃ P, P = (l.take m).drop k := ⟨_, rfl⟩
      rw [← hP] at HP hc1
      obtain ⟨s, hs⟩ : ∃ s : ByteArray, s = ⟨P.toArray⟩ := ⟨_, rfl⟩
      rw [← hs] at hc1
      have hsl : s.data.toList = P := by rw [hs]
      have hsz : s.size = m - k := by rw [← size8, hsl]; exact HP.len.symm
      have HPl := hide HP.len
      have HPd : Hid (l.drop k = P ++ l.drop m) := by
        show l.drop k = P ++ l.drop m
        have e1 : l.drop k = (l.take m ++ l.drop m).drop k := by rw [List.take_append_drop]
        rw [e1, List.drop_append_of_le_length (by rw [List.length_take, ← HL.out]; omega), hP]
      clear hP hs HP
      go_wp2
      generalize wr = w1 at *
      go_loopw [] (fun wq => ∃ pos : Nat, wq = w1.iter s pos ∧ pos ≤ s.size ∧ Hid (endP P = pos + endP (P.drop pos))) (fun wq => s.size - wq.iterPos w1.heap.size)
      case atStart => exact ⟨0, rfl, by omega, by simp [Hid]⟩
      case round =>
        obtain ⟨pos, rfl, hpos, HI⟩ := hrel
        by_cases hp : pos < s.size
        · have hnx : ∀ ty, (Instr.next (.pointer (some ⟨w1.heap.size, 0, none⟩)) true ty).run Try.prog (w1.iter s pos) = _ := fun ty => run_next_any w1 s pos ty hp
          obtain ⟨d1, d2⟩ := decode_rn s pos hp
          rw [d1, d2, hsl] at hnx
          have hne := drop_ne s pos hp
          have hw := wd_pos _ hne
          rw [drop_len, hsl] at hw
          have hdh := drop_head s pos hp
          rw [hsl] at hdh
          clear d1 d2 hne
          by_cases h10 : rn (P.drop pos) = 10
          · have E : Hid (endP l = k + pos) := by
              rw [hdh] at h10
              have hh := (rn_c 10 (by decide) _ _ h10).1
              have e1 : endP (P.drop pos) = 0 := by rw [hdh, hh]; exact endP_ten _
              have e2 : endP P = pos := by rw [HI.out, e1]; rfl
              show endP l = k + pos
              rw [H2.out, HPd.out, endP_app P (l.drop m) (by rw [e2, ← HPl.out]; omega), e2]
            rw [h10] at hnx
            have hwr2 : IntKind.i64.wrap ((k : Int) + (pos : Int)) = (k : Int) + (pos : Int) := by rw [IntKind.wrap_i64]; omega
            clear hdh h10 HI hw H1
            go_wp2
            go_ret
            refine ⟨?_, hb.trans ((Below.refl _ w1).alloc hb.size _)⟩
            rw [E.out]
            simp
          · have hno := run_no 10 (by decide) (P.drop pos) h10
            have HJ : Hid (endP P = (pos + wd (P.drop pos)) + endP (P.drop (pos + wd (P.drop pos)))) := by
              show endP P = _
              rw [HI.out, endP_skip (P.drop pos) (wd (P.drop pos)) (by rw [List.length_drop, ← HPl.out]; omega) hno, List.drop_drop]
              omega
            have r10 : (rn (P.drop pos) == 10) = false := by simp; exact h10
            generalize rn (P.drop pos) = r at *
            generalize wd (P.drop pos) = q at *
            clear hdh HI hno H1 h10
            go_wp2
            go_roundw
            case rel => exact ⟨pos + q, rfl, by omega, HJ⟩
            case measure => simp; omega
        · have hnx : ∀ ty, (Instr.next (.pointer (some ⟨w1.heap.size, 0, none⟩)) true ty).run Try.prog (w1.iter s pos) = _ := fun ty => run_next_end w1 s pos ty hp
          have HE : Hid ((k + 256 ≤ n ∧ endP l = (k + 256) + endP (l.drop (k + 256))) ∨ (n < k + 256 ∧ k + 256 ≤ n + 256 ∧ endP l = n)) := by
            have h0 := drop_end s pos hp
            rw [hsl] at h0
            have e1 : endP P = P.length := by rw [HI.out, h0, ← HPl.out, endP_nil]; omega
            have e2 : endP l = m + endP (l.drop m) := by rw [H2.out, HPd.out, endP_app2 P (l.drop m) e1, ← HPl.out]; omega
            rcases HM.out with h | h
            · subst h
              have e3 : l.drop m = [] := List.drop_of_length_le (by rw [← HL.out]; exact Nat.le_refl _)
              rw [e3, endP_nil] at e2
              by_cases hq : k + 256 ≤ m
              · obtain rfl : m = k + 256 := by
                  rcases Nat.lt_or_ge (k + 256) m with h | h
                  · omega
                  · omega
                exact .inl ⟨hq, by rw [e3, endP_nil]; exact e2⟩
              · exact .inr ⟨by omega, by omega, e2⟩
            · subst h
              exact .inl ⟨hm2, e2⟩
          clear HI H1
          go_wp2
          go_roundw
          case rel => exact ⟨k + 256, by go_num, hb.trans ((Below.refl _ w1).alloc hb.size _), HE⟩
          case measure => simp [vi']; omega
    · have E : Hid (endP l = n) := by
        rcases H1.out with ⟨h1, h⟩ | ⟨_, _, h⟩
        · obtain rfl : k = n := by omega
          have e3 : l.drop k = [] := List.drop_of_length_le (by rw [← HL.out]; exact Nat.le_refl _)
          show endP l = k
          rw [h, e3, endP_nil]
          rfl
        · exact h
      clear H1
      go_wp2
      go_ret
      exact ⟨by rw [E.out]; rfl, hb⟩
end Go.Proofs.Ytmfjaehajdephab

/-
  A queue: what is used up; a line's last byte 13.
-/
namespace Go.Proofs.Ytmfjaehajdephab
open Go.Shelf Go.RowKit Go.Deep
set_option linter.unusedVariables false
set_option linter.unusedSimpArgs false
set_option maxRecDepth 1000000

def nums (l : List UInt8) : List Int := l.map fun x => (x.toNat : Int)
theorem nums_getD (l : List UInt8) (i : Nat) : (nums l).getD i 0 = ((l.getD i 0).toNat : Int) := by
  unfold nums
  simp only [List.getD_eq_getElem?_getD, List.getElem?_map]
  cases l[i]? <;> rfl
theorem nums_len (l : List UInt8) : (nums l).length = l.length := by simp [nums]
theorem bytes_nums (l : List UInt8) : Lib.bytesOf (nums l) = l := by
  unfold Lib.bytesOf nums
  rw [List.map_map]
  conv => rhs; rw [← List.map_id l]
  apply List.map_congr_left
  intro x _
  simp
theorem suf13 (l : List UInt8) : Lib.hasSuffix l [13] = decide (l.getLast? = some 13) := by
  rw [Bool.eq_iff_iff]
  simp only [decide_eq_true_eq]
  unfold Lib.hasSuffix
  rw [List.isSuffixOf_iff_suffix]
  constructor
  · rintro ⟨t, rfl⟩
    simp
  · intro h
    obtain ⟨t, rfl⟩ := List.getLast?_eq_some_iff.1 h
    exact ⟨t, rfl⟩
theorem trim_any (a a2 : Option Addr) (n cap d : Nat) (l : List UInt8) (w : World) (h : BS w a n cap l) (h2 : BS w a2 1 d [13]) (hn : n ≤ 1000000) :
    Calls Try.prog 40 #[.slice a n cap, .slice a2 1 d] w fun e w' => e = .returned (.slice a (cutP l).length cap) ∧ w' = w := by
  have hl := h.len
  rcases Nat.eq_zero_or_pos n with h0 | h0
  · subst h0
    have e : l = [] := List.eq_nil_of_length_eq_zero hl.symm
    subst e
    exact Try.bytes_TrimSuffix_e1 a a2 cap 1 d (by omega) w
  · obtain ⟨b, off, rfl, _, _⟩ := h.cell 0 h0
    obtain ⟨b2, off2, rfl, _, _⟩ := h2.cell 0 (by omega)
    refine (Try.bytes_TrimSuffix b off n cap b2 off2 1 d (nums l) (nums [13]) w (by rw [nums_len, hl]) rfl h.cap (by omega) (fun i hi => ?_) (fun i hi => ?_)).mono ?_
    · obtain ⟨b', off', ha, _, hc⟩ := h.cell i hi
      cases ha
      rw [hc, nums_getD]
    · obtain ⟨b', off', ha, _, hc⟩ := h2.cell i hi
      cases ha
      rw [hc, nums_getD]
    · rintro e w' ⟨rfl, rfl⟩
      refine ⟨?_, rfl⟩
      unfold Lib.bytesTrimSuffix cutP
      rw [bytes_nums, bytes_nums, suf13]
      by_cases hq : l.getLast? = some 13
      · rw [if_pos (by simpa using hq), if_pos hq]
        unfold Lib.sliceTo
        rw [List.length_dropLast, ← hl]
        rfl
      · rw [if_neg (by simpa using hq), if_neg hq, hl]
end Go.Proofs.Ytmfjaehajdephab
