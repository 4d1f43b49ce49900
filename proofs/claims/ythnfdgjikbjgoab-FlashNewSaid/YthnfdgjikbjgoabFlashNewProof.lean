/-
  What is read is new memory, what is written is not kept: for every two numbers and every slice of bytes the call returns true and the slice reads as it did; no condition.
-/
import Derived.Test.YthnfdgjikbjgoabRows
import Derived.WalkKit
import Derived.ProofKit
import Derived.OpenShut
import Derived.ShutString
import Derived.ChangeOld
import Derived.Below
import Derived.Test.YthnfdgjikbjgoabBytes
namespace Go.Proofs.Ythnfdgjikbjgoab.flashNew
open Go.ChangeShapes Go.WideShapes Go.ChangeAt Go.RowKit
open Go.ChangeMaps (open_string shut_string)
set_option linter.unusedVariables false

theorem own : ownKnob Try.prog.godebug = none := by kernel_rfl
theorem laidOut : laidOutB Try.prog = true := by kernel_rfl

/-- WHAT THE WALK IS TOLD OF A SLICE OF INTEGERS THAT CAME IN: it is nil; or it leads to a row of 'cap' cells, the numbers 'zs' (the first 'len' are its elements, the rest its spare room), each fitting its kind. -/
def IsRow (k : IntKind) (w : World) (a : Option Addr) (len cap : Nat) (zs : List Int) : Prop :=
  (a = none ∧ len = 0 ∧ cap = 0 ∧ zs = []) ∨
  ∃ x, a = some x ∧ len ≤ cap ∧ cap ≤ maxLen ∧ zs.length = cap ∧ (∀ i, i < zs.length → w.cell? (x.add i) = some (.int k (zs.getD i 0))) ∧ ∀ n ∈ zs, (Lit.int k n).wf = true

/-- A device that reads these bytes at that page. -/
structure Holds (S : Dv) (k : Nat) (l : List UInt8) : Prop where
  off : S.off = false
  armed : S.armed = 0
  page : ∃ c, S.cs[k]? = some c ∧ c.now = .whole ⟨l.toArray⟩

theorem holds_has {S : Dv} {k : Nat} {l : List UInt8} (h : Holds S k l) : S.has (k : Int) = true := by
  obtain ⟨c, hc, _⟩ := h.page
  have := (List.getElem?_eq_some_iff.1 hc).1
  simp [Dv.has]
  omega
theorem holds_err {S : Dv} {k : Nat} {l : List UInt8} (h : Holds S k l) : S.readErr (k : Int) = 0 := by
  obtain ⟨c, hc, hn⟩ := h.page
  simp [Dv.readErr, holds_has h, h.off, hc, hn, Pg.err]
theorem holds_text {S : Dv} {k : Nat} {l : List UInt8} (h : Holds S k l) : S.readText (k : Int) = full ⟨l.toArray⟩ := by
  obtain ⟨c, hc, hn⟩ := h.page
  simp [Dv.readText, holds_has h, h.off, hc, hn, Pg.read]
theorem holds_read {S : Dv} {k : Nat} {l : List UInt8} (h : Holds S k l) : Holds (S.readDo (k : Int)) k l := by
  have e : S.readDo (k : Int) = { S with rd := wrap64 (S.rd + 1) } := by simp [Dv.readDo, holds_has h, h.off]
  rw [e]
  exact ⟨h.off, h.armed, h.page⟩
theorem holds_flush {S : Dv} {k : Nat} {l : List UInt8} (h : Holds S k l) : Holds S.flushDo k l := by
  have hg : S.gone = false := by simp [Dv.gone, h.off, h.armed]
  have hu : S.used = S := by unfold Dv.used; rw [if_pos (.inr h.armed)]
  have e : S.flushDo = { S with cs := S.cs.map Cl.flush, fl := wrap64 (S.fl + 1) } := by simp [Dv.flushDo, hg, hu]
  rw [e]
  obtain ⟨c, hc, hn⟩ := h.page
  exact ⟨h.off, h.armed, c.flush, by simp [hc], hn⟩
theorem holds_write (p k : Nat) (hk : k < p) (l : List UInt8) (hl : l.length ≤ 384) : (Dv.fresh p).writeErr (k : Int) ⟨l.toArray⟩ = 0 ∧ Holds ((Dv.fresh p).writeDo (k : Int) ⟨l.toArray⟩) k l := by
  have hs : (⟨l.toArray⟩ : ByteArray).size = l.length := by show l.toArray.size = _; simp
  have hh : (Dv.fresh p).has (k : Int) = true := by simp [Dv.has, Dv.fresh]; omega
  have hg : (Dv.fresh p).gone = false := by simp [Dv.gone, Dv.fresh]
  have hu : (Dv.fresh p).used = Dv.fresh p := by unfold Dv.used; rw [if_pos (.inr rfl)]
  constructor
  · unfold Dv.writeErr Dv.putErr
    rw [if_neg (by omega), if_neg (by simp [hh]), if_neg (by simp [hg])]
  · unfold Dv.writeDo Dv.putDo
    rw [if_neg (by omega), if_neg (by simp [hh]), if_neg (by simp [hg]), hu]
    obtain ⟨A, c, B, hcs, hA⟩ := part_at (Dv.fresh p).cs k (by simp [Dv.fresh]; omega)
    refine ⟨rfl, rfl, c.put (.whole ⟨l.toArray⟩), ?_, rfl⟩
    show (putAt (Dv.fresh p).cs (k : Int).toNat _)[k]? = _
    rw [Int.toNat_natCast, hcs, ← hA, putAt_part]
    simp

/-- A row of n bytes whatever they are, in block g. -/
def Some8 (w : World) (g n : Nat) : Prop := ∃ f : Nat → Int, ∀ j, j < n → w.cell? ⟨g, j, none⟩ = some (.int .u8 (f j)) ∧ w.frozen? ⟨g, j, none⟩ = false
theorem some8_of {w : World} {g : Nat} {l : List UInt8} {pad : List Value} (h : Blk w g (bCells l ++ pad) 5) : Some8 w g l.length :=
  ⟨fun j => ((l.getD j 0).toNat : Int), fun j hj => ⟨h.cell (by
    rw [List.getElem?_append_left (by simpa [bCells] using hj)]
    simp [bCells, hj, List.getD_eq_getElem?_getD]), h.frozen _⟩⟩
theorem some8_set {w : World} {g n : Nat} (h : Some8 w g n) (i : Nat) (hi : i < n) (x : Int) : Some8 (w.setCell ⟨g, i, none⟩ (.int .u8 x)) g n := by
  obtain ⟨f, hf⟩ := h
  refine ⟨fun j => if j = i then x else f j, fun j hj => ?_⟩
  constructor
  · by_cases e : j = i
    · subst e
      simp only [if_true]
      exact World.cell?_setCell_same _ _ _ (hf j hj).1
    · simp only [if_neg e]
      rw [World.cell?_setCell_other _ _ _ _ (by first | (simp; done) | (simp; omega))]
      exact (hf j hj).1
  · rw [World.frozen?_setCell]; exact (hf j hj).2

theorem sinceKeepG {B g : Nat} {w a b : World} {F : List Nat} (h : Since B w a F) (hg : B ≤ g) (m : Keep [g] a b) : Since B w b F :=
  ⟨h.1.trans (m.below (fun k hk => by simp at hk; omega) h.2.1), Nat.le_trans h.2.1 m.size, h.2.2⟩
theorem dvKeepG {w w' : World} {d g : Nat} {F : List Nat} {S : Dv} (h : DvAt w d F S) (hg : g ∉ F) (m : Keep [g] w w') : DvAt w' d F S :=
  h.same (fun k hk => m.block k (h.lt k hk) (fun e => hg (by simp at e; rw [← e]; exact hk)))
theorem sinceDrewN {B : Nat} {w a : World} {F : List Nat} (h : Since B w a F) (n : Nat) : Since B w (a.drewN n) F := ⟨⟨h.1.os, h.1.tape, h.1.output, h.1.size, h.1.block⟩, h.2⟩

set_option maxHeartbeats 4000000 in
set_option maxRecDepth 100000 in
theorem walk (a0 : Int) (a1 : Int) (a2 : Option Addr) (len2 cap2 : Nat) (z2 : List Int) (w : World) (w0 : (Lit.int .i64 a0).wf = true) (w1 : (Lit.int .i64 a1).wf = true) (w2 : IsRow .u8 w a2 len2 cap2 z2) :
    Calls Try.prog 4 #[.int .i64 a0, .int .i64 a1, .slice a2 len2 cap2] w fun e w' => e = .returned (.bool true) ∧ Below w.heap.size w w' := by
  clear w0 w1
  obtain ⟨l, bb, hl, hbs, hnil, hbw⟩ := row_bytes (show RowIs w a2 len2 cap2 z2 from w2)
  clear w2
  by_cases hall : 1 ≤ a0 ∧ a0 ≤ 20 ∧ 0 ≤ a1 ∧ a1 < a0 ∧ len2 ≤ 384
  · obtain ⟨x1, x2, x3, x4, x5⟩ := hall
    obtain ⟨p, rfl⟩ : ∃ p : Nat, a0 = (p : Int) := ⟨a0.toNat, by omega⟩
    obtain ⟨k, rfl⟩ : ∃ k : Nat, a1 = (k : Int) := ⟨a1.toNat, by omega⟩
    have y1 : ¬ (p : Int) < 1 := by omega
    have y2 : ¬ (20 : Int) < (p : Int) := by omega
    have y3 : ¬ (k : Int) < 0 := by omega
    have y4 : ¬ (p : Int) ≤ (k : Int) := by omega
    have y5 : ¬ (384 : Int) < (len2 : Int) := by omega
    have HBS := hide hbs
    have HNIL := hide hnil
    have HBW := hide hbw
    clear hbs hnil hbw
    subst hl
    obtain ⟨HW1, HW2⟩ := holds_write p k (by omega) l x5
    have HWE := hide HW1
    have HWH := hide HW2
    clear HW1 HW2
    go_enter Try.func4, Try.ntmps4
    go_wp2_with fail
    refine (awake_any _).mono ?_
    rintro e w0 ⟨rfl, b0⟩
    have B0 := hide b0
    clear b0
    go_wp2_with fail
    refine (new_at p (by omega) (by omega) _).mono ?_
    rintro e w1 ⟨d, F1, rfl, h1, f1, b1⟩
    have H1 := hide h1
    have s0 := B0.out.size
    have Q1 : Hid (Since w.heap.size w w1 F1) := ⟨B0.out.trans (b1.mono s0), Nat.le_trans s0 b1.size, fun k hk => Nat.le_trans s0 (f1 k hk)⟩
    have hbs1 : BSlice w1 a2 l bb := HBS.out.same (Nat.le_trans s0 b1.size) (fun hlt _ => Q1.out.1.block bb hlt)
    obtain ⟨g, cap', wA, pad, hrA, hgA, hbA, hBA⟩ := append_bytes w1 a2 l bb cap2 hbs1 HNIL.out (by omega)
    have HRA := hide hrA
    have HGA := hide hgA
    have HBA := hide hbA
    have HBB := hide hBA
    clear h1 f1 b1 s0 B0 hbs1 hrA hgA hbA hBA
    go_wp2_with (at_builtin; refine Lib.wpList_append_run _ rfl _ _ _ _ rfl _ _ rfl rfl _ _ HRA.out ?_)
    have gF1 : Hid (g ∉ F1) := fun hf => by have := H1.out.lt g hf; have := HGA.out; omega
    have H1A := hide (H1.out.below HBB.out)
    have Q1A := hide (Q1.out.below HBB.out)
    have gB : Hid (w.heap.size ≤ g) := Nat.le_trans Q1.out.2.1 HGA.out
    clear HRA
    refine (write_at d F1 (Dv.fresh p) (k : Int) (some ⟨g, 0, none⟩) l.length cap' g l rfl _ (blk_slice (cap := cap') HBA.out) (fun h => by cases h) (fun _ => gF1.out) H1A.out).mono ?_
    rintro e w3 ⟨rfl, F3, h3, m3⟩
    rw [HWE.out]
    have AP3 := m3.apart (G := [g]) (fun k hk => by simp at hk; subst hk; exact ⟨HBA.out.lt, gF1.out⟩)
    have H3 := hide h3
    have Q3 := hide (Q1A.out.moves m3)
    have gF3 : Hid (g ∉ F3) := (AP3.1 g (by simp)).2
    have S3 : Hid (Some8 w3 g l.length) := some8_of (HBA.out.same (AP3.2 g (by simp)))
    clear h3 m3 AP3 H1A Q1A gF1 HBA HBB
    go_wp2
    go_loopg [10] l.length (fun kx s10 wr => ∃ i : Nat, s10 = .int .i64 i ∧ i ≤ l.length ∧ l.length - i ≤ kx ∧ Hid (Keep [g] w3 wr ∧ Some8 wr g l.length))
    case atStart => exact ⟨0, rfl, Nat.zero_le _, by omega, Keep.refl _ _, S3.out⟩
    case round =>
      obtain ⟨i, rfl, hin, hgk, I⟩ := hrel
      by_cases hlt : i < l.length
      · obtain ⟨f, hf⟩ := I.out.2
        obtain ⟨ci, fi⟩ := hf i hlt
        clear hf
        generalize f i = x at ci
        have hlt2 : (i : Int) < (l.length : Int) := by omega
        go_wp2
        go_roundg (l.length - (i + 1))
        case measure => omega
        case rel => exact ⟨i + 1, rfl, by omega, by omega, I.out.1.setCell (.inl (by simp)) _, some8_set I.out.2 i hlt _⟩
      · have hlt2 : ¬ (i : Int) < (l.length : Int) := by omega
        have H4 := hide (dvKeepG H3.out gF3.out I.out.1)
        have Q4 := hide (sinceKeepG Q3.out gB.out I.out.1)
        clear I H3 Q3 S3 gF3 gB
        go_wp2_with fail
        refine (read_at d F3 _ (k : Int) _ H4.out).mono ?_
        rintro e w5 ⟨v, rfl, hr, h5, k5⟩
        rw [holds_err HWH.out] at hr ⊢
        rw [holds_text HWH.out] at hr
        obtain ⟨_, b1, hb1, rfl, hbk1⟩ := hr.page rfl
        have HH5 := hide (holds_read HWH.out)
        have H5 := hide h5
        have Q5 := hide (Q4.out.keep k5)
        have nb1 : Hid (b1 ∉ F3) := fun hf => by have := H4.out.lt b1 hf; omega
        have b1B : Hid (w.heap.size ≤ b1) := Nat.le_trans Q4.out.2.1 hb1
        have hbs5 : BSlice w5 a2 l bb := HBS.out.same Q5.out.1.size (fun hlt _ => Q5.out.1.block bb hlt)
        obtain ⟨want, hwant⟩ : ∃ want : ByteArray, want = ⟨(l ++ List.replicate (384 - l.length) 0).toArray⟩ := ⟨_, rfl⟩
        have hfd : (full ⟨l.toArray⟩).data.toList = l ++ List.replicate (384 - l.length) 0 := by
          rw [full_data]; rfl
        have hlen : (l ++ List.replicate (384 - l.length) (0 : UInt8)).length = 384 := by simp; omega
        rw [hfd] at hbk1
        have hsplit : bCells (l ++ List.replicate (384 - l.length) (0 : UInt8)) = bCells l ++ bCells (List.replicate (384 - l.length) 0) := by simp [bCells]
        have hbl : BSlice w5 (some ⟨b1, 0, none⟩) l b1 := blk_slice (cap := 0) (by rw [← hsplit]; exact hbk1)
        have hbf : BSlice w5 (some ⟨b1, 0, none⟩) (l ++ List.replicate (384 - l.length) (0 : UInt8)) b1 := blk_slice (cap := 0) (pad := []) (by rw [List.append_nil]; exact hbk1)
        obtain ⟨sl, hsl⟩ : ∃ sl : ByteArray, sl = ⟨l.toArray⟩ := ⟨_, rfl⟩
        have cv1 : ∀ q, (convert 31 9 (.slice (some ⟨b1, 0, none⟩) l.length 384)).run Try.prog (w5.drewN q) = .ok (.string sl) (w5.drewN q) := fun q => by
          rw [hsl]; exact str_any (w := w5.drewN q) hbl (fun h => by cases h) 384
        have cv2 : ∀ q, (convert 31 9 (.slice a2 l.length cap2)).run Try.prog (w5.drewN q) = .ok (.string sl) (w5.drewN q) := fun q => by
          rw [hsl]; exact str_any (w := w5.drewN q) hbs5 HNIL.out cap2
        have cv3 : ∀ q, (convert 31 9 (.slice (some ⟨b1, 0, none⟩) 384 384)).run Try.prog (w5.drewN q) = .ok (.string want) (w5.drewN q) := fun q => by
          have h := str_any (w := w5.drewN q) hbf (fun h => by cases h) 384
          rw [hlen] at h
          rw [h, hwant]
        have S5 : Hid (Some8 w5 b1 384) := by
          have := some8_of (pad := []) (by rw [List.append_nil]; exact hbk1)
          rw [hlen] at this
          exact this
        have HWANT := hide hwant
        have y6 : (l.length : Int) ≤ 384 := by omega
        have HFD := hide hfd
        have HLEN := hide hlen
        have b1lt : Hid (b1 < w5.heap.size) := hbk1.lt
        clear h5 k5 hb1 hbk1 hbs5 hbl hbf hr hfd hlen hsplit hwant hsl H4 Q4
        go_wp2
        go_quiet (fail)
        go_wp2
        have toStr : Hid (∀ (W : World) (b3 : Nat), Blk W b3 (bCells (full ⟨l.toArray⟩).data.toList) 5 → (convert 31 9 (.slice (some ⟨b3, 0, none⟩) 384 384)).run Try.prog W = .ok (.string want) W) := by
          intro W b3 hb
          rw [HFD.out] at hb
          have h := str_any (w := W) (blk_slice (cap := 0) (pad := []) (by rw [List.append_nil]; exact hb)) (fun h => by cases h) 384
          rw [HLEN.out] at h
          rw [h, HWANT.out]
        clear cv1 cv2 cv3 HFD HLEN HWANT y6 hlt hlt2 hin hgk
        go_loopg [14] 384 (fun kx s14 wr2 => ∃ i : Nat, s14 = .int .i64 i ∧ i ≤ 384 ∧ 384 - i ≤ kx ∧ Hid (Keep [b1] w5 wr2 ∧ Some8 wr2 b1 384))
        case atStart => exact ⟨0, rfl, Nat.zero_le _, by omega, ⟨rfl, rfl, rfl, Nat.le_refl _, fun _ _ _ => rfl⟩, S5.out⟩
        case round =>
          obtain ⟨i2, rfl, hin2, hgk2, I⟩ := hrel
          rename_i wr2 _ _ _ _
          by_cases hlt : i2 < 384
          · obtain ⟨f, hf⟩ := I.out.2
            obtain ⟨ci, fi⟩ := hf i2 hlt
            clear hf
            generalize f i2 = x at ci
            have hlt2 : (i2 : Int) < 384 := by omega
            go_wp2
            go_roundg (384 - (i2 + 1))
            case measure => omega
            case rel => exact ⟨i2 + 1, rfl, by omega, by omega, I.out.1.setCell (.inl (by simp)) _, some8_set I.out.2 i2 hlt _⟩
          · have hlt2 : ¬ (i2 : Int) < 384 := by omega
            have H6 := hide (dvKeepG H5.out nb1.out I.out.1)
            have Q6 := hide (sinceKeepG Q5.out b1B.out I.out.1)
            clear I H5 Q5 S5 nb1 b1B
            go_wp2_with fail
            refine (read_at d F3 _ (k : Int) _ H6.out).mono ?_
            rintro e w7 ⟨v, rfl, hr, h7, k7⟩
            rw [holds_err HH5.out] at hr ⊢
            rw [holds_text HH5.out] at hr
            obtain ⟨ht7, b2, hb2, rfl, hbk2⟩ := hr.page rfl
            have HH7 := hide (holds_read HH5.out)
            have H7 := hide h7
            have Q7 := hide (Q6.out.keep k7)
            have nb2 : Hid (b2 ∉ F3) := fun hf => by have := H6.out.lt b2 hf; omega
            have b2B : Hid (w.heap.size ≤ b2) := Nat.le_trans Q6.out.2.1 hb2
            have hl2 : (full ⟨l.toArray⟩).data.toList.length = 384 := by rw [Array.length_toList]; exact ht7
            have S7 : Hid (Some8 w7 b2 384) := by
              have := some8_of (pad := []) (by rw [List.append_nil]; exact hbk2)
              rw [hl2] at this
              exact this
            have b2lt : Hid (b2 < w7.heap.size) := hbk2.lt
            clear h7 k7 hr hb2 hbk2 H6 Q6 hl2 ht7
            go_wp2_with fail
            refine (copy_at d F3 _ _ H7.out).mono ?_
            rintro e w8 ⟨rfl, Fo, h8, fo8, b8⟩
            have H8o := hide h8
            have H8 := hide (H7.out.below b8)
            have Q8 := hide (Q7.out.below b8)
            have FO8 := hide fo8
            have S8 : Hid (Some8 w8 b2 384) := by
              obtain ⟨f, hf⟩ := S7.out
              exact ⟨f, fun j hj => ⟨by rw [b8.cell (p := ⟨b2, j, none⟩) b2lt.out]; exact (hf j hj).1, by rw [b8.frozen (p := ⟨b2, j, none⟩) b2lt.out]; exact (hf j hj).2⟩⟩
            have nb2o : Hid (b2 ∉ Fo) := fun hf => by have := fo8 b2 hf; have := b2lt.out; omega
            clear h8 fo8 b8
            go_wp2
            go_loopg [18] 384 (fun kx s18 wr3 => ∃ i : Nat, s18 = .int .i64 i ∧ i ≤ 384 ∧ 384 - i ≤ kx ∧ Hid (Keep [b2] w8 wr3 ∧ Some8 wr3 b2 384))
            case atStart => exact ⟨0, rfl, Nat.zero_le _, by omega, Keep.refl _ _, S8.out⟩
            case round =>
              obtain ⟨i3, rfl, hin3, hgk3, I⟩ := hrel
              by_cases hlt4 : i3 < 384
              · obtain ⟨f, hf⟩ := I.out.2
                obtain ⟨ci, fi⟩ := hf i3 hlt4
                clear hf
                generalize f i3 = x at ci
                have hlt5 : (i3 : Int) < 384 := by omega
                go_wp2
                go_roundg (384 - (i3 + 1))
                case measure => omega
                case rel => exact ⟨i3 + 1, rfl, by omega, by omega, I.out.1.setCell (.inl (by simp)) _, some8_set I.out.2 i3 hlt4 _⟩
              · have hlt5 : ¬ (i3 : Int) < 384 := by omega
                have H9 := hide (dvKeepG H8.out nb2.out I.out.1)
                have H9o := hide (dvKeepG H8o.out nb2o.out I.out.1)
                have Q9 := hide (sinceKeepG Q8.out b2B.out I.out.1)
                have AP9 : Hid (Apart _ F3 Fo) := fun k hk => ⟨H9o.out.lt k hk, fun hf => by have := H7.out.lt k hf; have := FO8.out k hk; omega⟩
                clear I H8 H8o Q8 S8 S7 nb2 nb2o b2B b2lt
                go_wp2_with fail
                refine (flush_at d F3 _ _ H9.out).mono ?_
                rintro e w10 ⟨rfl, F10, h10, m10⟩
                have HH10 := hide (holds_flush HH7.out)
                have H10 := hide h10
                have Q10 := hide (Q9.out.moves m10)
                have A10 := hide (m10.apart AP9.out)
                have H10o := hide (H9o.out.same (fun k hk => A10.out.2 k hk))
                clear h10 m10
                go_wp2_with fail
                refine (read_at d F10 _ (k : Int) _ H10.out).mono ?_
                rintro e w11 ⟨v3, rfl, hr3, h11, k11⟩
                rw [holds_err HH10.out] at hr3 ⊢
                rw [holds_text HH10.out] at hr3
                obtain ⟨_, b3, hb3, rfl, hbk3⟩ := hr3.page rfl
                have Q11 := hide (Q10.out.keep k11)
                have A11 := hide ((Moves.of_keep k11).apart A10.out.1)
                have H11o := hide (H10o.out.same (fun k hk => A11.out.2 k hk))
                have nb3 : Hid (b3 ∉ Fo) := fun hf => by have := H10o.out.lt b3 hf; omega
                have BK3 := hide hbk3
                clear hr3 h11 k11 hb3 hbk3
                go_wp2_with fail
                refine (read_at w7.heap.size Fo _ (k : Int) _ H11o.out).mono ?_
                rintro e w12 ⟨v4, rfl, hr4, h12, k12⟩
                rw [holds_err HH7.out] at hr4 ⊢
                rw [holds_text HH7.out] at hr4
                obtain ⟨_, b4, hb4, rfl, hbk4⟩ := hr4.page rfl
                have cz := toStr.out w12 b3 (BK3.out.same (k12.block b3 BK3.out.lt nb3.out))
                have cw := toStr.out w12 b4 hbk4
                have FIN : Hid (Below w.heap.size w w12) := Q11.out.1.trans (k12.below (fun j hj => Nat.le_trans Q7.out.2.1 (FO8.out j hj)) Q11.out.2.1)
                clear hr4 h12 k12 hb4 hbk4
                go_wp2
                go_ret
                exact ⟨rfl, FIN.out⟩
  · have hc : a0 < 1 ∨ (¬ a0 < 1 ∧ 20 < a0) ∨ (¬ a0 < 1 ∧ ¬ 20 < a0 ∧ a1 < 0) ∨ (¬ a0 < 1 ∧ ¬ 20 < a0 ∧ ¬ a1 < 0 ∧ a0 ≤ a1) ∨ (¬ a0 < 1 ∧ ¬ 20 < a0 ∧ ¬ a1 < 0 ∧ ¬ a0 ≤ a1 ∧ (384 : Int) < (len2 : Int)) := by omega
    clear hall hbs hnil hbw
    rcases hc with h1 | ⟨h1, h2⟩ | ⟨h1, h2, h3⟩ | ⟨h1, h2, h3, h4⟩ | ⟨h1, h2, h3, h4, h5⟩
    all_goals (
      go_enter Try.func4, Try.ntmps4
      go_wp2_with fail
      refine (awake_any _).mono ?_
      rintro e w0 ⟨rfl, b0⟩
      have B0 := hide b0
      clear b0
      go_wp2
      go_ret
      exact ⟨rfl, B0.out⟩)

/-! ### THE ROW's STEP: WRITTEN OUT: LEAVE IT -/
set_option maxRecDepth 100000 in
theorem lifted (os : Os) (started : os.Started) (H : Type) (enc : TypeId × Value → H) :
    ReturnsInHanded {} Try.checked os 4 .any (Rows.flashNewSpec.pre6 enc Try.prog Try.f4 Rows.flashNewRow.domain false) (Rows.flashNewSpec.post enc Try.prog Try.f4 false true false false) := by
  refine returnsInHanded_of_change (C := Try.checked) own started (by kernel_rfl) Try.func4
    (ChangeSpec.witness6 (enc := enc) (C := Try.checked) false ⟨#[], #[.int .i64 0, .int .i64 0, .slice none 0 0], []⟩ 8 (by kernel_rfl) (by kernel_rfl) (by kernel_rfl) (by kernel_rfl)) ?_
  intro W base args ds gs before hval0 hW hcnd _
  have hval : ∀ (j : Nat) t v, Try.f4.params[j]? = some t → args[j]? = some v → Value.okWide Try.prog W .any base t v := hval0
  have hW' := hW
  obtain ⟨p, q, hA0, hV, rfl, hfz, hnd⟩ := hW
  have hA : DataW.TrodAll enc Try.prog W 0 (fun _ => true) true Try.f4.params.toList args.toList ds p := hA0
  rw [Try.params4] at hA hval
  obtain ⟨v0, vs0, d0, ds0, p0, q0, hargs, rfl, rfl, h0, r0⟩ := trodAll_cons hA
  obtain ⟨v1, vs1, d1, ds1, p1, q1, rfl, rfl, rfl, h1, r1⟩ := trodAll_cons r0
  obtain ⟨v2, vs2, d2, ds2, p2, q2, rfl, rfl, rfl, h2, r2⟩ := trodAll_cons r1
  obtain ⟨rfl, rfl, rfl⟩ := trodAll_nil r2
  obtain rfl : args = #[v0, v1, v2] := by cases args; simp_all
  obtain ⟨rfl, rfl⟩ := trodVars_none hV
  obtain ⟨a0, rfl, rfl, rfl, w0⟩ := open_int Try.underlying3 (hval 0 3 v0 rfl rfl) h0
  obtain ⟨a1, rfl, rfl, rfl, w1⟩ := open_int Try.underlying3 (hval 1 3 v1 rfl rfl) h1
  obtain ⟨a2, len2, cap2, rfl⟩ := okWide_slice Try.underlying31 (hval 2 31 v2 rfl rfl)
  have k2 := h2
  have lt2 : ∀ x ∈ p2, x.block < W.heap.size := by obtain ⟨m, hm⟩ := k2; exact DataW.trod_lt m _ _ _ hm
  obtain ⟨z2, w2⟩ : ∃ zs, IsRow .u8 W a2 len2 cap2 zs := by
    obtain ⟨fuel, hf⟩ := h2
    rcases open_ints Try.underlying31 Try.underlying5 (by kernel_rfl) hf with ⟨hcs, _⟩ | ⟨x, l, c, zs, hcs, _, hl, hm, hz, _, hcell, hwz⟩
    · simp [Value.cells] at hcs
      obtain ⟨rfl, rfl, rfl⟩ := hcs
      exact ⟨[], .inl ⟨rfl, rfl, rfl, rfl⟩⟩
    · simp [Value.cells] at hcs
      obtain ⟨rfl, rfl, rfl⟩ := hcs
      exact ⟨zs, .inr ⟨_, rfl, hl, hm, by simpa using hz, hcell, hwz⟩⟩
  clear hA0 hval0
  refine (walk a0 a1 a2 len2 cap2 z2 W w0 w1 w2).mono fun e W' ⟨he, bel⟩ => ?_
  subst he
  exact ⟨_, rfl, _, _, _, [], _, [], hW', trodAll_mk1 (shut_bool Try.underlying4 _), (trodAll_cons_mk (shut_int Try.underlying3 w0) (trodAll_cons_mk (shut_int Try.underlying3 w1) (trodAll_cons_mk (Below.trod laidOut (by kernel_rfl) (of_decide_eq_true (by kernel_rfl)) k2 bel lt2) trodAll_mk0))), rfl, bel.frame _, fun h => by cases h⟩

theorem over : Rows.flashNewRow.holds Try.pinned (OpenSpec.ofChange Rows.flashNewSpec) :=
  OpenClaim.holds_of_wide 4 Try.f4 rfl rfl rfl rfl rfl rfl rfl ⟨rfl, rfl, rfl, rfl, rfl⟩ rfl rfl rfl rfl rfl (by kernel_rfl) Try.func4 (by kernel_rfl)
    (of_decide_eq_true (by kernel_rfl)) (by unfold Func.isWrapper; first | (rw [if_pos (by decide +kernel)]; kernel_rfl) | (rw [if_neg (by decide +kernel)]; exact ⟨rfl, rfl⟩))
    (fun os started H enc _ => lifted os started H enc)

theorem proved : Rows.FlashNewSaid := over
end Go.Proofs.Ythnfdgjikbjgoab.flashNew
namespace Go.Proofs.Ythnfdgjikbjgoab
theorem flashNew_holds : Rows.FlashNewSaid := flashNew.proved
#print axioms flashNew_holds
end Go.Proofs.Ythnfdgjikbjgoab
