/- Marks, a page of them: 'laid'. -/
import Derived.Test.YtghdkicijdfpcaaRBytes
import Derived.Test.YtghdkicijdfpcaaDev
set_option linter.unusedVariables false
set_option linter.unusedSimpArgs false
set_option maxRecDepth 8000
namespace Go.Proofs.Ytghdkicijdfpcaa
open Go.RowKit Go.Deep Math

abbrev Mk := Nat × Nat
def Mk.fits (x : Nat × Nat) : Prop := x.1 < 18446744073709551616 ∧ x.2 < 18446744073709551616
structure OneMk (w : World) (b o : Nat) (x : Mk) : Prop where
  c0 : w.cell? ⟨b, o, none⟩ = some (.int .u64 x.1)
  c1 : w.cell? ⟨b, o + 1, none⟩ = some (.int .u64 x.2)
theorem OneMk.below {w w' : World} {b o : Nat} {x : Mk} {B : Nat} (h : OneMk w b o x) (k : Below B w w') (hb : b < B) : OneMk w' b o x :=
  ⟨(k.cell (p := ⟨b, o, none⟩) hb).trans h.c0, (k.cell (p := ⟨b, o + 1, none⟩) hb).trans h.c1⟩
theorem cell_same {w w' : World} {b o : Nat} (e : w'.heap[b]? = w.heap[b]?) : w'.cell? ⟨b, o, none⟩ = w.cell? ⟨b, o, none⟩ := by
  unfold World.cell?
  simp only [e]
theorem OneMk.same {w w' : World} {b o : Nat} {x : Mk} (h : OneMk w b o x) (e : w'.heap[b]? = w.heap[b]?) : OneMk w' b o x :=
  ⟨(cell_same e).trans h.c0, (cell_same e).trans h.c1⟩
/-- A slice of marks. -/
structure MksAt (w : World) (a : Option Addr) (len : Nat) (xs : List Mk) : Prop where
  len : len = xs.length
  fits : ∀ x ∈ xs, Mk.fits x
  cell : ∀ i x, xs[i]? = some x → ∃ b o, a = some ⟨b, o, none⟩ ∧ b < w.heap.size ∧ OneMk w b (o + i * 2) x
theorem MksAt.below {w w' : World} {a : Option Addr} {len : Nat} {xs : List Mk} (h : MksAt w a len xs) (k : Below w.heap.size w w') : MksAt w' a len xs :=
  ⟨h.len, h.fits, fun i x hx => by
    obtain ⟨b, o, ha, hb, hc⟩ := h.cell i x hx
    exact ⟨b, o, ha, Nat.lt_of_lt_of_le hb k.size, hc.below k hb⟩⟩

def mk4 : List UInt8 := [84, 79, 77, 66]
def encM (xs : List Mk) : List UInt8 := xs.flatMap fun x => low x.1 8 ++ low x.2 8
theorem encM_nil : encM [] = [] := rfl
theorem encM_snoc (xs : List Mk) (x : Mk) : encM (xs ++ [x]) = encM xs ++ (low x.1 8 ++ low x.2 8) := by simp [encM]
theorem encM_cons (xs : List Mk) (x : Mk) : encM (x :: xs) = low x.1 8 ++ (low x.2 8 ++ encM xs) := by simp [encM]
theorem encM_length : ∀ xs : List Mk, (encM xs).length = 16 * xs.length
  | [] => rfl
  | x :: xs => by rw [encM_cons, List.length_append, List.length_append, low_length, low_length, encM_length xs, List.length_cons]; omega
def headB (gen n : Nat) : List UInt8 := mk4 ++ low n 4 ++ low gen 8
def pageB (gen : Nat) (xs : List Mk) : List UInt8 := headB gen xs.length ++ encM xs
theorem headB_length (gen n : Nat) : (headB gen n).length = 16 := by simp [headB, mk4, low_length]
theorem pageB_length (gen : Nat) (xs : List Mk) : (pageB gen xs).length = 16 + 16 * xs.length := by rw [pageB, List.length_append, headB_length, encM_length]

structure LS (w W : World) (g : Nat) (cur : List UInt8) (r N : Nat) : Prop where
  buf : Buf W g cur r
  below : Below w.heap.size w W
  ng : w.heap.size ≤ g
  len : cur.length + r = N
theorem LS.num {w W : World} {g r N : Nat} {cur : List UInt8} (h : LS w W g cur r N) (n k m : Nat) (hm : m = cur.length) (hk : k ≤ 8) (hkr : k ≤ r) (hn : n < 18446744073709551616) (hN : N ≤ 400) :
    Calls Try.prog 51 #[.slice (some ⟨g, 0, none⟩) m N, .int .u64 n, .int .i64 k] W fun e w' => e = .returned (.slice (some ⟨g, 0, none⟩) (m + k) N) ∧ LS w w' g (cur ++ low n k) (r - k) N ∧ Keep [g] W w' := by
  have hl := h.len
  refine (addNumber_any g r k m N cur n hn hkr hk hm (by omega) (by omega) W h.buf).mono ?_
  rintro e w' ⟨he, hb, hkp⟩
  have hng := h.ng
  exact ⟨he, ⟨hb, h.below.trans (hkp.below (by simp; omega) h.below.size), hng, by rw [List.length_append, low_length]; omega⟩, hkp⟩
theorem LS.alloc {w W : World} {g r N : Nat} {cur : List UInt8} (h : LS w W g cur r N) (o : Obj) : LS w (W.alloc o) g cur r N :=
  ⟨by have := h.buf; unfold Buf at *; exact this.alloc _, h.below.alloc h.below.size _, h.ng, h.len⟩
theorem LS.start (w : World) (N : Nat) (Z : Array Value) (hZ : (zc N).toArray = Z) : LS w (w.alloc (.cells Z 5)) w.heap.size [] N N := by
  refine ⟨?_, (Below.refl _ _).alloc (Nat.le_refl _) _, Nat.le_refl _, by simp⟩
  unfold Buf
  rw [show bCells [] ++ zc N = zc N from rfl]
  unfold Blk
  rw [hZ]
  exact blk_alloc_new _ _
theorem LS.mark {w W : World} {g N : Nat} (h : LS w W g [] N N) (h4 : 4 ≤ N) (hN : N ≤ 400) :
    ∃ W', (Builtin.append_ #[41, 9] 41 #[.slice (some ⟨g, 0, none⟩) 0 N, .string ⟨#[84, 79, 77, 66]⟩]).run Try.prog W = .ok (.slice (some ⟨g, 0, none⟩) 4 N) W' ∧ LS w W' g mk4 (N - 4) N := by
  have hs : Src Try.prog 1 9 (.string ⟨#[84, 79, 77, 66]⟩) 4 (bCells mk4) W := Src.ofString (P := Try.prog) W Try.underlying9 (txt mk4)
  obtain ⟨h1, h2⟩ := buf_append (nl := 0) (cp := N) h.buf hs h4 rfl (by simp) 41
  have hk : Keep [g] W (W.setCells g 0 (bCells mk4)) := (Keep.refl _ _).setCells (.inl (by simp)) _ _
  have hng := h.ng
  exact ⟨_, h1, h2, h.below.trans (hk.below (by simp; omega) h.below.size), hng, by simp [mk4]; omega⟩

set_option maxHeartbeats 1000000 in
theorem laid_any (gen : Nat) (hgen : gen < 18446744073709551616) (a : Option Addr) (len cap : Nat) (xs : List Mk) (hlen : len ≤ 23) (w : World) (h : MksAt w a len xs) :
    Calls Try.prog 32 #[.int .u64 gen, .slice a len cap] w fun e w' => e = .returned (.slice (some ⟨w.heap.size, 0, none⟩) (16 + 16 * len) (16 + 16 * len)) ∧ Buf w' w.heap.size (pageB gen xs) 0 ∧ Below w.heap.size w w' := by
  obtain ⟨N, hN⟩ : ∃ N, N = 16 + 16 * len := ⟨_, rfl⟩
  have hN4 : N ≤ 400 := by omega
  have hmk := make_cap N (by omega) w
  generalize hZ : (zc N).toArray = Z at hmk
  obtain ⟨W1, hm, h1⟩ := (LS.start w N Z hZ).mark (by omega) hN4
  have EN : wrap64 (16 + wrap64 (16 * (len : Int))) = (N : Int) := by unfold wrap64; omega
  have hl := h.len
  have H := hide h
  have HR1 := hide hm
  have HLE := hide hlen
  have HN := hide hN
  have HN4 := hide hN4
  have HG := hide hgen
  have C1 := hide (h1.num len 4 4 rfl (by omega) (by omega) (by omega) hN4)
  have HL := hide hl
  have hwl : IntKind.u64.wrap (len : Int) = (len : Int) := by rw [IntKind.wrap_u64]; omega
  rw [← hN]
  clear h h1 hl hlen hN hN4 hgen hZ hm
  go_enter Try.func32, Try.ntmps32
  go_wp2_with (first
    | (go_at_call 51; fail)
    | (at_builtin; refine Lib.wpList_append_run _ rfl _ _ _ _ rfl _ _ rfl rfl _ _ HR1.out ?_))
  refine C1.out.mono ?_
  rintro r W2 ⟨rfl, h2, _⟩
  have H2 := hide h2
  have C2 := hide (h2.num gen 8 8 (by simp [mk4, low_length]) (by omega) (by have := HN.out; omega) HG.out HN4.out)
  clear h2 C1 HR1
  go_wp2_with fail
  refine C2.out.mono ?_
  rintro r W3 ⟨rfl, h3, _⟩
  have H3 : Hid (LS w W3 w.heap.size (headB gen len) (N - 16) N) := by
    have := h3
    rw [show N - 4 - 4 - 8 = N - 16 by omega] at this
    exact this
  clear h3 C2 H2 hmk EN hwl
  go_wp2_with fail
  go_loopg [5, 24] len (fun kx s5 s24 wr => ∃ i m : Nat, s24 = .int .i64 i ∧ s5 = .slice (some ⟨w.heap.size, 0, none⟩) m N ∧ i ≤ len ∧ len - i ≤ kx ∧ Hid (m = (headB gen len ++ encM (xs.take i)).length ∧ LS w wr w.heap.size (headB gen len ++ encM (xs.take i)) (N - 16 - 16 * i) N))
  case atStart => exact ⟨0, 16, rfl, rfl, by omega, by omega, by simp [headB_length, encM], by simpa [encM] using H3.out⟩
  case round =>
    obtain ⟨i, m, rfl, rfl, hin, hg, I⟩ := hrel
    by_cases hlt : i < len
    · have hlt2 : (i : Int) < (len : Int) := by omega
      have hi23 : (i : Int) < 23 := by have := HLE.out; omega
      obtain ⟨x, hx⟩ : ∃ x, xs[i]? = some x := ⟨_, List.getElem?_eq_getElem (by have := HL.out; omega)⟩
      have hxf := H.out.fits x (List.mem_of_getElem? hx)
      obtain ⟨b, o, rfl, hb, hone⟩ := H.out.cell i x hx
      obtain ⟨k0, k1⟩ := hone.below I.out.2.below hb
      have hr : 16 ≤ N - 16 - 16 * i := by have := HN.out; omega
      have hxs : xs.take (i + 1) = xs.take i ++ [x] := by rw [List.take_add_one, hx]; rfl
      have HX := hide hxs
      have HM := hide I.out.1
      have CA := hide (((I.out.2.alloc (.cells #[.int .u64 x.1, .int .u64 x.2] 48))).num x.1 8 m I.out.1 (by omega) (by omega) hxf.1 HN4.out)
      have HXF := hide hxf
      have HR := hide hr
      have HGM := hide hg
      have NW := hide (Blk.new wr [.int .u64 x.1, .int .u64 x.2] 48)
      have HBL := hide I.out.2.below
      clear hx hone hxs hr hxf hg
      go_wp2_with fail
      refine CA.out.mono ?_
      rintro r w1 ⟨rfl, ha, kp⟩
      have hbx := NW.out.same (kp.block _ NW.out.lt (by simp; have := I.out.2.buf; unfold Buf at this; have := this.lt; omega))
      have y1 := hbx.cell (i := 1) rfl
      have hltx := hbx.lt
      have CB := hide (ha.num x.2 8 (m + 8) (by rw [HM.out]; simp [low_length]; omega) (by omega) (by have := HR.out; omega) HXF.out.2 HN4.out)
      clear ha kp hbx CA k0 k1
      go_wp2_with fail
      refine CB.out.mono ?_
      rintro r w2 ⟨rfl, hb2, _⟩
      have HB2 := hide hb2
      clear hb2 CB y1
      go_wp2
      go_roundg (len - (i + 1))
      case measure => have := HGM.out; omega
      case rel =>
        refine ⟨i + 1, m + 16, rfl, rfl, hlt, by omega, ?_, ?_⟩
        · rw [HX.out, encM_snoc, HM.out]; simp [low_length]; omega
        · have := HB2.out
          rw [HX.out, encM_snoc, show N - 16 - 16 * (i + 1) = N - 16 - 16 * i - 8 - 8 by omega]
          simpa [List.append_assoc] using this
    · obtain rfl : i = len := by omega
      have hlt2 : ¬ (i : Int) < (i : Int) := by omega
      have hfin : Hid (m = N ∧ LS w wr w.heap.size (pageB gen xs) 0 N) := by
        have h1 := I.out.2
        have h2 := I.out.1
        rw [show xs.take i = xs from List.take_of_length_le (by have := HL.out; omega)] at h1 h2
        rw [show N - 16 - 16 * i = 0 by have := HN.out; omega] at h1
        refine ⟨?_, ?_⟩
        · rw [h2, List.length_append, headB_length, encM_length, HN.out, ← HL.out]
        · unfold pageB; rw [← HL.out]; exact h1
      obtain ⟨rfl, hls⟩ := hfin.out
      have HLS := hide hls
      clear hls hfin I
      go_wp2
      go_ret
      exact ⟨rfl, HLS.out.buf, HLS.out.below⟩
end Go.Proofs.Ytghdkicijdfpcaa
