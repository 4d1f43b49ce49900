/- Bytes, and texts of them. -/
import Derived.Test.YtghdkicijdfpcaaRNum
import Derived.Lib.ConvBytes
import Derived.Laws.BytesString
import Derived.WalkSpells
import Derived.WalkLawsBesides
import Derived.Deep.RegionHeld3
set_option linter.unusedVariables false
set_option linter.unusedSimpArgs false
namespace Go.Proofs.Ytghdkicijdfpcaa
open Go.RowKit Go.Deep Go.ChangeShapes Go.WideShapes Math

/-- An item's fields as values. -/
def txt (l : List UInt8) : ByteArray := ⟨l.toArray⟩
theorem txt_size (l : List UInt8) : (txt l).size = l.length := by show l.toArray.size = _; simp
/-- '[]byte(s)'. -/
theorem run_bytes (w : World) (s : ByteArray) :
    (convert 9 41 (.string s)).run Try.prog w = .ok (.slice (some ⟨w.heap.size, 0, none⟩) s.size (grownCap w s.size 0 5)) (Lib.bytesWorld w 5 s) :=
  Lib.run_convert_string_bytes w 9 41 5 s Try.underlying9 Try.underlying41 Try.underlying5
theorem below_bytes (w : World) (s : ByteArray) : Below w.heap.size w (Lib.bytesWorld w 5 s) :=
  ⟨rfl, rfl, rfl, by rw [Lib.bytesWorld_size]; omega, fun k hk => Lib.bytesWorld_at_old w 5 s k hk⟩
theorem reads_bytes (w : World) (s : ByteArray) : Reads (Lib.bytesWorld w 5 s) (some ⟨w.heap.size, 0, none⟩) (bytesOf s) := by
  refine ⟨fun i hi => ⟨_, _, rfl, ?_⟩, bytesOf_range s⟩
  rw [bytesOf_length] at hi
  rw [Nat.zero_add, Lib.bytesWorld_cell w 5 s i hi]
  have hi' : i < s.data.toList.length := by rw [Array.length_toList]; exact hi
  unfold bytesOf
  rw [List.getD_eq_getElem?_getD, List.getD_eq_getElem?_getD, List.getElem?_map, List.getElem?_eq_getElem hi']
  rfl
theorem reads_bytes_at (w : World) (s : ByteArray) (N : Nat) (hN : N = w.heap.size) : Reads (Lib.bytesWorld w 5 s) (some ⟨N, 0, none⟩) (bytesOf s) := by
  subst hN; exact reads_bytes w s
/-- A slice of bytes as it lies, with its list. -/
structure BS (w : World) (a : Option Addr) (n cap : Nat) (l : List UInt8) : Prop where
  len : n = l.length
  cap : n ≤ cap
  reads : Reads w a (ints l)
  cell : ∀ i, i < n → ∃ b off, a = some ⟨b, off, none⟩ ∧ b < w.heap.size ∧ w.cell? ⟨b, off + i, none⟩ = some (.int .u8 ((l.getD i 0).toNat : Int))
theorem BS.mk' {w : World} {a : Option Addr} {n cap : Nat} {l : List UInt8} (hn : n = l.length) (hc : n ≤ cap) (hr : Reads w a (ints l)) : BS w a n cap l :=
  ⟨hn, hc, hr, fun i hi => by
    obtain ⟨b, off, ha, hcell⟩ := hr.1 i (by rw [ints_length, ← hn]; exact hi)
    rw [ints_getD] at hcell
    exact ⟨b, off, ha, block_lt_of_cell hcell, hcell⟩⟩
theorem BS.later {w w' : World} {a : Option Addr} {n cap : Nat} {l : List UInt8} (h : BS w a n cap l) (b : Below w.heap.size w w') : BS w' a n cap l := BS.mk' h.len h.cap (h.reads.later b)
theorem BS.heap {w w' : World} {a : Option Addr} {n cap : Nat} {l : List UInt8} (h : BS w a n cap l) (e : w'.heap = w.heap) : BS w' a n cap l :=
  BS.mk' h.len h.cap ⟨fun i hi => by
    obtain ⟨b, off, ha, hc⟩ := h.reads.1 i hi
    exact ⟨b, off, ha, (World.cell?_of_block (a := ⟨b, off + i, none⟩) (show w'.heap[b]? = w.heap[b]? by rw [e])).trans hc⟩, h.reads.2⟩
/-- A part of it. -/
theorem BS.sub {w : World} {b off n cap : Nat} {l : List UInt8} (h : BS w (some ⟨b, off, none⟩) n cap l) (i j o2 m c : Nat) (ho : o2 = off + i) (hij : i ≤ j) (hj : j ≤ n) (hm : m = j - i) (hc : m ≤ c) : BS w (some ⟨b, o2, none⟩) m c (sl l i j) := by
  have hl := h.len
  refine BS.mk' (by rw [sl_length _ _ _ (by omega)]; exact hm) hc ⟨fun k hk => ?_, fun k => ?_⟩
  · rw [ints_length, sl_length _ _ _ (by omega)] at hk
    obtain ⟨b', off', ha, _, hcell⟩ := h.cell (i + k) (by omega)
    simp only [Option.some.injEq, Addr.mk.injEq, and_true] at ha
    obtain ⟨rfl, rfl⟩ := ha
    refine ⟨b, o2, rfl, ?_⟩
    rw [ho, Nat.add_assoc, hcell, ints_getD]
    congr 4
    simp only [List.getD_eq_getElem?_getD, sl, List.getElem?_drop]
    rw [List.getElem?_take_of_lt (by omega)]
  · rw [ints_getD]
    have := ((sl l i j).getD k 0).toNat_lt
    omega
/-- 'string(b)'. -/
theorem str_bs {w : World} {a : Option Addr} {n cap : Nat} {l : List UInt8} (h : BS w a n cap l) (hnil : a = none → l = []) : (convert 41 9 (.slice a n cap)).run Try.prog w = .ok (.string (txt l)) w := by
  have hn := h.len
  subst hn
  cases a with
  | none =>
    rw [hnil rfl, run_convert_bytes_string w 41 9 5 none _ cap Try.underlying41 Try.underlying5 Try.underlying9]
    unfold Conv.bytesToString
    simp [Sem.run_bind, Result.andThen]
    rfl
  | some x =>
    refine run_convert_bytes_back w 41 9 5 x cap l Try.underlying41 Try.underlying5 Try.underlying9 (fun j hj => ?_)
    obtain ⟨b, off, ha, _, hc⟩ := h.cell j hj
    cases ha
    rw [Addr.add_lit, hc]
    simp [List.getD_eq_getElem?_getD, List.getElem?_eq_getElem hj]
theorem buf_full {w : World} {g r : Nat} {l : List UInt8} (h : Buf w g l r) : Buf w g (l ++ List.replicate r 0) 0 := by
  unfold Buf at *
  rw [bCells_append, show bCells (List.replicate r 0) = zc r by simp [bCells, zc], show zc 0 = [] from rfl, List.append_nil]
  exact h
theorem buf_bs {w : World} {g : Nat} {l : List UInt8} {n cap : Nat} (h : Buf w g l 0) (hn : n = l.length) (hc : n ≤ cap) : BS w (some ⟨g, 0, none⟩) n cap l :=
  BS.mk' hn hc (by have := h.reads 0; rwa [List.drop_zero] at this)
theorem txt_list (l : List UInt8) : (txt l).toList = l := by
  unfold txt
  simp [ByteArray.toList_eq]
theorem txt_append (a b : List UInt8) : txt a ++ txt b = txt (a ++ b) := by
  apply ByteArray.ext
  rw [ByteArray.data_append]
  simp [txt]
theorem str1 (m : Nat) (z : Int) (hz : z = ((m % 256 : Nat) : Int)) (W : World) : (convert 41 9 (.slice (some ⟨W.heap.size, 0, none⟩) 1 1)).run Try.prog (W.alloc (.cells #[.int .u8 z] 5)) = .ok (.string (txt [UInt8.ofNat (m % 256)])) (W.alloc (.cells #[.int .u8 z] 5)) := by
  have hb : bCells [UInt8.ofNat (m % 256)] = [.int .u8 z] := by
    simp only [bCells, List.map_cons, List.map_nil, UInt8.toNat_ofNat', hz]
    have : m % 256 % 2 ^ 8 = m % 256 := by omega
    rw [this]
  have h : Buf (W.alloc (.cells #[.int .u8 z] 5)) W.heap.size [UInt8.ofNat (m % 256)] 0 := by
    unfold Buf
    rw [hb]
    exact Blk.new W [.int .u8 z] 5
  refine str_bs (BS.mk' rfl (Nat.le_refl _) ?_) (fun h => by cases h)
  have := h.reads 0
  rwa [List.drop_zero] at this
theorem low_step (v i : Nat) : txt (low v i) ++ txt [UInt8.ofNat (v / 256 ^ i % 256)] = txt (low v (i + 1)) := by
  rw [txt_append, low_snoc]
set_option maxHeartbeats 400000 in
theorem low_any (v n : Nat) (hv : v < 18446744073709551616) (hn : n ≤ 8) (w : World) :
    Calls Try.prog 39 #[.int .u64 v, .int .i64 n] w fun e w' => e = .returned (.string (txt (low v n))) ∧ Below w.heap.size w w' := by
  go_enter Try.func39, Try.ntmps39
  go_wp2_with fail
  go_loopg [5, 6] n (fun kx s3 s4 wr => ∃ i : Nat, s4 = .int .i64 i ∧ s3 = .string (txt (low v i)) ∧ i ≤ n ∧ n - i ≤ kx ∧ Hid (Below w.heap.size w wr))
  case atStart => exact ⟨0, rfl, rfl, Nat.zero_le _, by omega, Below.refl _ _⟩
  case round =>
    obtain ⟨i, rfl, rfl, hin, hg, I⟩ := hrel
    by_cases hlt : i < n
    · have hlt2 : (i : Int) < (n : Int) := by omega
      rcases (show i = 0 ∨ i = 1 ∨ i = 2 ∨ i = 3 ∨ i = 4 ∨ i = 5 ∨ i = 6 ∨ i = 7 by omega) with rfl | rfl | rfl | rfl | rfl | rfl | rfl | rfl
      · have st := fun W => str1 (v / 256 ^ 0) ((v : Int) % 256) (by rw [show (256 : Nat) ^ 0 = 1 from rfl]; omega) W
        have LS := hide (low_step v 0)
        have h1 : (txt (low v 0)).size = 0 := by rw [txt_size, low_length]
        have h2 : (txt [UInt8.ofNat (v / 256 ^ 0 % 256)]).size = 1 := by rw [txt_size]; rfl
        generalize txt [UInt8.ofNat (v / 256 ^ 0 % 256)] = t at st LS h2
        generalize txt (low v 0) = s at *
        have hb : ¬ 9223372036854775807 < s.size + t.size := by omega
        clear h1 h2
        go_wp2
        go_roundg (n - 1)
        case measure => omega
        case rel => exact ⟨1, rfl, by rw [LS.out], by omega, by omega, I.out.alloc I.out.size _⟩
      · have st := fun W => str1 (v / 256 ^ 1) ((v : Int) / 256 % 256) (by rw [show (256 : Nat) ^ 1 = 256 from rfl]; omega) W
        have LS := hide (low_step v 1)
        have h1 : (txt (low v 1)).size = 1 := by rw [txt_size, low_length]
        have h2 : (txt [UInt8.ofNat (v / 256 ^ 1 % 256)]).size = 1 := by rw [txt_size]; rfl
        generalize txt [UInt8.ofNat (v / 256 ^ 1 % 256)] = t at st LS h2
        generalize txt (low v 1) = s at *
        have hb : ¬ 9223372036854775807 < s.size + t.size := by omega
        clear h1 h2
        go_wp2
        go_roundg (n - 2)
        case measure => omega
        case rel => exact ⟨2, rfl, by rw [LS.out], by omega, by omega, I.out.alloc I.out.size _⟩
      · have st := fun W => str1 (v / 256 ^ 2) ((v : Int) / 65536 % 256) (by rw [show (256 : Nat) ^ 2 = 65536 from rfl]; omega) W
        have LS := hide (low_step v 2)
        have h1 : (txt (low v 2)).size = 2 := by rw [txt_size, low_length]
        have h2 : (txt [UInt8.ofNat (v / 256 ^ 2 % 256)]).size = 1 := by rw [txt_size]; rfl
        generalize txt [UInt8.ofNat (v / 256 ^ 2 % 256)] = t at st LS h2
        generalize txt (low v 2) = s at *
        have hb : ¬ 9223372036854775807 < s.size + t.size := by omega
        clear h1 h2
        go_wp2
        go_roundg (n - 3)
        case measure => omega
        case rel => exact ⟨3, rfl, by rw [LS.out], by omega, by omega, I.out.alloc I.out.size _⟩
      · have st := fun W => str1 (v / 256 ^ 3) ((v : Int) / 16777216 % 256) (by rw [show (256 : Nat) ^ 3 = 16777216 from rfl]; omega) W
        have LS := hide (low_step v 3)
        have h1 : (txt (low v 3)).size = 3 := by rw [txt_size, low_length]
        have h2 : (txt [UInt8.ofNat (v / 256 ^ 3 % 256)]).size = 1 := by rw [txt_size]; rfl
        generalize txt [UInt8.ofNat (v / 256 ^ 3 % 256)] = t at st LS h2
        generalize txt (low v 3) = s at *
        have hb : ¬ 9223372036854775807 < s.size + t.size := by omega
        clear h1 h2
        go_wp2
        go_roundg (n - 4)
        case measure => omega
        case rel => exact ⟨4, rfl, by rw [LS.out], by omega, by omega, I.out.alloc I.out.size _⟩
      · have st := fun W => str1 (v / 256 ^ 4) ((v : Int) / 4294967296 % 256) (by rw [show (256 : Nat) ^ 4 = 4294967296 from rfl]; omega) W
        have LS := hide (low_step v 4)
        have h1 : (txt (low v 4)).size = 4 := by rw [txt_size, low_length]
        have h2 : (txt [UInt8.ofNat (v / 256 ^ 4 % 256)]).size = 1 := by rw [txt_size]; rfl
        generalize txt [UInt8.ofNat (v / 256 ^ 4 % 256)] = t at st LS h2
        generalize txt (low v 4) = s at *
        have hb : ¬ 9223372036854775807 < s.size + t.size := by omega
        clear h1 h2
        go_wp2
        go_roundg (n - 5)
        case measure => omega
        case rel => exact ⟨5, rfl, by rw [LS.out], by omega, by omega, I.out.alloc I.out.size _⟩
      · have st := fun W => str1 (v / 256 ^ 5) ((v : Int) / 1099511627776 % 256) (by rw [show (256 : Nat) ^ 5 = 1099511627776 from rfl]; omega) W
        have LS := hide (low_step v 5)
        have h1 : (txt (low v 5)).size = 5 := by rw [txt_size, low_length]
        have h2 : (txt [UInt8.ofNat (v / 256 ^ 5 % 256)]).size = 1 := by rw [txt_size]; rfl
        generalize txt [UInt8.ofNat (v / 256 ^ 5 % 256)] = t at st LS h2
        generalize txt (low v 5) = s at *
        have hb : ¬ 9223372036854775807 < s.size + t.size := by omega
        clear h1 h2
        go_wp2
        go_roundg (n - 6)
        case measure => omega
        case rel => exact ⟨6, rfl, by rw [LS.out], by omega, by omega, I.out.alloc I.out.size _⟩
      · have st := fun W => str1 (v / 256 ^ 6) ((v : Int) / 281474976710656 % 256) (by rw [show (256 : Nat) ^ 6 = 281474976710656 from rfl]; omega) W
        have LS := hide (low_step v 6)
        have h1 : (txt (low v 6)).size = 6 := by rw [txt_size, low_length]
        have h2 : (txt [UInt8.ofNat (v / 256 ^ 6 % 256)]).size = 1 := by rw [txt_size]; rfl
        generalize txt [UInt8.ofNat (v / 256 ^ 6 % 256)] = t at st LS h2
        generalize txt (low v 6) = s at *
        have hb : ¬ 9223372036854775807 < s.size + t.size := by omega
        clear h1 h2
        go_wp2
        go_roundg (n - 7)
        case measure => omega
        case rel => exact ⟨7, rfl, by rw [LS.out], by omega, by omega, I.out.alloc I.out.size _⟩
      · have st := fun W => str1 (v / 256 ^ 7) ((v : Int) / 72057594037927936) (by rw [show (256 : Nat) ^ 7 = 72057594037927936 from rfl]; omega) W
        have LS := hide (low_step v 7)
        have h1 : (txt (low v 7)).size = 7 := by rw [txt_size, low_length]
        have h2 : (txt [UInt8.ofNat (v / 256 ^ 7 % 256)]).size = 1 := by rw [txt_size]; rfl
        generalize txt [UInt8.ofNat (v / 256 ^ 7 % 256)] = t at st LS h2
        generalize txt (low v 7) = s at *
        have hb : ¬ 9223372036854775807 < s.size + t.size := by omega
        clear h1 h2
        go_wp2
        go_roundg (n - 8)
        case measure => omega
        case rel => exact ⟨8, rfl, by rw [LS.out], by omega, by omega, I.out.alloc I.out.size _⟩
    · obtain rfl : i = n := by omega
      have hlt2 : ¬ (i : Int) < (i : Int) := by omega
      go_wp2
      go_ret
      exact ⟨rfl, I.out⟩
theorem up_cons_drop (l : List UInt8) (k : Nat) (h : k < l.length) : up (l.drop k) = (l.getD k 0).toNat + 256 * up (l.drop (k + 1)) := by
  rw [List.drop_eq_getElem_cons h, List.getD_eq_getElem?_getD, List.getElem?_eq_getElem h]
  rfl
theorem or_up (x m : Nat) (hx : x < 256) (hm : m * 256 + x < 18446744073709551616) : bits .or .u64 (IntKind.u64.wrap ((m : Int) * 256)) (IntKind.u64.wrap (x : Int)) = ((x + 256 * m : Nat) : Int) := by
  have h1 : m * 256 < 18446744073709551616 := Nat.lt_of_le_of_lt (Nat.le_add_right _ _) hm
  have h2 : x < 18446744073709551616 := by omega
  have hx8 : x < 2 ^ 8 := hx
  have h3 := Nat.shiftLeft_add_eq_or_of_lt (i := 8) hx8 m
  rw [Nat.shiftLeft_eq] at h3
  have e3 : m * 2 ^ 8 = m * 256 := rfl
  rw [e3] at h3
  have e4 : x + 256 * m = m * 256 + x := by omega
  have e0 : (m : Int) * 256 = ((m * 256 : Nat) : Int) := by omega
  have e1 : IntKind.u64.wrap ((m : Int) * 256) = ((m * 256 : Nat) : Int) := by rw [e0, IntKind.wrap_u64]; omega
  have e2 : IntKind.u64.wrap (x : Int) = ((x : Nat) : Int) := by rw [IntKind.wrap_u64]; omega
  rw [e1, e2, u64_or_nat _ _ h1 h2, ← h3, e4]
theorem txt_get (l : List UInt8) (j : Nat) (h : j < l.length) (h' : j < (txt l).size) : (txt l)[j]'h' = l.getD j 0 := by
  rw [List.getD_eq_getElem?_getD, List.getElem?_eq_getElem h]
  rfl
theorem up_drop_lt (l : List UInt8) (j : Nat) (h8 : l.length ≤ 8) : up (l.drop j) < 18446744073709551616 := by
  have h1 := up_lt (l.drop j)
  have : (256 : Nat) ^ (l.drop j).length ≤ 256 ^ 8 := Nat.pow_le_pow_right (by decide) (by simp; omega)
  have e : (256 : Nat) ^ 8 = 18446744073709551616 := by decide
  omega
set_option maxHeartbeats 1000000 in
theorem up_any (l : List UInt8) (h8 : l.length ≤ 8) (w : World) :
    Calls Try.prog 56 #[.string (txt l)] w fun e w' => e = .returned (.int .u64 (up l : Int)) ∧ w' = w := by
  have hs : (txt l).size = l.length := txt_size l
  go_enter Try.func56, Try.ntmps56
  go_wp2
  go_loop [3, 4] (fun t i => ∃ k m : Nat, k ≤ l.length ∧ i = .int .i64 ((k : Int) - 1) ∧ t = .int .u64 m ∧ Hid (m = up (l.drop k))) (fun _ i => (intOf i + 1).toNat)
  case atStart => exact ⟨l.length, 0, Nat.le_refl _, rfl, rfl, by show 0 = _; rw [List.drop_length]; rfl⟩
  case round =>
    obtain ⟨k, m, hk, rfl, rfl, hm⟩ := hrel
    by_cases hlt : 0 < k
    · obtain ⟨j, rfl⟩ : ∃ j, k = j + 1 := ⟨k - 1, by omega⟩
      have hx := (l.getD j 0).toNat_lt
      have hge : (0 : Int) ≤ ((j + 1 : Nat) : Int) - 1 := by omega
      have U := hide (up_cons_drop l j (by omega))
      go_wp2
      refine ⟨⟨j, up (l.drop j), by omega, rfl, ?_, rfl⟩, by simp [intOf]⟩
      rw [txt_get l j (by omega), hm.out]
      have hd := up_drop_lt l j h8
      rw [U.out] at hd ⊢
      rw [or_up _ _ (by omega) (by omega)]
    · obtain rfl : k = 0 := by omega
      go_wp2
      go_ret
      exact ⟨ret_int (by rw [hm.out]; rfl), rfl⟩
theorem stage {X : World → Prop} {G : Prop} {S : World → Prop} (h1 : (∀ W, S W → X W) → G) (h2 : ∀ W, S W → X W) : G := h1 h2
theorem txt_extract (l : List UInt8) (i j : Nat) : (txt l).extract i j = txt (sl l i j) := by
  unfold txt sl
  apply ByteArray.ext
  simp [ByteArray.data_extract]
  rw [List.drop_take]
end Go.Proofs.Ytghdkicijdfpcaa
