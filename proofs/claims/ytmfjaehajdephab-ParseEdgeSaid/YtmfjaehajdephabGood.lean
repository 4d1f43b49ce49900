/-
  Good of a command; the keys that a command names, its kind aside.
-/
import Derived.Test.YtmfjaehajdephabNamed
namespace Go.Proofs.Ytmfjaehajdephab
open Go.Shelf Go.RowKit Go.Deep
set_option linter.unusedVariables false
set_option linter.unusedSimpArgs false
set_option maxRecDepth 1000000

def goodP (c : Cm) : Bool :=
  if (c.what.toList == [103, 101, 116]) = true then (cntB c.keys.length && c.keys.all keyB) else
  if (c.what.toList == [115, 116, 111, 114, 101]) = true then (storesB c.verb c.data && keyB (hd c.keys)) else
  if (c.what.toList == [97, 114, 105, 116, 104]) = true then keyB (hd c.keys) else
  if (c.what.toList == [116, 111, 117, 99, 104]) = true then keyB (hd c.keys) else
  if (c.what.toList == [100, 101, 108, 101, 116, 101]) = true then keyB (hd c.keys) else
  if (c.what.toList == [102, 108, 117, 115, 104]) = true then true else
  if (c.what.toList == [98, 97, 100]) = true then false else
  if (c.what.toList == [119, 111, 114, 100]) = true then knownB c.verb else
  false
theorem counts_b (a : Option Addr) (n cap : Nat) (c t : Bool) (x : Int) (w : World) (hn : n ≤ 5000) (b : Bool) (hE : Hid (cntB n = b)) :
    Calls Try.prog 71 #[.agg #[.slice a n cap, .bool c, .bool t, .int .i64 x]] w fun e w' => e = .returned (.bool b) ∧ Below w.heap.size w w' := by
  have := counts_any a n cap c t x w hn
  rwa [hE.out] at this
theorem stores_b (v k d : ByteArray) (f x s : Int) (q : Bool) (w : World) (hd : d.size ≤ 140737488351232) (b : Bool) (hE : Hid (storesB v d = b)) :
    Calls Try.prog 75 #[.agg #[.string v, .string k, .string d, .int .u32 f, .int .i64 x, .int .u64 s, .bool q]] w fun e w' => e = .returned (.bool b) ∧ Below w.heap.size w w' := by
  have := stores_any v k d f x s q w hd
  rwa [hE.out] at this
theorem hd_fits {w : World} {a : Option Addr} {n : Nat} {xs : List ByteArray} (h : StrsAt w a n xs) : ∀ x ∈ [hd xs], x.size ≤ 140737488351232 := by
  intro x hx
  simp only [List.mem_singleton] at hx
  subst hx
  cases xs with
  | nil => exact Nat.zero_le _
  | cons y r => exact h.fits y (by simp)

theorem good_get (w : World) (a : Option Addr) (n cap : Nat) (c : Cm) (h : StrsAt w a n c.keys) (hn : n ≤ 5000) (hw : (c.what.toList == [103, 101, 116]) = true) (hv : c.data.size ≤ 140737488351232) : Calls Try.prog 65 #[cmV c (.slice a n cap)] w fun e w' => e = .returned (.bool ((cntB c.keys.length && c.keys.all keyB))) ∧ Below w.heap.size w w' := by
  have B := (Below.refl w.heap.size w).alloc (Nat.le_refl _) (.cells #[.string c.what, .string c.verb, .slice a n cap, .string c.data, .int .u32 c.fl, .int .i64 c.ex, .int .u64 c.cs, .int .u64 c.y, .bool c.wc, .bool c.wt, .bool c.dn, .bool c.q] 33)
  have H := h.later B
  have hl : Hid (n = c.keys.length) := h.len
  have m := as44
  cases E0 : cntB n with
  | false =>
    have E : Hid (cntB n = false) := E0
    clear E0
    go_enter Try.func65, Try.ntmps65
    go_wp2_with fail
    refine (typed_get _ a n cap c H hn  hw).mono ?_
    rintro e wj ⟨a', c', rfl, ho, hj⟩
    have S := own_strs ho h.fits
    clear ho
    replace B := B.trans (hj.mono B.size)
    clear hj
    go_wp2_with fail
    refine (is44_yes a' n c' c.wc c.wt c.ex _).mono ?_
    rintro e wj ⟨rfl, hj⟩
    replace S := S.later hj
    replace B := B.trans (hj.mono B.size)
    clear hj
    go_wp2_with fail
    refine (counts_b a' n c' c.wc c.wt c.ex _ hn _ E).mono ?_
    rintro e wj ⟨rfl, hj⟩
    replace S := S.later hj
    replace B := B.trans (hj.mono B.size)
    clear hj
    go_wp2
    go_ret
    exact ⟨retb (by rw [← hl.out, E.out, Bool.false_and]), B⟩
  | true =>
    have E : Hid (cntB n = true) := E0
    clear E0
    go_enter Try.func65, Try.ntmps65
    go_wp2_with fail
    refine (typed_get _ a n cap c H hn  hw).mono ?_
    rintro e wj ⟨a', c', rfl, ho, hj⟩
    have S := own_strs ho h.fits
    clear ho
    replace B := B.trans (hj.mono B.size)
    clear hj
    go_wp2_with fail
    refine (is44_yes a' n c' c.wc c.wt c.ex _).mono ?_
    rintro e wj ⟨rfl, hj⟩
    replace S := S.later hj
    replace B := B.trans (hj.mono B.size)
    clear hj
    go_wp2_with fail
    refine (counts_b a' n c' c.wc c.wt c.ex _ hn _ E).mono ?_
    rintro e wj ⟨rfl, hj⟩
    replace S := S.later hj
    replace B := B.trans (hj.mono B.size)
    clear hj
    go_wp2_with fail
    refine (named_get a' n c' c.wc c.wt c.ex _).mono ?_
    rintro e wj ⟨rfl, hj⟩
    replace S := S.later hj
    replace B := B.trans (hj.mono B.size)
    clear hj
    go_wp2_with fail
    refine (allKeys_any _ _ _ _ _ S hn).mono ?_
    rintro e wj ⟨rfl, hj⟩
    replace B := B.trans (hj.mono B.size)
    clear hj
    go_wp2
    go_ret
    exact ⟨retb (by rw [← hl.out, E.out, Bool.true_and]), B⟩
theorem good_store (w : World) (a : Option Addr) (n cap : Nat) (c : Cm) (h : StrsAt w a n c.keys) (hn : n ≤ 5000) (h0 : (c.what.toList == [103, 101, 116]) = false) (hw : (c.what.toList == [115, 116, 111, 114, 101]) = true) (hv : c.data.size ≤ 140737488351232) : Calls Try.prog 65 #[cmV c (.slice a n cap)] w fun e w' => e = .returned (.bool ((storesB c.verb c.data && keyB (hd c.keys)))) ∧ Below w.heap.size w w' := by
  have B := (Below.refl w.heap.size w).alloc (Nat.le_refl _) (.cells #[.string c.what, .string c.verb, .slice a n cap, .string c.data, .int .u32 c.fl, .int .i64 c.ex, .int .u64 c.cs, .int .u64 c.y, .bool c.wc, .bool c.wt, .bool c.dn, .bool c.q] 33)
  have H := h.later B
  have hl : Hid (n = c.keys.length) := h.len
  have m := as47 (.agg #[.string c.verb, .string (hd c.keys), .string c.data, .int .u32 c.fl, .int .i64 c.ex, .int .u64 c.cs, .bool c.q])
  cases E0 : storesB c.verb c.data with
  | false =>
    have E : Hid (storesB c.verb c.data = false) := E0
    clear E0
    go_enter Try.func65, Try.ntmps65
    go_wp2_with fail
    refine (typed_store _ a n cap c H hn h0 hw).mono ?_
    rintro e wj ⟨rfl, hj⟩
    replace B := B.trans (hj.mono B.size)
    clear hj
    go_wp2_with fail
    refine (is44_no 97 _ (by decide) _).mono ?_
    rintro e wj ⟨rfl, hj⟩
    replace B := B.trans (hj.mono B.size)
    clear hj
    go_wp2_with fail
    refine (is47_yes c.verb (hd c.keys) c.data c.fl c.ex c.cs c.q _).mono ?_
    rintro e wj ⟨rfl, hj⟩
    replace B := B.trans (hj.mono B.size)
    clear hj
    go_wp2_with fail
    refine (stores_b c.verb (hd c.keys) c.data c.fl c.ex c.cs c.q _ hv _ E).mono ?_
    rintro e wj ⟨rfl, hj⟩
    replace B := B.trans (hj.mono B.size)
    clear hj
    go_wp2
    go_ret
    exact ⟨retb (by simp), B⟩
  | true =>
    have E : Hid (storesB c.verb c.data = true) := E0
    clear E0
    go_enter Try.func65, Try.ntmps65
    go_wp2_with fail
    refine (typed_store _ a n cap c H hn h0 hw).mono ?_
    rintro e wj ⟨rfl, hj⟩
    replace B := B.trans (hj.mono B.size)
    clear hj
    go_wp2_with fail
    refine (is44_no 97 _ (by decide) _).mono ?_
    rintro e wj ⟨rfl, hj⟩
    replace B := B.trans (hj.mono B.size)
    clear hj
    go_wp2_with fail
    refine (is47_yes c.verb (hd c.keys) c.data c.fl c.ex c.cs c.q _).mono ?_
    rintro e wj ⟨rfl, hj⟩
    replace B := B.trans (hj.mono B.size)
    clear hj
    go_wp2_with fail
    refine (stores_b c.verb (hd c.keys) c.data c.fl c.ex c.cs c.q _ hv _ E).mono ?_
    rintro e wj ⟨rfl, hj⟩
    replace B := B.trans (hj.mono B.size)
    clear hj
    go_wp2_with fail
    refine (named_store c.verb (hd c.keys) c.data c.fl c.ex c.cs c.q _).mono ?_
    rintro e wj ⟨g, c', rfl, ho, hj⟩
    have S := own_strs ho (hd_fits h)
    clear ho
    replace B := B.trans (hj.mono B.size)
    clear hj
    go_wp2_with fail
    refine (allKeys_any _ _ _ _ _ S (by omega)).mono ?_
    rintro e wj ⟨rfl, hj⟩
    replace B := B.trans (hj.mono B.size)
    clear hj
    go_wp2
    go_ret
    exact ⟨retb (by simp), B⟩
theorem good_arith (w : World) (a : Option Addr) (n cap : Nat) (c : Cm) (h : StrsAt w a n c.keys) (hn : n ≤ 5000) (h0 : (c.what.toList == [103, 101, 116]) = false) (h1 : (c.what.toList == [115, 116, 111, 114, 101]) = false) (hw : (c.what.toList == [97, 114, 105, 116, 104]) = true) (hv : c.data.size ≤ 140737488351232) : Calls Try.prog 65 #[cmV c (.slice a n cap)] w fun e w' => e = .returned (.bool (keyB (hd c.keys))) ∧ Below w.heap.size w w' := by
  have B := (Below.refl w.heap.size w).alloc (Nat.le_refl _) (.cells #[.string c.what, .string c.verb, .slice a n cap, .string c.data, .int .u32 c.fl, .int .i64 c.ex, .int .u64 c.cs, .int .u64 c.y, .bool c.wc, .bool c.wt, .bool c.dn, .bool c.q] 33)
  have H := h.later B
  have hl : Hid (n = c.keys.length) := h.len
  go_enter Try.func65, Try.ntmps65
  go_wp2_with fail
  refine (typed_arith _ a n cap c H hn h0 h1 hw).mono ?_
  rintro e wj ⟨rfl, hj⟩
  replace B := B.trans (hj.mono B.size)
  clear hj
  go_wp2_with fail
  refine (is44_no 99 _ (by decide) _).mono ?_
  rintro e wj ⟨rfl, hj⟩
  replace B := B.trans (hj.mono B.size)
  clear hj
  go_wp2_with fail
  refine (is47_no 99 _ (by decide) _).mono ?_
  rintro e wj ⟨rfl, hj⟩
  replace B := B.trans (hj.mono B.size)
  clear hj
  go_wp2_with fail
  refine (is50_yes (hd c.keys) c.y c.dn c.q _).mono ?_
  rintro e wj ⟨rfl, hj⟩
  replace B := B.trans (hj.mono B.size)
  clear hj
  go_wp2_with fail
  refine (named_arith (hd c.keys) c.y c.dn c.q _).mono ?_
  rintro e wj ⟨g, c', rfl, ho, hj⟩
  have S := own_strs ho (hd_fits h)
  clear ho
  replace B := B.trans (hj.mono B.size)
  clear hj
  go_wp2_with fail
  refine (allKeys_any _ _ _ _ _ S (by omega)).mono ?_
  rintro e wj ⟨rfl, hj⟩
  replace B := B.trans (hj.mono B.size)
  clear hj
  go_wp2
  go_ret
  exact ⟨retb (by simp), B⟩
theorem good_touch (w : World) (a : Option Addr) (n cap : Nat) (c : Cm) (h : StrsAt w a n c.keys) (hn : n ≤ 5000) (h0 : (c.what.toList == [103, 101, 116]) = false) (h1 : (c.what.toList == [115, 116, 111, 114, 101]) = false) (h2 : (c.what.toList == [97, 114, 105, 116, 104]) = false) (hw : (c.what.toList == [116, 111, 117, 99, 104]) = true) (hv : c.data.size ≤ 140737488351232) : Calls Try.prog 65 #[cmV c (.slice a n cap)] w fun e w' => e = .returned (.bool (keyB (hd c.keys))) ∧ Below w.heap.size w w' := by
  have B := (Below.refl w.heap.size w).alloc (Nat.le_refl _) (.cells #[.string c.what, .string c.verb, .slice a n cap, .string c.data, .int .u32 c.fl, .int .i64 c.ex, .int .u64 c.cs, .int .u64 c.y, .bool c.wc, .bool c.wt, .bool c.dn, .bool c.q] 33)
  have H := h.later B
  have hl : Hid (n = c.keys.length) := h.len
  go_enter Try.func65, Try.ntmps65
  go_wp2_with fail
  refine (typed_touch _ a n cap c H hn h0 h1 h2 hw).mono ?_
  rintro e wj ⟨rfl, hj⟩
  replace B := B.trans (hj.mono B.size)
  clear hj
  go_wp2_with fail
  refine (is44_no 101 _ (by decide) _).mono ?_
  rintro e wj ⟨rfl, hj⟩
  replace B := B.trans (hj.mono B.size)
  clear hj
  go_wp2_with fail
  refine (is47_no 101 _ (by decide) _).mono ?_
  rintro e wj ⟨rfl, hj⟩
  replace B := B.trans (hj.mono B.size)
  clear hj
  go_wp2_with fail
  refine (is50_no 101 _ (by decide) _).mono ?_
  rintro e wj ⟨rfl, hj⟩
  replace B := B.trans (hj.mono B.size)
  clear hj
  go_wp2_with fail
  refine (is52_yes (hd c.keys) c.ex c.q _).mono ?_
  rintro e wj ⟨rfl, hj⟩
  replace B := B.trans (hj.mono B.size)
  clear hj
  go_wp2_with fail
  refine (named_touch (hd c.keys) c.ex c.q _).mono ?_
  rintro e wj ⟨g, c', rfl, ho, hj⟩
  have S := own_strs ho (hd_fits h)
  clear ho
  replace B := B.trans (hj.mono B.size)
  clear hj
  go_wp2_with fail
  refine (allKeys_any _ _ _ _ _ S (by omega)).mono ?_
  rintro e wj ⟨rfl, hj⟩
  replace B := B.trans (hj.mono B.size)
  clear hj
  go_wp2
  go_ret
  exact ⟨retb (by simp), B⟩
theorem good_delete (w : World) (a : Option Addr) (n cap : Nat) (c : Cm) (h : StrsAt w a n c.keys) (hn : n ≤ 5000) (h0 : (c.what.toList == [103, 101, 116]) = false) (h1 : (c.what.toList == [115, 116, 111, 114, 101]) = false) (h2 : (c.what.toList == [97, 114, 105, 116, 104]) = false) (h3 : (c.what.toList == [116, 111, 117, 99, 104]) = false) (hw : (c.what.toList == [100, 101, 108, 101, 116, 101]) = true) (hv : c.data.size ≤ 140737488351232) : Calls Try.prog 65 #[cmV c (.slice a n cap)] w fun e w' => e = .returned (.bool (keyB (hd c.keys))) ∧ Below w.heap.size w w' := by
  have B := (Below.refl w.heap.size w).alloc (Nat.le_refl _) (.cells #[.string c.what, .string c.verb, .slice a n cap, .string c.data, .int .u32 c.fl, .int .i64 c.ex, .int .u64 c.cs, .int .u64 c.y, .bool c.wc, .bool c.wt, .bool c.dn, .bool c.q] 33)
  have H := h.later B
  have hl : Hid (n = c.keys.length) := h.len
  go_enter Try.func65, Try.ntmps65
  go_wp2_with fail
  refine (typed_delete _ a n cap c H hn h0 h1 h2 h3 hw).mono ?_
  rintro e wj ⟨rfl, hj⟩
  replace B := B.trans (hj.mono B.size)
  clear hj
  go_wp2_with fail
  refine (is44_no 103 _ (by decide) _).mono ?_
  rintro e wj ⟨rfl, hj⟩
  replace B := B.trans (hj.mono B.size)
  clear hj
  go_wp2_with fail
  refine (is47_no 103 _ (by decide) _).mono ?_
  rintro e wj ⟨rfl, hj⟩
  replace B := B.trans (hj.mono B.size)
  clear hj
  go_wp2_with fail
  refine (is50_no 103 _ (by decide) _).mono ?_
  rintro e wj ⟨rfl, hj⟩
  replace B := B.trans (hj.mono B.size)
  clear hj
  go_wp2_with fail
  refine (is52_no 103 _ (by decide) _).mono ?_
  rintro e wj ⟨rfl, hj⟩
  replace B := B.trans (hj.mono B.size)
  clear hj
  go_wp2_with fail
  refine (is54_yes (hd c.keys) c.q _).mono ?_
  rintro e wj ⟨rfl, hj⟩
  replace B := B.trans (hj.mono B.size)
  clear hj
  go_wp2_with fail
  refine (named_delete (hd c.keys) c.q _).mono ?_
  rintro e wj ⟨g, c', rfl, ho, hj⟩
  have S := own_strs ho (hd_fits h)
  clear ho
  replace B := B.trans (hj.mono B.size)
  clear hj
  go_wp2_with fail
  refine (allKeys_any _ _ _ _ _ S (by omega)).mono ?_
  rintro e wj ⟨rfl, hj⟩
  replace B := B.trans (hj.mono B.size)
  clear hj
  go_wp2
  go_ret
  exact ⟨retb (by simp), B⟩
theorem good_flush (w : World) (a : Option Addr) (n cap : Nat) (c : Cm) (h : StrsAt w a n c.keys) (hn : n ≤ 5000) (h0 : (c.what.toList == [103, 101, 116]) = false) (h1 : (c.what.toList == [115, 116, 111, 114, 101]) = false) (h2 : (c.what.toList == [97, 114, 105, 116, 104]) = false) (h3 : (c.what.toList == [116, 111, 117, 99, 104]) = false) (h4 : (c.what.toList == [100, 101, 108, 101, 116, 101]) = false) (hw : (c.what.toList == [102, 108, 117, 115, 104]) = true) (hv : c.data.size ≤ 140737488351232) : Calls Try.prog 65 #[cmV c (.slice a n cap)] w fun e w' => e = .returned (.bool (true)) ∧ Below w.heap.size w w' := by
  have B := (Below.refl w.heap.size w).alloc (Nat.le_refl _) (.cells #[.string c.what, .string c.verb, .slice a n cap, .string c.data, .int .u32 c.fl, .int .i64 c.ex, .int .u64 c.cs, .int .u64 c.y, .bool c.wc, .bool c.wt, .bool c.dn, .bool c.q] 33)
  have H := h.later B
  have hl : Hid (n = c.keys.length) := h.len
  go_enter Try.func65, Try.ntmps65
  go_wp2_with fail
  refine (typed_flush _ a n cap c H hn h0 h1 h2 h3 h4 hw).mono ?_
  rintro e wj ⟨rfl, hj⟩
  replace B := B.trans (hj.mono B.size)
  clear hj
  go_wp2_with fail
  refine (is44_no 107 _ (by decide) _).mono ?_
  rintro e wj ⟨rfl, hj⟩
  replace B := B.trans (hj.mono B.size)
  clear hj
  go_wp2_with fail
  refine (is47_no 107 _ (by decide) _).mono ?_
  rintro e wj ⟨rfl, hj⟩
  replace B := B.trans (hj.mono B.size)
  clear hj
  go_wp2_with fail
  refine (is50_no 107 _ (by decide) _).mono ?_
  rintro e wj ⟨rfl, hj⟩
  replace B := B.trans (hj.mono B.size)
  clear hj
  go_wp2_with fail
  refine (is52_no 107 _ (by decide) _).mono ?_
  rintro e wj ⟨rfl, hj⟩
  replace B := B.trans (hj.mono B.size)
  clear hj
  go_wp2_with fail
  refine (is54_no 107 _ (by decide) _).mono ?_
  rintro e wj ⟨rfl, hj⟩
  replace B := B.trans (hj.mono B.size)
  clear hj
  go_wp2_with fail
  refine (is60_no 107 _ (by decide) _).mono ?_
  rintro e wj ⟨rfl, hj⟩
  replace B := B.trans (hj.mono B.size)
  clear hj
  go_wp2_with fail
  refine (is56_yes c.q _).mono ?_
  rintro e wj ⟨rfl, hj⟩
  replace B := B.trans (hj.mono B.size)
  clear hj
  go_wp2
  go_ret
  exact ⟨rfl, B⟩
theorem good_bad (w : World) (a : Option Addr) (n cap : Nat) (c : Cm) (h : StrsAt w a n c.keys) (hn : n ≤ 5000) (h0 : (c.what.toList == [103, 101, 116]) = false) (h1 : (c.what.toList == [115, 116, 111, 114, 101]) = false) (h2 : (c.what.toList == [97, 114, 105, 116, 104]) = false) (h3 : (c.what.toList == [116, 111, 117, 99, 104]) = false) (h4 : (c.what.toList == [100, 101, 108, 101, 116, 101]) = false) (h5 : (c.what.toList == [102, 108, 117, 115, 104]) = false) (hw : (c.what.toList == [98, 97, 100]) = true) (hv : c.data.size ≤ 140737488351232) : Calls Try.prog 65 #[cmV c (.slice a n cap)] w fun e w' => e = .returned (.bool (false)) ∧ Below w.heap.size w w' := by
  have B := (Below.refl w.heap.size w).alloc (Nat.le_refl _) (.cells #[.string c.what, .string c.verb, .slice a n cap, .string c.data, .int .u32 c.fl, .int .i64 c.ex, .int .u64 c.cs, .int .u64 c.y, .bool c.wc, .bool c.wt, .bool c.dn, .bool c.q] 33)
  have H := h.later B
  have hl : Hid (n = c.keys.length) := h.len
  go_enter Try.func65, Try.ntmps65
  go_wp2_with fail
  refine (typed_bad _ a n cap c H hn h0 h1 h2 h3 h4 h5 hw).mono ?_
  rintro e wj ⟨rfl, hj⟩
  replace B := B.trans (hj.mono B.size)
  clear hj
  go_wp2_with fail
  refine (is44_no 112 _ (by decide) _).mono ?_
  rintro e wj ⟨rfl, hj⟩
  replace B := B.trans (hj.mono B.size)
  clear hj
  go_wp2_with fail
  refine (is47_no 112 _ (by decide) _).mono ?_
  rintro e wj ⟨rfl, hj⟩
  replace B := B.trans (hj.mono B.size)
  clear hj
  go_wp2_with fail
  refine (is50_no 112 _ (by decide) _).mono ?_
  rintro e wj ⟨rfl, hj⟩
  replace B := B.trans (hj.mono B.size)
  clear hj
  go_wp2_with fail
  refine (is52_no 112 _ (by decide) _).mono ?_
  rintro e wj ⟨rfl, hj⟩
  replace B := B.trans (hj.mono B.size)
  clear hj
  go_wp2_with fail
  refine (is54_no 112 _ (by decide) _).mono ?_
  rintro e wj ⟨rfl, hj⟩
  replace B := B.trans (hj.mono B.size)
  clear hj
  go_wp2_with fail
  refine (is60_no 112 _ (by decide) _).mono ?_
  rintro e wj ⟨rfl, hj⟩
  replace B := B.trans (hj.mono B.size)
  clear hj
  go_wp2_with fail
  refine (is56_no 112 _ (by decide) _).mono ?_
  rintro e wj ⟨rfl, hj⟩
  replace B := B.trans (hj.mono B.size)
  clear hj
  go_wp2
  go_ret
  exact ⟨rfl, B⟩
theorem good_word (w : World) (a : Option Addr) (n cap : Nat) (c : Cm) (h : StrsAt w a n c.keys) (hn : n ≤ 5000) (h0 : (c.what.toList == [103, 101, 116]) = false) (h1 : (c.what.toList == [115, 116, 111, 114, 101]) = false) (h2 : (c.what.toList == [97, 114, 105, 116, 104]) = false) (h3 : (c.what.toList == [116, 111, 117, 99, 104]) = false) (h4 : (c.what.toList == [100, 101, 108, 101, 116, 101]) = false) (h5 : (c.what.toList == [102, 108, 117, 115, 104]) = false) (h6 : (c.what.toList == [98, 97, 100]) = false) (hw : (c.what.toList == [119, 111, 114, 100]) = true) (hv : c.data.size ≤ 140737488351232) : Calls Try.prog 65 #[cmV c (.slice a n cap)] w fun e w' => e = .returned (.bool (knownB c.verb)) ∧ Below w.heap.size w w' := by
  have B := (Below.refl w.heap.size w).alloc (Nat.le_refl _) (.cells #[.string c.what, .string c.verb, .slice a n cap, .string c.data, .int .u32 c.fl, .int .i64 c.ex, .int .u64 c.cs, .int .u64 c.y, .bool c.wc, .bool c.wt, .bool c.dn, .bool c.q] 33)
  have H := h.later B
  have hl : Hid (n = c.keys.length) := h.len
  have m := as60 (.agg #[.string c.verb])
  go_enter Try.func65, Try.ntmps65
  go_wp2_with fail
  refine (typed_word _ a n cap c H hn h0 h1 h2 h3 h4 h5 h6 hw).mono ?_
  rintro e wj ⟨rfl, hj⟩
  replace B := B.trans (hj.mono B.size)
  clear hj
  go_wp2_with fail
  refine (is44_no 105 _ (by decide) _).mono ?_
  rintro e wj ⟨rfl, hj⟩
  replace B := B.trans (hj.mono B.size)
  clear hj
  go_wp2_with fail
  refine (is47_no 105 _ (by decide) _).mono ?_
  rintro e wj ⟨rfl, hj⟩
  replace B := B.trans (hj.mono B.size)
  clear hj
  go_wp2_with fail
  refine (is50_no 105 _ (by decide) _).mono ?_
  rintro e wj ⟨rfl, hj⟩
  replace B := B.trans (hj.mono B.size)
  clear hj
  go_wp2_with fail
  refine (is52_no 105 _ (by decide) _).mono ?_
  rintro e wj ⟨rfl, hj⟩
  replace B := B.trans (hj.mono B.size)
  clear hj
  go_wp2_with fail
  refine (is54_no 105 _ (by decide) _).mono ?_
  rintro e wj ⟨rfl, hj⟩
  replace B := B.trans (hj.mono B.size)
  clear hj
  go_wp2_with fail
  refine (is60_yes c.verb _).mono ?_
  rintro e wj ⟨rfl, hj⟩
  replace B := B.trans (hj.mono B.size)
  clear hj
  go_wp2_with fail
  refine (known_any c.verb _).mono ?_
  rintro e wj ⟨rfl, hj⟩
  replace B := B.trans (hj.mono B.size)
  clear hj
  go_wp2
  go_ret
  exact ⟨rfl, B⟩
theorem good_none (w : World) (a : Option Addr) (n cap : Nat) (c : Cm) (h : StrsAt w a n c.keys) (hn : n ≤ 5000) (h0 : (c.what.toList == [103, 101, 116]) = false) (h1 : (c.what.toList == [115, 116, 111, 114, 101]) = false) (h2 : (c.what.toList == [97, 114, 105, 116, 104]) = false) (h3 : (c.what.toList == [116, 111, 117, 99, 104]) = false) (h4 : (c.what.toList == [100, 101, 108, 101, 116, 101]) = false) (h5 : (c.what.toList == [102, 108, 117, 115, 104]) = false) (h6 : (c.what.toList == [98, 97, 100]) = false) (h7 : (c.what.toList == [119, 111, 114, 100]) = false) (hv : c.data.size ≤ 140737488351232) : Calls Try.prog 65 #[cmV c (.slice a n cap)] w fun e w' => e = .returned (.bool (false)) ∧ Below w.heap.size w w' := by
  have B := (Below.refl w.heap.size w).alloc (Nat.le_refl _) (.cells #[.string c.what, .string c.verb, .slice a n cap, .string c.data, .int .u32 c.fl, .int .i64 c.ex, .int .u64 c.cs, .int .u64 c.y, .bool c.wc, .bool c.wt, .bool c.dn, .bool c.q] 33)
  have H := h.later B
  have hl : Hid (n = c.keys.length) := h.len
  go_enter Try.func65, Try.ntmps65
  go_wp2_with fail
  refine (typed_none _ a n cap c H hn h0 h1 h2 h3 h4 h5 h6 h7).mono ?_
  rintro e wj ⟨rfl, hj⟩
  replace B := B.trans (hj.mono B.size)
  clear hj
  go_wp2_with fail
  refine (is44_nil _).mono ?_
  rintro e wj ⟨rfl, hj⟩
  replace B := B.trans (hj.mono B.size)
  clear hj
  go_wp2_with fail
  refine (is47_nil _).mono ?_
  rintro e wj ⟨rfl, hj⟩
  replace B := B.trans (hj.mono B.size)
  clear hj
  go_wp2_with fail
  refine (is50_nil _).mono ?_
  rintro e wj ⟨rfl, hj⟩
  replace B := B.trans (hj.mono B.size)
  clear hj
  go_wp2_with fail
  refine (is52_nil _).mono ?_
  rintro e wj ⟨rfl, hj⟩
  replace B := B.trans (hj.mono B.size)
  clear hj
  go_wp2_with fail
  refine (is54_nil _).mono ?_
  rintro e wj ⟨rfl, hj⟩
  replace B := B.trans (hj.mono B.size)
  clear hj
  go_wp2_with fail
  refine (is60_nil _).mono ?_
  rintro e wj ⟨rfl, hj⟩
  replace B := B.trans (hj.mono B.size)
  clear hj
  go_wp2_with fail
  refine (is56_nil _).mono ?_
  rintro e wj ⟨rfl, hj⟩
  replace B := B.trans (hj.mono B.size)
  clear hj
  go_wp2
  go_ret
  exact ⟨rfl, B⟩
theorem good_any (w : World) (a : Option Addr) (n cap : Nat) (c : Cm) (h : StrsAt w a n c.keys) (hn : n ≤ 5000) (hv : c.data.size ≤ 140737488351232) : Calls Try.prog 65 #[cmV c (.slice a n cap)] w fun e w' => e = .returned (.bool (goodP c)) ∧ Below w.heap.size w w' := by
  cases h0 : c.what.toList == [103, 101, 116] with
  | true =>
    refine (good_get w a n cap c h hn h0 hv).mono ?_
    rintro e w' hp
    simpa only [goodP, h0, if_true, if_false, Bool.false_eq_true] using hp
  | false =>
    cases h1 : c.what.toList == [115, 116, 111, 114, 101] with
    | true =>
      refine (good_store w a n cap c h hn h0 h1 hv).mono ?_
      rintro e w' hp
      simpa only [goodP, h0, h1, if_true, if_false, Bool.false_eq_true] using hp
    | false =>
      cases h2 : c.what.toList == [97, 114, 105, 116, 104] with
      | true =>
        refine (good_arith w a n cap c h hn h0 h1 h2 hv).mono ?_
        rintro e w' hp
        simpa only [goodP, h0, h1, h2, if_true, if_false, Bool.false_eq_true] using hp
      | false =>
        cases h3 : c.what.toList == [116, 111, 117, 99, 104] with
        | true =>
          refine (good_touch w a n cap c h hn h0 h1 h2 h3 hv).mono ?_
          rintro e w' hp
          simpa only [goodP, h0, h1, h2, h3, if_true, if_false, Bool.false_eq_true] using hp
        | false =>
          cases h4 : c.what.toList == [100, 101, 108, 101, 116, 101] with
          | true =>
            refine (good_delete w a n cap c h hn h0 h1 h2 h3 h4 hv).mono ?_
            rintro e w' hp
            simpa only [goodP, h0, h1, h2, h3, h4, if_true, if_false, Bool.false_eq_true] using hp
          | false =>
            cases h5 : c.what.toList == [102, 108, 117, 115, 104] with
            | true =>
              refine (good_flush w a n cap c h hn h0 h1 h2 h3 h4 h5 hv).mono ?_
              rintro e w' hp
              simpa only [goodP, h0, h1, h2, h3, h4, h5, if_true, if_false, Bool.false_eq_true] using hp
            | false =>
              cases h6 : c.what.toList == [98, 97, 100] with
              | true =>
                refine (good_bad w a n cap c h hn h0 h1 h2 h3 h4 h5 h6 hv).mono ?_
                rintro e w' hp
                simpa only [goodP, h0, h1, h2, h3, h4, h5, h6, if_true, if_false, Bool.false_eq_true] using hp
              | false =>
                cases h7 : c.what.toList == [119, 111, 114, 100] with
                | true =>
                  refine (good_word w a n cap c h hn h0 h1 h2 h3 h4 h5 h6 h7 hv).mono ?_
                  rintro e w' hp
                  simpa only [goodP, h0, h1, h2, h3, h4, h5, h6, h7, if_true, if_false, Bool.false_eq_true] using hp
                | false =>
                  refine (good_none w a n cap c h hn h0 h1 h2 h3 h4 h5 h6 h7 hv).mono ?_
                  rintro e w' hp
                  simpa only [goodP, h0, h1, h2, h3, h4, h5, h6, h7, if_true, if_false, Bool.false_eq_true] using hp
def keysP (c : Cm) : List ByteArray :=
  if (c.what.toList == [103, 101, 116]) = true then c.keys else
  if (c.what.toList == [115, 116, 111, 114, 101]) = true then [hd c.keys] else
  if (c.what.toList == [97, 114, 105, 116, 104]) = true then [hd c.keys] else
  if (c.what.toList == [116, 111, 117, 99, 104]) = true then [hd c.keys] else
  if (c.what.toList == [100, 101, 108, 101, 116, 101]) = true then [hd c.keys] else
  if (c.what.toList == [102, 108, 117, 115, 104]) = true then [] else
  if (c.what.toList == [98, 97, 100]) = true then [] else
  if (c.what.toList == [119, 111, 114, 100]) = true then [] else
  []
theorem tn_get (w : World) (a : Option Addr) (n cap : Nat) (c : Cm) (h : StrsAt w a n c.keys) (hn : n ≤ 5000) (hw : (c.what.toList == [103, 101, 116]) = true) : Calls Try.prog 69 #[cmV c (.slice a n cap)] w fun e w' => ∃ v, e = .returned v ∧ Below w.heap.size w w' ∧ Calls Try.prog 73 #[v] w' fun e2 w2 => ∃ a' n' c', e2 = .returned (.slice a' n' c') ∧ w2.ownsRow w.heap.size 9 1 (.slice a' n' c') n' (strC (c.keys)) ∧ Below w.heap.size w w2 := by
  refine (typed_get w a n cap c h hn  hw).mono ?_
  rintro e w' ⟨a', c', rfl, ho, hj⟩
  refine ⟨_, rfl, hj, (named_get a' n c' c.wc c.wt c.ex w').mono ?_⟩
  rintro e2 w2 ⟨rfl, hk⟩
  exact ⟨_, _, _, rfl, own_later ho hk, hj.trans (hk.mono hj.size)⟩
theorem tn_store (w : World) (a : Option Addr) (n cap : Nat) (c : Cm) (h : StrsAt w a n c.keys) (hn : n ≤ 5000) (h0 : (c.what.toList == [103, 101, 116]) = false) (hw : (c.what.toList == [115, 116, 111, 114, 101]) = true) : Calls Try.prog 69 #[cmV c (.slice a n cap)] w fun e w' => ∃ v, e = .returned v ∧ Below w.heap.size w w' ∧ Calls Try.prog 73 #[v] w' fun e2 w2 => ∃ a' n' c', e2 = .returned (.slice a' n' c') ∧ w2.ownsRow w.heap.size 9 1 (.slice a' n' c') n' (strC ([hd c.keys])) ∧ Below w.heap.size w w2 := by
  refine (typed_store w a n cap c h hn h0 hw).mono ?_
  rintro e w' ⟨rfl, hj⟩
  refine ⟨_, rfl, hj, (named_store c.verb (hd c.keys) c.data c.fl c.ex c.cs c.q w').mono ?_⟩
  rintro e2 w2 ⟨g, c', rfl, ho, hk⟩
  exact ⟨_, _, _, rfl, Joins.ownsRow_le ho hj.size, hj.trans (hk.mono hj.size)⟩
theorem tn_arith (w : World) (a : Option Addr) (n cap : Nat) (c : Cm) (h : StrsAt w a n c.keys) (hn : n ≤ 5000) (h0 : (c.what.toList == [103, 101, 116]) = false) (h1 : (c.what.toList == [115, 116, 111, 114, 101]) = false) (hw : (c.what.toList == [97, 114, 105, 116, 104]) = true) : Calls Try.prog 69 #[cmV c (.slice a n cap)] w fun e w' => ∃ v, e = .returned v ∧ Below w.heap.size w w' ∧ Calls Try.prog 73 #[v] w' fun e2 w2 => ∃ a' n' c', e2 = .returned (.slice a' n' c') ∧ w2.ownsRow w.heap.size 9 1 (.slice a' n' c') n' (strC ([hd c.keys])) ∧ Below w.heap.size w w2 := by
  refine (typed_arith w a n cap c h hn h0 h1 hw).mono ?_
  rintro e w' ⟨rfl, hj⟩
  refine ⟨_, rfl, hj, (named_arith (hd c.keys) c.y c.dn c.q w').mono ?_⟩
  rintro e2 w2 ⟨g, c', rfl, ho, hk⟩
  exact ⟨_, _, _, rfl, Joins.ownsRow_le ho hj.size, hj.trans (hk.mono hj.size)⟩
theorem tn_touch (w : World) (a : Option Addr) (n cap : Nat) (c : Cm) (h : StrsAt w a n c.keys) (hn : n ≤ 5000) (h0 : (c.what.toList == [103, 101, 116]) = false) (h1 : (c.what.toList == [115, 116, 111, 114, 101]) = false) (h2 : (c.what.toList == [97, 114, 105, 116, 104]) = false) (hw : (c.what.toList == [116, 111, 117, 99, 104]) = true) : Calls Try.prog 69 #[cmV c (.slice a n cap)] w fun e w' => ∃ v, e = .returned v ∧ Below w.heap.size w w' ∧ Calls Try.prog 73 #[v] w' fun e2 w2 => ∃ a' n' c', e2 = .returned (.slice a' n' c') ∧ w2.ownsRow w.heap.size 9 1 (.slice a' n' c') n' (strC ([hd c.keys])) ∧ Below w.heap.size w w2 := by
  refine (typed_touch w a n cap c h hn h0 h1 h2 hw).mono ?_
  rintro e w' ⟨rfl, hj⟩
  refine ⟨_, rfl, hj, (named_touch (hd c.keys) c.ex c.q w').mono ?_⟩
  rintro e2 w2 ⟨g, c', rfl, ho, hk⟩
  exact ⟨_, _, _, rfl, Joins.ownsRow_le ho hj.size, hj.trans (hk.mono hj.size)⟩
theorem tn_delete (w : World) (a : Option Addr) (n cap : Nat) (c : Cm) (h : StrsAt w a n c.keys) (hn : n ≤ 5000) (h0 : (c.what.toList == [103, 101, 116]) = false) (h1 : (c.what.toList == [115, 116, 111, 114, 101]) = false) (h2 : (c.what.toList == [97, 114, 105, 116, 104]) = false) (h3 : (c.what.toList == [116, 111, 117, 99, 104]) = false) (hw : (c.what.toList == [100, 101, 108, 101, 116, 101]) = true) : Calls Try.prog 69 #[cmV c (.slice a n cap)] w fun e w' => ∃ v, e = .returned v ∧ Below w.heap.size w w' ∧ Calls Try.prog 73 #[v] w' fun e2 w2 => ∃ a' n' c', e2 = .returned (.slice a' n' c') ∧ w2.ownsRow w.heap.size 9 1 (.slice a' n' c') n' (strC ([hd c.keys])) ∧ Below w.heap.size w w2 := by
  refine (typed_delete w a n cap c h hn h0 h1 h2 h3 hw).mono ?_
  rintro e w' ⟨rfl, hj⟩
  refine ⟨_, rfl, hj, (named_delete (hd c.keys) c.q w').mono ?_⟩
  rintro e2 w2 ⟨g, c', rfl, ho, hk⟩
  exact ⟨_, _, _, rfl, Joins.ownsRow_le ho hj.size, hj.trans (hk.mono hj.size)⟩
theorem tn_flush (w : World) (a : Option Addr) (n cap : Nat) (c : Cm) (h : StrsAt w a n c.keys) (hn : n ≤ 5000) (h0 : (c.what.toList == [103, 101, 116]) = false) (h1 : (c.what.toList == [115, 116, 111, 114, 101]) = false) (h2 : (c.what.toList == [97, 114, 105, 116, 104]) = false) (h3 : (c.what.toList == [116, 111, 117, 99, 104]) = false) (h4 : (c.what.toList == [100, 101, 108, 101, 116, 101]) = false) (hw : (c.what.toList == [102, 108, 117, 115, 104]) = true) : Calls Try.prog 69 #[cmV c (.slice a n cap)] w fun e w' => ∃ v, e = .returned v ∧ Below w.heap.size w w' ∧ Calls Try.prog 73 #[v] w' fun e2 w2 => ∃ a' n' c', e2 = .returned (.slice a' n' c') ∧ w2.ownsRow w.heap.size 9 1 (.slice a' n' c') n' (strC ([])) ∧ Below w.heap.size w w2 := by
  refine (typed_flush w a n cap c h hn h0 h1 h2 h3 h4 hw).mono ?_
  rintro e w' ⟨rfl, hj⟩
  refine ⟨_, rfl, hj, (named_flush c.q w').mono ?_⟩
  rintro e2 w2 ⟨rfl, hk⟩
  exact ⟨none, 0, 0, rfl, World.ownsRow_nil _ _ _ _, hj.trans (hk.mono hj.size)⟩
theorem tn_bad (w : World) (a : Option Addr) (n cap : Nat) (c : Cm) (h : StrsAt w a n c.keys) (hn : n ≤ 5000) (h0 : (c.what.toList == [103, 101, 116]) = false) (h1 : (c.what.toList == [115, 116, 111, 114, 101]) = false) (h2 : (c.what.toList == [97, 114, 105, 116, 104]) = false) (h3 : (c.what.toList == [116, 111, 117, 99, 104]) = false) (h4 : (c.what.toList == [100, 101, 108, 101, 116, 101]) = false) (h5 : (c.what.toList == [102, 108, 117, 115, 104]) = false) (hw : (c.what.toList == [98, 97, 100]) = true) : Calls Try.prog 69 #[cmV c (.slice a n cap)] w fun e w' => ∃ v, e = .returned v ∧ Below w.heap.size w w' ∧ Calls Try.prog 73 #[v] w' fun e2 w2 => ∃ a' n' c', e2 = .returned (.slice a' n' c') ∧ w2.ownsRow w.heap.size 9 1 (.slice a' n' c') n' (strC ([])) ∧ Below w.heap.size w w2 := by
  refine (typed_bad w a n cap c h hn h0 h1 h2 h3 h4 h5 hw).mono ?_
  rintro e w' ⟨rfl, hj⟩
  refine ⟨_, rfl, hj, (named_bad c.verb w').mono ?_⟩
  rintro e2 w2 ⟨rfl, hk⟩
  exact ⟨none, 0, 0, rfl, World.ownsRow_nil _ _ _ _, hj.trans (hk.mono hj.size)⟩
theorem tn_word (w : World) (a : Option Addr) (n cap : Nat) (c : Cm) (h : StrsAt w a n c.keys) (hn : n ≤ 5000) (h0 : (c.what.toList == [103, 101, 116]) = false) (h1 : (c.what.toList == [115, 116, 111, 114, 101]) = false) (h2 : (c.what.toList == [97, 114, 105, 116, 104]) = false) (h3 : (c.what.toList == [116, 111, 117, 99, 104]) = false) (h4 : (c.what.toList == [100, 101, 108, 101, 116, 101]) = false) (h5 : (c.what.toList == [102, 108, 117, 115, 104]) = false) (h6 : (c.what.toList == [98, 97, 100]) = false) (hw : (c.what.toList == [119, 111, 114, 100]) = true) : Calls Try.prog 69 #[cmV c (.slice a n cap)] w fun e w' => ∃ v, e = .returned v ∧ Below w.heap.size w w' ∧ Calls Try.prog 73 #[v] w' fun e2 w2 => ∃ a' n' c', e2 = .returned (.slice a' n' c') ∧ w2.ownsRow w.heap.size 9 1 (.slice a' n' c') n' (strC ([])) ∧ Below w.heap.size w w2 := by
  refine (typed_word w a n cap c h hn h0 h1 h2 h3 h4 h5 h6 hw).mono ?_
  rintro e w' ⟨rfl, hj⟩
  refine ⟨_, rfl, hj, (named_word c.verb w').mono ?_⟩
  rintro e2 w2 ⟨rfl, hk⟩
  exact ⟨none, 0, 0, rfl, World.ownsRow_nil _ _ _ _, hj.trans (hk.mono hj.size)⟩
theorem tn_none (w : World) (a : Option Addr) (n cap : Nat) (c : Cm) (h : StrsAt w a n c.keys) (hn : n ≤ 5000) (h0 : (c.what.toList == [103, 101, 116]) = false) (h1 : (c.what.toList == [115, 116, 111, 114, 101]) = false) (h2 : (c.what.toList == [97, 114, 105, 116, 104]) = false) (h3 : (c.what.toList == [116, 111, 117, 99, 104]) = false) (h4 : (c.what.toList == [100, 101, 108, 101, 116, 101]) = false) (h5 : (c.what.toList == [102, 108, 117, 115, 104]) = false) (h6 : (c.what.toList == [98, 97, 100]) = false) (h7 : (c.what.toList == [119, 111, 114, 100]) = false) : Calls Try.prog 69 #[cmV c (.slice a n cap)] w fun e w' => ∃ v, e = .returned v ∧ Below w.heap.size w w' ∧ Calls Try.prog 73 #[v] w' fun e2 w2 => ∃ a' n' c', e2 = .returned (.slice a' n' c') ∧ w2.ownsRow w.heap.size 9 1 (.slice a' n' c') n' (strC ([])) ∧ Below w.heap.size w w2 := by
  refine (typed_none w a n cap c h hn h0 h1 h2 h3 h4 h5 h6 h7).mono ?_
  rintro e w' ⟨rfl, hj⟩
  refine ⟨_, rfl, hj, (named_nil w').mono ?_⟩
  rintro e2 w2 ⟨rfl, hk⟩
  exact ⟨none, 0, 0, rfl, World.ownsRow_nil _ _ _ _, hj.trans (hk.mono hj.size)⟩
theorem tn_any (w : World) (a : Option Addr) (n cap : Nat) (c : Cm) (h : StrsAt w a n c.keys) (hn : n ≤ 5000) : Calls Try.prog 69 #[cmV c (.slice a n cap)] w fun e w' => ∃ v, e = .returned v ∧ Below w.heap.size w w' ∧ Calls Try.prog 73 #[v] w' fun e2 w2 => ∃ a' n' c', e2 = .returned (.slice a' n' c') ∧ w2.ownsRow w.heap.size 9 1 (.slice a' n' c') n' (strC (keysP c)) ∧ Below w.heap.size w w2 := by
  cases h0 : c.what.toList == [103, 101, 116] with
  | true =>
    refine (tn_get w a n cap c h hn h0).mono ?_
    rintro e w' hp
    simpa only [keysP, h0, if_true, if_false, Bool.false_eq_true] using hp
  | false =>
    cases h1 : c.what.toList == [115, 116, 111, 114, 101] with
    | true =>
      refine (tn_store w a n cap c h hn h0 h1).mono ?_
      rintro e w' hp
      simpa only [keysP, h0, h1, if_true, if_false, Bool.false_eq_true] using hp
    | false =>
      cases h2 : c.what.toList == [97, 114, 105, 116, 104] with
      | true =>
        refine (tn_arith w a n cap c h hn h0 h1 h2).mono ?_
        rintro e w' hp
        simpa only [keysP, h0, h1, h2, if_true, if_false, Bool.false_eq_true] using hp
      | false =>
        cases h3 : c.what.toList == [116, 111, 117, 99, 104] with
        | true =>
          refine (tn_touch w a n cap c h hn h0 h1 h2 h3).mono ?_
          rintro e w' hp
          simpa only [keysP, h0, h1, h2, h3, if_true, if_false, Bool.false_eq_true] using hp
        | false =>
          cases h4 : c.what.toList == [100, 101, 108, 101, 116, 101] with
          | true =>
            refine (tn_delete w a n cap c h hn h0 h1 h2 h3 h4).mono ?_
            rintro e w' hp
            simpa only [keysP, h0, h1, h2, h3, h4, if_true, if_false, Bool.false_eq_true] using hp
          | false =>
            cases h5 : c.what.toList == [102, 108, 117, 115, 104] with
            | true =>
              refine (tn_flush w a n cap c h hn h0 h1 h2 h3 h4 h5).mono ?_
              rintro e w' hp
              simpa only [keysP, h0, h1, h2, h3, h4, h5, if_true, if_false, Bool.false_eq_true] using hp
            | false =>
              cases h6 : c.what.toList == [98, 97, 100] with
              | true =>
                refine (tn_bad w a n cap c h hn h0 h1 h2 h3 h4 h5 h6).mono ?_
                rintro e w' hp
                simpa only [keysP, h0, h1, h2, h3, h4, h5, h6, if_true, if_false, Bool.false_eq_true] using hp
              | false =>
                cases h7 : c.what.toList == [119, 111, 114, 100] with
                | true =>
                  refine (tn_word w a n cap c h hn h0 h1 h2 h3 h4 h5 h6 h7).mono ?_
                  rintro e w' hp
                  simpa only [keysP, h0, h1, h2, h3, h4, h5, h6, h7, if_true, if_false, Bool.false_eq_true] using hp
                | false =>
                  refine (tn_none w a n cap c h hn h0 h1 h2 h3 h4 h5 h6 h7).mono ?_
                  rintro e w' hp
                  simpa only [keysP, h0, h1, h2, h3, h4, h5, h6, h7, if_true, if_false, Bool.false_eq_true] using hp
end Go.Proofs.Ytmfjaehajdephab