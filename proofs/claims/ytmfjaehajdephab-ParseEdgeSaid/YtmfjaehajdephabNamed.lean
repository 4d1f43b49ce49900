/-
  What the calls of a kind's own answer: its name, the keys that it names, whether it may be.
-/
import Derived.Test.YtmfjaehajdephabTyped
namespace Go.Proofs.Ytmfjaehajdephab
open Go.Shelf Go.RowKit Go.Deep
set_option linter.unusedVariables false
set_option linter.unusedSimpArgs false
set_option maxRecDepth 1000000

theorem retb {x y : Bool} (h : x = y) : Ending.returned (.bool x) = Ending.returned (.bool y) := by rw [h]
theorem own_one (w : World) (k : ByteArray) : (w.alloc (.cells #[.string k] 9)).ownsRow w.heap.size 9 1 (.slice (some ⟨w.heap.size, 0, none⟩) 1 1) 1 (strC [k]) :=
  ⟨by simp [strC], .inr ⟨w.heap.size, 1, #[.string k], rfl, Nat.le_refl _, heap_alloc_new w _, by omega, by decide, rfl, by simp [strC]⟩⟩
theorem own_later {w W : World} {base size n : Nat} {e : TypeId} {v : Value} {xs : List Value} (h : w.ownsRow base e size v n xs) (k : Below w.heap.size w W) : W.ownsRow base e size v n xs :=
  ⟨h.1, h.2.elim Or.inl (fun ⟨g, cap, cur, hv, hb, hg, r⟩ => .inr ⟨g, cap, cur, hv, hb, (k.block g (Array.getElem?_eq_some_iff.1 hg).1).trans hg, r⟩)⟩

/-- What a Get is called. -/
def gname : Bool → Bool → ByteArray
  | false, false => ⟨#[103, 101, 116]⟩
  | true, false => ⟨#[103, 101, 116, 115]⟩
  | false, true => ⟨#[103, 97, 116]⟩
  | true, true => ⟨#[103, 97, 116, 115]⟩
def aname (d : Bool) : ByteArray := if d then ⟨#[100, 101, 99, 114]⟩ else ⟨#[105, 110, 99, 114]⟩
def cntB (n : Nat) : Bool := decide (1 ≤ n) && decide (n ≤ 64)
theorem counts_any (a : Option Addr) (n cap : Nat) (c t : Bool) (x : Int) (w : World) (hn : n ≤ 5000) :
    Calls Try.prog 71 #[.agg #[.slice a n cap, .bool c, .bool t, .int .i64 x]] w fun e w' => e = .returned (.bool (cntB n)) ∧ Below w.heap.size w w' := by
  have B := (Below.refl w.heap.size w).alloc (Nat.le_refl _) (.cells #[.slice a n cap, .bool c, .bool t, .int .i64 x] 94)
  by_cases h1 : 1 ≤ n
  · by_cases h2 : n ≤ 64
    · have E : Hid (cntB n = true) := show cntB n = true by simp [cntB, h1, h2]
      go_enter Try.func71, Try.ntmps71
      go_wp2
      go_ret
      exact ⟨retb (by rw [E.out] <;> first | rfl | exact decide_eq_true (by omega) | exact decide_eq_false (by omega)), B⟩
    · have E : Hid (cntB n = false) := show cntB n = false by simp [cntB, h2]
      go_enter Try.func71, Try.ntmps71
      go_wp2
      go_ret
      exact ⟨retb (by rw [E.out] <;> first | rfl | exact decide_eq_true (by omega) | exact decide_eq_false (by omega)), B⟩
  · have E : Hid (cntB n = false) := show cntB n = false by simp [cntB, h1]
    go_enter Try.func71, Try.ntmps71
    go_wp2
    go_ret
    exact ⟨retb (by rw [E.out] <;> first | rfl | exact decide_eq_true (by omega) | exact decide_eq_false (by omega)), B⟩

def verbB (v : ByteArray) : Bool := v.toList == [115, 101, 116] || v.toList == [97, 100, 100] || v.toList == [114, 101, 112, 108, 97, 99, 101] || v.toList == [97, 112, 112, 101, 110, 100] || v.toList == [112, 114, 101, 112, 101, 110, 100] || v.toList == [99, 97, 115]
def storesB (v d : ByteArray) : Bool := verbB v && decide (d.size ≤ 1024)
theorem stores_any (v k d : ByteArray) (f x s : Int) (q : Bool) (w : World) (hd : d.size ≤ 140737488351232) :
    Calls Try.prog 75 #[.agg #[.string v, .string k, .string d, .int .u32 f, .int .i64 x, .int .u64 s, .bool q]] w fun e w' => e = .returned (.bool (storesB v d)) ∧ Below w.heap.size w w' := by
  have B := (Below.refl w.heap.size w).alloc (Nat.le_refl _) (.cells #[.string v, .string k, .string d, .int .u32 f, .int .i64 x, .int .u64 s, .bool q] 97)

  cases g0 : v.toList == [115, 101, 116] with
  | true =>
    by_cases h2 : d.size ≤ 1024
    · have E : Hid (storesB v d = true) := show storesB v d = true by simp [storesB, verbB, g0, h2]
      go_enter Try.func75, Try.ntmps75
      go_wp2
      go_ret
      exact ⟨retb (by rw [E.out] <;> first | rfl | exact decide_eq_true (by omega) | exact decide_eq_false (by omega)), B⟩
    · have E : Hid (storesB v d = false) := show storesB v d = false by simp [storesB, verbB, g0, h2]
      go_enter Try.func75, Try.ntmps75
      go_wp2
      go_ret
      exact ⟨retb (by rw [E.out] <;> first | rfl | exact decide_eq_true (by omega) | exact decide_eq_false (by omega)), B⟩
  | false =>
    cases g1 : v.toList == [97, 100, 100] with
    | true =>
      by_cases h2 : d.size ≤ 1024
      · have E : Hid (storesB v d = true) := show storesB v d = true by simp [storesB, verbB, g0, g1, h2]
        go_enter Try.func75, Try.ntmps75
        go_wp2
        go_ret
        exact ⟨retb (by rw [E.out] <;> first | rfl | exact decide_eq_true (by omega) | exact decide_eq_false (by omega)), B⟩
      · have E : Hid (storesB v d = false) := show storesB v d = false by simp [storesB, verbB, g0, g1, h2]
        go_enter Try.func75, Try.ntmps75
        go_wp2
        go_ret
        exact ⟨retb (by rw [E.out] <;> first | rfl | exact decide_eq_true (by omega) | exact decide_eq_false (by omega)), B⟩
    | false =>
      cases g2 : v.toList == [114, 101, 112, 108, 97, 99, 101] with
      | true =>
        by_cases h2 : d.size ≤ 1024
        · have E : Hid (storesB v d = true) := show storesB v d = true by simp [storesB, verbB, g0, g1, g2, h2]
          go_enter Try.func75, Try.ntmps75
          go_wp2
          go_ret
          exact ⟨retb (by rw [E.out] <;> first | rfl | exact decide_eq_true (by omega) | exact decide_eq_false (by omega)), B⟩
        · have E : Hid (storesB v d = false) := show storesB v d = false by simp [storesB, verbB, g0, g1, g2, h2]
          go_enter Try.func75, Try.ntmps75
          go_wp2
          go_ret
          exact ⟨retb (by rw [E.out] <;> first | rfl | exact decide_eq_true (by omega) | exact decide_eq_false (by omega)), B⟩
      | false =>
        cases g3 : v.toList == [97, 112, 112, 101, 110, 100] with
        | true =>
          by_cases h2 : d.size ≤ 1024
          · have E : Hid (storesB v d = true) := show storesB v d = true by simp [storesB, verbB, g0, g1, g2, g3, h2]
            go_enter Try.func75, Try.ntmps75
            go_wp2
            go_ret
            exact ⟨retb (by rw [E.out] <;> first | rfl | exact decide_eq_true (by omega) | exact decide_eq_false (by omega)), B⟩
          · have E : Hid (storesB v d = false) := show storesB v d = false by simp [storesB, verbB, g0, g1, g2, g3, h2]
            go_enter Try.func75, Try.ntmps75
            go_wp2
            go_ret
            exact ⟨retb (by rw [E.out] <;> first | rfl | exact decide_eq_true (by omega) | exact decide_eq_false (by omega)), B⟩
        | false =>
          cases g4 : v.toList == [112, 114, 101, 112, 101, 110, 100] with
          | true =>
            by_cases h2 : d.size ≤ 1024
            · have E : Hid (storesB v d = true) := show storesB v d = true by simp [storesB, verbB, g0, g1, g2, g3, g4, h2]
              go_enter Try.func75, Try.ntmps75
              go_wp2
              go_ret
              exact ⟨retb (by rw [E.out] <;> first | rfl | exact decide_eq_true (by omega) | exact decide_eq_false (by omega)), B⟩
            · have E : Hid (storesB v d = false) := show storesB v d = false by simp [storesB, verbB, g0, g1, g2, g3, g4, h2]
              go_enter Try.func75, Try.ntmps75
              go_wp2
              go_ret
              exact ⟨retb (by rw [E.out] <;> first | rfl | exact decide_eq_true (by omega) | exact decide_eq_false (by omega)), B⟩
          | false =>
            cases g5 : v.toList == [99, 97, 115] with
            | true =>
              by_cases h2 : d.size ≤ 1024
              · have E : Hid (storesB v d = true) := show storesB v d = true by simp [storesB, verbB, g0, g1, g2, g3, g4, g5, h2]
                go_enter Try.func75, Try.ntmps75
                go_wp2
                go_ret
                exact ⟨retb (by rw [E.out] <;> first | rfl | exact decide_eq_true (by omega) | exact decide_eq_false (by omega)), B⟩
              · have E : Hid (storesB v d = false) := show storesB v d = false by simp [storesB, verbB, g0, g1, g2, g3, g4, g5, h2]
                go_enter Try.func75, Try.ntmps75
                go_wp2
                go_ret
                exact ⟨retb (by rw [E.out] <;> first | rfl | exact decide_eq_true (by omega) | exact decide_eq_false (by omega)), B⟩
            | false =>
              have E : Hid (storesB v d = false) := show storesB v d = false by simp only [storesB, verbB, g0, g1, g2, g3, g4, g5]; rfl
              go_enter Try.func75, Try.ntmps75
              go_wp2
              go_ret
              exact ⟨retb (by rw [E.out] <;> first | rfl | exact decide_eq_true (by omega) | exact decide_eq_false (by omega)), B⟩
def knownB (v : ByteArray) : Bool := v.toList == [118, 101, 114, 115, 105, 111, 110] || v.toList == [113, 117, 105, 116]
theorem known_any (v : ByteArray) (w : World) : Calls Try.prog 80 #[.agg #[.string v]] w fun e w' => e = .returned (.bool (knownB v)) ∧ Below w.heap.size w w' := by
  have B := (Below.refl w.heap.size w).alloc (Nat.le_refl _) (.cells #[.string v] 105)
  cases g0 : v.toList == [118, 101, 114, 115, 105, 111, 110] with
  | true =>
    have E : Hid (knownB v = true) := show knownB v = true by simp only [knownB, g0]; rfl
    go_enter Try.func80, Try.ntmps80
    go_wp2
    go_ret
    exact ⟨retb (by rw [E.out] <;> first | rfl | exact decide_eq_true (by omega) | exact decide_eq_false (by omega)), B⟩
  | false =>
    cases g1 : v.toList == [113, 117, 105, 116] with
    | true =>
      have E : Hid (knownB v = true) := show knownB v = true by simp only [knownB, g0, g1]; rfl
      go_enter Try.func80, Try.ntmps80
      go_wp2
      go_ret
      exact ⟨retb (by rw [E.out] <;> first | rfl | exact decide_eq_true (by omega) | exact decide_eq_false (by omega)), B⟩
    | false =>
      have E : Hid (knownB v = false) := show knownB v = false by simp only [knownB, g0, g1]; rfl
      go_enter Try.func80, Try.ntmps80
      go_wp2
      go_ret
      exact ⟨retb (by rw [E.out] <;> first | rfl | exact decide_eq_true (by omega) | exact decide_eq_false (by omega)), B⟩
theorem fld44_0 (a : Option Addr) (n cap : Nat) (c t : Bool) (x : Int) (w : World) : (Instr.field 94 (.agg #[.slice a n cap, .bool c, .bool t, .int .i64 x]) 0).run Try.prog w = .ok (.slice a n cap) w := by kernel_rfl
theorem fld47_0 (v k d : ByteArray) (f x s : Int) (q : Bool) (w : World) : (Instr.field 97 (.agg #[.string v, .string k, .string d, .int .u32 f, .int .i64 x, .int .u64 s, .bool q]) 0).run Try.prog w = .ok (.string v) w := by kernel_rfl
theorem fld47_1 (v k d : ByteArray) (f x s : Int) (q : Bool) (w : World) : (Instr.field 97 (.agg #[.string v, .string k, .string d, .int .u32 f, .int .i64 x, .int .u64 s, .bool q]) 1).run Try.prog w = .ok (.string k) w := by kernel_rfl
theorem fld47_6 (v k d : ByteArray) (f x s : Int) (q : Bool) (w : World) : (Instr.field 97 (.agg #[.string v, .string k, .string d, .int .u32 f, .int .i64 x, .int .u64 s, .bool q]) 6).run Try.prog w = .ok (.bool q) w := by kernel_rfl
theorem fld50_0 (k : ByteArray) (y : Int) (d q : Bool) (w : World) : (Instr.field 99 (.agg #[.string k, .int .u64 y, .bool d, .bool q]) 0).run Try.prog w = .ok (.string k) w := by kernel_rfl
theorem fld50_3 (k : ByteArray) (y : Int) (d q : Bool) (w : World) : (Instr.field 99 (.agg #[.string k, .int .u64 y, .bool d, .bool q]) 3).run Try.prog w = .ok (.bool q) w := by kernel_rfl
theorem fld52_0 (k : ByteArray) (x : Int) (q : Bool) (w : World) : (Instr.field 101 (.agg #[.string k, .int .i64 x, .bool q]) 0).run Try.prog w = .ok (.string k) w := by kernel_rfl
theorem fld52_2 (k : ByteArray) (x : Int) (q : Bool) (w : World) : (Instr.field 101 (.agg #[.string k, .int .i64 x, .bool q]) 2).run Try.prog w = .ok (.bool q) w := by kernel_rfl
theorem fld54_0 (k : ByteArray) (q : Bool) (w : World) : (Instr.field 103 (.agg #[.string k, .bool q]) 0).run Try.prog w = .ok (.string k) w := by kernel_rfl
theorem fld54_1 (k : ByteArray) (q : Bool) (w : World) : (Instr.field 103 (.agg #[.string k, .bool q]) 1).run Try.prog w = .ok (.bool q) w := by kernel_rfl
theorem fld56_0 (q : Bool) (w : World) : (Instr.field 107 (.agg #[.bool q]) 0).run Try.prog w = .ok (.bool q) w := by kernel_rfl
theorem fld60_0 (k : ByteArray) (w : World) : (Instr.field 105 (.agg #[.string k]) 0).run Try.prog w = .ok (.string k) w := by kernel_rfl
theorem named_get (a : Option Addr) (n cap : Nat) (c t : Bool) (x : Int) (w : World) : Calls Try.prog 73 #[.iface 94 (.agg #[.slice a n cap, .bool c, .bool t, .int .i64 x])] w fun e w' => e = .returned (.slice a n cap) ∧ Below w.heap.size w w' := by
  have B := Below.refl w.heap.size w
  have m := as44 (.agg #[.slice a n cap, .bool c, .bool t, .int .i64 x])
  have ff := fld44_0 a n cap c t x
  go_enter Try.func73, Try.ntmps73
  go_wp2_with fail
  refine (is44_yes a n cap c t x _).mono ?_
  rintro e wj ⟨rfl, hj⟩
  replace B := B.trans (hj.mono B.size)
  clear hj
  go_wp2
  go_ret
  exact ⟨rfl, B⟩
theorem named_store (v k d : ByteArray) (f x s : Int) (q : Bool) (w : World) : Calls Try.prog 73 #[.iface 97 (.agg #[.string v, .string k, .string d, .int .u32 f, .int .i64 x, .int .u64 s, .bool q])] w fun e w' => ∃ g c', e = .returned (.slice (some ⟨g, 0, none⟩) 1 c') ∧ w'.ownsRow w.heap.size 9 1 (.slice (some ⟨g, 0, none⟩) 1 c') 1 (strC [k]) ∧ Below w.heap.size w w' := by
  have B := Below.refl w.heap.size w
  have m := as47 (.agg #[.string v, .string k, .string d, .int .u32 f, .int .i64 x, .int .u64 s, .bool q])
  have ff := fld47_1 v k d f x s q
  go_enter Try.func73, Try.ntmps73
  go_wp2_with fail
  refine (is44_no 97 _ (by decide) _).mono ?_
  rintro e wj ⟨rfl, hj⟩
  replace B := B.trans (hj.mono B.size)
  clear hj
  go_wp2_with fail
  refine (is47_yes v k d f x s q _).mono ?_
  rintro e wj ⟨rfl, hj⟩
  replace B := B.trans (hj.mono B.size)
  clear hj
  go_wp2
  go_ret
  exact ⟨_, _, rfl, Joins.ownsRow_le (own_one _ k) B.size, B.alloc B.size _⟩
theorem named_arith (k : ByteArray) (y : Int) (d q : Bool) (w : World) : Calls Try.prog 73 #[.iface 99 (.agg #[.string k, .int .u64 y, .bool d, .bool q])] w fun e w' => ∃ g c', e = .returned (.slice (some ⟨g, 0, none⟩) 1 c') ∧ w'.ownsRow w.heap.size 9 1 (.slice (some ⟨g, 0, none⟩) 1 c') 1 (strC [k]) ∧ Below w.heap.size w w' := by
  have B := Below.refl w.heap.size w
  have m := as50 (.agg #[.string k, .int .u64 y, .bool d, .bool q])
  have ff := fld50_0 k y d q
  go_enter Try.func73, Try.ntmps73
  go_wp2_with fail
  refine (is44_no 99 _ (by decide) _).mono ?_
  rintro e wj ⟨rfl, hj⟩
  replace B := B.trans (hj.mono B.size)
  clear hj
  go_wp2_with fail
  refine (is47_no 99 _ (by decide) _).mono ?_
  rintro e wj ⟨rfl, hj⟩
  replace B := B.trans (hj.mono B.size)
  clear hj
  go_wp2_with fail
  refine (is50_yes k y d q _).mono ?_
  rintro e wj ⟨rfl, hj⟩
  replace B := B.trans (hj.mono B.size)
  clear hj
  go_wp2
  go_ret
  exact ⟨_, _, rfl, Joins.ownsRow_le (own_one _ k) B.size, B.alloc B.size _⟩
theorem named_touch (k : ByteArray) (x : Int) (q : Bool) (w : World) : Calls Try.prog 73 #[.iface 101 (.agg #[.string k, .int .i64 x, .bool q])] w fun e w' => ∃ g c', e = .returned (.slice (some ⟨g, 0, none⟩) 1 c') ∧ w'.ownsRow w.heap.size 9 1 (.slice (some ⟨g, 0, none⟩) 1 c') 1 (strC [k]) ∧ Below w.heap.size w w' := by
  have B := Below.refl w.heap.size w
  have m := as52 (.agg #[.string k, .int .i64 x, .bool q])
  have ff := fld52_0 k x q
  go_enter Try.func73, Try.ntmps73
  go_wp2_with fail
  refine (is44_no 101 _ (by decide) _).mono ?_
  rintro e wj ⟨rfl, hj⟩
  replace B := B.trans (hj.mono B.size)
  clear hj
  go_wp2_with fail
  refine (is47_no 101 _ (by decide) _).mono ?_
  rintro e wj ⟨rfl, hj⟩
  replace B := B.trans (hj.mono B.size)
  clear hj
  go_wp2_with fail
  refine (is50_no 101 _ (by decide) _).mono ?_
  rintro e wj ⟨rfl, hj⟩
  replace B := B.trans (hj.mono B.size)
  clear hj
  go_wp2_with fail
  refine (is52_yes k x q _).mono ?_
  rintro e wj ⟨rfl, hj⟩
  replace B := B.trans (hj.mono B.size)
  clear hj
  go_wp2
  go_ret
  exact ⟨_, _, rfl, Joins.ownsRow_le (own_one _ k) B.size, B.alloc B.size _⟩
theorem named_delete (k : ByteArray) (q : Bool) (w : World) : Calls Try.prog 73 #[.iface 103 (.agg #[.string k, .bool q])] w fun e w' => ∃ g c', e = .returned (.slice (some ⟨g, 0, none⟩) 1 c') ∧ w'.ownsRow w.heap.size 9 1 (.slice (some ⟨g, 0, none⟩) 1 c') 1 (strC [k]) ∧ Below w.heap.size w w' := by
  have B := Below.refl w.heap.size w
  have m := as54 (.agg #[.string k, .bool q])
  have ff := fld54_0 k q
  go_enter Try.func73, Try.ntmps73
  go_wp2_with fail
  refine (is44_no 103 _ (by decide) _).mono ?_
  rintro e wj ⟨rfl, hj⟩
  replace B := B.trans (hj.mono B.size)
  clear hj
  go_wp2_with fail
  refine (is47_no 103 _ (by decide) _).mono ?_
  rintro e wj ⟨rfl, hj⟩
  replace B := B.trans (hj.mono B.size)
  clear hj
  go_wp2_with fail
  refine (is50_no 103 _ (by decide) _).mono ?_
  rintro e wj ⟨rfl, hj⟩
  replace B := B.trans (hj.mono B.size)
  clear hj
  go_wp2_with fail
  refine (is52_no 103 _ (by decide) _).mono ?_
  rintro e wj ⟨rfl, hj⟩
  replace B := B.trans (hj.mono B.size)
  clear hj
  go_wp2_with fail
  refine (is54_yes k q _).mono ?_
  rintro e wj ⟨rfl, hj⟩
  replace B := B.trans (hj.mono B.size)
  clear hj
  go_wp2
  go_ret
  exact ⟨_, _, rfl, Joins.ownsRow_le (own_one _ k) B.size, B.alloc B.size _⟩
theorem named_flush (q : Bool) (w : World) : Calls Try.prog 73 #[.iface 107 (.agg #[.bool q])] w fun e w' => e = .returned (.slice none 0 0) ∧ Below w.heap.size w w' := by
  have B := Below.refl w.heap.size w
  have m := as56 (.agg #[.bool q])
  go_enter Try.func73, Try.ntmps73
  go_wp2_with fail
  refine (is44_no 107 _ (by decide) _).mono ?_
  rintro e wj ⟨rfl, hj⟩
  replace B := B.trans (hj.mono B.size)
  clear hj
  go_wp2_with fail
  refine (is47_no 107 _ (by decide) _).mono ?_
  rintro e wj ⟨rfl, hj⟩
  replace B := B.trans (hj.mono B.size)
  clear hj
  go_wp2_with fail
  refine (is50_no 107 _ (by decide) _).mono ?_
  rintro e wj ⟨rfl, hj⟩
  replace B := B.trans (hj.mono B.size)
  clear hj
  go_wp2_with fail
  refine (is52_no 107 _ (by decide) _).mono ?_
  rintro e wj ⟨rfl, hj⟩
  replace B := B.trans (hj.mono B.size)
  clear hj
  go_wp2_with fail
  refine (is54_no 107 _ (by decide) _).mono ?_
  rintro e wj ⟨rfl, hj⟩
  replace B := B.trans (hj.mono B.size)
  clear hj
  go_wp2
  go_ret
  exact ⟨rfl, B⟩
theorem named_bad (k : ByteArray) (w : World) : Calls Try.prog 73 #[.iface 112 (.agg #[.string k])] w fun e w' => e = .returned (.slice none 0 0) ∧ Below w.heap.size w w' := by
  have B := Below.refl w.heap.size w
  have m := as58 (.agg #[.string k])
  go_enter Try.func73, Try.ntmps73
  go_wp2_with fail
  refine (is44_no 112 _ (by decide) _).mono ?_
  rintro e wj ⟨rfl, hj⟩
  replace B := B.trans (hj.mono B.size)
  clear hj
  go_wp2_with fail
  refine (is47_no 112 _ (by decide) _).mono ?_
  rintro e wj ⟨rfl, hj⟩
  replace B := B.trans (hj.mono B.size)
  clear hj
  go_wp2_with fail
  refine (is50_no 112 _ (by decide) _).mono ?_
  rintro e wj ⟨rfl, hj⟩
  replace B := B.trans (hj.mono B.size)
  clear hj
  go_wp2_with fail
  refine (is52_no 112 _ (by decide) _).mono ?_
  rintro e wj ⟨rfl, hj⟩
  replace B := B.trans (hj.mono B.size)
  clear hj
  go_wp2_with fail
  refine (is54_no 112 _ (by decide) _).mono ?_
  rintro e wj ⟨rfl, hj⟩
  replace B := B.trans (hj.mono B.size)
  clear hj
  go_wp2
  go_ret
  exact ⟨rfl, B⟩
theorem named_word (k : ByteArray) (w : World) : Calls Try.prog 73 #[.iface 105 (.agg #[.string k])] w fun e w' => e = .returned (.slice none 0 0) ∧ Below w.heap.size w w' := by
  have B := Below.refl w.heap.size w
  have m := as60 (.agg #[.string k])
  go_enter Try.func73, Try.ntmps73
  go_wp2_with fail
  refine (is44_no 105 _ (by decide) _).mono ?_
  rintro e wj ⟨rfl, hj⟩
  replace B := B.trans (hj.mono B.size)
  clear hj
  go_wp2_with fail
  refine (is47_no 105 _ (by decide) _).mono ?_
  rintro e wj ⟨rfl, hj⟩
  replace B := B.trans (hj.mono B.size)
  clear hj
  go_wp2_with fail
  refine (is50_no 105 _ (by decide) _).mono ?_
  rintro e wj ⟨rfl, hj⟩
  replace B := B.trans (hj.mono B.size)
  clear hj
  go_wp2_with fail
  refine (is52_no 105 _ (by decide) _).mono ?_
  rintro e wj ⟨rfl, hj⟩
  replace B := B.trans (hj.mono B.size)
  clear hj
  go_wp2_with fail
  refine (is54_no 105 _ (by decide) _).mono ?_
  rintro e wj ⟨rfl, hj⟩
  replace B := B.trans (hj.mono B.size)
  clear hj
  go_wp2
  go_ret
  exact ⟨rfl, B⟩
theorem named_nil (w : World) : Calls Try.prog 73 #[.nilIface] w fun e w' => e = .returned (.slice none 0 0) ∧ Below w.heap.size w w' := by
  have B := Below.refl w.heap.size w
  go_enter Try.func73, Try.ntmps73
  go_wp2_with fail
  refine (is44_nil _).mono ?_
  rintro e wj ⟨rfl, hj⟩
  replace B := B.trans (hj.mono B.size)
  clear hj
  go_wp2_with fail
  refine (is47_nil _).mono ?_
  rintro e wj ⟨rfl, hj⟩
  replace B := B.trans (hj.mono B.size)
  clear hj
  go_wp2_with fail
  refine (is50_nil _).mono ?_
  rintro e wj ⟨rfl, hj⟩
  replace B := B.trans (hj.mono B.size)
  clear hj
  go_wp2_with fail
  refine (is52_nil _).mono ?_
  rintro e wj ⟨rfl, hj⟩
  replace B := B.trans (hj.mono B.size)
  clear hj
  go_wp2_with fail
  refine (is54_nil _).mono ?_
  rintro e wj ⟨rfl, hj⟩
  replace B := B.trans (hj.mono B.size)
  clear hj
  go_wp2
  go_ret
  exact ⟨rfl, B⟩
end Go.Proofs.Ytmfjaehajdephab