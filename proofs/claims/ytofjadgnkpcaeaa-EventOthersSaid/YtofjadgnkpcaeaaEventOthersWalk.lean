/-
  EventOthers holds for every input.
-/
import Derived.WalkKit
import Derived.Below
import Derived.Test.YtofjadgnkpcaeaaLaw
import Derived.Test.YtofjadgnkpcaeaaOpen
namespace Go.Proofs.Ytofjadgnkpcaeaa.eventOthers
open Go.RowKit Go.Deep Go.Shelf
set_option linter.unusedVariables false
set_option linter.unusedSimpArgs false

theorem q_yes (a0 : ByteArray) (z1 : List ByteArray) (v : ByteArray) (q : Bool) (l : List UInt8) (b : Bool) (h : (a0.toList == l) = true)
    (hb : (if (l == [103, 101, 116]) = true then false else if (l == [115, 116, 111, 114, 101]) = true then q else if (l == [97, 114, 105, 116, 104]) = true then q else if (l == [116, 111, 117, 99, 104]) = true then q else if (l == [100, 101, 108, 101, 116, 101]) = true then q else if (l == [102, 108, 117, 115, 104]) = true then q else if (l == [98, 97, 100]) = true then false else if (l == [119, 111, 114, 100]) = true then false else false) = b) :
    quietP ⟨a0, v, z1, ⟨#[]⟩, 0, 0, 0, 0, false, false, false, q⟩ = b := by
  have e : a0.toList = l := eq_of_beq h
  unfold quietP
  simp only [e]
  exact hb
/-- A command that lies in a box. -/
def Box (w : World) (b : Nat) (cs : Array Value) (t : TypeId) : Prop := b < w.heap.size ∧ w.heap[b]? = some (.cells cs t)
theorem Box.new (w : World) (cs : Array Value) (t : TypeId) : Box (w.alloc (.cells cs t)) w.heap.size cs t := by
  refine ⟨?_, ?_⟩
  · show _ < (w.heap.push _).size
    rw [Array.size_push]
    omega
  · show (w.heap.push _)[w.heap.size]? = _
    simp
theorem Box.later {w W : World} {b : Nat} {cs : Array Value} {t : TypeId} (h : Box w b cs t) (k : Below w.heap.size w W) : Box W b cs t :=
  ⟨Nat.lt_of_lt_of_le h.1 k.size, (k.block b h.1).trans h.2⟩
theorem Box.cell {w : World} {b : Nat} {cs : Array Value} {t : TypeId} (h : Box w b cs t) (i : Nat) (v : Value) (hv : cs[i]? = some v) : w.cell? ⟨b, i, none⟩ = some v := by
  simp only [World.cell?, h.2]
  exact hv
set_option maxRecDepth 8000 in
set_option maxHeartbeats 40000000 in
theorem walk (a0 : ByteArray) (a1 : Option Addr) (len1 cap1 : Nat) (z1 : List ByteArray) (a2 : Bool) (w : World) (hw0 : a0.size ≤ maxLen) (hw1 : StrsAt w a1 len1 z1) (hw2 : True) :
    Calls Try.prog 5 #[.string a0, .slice a1 len1 cap1, .bool a2] w fun e w' => e = .returned (.bool true) ∧ Below w.heap.size w w' := by
  have B := Below.refl w.heap.size w
  have S1 : StrsAt w a1 len1 z1 := hw1
  have hl : Hid (len1 = z1.length) := hw1.len
  go_enter Try.func5, Try.ntmps5
  go_wp2_with fail
  refine (awake_any w).mono ?_
  rintro e wj ⟨rfl, hj⟩
  replace S1 := S1.later hj
  replace B := B.trans (hj.mono B.size)
  clear hj
  by_cases c1 : 100 < len1
  · go_wp2
    go_ret
    exact ⟨rfl, B⟩
  by_cases c2 : 100 < a0.size
  · go_wp2
    go_ret
    exact ⟨rfl, B⟩
  have hn : len1 ≤ 1000 := by omega
  cases h0 : (a0.toList == [103, 101, 116]) with
  | true =>
    go_wp2_with fail
    refine (quiet_is ⟨a0, ⟨#[]⟩, z1, ⟨#[]⟩, 0, 0, 0, 0, false, false, false, a2⟩ false (q_yes a0 z1 ⟨#[]⟩ a2 _ _ h0 rfl) a1 len1 cap1 _ S1 hn).mono ?_
    rintro e wj ⟨rfl, hj⟩
    replace B := B.trans (hj.mono B.size)
    clear hj
    go_wp2
    go_ret
    exact ⟨rfl, B⟩
  | false =>
    cases h1 : (a0.toList == [98, 97, 100]) with
    | true =>
      go_wp2_with fail
      refine (quiet_is ⟨a0, ⟨#[]⟩, z1, ⟨#[]⟩, 0, 0, 0, 0, false, false, false, a2⟩ false (q_yes a0 z1 ⟨#[]⟩ a2 _ _ h1 rfl) a1 len1 cap1 _ S1 hn).mono ?_
      rintro e wj ⟨rfl, hj⟩
      replace B := B.trans (hj.mono B.size)
      clear hj
      go_wp2
      go_ret
      exact ⟨rfl, B⟩
    | false =>
      cases h2 : (a0.toList == [119, 111, 114, 100]) with
      | true =>
        go_wp2_with fail
        refine (quiet_is ⟨a0, ⟨#[]⟩, z1, ⟨#[]⟩, 0, 0, 0, 0, false, false, false, a2⟩ false (q_yes a0 z1 ⟨#[]⟩ a2 _ _ h2 rfl) a1 len1 cap1 _ S1 hn).mono ?_
        rintro e wj ⟨rfl, hj⟩
        replace B := B.trans (hj.mono B.size)
        clear hj
        go_wp2
        go_ret
        exact ⟨rfl, B⟩
      | false =>
        cases h3 : (a0.toList == [115, 116, 111, 114, 101]) with
        | true =>
          go_wp2_with fail
          refine (quiet_is ⟨a0, ⟨#[]⟩, z1, ⟨#[]⟩, 0, 0, 0, 0, false, false, false, a2⟩ a2 (q_yes a0 z1 ⟨#[]⟩ a2 _ _ h3 rfl) a1 len1 cap1 _ S1 hn).mono ?_
          rintro e wj ⟨rfl, hj⟩
          replace B := B.trans (hj.mono B.size)
          clear hj
          cases a2 <;> (go_wp2; go_ret; exact ⟨rfl, B⟩)
        | false =>
          cases h4 : (a0.toList == [97, 114, 105, 116, 104]) with
          | true =>
            go_wp2_with fail
            refine (quiet_is ⟨a0, ⟨#[]⟩, z1, ⟨#[]⟩, 0, 0, 0, 0, false, false, false, a2⟩ a2 (q_yes a0 z1 ⟨#[]⟩ a2 _ _ h4 rfl) a1 len1 cap1 _ S1 hn).mono ?_
            rintro e wj ⟨rfl, hj⟩
            replace B := B.trans (hj.mono B.size)
            clear hj
            cases a2 <;> (go_wp2; go_ret; exact ⟨rfl, B⟩)
          | false =>
            cases h5 : (a0.toList == [116, 111, 117, 99, 104]) with
            | true =>
              go_wp2_with fail
              refine (quiet_is ⟨a0, ⟨#[]⟩, z1, ⟨#[]⟩, 0, 0, 0, 0, false, false, false, a2⟩ a2 (q_yes a0 z1 ⟨#[]⟩ a2 _ _ h5 rfl) a1 len1 cap1 _ S1 hn).mono ?_
              rintro e wj ⟨rfl, hj⟩
              replace B := B.trans (hj.mono B.size)
              clear hj
              cases a2 <;> (go_wp2; go_ret; exact ⟨rfl, B⟩)
            | false =>
              cases h6 : (a0.toList == [100, 101, 108, 101, 116, 101]) with
              | true =>
                go_wp2_with fail
                refine (quiet_is ⟨a0, ⟨#[]⟩, z1, ⟨#[]⟩, 0, 0, 0, 0, false, false, false, a2⟩ a2 (q_yes a0 z1 ⟨#[]⟩ a2 _ _ h6 rfl) a1 len1 cap1 _ S1 hn).mono ?_
                rintro e wj ⟨rfl, hj⟩
                replace B := B.trans (hj.mono B.size)
                clear hj
                cases a2 <;> (go_wp2; go_ret; exact ⟨rfl, B⟩)
              | false =>
                cases h7 : (a0.toList == [102, 108, 117, 115, 104]) with
                | true =>
                  go_wp2_with fail
                  refine (quiet_is ⟨a0, ⟨#[]⟩, z1, ⟨#[]⟩, 0, 0, 0, 0, false, false, false, a2⟩ a2 (q_yes a0 z1 ⟨#[]⟩ a2 _ _ h7 rfl) a1 len1 cap1 _ S1 hn).mono ?_
                  rintro e wj ⟨rfl, hj⟩
                  replace B := B.trans (hj.mono B.size)
                  clear hj
                  cases a2 <;> (go_wp2; go_ret; exact ⟨rfl, B⟩)
                | false =>
                  have e1 : nameP ⟨a0, ⟨#[115, 101, 116]⟩, z1, ⟨#[]⟩, 0, 0, 0, 0, false, false, false, a2⟩ = ⟨#[]⟩ := by simp only [nameP, h0, h3, h4, h5, h6, h7, h1, h2]; rfl
                  have e2 : keysP ⟨a0, ⟨#[115, 101, 116]⟩, z1, ⟨#[]⟩, 0, 0, 0, 0, false, false, false, a2⟩ = [] := by simp only [keysP, h0, h3, h4, h5, h6, h7, h1, h2]; rfl
                  have e3 : quietP ⟨a0, ⟨#[115, 101, 116]⟩, z1, ⟨#[]⟩, 0, 0, 0, 0, false, false, false, a2⟩ = false := by simp only [quietP, h0, h3, h4, h5, h6, h7, h1, h2]; rfl
                  have e4 : goodP ⟨a0, ⟨#[115, 101, 116]⟩, z1, ⟨#[]⟩, 0, 0, 0, 0, false, false, false, a2⟩ = false := by simp only [goodP, h0, h3, h4, h5, h6, h7, h1, h2]; rfl
                  have ck := fun w S => name_is ⟨a0, ⟨#[115, 101, 116]⟩, z1, ⟨#[]⟩, 0, 0, 0, 0, false, false, false, a2⟩ _ e1 a1 len1 cap1 w S hn (show (3 : Nat) ≤ 140737488351232 from by omega)
                  have kk := fun w S => keys_is ⟨a0, ⟨#[115, 101, 116]⟩, z1, ⟨#[]⟩, 0, 0, 0, 0, false, false, false, a2⟩ _ e2 a1 len1 cap1 w S hn
                  have qq := fun w S => quiet_is ⟨a0, ⟨#[115, 101, 116]⟩, z1, ⟨#[]⟩, 0, 0, 0, 0, false, false, false, a2⟩ _ e3 a1 len1 cap1 w S hn
                  have gg := fun w S => good_is ⟨a0, ⟨#[115, 101, 116]⟩, z1, ⟨#[]⟩, 0, 0, 0, 0, false, false, false, a2⟩ _ e4 a1 len1 cap1 w S hn (show (0 : Nat) ≤ 140737488351232 from by omega)
                  have X := Box.new wj #[.string a0, .string ⟨#[115, 101, 116]⟩, .slice a1 len1 cap1, .string ⟨#[]⟩, .int .u32 0, .int .i64 0, .int .u64 0, .int .u64 0, .bool false, .bool false, .bool false, .bool a2] 28
                  have KB := (Below.refl wj.heap.size wj).alloc (Nat.le_refl _) (.cells #[.string a0, .string ⟨#[115, 101, 116]⟩, .slice a1 len1 cap1, .string ⟨#[]⟩, .int .u32 0, .int .i64 0, .int .u64 0, .int .u64 0, .bool false, .bool false, .bool false, .bool a2] 28)
                  replace S1 := S1.later KB
                  replace B := B.trans (KB.mono B.size)
                  clear e1 e2 e3 e4 KB
                  replace ck := hide ck
                  replace kk := hide kk
                  replace qq := hide qq
                  replace gg := hide gg
                  go_wp2_with fail
                  generalize wj.alloc (.cells #[.string a0, .string ⟨#[115, 101, 116]⟩, .slice a1 len1 cap1, .string ⟨#[]⟩, .int .u32 0, .int .i64 0, .int .u64 0, .int .u64 0, .bool false, .bool false, .bool false, .bool a2] 28) = wk at *
                  generalize wj.heap.size = m at *
                  refine (ck.out _ S1).mono ?_
                  rintro e wj ⟨rfl, hj⟩
                  replace S1 := S1.later hj
                  replace X := X.later hj
                  replace B := B.trans (hj.mono B.size)
                  clear hj
                  have x0 := X.cell 0 _ rfl
                  have x1 := X.cell 1 _ rfl
                  have x2 := X.cell 2 _ rfl
                  have x3 := X.cell 3 _ rfl
                  have x4 := X.cell 4 _ rfl
                  have x5 := X.cell 5 _ rfl
                  have x6 := X.cell 6 _ rfl
                  have x7 := X.cell 7 _ rfl
                  have x8 := X.cell 8 _ rfl
                  have x9 := X.cell 9 _ rfl
                  have x10 := X.cell 10 _ rfl
                  have x11 := X.cell 11 _ rfl
                  go_wp2_with fail
                  refine (kk.out _ S1).mono ?_
                  rintro e wj ⟨a', c', rfl, ho, hj⟩
                  replace S1 := S1.later hj
                  replace X := X.later hj
                  replace B := B.trans (hj.mono B.size)
                  clear hj
                  have x0 := X.cell 0 _ rfl
                  have x1 := X.cell 1 _ rfl
                  have x2 := X.cell 2 _ rfl
                  have x3 := X.cell 3 _ rfl
                  have x4 := X.cell 4 _ rfl
                  have x5 := X.cell 5 _ rfl
                  have x6 := X.cell 6 _ rfl
                  have x7 := X.cell 7 _ rfl
                  have x8 := X.cell 8 _ rfl
                  have x9 := X.cell 9 _ rfl
                  have x10 := X.cell 10 _ rfl
                  have x11 := X.cell 11 _ rfl
                  go_wp2_with fail
                  refine (qq.out _ S1).mono ?_
                  rintro e wj ⟨rfl, hj⟩
                  replace S1 := S1.later hj
                  replace X := X.later hj
                  replace B := B.trans (hj.mono B.size)
                  clear hj
                  have x0 := X.cell 0 _ rfl
                  have x1 := X.cell 1 _ rfl
                  have x2 := X.cell 2 _ rfl
                  have x3 := X.cell 3 _ rfl
                  have x4 := X.cell 4 _ rfl
                  have x5 := X.cell 5 _ rfl
                  have x6 := X.cell 6 _ rfl
                  have x7 := X.cell 7 _ rfl
                  have x8 := X.cell 8 _ rfl
                  have x9 := X.cell 9 _ rfl
                  have x10 := X.cell 10 _ rfl
                  have x11 := X.cell 11 _ rfl
                  go_wp2_with fail
                  refine (gg.out _ S1).mono ?_
                  rintro e wj ⟨rfl, hj⟩
                  replace B := B.trans (hj.mono B.size)
                  clear hj
                  go_wp2
                  go_ret
                  exact ⟨rfl, B⟩
end Go.Proofs.Ytofjadgnkpcaeaa.eventOthers
