/-
  The document's own Name and Good of a command.
-/
import Derived.Test.YtofjadgnkpcaeaaRef
import Derived.Test.YtofjadgnkpcaeaaLaw
import Derived.Test.YtofjadgnkpcaeaaR11
namespace Go.Proofs.Ytofjadgnkpcaeaa
open Go.Shelf Go.RowKit Go.Deep
set_option linter.unusedVariables false
set_option linter.unusedSimpArgs false
set_option maxRecDepth 1000000

theorem verb_any (v : ByteArray) (w : World) : Calls Try.prog 36 #[.string v] w fun e w' => e = .returned (.bool (verbB v)) ∧ w' = w := by
  cases g0 : v.toList == [115, 101, 116] with
  | true =>
    have E : Hid (verbB v = true) := show verbB v = true by simp only [verbB, g0]; rfl
    go_enter Try.func36, Try.ntmps36
    go_wp2
    go_ret
    exact ⟨retb (by rw [E.out]), rfl⟩
  | false =>
    cases g1 : v.toList == [97, 100, 100] with
    | true =>
      have E : Hid (verbB v = true) := show verbB v = true by simp only [verbB, g0, g1]; rfl
      go_enter Try.func36, Try.ntmps36
      go_wp2
      go_ret
      exact ⟨retb (by rw [E.out]), rfl⟩
    | false =>
      cases g2 : v.toList == [114, 101, 112, 108, 97, 99, 101] with
      | true =>
        have E : Hid (verbB v = true) := show verbB v = true by simp only [verbB, g0, g1, g2]; rfl
        go_enter Try.func36, Try.ntmps36
        go_wp2
        go_ret
        exact ⟨retb (by rw [E.out]), rfl⟩
      | false =>
        cases g3 : v.toList == [97, 112, 112, 101, 110, 100] with
        | true =>
          have E : Hid (verbB v = true) := show verbB v = true by simp only [verbB, g0, g1, g2, g3]; rfl
          go_enter Try.func36, Try.ntmps36
          go_wp2
          go_ret
          exact ⟨retb (by rw [E.out]), rfl⟩
        | false =>
          cases g4 : v.toList == [112, 114, 101, 112, 101, 110, 100] with
          | true =>
            have E : Hid (verbB v = true) := show verbB v = true by simp only [verbB, g0, g1, g2, g3, g4]; rfl
            go_enter Try.func36, Try.ntmps36
            go_wp2
            go_ret
            exact ⟨retb (by rw [E.out]), rfl⟩
          | false =>
            cases g5 : v.toList == [99, 97, 115] with
            | true =>
              have E : Hid (verbB v = true) := show verbB v = true by simp only [verbB, g0, g1, g2, g3, g4, g5]; rfl
              go_enter Try.func36, Try.ntmps36
              go_wp2
              go_ret
              exact ⟨retb (by rw [E.out]), rfl⟩
            | false =>
              have E : Hid (verbB v = false) := show verbB v = false by simp only [verbB, g0, g1, g2, g3, g4, g5]; rfl
              go_enter Try.func36, Try.ntmps36
              go_wp2
              go_ret
              exact ⟨retb (by rw [E.out]), rfl⟩
/-- What the document calls a command. -/
def rnameP (c : Cm) : ByteArray :=
  if (c.what.toList == [103, 101, 116]) = true then gname c.wc c.wt else
  if (c.what.toList == [115, 116, 111, 114, 101]) = true then c.verb else
  if (c.what.toList == [119, 111, 114, 100]) = true then c.verb else
  if (c.what.toList == [97, 114, 105, 116, 104]) = true then aname c.dn else
  if (c.what.toList == [102, 108, 117, 115, 104]) = true then ⟨#[102, 108, 117, 115, 104, 95, 97, 108, 108]⟩ else
  c.what
theorem rname_any (w : World) (a : Option Addr) (n cap : Nat) (c : Cm) (h : StrsAt w a n c.keys) (hn : n ≤ 1000) : Calls Try.prog 16 #[cmV c (.slice a n cap)] w fun e w' => e = .returned (.string (rnameP c)) ∧ Below w.heap.size w w' := by
  have B := (Below.refl w.heap.size w).alloc (Nat.le_refl _) (.cells #[.string c.what, .string c.verb, .slice a n cap, .string c.data, .int .u32 c.fl, .int .i64 c.ex, .int .u64 c.cs, .int .u64 c.y, .bool c.wc, .bool c.wt, .bool c.dn, .bool c.q] 31)
  clear h
  cases h0 : c.what.toList == [103, 101, 116] with
  | true =>
    have e : rnameP c = gname c.wc c.wt := by simp only [rnameP, h0, if_true, if_false, Bool.false_eq_true]
    rw [e]
    clear e
    cases p1 : c.wc <;> cases p2 : c.wt <;> rw [p1, p2] at B <;> (go_enter Try.func16, Try.ntmps16; go_wp2; go_ret; exact ⟨rfl, B⟩)
  | false =>
    cases h1 : c.what.toList == [115, 116, 111, 114, 101] with
    | true =>
      have e : rnameP c = c.verb := by simp only [rnameP, h0, h1, if_true, if_false, Bool.false_eq_true]
      rw [e]
      clear e
      go_enter Try.func16, Try.ntmps16
      go_wp2
      go_ret
      exact ⟨rfl, B⟩
    | false =>
      cases h2 : c.what.toList == [119, 111, 114, 100] with
      | true =>
        have e : rnameP c = c.verb := by simp only [rnameP, h0, h1, h2, if_true, if_false, Bool.false_eq_true]
        rw [e]
        clear e
        go_enter Try.func16, Try.ntmps16
        go_wp2
        go_ret
        exact ⟨rfl, B⟩
      | false =>
        cases h3 : c.what.toList == [97, 114, 105, 116, 104] with
        | true =>
          have e : rnameP c = aname c.dn := by simp only [rnameP, h0, h1, h2, h3, if_true, if_false, Bool.false_eq_true]
          rw [e]
          clear e
          cases p1 : c.dn <;> rw [p1] at B <;> (go_enter Try.func16, Try.ntmps16; go_wp2; go_ret; exact ⟨rfl, B⟩)
        | false =>
          cases h4 : c.what.toList == [102, 108, 117, 115, 104] with
          | true =>
            have e : rnameP c = ⟨#[102, 108, 117, 115, 104, 95, 97, 108, 108]⟩ := by simp only [rnameP, h0, h1, h2, h3, h4, if_true, if_false, Bool.false_eq_true]
            rw [e]
            clear e
            go_enter Try.func16, Try.ntmps16
            go_wp2
            go_ret
            exact ⟨rfl, B⟩
          | false =>
            have e : rnameP c = c.what := by simp only [rnameP, h0, h1, h2, h3, h4, if_true, if_false, Bool.false_eq_true]
            rw [e]
            clear e
            go_enter Try.func16, Try.ntmps16
            go_wp2
            go_ret
            exact ⟨rfl, B⟩
/-- May a command be, by its kind: its keys aside. -/
def rkindP (c : Cm) : Bool :=
  if (c.what.toList == [103, 101, 116]) = true then cntB c.keys.length else
  if (c.what.toList == [115, 116, 111, 114, 101]) = true then storesB c.verb c.data else
  if (c.what.toList == [119, 111, 114, 100]) = true then knownB c.verb else
  if (c.what.toList == [97, 114, 105, 116, 104]) = true then true else
  if (c.what.toList == [116, 111, 117, 99, 104]) = true then true else
  if (c.what.toList == [100, 101, 108, 101, 116, 101]) = true then true else
  if (c.what.toList == [102, 108, 117, 115, 104]) = true then true else
  false
def rgoodP (c : Cm) : Bool := c.keys.all keyB && rkindP c
set_option maxHeartbeats 8000000 in
theorem rgood_any (w : World) (a : Option Addr) (n cap : Nat) (c : Cm) (h : StrsAt w a n c.keys) (hn : n ≤ 1000) (hd : c.data.size ≤ 140737488351232) : Calls Try.prog 15 #[cmV c (.slice a n cap)] w fun e w' => e = .returned (.bool (rgoodP c)) ∧ Below w.heap.size w w' := by
  have B := (Below.refl w.heap.size w).alloc (Nat.le_refl _) (.cells #[.string c.what, .string c.verb, .slice a n cap, .string c.data, .int .u32 c.fl, .int .i64 c.ex, .int .u64 c.cs, .int .u64 c.y, .bool c.wc, .bool c.wt, .bool c.dn, .bool c.q] 31)
  have H := h.later B
  have HL : Hid (n = c.keys.length) := h.len
  go_enter Try.func15, Try.ntmps15
  go_wp2
  go_loopw [3] (fun i wr => ∃ k : Nat, i = .int .i64 k ∧ k ≤ n ∧ wr = w.alloc (.cells #[.string c.what, .string c.verb, .slice a n cap, .string c.data, .int .u32 c.fl, .int .i64 c.ex, .int .u64 c.cs, .int .u64 c.y, .bool c.wc, .bool c.wt, .bool c.dn, .bool c.q] 31) ∧ Hid ((c.keys.drop k).all keyB = c.keys.all keyB)) (fun i _ => n - vi i)
  case atStart => exact ⟨0, rfl, by omega, rfl, rfl⟩
  case round =>
    obtain ⟨k, rfl, hk, rfl, HD⟩ := hrel
    by_cases hlt : k < n
    · obtain ⟨b, o, x, rfl, hx, hs, hbb, hc⟩ := H.key k hlt
      have hd := all_drop hx
      have HX : Hid ((c.keys.drop k).all keyB = (keyB x && (c.keys.drop (k + 1)).all keyB)) := hd
      clear hd hx
      go_wp2_with fail
      refine (refKey_any x _ (by unfold maxLen; omega)).mono ?_
      rintro e w' ⟨rfl, rfl⟩
      cases hq : isKey x.data.toList with
      | true =>
        go_wp2
        go_roundw
        case rel => exact ⟨k + 1, by go_num, by omega, by first | rfl | trivial, by have := HD.out; rw [HX.out, show keyB x = true from hq, Bool.true_and] at this; exact this⟩
        case measure => simp [vi]; omega
      | false =>
        have E : Hid (rgoodP c = false) := by
          show rgoodP c = false
          unfold rgoodP
          rw [← HD.out, HX.out, show keyB x = false from hq]
          rfl
        go_wp2
        go_ret
        exact ⟨retb (by rw [E.out]), B⟩
    · have e : n = k := by omega
      subst e
      have E0 : Hid (rgoodP c = rkindP c) := by
        show rgoodP c = rkindP c
        unfold rgoodP
        rw [← HD.out, List.drop_of_length_le (by rw [← HL.out]; exact Nat.le_refl _)]
        rfl
      clear HD H h
      cases h0 : c.what.toList == [103, 101, 116] with
      | true =>
        have E : Hid (rgoodP c = cntB c.keys.length) := by
          show rgoodP c = cntB c.keys.length
          rw [E0.out]
          simp only [rkindP, h0, if_true, if_false, Bool.false_eq_true]
        clear E0
        rw [← HL.out] at E
        by_cases m1 : 1 ≤ n
        · by_cases m2 : n ≤ 64
          · have F : Hid (cntB n = true) := show cntB n = true by simp [cntB, m1, m2]
            go_wp2
            go_ret
            exact ⟨retb (by rw [E.out, F.out] <;> first | rfl | exact decide_eq_true (by omega)), B⟩
          · have F : Hid (cntB n = false) := show cntB n = false by simp [cntB, m2]
            go_wp2
            go_ret
            exact ⟨retb (by rw [E.out, F.out] <;> first | rfl | exact decide_eq_false (by omega)), B⟩
        · have F : Hid (cntB n = false) := show cntB n = false by simp [cntB, m1]
          go_wp2
          go_ret
          exact ⟨retb (by rw [E.out, F.out] <;> first | rfl | exact decide_eq_false (by omega)), B⟩
      | false =>
        cases h1 : c.what.toList == [115, 116, 111, 114, 101] with
        | true =>
          have E : Hid (rgoodP c = storesB c.verb c.data) := by
            show rgoodP c = storesB c.verb c.data
            rw [E0.out]
            simp only [rkindP, h0, h1, if_true, if_false, Bool.false_eq_true]
          clear E0
          go_wp2_with fail
          refine (verb_any c.verb _).mono ?_
          rintro e w' ⟨rfl, rfl⟩
          cases hv : verbB c.verb with
          | false =>
            have F : Hid (storesB c.verb c.data = false) := show storesB c.verb c.data = false by simp [storesB, hv]
            go_wp2
            go_ret
            exact ⟨retb (by rw [E.out, F.out]), B⟩
          | true =>
            by_cases m1 : c.data.size ≤ 1024
            · have F : Hid (storesB c.verb c.data = true) := show storesB c.verb c.data = true by simp [storesB, hv, m1]
              go_wp2
              go_ret
              exact ⟨retb (by rw [E.out, F.out] <;> first | rfl | exact decide_eq_true (by omega)), B⟩
            · have F : Hid (storesB c.verb c.data = false) := show storesB c.verb c.data = false by simp [storesB, hv, m1]
              go_wp2
              go_ret
              exact ⟨retb (by rw [E.out, F.out] <;> first | rfl | exact decide_eq_false (by omega)), B⟩
        | false =>
          cases h2 : c.what.toList == [119, 111, 114, 100] with
          | true =>
            have E : Hid (rgoodP c = knownB c.verb) := by
              show rgoodP c = knownB c.verb
              rw [E0.out]
              simp only [rkindP, h0, h1, h2, if_true, if_false, Bool.false_eq_true]
            clear E0
            cases g0 : c.verb.toList == [118, 101, 114, 115, 105, 111, 110] with
            | true =>
              have F : Hid (knownB c.verb = true) := show knownB c.verb = true by simp only [knownB, g0]; rfl
              go_wp2
              go_ret
              exact ⟨retb (by rw [E.out, F.out]), B⟩
            | false =>
              cases g1 : c.verb.toList == [113, 117, 105, 116] with
              | true =>
                have F : Hid (knownB c.verb = true) := show knownB c.verb = true by simp only [knownB, g0, g1]; rfl
                go_wp2
                go_ret
                exact ⟨retb (by rw [E.out, F.out]), B⟩
              | false =>
                have F : Hid (knownB c.verb = false) := show knownB c.verb = false by simp only [knownB, g0, g1]; rfl
                go_wp2
                go_ret
                exact ⟨retb (by rw [E.out, F.out]), B⟩
          | false =>
            cases h3 : c.what.toList == [97, 114, 105, 116, 104] with
            | true =>
              have E : Hid (rgoodP c = true) := by
                show rgoodP c = true
                rw [E0.out]
                simp only [rkindP, h0, h1, h2, h3, if_true, if_false, Bool.false_eq_true]
              clear E0
              go_wp2
              go_ret
              exact ⟨retb (by rw [E.out]), B⟩
            | false =>
              cases h4 : c.what.toList == [116, 111, 117, 99, 104] with
              | true =>
                have E : Hid (rgoodP c = true) := by
                  show rgoodP c = true
                  rw [E0.out]
                  simp only [rkindP, h0, h1, h2, h3, h4, if_true, if_false, Bool.false_eq_true]
                clear E0
                go_wp2
                go_ret
                exact ⟨retb (by rw [E.out]), B⟩
              | false =>
                cases h5 : c.what.toList == [100, 101, 108, 101, 116, 101] with
                | true =>
                  have E : Hid (rgoodP c = true) := by
                    show rgoodP c = true
                    rw [E0.out]
                    simp only [rkindP, h0, h1, h2, h3, h4, h5, if_true, if_false, Bool.false_eq_true]
                  clear E0
                  go_wp2
                  go_ret
                  exact ⟨retb (by rw [E.out]), B⟩
                | false =>
                  cases h6 : c.what.toList == [102, 108, 117, 115, 104] with
                  | true =>
                    have E : Hid (rgoodP c = true) := by
                      show rgoodP c = true
                      rw [E0.out]
                      simp only [rkindP, h0, h1, h2, h3, h4, h5, h6, if_true, if_false, Bool.false_eq_true]
                    clear E0
                    go_wp2
                    go_ret
                    exact ⟨retb (by rw [E.out]), B⟩
                  | false =>
                    have E : Hid (rgoodP c = false) := by
                      show rgoodP c = false
                      rw [E0.out]
                      simp only [rkindP, h0, h1, h2, h3, h4, h5, h6, if_true, if_false, Bool.false_eq_true]
                    clear E0
                    go_wp2
                    go_ret
                    exact ⟨retb (by rw [E.out]), B⟩
end Go.Proofs.Ytofjadgnkpcaeaa