/-
  EventNew holds for every input.
-/
import Derived.WalkKit
import Derived.Below
import Derived.Test.YtofjadgnkpcaeaaLaw
import Derived.Test.YtofjadgnkpcaeaaOpen
import Derived.Lib.AppendZeros
import Derived.Deep.RegionHeld3
namespace Go.Proofs.Ytofjadgnkpcaeaa.eventNew
open Go.RowKit Go.Deep Go.Shelf
set_option linter.unusedVariables false
set_option linter.unusedSimpArgs false

set_option maxRecDepth 8000 in
set_option maxHeartbeats 40000000 in
theorem walk (a0 : Option Addr) (len0 cap0 : Nat) (z0 : List ByteArray) (w : World) (hw0 : StrsAt w a0 len0 z0) :
    Calls Try.prog 6 #[.slice a0 len0 cap0] w fun e w' => e = .returned (.bool true) ∧ Below w.heap.size w w' := by
  have hl : Hid (len0 = z0.length) := hw0.len
  have ca := awake_any w
  go_enter Try.func6, Try.ntmps6
  go_wp2_with fail
  refine ca.mono ?_
  rintro e w1 ⟨rfl, b1⟩
  clear ca
  have h1 := hw0.later b1
  by_cases c : 100 < len0
  · go_wp2
    go_ret
    exact ⟨rfl, b1⟩
  · obtain ⟨g, cp, w2, hr, ho, b2⟩ := append_fresh w1 a0 len0 cap0 z0 h1 (by omega)
    have HR := hide hr
    clear h1 hr
    have HC : Hid (len0 ≤ 100) := Nat.not_lt.1 c
    have cx : ¬ ((100 : Int) < (len0 : Int)) := by omega
    clear c
    go_wp2_with (at_builtin; (refine Lib.wpList_append_run _ rfl _ _ _ _ rfl _ _ rfl rfl _ _ HR.out ?_))
    have B2 : Below w.heap.size w w2 := b1.trans (b2.mono b1.size)
    have S2 : StrsAt w2 (some ⟨g, 0, none⟩) len0 z0 := own_strs ho hw0.fits
    have KK := (Below.refl w2.heap.size w2).alloc (Nat.le_refl _) (.cells #[.string ⟨#[103, 101, 116]⟩, .string ⟨#[]⟩, .slice (some ⟨g, 0, none⟩) len0 cp, .string ⟨#[]⟩, .int .u32 0, .int .i64 0, .int .u64 0, .int .u64 0, .bool false, .bool false, .bool false, .bool false] 28)
    have SK := S2.later KK
    have hK := (hw0.later B2).later KK
    have BK : Below w.heap.size w _ := B2.trans (KK.mono B2.size)
    have cK : (w2.alloc (.cells #[.string ⟨#[103, 101, 116]⟩, .string ⟨#[]⟩, .slice (some ⟨g, 0, none⟩) len0 cp, .string ⟨#[]⟩, .int .u32 0, .int .i64 0, .int .u64 0, .int .u64 0, .bool false, .bool false, .bool false, .bool false] 28)).cell? ⟨w2.heap.size, 2, none⟩ = some (.slice (some ⟨g, 0, none⟩) len0 cp) := cell_new w2 _ 28 2 _ rfl
    have mK : w2.heap.size < (w2.alloc (.cells #[.string ⟨#[103, 101, 116]⟩, .string ⟨#[]⟩, .slice (some ⟨g, 0, none⟩) len0 cp, .string ⟨#[]⟩, .int .u32 0, .int .i64 0, .int .u64 0, .int .u64 0, .bool false, .bool false, .bool false, .bool false] 28)).heap.size := by
      show _ < (w2.heap.push _).size
      rw [Array.size_push]
      omega
    have ck := keys_is ⟨⟨#[103, 101, 116]⟩, ⟨#[]⟩, z0, ⟨#[]⟩, 0, 0, 0, 0, false, false, false, false⟩ z0 (by kernel_rfl) (some ⟨g, 0, none⟩) len0 cp _ SK (by have := HC.out; omega)
    rw [← hl.out] at ck
    generalize w2.alloc (.cells #[.string ⟨#[103, 101, 116]⟩, .string ⟨#[]⟩, .slice (some ⟨g, 0, none⟩) len0 cp, .string ⟨#[]⟩, .int .u32 0, .int .i64 0, .int .u64 0, .int .u64 0, .bool false, .bool false, .bool false, .bool false] 28) = wK at *
    generalize w2.heap.size = m at *
    refine ck.mono ?_
    rintro e w3 ⟨a', c', rfl, ho3, hj⟩
    clear ck KK S2 HR ho b2 B2 b1
    go_wp2
    go_loopw [5] (fun i wr => ∃ (k : Nat) (ys : List ByteArray), i = .int .i64 k ∧ k ≤ len0 ∧ Below wK.heap.size wK wr ∧ wr.ownsRow wK.heap.size 9 1 (.slice a' len0 c') len0 (strC ys)) (fun i _ => len0 - vi i)
    case atStart => exact ⟨0, z0, rfl, by omega, hj, ho3⟩
    case round =>
      obtain ⟨k, ys, rfl, hk, hb, O⟩ := hrel
      clear hj ho3
      by_cases hlt : k < len0
      · obtain ⟨g', cp', hv⟩ := Joins.ownsRow_form O (by omega)
        simp only [Value.slice.injEq] at hv
        obtain ⟨rfl, _, rfl⟩ := hv
        have hc : ∃ v, wr.cell? ⟨g', k, none⟩ = some v := by
          rw [O.cellAt k (by omega)]
          have := O.1
          exact ⟨_, List.getElem?_eq_getElem (by omega)⟩
        obtain ⟨v, hc⟩ := hc
        have hfz := O.frozenAt k
        obtain ⟨O4, G4⟩ := O.stored k (.string ⟨#[111, 116, 104, 101, 114]⟩)
        have e4 : (strC ys).set k (.string ⟨#[111, 116, 104, 101, 114]⟩) = strC (ys.set k ⟨#[111, 116, 104, 101, 114]⟩) := by simp [strC, List.map_set]
        rw [e4] at O4
        have B4 := hb.grown G4 hb.size (fun q hq => by cases hq; exact (O.lt _ rfl).1)
        clear e4 G4
        go_wp2
        go_roundw
        case rel => exact ⟨k + 1, _, by go_num, by omega, B4, O4⟩
        case measure => simp [vi]; omega
      · have e : len0 = k := by omega
        subst e
        clear O
        go_wp2
        go_loopw [6] (fun i wx => ∃ (k : Nat), i = .int .i64 k ∧ k ≤ len0 ∧ Below wK.heap.size wK wx) (fun i _ => len0 - vi i)
        case atStart => exact ⟨0, rfl, by omega, hb⟩
        case round =>
          obtain ⟨j, rfl, hj, hx⟩ := hrel
          by_cases hlt2 : j < len0
          · obtain ⟨b, o, x, rfl, hxk, _, _, hc⟩ := (hK.later hx).key j hlt2
            obtain ⟨b', o', he', _, hc'⟩ := (SK.later hx).cell j x hxk
            cases he'
            rw [Nat.zero_add] at hc'
            have cX := (World.cell?_of_block (hx.block m mK)).trans cK
            clear hxk hb
            go_wp2
            go_region_held3 (fun W => W.cell? ⟨m, 2, none⟩ = some (.slice (some ⟨g, 0, none⟩) len0 cp) ∧ W.cell? ⟨g, j, none⟩ = some (.string x) ∧ W.cell? ⟨b, o + j, none⟩ = some (.string x))
              (go_keep)
              (fail)
            all_goals go_wp2
            all_goals go_roundw
            case rel => exact ⟨j + 1, by go_num, by omega, hx.drew⟩
            case measure => simp [vi]; omega
          · have e : len0 = j := by omega
            subst e
            go_wp2
            go_ret
            exact ⟨rfl, BK.trans (hx.mono BK.size)⟩
end Go.Proofs.Ytofjadgnkpcaeaa.eventNew
