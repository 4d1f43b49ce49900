/- What stands on a device's pages, region by region; 'read' gets ready. -/
import Derived.Test.YtbjkahdlejaheaaWh9
import Derived.Test.YtbjkahdlejaheaaRTakeE
import Derived.Test.YtbjkahdlejaheaaRListC
set_option linter.unusedVariables false
set_option linter.unusedSimpArgs false
set_option maxRecDepth 8000
namespace Go.Proofs.Ytbjkahdlejaheaa
open Go.RowKit Go.Deep Math

/-- The same device, but for what it counts. -/
structure Like (S S' : Dv) : Prop where
  cs : S'.cs = S.cs
  armed : S'.armed = S.armed
  off : S'.off = S.off
  losses : S'.losses = S.losses
theorem Like.refl (S : Dv) : Like S S := ⟨rfl, rfl, rfl, rfl⟩
theorem Like.trans {a b c : Dv} (h : Like a b) (k : Like b c) : Like a c := ⟨k.cs.trans h.cs, k.armed.trans h.armed, k.off.trans h.off, k.losses.trans h.losses⟩
theorem like_read (S : Dv) (k : Int) : Like S (S.readDo k) := by
  unfold Dv.readDo
  split
  · exact Like.refl S
  · split
    · exact Like.refl S
    · exact ⟨rfl, rfl, rfl, rfl⟩
def pgText : Pg → Option (List UInt8)
  | ⟨some (some b)⟩ => some (full b).data.toList
  | _ => none
/-- A page that reads and has form. -/
def fmPg (p : Pg) : Option (List UInt8) := (pgText p).bind fun l => if isForm l = true then some l else none
def fmAt (cs : List Cl) (k : Nat) : Option (List UInt8) := (cs[k]?).bind fun c => fmPg c.now
def forms (cs : List Cl) (base : Nat) : Nat → List (List UInt8)
  | 0 => []
  | k + 1 => forms cs base k ++ (fmAt cs (base + k)).toList
def maxNum (n : Nat) (ls : List (List UInt8)) : Nat := ls.foldl (fun m l => max m (fmNum l)) n
/-- Does a region count? Its number, its items. -/
def cnt (cs : List Cl) (base : Nat) : Option (Nat × List It) :=
  if isWhole (forms cs base 4) = true then (lst (content (forms cs base 4))).map fun xs => (headNum (forms cs base 4), xs) else none
theorem forms_len (cs : List Cl) (base : Nat) : ∀ k, (forms cs base k).length ≤ k
  | 0 => by simp [forms]
  | k + 1 => by
    have := forms_len cs base k
    rw [forms, List.length_append]
    cases fmAt cs (base + k) <;> simp <;> omega
theorem fmNum_lt (l : List UInt8) : fmNum l < 18446744073709551616 := by
  have h1 := up_lt (sl l 8 16)
  have h2 : (sl l 8 16).length ≤ 8 := by unfold sl; rw [List.length_drop, List.length_take]; omega
  exact Nat.lt_of_lt_of_le h1 (Nat.le_trans (Nat.pow_le_pow_right (by decide) h2) (by decide))
theorem maxNum_snoc (n : Nat) (ls : List (List UInt8)) (l : List UInt8) : maxNum n (ls ++ [l]) = max (maxNum n ls) (fmNum l) := by simp [maxNum]
/-- Where(p, k): what Read answers. -/
theorem read_page {d : Nat} {F : List Nat} {S : Dv} {k : Nat} {c : Cl} (hk : S.cs[k]? = some c) (hoff : S.off = false) :
    ∃ (rv : Nat → Value) (er : Int), (∀ w, DvAt w d F S → Calls Try.prog 37 #[.pointer (some ⟨d, 0, none⟩), .int .i64 (k : Nat)] w fun e w' => e = .returned (.tuple #[rv w.heap.size, .int .i64 er]) ∧ DvAt w' d F (S.readDo (k : Nat)) ∧ Keep F w w' ∧
        (∀ l, pgText c.now = some l → Blk w' (w.heap.size + 1) (bCells l) 5 ∧ l.length = 384)) ∧
      ((er ≠ 0 ∧ (∀ n, rv n = .slice none 0 0) ∧ pgText c.now = none) ∨ (er = 0 ∧ (∀ n, rv n = .slice (some ⟨n + 1, 0, none⟩) 384 384) ∧ ∃ l, pgText c.now = some l)) := by
  rcases hp : c.now with ⟨_ | _ | b⟩
  · refine ⟨fun _ => .slice none 0 0, 5, fun w h => (read_bare hk hoff hp (e0 := 5) rfl (by omega) w h).mono ?_, .inl ⟨by omega, fun _ => rfl, rfl⟩⟩
    rintro e w2 ⟨rfl, h2, k2⟩
    exact ⟨rfl, h2, k2, fun l hl => by cases hl⟩
  · refine ⟨fun _ => .slice none 0 0, 6, fun w h => (read_bare hk hoff hp (e0 := 6) rfl (by omega) w h).mono ?_, .inl ⟨by omega, fun _ => rfl, rfl⟩⟩
    rintro e w2 ⟨rfl, h2, k2⟩
    exact ⟨rfl, h2, k2, fun l hl => by cases hl⟩
  · obtain ⟨e1, e2⟩ := read_facts hk hoff
    rw [hp] at e1 e2
    refine ⟨fun n => .slice (some ⟨n + 1, 0, none⟩) 384 384, 0, fun w h => (read_at d F S k w h).mono ?_, .inr ⟨rfl, fun _ => rfl, _, rfl⟩⟩
    rintro r w1 ⟨v, rfl, hr, hd1, kp1⟩
    rw [e1, e2] at hr
    rw [e1]
    rcases hr with ⟨h0, _⟩ | ⟨_, hsz, g, rfl, rfl, hb⟩
    · exact absurd rfl h0
    · refine ⟨rfl, hd1, kp1, fun l hl => ?_⟩
      cases hl
      exact ⟨hb, by rw [Array.length_toList]; exact hsz⟩
end Go.Proofs.Ytbjkahdlejaheaa
