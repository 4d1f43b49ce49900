/- Joined texts: RLay, RLayB, RList. -/
import Derived.Test.YtanbbmlekebhhaaRPut
import Derived.Test.YtanbbmlekebhhaaRTakeB
import Derived.Laws.AppendOwn
/- Items in a row; 'allGood', 'fit', 'Lay'. -/
set_option linter.unusedVariables false
set_option linter.unusedSimpArgs false
namespace Go.Proofs.Ytanbbmlekebhhaa
open Go.RowKit Go.Deep Math

/-- An item in five cells of a row. -/
structure OneIt (w : World) (b o : Nat) (x : It) : Prop where
  c0 : w.cell? ⟨b, o, none⟩ = some (.string (txt x.key))
  c1 : w.cell? ⟨b, o + 1, none⟩ = some (.string (txt x.value))
  c2 : w.cell? ⟨b, o + 2, none⟩ = some (.int .u32 x.flags)
  c3 : w.cell? ⟨b, o + 3, none⟩ = some (.int .i64 x.exp)
  c4 : w.cell? ⟨b, o + 4, none⟩ = some (.int .u64 x.ver)
theorem OneIt.below {w w' : World} {b o : Nat} {x : It} {B : Nat} (h : OneIt w b o x) (k : Below B w w') (hb : b < B) : OneIt w' b o x :=
  ⟨(k.cell (p := ⟨b, o, none⟩) hb).trans h.c0, (k.cell (p := ⟨b, o + 1, none⟩) hb).trans h.c1, (k.cell (p := ⟨b, o + 2, none⟩) hb).trans h.c2, (k.cell (p := ⟨b, o + 3, none⟩) hb).trans h.c3, (k.cell (p := ⟨b, o + 4, none⟩) hb).trans h.c4⟩
/-- A slice of items. -/
structure ItsAt (w : World) (a : Option Addr) (len : Nat) (xs : List It) : Prop where
  len : len = xs.length
  fits : ∀ x ∈ xs, x.fits ∧ x.key.length ≤ 140737488351232 ∧ x.value.length ≤ 140737488351232
  cell : ∀ i x, xs[i]? = some x → ∃ b o, a = some ⟨b, o, none⟩ ∧ b < w.heap.size ∧ OneIt w b (o + i * 5) x
theorem ItsAt.below {w w' : World} {a : Option Addr} {len : Nat} {xs : List It} (h : ItsAt w a len xs) (k : Below w.heap.size w w') : ItsAt w' a len xs :=
  ⟨h.len, h.fits, fun i x hx => by
    obtain ⟨b, o, ha, hb, hc⟩ := h.cell i x hx
    exact ⟨b, o, ha, Nat.lt_of_lt_of_le hb k.size, hc.below k hb⟩⟩

def total : List It → Nat
  | [] => 0
  | x :: r => x.size + total r
theorem total_append : ∀ a b : List It, total (a ++ b) = total a + total b
  | [], _ => by simp [total]
  | x :: r, b => by simp [total, total_append r b]; omega
def encs : List It → List UInt8
  | [] => []
  | x :: r => x.enc ++ encs r
theorem encs_append : ∀ a b : List It, encs (a ++ b) = encs a ++ encs b
  | [], _ => rfl
  | x :: r, b => by simp [encs, encs_append r b]
theorem encs_length : ∀ xs, (encs xs).length = total xs
  | [] => rfl
  | x :: r => by simp [encs, total, x.enc_length, encs_length r]

theorem all_take_succ (xs : List It) (i : Nat) (x : It) (h : xs[i]? = some x) : (xs.take (i + 1)).all It.good = ((xs.take i).all It.good && x.good) := by
  rw [List.take_add_one, h]; simp
theorem all_false (xs : List It) (i : Nat) (x : It) (h : xs[i]? = some x) (hg : x.good = false) : xs.all It.good = false := by
  rw [List.all_eq_false]
  exact ⟨x, List.mem_of_getElem? h, by simp [hg]⟩
theorem total_take_succ (xs : List It) (i : Nat) (x : It) (h : xs[i]? = some x) : total (xs.take (i + 1)) = total (xs.take i) + x.size := by
  rw [List.take_add_one, h, total_append]; simp [total]
theorem total_take_le (xs : List It) (i : Nat) : total (xs.take i) ≤ total xs := by
  have := congrArg total (List.take_append_drop i xs)
  rw [total_append] at this
  omega

end Go.Proofs.Ytanbbmlekebhhaa

/- 'Lay'. -/
set_option linter.unusedVariables false
set_option linter.unusedSimpArgs false
namespace Go.Proofs.Ytanbbmlekebhhaa
open Go.RowKit Go.Deep Math

def layErr (e : Int) : Value := .tuple #[.slice none 0 0, .int .i64 e]

end Go.Proofs.Ytanbbmlekebhhaa

/- 'List'. -/
set_option linter.unusedVariables false
set_option linter.unusedSimpArgs false
namespace Go.Proofs.Ytanbbmlekebhhaa
open Go.RowKit Go.Deep Math

theorem It.size_pos (x : It) : 0 < x.size := by unfold It.size; omega
/-- What List answers of a list of bytes. -/
def lstF : Nat → List UInt8 → Option (List It)
  | 0, _ => some []
  | f + 1, b => match (take b).v with
    | none => some []
    | some none => none
    | some (some (x, n)) => (lstF f (b.drop n)).map (x :: ·)
def lst (b : List UInt8) : Option (List It) := lstF (b.length + 1) b
theorem lstF_more : ∀ (f g : Nat) (b : List UInt8), b.length < f → b.length < g → lstF f b = lstF g b
  | 0, _, _, h, _ => absurd h (by omega)
  | _, 0, _, _, h => absurd h (by omega)
  | f + 1, g + 1, b, hf, hg => by
    unfold lstF
    cases hv : (take b).v with
    | none => rfl
    | some o =>
      cases o with
      | none => rfl
      | some p =>
        obtain ⟨x, n⟩ := p
        have ht : take b = .ok x n := by
          cases hb : take b with
          | mk v => rw [hb] at hv; simp only at hv; rw [hv]
        obtain ⟨_, _, h3, h4, _⟩ := take_ok ht
        have := x.size_pos
        have hd : (b.drop n).length < b.length := by rw [List.length_drop]; omega
        simp only
        rw [lstF_more f g (b.drop n) (by omega) (by omega)]
theorem lst_none {b : List UInt8} (h : take b = .none) : lst b = some [] := by
  unfold lst lstF; rw [h]
theorem lst_bad {b : List UInt8} (h : take b = .bad) : lst b = none := by
  unfold lst lstF; rw [h]
theorem lst_ok {b : List UInt8} {x : It} {n : Nat} (h : take b = .ok x n) : lst b = (lst (b.drop n)).map (x :: ·) := by
  obtain ⟨_, _, h3, h4, _⟩ := take_ok h
  have := x.size_pos
  have hd : (b.drop n).length < b.length := by rw [List.length_drop]; omega
  have e : lst b = (lstF b.length (b.drop n)).map (x :: ·) := by
    show lstF (b.length + 1) b = _
    rw [lstF, h]
  rw [e, lstF_more b.length ((b.drop n).length + 1) (b.drop n) (by omega) (by omega)]
  rfl
/-- Records one behind the other, with noughts behind. -/
theorem lst_encs : ∀ (xs : List It) (z : List UInt8), (∀ x ∈ xs, x.fits ∧ x.good = true) → take z = .none → lst (encs xs ++ z) = some xs
  | [], z, _, hz => lst_none hz
  | x :: r, z, h, hz => by
    have hx := h x (by simp)
    rw [encs, List.append_assoc, lst_ok (take_rec x hx.1 hx.2 _), List.drop_left' x.enc_length, lst_encs r z (fun y hy => h y (by simp [hy])) hz]
    rfl

def itCells (x : It) : List Value := [.string (txt x.key), .string (txt x.value), .int .u32 x.flags, .int .i64 x.exp, .int .u64 x.ver]
def itsCells (xs : List It) : List Value := xs.flatMap itCells

theorem rown_below {w w' : World} {base : Nat} {e : TypeId} {size : Nat} {v : Value} {n : Nat} {xs : List Value} (h : w.ownsRow base e size v n xs) (b : Below w.heap.size w w') : w'.ownsRow base e size v n xs := by
  refine ⟨h.1, ?_⟩
  rcases h.2 with h2 | ⟨g, cap, cur, hv, hb, hc, h3⟩
  · exact .inl h2
  · exact .inr ⟨g, cap, cur, hv, hb, (b.block g (Array.getElem?_eq_some_iff.1 hc).1).trans hc, h3⟩
theorem itsCells_length (xs : List It) : (itsCells xs).length = xs.length * 5 := flat_length itCells 5 (fun _ => rfl) xs
theorem itsCells_snoc (xs : List It) (x : It) : itsCells xs ++ itCells x = itsCells (xs ++ [x]) := by simp [itsCells]

def TakeIs : Prop := ∀ (a : Option Addr) (n cap : Nat) (l : List UInt8) (hcap : cap ≤ 9223372036854775807) (w : World) (h : BS w a n cap l),
    Calls Try.prog 58 #[.slice a n cap] w fun e w' => e = .returned (tkV (take l)) ∧ Below w.heap.size w w'

theorem info30 : (Try.prog.info? 32).map (fun i => (i.zero, i.size, i.bytes)) = some (some (.agg #[.string ⟨#[]⟩, .string ⟨#[]⟩, .int .u32 0, .int .i64 0, .int .u64 0]), 5, 56) := by kernel_rfl

/-- What List answers. -/
def ListPost (w : World) (o : Option (List It)) (e : Ending) (w' : World) : Prop := Below w.heap.size w w' ∧ match o with
  | none => e = .returned (.tuple #[.slice none 0 0, .int .i64 3])
  | some xs => ∃ v, e = .returned (.tuple #[v, .int .i64 0]) ∧ w'.ownsRow w.heap.size 32 5 v xs.length (itsCells xs)

end Go.Proofs.Ytanbbmlekebhhaa

