/- The device's other calls, as a law makes them: Arm, Crash, On, Write, Erase, Read. -/
import Derived.Test.YtogloojbmllmeabLp
set_option linter.unusedVariables false
set_option linter.unusedSimpArgs false
set_option maxRecDepth 8000
namespace Go.Proofs.Ytogloojbmllmeab
open Go.RowKit Go.Deep Math

theorem BS.slice {w : World} {a : Option Addr} {n cap : Nat} {l : List UInt8} (h : BS w a n cap l) : ∃ b, BSlice w a l b ∧ (l ≠ [] → ∃ off, a = some ⟨b, off, none⟩) := by
  by_cases h0 : l = []
  · exact ⟨0, .inl h0, fun h => absurd h0 h⟩
  · have hl := h.len
    have hp : 0 < n := by have := List.length_pos_iff.2 h0; omega
    obtain ⟨b, off, rfl, hb, _⟩ := h.cell 0 hp
    refine ⟨b, .inr ⟨hb, off, rfl, fun j hj => ?_⟩, fun _ => ⟨off, rfl⟩⟩
    obtain ⟨b', off', ha, _, hc⟩ := h.cell j (by omega)
    simp only [Option.some.injEq, Addr.mk.injEq, and_true] at ha
    obtain ⟨rfl, rfl⟩ := ha
    rw [hc]
    simp [List.getD_eq_getElem?_getD, List.getElem?_eq_getElem hj]
theorem write_lw {w0 w : World} {d : Nat} {F : List Nat} {S : Dv} (L : Lw w0 w d F S) (k : Nat) (g n cap : Nat) (l : List UInt8) (h : BS w (some ⟨g, 0, none⟩) n cap l) (hg : g ∉ F) :
    Calls Try.prog 8 #[.pointer (some ⟨d, 0, none⟩), .int .i64 (k : Int), .slice (some ⟨g, 0, none⟩) n cap] w fun e w' => e = .returned (.int .i64 (S.writeErr (k : Int) ⟨l.toArray⟩)) ∧ ∃ F', Lw w0 w' d F' (S.writeDo (k : Int) ⟨l.toArray⟩) := by
  obtain ⟨b, hb, hx⟩ := h.slice
  refine (write_at d F S (k : Int) (some ⟨g, 0, none⟩) n cap b l h.len w hb (fun h => by cases h) (fun h0 => by obtain ⟨off, ha⟩ := hx h0; cases ha; exact hg) L.dev).mono ?_
  rintro e w' ⟨rfl, F', h1, h2⟩
  exact ⟨rfl, F', L.move h1 h2⟩
/-- Read of a page that stands: what is read is the law's own. -/
theorem read_lw {w0 w : World} {d : Nat} {F : List Nat} {S : Dv} (L : Lw w0 w d F S) (k : Nat) (b : ByteArray) (ho : S.off = false) (hp : S.pg k = some (.whole b)) :
    Calls Try.prog 7 #[.pointer (some ⟨d, 0, none⟩), .int .i64 (k : Int)] w fun e w' => ∃ g, e = .returned (.tuple #[.slice (some ⟨g, 0, none⟩) 384 384, .int .i64 0]) ∧ Blk w' g (bCells (full b).data.toList) 5 ∧ (full b).data.toList.length = 384 ∧ g ∉ F ∧ w0.heap.size ≤ g ∧ ∃ S', Like S S' ∧ Lw w0 w' d F S' := by
  obtain ⟨c, h1, h2⟩ := Dv.pg_some hp
  obtain ⟨r1, r2⟩ := read_facts h1 ho
  have cr := read_at d F S (k : Int) w L.dev
  rw [r1, r2, h2, show (Pg.whole b).err = 0 from rfl, show (Pg.whole b).read = full b from rfl] at cr
  refine cr.mono ?_
  rintro e w1 ⟨v, rfl, hr, h3, k3⟩
  rcases hr with ⟨h, -⟩ | ⟨-, hs, g, hg, rfl, hb⟩
  · exact absurd rfl h
  have hgn : w.heap.size ≤ g := by omega
  exact ⟨g, rfl, hb, by rw [Array.length_toList]; exact hs, L.dev.new g hgn, Nat.le_trans L.bel.size hgn, _, like_read S _, L.keep h3 k3⟩
/-- A power loss changes nothing of what stands still. -/
theorem crash_still {S : Dv} {ps : List UInt8} (h : ∀ x ∈ S.cs, x.last = none) : (S.crash ps).cs = S.cs := settle_still S.cs ps h
theorem on_still {S : Dv} (h : ∀ x ∈ S.cs, x.last = none) : S.on.cs = S.cs := settle_still S.cs [] h
theorem Stands.again {S S' : Dv} {f : Nat} {c : List UInt8} (h : Stands S f c) (hc : S'.cs = S.cs) (ho : S'.off = false) : Stands S' f c :=
  ⟨ho, by rw [hc]; exact h.in_, by rw [hc]; exact h.few, fun j hj => by have := h.pgs j hj; unfold Dv.pg at *; rw [hc]; exact this⟩
end Go.Proofs.Ytogloojbmllmeab
