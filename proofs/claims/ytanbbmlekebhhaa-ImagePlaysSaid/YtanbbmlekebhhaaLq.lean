/- The device's other calls, as a law makes them: Arm, Crash, On, Write, Erase, Read. -/
import Derived.Test.YtanbbmlekebhhaaLp
set_option linter.unusedVariables false
set_option linter.unusedSimpArgs false
set_option maxRecDepth 8000
namespace Go.Proofs.Ytanbbmlekebhhaa
open Go.RowKit Go.Deep Math

set_option maxHeartbeats 400000 in
theorem arm_any (d p : Nat) (pd : List Value) (wa : Option Addr) (wc : Nat) (S : Dv) (w : World) (h : DvIn w d p pd wa wc S) (k : Int) (hk : k ≤ 9223372036854775807) :
    Calls Try.prog 21 #[.pointer (some ⟨d, 0, none⟩), .int .i64 k] w fun e w' => e = .returned (.tuple #[]) ∧ DvIn w' d p pd wa wc (S.arm k) ∧ Keep [d] w w' := by
  have c2 := h.dev.cell (i := 2) rfl
  have f2 := h.dev.frozen 2
  have H : Hid (DvIn w d p pd wa wc S) := h
  have G : Hid _ := Dv.arm_good h.good k hk
  clear h
  obtain ⟨cs, armed, off, losses, wr, fl, rd, cr⟩ := S
  simp only at c2
  obtain ⟨q, hq⟩ : ∃ q : Int, q = max k 0 := ⟨_, rfl⟩
  have e : Hid ((k.toNat : Int) = q) := by show (k.toNat : Int) = q; omega
  have HQ := hide hq
  go_enter Try.func21, Try.ntmps21
  clear hq
  go_wp2
  go_end0
  rw [← HQ.out]
  have K : Keep [d] w (w.setCell ⟨d, 2, none⟩ (.int .i64 q)) := (Keep.refl [d] w).setCell (.inl (by simp)) _
  refine ⟨rfl, H.out.turn K ?_ rfl G.out, K⟩
  have := H.out.dev.set 2 (.int .i64 q)
  simp only [Dv.arm, dvCells, e.out]
  exact this
theorem arm_lw {w0 w : World} {d : Nat} {F : List Nat} {S : Dv} (L : Lw w0 w d F S) (k : Int) (hk : k ≤ 9223372036854775807) :
    Calls Try.prog 21 #[.pointer (some ⟨d, 0, none⟩), .int .i64 k] w fun e w' => e = .returned (.tuple #[]) ∧ Lw w0 w' d F (S.arm k) := by
  obtain ⟨p, pd, wa, wc, hF, h⟩ := L.dev
  refine (arm_any d p pd wa wc S w h k hk).mono ?_
  rintro e w' ⟨rfl, h1, k1⟩
  refine ⟨rfl, L.keep ⟨p, pd, wa, wc, hF, h1⟩ (k1.mono (fun q hq => .inl ?_))⟩
  simp only [List.mem_singleton] at hq
  rw [hF, hq]
  simp [foot]
theorem BS.slice {w : World} {a : Option Addr} {n cap : Nat} {l : List UInt8} (h : BS w a n cap l) : ∃ b, BSlice w a l b ∧ (l ≠ [] → ∃ off, a = some ⟨b, off, none⟩) := by
  by_cases h0 : l = []
  · exact ⟨0, .inl h0, fun h => absurd h0 h⟩
  · have hl := h.len
    have hp : 0 < n := by have := List.length_pos_iff.2 h0; omega
    obtain ⟨b, off, rfl, hb, _⟩ := h.cell 0 hp
    refine ⟨b, .inr ⟨hb, off, rfl, fun j hj => ?_⟩, fun _ => ⟨off, rfl⟩⟩
    obtain ⟨b', off', ha, _, hc⟩ := h.cell j (by omega)
    simp only [Option.some.injEq, Addr.mk.injEq, and_true] at ha
    obtain ⟨rfl, rfl⟩ := ha
    rw [hc]
    simp [List.getD_eq_getElem?_getD, List.getElem?_eq_getElem hj]
theorem crash_lw {w0 w : World} {d : Nat} {F : List Nat} {S : Dv} (L : Lw w0 w d F S) (a : Option Addr) (n cap : Nat) (l : List UInt8) (hn63 : n ≤ 9223372036854775807) (h : BS w a n cap l) (hF : ∀ x, a = some x → x.block ∉ F) :
    Calls Try.prog 22 #[.pointer (some ⟨d, 0, none⟩), .slice a n cap] w fun e w' => e = .returned (.tuple #[]) ∧ ∃ F', Lw w0 w' d F' (S.crash l) := by
  obtain ⟨b, hb, hx⟩ := h.slice
  refine (crash_at d F S a n cap b l h.len hn63 w hb (fun h0 => by obtain ⟨off, ha⟩ := hx h0; exact hF _ ha) L.dev).mono ?_
  rintro e w' ⟨rfl, F', h1, h2⟩
  exact ⟨rfl, F', L.move h1 h2⟩
theorem on_lw {w0 w : World} {d : Nat} {F : List Nat} {S : Dv} (L : Lw w0 w d F S) :
    Calls Try.prog 23 #[.pointer (some ⟨d, 0, none⟩)] w fun e w' => e = .returned (.tuple #[]) ∧ ∃ F', Lw w0 w' d F' S.on := by
  refine (on_at d F S w L.dev).mono ?_
  rintro e w' ⟨rfl, F', h1, h2⟩
  exact ⟨rfl, F', L.move h1 h2⟩
theorem write_lw {w0 w : World} {d : Nat} {F : List Nat} {S : Dv} (L : Lw w0 w d F S) (k : Nat) (g n cap : Nat) (l : List UInt8) (h : BS w (some ⟨g, 0, none⟩) n cap l) (hg : g ∉ F) :
    Calls Try.prog 26 #[.pointer (some ⟨d, 0, none⟩), .int .i64 (k : Int), .slice (some ⟨g, 0, none⟩) n cap] w fun e w' => e = .returned (.int .i64 (S.writeErr (k : Int) ⟨l.toArray⟩)) ∧ ∃ F', Lw w0 w' d F' (S.writeDo (k : Int) ⟨l.toArray⟩) := by
  obtain ⟨b, hb, hx⟩ := h.slice
  refine (write_at d F S (k : Int) (some ⟨g, 0, none⟩) n cap b l h.len w hb (fun h => by cases h) (fun h0 => by obtain ⟨off, ha⟩ := hx h0; cases ha; exact hg) L.dev).mono ?_
  rintro e w' ⟨rfl, F', h1, h2⟩
  exact ⟨rfl, F', L.move h1 h2⟩
set_option maxHeartbeats 400000 in
theorem erase_lw {w0 w : World} {d : Nat} {F : List Nat} {S : Dv} (L : Lw w0 w d F S) (k : Nat) :
    Calls Try.prog 25 #[.pointer (some ⟨d, 0, none⟩), .int .i64 (k : Int)] w fun e w' => e = .returned (.int .i64 (S.putErr (k : Int))) ∧ ∃ F', Lw w0 w' d F' (S.putDo (k : Int) .blank) := by
  have cp := hide (put_at d F S (k : Int) .blank (by show (0 : Nat) ≤ 384; omega) none 0 0 0 [] rfl rfl w (.inl rfl) (fun _ => rfl) (fun h => absurd rfl h) L.dev)
  have ek : ((Pg.blank.kind : Nat) : Int) = 0 := rfl
  rw [ek] at cp
  have HL := hide L
  clear L ek
  go_enter Try.func25, Try.ntmps25
  go_wp2_with (go_at_call 52; refine cp.out.mono ?_; rintro e w' ⟨rfl, F', h1, h2⟩; have H1 := hide h1; have H2 := hide h2; clear h1 h2)
  go_ret
  exact ⟨rfl, F', HL.out.move H1.out H2.out⟩
/-- Read of a page that stands: what is read is the law's own. -/
theorem read_lw {w0 w : World} {d : Nat} {F : List Nat} {S : Dv} (L : Lw w0 w d F S) (k : Nat) (b : ByteArray) (ho : S.off = false) (hp : S.pg k = some (.whole b)) :
    Calls Try.prog 24 #[.pointer (some ⟨d, 0, none⟩), .int .i64 (k : Int)] w fun e w' => ∃ g, e = .returned (.tuple #[.slice (some ⟨g, 0, none⟩) 384 384, .int .i64 0]) ∧ Blk w' g (bCells (full b).data.toList) 5 ∧ (full b).data.toList.length = 384 ∧ g ∉ F ∧ w0.heap.size ≤ g ∧ ∃ S', Like S S' ∧ Lw w0 w' d F S' := by
  obtain ⟨c, h1, h2⟩ := Dv.pg_some hp
  obtain ⟨r1, r2⟩ := read_facts h1 ho
  have cr := read_at d F S (k : Int) w L.dev
  rw [r1, r2, h2, show (Pg.whole b).err = 0 from rfl, show (Pg.whole b).read = full b from rfl] at cr
  refine cr.mono ?_
  rintro e w1 ⟨v, rfl, hr, h3, k3⟩
  rcases hr with ⟨h, -⟩ | ⟨-, hs, g, hg, rfl, hb⟩
  · exact absurd rfl h
  have hgn : w.heap.size ≤ g := by omega
  exact ⟨g, rfl, hb, by rw [Array.length_toList]; exact hs, L.dev.new g hgn, Nat.le_trans L.bel.size hgn, _, like_read S _, L.keep h3 k3⟩
/-- A power loss changes nothing of what stands still. -/
theorem crash_still {S : Dv} {ps : List UInt8} (h : ∀ x ∈ S.cs, x.last = none) : (S.crash ps).cs = S.cs := settle_still S.cs ps h
theorem on_still {S : Dv} (h : ∀ x ∈ S.cs, x.last = none) : S.on.cs = S.cs := settle_still S.cs [] h
theorem Stands.again {S S' : Dv} {f : Nat} {c : List UInt8} (h : Stands S f c) (hc : S'.cs = S.cs) (ho : S'.off = false) : Stands S' f c :=
  ⟨ho, by rw [hc]; exact h.in_, by rw [hc]; exact h.few, fun j hj => by have := h.pgs j hj; unfold Dv.pg at *; rw [hc]; exact this⟩
end Go.Proofs.Ytanbbmlekebhhaa
