/- What the laws of this layer share: the list of calls played on both devices. -/
import Derived.Test.YthnfdgjikbjgoaaBoth
import Derived.Test.YthnfdgjikbjgoaaAlike
set_option linter.unusedVariables false
set_option linter.unusedSimpArgs false
namespace Go.Proofs.Ythnfdgjikbjgoaa
open Go.RowKit Go.Deep

theorem since2 {B : Nat} {w a : World} {F G : List Nat} (h : Since B w a F) (hG : ∀ k ∈ G, B ≤ k) : Since B w a (F ++ G) := ⟨h.1, h.2.1, fun k hk => by rcases List.mem_append.1 hk with h1 | h1; exact h.2.2 k h1; exact hG k h1⟩
theorem act_len (S : Dv) (t : ActI) : (S.act t).cs.length = S.cs.length := by
  have hput : ∀ (p : Int) (g : Pg), (S.putDo p g).cs.length = S.cs.length := fun p g => by
    unfold Dv.putDo
    split
    · rfl
    · split
      · rw [S.used_cs]
      · show (putAt _ _ _).length = _; rw [putAt_length]
  unfold Dv.act
  split
  · unfold Dv.writeDo
    split
    · rfl
    · exact hput _ _
  split
  · exact hput _ _
  split
  · unfold Dv.flushDo
    split
    · rw [S.used_cs]
    · show (List.map _ _).length = _; rw [List.length_map]
  split
  · rfl
  split
  · show (settle _ _).length = _; rw [settle_length]
  · show (settle _ _).length = _; rw [settle_length]
theorem readN_len (S : Dv) (k : Nat) : (S.readN k).cs = S.cs := by obtain ⟨x, hx⟩ := S.readN_rd k; rw [hx]

theorem own_nums {w1 : World} {B m : Nat} {v : Value} {xs : List Value} (h : w1.ownsRow B 3 1 v m xs) (hn : v ≠ .slice none 0 0) : ∃ g cp pad, v = .slice (some ⟨g, 0, none⟩) m cp ∧ B ≤ g ∧ Blk w1 g (xs ++ pad) 3 := by
  rcases h.2 with ⟨h0, _⟩ | ⟨g, cp, cur, hv, hB, hh, _, _, _, ht⟩
  · exact absurd h0 hn
  · refine ⟨g, cp, cur.toList.drop (m * 1), hv, hB, ?_⟩
    unfold Blk
    rw [← ht, List.take_append_drop, Array.toArray_toList]
    exact hh

theorem pair_heap {w w' : World} {d r : Nat} {F G : List Nat} {S T : Dv} (h : Pair w d r F G S T) (e : w'.heap = w.heap) : Pair w' d r F G S T :=
  ⟨h.dev.same (fun _ _ => by rw [e]), h.ref.same (fun _ _ => by rw [e]), fun k hk => by rw [e]; exact h.apart k hk⟩
theorem since_heap {B : Nat} {w a b : World} {F : List Nat} (h : Since B w a F) (e : b.heap = a.heap) (e1 : b.os = a.os) (e2 : b.tape = a.tape) (e3 : b.output = a.output) : Since B w b F :=
  ⟨⟨e1.trans h.1.os, e2.trans h.1.tape, e3.trans h.1.output, by rw [e]; exact h.1.size, fun k hk => by rw [e]; exact h.1.block k hk⟩, by rw [e]; exact h.2.1, h.2.2⟩

/-- What the calls so far have left. -/
def Inv2 (w wr : World) (d r p : Nat) : Prop := ∃ F G S T, Pair wr d r F G S T ∧ S.cs.length = p ∧ Since w.heap.size w wr (F ++ G)

theorem bytes_apart {w : World} {t : ActI} {b o : Nat} (h : OneAct w b o t) {F : List Nat} (hF : ∀ k ∈ F, w.heap.size ≤ k) : t.l ≠ [] → t.bb ∉ F := fun hl hk => by
  have := hF _ hk
  rcases h.bytes with h0 | ⟨h0, _⟩
  · exact hl h0
  · omega

/-- One call of the list, wherever the two stand. -/
theorem inv2_act {w wr : World} {d r p : Nat} {a1 : Option Addr} {len1 : Nat} {z1 : List ActI} (WA : ActsAt w a1 len1 z1) (I : Inv2 w wr d r p) (i : Nat) (hlt : i < len1) :
    ∃ (b o : Nat) (op page : Int) (sa : Option Addr) (sn sc : Nat), a1 = some ⟨b, o, none⟩ ∧ b < wr.heap.size ∧ wr.cell? ⟨b, o + i * 3, none⟩ = some (.int .i64 op) ∧ wr.cell? ⟨b, o + i * 3 + 1, none⟩ = some (.int .i64 page) ∧
      wr.cell? ⟨b, o + i * 3 + 2, none⟩ = some (.slice sa sn sc) ∧
      Calls Try.prog 17 #[.pointer (some ⟨d, 0, none⟩), .pointer (some ⟨r, 0, none⟩), .agg #[.int .i64 op, .int .i64 page, .slice sa sn sc]] wr fun e w' => (∃ v, e = .returned (.bool v)) ∧ Inv2 w w' d r p := by
  obtain ⟨F1, G1, S, T, hP, hSl, hQ⟩ := I
  obtain ⟨t, ht⟩ : ∃ t, z1[i]? = some t := ⟨_, List.getElem?_eq_getElem (by rw [WA.1]; exact hlt)⟩
  rcases WA.2 with h0 | ⟨b, o, ha, hb, hc⟩
  · rw [h0] at ht; simp at ht
  · have A0 := hc i t ht
    have A1 := A0.same (w' := wr) hQ.1.size (fun k hk => hQ.1.block k hk)
    refine ⟨b, o, t.op, t.page, t.a, t.l.length, t.cap, ha, Nat.lt_of_lt_of_le hb hQ.1.size, A1.c0, A1.c1, A1.c2, ?_⟩
    refine (both_any d r F1 G1 S T t wr hP A1.bytes A1.nil A1.small A1.page (bytes_apart A0 (fun k hk => hQ.2.2 k (by simp [hk]))) (bytes_apart A0 (fun k hk => hQ.2.2 k (by simp [hk])))).mono ?_
    rintro e w' ⟨rfl, F', G', p', m'⟩
    exact ⟨⟨_, rfl⟩, F', G', _, _, p', by rw [act_len]; exact hSl, hQ.moves m'⟩

/-- Two devices of the code, apart. -/
structure Two (w : World) (d o : Nat) (F F2 : List Nat) (S T : Dv) : Prop where
  one : DvAt w d F S
  two : DvAt w o F2 T
  apart : Apart w F F2
theorem Two.step1 {w w' : World} {d r : Nat} {F F' G : List Nat} {S S' T : Dv} (h : Two w d r F G S T) (hd : DvAt w' d F' S') (m : Moves F F' w w') : Two w' d r F' G S' T := by
  obtain ⟨a, hs⟩ := m.apart h.apart
  exact ⟨hd, h.two.same hs, a⟩
theorem Two.step2 {w w' : World} {d r : Nat} {F G G' : List Nat} {S T T' : Dv} (h : Two w d r F G S T) (hr : DvAt w' r G' T') (m : Moves G G' w w') : Two w' d r F G' S T' := by
  obtain ⟨a, hs⟩ := m.apart (h.apart.swap h.one.lt)
  exact ⟨h.one.same hs, hr, a.swap (fun k hk => hr.lt k hk)⟩
theorem Two.below {w w' : World} {d r : Nat} {F G : List Nat} {S T : Dv} (h : Two w d r F G S T) (b : Below w.heap.size w w') : Two w' d r F G S T :=
  ⟨h.one.below b, h.two.below b, (h.apart.below b).1⟩
theorem Two.heap {w w' : World} {d r : Nat} {F G : List Nat} {S T : Dv} (h : Two w d r F G S T) (e : w'.heap = w.heap) : Two w' d r F G S T :=
  ⟨h.one.same (fun _ _ => by rw [e]), h.two.same (fun _ _ => by rw [e]), fun k hk => by rw [e]; exact h.apart k hk⟩
/-- A copy, beside what it was made of. -/
theorem Two.made {w w' : World} {d o : Nat} {F F2 : List Nat} {S : Dv} (h : DvAt w d F S) (h2 : DvAt w' o F2 S) (f : ∀ k ∈ F2, w.heap.size ≤ k) (b : Below w.heap.size w w') : Two w' d o F F2 S S :=
  ⟨h.below b, h2, fun k hk => ⟨h2.lt k hk, fun hf => by have := h.lt k hf; have := f k hk; omega⟩⟩

/-- What was read, as a text. -/
theorem read_str {w w' : World} {v : Value} {err : Int} {t : ByteArray} (h : ReadsAs w w' v err t) {G : List Nat} (hG : ∀ k ∈ G, k < w.heap.size) :
    ∃ a m c, v = .slice a m c ∧ (∀ W : World, Keep G w' W → (convert 29 9 (.slice a m c)).run Try.prog W = .ok (.string t) W) := by
  rcases h with ⟨_, rfl, rfl⟩ | ⟨_, hsz, b, hb, rfl, hblk⟩
  · exact ⟨none, 0, 0, rfl, fun W _ => str_any (w := W) (a := none) (l := []) (b := 0) (.inl rfl) (fun _ => rfl) 0⟩
  · refine ⟨_, _, _, rfl, fun W hK => ?_⟩
    have hbG : b ∉ G := fun hf => by have := hG b hf; omega
    have hb2 := hblk.same (hK.block b hblk.lt hbG)
    have h := str_any (w := W) (blk_slice (cap := 0) (pad := []) (by rw [List.append_nil]; exact hb2)) (fun h => by cases h) 384
    have hl : t.data.toList.length = 384 := by rw [Array.length_toList]; exact hsz
    rw [hl] at h
    rw [h]
end Go.Proofs.Ythnfdgjikbjgoaa
