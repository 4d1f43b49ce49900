/- Pages that are written with blocks. -/
import Derived.Test.YtcdefadeaiklbabOpen
set_option linter.unusedVariables false
set_option linter.unusedSimpArgs false
set_option maxRecDepth 8000
namespace Go.Proofs.Ytcdefadeaiklbab
open Go.RowKit Go.Deep Math

theorem law_base {w0 W W' : World} {d : Nat} {F : List Nat} {S : Dv} (h : Law W d F S W') (b : Below w0.heap.size w0 W) : Law w0 d F S W' :=
  ⟨h.dev, fun k hk => Nat.le_trans b.size (h.low k hk), b.trans (h.bel.mono b.size)⟩
theorem told_fits (x : Bk) (hf : x.fits) : x.told.fits := by
  have := toldN_le x.image
  exact ⟨hf.seq, hf.epoch, hf.res, hf.hor, hf.gen, by show _ ≤ ((toldN x.image : Nat) : Int); omega, by show ((toldN x.image : Nat) : Int) ≤ _; omega⟩
theorem write_two {w0 W : World} {d : Nat} {F : List Nat} {S : Dv} {a b : Option Bk} (h : Law w0 d F S W) (t : Two S a b) (ha : S.armed = 0) (k : Nat) (hk : k < 2) (x : Bk) (hf : x.fits) (g : Nat) (hb : Buf W g x.enc 0) (hg : g ∉ F) :
    Calls Try.prog 6 #[.pointer (some ⟨d, 0, none⟩), .int .i64 (k : Nat), .slice (some ⟨g, 0, none⟩) 64 64] W fun e W' => e = .returned (.int .i64 0) ∧
      ∃ F' S', Law w0 d F' S' W' ∧ Two S' (if k = 0 then some x.told else a) (if k = 1 then some x.told else b) ∧ S'.armed = 0 ∧ Moves F F' W W' := by
  have hbs := buf_bs (n := 64) (cap := 64) hb (by rw [x.enc_length]) (Nat.le_refl _)
  have hlen := t.len
  have hs : (txt x.enc).size = 64 := by rw [txt_size, x.enc_length]
  have hh : S.has ((k : Nat) : Int) = true := has_nat (by omega)
  have hgn : S.gone = false := by unfold Dv.gone; rw [t.off, ha]; rfl
  have e1 : S.writeErr ((k : Nat) : Int) (txt x.enc) = 0 := by
    unfold Dv.writeErr Dv.putErr
    rw [if_neg (by omega), if_neg (by rw [hh]; decide), if_neg (by rw [hgn]; decide)]
  have eu : S.used = S := by unfold Dv.used; rw [if_pos (.inr ha)]
  have e2 : S.writeDo ((k : Nat) : Int) (txt x.enc) = { S with cs := putAt S.cs k (.whole (txt x.enc)), wr := wrap64 (S.wr + 1) } := by
    unfold Dv.writeDo Dv.putDo
    rw [if_neg (by omega), if_neg (by rw [hh]; decide), if_neg (by rw [hgn]; decide), Int.toNat_natCast, eu]
  refine (write_at d F S (k : Nat) _ 64 64 g x.enc (by rw [x.enc_length]) W hbs.slice (fun h => by cases h) (fun _ => hg) h.dev).mono ?_
  rintro e W' ⟨rfl, F', hd, m⟩
  rw [show (⟨x.enc.toArray⟩ : ByteArray) = txt x.enc from rfl, e2] at hd
  refine ⟨by rw [show (⟨x.enc.toArray⟩ : ByteArray) = txt x.enc from rfl, e1], F', _, h.move hd m, ?_, ha, m⟩
  have hsl : ∀ j, j < 2 → ({ S with cs := putAt S.cs k (.whole (txt x.enc)), wr := wrap64 (S.wr + 1) } : Dv).slotB j = if j = k then some x.told else S.slotB j := fun j hj => by
    rw [slotB_pg]
    have : ({ S with cs := putAt S.cs k (.whole (txt x.enc)), wr := wrap64 (S.wr + 1) } : Dv).pg j = if j = k ∧ j < S.cs.length then some (.whole (txt x.enc)) else S.pg j := putAt_get _ _ _ _
    rw [this]
    by_cases hjk : j = k
    · rw [if_pos ⟨hjk, by omega⟩, if_pos hjk, Option.bind_some, pgBk_enc x hf]
    · rw [if_neg (fun hh => hjk hh.1), if_neg hjk, slotB_pg]
  refine ⟨by show 2 ≤ (putAt _ _ _).length; rw [putAt_length]; exact hlen, t.off, ?_, ?_⟩
  · rw [hsl 0 (by omega), t.s0]
    by_cases h0 : k = 0
    · rw [if_pos h0.symm, if_pos h0]
    · rw [if_neg (fun e => h0 e.symm), if_neg h0]
  · rw [hsl 1 (by omega), t.s1]
    by_cases h0 : k = 1
    · rw [if_pos h0.symm, if_pos h0]
    · rw [if_neg (fun e => h0 e.symm), if_neg h0]
theorem store_worn_two {w0 W : World} {d : Nat} {F : List Nat} {S : Dv} {a b : Option Bk} (h : Law w0 d F S W) (t : Two S a b) (x : Bk) (hf : x.fits) (hl : lastS a b = 18446744073709551615) :
    Calls Try.prog 10 #[.pointer (some ⟨d, 0, none⟩), .agg #[.int .u64 x.seq, .int .u64 x.epoch, .int .u64 x.res, .int .u64 x.hor, .int .u64 x.gen, .bool x.clean, .int .i64 x.image]] W fun e W' => e = .returned (bkV Bk.zero 9) ∧ ∃ F' S', Law w0 d F' S' W' ∧ Moves F F' W W' := by
  have hlen := t.len
  have hno : ¬ S.off = true := by rw [t.off]; decide
  have hn2 : ¬ S.cs.length < 2 := by omega
  have hls : S.lastSeq = 18446744073709551615 := by rw [t.lastSeq]; exact hl
  have e1 : S.storeE = 9 := by unfold Dv.storeE; rw [if_neg hn2, if_neg hno, if_pos hls]
  have e2 : S.storeB x = Bk.zero := by unfold Dv.storeB; rw [if_neg hn2, if_neg hno, if_pos hls]
  refine (store_law h x hf).mono ?_
  rintro e W' ⟨rfl, F', hl', hm⟩
  exact ⟨by rw [e1, e2], F', _, hl', hm⟩
theorem newer_le {a b : Option Bk} {x : Bk} : (a = some x ∨ b = some x) → x.seq ≤ lastS a b := by
  intro h
  unfold lastS
  cases a with
  | none =>
    cases b with
    | none => rcases h with h | h <;> cases h
    | some y =>
      rcases h with h | h
      · cases h
      · cases h; exact Nat.le_refl _
  | some z =>
    cases b with
    | none =>
      rcases h with h | h
      · cases h; exact Nat.le_refl _
      · cases h
    | some y =>
      simp only [newer]
      by_cases hh : z.seq < y.seq
      · rw [if_pos hh]
        rcases h with h | h <;> cases h
        · exact Nat.le_of_lt hh
        · exact Nat.le_refl _
      · rw [if_neg hh]
        rcases h with h | h <;> cases h
        · exact Nat.le_refl _
        · show x.seq ≤ z.seq; omega
theorem newer_next {a b : Option Bk} {n : Bk} (hn : n.seq = lastS a b + 1) : newer (if n.seq % 2 = 0 then some n else a) (if n.seq % 2 = 1 then some n else b) = some n := by
  by_cases h : n.seq % 2 = 0
  · rw [if_pos h, if_neg (by omega)]
    cases hb : b with
    | none => rfl
    | some y =>
      have := newer_le (a := a) (b := b) (x := y) (.inr hb)
      show (if n.seq < y.seq then some y else some n) = some n
      rw [if_neg (by omega)]
  · rw [if_neg h, if_pos (by omega)]
    cases ha : a with
    | none => rfl
    | some y =>
      have := newer_le (a := a) (b := b) (x := y) (.inl ha)
      show (if y.seq < n.seq then some n else some y) = some n
      rw [if_pos (by omega)]
theorem enc_dec {W : World} {g : Nat} (x : Bk) (hf : x.fits) (hb : Buf W g x.enc 0) : Calls Try.prog 9 #[.slice (some ⟨g, 0, none⟩) 64 64] W fun e w' => e = .returned (bkV x.told 0) ∧ Below W.heap.size W w' := by
  have h1 := decode_any _ 64 64 x.enc (by omega) W (buf_bs hb (by rw [x.enc_length]) (Nat.le_refl _))
  have h2 := dec_enc x hf []
  rw [List.append_nil] at h2
  rw [h2] at h1
  exact h1
end Go.Proofs.Ytcdefadeaiklbab
