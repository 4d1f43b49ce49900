/- The document's own device, records, Dump and Load beside the program's: texts joined. -/
import Derived.Test.YtanbbmlekebhhaaLs
import Derived.Test.YtanbbmlekebhhaaLq
/- The document's own Dump, reckoned: what is taken of the items, and how the pages follow. -/
set_option linter.unusedVariables false
set_option linter.unusedSimpArgs false
namespace Go.Proofs.Ytanbbmlekebhhaa
open Go.RowKit Go.Deep Math

/-- What the first loop has behind i items. -/
structure Pk (xs : List It) (M i n : Nat) (full : Bool) (b : List UInt8) : Prop where
  good : (xs.take i).all It.good = true
  cnt : n = fitN (xs.take i) M
  txt : b = encs (xs.take n)
  is : full = decide (M < total (xs.take i))
theorem Pk.zero (xs : List It) (M : Nat) : Pk xs M 0 0 false [] := ⟨by simp, by simp [fitN], by simp [encs], by simp [total]⟩
theorem Pk.le {xs : List It} {M i n : Nat} {full : Bool} {b : List UInt8} (h : Pk xs M i n full b) : n ≤ i := by
  have := fitN_le (xs.take i) M
  rw [← h.cnt, List.length_take] at this
  omega
theorem Pk.len {xs : List It} {M i n : Nat} {full : Bool} {b : List UInt8} (h : Pk xs M i n full b) : b.length ≤ M := by
  rw [h.txt, encs_length]
  have h1 := fitN_total (xs.take i) M
  rw [← h.cnt, List.take_take, Nat.min_eq_left h.le] at h1
  exact h1
theorem Pk.on {xs : List It} {M i n : Nat} {b : List UInt8} (h : Pk xs M i n false b) (hi : i ≤ xs.length) : n = i ∧ b.length = total (xs.take i) ∧ total (xs.take i) ≤ M := by
  have h1 : ¬ M < total (xs.take i) := by have := h.is; simpa using this.symm
  have h2 : n = i := by rw [h.cnt, fit_all _ _ (by omega), List.length_take]; omega
  exact ⟨h2, by rw [h.txt, encs_length, h2], by omega⟩
theorem Pk.past {xs : List It} {M i n : Nat} {b : List UInt8} {x : It} (h : Pk xs M i n true b) (hx : xs[i]? = some x) (hg : x.good = true) : Pk xs M (i + 1) n true b := by
  have h1 : M < total (xs.take i) := by have := h.is; simpa using this.symm
  have e := total_take_succ xs i x hx
  refine ⟨by rw [all_take_succ xs i x hx, h.good, hg]; rfl, ?_, h.txt, ?_⟩
  · rw [take_one xs i x hx, fit_snoc _ _ _ (by rw [← take_one xs i x hx, e]; omega)]; exact h.cnt
  · symm; rw [decide_eq_true_eq, e]; omega
theorem Pk.yes {xs : List It} {M i n : Nat} {b : List UInt8} {x : It} (h : Pk xs M i n false b) (hx : xs[i]? = some x) (hg : x.good = true) (hs : b.length + x.size ≤ M) : Pk xs M (i + 1) (n + 1) false (b ++ x.enc) := by
  have hi : i < xs.length := (List.getElem?_eq_some_iff.1 hx).1
  obtain ⟨h1, h2, h3⟩ := h.on (by omega)
  have e := total_take_succ xs i x hx
  refine ⟨by rw [all_take_succ xs i x hx, h.good, hg]; rfl, ?_, ?_, ?_⟩
  · rw [fit_all _ _ (by rw [e]; omega), List.length_take]; omega
  · rw [h.txt, h1, encs_take_succ xs i x hx]
  · symm; rw [decide_eq_false_iff_not, e]; omega
theorem Pk.no {xs : List It} {M i n : Nat} {b : List UInt8} {x : It} (h : Pk xs M i n false b) (hx : xs[i]? = some x) (hg : x.good = true) (hs : M < b.length + x.size) : Pk xs M (i + 1) n true b := by
  have hi : i < xs.length := (List.getElem?_eq_some_iff.1 hx).1
  obtain ⟨h1, h2, h3⟩ := h.on (by omega)
  have e := total_take_succ xs i x hx
  refine ⟨by rw [all_take_succ xs i x hx, h.good, hg]; rfl, ?_, h.txt, ?_⟩
  · rw [take_one xs i x hx, fit_snoc _ _ _ (by rw [← take_one xs i x hx, e]; omega)]; exact h.cnt
  · symm; rw [decide_eq_true_eq, e]; omega
/-- All items are through. -/
theorem Pk.all {xs : List It} {P : Nat} {n k : Nat} {full : Bool} {b : List UInt8} (h : Pk xs (376 * P) k n full b) (hk : k = xs.length) : xs.all It.good = true ∧ n = dmpN (P : Int) xs ∧ b = dmpB (P : Int) xs := by
  have h1 := h.good
  have h2 := h.cnt
  rw [hk, List.take_length] at h1 h2
  have h3 : n = dmpN (P : Int) xs := by rw [h2]; rfl
  exact ⟨h1, h3, by rw [h.txt, h3]; rfl⟩
/-- One that is not good. -/
theorem Pk.bad {xs : List It} {i : Nat} {x : It} (hx : xs[i]? = some x) (hg : x.good = false) : xs.all It.good = false := by
  rw [Bool.eq_false_iff]
  intro h
  have := List.all_eq_true.1 h x (List.mem_of_getElem? hx)
  rw [hg] at this
  cases this

/-- On the way through the pages. -/
structure Wk (S : Dv) (first : Nat) (B : List UInt8) (k : Nat) (c : List UInt8) (Sk : Dv) : Prop where
  rest : ∃ F, c.length ≤ F ∧ wrI first B.length S 0 B = wrI first F Sk k c
  cnt : pgsN B.length = k + pgsN c.length
theorem Wk.zero (S : Dv) (first : Nat) (B : List UInt8) : Wk S first B 0 B S := ⟨⟨_, Nat.le_refl _, rfl⟩, by omega⟩
theorem Wk.done {S Sk : Dv} {first k : Nat} {B : List UInt8} (h : Wk S first B k [] Sk) : wrI first B.length S 0 B = (Sk.flushErr, Sk.flushDo) ∧ pgsN B.length = k := by
  obtain ⟨⟨F, _, hF⟩, hc⟩ := h
  refine ⟨?_, by rw [hc]; rfl⟩
  rw [hF]
  cases F <;> rfl
theorem Wk.step {S Sk : Dv} {first k : Nat} {B c : List UInt8} (h : Wk S first B k c Sk) (hc : c.length ≠ 0) :
    (Sk.writeErr ((first + k : Nat) : Int) ⟨(pageI k (c.take 376)).toArray⟩ = 0 → Wk S first B (k + 1) (c.drop 376) (Sk.writeDo ((first + k : Nat) : Int) ⟨(pageI k (c.take 376)).toArray⟩)) ∧
    (Sk.writeErr ((first + k : Nat) : Int) ⟨(pageI k (c.take 376)).toArray⟩ ≠ 0 → wrI first B.length S 0 B = (Sk.writeErr ((first + k : Nat) : Int) ⟨(pageI k (c.take 376)).toArray⟩, Sk.writeDo ((first + k : Nat) : Int) ⟨(pageI k (c.take 376)).toArray⟩)) := by
  obtain ⟨⟨F, hF, hw⟩, hp⟩ := h
  obtain ⟨F', rfl⟩ : ∃ F', F = F' + 1 := ⟨F - 1, by omega⟩
  rw [wrI, if_neg hc] at hw
  refine ⟨fun he => ?_, fun he => ?_⟩
  · rw [if_pos he] at hw
    refine ⟨⟨F', by rw [List.length_drop]; omega, hw⟩, ?_⟩
    rw [hp, pgsN_drop c hc]; omega
  · rw [if_neg he] at hw
    exact hw
end Go.Proofs.Ytanbbmlekebhhaa

/- What the two devices beside one another want of the program's own: small calls of the footprint, blocks apart. -/
set_option linter.unusedVariables false
set_option linter.unusedSimpArgs false
set_option maxRecDepth 8000
namespace Go.Proofs.Ytanbbmlekebhhaa
open Go.RowKit Go.Deep Math

theorem Pg.elim3 {motive : Pg → Prop} (p : Pg) (blank : motive .blank) (torn : motive .torn) (whole : ∀ b, motive (.whole b)) : motive p := by
  rcases p with ⟨_ | _ | b⟩
  · exact blank
  · exact torn
  · exact whole b

/-- The blocks G are there, and none of them is of F. -/
def Apart (w : World) (F G : List Nat) : Prop := ∀ k ∈ G, k < w.heap.size ∧ k ∉ F

theorem Moves.apart {F F' G : List Nat} {w w' : World} (m : Moves F F' w w') (a : Apart w F G) : Apart w' F' G ∧ ∀ k ∈ G, w'.heap[k]? = w.heap[k]? := by
  refine ⟨fun k hk => ⟨Nat.lt_of_lt_of_le (a k hk).1 m.keep.size, fun hf => ?_⟩, fun k hk => m.keep.block k (a k hk).1 (a k hk).2⟩
  rcases m.foot k hf with h | h
  · exact (a k hk).2 h
  · have := (a k hk).1; omega
theorem Apart.below {F G : List Nat} {w w' : World} (a : Apart w F G) (b : Below w.heap.size w w') : Apart w' F G ∧ ∀ k ∈ G, w'.heap[k]? = w.heap[k]? :=
  ⟨fun k hk => ⟨Nat.lt_of_lt_of_le (a k hk).1 b.size, (a k hk).2⟩, fun k hk => b.block k (a k hk).1⟩
theorem not_old {w : World} {d : Nat} {F : List Nat} {S : Dv} (h : DvAt w d F S) : w.heap.size ∉ F := fun hf => by have := h.lt _ hf; omega

/-- All is new from B on: what stood below B stands. -/
def Since (B : Nat) (w w' : World) (F : List Nat) : Prop := Below B w w' ∧ B ≤ w'.heap.size ∧ ∀ k ∈ F, B ≤ k
theorem Since.moves {B : Nat} {w a b : World} {F F' : List Nat} (h : Since B w a F) (m : Moves F F' a b) : Since B w b F' :=
  ⟨h.1.trans (m.keep.below h.2.2 h.2.1), Nat.le_trans h.2.1 m.keep.size, fun k hk => by
    rcases m.foot k hk with h1 | h1
    · exact h.2.2 k h1
    · exact Nat.le_trans h.2.1 h1⟩
theorem Since.keep {B : Nat} {w a b : World} {F : List Nat} (h : Since B w a F) (m : Keep F a b) : Since B w b F := h.moves (Moves.of_keep m)
theorem Since.below {B : Nat} {w a b : World} {F : List Nat} (h : Since B w a F) (m : Below a.heap.size a b) : Since B w b F :=
  ⟨h.1.trans (m.mono h.2.1), Nat.le_trans h.2.1 m.size, h.2.2⟩
theorem Since.alloc {B : Nat} {w a : World} {F : List Nat} (h : Since B w a F) (o : Obj) : Since B w (a.alloc o) F := h.below ((Below.refl _ _).alloc (Nat.le_refl _) o)

theorem arm_at (d : Nat) (F : List Nat) (S : Dv) (w : World) (h : DvAt w d F S) (k : Int) (hk : k ≤ 9223372036854775807) :
    Calls Try.prog 21 #[.pointer (some ⟨d, 0, none⟩), .int .i64 k] w fun e w' => e = .returned (.tuple #[]) ∧ DvAt w' d F (S.arm k) ∧ Keep F w w' := by
  obtain ⟨p, pd, wa, wc, rfl, h⟩ := h
  refine (arm_any d p pd wa wc S w h k hk).mono ?_
  rintro e w' ⟨rfl, h2, k2⟩
  exact ⟨rfl, ⟨p, pd, wa, wc, rfl, h2⟩, k2.mono (fun k hk => .inl (by simp at hk; simp [foot, hk]))⟩
theorem pages_at (d : Nat) (F : List Nat) (S : Dv) (w : World) (h : DvAt w d F S) : Calls Try.prog 45 #[.pointer (some ⟨d, 0, none⟩)] w fun e w' => e = .returned (.int .i64 S.cs.length) ∧ w' = w := by
  obtain ⟨p, pd, wa, wc, rfl, h⟩ := h
  exact pages_any d p pd wa wc S w h
theorem losses_at (d : Nat) (F : List Nat) (S : Dv) (w : World) (h : DvAt w d F S) : Calls Try.prog 47 #[.pointer (some ⟨d, 0, none⟩)] w fun e w' => e = .returned (.int .i64 S.losses) ∧ w' = w := by
  obtain ⟨p, pd, wa, wc, rfl, h⟩ := h
  exact losses_any d p pd wa wc S w h
set_option maxHeartbeats 400000 in
theorem erase_at (d : Nat) (F : List Nat) (S : Dv) (at0 : Int) (w : World) (h : DvAt w d F S) :
    Calls Try.prog 25 #[.pointer (some ⟨d, 0, none⟩), .int .i64 at0] w fun e w' => e = .returned (.int .i64 (S.putErr at0)) ∧
      ∃ F', DvAt w' d F' (S.putDo at0 .blank) ∧ Moves F F' w w' := by
  have cp := hide (put_at d F S at0 .blank (Nat.zero_le _) none 0 0 0 [] rfl rfl w (.inl rfl) (fun _ => rfl) (fun h => absurd rfl h) h)
  have ek : ((Pg.blank.kind : Nat) : Int) = 0 := rfl
  rw [ek] at cp
  clear h ek
  go_enter Try.func25, Try.ntmps25
  go_wp2_with (go_at_call 52; refine cp.out.mono ?_; rintro e w' ⟨rfl, F', h1, m1⟩)
  go_ret
  exact ⟨rfl, F', h1, m1⟩

theorem makeInts (m : Nat) (hm : m ≤ 4096) (W : World) : (Instr.makeSlice 102 (.int .i64 m) (.int .i64 m)).run Try.prog W = .ok (.slice (some ⟨W.heap.size, 0, none⟩) m m) (W.alloc (.cells (List.replicate m (Value.int .i64 0)).toArray 3)) := by
  have h := run_make_row' (P := Try.prog) 102 3 (.int .i64 0) 8 Try.underlying102 info3 rfl .i64 .i64 m (by omega) (by omega) W
  have e : madeCells #[Value.int .i64 0] m = (List.replicate m (Value.int .i64 0)).toArray := by
    apply Array.ext'
    rw [toList_madeCells_one]
  rw [e] at h
  exact h
end Go.Proofs.Ytanbbmlekebhhaa

/- The document's own device in memory, and the small calls on it. -/
set_option linter.unusedVariables false
set_option linter.unusedSimpArgs false
namespace Go.Proofs.Ytanbbmlekebhhaa
open Go.RowKit Go.Deep

/-- Where its rows lie, and what lies behind each. -/
structure RLoc where
  last : Nat
  now : Nat
  waits : Nat
  pl : List Value
  pn : List Value
  pw : List Value

def rpg (p : Pg) : List Value := [.int .i64 p.kind, .string p.read]
def rRow (l : List Pg) : List Value := l.flatMap rpg
def nows (cs : List Cl) : List Pg := cs.map (·.now)
def lasts (cs : List Cl) : List Pg := cs.map fun c => c.last.getD c.now
def wRow (cs : List Cl) : List Value := cs.map fun c => .bool c.last.isSome

def rCells (L : RLoc) (S : Dv) : List Value :=
  [.slice (some ⟨L.last, 0, none⟩) S.cs.length (S.cs.length + L.pl.length / 2), .slice (some ⟨L.now, 0, none⟩) S.cs.length (S.cs.length + L.pn.length / 2), .slice (some ⟨L.waits, 0, none⟩) S.cs.length (S.cs.length + L.pw.length),
   .bool S.off, .int .i64 S.armed, .int .i64 S.losses, .int .i64 S.wr, .int .i64 S.fl, .int .i64 S.rd, .int .i64 S.cr]

structure RfIn (w : World) (r : Nat) (L : RLoc) (S : Dv) : Prop where
  dev : Blk w r (rCells L S) 79
  last : Blk w L.last (rRow (lasts S.cs) ++ L.pl) 101
  now : Blk w L.now (rRow (nows S.cs) ++ L.pn) 101
  waits : Blk w L.waits (wRow S.cs ++ L.pw) 4
  apart : [r, L.last, L.now, L.waits].Nodup
  good : S.good

def rfoot (r : Nat) (L : RLoc) : List Nat := [r, L.last, L.now, L.waits]
def RfAt (w : World) (r : Nat) (G : List Nat) (S : Dv) : Prop := ∃ L, G = rfoot r L ∧ RfIn w r L S

theorem RfIn.ne {w : World} {r : Nat} {L : RLoc} {S : Dv} (h : RfIn w r L S) : r ≠ L.last ∧ r ≠ L.now ∧ r ≠ L.waits ∧ L.last ≠ L.now ∧ L.last ≠ L.waits ∧ L.now ≠ L.waits := by
  have := h.apart
  simp only [List.nodup_cons, List.mem_cons, List.not_mem_nil, or_false, not_or] at this
  exact ⟨this.1.1, this.1.2.1, this.1.2.2, this.2.1.1, this.2.1.2, this.2.2.1⟩

theorem RfIn.same {w w' : World} {r : Nat} {L : RLoc} {S : Dv} (h : RfIn w r L S) (hk : ∀ k ∈ rfoot r L, w'.heap[k]? = w.heap[k]?) : RfIn w' r L S :=
  ⟨h.dev.same (hk _ (by simp [rfoot])), h.last.same (hk _ (by simp [rfoot])), h.now.same (hk _ (by simp [rfoot])), h.waits.same (hk _ (by simp [rfoot])), h.apart, h.good⟩
theorem RfIn.lt {w : World} {r : Nat} {L : RLoc} {S : Dv} (h : RfIn w r L S) : ∀ k ∈ rfoot r L, k < w.heap.size := by
  intro k hk
  simp only [rfoot, List.mem_cons, List.not_mem_nil, or_false] at hk
  rcases hk with rfl | rfl | rfl | rfl
  · exact h.dev.lt
  · exact h.last.lt
  · exact h.now.lt
  · exact h.waits.lt
theorem RfAt.same {w w' : World} {r : Nat} {G : List Nat} {S : Dv} (h : RfAt w r G S) (hk : ∀ k ∈ G, w'.heap[k]? = w.heap[k]?) : RfAt w' r G S := by
  obtain ⟨L, rfl, h⟩ := h
  exact ⟨L, rfl, h.same hk⟩
theorem RfAt.lt {w : World} {r : Nat} {G : List Nat} {S : Dv} (h : RfAt w r G S) : ∀ k ∈ G, k < w.heap.size := by
  obtain ⟨L, rfl, h⟩ := h
  exact h.lt
theorem RfAt.below {w w' : World} {r : Nat} {G : List Nat} {S : Dv} (h : RfAt w r G S) (b : Below w.heap.size w w') : RfAt w' r G S := h.same (fun k hk => b.block k (h.lt k hk))

/-- A store into its own block alone. -/
theorem RfIn.turn {w w' : World} {r : Nat} {L : RLoc} {S S' : Dv} (h : RfIn w r L S) (hk : Keep [r] w w') (hb : Blk w' r (rCells L S') 79) (hcs : S'.cs = S.cs) (hg : S'.good) : RfIn w' r L S' := by
  obtain ⟨n1, n2, n3, _⟩ := h.ne
  exact ⟨hb, by rw [hcs]; exact h.last.same (hk.block _ h.last.lt (by simpa using Ne.symm n1)), by rw [hcs]; exact h.now.same (hk.block _ h.now.lt (by simpa using Ne.symm n2)),
    by rw [hcs]; exact h.waits.same (hk.block _ h.waits.lt (by simpa using Ne.symm n3)), h.apart, hg⟩

theorem Keep.to_rfoot {w w' : World} {r : Nat} {L : RLoc} (h : Keep [r] w w') : Keep (rfoot r L) w w' := h.mono (fun k hk => .inl (by simp at hk; simp [rfoot, hk]))

set_option maxHeartbeats 400000 in
theorem rgone_any (r : Nat) (L : RLoc) (S : Dv) (w : World) (h : RfIn w r L S) :
    Calls Try.prog 61 #[.pointer (some ⟨r, 0, none⟩)] w fun e w' => e = .returned (.bool S.gone) ∧ RfIn w' r L S.used ∧ Keep [r] w w' := by
  have c3 := h.dev.cell (i := 3) rfl
  have c4 := h.dev.cell (i := 4) rfl
  have c5 := h.dev.cell (i := 5) rfl
  have f3 := h.dev.frozen 3
  have f4 := h.dev.frozen 4
  have f5 := h.dev.frozen 5
  have H : Hid (RfIn w r L S) := h
  have G := hide (Dv.used_good h.good)
  have A := hide h.good.armed
  clear h
  obtain ⟨cs, armed, off, losses, wr, fl, rd, cr⟩ := S
  simp only at c3 c4 c5
  cases off
  · by_cases h0 : armed = 0
    · subst h0
      go_enter Try.func61, Try.ntmps61
      go_wp2
      go_ret
      exact ⟨rfl, H.out, Keep.refl _ _⟩
    · by_cases h1 : armed = 1
      · subst h1
        go_enter Try.func61, Try.ntmps61
        go_wp2
        go_ret
        have K : Keep [r] w (((w.setCell ⟨r, 4, none⟩ (.int .i64 0)).setCell ⟨r, 3, none⟩ (.bool true)).setCell ⟨r, 5, none⟩ (.int .i64 (wrap64 (losses + 1)))) :=
          (((Keep.refl [r] w).setCell (.inl (by simp)) _).setCell (.inl (by simp)) _).setCell (.inl (by simp)) _
        refine ⟨rfl, H.out.turn K ?_ rfl G.out, K⟩
        exact ((H.out.dev.set 4 _).set 3 _).set 5 _
      · have a1 : (armed : Int) - 1 = ((armed - 1 : Nat) : Int) := by omega
        have a2 : ¬ ((armed : Int) - 1 = 0) := by omega
        have a3 : (armed : Int) ≤ 9223372036854775807 := by have := A.out; simp only at this; omega
        have a4 : (0 : Int) < (armed : Int) := by omega
        have a5 : wrap64 ((armed : Int) - 1) = (armed : Int) - 1 := by unfold wrap64; omega
        have eg : Hid ((⟨cs, armed, false, losses, wr, fl, rd, cr⟩ : Dv).gone = false) := by simp [Hid, Dv.gone, h1]
        have eu : Hid ((⟨cs, armed, false, losses, wr, fl, rd, cr⟩ : Dv).used = ⟨cs, armed - 1, false, losses, wr, fl, rd, cr⟩) := by simp [Hid, Dv.used, h0, h1]
        have a1' := hide a1
        clear h0 h1 a1
        go_enter Try.func61, Try.ntmps61
        go_wp2
        go_ret
        rw [eu.out] at G
        rw [eg.out, eu.out]
        have K : Keep [r] w (w.setCell ⟨r, 4, none⟩ (.int .i64 ((armed : Int) - 1))) := (Keep.refl [r] w).setCell (.inl (by simp)) _
        refine ⟨rfl, H.out.turn K ?_ rfl G.out, K⟩
        rw [a1'.out]
        exact H.out.dev.set 4 _
  · go_enter Try.func61, Try.ntmps61
    go_wp2
    go_ret
    exact ⟨rfl, H.out, Keep.refl _ _⟩

set_option maxHeartbeats 400000 in
theorem rarm_any (r : Nat) (L : RLoc) (S : Dv) (w : World) (h : RfIn w r L S) (k : Int) (hk : k ≤ 9223372036854775807) :
    Calls Try.prog 40 #[.pointer (some ⟨r, 0, none⟩), .int .i64 k] w fun e w' => e = .returned (.tuple #[]) ∧ RfIn w' r L (S.arm k) ∧ Keep [r] w w' := by
  have c4 := h.dev.cell (i := 4) rfl
  have f4 := h.dev.frozen 4
  have H : Hid (RfIn w r L S) := h
  have G := hide (Dv.arm_good h.good k hk)
  clear h
  by_cases hk1 : k < 1
  · have e : Hid (k.toNat = 0) := by show k.toNat = 0; omega
    go_enter Try.func40, Try.ntmps40
    go_wp2
    go_end0
    have K : Keep [r] w ((w.setCell ⟨r, 4, none⟩ (.int .i64 k)).setCell ⟨r, 4, none⟩ (.int .i64 0)) := ((Keep.refl [r] w).setCell (.inl (by simp)) _).setCell (.inl (by simp)) _
    refine ⟨rfl, H.out.turn K ?_ rfl G.out, K⟩
    have := (H.out.dev.set 4 (.int .i64 k)).set 4 (.int .i64 0)
    simp only [Dv.arm, rCells, e.out]
    exact this
  · have e : Hid ((k.toNat : Int) = k) := by show (k.toNat : Int) = k; omega
    go_enter Try.func40, Try.ntmps40
    go_wp2
    go_end0
    have K : Keep [r] w (w.setCell ⟨r, 4, none⟩ (.int .i64 k)) := (Keep.refl [r] w).setCell (.inl (by simp)) _
    refine ⟨rfl, H.out.turn K ?_ rfl G.out, K⟩
    have := H.out.dev.set 4 (.int .i64 k)
    simp only [Dv.arm, rCells, e.out]
    exact this
end Go.Proofs.Ytanbbmlekebhhaa
