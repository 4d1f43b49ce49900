/- Texts joined. -/
import Derived.Test.YtmfjaehajdephabJR
import Derived.Lib.SlicesS
import Derived.Test.YtmfjaehajdephabJB
/-
  The program's checked of any command.
-/
namespace Go.Proofs.Ytmfjaehajdephab
open Go.Shelf Go.RowKit Go.Deep
set_option linter.unusedVariables false
set_option linter.unusedSimpArgs false
set_option maxRecDepth 1000000

theorem checked_bad (c : Cm) (a : Option Addr) (n cap : Nat) (b : Bool) (t : ByteArray) (w : World) (h : StrsAt w a n c.keys) (hn : n ≤ 5000) (hs : c.data.size ≤ 140737488351232) (hg : goodP c = false) :
    Calls Try.prog 52 #[cmV c (.slice a n cap), .bool b, .string t] w fun e w' => e = .returned (cmV formC (.slice none 0 0)) ∧ Below w.heap.size w w' := by
  have B := ((Below.refl w.heap.size w).alloc (Nat.le_refl _) (cmO c (.slice a n cap))).alloc (by simp only [World.size_alloc]; omega) (cmO cmZ (.slice none 0 0))
  have hsz : ((w.alloc (cmO c (.slice a n cap))).alloc (cmO cmZ (.slice none 0 0))).heap.size = w.heap.size + 1 + 1 := by simp only [World.size_alloc]
  obtain ⟨e1, e2⟩ := heap_at2 w (cmO c (.slice a n cap)) (cmO cmZ (.slice none 0 0))
  have H := hide (good_is c false hg a n cap _ (h.later B) hn hs)
  go_enter Try.func52, Try.ntmps52
  go_wp2_with fail
  refine H.out.mono ?_
  rintro e w1 ⟨rfl, hb⟩
  have B2 := B.trans (hb.mono B.size)
  have hs2 := hb.size
  replace e2 := (hb.block _ (by rw [hsz]; omega)).trans e2
  clear hb H hg
  go_wp2_with fail
  refine (bad_any _ _).mono ?_
  rintro e w' ⟨rfl, hb⟩
  replace B2 := B2.trans (hb.mono B2.size)
  replace e2 := (hb.block _ (by omega)).trans e2
  clear hb
  obtain ⟨p0, p1, p2, p3, p4, p5, p6, p7, p8, p9, p10, p11⟩ := CmAt.of e2
  obtain ⟨f0, f1, f2, f3, f4, f5, f6, f7, f8, f9, f10, f11⟩ := CmFz.of e2
  have H2 := hide (fun c v => heap_cm e2 c v)
  clear e1 e2 h B hsz hs2
  go_wp2
  exact ret_cm rfl (w.heap.size + 1) formC (.slice none 0 0) rfl (H2.out formC (.slice none 0 0)) rfl ⟨rfl, below_cm B2 (by omega) formC (.slice none 0 0)⟩
theorem checked_num (c : Cm) (a : Option Addr) (n cap : Nat) (b : Bool) (t : ByteArray) (w : World) (h : StrsAt w a n c.keys) (hn : n ≤ 5000) (hs : c.data.size ≤ 140737488351232) (hg : goodP c = true) (hb : b = false) :
    Calls Try.prog 52 #[cmV c (.slice a n cap), .bool b, .string t] w fun e w' => e = .returned (cmV (badV t) (.slice none 0 0)) ∧ Below w.heap.size w w' := by
  subst hb
  have B := ((Below.refl w.heap.size w).alloc (Nat.le_refl _) (cmO c (.slice a n cap))).alloc (by simp only [World.size_alloc]; omega) (cmO cmZ (.slice none 0 0))
  have hsz : ((w.alloc (cmO c (.slice a n cap))).alloc (cmO cmZ (.slice none 0 0))).heap.size = w.heap.size + 1 + 1 := by simp only [World.size_alloc]
  obtain ⟨e1, e2⟩ := heap_at2 w (cmO c (.slice a n cap)) (cmO cmZ (.slice none 0 0))
  have H := hide (good_is c true hg a n cap _ (h.later B) hn hs)
  go_enter Try.func52, Try.ntmps52
  go_wp2_with fail
  refine H.out.mono ?_
  rintro e w1 ⟨rfl, hb⟩
  have B2 := B.trans (hb.mono B.size)
  have hs2 := hb.size
  replace e2 := (hb.block _ (by rw [hsz]; omega)).trans e2
  clear hb H hg
  go_wp2_with fail
  refine (bad_any _ _).mono ?_
  rintro e w' ⟨rfl, hb⟩
  replace B2 := B2.trans (hb.mono B2.size)
  replace e2 := (hb.block _ (by omega)).trans e2
  clear hb
  obtain ⟨p0, p1, p2, p3, p4, p5, p6, p7, p8, p9, p10, p11⟩ := CmAt.of e2
  obtain ⟨f0, f1, f2, f3, f4, f5, f6, f7, f8, f9, f10, f11⟩ := CmFz.of e2
  have H2 := hide (fun c v => heap_cm e2 c v)
  clear e1 e2 h B hsz hs2
  go_wp2
  exact ret_cm rfl (w.heap.size + 1) (badV t) (.slice none 0 0) rfl (H2.out (badV t) (.slice none 0 0)) rfl ⟨rfl, below_cm B2 (by omega) (badV t) (.slice none 0 0)⟩
def chk (c : Cm) (b : Bool) (t : ByteArray) : Cm := if goodP c = true then (if b = true then c else badV t) else formC
theorem checked_any (c : Cm) (a : Option Addr) (n cap : Nat) (b : Bool) (t : ByteArray) (w : World) (h : RowT w a n c.keys) (hs : c.data.size ≤ 140737488351232) :
    Calls Try.prog 52 #[cmV c (.slice a n cap), .bool b, .string t] w fun e w' => ∃ a' n' c', e = .returned (cmV (chk c b t) (.slice a' n' c')) ∧ RowT w' a' n' (chk c b t).keys ∧ Below w.heap.size w w' := by
  unfold chk
  cases hg : goodP c with
  | false =>
    refine (checked_bad c a n cap b t w h.at_ h.few hs hg).mono ?_
    rintro e w' ⟨rfl, hb⟩
    exact ⟨_, _, _, rfl, RowT.nil, hb⟩
  | true =>
    cases b with
    | false =>
      refine (checked_num c a n cap false t w h.at_ h.few hs hg rfl).mono ?_
      rintro e w' ⟨rfl, hb⟩
      exact ⟨_, _, _, rfl, RowT.nil, hb⟩
    | true =>
      refine (checked_ok c a n cap true t w h.at_ h.few hs hg rfl).mono ?_
      rintro e w' ⟨rfl, hb⟩
      exact ⟨_, _, _, rfl, h.later hb, hb⟩
/-- The same with the answer named. -/
theorem checked_is (c r : Cm) (a : Option Addr) (n cap : Nat) (b : Bool) (t : ByteArray) (w : World) (hr : chk c b t = r) (h : RowT w a n c.keys) (hs : c.data.size ≤ 140737488351232) :
    Calls Try.prog 52 #[cmV c (.slice a n cap), .bool b, .string t] w fun e w' => ∃ a' n' c', e = .returned (cmV r (.slice a' n' c')) ∧ RowT w' a' n' r.keys ∧ Below w.heap.size w w' := hr ▸ checked_any c a n cap b t w h hs
end Go.Proofs.Ytmfjaehajdephab

/-
  The program's last: may the last word stand there?
-/
namespace Go.Proofs.Ytmfjaehajdephab
open Go.Shelf Go.RowKit Go.Deep
set_option linter.unusedVariables false
set_option linter.unusedSimpArgs false
set_option maxRecDepth 1000000

def mayL (z : Bool) : List ByteArray := if z then [mk8 w_noreply, mk8 w_zero] else [mk8 w_noreply]
def cB (z : Bool) (x : ByteArray) : Bool := isW x w_noreply || (z && isW x w_zero)
theorem toList_mk8 (l : List UInt8) : (mk8 l).toList = l := by rw [Lib.toList_data]; rfl
theorem isW_iff (x : ByteArray) (l : List UInt8) : isW x l = true ↔ x = mk8 l := by
  unfold isW
  rw [beq_iff_eq]
  constructor
  · intro h
    rw [← h, Lib.toList_data]
    rfl
  · rintro rfl
    exact toList_mk8 l
theorem contains_may (z : Bool) (x : ByteArray) : Lib.containsS (mayL z) x = cB z x := by
  rw [Bool.eq_iff_iff, Lib.containsS_iff]
  unfold cB mayL
  rw [Bool.or_eq_true, Bool.and_eq_true, isW_iff, isW_iff]
  cases z <;> simp
theorem contains_any (z : Bool) (x : ByteArray) (w : World) (b : Option Addr) (m mc : Nat) (h : StrsAt w b m (mayL z)) : Calls Try.prog 63 #[.slice b m mc, .string x] w fun e w' => e = .returned (.bool (cB z x)) ∧ w' = w := by
  have hl := h.len
  have hm : m = (mayL z).length := hl
  have h0 : 0 < m := by rw [hm]; cases z <;> decide
  obtain ⟨g, o, y, rfl, _⟩ := h.key 0 h0
  have := Try.slices_Contains_string g o m mc (mayL z) x w (by omega) (by rw [hm]; cases z <;> decide) (fun j hj => by
    obtain ⟨b', o', hb', _, hc⟩ := h.cell j _ (List.getElem?_eq_getElem hj)
    cases hb'
    rw [hc, List.getD_eq_getElem?_getD, List.getElem?_eq_getElem hj]
    rfl)
  rw [List.take_of_length_le (by omega), contains_may] at this
  exact this
theorem last_two (w : World) (a : Option Addr) (n cap k : Nat) (b : Option Addr) (m mc : Nat) (z : Bool) (x : ByteArray) (g o : Nat) (ha : a = some ⟨g, o, none⟩) (hn : n = k + 1) (hk : k ≤ 10) (hx : w.cell? ⟨g, o + k, none⟩ = some (.string x)) (hm : StrsAt w b m (mayL z)) (c : Bool) (hc : cB z x = c) :
    Calls Try.prog 48 #[.slice a n cap, .int .i64 (k : Int), .slice b m mc] w fun e w' => e = .returned (.tuple #[.bool (c && isW x w_noreply), .bool c]) ∧ w' = w := by
  subst ha
  have H := hide (contains_any z x w b m mc hm)
  rw [hc] at H
  have e1 : ((k + 1 : Nat) : Int) = (k : Int) + 1 := by omega
  have e2 : ((k : Int) + 1 == (k : Int)) = false := by simp; omega
  subst hn
  clear hm hc
  cases c with
  | true =>
    have E : isW x w_noreply = (x.toList == [110, 111, 114, 101, 112, 108, 121]) := rfl
    rw [E]
    cases hq : x.toList == [110, 111, 114, 101, 112, 108, 121] <;>
    (go_enter Try.func48, Try.ntmps48
     go_wp2_with (first | (refine H.out.mono ?_; rintro e w' ⟨rfl, rfl⟩))
     go_ret2
     exact ⟨rfl, rfl⟩)
  | false =>
    go_enter Try.func48, Try.ntmps48
    go_wp2_with (first | (refine H.out.mono ?_; rintro e w' ⟨rfl, rfl⟩))
    go_ret2
    exact ⟨rfl, rfl⟩
theorem last_one (w : World) (a : Option Addr) (n cap k : Nat) (v : Value) (hn : n ≠ k + 1) (hk : k ≤ 10) (hn5 : n ≤ 5000) :
    Calls Try.prog 48 #[.slice a n cap, .int .i64 (k : Int), v] w fun e w' => e = .returned (.tuple #[.bool false, .bool (decide (n = k))]) ∧ w' = w := by
  have e1 : ((n : Int) == (k : Int) + 1) = false := by simp; omega
  by_cases h : n = k
  · have e2 : ((n : Int) == (k : Int)) = true := by simp; omega
    rw [decide_eq_true h]
    clear hn h
    go_enter Try.func48, Try.ntmps48
    go_wp2
    go_ret2
    exact ⟨rfl, rfl⟩
  · have e2 : ((n : Int) == (k : Int)) = false := by simp; omega
    rw [decide_eq_false h]
    clear hn h
    go_enter Try.func48, Try.ntmps48
    go_wp2
    go_ret2
    exact ⟨rfl, rfl⟩
theorem last_any (w : World) (a : Option Addr) (n cap k : Nat) (b : Option Addr) (m mc : Nat) (z : Bool) (ws : List ByteArray) (h : RowT w a n ws) (hk : k ≤ 10) (hm : StrsAt w b m (mayL z)) :
    Calls Try.prog 48 #[.slice a n cap, .int .i64 (k : Int), .slice b m mc] w fun e w' => e = .returned (.tuple #[.bool (lastQ ws k z), .bool (lastOk ws k z)]) ∧ w' = w := by
  have hl := h.at_.len
  by_cases hn : n = k + 1
  · obtain ⟨g, o, x, ha, hx, _, _, hc⟩ := h.at_.key k (by omega)
    have hw := wd_at hx
    refine (last_two w a n cap k b m mc z x g o ha hn hk hc hm (cB z x) rfl).mono ?_
    rintro e w' ⟨rfl, rfl⟩
    refine ⟨?_, rfl⟩
    have e1 : lastOk ws k z = cB z x := by
      unfold lastOk
      rw [hw, decide_eq_false (by omega), decide_eq_true (by omega), Bool.false_or, Bool.true_and]
      rfl
    have e2 : lastQ ws k z = (cB z x && isW x w_noreply) := by
      unfold lastQ cB
      rw [hw, decide_eq_true (by omega), Bool.true_and]
      cases isW x w_noreply <;> cases isW x w_zero <;> cases z <;> rfl
    rw [e1, e2]
  · refine (last_one w a n cap k _ hn hk h.few).mono ?_
    rintro e w' ⟨rfl, rfl⟩
    refine ⟨?_, rfl⟩
    have e1 : lastOk ws k z = decide (n = k) := by
      unfold lastOk
      rw [decide_eq_false (show ¬ ws.length = k + 1 by omega), Bool.false_and, Bool.or_false, hl]
    have e2 : lastQ ws k z = false := by
      unfold lastQ
      rw [decide_eq_false (show ¬ ws.length = k + 1 by omega), Bool.false_and]
    rw [e1, e2]
end Go.Proofs.Ytmfjaehajdephab

/-
  The program's get, gat, arith, touch, remove, flush, word.
-/
namespace Go.Proofs.Ytmfjaehajdephab
open Go.Shelf Go.RowKit Go.Deep
set_option linter.unusedVariables false
set_option linter.unusedSimpArgs false
set_option maxRecDepth 1000000

/-- The row without its first K texts: what 'w[K:]' gives. -/
theorem run_tailS (a : Option Addr) (n cap K : Nat) (g o : Nat) (ha : a = some ⟨g, o, none⟩) (hk : K < n) (hn : n ≤ cap) :
    ∃ a' c', (∀ X, (Instr.sliceAt 28 (.slice a n cap) (some (.int .i64 (K : Int))) none none).run Try.prog X = .ok (.slice a' (n - K) c') X) ∧ a' = some ⟨g, o + K, none⟩ := by
  subst ha
  refine ⟨some ⟨g, o + K, none⟩, cap - K, fun X => ?_, rfl⟩
  simp [go_sem]
  rw [if_pos (by omega), if_neg (by omega)]
theorem StrsAt.tail {w : World} {g o n : Nat} {xs : List ByteArray} (h : StrsAt w (some ⟨g, o, none⟩) n xs) (K : Nat) (hk : K ≤ n) : StrsAt w (some ⟨g, o + K, none⟩) (n - K) (xs.drop K) :=
  ⟨by rw [List.length_drop, ← h.len], fun x hx => h.fits x (List.mem_of_mem_drop hx), fun i x hx => by
    rw [List.getElem?_drop] at hx
    obtain ⟨b, o', ha, hb, hc⟩ := h.cell (K + i) x hx
    simp only [Option.some.injEq, Addr.mk.injEq, and_true] at ha
    obtain ⟨rfl, rfl⟩ := ha
    exact ⟨_, _, rfl, hb, by rw [Nat.add_assoc]; exact hc⟩⟩
theorem RowT.tail {w : World} {g o n : Nat} {xs : List ByteArray} (h : RowT w (some ⟨g, o, none⟩) n xs) (K : Nat) (hk : K ≤ n) : RowT w (some ⟨g, o + K, none⟩) (n - K) (xs.drop K) :=
  ⟨h.at_.tail K hk, by have := h.few; omega, fun x hx => by cases hx; exact h.kind ⟨g, o, none⟩ rfl⟩
theorem keep_cell {w' : World} {g o : Nat} {x : Value} (b : Nat) (c : Cm) (a : Option Addr) (n cap : Nat) (hne : g ≠ b) (h : w'.cell? ⟨g, o, none⟩ = some x) : (w'.setCells b 0 (cmL c (.slice a n cap))).cell? ⟨g, o, none⟩ = some x :=
  (World.cell?_of_block (a := ⟨g, o, none⟩) (heap_setCells_other b (cmL c (.slice a n cap)) 0 w' g hne)).trans h
theorem bad_q (l : List UInt8) (t : ByteArray) (ht : t = mk8 l) (w : World) : Calls Try.prog 35 #[.string t] w fun e w' => e = .returned (cmV (badC l) (.slice none 0 0)) ∧ Below w.heap.size w w' := by
  subst ht
  exact bad_any _ w
theorem get_few (w : World) (a : Option Addr) (n cap : Nat) (hn : n < 2) :
    Calls Try.prog 53 #[.slice a n cap] w fun e w' => e = .returned (cmV errC (.slice none 0 0)) ∧ Below w.heap.size w w' := by
  have B := (Below.refl w.heap.size w).alloc (Nat.le_refl _) (cmO cmZ (.slice none 0 0))
  have e2 : (w.alloc (cmO cmZ (.slice none 0 0))).heap[w.heap.size]? = some (cmO cmZ (.slice none 0 0)) := heap_alloc_new _ _
  have hsz : (w.alloc (cmO cmZ (.slice none 0 0))).heap.size = w.heap.size + 1 := by simp only [World.size_alloc]
  go_enter Try.func53, Try.ntmps53
  go_wp2_with fail
  refine (bad_any _ _).mono ?_
  rintro e w' ⟨rfl, hb⟩
  replace B := B.trans (hb.mono B.size)
  replace e2 := (hb.block _ (by simp only [World.size_alloc]; omega)).trans e2
  clear hb hsz
  obtain ⟨p0, p1, p2, p3, p4, p5, p6, p7, p8, p9, p10, p11⟩ := CmAt.of e2
  obtain ⟨f0, f1, f2, f3, f4, f5, f6, f7, f8, f9, f10, f11⟩ := CmFz.of e2
  have H2 := hide (fun c v => heap_cm e2 c v)
  clear e2
  go_wp2
  exact ret_cm rfl w.heap.size errC (.slice none 0 0) rfl (H2.out errC (.slice none 0 0)) rfl ⟨rfl, below_cm B (by omega) errC (.slice none 0 0)⟩
/-- What stands while a region of the call makes and stores a command in block b. -/
structure RgB (w : World) (b : Nat) (W : World) : Prop where
  bel : Below w.heap.size w W
  lo : w.heap.size ≤ b
  blk : W.heap[b]? = some (cmO cmZ (.slice none 0 0))
theorem RgB.new (w : World) : RgB w w.heap.size (w.alloc (cmO cmZ (.slice none 0 0))) := ⟨(Below.refl w.heap.size w).alloc (Nat.le_refl _) _, Nat.le_refl _, heap_alloc_new _ _⟩
theorem RgB.later {w W W' : World} {b : Nat} (h : RgB w b W) (k : Below W.heap.size W W') : RgB w b W' :=
  ⟨h.bel.trans (k.mono h.bel.size), h.lo, (k.block b (Array.getElem?_eq_some_iff.1 h.blk).1).trans h.blk⟩
theorem RgB.drew {w W : World} {b : Nat} (h : RgB w b W) : RgB w b W.drew := ⟨h.bel.drew, h.lo, h.blk⟩
theorem RgB.cell {w W : World} {b g o : Nat} {v : Value} (h : RgB w b W) (hg : g < w.heap.size) (hc : w.cell? ⟨g, o, none⟩ = some v) : W.cell? ⟨g, o, none⟩ = some v :=
  (World.cell?_of_block (h.bel.block g hg)).trans hc
theorem RgB.row {w W : World} {b : Nat} (h : RgB w b W) {a : Option Addr} {n : Nat} {xs : List ByteArray} (hr : RowT w a n xs) : RowT W a n xs := hr.later h.bel
/-- The command r is stored in block b. -/
structure RgD (w : World) (b : Nat) (r : Cm) (W : World) : Prop where
  bel : Below w.heap.size w W
  lo : w.heap.size ≤ b
  row : ∃ a n c, RowT W a n r.keys ∧ W.heap[b]? = some (cmO r (.slice a n c))
def isCm (W : World) (r : Cm) (u : Value) : Prop := ∃ a n c, u = cmV r (.slice a n c) ∧ RowT W a n r.keys
theorem RgB.store {w W : World} {b : Nat} {r : Cm} {u : Value} (h : RgB w b W) (hu : isCm W r u) : ∃ W', (storeVar 33 ⟨b, 0, none⟩ u).run Try.prog W = .ok () W' ∧ RgD w b r W' := by
  obtain ⟨a, n, c, rfl, hr⟩ := hu
  have hB : Blk W b (cmL cmZ (.slice none 0 0)) 33 := h.blk
  have ht : W.there b 0 12 := fun j hj => by
    refine ⟨?_, hB.frozen _⟩
    rw [Nat.zero_add]
    obtain ⟨u, hu⟩ : ∃ u, (cmL cmZ (.slice none 0 0))[j]? = some u := ⟨_, List.getElem?_eq_getElem hj⟩
    rw [hB.cell hu]
    rfl
  refine ⟨_, run_storeVar_mid W b 0 33 #[.string r.what, .string r.verb, .slice a n c, .string r.data, .int .u32 r.fl, .int .i64 r.ex, .int .u64 r.cs, .int .u64 r.y, .bool r.wc, .bool r.wt, .bool r.dn, .bool r.q] ht size27 (by simp [Value.oneCell']), below_cm h.bel h.lo r (.slice a n c), h.lo, a, n, c, ?_, heap_cm h.blk r (.slice a n c)⟩
  refine hr.keepF (F := [b]) (fun x hx hb => ?_) (keep_cm W b r (.slice a n c))
  obtain ⟨cs, fz, hc⟩ := hr.kind x hx
  simp only [List.mem_singleton] at hb
  rw [hb, h.blk] at hc
  simp at hc
def CI1 (w : World) (b : Nat) (r : Cm) : List Value → World → Prop
  | [], W => RgB w b W
  | [u], W => RgB w b W ∧ isCm W r u
  | [_, _], W => RgD w b r W
  | _, _ => False
theorem CI1.bel {w : World} {b : Nat} {r : Cm} {us : List Value} {W : World} (h : CI1 w b r us W) : Below w.heap.size w W := by
  match us, h with
  | [], h => exact RgB.bel h
  | [_], h => exact RgB.bel h.1
  | [_, _], h => exact RgD.bel h
theorem CI1.done {w : World} {b : Nat} {r : Cm} {us : List Value} {W : World} (h : CI1 w b r us W) (hl : us.length = 2) : ∃ u v, us = [u, v] ∧ RgD w b r W := by
  match us, h with
  | [u, v], h => exact ⟨u, v, rfl, h⟩
  | [], _ => cases hl
  | [_], _ => cases hl
theorem ret_rgd {f : Func} {k : Tmp} (hres : f.results = #[.cell k 33]) {a : Act} {w W : World} {R : Ending → World → Prop} (b : Nat) (r : Cm) (hD : RgD w b r W)
    (hp : a.tmps.getD k undef = .pointer (some ⟨b, 0, none⟩)) (hd : a.defers = []) (hR : ∀ a n c, RowT W a n r.keys → Below w.heap.size w W → R (.returned (cmV r (.slice a n c))) W) : bodyPost Try.prog f R .ret a W := by
  obtain ⟨x, n, c, h1, h2⟩ := hD.row
  exact ret_cm hres b r (.slice x n c) hp h2 hd (hR x n c h1 hD.bel)
theorem call_isCm {f : FuncId} {args : Array Value} {w W : World} {b : Nat} {r : Cm} (h : RgB w b W) (hc : Calls Try.prog f args W fun e w' => ∃ a' n' c', e = .returned (cmV r (.slice a' n' c')) ∧ RowT w' a' n' r.keys ∧ Below W.heap.size W w') :
    Calls Try.prog f args W fun e w2 => ∃ v, e = .returned v ∧ CI1 w b r ([] ++ [v]) w2 := by
  refine hc.mono ?_
  rintro e w' ⟨a', n', c', rfl, hr, hb⟩
  exact ⟨_, rfl, h.later hb, a', n', c', rfl, hr⟩
def sl1 (N : Nat) : Value := .slice (some ⟨N, 0, none⟩) 1 1
/-- A row of one text is made ahead of the call. -/
def CI2 (w : World) (b : Nat) (r : Cm) (N : Nat) (x : ByteArray) : List Value → World → Prop
  | [], W => RgB w b W ∧ W.heap.size = N
  | [u0], W => (RgB w b W ∧ u0 = sl1 N) ∧ RowT W (some ⟨N, 0, none⟩) 1 [x]
  | [u0, u], W => (RgB w b W ∧ u0 = sl1 N) ∧ isCm W r u
  | [u0, _, _], W => u0 = sl1 N ∧ RgD w b r W
  | _, _ => False
theorem CI2.bel {w : World} {b : Nat} {r : Cm} {N : Nat} {x : ByteArray} {us : List Value} {W : World} (h : CI2 w b r N x us W) : Below w.heap.size w W := by
  match us, h with
  | [], h => exact RgB.bel h.1
  | [_], h => exact RgB.bel h.1.1
  | [_, _], h => exact RgB.bel h.1.1
  | [_, _, _], h => exact RgD.bel h.2
theorem CI2.fst {w : World} {b : Nat} {r : Cm} {N : Nat} {x : ByteArray} {us : List Value} {W : World} (h : CI2 w b r N x us W) (h0 : 0 < us.length) : us.getD 0 undef = sl1 N := by
  match us, h with
  | [], h => cases h0
  | [_], h => exact h.1.2
  | [_, _], h => exact h.1.2
  | [_, _, _], h => exact h.1
theorem CI2.done {w : World} {b : Nat} {r : Cm} {N : Nat} {x : ByteArray} {us : List Value} {W : World} (h : CI2 w b r N x us W) (hl : us.length = 3) : ∃ u v, us = [sl1 N, u, v] ∧ RgD w b r W := by
  match us, h with
  | [u0, u, v], h => obtain ⟨h1, h2⟩ := h; subst h1; exact ⟨u, v, rfl, h2⟩
  | [], _ => cases hl
  | [_], _ => cases hl
  | [_, _], _ => cases hl
theorem row_one (W : World) (k : ByteArray) (hk : k.size ≤ 140737488351232) : RowT (W.alloc (.cells #[.string k] 9)) (some ⟨W.heap.size, 0, none⟩) 1 [k] :=
  ⟨one_strs W k hk, by omega, fun x hx => by cases hx; exact ⟨_, _, heap_alloc_new _ _⟩⟩
theorem CI2.row {w W : World} {b : Nat} {r : Cm} {N : Nat} {x : ByteArray} (h : CI2 w b r N x [] W) (hx : x.size ≤ 140737488351232) :
    (Instr.buildSlice 28 1 #[(0, .string x)]).run Try.prog W = .ok (sl1 N) (W.alloc (.cells #[.string x] 9)) ∧ CI2 w b r N x ([] ++ [sl1 N]) (W.alloc (.cells #[.string x] 9)) := by
  obtain ⟨h1, h2⟩ := h
  subst h2
  exact ⟨by simp [go_sem, sl1], ⟨h1.later ((Below.refl _ _).alloc (Nat.le_refl _) _), rfl⟩, row_one W x hx⟩
theorem call_isCm2 {f : FuncId} {args : Array Value} {w W : World} {b : Nat} {r : Cm} {N : Nat} {x : ByteArray} {u0 : Value} (h : CI2 w b r N x [u0] W) (hc : Calls Try.prog f args W fun e w' => ∃ a' n' c', e = .returned (cmV r (.slice a' n' c')) ∧ RowT w' a' n' r.keys ∧ Below W.heap.size W w') :
    Calls Try.prog f args W fun e w2 => ∃ v, e = .returned v ∧ CI2 w b r N x ([u0] ++ [v]) w2 := by
  refine hc.mono ?_
  rintro e w' ⟨a', n', c', rfl, hr, hb⟩
  exact ⟨_, rfl, ⟨h.1.1.later hb, h.1.2⟩, a', n', c', rfl, hr⟩
theorem one_cell {w : World} {g o n : Nat} {ws : List ByteArray} (h : RowT w (some ⟨g, o, none⟩) n ws) (i : Nat) (x : ByteArray) (hx : ws[i]? = some x) : g < w.heap.size ∧ w.cell? ⟨g, o + i, none⟩ = some (.string x) := by
  obtain ⟨b', o', hb', hlt, hc0⟩ := h.at_.cell i x hx
  cases hb'
  exact ⟨hlt, hc0⟩
theorem cell_later {w W : World} {g o : Nat} {v : Value} (h : g < w.heap.size ∧ w.cell? ⟨g, o, none⟩ = some v) (k : Below w.heap.size w W) : W.cell? ⟨g, o, none⟩ = some v :=
  (World.cell?_of_block (k.block g h.1)).trans h.2
theorem may_row (W : World) (N : Nat) (hN : N = W.heap.size) : StrsAt (W.alloc (.cells #[.string ⟨#[110, 111, 114, 101, 112, 108, 121]⟩] 9)) (some ⟨N, 0, none⟩) 1 (mayL false) := by
  subst hN
  exact one_strs W (mk8 w_noreply) (by decide)
theorem may_row2 (W : World) (N : Nat) (hN : N = W.heap.size) : StrsAt (W.alloc (.cells #[.string ⟨#[110, 111, 114, 101, 112, 108, 121]⟩, .string ⟨#[48]⟩] 9)) (some ⟨N, 0, none⟩) 2 (mayL true) := by
  subst hN
  exact ⟨rfl, fun x hx => by simp [mayL] at hx; rcases hx with rfl | rfl <;> decide, fun i x hx => by
    have hg : (W.alloc (.cells #[.string ⟨#[110, 111, 114, 101, 112, 108, 121]⟩, .string ⟨#[48]⟩] 9)).heap[W.heap.size]? = some (.cells #[.string ⟨#[110, 111, 114, 101, 112, 108, 121]⟩, .string ⟨#[48]⟩] 9) := heap_alloc_new _ _
    refine ⟨W.heap.size, 0, rfl, by simp only [World.size_alloc]; omega, ?_⟩
    match i, hx with
    | 0, hx => cases hx; exact Blk.cell (L := [.string ⟨#[110, 111, 114, 101, 112, 108, 121]⟩, .string ⟨#[48]⟩]) hg (i := 0) rfl
    | 1, hx => cases hx; exact Blk.cell (L := [.string ⟨#[110, 111, 114, 101, 112, 108, 121]⟩, .string ⟨#[48]⟩]) hg (i := 1) rfl⟩
theorem keep_row {W : World} {b : Nat} {a : Option Addr} {n : Nat} {xs : List ByteArray} (hr : RowT W a n xs) {c0 : Cm} {v0 : Value} (hb : W.heap[b]? = some (cmO c0 v0)) (c : Cm) (v : Value) : RowT (W.setCells b 0 (cmL c v)) a n xs := by
  refine hr.keepF (F := [b]) (fun x hx h => ?_) (keep_cm W b c v)
  obtain ⟨cs, fz, hc⟩ := hr.kind x hx
  simp only [List.mem_singleton] at h
  rw [h, hb] at hc
  simp at hc
/-- As CI2, what is built of the row among the turning ones. -/
def CI3 (w : World) (b : Nat) (r : Cm) (N : Nat) (x : ByteArray) (B : Value) : List Value → World → Prop
  | [], W => RgB w b W ∧ W.heap.size = N
  | [u0], W => (RgB w b W ∧ u0 = sl1 N) ∧ RowT W (some ⟨N, 0, none⟩) 1 [x]
  | [u0, u1], W => (RgB w b W ∧ u0 = sl1 N ∧ u1 = B) ∧ RowT W (some ⟨N, 0, none⟩) 1 [x]
  | [u0, u1, u], W => (RgB w b W ∧ u0 = sl1 N ∧ u1 = B) ∧ isCm W r u
  | [u0, u1, _, _], W => (u0 = sl1 N ∧ u1 = B) ∧ RgD w b r W
  | _, _ => False
section
variable {w : World} {b : Nat} {r : Cm} {N : Nat} {x : ByteArray} {B : Value} {us : List Value} {W : World}
theorem CI3.bel (h : CI3 w b r N x B us W) : Below w.heap.size w W := by
  match us, h with
  | [], h => exact RgB.bel h.1
  | [_], h => exact RgB.bel h.1.1
  | [_, _], h => exact RgB.bel h.1.1
  | [_, _, _], h => exact RgB.bel h.1.1
  | [_, _, _, _], h => exact RgD.bel h.2
theorem CI3.done (h : CI3 w b r N x B us W) (hl : us.length = 4) : ∃ u v, us = [sl1 N, B, u, v] ∧ RgD w b r W := by
  match us, h with
  | [u0, u1, u, v], h => obtain ⟨⟨h1, h3⟩, h2⟩ := h; subst h1; subst h3; exact ⟨u, v, rfl, h2⟩
  | [], _ => cases hl
  | [_], _ => cases hl
  | [_, _], _ => cases hl
  | [_, _, _], _ => cases hl
theorem CI3.row (h : CI3 w b r N x B [] W) (hx : x.size ≤ 140737488351232) :
    (Instr.buildSlice 28 1 #[(0, .string x)]).run Try.prog W = .ok (sl1 N) (W.alloc (.cells #[.string x] 9)) ∧ CI3 w b r N x B ([] ++ [sl1 N]) (W.alloc (.cells #[.string x] 9)) := by
  obtain ⟨h1, h2⟩ := h
  subst h2
  exact ⟨by simp [go_sem, sl1], ⟨h1.later ((Below.refl _ _).alloc (Nat.le_refl _) _), rfl⟩, row_one W x hx⟩
theorem CI3.bld {u0 : Value} (h : CI3 w b r N x B [u0] W) : u0 = sl1 N ∧ CI3 w b r N x B ([u0] ++ [B]) W := ⟨h.1.2, ⟨h.1.1, h.1.2, rfl⟩, h.2⟩
theorem CI3.call {f : FuncId} {args : Array Value} {u0 u1 : Value} (h : CI3 w b r N x B [u0, u1] W) (hc : Calls Try.prog f args W fun e w' => ∃ a' n' c', e = .returned (cmV r (.slice a' n' c')) ∧ RowT w' a' n' r.keys ∧ Below W.heap.size W w') :
    Calls Try.prog f args W fun e w2 => ∃ v, e = .returned v ∧ CI3 w b r N x B ([u0, u1] ++ [v]) w2 := by
  refine hc.mono ?_
  rintro e w' ⟨a', n', c', rfl, hr, hb⟩
  exact ⟨_, rfl, ⟨h.1.1.later hb, h.1.2⟩, a', n', c', rfl, hr⟩
theorem CI3.store {u0 u1 u : Value} (h : CI3 w b r N x B [u0, u1, u] W) : ∃ W', (storeVar 33 ⟨b, 0, none⟩ u).run Try.prog W = .ok () W' ∧ CI3 w b r N x B ([u0, u1, u] ++ [undef]) W' := by
  obtain ⟨W', h1, h2⟩ := RgB.store h.1.1 h.2
  exact ⟨W', h1, h.1.2, h2⟩
end
end Go.Proofs.Ytmfjaehajdephab
