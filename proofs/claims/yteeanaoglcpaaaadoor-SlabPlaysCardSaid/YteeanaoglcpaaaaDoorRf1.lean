/- The document's own slab in memory: Used, Class, Free. -/
import Derived.Test.YteeanaoglcpaaaaDoorTot
import Derived.Test.YteeanaoglcpaaaaDoorInts
set_option linter.unusedVariables false
set_option linter.unusedSimpArgs false
set_option maxRecDepth 8000
namespace Go.Proofs.YteeanaoglcpaaaaDoor
open Go.RowKit Go.Deep Go.Shelf Math

/-- A page, and the block of its bits. -/
structure Rp where
  p : Pg
  g : Nat
def Rp.m (x : Rp) : Nat := many x.p.c.toNat
def rpV (x : Rp) : Value := if x.p.c = -1 then .slice none 0 0 else .slice (some ⟨x.g, 0, none⟩) x.m x.m
def blV (x : Rp) : List Value := (List.range x.m).map fun j => Value.bool (x.p.t.testBit j)
theorem blV_len (x : Rp) : (blV x).length = x.m := by simp [blV]
theorem blV_get {x : Rp} {j : Nat} (h : j < x.m) : (blV x)[j]? = some (.bool (x.p.t.testBit j)) := by simp [blV, h]
def pgs (l : List Rp) : List Pg := l.map Rp.p
theorem pgs_len (l : List Rp) : (pgs l).length = l.length := by simp [pgs]
theorem pgs_get {l : List Rp} {i : Nat} {x : Rp} (h : l[i]? = some x) : (pgs l)[i]? = some x.p := by simp [pgs, h]
theorem pgs_set (l : List Rp) (i : Nat) (x : Rp) : pgs (l.set i x) = (pgs l).set i x.p := by simp [pgs, List.map_set]
def ofL (l : List Rp) : List Value := l.map fun x => Value.int .i64 x.p.c
def tkV (l : List Rp) : List Value := l.map rpV
theorem ofL_get {l : List Rp} {i : Nat} {x : Rp} (h : l[i]? = some x) (pad : List Value) : (ofL l ++ pad)[i]? = some (.int .i64 x.p.c) := by
  have hi := (List.getElem?_eq_some_iff.1 h).1
  rw [List.getElem?_append_left (by simpa [ofL] using hi)]
  simp [ofL, h]
theorem tkV_get {l : List Rp} {i : Nat} {x : Rp} (h : l[i]? = some x) (pad : List Value) : (tkV l ++ pad)[i]? = some (rpV x) := by
  have hi := (List.getElem?_eq_some_iff.1 h).1
  rw [List.getElem?_append_left (by simpa [tkV] using hi)]
  simp [tkV, h]
/-- The document's slab r: its rows a, b, and each page's bits. -/
structure RfIn (w : World) (B r a b ca cb : Nat) (l : List Rp) : Prop where
  box : Blk w r [.slice (some ⟨a, 0, none⟩) l.length ca, .slice (some ⟨b, 0, none⟩) l.length cb] 41
  of : ∃ pad, Blk w a (ofL l ++ pad) 3
  tk : ∃ pad, Blk w b (tkV l ++ pad) 53
  bit : ∀ x ∈ l, x.p.c ≠ -1 → Blk w x.g (blV x) 4 ∧ B ≤ x.g
  nd : ∀ (i j : Nat) (x y : Rp), l[i]? = some x → l[j]? = some y → x.p.c ≠ -1 → y.p.c ≠ -1 → i ≠ j → x.g ≠ y.g
  ok : Good (pgs l)
  hca : l.length ≤ ca
  hcb : l.length ≤ cb
  n1 : 1 ≤ l.length
  n9 : l.length ≤ 1024
  lr : B ≤ r
  la : B ≤ a
  lb : B ≤ b
section
variable {w w' : World} {B r a b ca cb : Nat} {l : List Rp}
theorem RfIn.same (h : RfIn w B r a b ca cb l) (hr : w'.heap[r]? = w.heap[r]?) (ha : w'.heap[a]? = w.heap[a]?) (hb : w'.heap[b]? = w.heap[b]?) (hg : ∀ x ∈ l, x.p.c ≠ -1 → w'.heap[x.g]? = w.heap[x.g]?) : RfIn w' B r a b ca cb l :=
  ⟨h.box.same hr, by obtain ⟨p, q⟩ := h.of; exact ⟨p, q.same ha⟩, by obtain ⟨p, q⟩ := h.tk; exact ⟨p, q.same hb⟩, fun x hx hc => ⟨(h.bit x hx hc).1.same (hg x hx hc), (h.bit x hx hc).2⟩, h.nd, h.ok, h.hca, h.hcb, h.n1, h.n9, h.lr, h.la, h.lb⟩
theorem RfIn.alt (h : RfIn w B r a b ca cb l) : a < w.heap.size := by obtain ⟨_, q⟩ := h.of; exact q.lt
theorem RfIn.blt (h : RfIn w B r a b ca cb l) : b < w.heap.size := by obtain ⟨_, q⟩ := h.tk; exact q.lt
theorem RfIn.below (h : RfIn w B r a b ca cb l) (k : Below w.heap.size w w') : RfIn w' B r a b ca cb l :=
  h.same (k.block r h.box.lt) (k.block a h.alt) (k.block b h.blt) (fun x hx hc => k.block _ (h.bit x hx hc).1.lt)
theorem RfIn.keep (h : RfIn w B r a b ca cb l) {F : List Nat} (k : Keep F w w') (hr : r ∉ F) (ha : a ∉ F) (hb : b ∉ F) (hg : ∀ x ∈ l, x.p.c ≠ -1 → x.g ∉ F) : RfIn w' B r a b ca cb l :=
  h.same (k.block r h.box.lt hr) (k.block a h.alt ha) (k.block b h.blt hb) (fun x hx hc => k.block _ (h.bit x hx hc).1.lt (hg x hx hc))
/-- A slab's turn leaves it alone. -/
theorem RfIn.slab (h : RfIn w B r a b ca cb l) {f s : Nat} {l' : List Pg} (S : SlIn w f s l') (k : Keep [s] w w') : RfIn w' B r a b ca cb l := by
  obtain ⟨_, qa⟩ := h.of
  obtain ⟨_, qb⟩ := h.tk
  refine h.keep k ?_ ?_ ?_ ?_
  · simpa using fun e : r = s => (h.box.ty_ne (t' := 51) (q := s) S.row (by decide)) e
  · simpa using fun e : a = s => (qa.ty_ne (t' := 51) (q := s) S.row (by decide)) e
  · simpa using fun e : b = s => (qb.ty_ne (t' := 51) (q := s) S.row (by decide)) e
  · intro x hx hc
    simpa using fun e : x.g = s => ((h.bit x hx hc).1.ty_ne (t' := 51) (q := s) S.row (by decide)) e
theorem RfIn.c0 (h : RfIn w B r a b ca cb l) : w.cell? ⟨r, 0, none⟩ = some (.slice (some ⟨a, 0, none⟩) l.length ca) := h.box.cell (i := 0) rfl
theorem RfIn.c1 (h : RfIn w B r a b ca cb l) : w.cell? ⟨r, 1, none⟩ = some (.slice (some ⟨b, 0, none⟩) l.length cb) := h.box.cell (i := 1) rfl
theorem RfIn.ofc (h : RfIn w B r a b ca cb l) {i : Nat} {x : Rp} (hx : l[i]? = some x) : w.cell? ⟨a, i, none⟩ = some (.int .i64 x.p.c) := by
  obtain ⟨p, q⟩ := h.of
  exact q.cell (ofL_get hx p)
theorem RfIn.tkc (h : RfIn w B r a b ca cb l) {i : Nat} {x : Rp} (hx : l[i]? = some x) : w.cell? ⟨b, i, none⟩ = some (rpV x) := by
  obtain ⟨p, q⟩ := h.tk
  exact q.cell (tkV_get hx p)
theorem RfIn.ok' (h : RfIn w B r a b ca cb l) {i : Nat} {x : Rp} (hx : l[i]? = some x) : x.p.Ok := h.ok.at (pgs_get hx)
end
theorem pop_next (k t : Nat) : pop (k + 1) t = pop k t + if t.testBit k then 1 else 0 := by
  rw [pop_split k 1 t, Nat.testBit_eq_decide_div_mod_eq]
  show pop k t + (t / 2 ^ k % 2 + 0) = _
  rcases Nat.mod_two_eq_zero_or_one (t / 2 ^ k) with h | h <;> simp [h]
/-- What a page that has a class is. -/
theorem Rp.cls {x : Rp} (h : x.p.Ok) (hc : x.p.c ≠ -1) : ∃ c : Nat, c < 6 ∧ x.p.c = (c : Int) ∧ x.m = many c ∧ x.p.t < 2 ^ x.m := by
  rcases h with ⟨h1, _⟩ | ⟨c, h1, h2, h3⟩
  · exact absurd h1 hc
  · have e : x.m = many c := by unfold Rp.m; rw [h2]; rfl
    exact ⟨c, h1, h2, e, by rw [e]; exact h3⟩
set_option maxHeartbeats 2000000 in
theorem usedR (B r a b ca cb : Nat) (l : List Rp) (i : Nat) (x : Rp) (w : World) (h : RfIn w B r a b ca cb l) (hx : l[i]? = some x) :
    Calls Tryd.prog 20 #[.pointer (some ⟨r, 0, none⟩), .int .i64 (i : Int)] w fun e w' => e = .returned (.int .i64 (pop 64 x.p.t : Int)) ∧ w' = w := by
  have k1 := h.c1
  have k2 := h.tkc hx
  have hil : i < l.length := (List.getElem?_eq_some_iff.1 hx).1
  have hok := h.ok' hx
  have hcb := h.hcb
  obtain ⟨n, hn⟩ : ∃ n, n = l.length := ⟨_, rfl⟩
  rw [← hn] at k1 hil hcb
  have hil2 : (i : Int) < (n : Int) := by omega
  by_cases hc : x.p.c = -1
  · have ht : x.p.t = 0 := by
      rcases hok with ⟨_, h2⟩ | ⟨c, _, h2, _⟩
      · exact h2
      · omega
    rw [ht, pop_zero]
    unfold rpV at k2
    rw [if_pos hc] at k2
    clear hc ht hok h hx hn
    go_enter Tryd.func20, Tryd.ntmps20
    go_wp2
    go_loop [5, 6] (fun s5 s6 => s5 = .int .i64 0 ∧ s6 = .int .i64 0) (fun _ _ => 0)
    case atStart => exact ⟨rfl, rfl⟩
    case round =>
      obtain ⟨rfl, rfl⟩ := hrel
      go_wp2
      go_ret
      exact ⟨rfl, rfl⟩
  · obtain ⟨c, _, _, _, ht⟩ := Rp.cls hok hc
    have hb := (h.bit x (List.mem_of_getElem? hx) hc).1
    unfold rpV at k2
    rw [if_neg hc] at k2
    have hM6 : x.m ≤ 64 := many_le _
    have HB : Hid (∀ j, j < x.m → w.cell? ⟨x.g, j, none⟩ = some (.bool (x.p.t.testBit j))) := fun j hj => hb.cell (blV_get hj)
    have HP : Hid (pop 64 x.p.t = pop x.m x.p.t) := pop_short ht hM6
    obtain ⟨M, hM⟩ : ∃ M, M = x.m := ⟨_, rfl⟩
    rw [← hM] at k2 hM6 HB HP
    obtain ⟨⟨pc, t⟩, g⟩ := x
    simp only at *
    clear hc hok h hx hn ht hb hM
    go_enter Tryd.func20, Tryd.ntmps20
    go_wp2
    go_loop [5, 6] (fun s5 s6 => ∃ j q : Nat, s6 = .int .i64 j ∧ s5 = .int .i64 q ∧ j ≤ M ∧ q ≤ j ∧ Hid (q = pop j t)) (fun _ s6 => M - (intOf s6).toNat)
    case atStart => exact ⟨0, 0, rfl, rfl, Nat.zero_le _, Nat.le_refl _, rfl⟩
    case round =>
      obtain ⟨j, q, rfl, rfl, hjM, hqj, I⟩ := hrel
      by_cases hj : j < M
      · have hj2 : (j : Int) < (M : Int) := by omega
        have k3 := HB.out j hj
        have E := hide (pop_next j t)
        rw [← I.out] at E
        cases hbt : t.testBit j with
        | true =>
          rw [hbt] at k3 E
          clear hbt
          go_wp2
          go_round
          case rel => exact ⟨j + 1, q + 1, by go_num, by go_num, by omega, by omega, E.out.symm⟩
          case measure => simp [intOf]; omega
        | false =>
          rw [hbt] at k3 E
          clear hbt
          go_wp2
          go_round
          case rel => exact ⟨j + 1, q, by go_num, rfl, by omega, by omega, E.out.symm⟩
          case measure => simp [intOf]; omega
      · obtain rfl : j = M := by omega
        have hj2 : ¬ (j : Int) < (j : Int) := by omega
        go_wp2
        go_ret
        exact ⟨ret_int (by rw [I.out, HP.out]), rfl⟩
end Go.Proofs.YteeanaoglcpaaaaDoor
