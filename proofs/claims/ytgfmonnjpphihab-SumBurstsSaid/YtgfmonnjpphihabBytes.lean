/-
  Slices of bytes: what append makes of one that the call itself has made; how it reads.
-/
import Derived.Test.YtgfmonnjpphihabCrc
import Derived.Laws.AppendOwnNone
namespace Go.Proofs.Ytgfmonnjpphihab
open Go.RowKit Math

/-- WHAT THE WALK IS TOLD OF A SLICE OF INTEGERS THAT CAME IN: it is nil; or it leads to a row of 'cap' cells, the numbers 'zs' (the first 'len' are its elements, the rest its spare room), each fitting its kind. -/
def IsRow (k : IntKind) (w : World) (a : Option Addr) (len cap : Nat) (zs : List Int) : Prop :=
  (a = none ∧ len = 0 ∧ cap = 0 ∧ zs = []) ∨
  ∃ x, a = some x ∧ len ≤ cap ∧ cap ≤ maxLen ∧ zs.length = cap ∧ (∀ i, i < zs.length → w.cell? (x.add i) = some (.int k (zs.getD i 0))) ∧ ∀ n ∈ zs, (Lit.int k n).wf = true

theorem IsRow.reads {w : World} {a : Option Addr} {len cap : Nat} {zs : List Int} (h : IsRow .u8 w a len cap zs) :
    (zs.take len).length = len ∧ Reads w a (zs.take len) ∧ (a = none → cap = 0) ∧ len ≤ maxLen := by
  rcases h with ⟨rfl, rfl, rfl, rfl⟩ | ⟨x, rfl, hl, hm, hz, hcell, hwz⟩
  · exact ⟨rfl, Reads.nil _ _, fun _ => rfl, by unfold maxLen; omega⟩
  · have hlen : (zs.take len).length = len := by rw [List.length_take]; omega
    refine ⟨hlen, ⟨?_, ?_⟩, (fun e => by cases e), by omega⟩
    · intro i hi
      obtain ⟨b, off, spot⟩ := x
      have h0 := hcell 0 (by omega)
      have hspot : spot = none := by simpa [Addr.add] using World.cell?_spot h0
      subst hspot
      refine ⟨b, off, rfl, ?_⟩
      have hc := hcell i (by omega)
      have e : (zs.take len).getD i 0 = zs.getD i 0 := by
        rw [List.getD_eq_getElem?_getD, List.getD_eq_getElem?_getD, List.getElem?_take, if_pos (by omega)]
      rw [e, ← hc]
      by_cases hi0 : i = 0
      · subst hi0; simp [Addr.add]
      · simp [Addr.add, hi0]
    · intro i
      rw [List.getD_eq_getElem?_getD]
      cases hi : (zs.take len)[i]? with
      | none => simp
      | some n =>
        have hmem : n ∈ zs := List.mem_of_mem_take (List.mem_of_getElem? hi)
        have hb := hwz n hmem
        simp [Lit.wf] at hb
        simp only [Option.getD_some]
        revert hb
        simp [IntKind.min, IntKind.max, IntKind.bits, IntKind.signed]

theorem more_at (c : Int) (a : Option Addr) (n cap : Nat) (l : List Int) (w : World) (hn : l.length = n) (hm : n ≤ maxLen) (hr : Reads w a l) :
    Calls Try.prog 7 #[.int .u32 c, .slice a n cap] w fun e w' => e = .returned (.int .u32 (U (more (B c) l))) ∧ w' = w := by
  subst hn; exact more_any c a cap l w hm hr
theorem crc_at (a : Option Addr) (n cap : Nat) (l : List Int) (w : World) (hn : l.length = n) (hm : n ≤ maxLen) (hr : Reads w a l) :
    Calls Try.prog 5 #[.slice a n cap] w fun e w' => e = .returned (.int .u32 (U (more 0#32 l))) ∧ w' = w := by
  subst hn; exact crc_any a cap l w hm hr

theorem info5 : (Try.prog.info? 5).map (fun i => (i.zero, i.size, i.bytes)) = some (some (.int .u8 0), 1, 1) := by kernel_rfl

theorem ownsRow_slice {w : World} {base : Nat} {v : Value} {n : Nat} {xs : List Value} (h : w.ownsRow base 5 1 v n xs) : ∃ a c, v = .slice a n c := by
  rcases h with ⟨_, ⟨rfl, rfl⟩ | ⟨g, cap, cur, rfl, _⟩⟩
  · exact ⟨none, 0, rfl⟩
  · exact ⟨_, _, rfl⟩

theorem ownsRow_reads {w : World} {base : Nat} {a : Option Addr} {n c : Nat} {l : List Int} (h : w.ownsRow base 5 1 (.slice a n c) n (l.map (Value.int .u8)))
    (hl : ∀ i, 0 ≤ l.getD i 0 ∧ l.getD i 0 ≤ 255) : l.length = n ∧ Reads w a l := by
  obtain ⟨h0, h⟩ := h
  have hn : l.length = n := by simpa using h0
  refine ⟨hn, ?_, hl⟩
  intro i hi
  rcases h with ⟨e, rfl⟩ | ⟨g, cap, cur, e, hb, hg, h1, h2, h3, h4⟩
  · omega
  · injection e with e1 e2 e3
    refine ⟨g, 0, e1, ?_⟩
    have h5 : cur.toList[i]? = some (Value.int .u8 (l.getD i 0)) := by
      have : (cur.toList.take (n * 1))[i]? = some (Value.int .u8 (l.getD i 0)) := by
        rw [h4, List.getElem?_map, List.getElem?_eq_getElem hi]
        simp [List.getD_eq_getElem?_getD, List.getElem?_eq_getElem hi]
      rw [List.getElem?_take] at this
      split at this
      · exact this
      · cases this
    simp [World.cell?, hg]
    rw [← Array.getElem?_toList]; exact h5

/-- 'append(dst, src...)': 'dst' the call's own, 'src' any slice of bytes. -/
theorem wpList_append_bytes {w : World} {ops : Array Oper} {rest : List Oper} {o : Oper} {act : Act} {Q : Exit → Act → World → Prop} (hgd : o.guard = none) (s x : Operand)
    (ho : o.op = .call { callee := .builtin .append, args := #[s, x], argTypes := #[22, 22] })
    (base : Nat) (v : Value) (n : Nat) (xs : List Value) (hs : act.eval s = v) (hown : w.ownsRow base 5 1 v n xs)
    (ad : Option Addr) (len c : Nat) (l : List Int) (hx : act.eval x = .slice ad len c) (hlen : l.length = len) (hr : Reads w ad l) (hnil : ad = none → c = 0)
    (hbd : n + len ≤ 1000000) (hbase : base ≤ w.heap.size)
    (h : ∀ a' c' w', w'.ownsRow base 5 1 (.slice a' (n + len) c') (n + len) (xs ++ l.map (Value.int .u8)) → w.grownBy w' v.ownBlock → wpList Try.prog ops Q rest (act.put o.dst (.slice a' (n + len) c')) w') :
    wpList Try.prog ops Q (o :: rest) act w := by
  obtain ⟨i, hi, hi2⟩ := Option.map_eq_some_iff.1 info5
  simp only [Prod.mk.injEq] at hi2
  obtain ⟨hz0, hz1, hz2⟩ := hi2
  cases ad with
  | none =>
    have hc := hnil rfl
    subst hc
    have hl0 : l = [] := by
      cases l with
      | nil => rfl
      | cons y ys => obtain ⟨_, _, e, _⟩ := hr.1 0 (by simp); cases e
    subst hl0
    simp at hlen
    subst hlen
    obtain ⟨a', c', rfl⟩ := ownsRow_slice hown
    refine wpList_append_own_none hgd s x 22 ho base 5 i 1 Try.underlying22 hi _ n xs hs hown hx ?_
    have := h a' c' w (by simpa using hown) ⟨rfl, rfl, rfl, Nat.le_refl _, fun _ _ _ => rfl⟩
    simpa using this
  | some p =>
    refine wpList_append_own w hgd s x 22 ho base 5 i (.int .u8 0) 1 1 Try.underlying22 hi hz0 hz1 hz2 rfl (by decide) v n xs hs hown p len c (l.map (Value.int .u8)) hx (by simpa using hlen) ?_ ?_ (by unfold maxLen; omega) (by omega) hbase ?_
    · intro j u hj
      have hjl : j < l.length := by
        rcases Nat.lt_or_ge j l.length with h' | h'
        · exact h'
        · simp [List.getElem?_eq_none h'] at hj
      obtain ⟨b, off, e, hc⟩ := hr.1 j hjl
      cases e
      rw [List.getElem?_map, List.getElem?_eq_getElem hjl] at hj
      simp [List.getD_eq_getElem?_getD, List.getElem?_eq_getElem hjl] at hj hc
      subst hj
      rw [← hc]
      by_cases hj0 : j = 0
      · subst hj0; simp [Addr.add]
      · simp [Addr.add, hj0]
    · intro u hu
      obtain ⟨_, _, rfl⟩ := List.mem_map.1 hu
      rfl
    · intro v' w' h1 h2 _
      obtain ⟨a', c', rfl⟩ := ownsRow_slice h1
      exact h a' c' w' h1 h2

end Go.Proofs.Ytgfmonnjpphihab
