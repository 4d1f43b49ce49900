/- Chains in memory: find, push, drop. -/
import Derived.Test.YtkjfildnemgbiaaMem
import Derived.Test.YtkjfildnemgbiaaHash
import Derived.Test.YtkjfildnemgbiaaMath
import Derived.Deep.LoopGhost
set_option linter.unusedVariables false
set_option linter.unusedSimpArgs false
set_option maxRecDepth 8000
namespace Go.Proofs.Ytkjfildnemgbiaa
open Go.RowKit Go.Deep Math Tab

/-- An entry: its block, its key, its number. -/
structure En where
  b : Nat
  k : List UInt8
  v : Int
def hd : List En → Value
  | [] => .pointer none
  | e :: _ => .pointer (some ⟨e.b, 0, none⟩)
theorem hd_nil : hd [] = .pointer none := rfl
theorem hd_cons (e : En) (r : List En) : hd (e :: r) = .pointer (some ⟨e.b, 0, none⟩) := rfl
/-- A chain's entries, each with the next one. -/
def Chain (w : World) : List En → Prop
  | [] => True
  | e :: r => Blk w e.b [.string (txt e.k), .int .i64 e.v, hd r] 58 ∧ e.k.length ≤ maxLen ∧ Chain w r
theorem Chain.same {w w' : World} : ∀ {l : List En}, Chain w l → (∀ e ∈ l, w'.heap[e.b]? = w.heap[e.b]?) → Chain w' l
  | [], _, _ => trivial
  | e :: r, h, k => ⟨h.1.same (k e (List.mem_cons_self ..)), h.2.1, Chain.same h.2.2 (fun x hx => k x (List.mem_cons_of_mem _ hx))⟩
theorem Chain.lt {w : World} : ∀ {l : List En}, Chain w l → ∀ e ∈ l, e.b < w.heap.size
  | [], _, e, he => by cases he
  | a :: r, h, e, he => by
    rcases List.mem_cons.1 he with rfl | he
    · exact h.1.lt
    · exact Chain.lt h.2.2 e he
theorem Chain.app {w : World} : ∀ {l m : List En}, Chain w (l ++ m) → Chain w m
  | [], _, h => h
  | e :: r, m, h => Chain.app (l := r) h.2.2
theorem Chain.at {w : World} : ∀ {l : List En}, Chain w l → ∀ e ∈ l, ∃ q, Blk w e.b [.string (txt e.k), .int .i64 e.v, .pointer q] 58 ∧ e.k.length ≤ maxLen
  | [], _, e, he => by cases he
  | a :: r, h, e, he => by
    rcases List.mem_cons.1 he with rfl | he
    · cases r with
      | nil => exact ⟨_, h.1, h.2.1⟩
      | cons x r => exact ⟨_, h.1, h.2.1⟩
    · exact Chain.at h.2.2 e he
theorem hd_ptr (r : List En) : ∃ q, hd r = .pointer q := by cases r <;> exact ⟨_, rfl⟩

/-- Where a key's entry lies. -/
def fndP (key : List UInt8) (l : List En) : Option Addr := (l.find? fun e => decide (e.k = key)).map fun e => ⟨e.b, 0, none⟩
theorem fndP_nil (key : List UInt8) : fndP key [] = none := rfl
theorem fndP_eq {key : List UInt8} {e : En} {r : List En} (h : e.k = key) : fndP key (e :: r) = some ⟨e.b, 0, none⟩ := by simp [fndP, h]
theorem fndP_ne {key : List UInt8} {e : En} {r : List En} (h : e.k ≠ key) : fndP key (e :: r) = fndP key r := by simp [fndP, h]
theorem ret_ptr {a b : Option Addr} (h : a = b) : Ending.returned (.pointer a) = .returned (.pointer b) := by rw [h]
theorem txt_eq (a b : List UInt8) : ((txt a).toList == (txt b).toList) = decide (a = b) := by
  rw [txt_list, txt_list]; by_cases h : a = b <;> simp [h]
set_option maxHeartbeats 1000000 in
theorem find_any (c o : Nat) (es : List En) (key : List UInt8) (w : World) (hc : w.cell? ⟨c, o, none⟩ = some (hd es)) (hC : Chain w es) :
    Calls Try.prog 28 #[.pointer (some ⟨c, o, none⟩), .string (txt key)] w fun e w' => e = .returned (.pointer (fndP key es)) ∧ w' = w := by
  have HC := hide hC
  clear hC
  obtain ⟨q, hq⟩ := hd_ptr es
  rw [hq] at hc
  have HQ := hide hq
  clear hq
  go_enter Try.func28, Try.ntmps28
  go_wp2
  go_loopg [5] es.length (fun kx s5 wr => ∃ (r : List En), s5 = hd r ∧ wr = w ∧ Hid (Chain w r ∧ r.length ≤ kx ∧ fndP key r = fndP key es))
  case atStart => exact ⟨es, HQ.out.symm, rfl, HC.out, Nat.le_refl _, rfl⟩
  case round =>
    obtain ⟨r, rfl, rfl, I⟩ := hrel
    cases r with
    | nil =>
      simp only [hd_nil]
      go_wp2
      go_ret
      exact ⟨ret_ptr I.out.2.2, rfl⟩
    | cons e r =>
      simp only [hd_cons]
      have c0 := I.out.1.1.cell (i := 0) rfl
      have c2 := I.out.1.1.cell (i := 2) rfl
      have he := txt_eq e.k key
      by_cases hk : e.k = key
      · have hk1 := fndP_eq (r := r) hk
        have HK := hide hk1
        rw [decide_eq_true hk] at he
        clear hk hk1
        generalize txt e.k = te at *
        generalize txt key = tk at *
        go_wp2
        go_ret
        exact ⟨ret_ptr (HK.out.symm.trans I.out.2.2), rfl⟩
      · have hk1 := fndP_ne (r := r) hk
        have HK := hide hk1
        rw [decide_eq_false hk] at he
        clear hk hk1
        generalize txt e.k = te at *
        generalize txt key = tk at *
        obtain ⟨q2, hq2⟩ := hd_ptr r
        rw [hq2] at c2
        have HQ2 := hide hq2
        clear hq2
        go_wp2
        go_roundg r.length
        case measure => have := I.out.2.1; simp only [List.length_cons] at this; omega
        case rel => exact ⟨r, HQ2.out.symm, rfl, I.out.1.2.2, Nat.le_refl _, HK.out.symm.trans I.out.2.2⟩

/-! ### push, drop -/
set_option maxHeartbeats 1000000 in
theorem push_any (c o b : Nat) (q : Option Addr) (K : ByteArray) (v : Int) (q0 : Value) (w : World) (hc : w.cell? ⟨c, o, none⟩ = some (.pointer q)) (hf : w.frozen? ⟨c, o, none⟩ = false) (hb : Blk w b [.string K, .int .i64 v, q0] 58) (hne : c ≠ b) :
    Calls Try.prog 32 #[.pointer (some ⟨c, o, none⟩), .pointer (some ⟨b, 0, none⟩)] w fun e w' => e = .returned (.tuple #[]) ∧ w' = (w.setCell ⟨b, 2, none⟩ (.pointer q)).setCell ⟨c, o, none⟩ (.pointer (some ⟨b, 0, none⟩)) := by
  have c2 := hb.cell (i := 2) rfl
  have f2 := hb.frozen 2
  have c3 : (w.setCell ⟨b, 2, none⟩ (.pointer q)).cell? ⟨c, o, none⟩ = some (.pointer q) := by
    rw [World.cell?_setCell_other _ _ _ _ (by intro e; injection e with e1; exact hne (by first | exact e1 | exact e1.symm))]; exact hc
  have f3 : (w.setCell ⟨b, 2, none⟩ (.pointer q)).frozen? ⟨c, o, none⟩ = false := by
    rw [World.frozen?_setCell]; exact hf
  go_enter Try.func32, Try.ntmps32
  go_wp2
  go_end0
  exact ⟨rfl, rfl⟩

/-- Where the pointer behind these entries lies. -/
def pa (c o : Nat) : List En → Nat × Nat
  | [] => (c, o)
  | x :: A => pa x.b 2 A
theorem pa_snoc (c o : Nat) (A : List En) (e : En) : pa c o (A ++ [e]) = (e.b, 2) := by
  induction A generalizing c o with
  | nil => rfl
  | cons x A ih => exact ih x.b 2
theorem pa_cell {w : World} {c o : Nat} {A r : List En} (hc : w.cell? ⟨c, o, none⟩ = some (hd (A ++ r))) (hf : w.frozen? ⟨c, o, none⟩ = false) (hC : Chain w (A ++ r)) :
    w.cell? ⟨(pa c o A).1, (pa c o A).2, none⟩ = some (hd r) ∧ w.frozen? ⟨(pa c o A).1, (pa c o A).2, none⟩ = false := by
  induction A generalizing c o with
  | nil => exact ⟨hc, hf⟩
  | cons x A ih => exact ih (c := x.b) (o := 2) (hC.1.cell rfl) (hC.1.frozen 2) hC.2.2
set_option maxHeartbeats 2000000 in
theorem drop_any (c o : Nat) (es : List En) (key : List UInt8) (w : World) (hc : w.cell? ⟨c, o, none⟩ = some (hd es)) (hf : w.frozen? ⟨c, o, none⟩ = false) (hC : Chain w es) :
    Calls Try.prog 40 #[.pointer (some ⟨c, o, none⟩), .string (txt key)] w fun e w' =>
      (e = .returned (.bool false) ∧ w' = w ∧ ∀ x ∈ es, x.k ≠ key) ∨ (∃ A x B, e = .returned (.bool true) ∧ es = A ++ x :: B ∧ x.k = key ∧ (∀ y ∈ A, y.k ≠ key) ∧ w' = w.setCell ⟨(pa c o A).1, (pa c o A).2, none⟩ (hd B)) := by
  have HC := hide hC
  have Hc := hide hc
  have Hf := hide hf
  clear hC hc hf
  go_enter Try.func40, Try.ntmps40
  go_wp2
  go_loopg [5] es.length (fun kx s5 wr => ∃ (A r : List En), s5 = .pointer (some ⟨(pa c o A).1, (pa c o A).2, none⟩) ∧ wr = w ∧ Hid (es = A ++ r ∧ r.length ≤ kx ∧ ∀ y ∈ A, y.k ≠ key))
  case atStart => exact ⟨[], es, rfl, rfl, rfl, Nat.le_refl _, fun y hy => by cases hy⟩
  case round =>
    obtain ⟨A, r, rfl, rfl, I⟩ := hrel
    have hcf : Hid (_ ∧ _) := pa_cell (w := wr) (c := c) (o := o) (A := A) (r := r) (by rw [← I.out.1]; exact Hc.out) Hf.out (by rw [← I.out.1]; exact HC.out)
    have HCr : Hid (Chain wr r) := Chain.app (l := A) (by rw [← I.out.1]; exact HC.out)
    obtain ⟨P, hP⟩ : ∃ P, P = pa c o A := ⟨_, rfl⟩
    rw [← hP] at hcf ⊢
    have HP := hide hP
    clear hP
    obtain ⟨p1, p2⟩ := P
    simp only at hcf ⊢
    have h1 := hcf.out.1
    have h2 := hcf.out.2
    clear hcf
    cases r with
    | nil =>
      rw [hd_nil] at h1
      go_wp2
      go_ret
      refine .inl ⟨rfl, rfl, ?_⟩
      have e1 := I.out.1
      rw [List.append_nil] at e1
      rw [e1]
      exact I.out.2.2
    | cons e r =>
      rw [hd_cons] at h1
      have c0 := HCr.out.1.cell (i := 0) rfl
      have c2 := HCr.out.1.cell (i := 2) rfl
      have he := txt_eq e.k key
      obtain ⟨q2, hq2⟩ := hd_ptr r
      rw [hq2] at c2
      have HQ2 := hide hq2
      clear hq2
      by_cases hk : e.k = key
      · have HK := hide hk
        rw [decide_eq_true hk] at he
        clear hk
        generalize txt e.k = te at *
        generalize txt key = tk at *
        go_wp2
        go_ret
        refine .inr ⟨A, e, r, rfl, I.out.1, HK.out, I.out.2.2, ?_⟩
        rw [← HP.out, HQ2.out]
      · have HK := hide hk
        rw [decide_eq_false hk] at he
        clear hk
        generalize txt e.k = te at *
        generalize txt key = tk at *
        go_wp2
        go_roundg r.length
        case measure => have := I.out.2.1; simp only [List.length_cons] at this; omega
        case rel =>
          refine ⟨A ++ [e], r, ?_, rfl, by rw [I.out.1]; simp, Nat.le_refl _, fun y hy => ?_⟩
          · rw [pa_snoc]
          · rcases List.mem_append.1 hy with hy | hy
            · exact I.out.2.2 y hy
            · simp at hy; subst hy; exact HK.out
end Go.Proofs.Ytkjfildnemgbiaa
