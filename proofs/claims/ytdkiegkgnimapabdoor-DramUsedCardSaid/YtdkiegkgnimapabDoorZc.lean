/- Joined texts: Tb1, Tb2, Tb3. -/
import Derived.Test.YtdkiegkgnimapabDoorMem
import Derived.Test.YtdkiegkgnimapabDoorZt
import Derived.Test.YtdkiegkgnimapabDoorTMath
import Derived.Deep.LoopGhost
import Derived.BigQuiet
import Derived.Deep.QuietTactic
/- Chains in memory: find, push, drop. -/
set_option linter.unusedVariables false
set_option linter.unusedSimpArgs false
set_option maxRecDepth 8000
namespace Go.Proofs.YtdkiegkgnimapabDoor.Tbl
open Go.RowKit Go.Deep Math Tab

/-- An entry: its block, its key, its number. -/
structure En where
  b : Nat
  k : List UInt8
  v : Int
def hd : List En → Value
  | [] => .pointer none
  | e :: _ => .pointer (some ⟨e.b, 0, none⟩)
theorem hd_nil : hd [] = .pointer none := rfl
theorem hd_cons (e : En) (r : List En) : hd (e :: r) = .pointer (some ⟨e.b, 0, none⟩) := rfl
/-- A chain's entries, each with the next one. -/
def Chain (w : World) : List En → Prop
  | [] => True
  | e :: r => Blk w e.b [.string (txt e.k), .int .i64 e.v, hd r] 107 ∧ e.k.length ≤ maxLen ∧ Chain w r
theorem Chain.same {w w' : World} : ∀ {l : List En}, Chain w l → (∀ e ∈ l, w'.heap[e.b]? = w.heap[e.b]?) → Chain w' l
  | [], _, _ => trivial
  | e :: r, h, k => ⟨h.1.same (k e (List.mem_cons_self ..)), h.2.1, Chain.same h.2.2 (fun x hx => k x (List.mem_cons_of_mem _ hx))⟩
theorem Chain.lt {w : World} : ∀ {l : List En}, Chain w l → ∀ e ∈ l, e.b < w.heap.size
  | [], _, e, he => by cases he
  | a :: r, h, e, he => by
    rcases List.mem_cons.1 he with rfl | he
    · exact h.1.lt
    · exact Chain.lt h.2.2 e he
theorem Chain.app {w : World} : ∀ {l m : List En}, Chain w (l ++ m) → Chain w m
  | [], _, h => h
  | e :: r, m, h => Chain.app (l := r) h.2.2
theorem Chain.at {w : World} : ∀ {l : List En}, Chain w l → ∀ e ∈ l, ∃ q, Blk w e.b [.string (txt e.k), .int .i64 e.v, .pointer q] 107 ∧ e.k.length ≤ maxLen
  | [], _, e, he => by cases he
  | a :: r, h, e, he => by
    rcases List.mem_cons.1 he with rfl | he
    · cases r with
      | nil => exact ⟨_, h.1, h.2.1⟩
      | cons x r => exact ⟨_, h.1, h.2.1⟩
    · exact Chain.at h.2.2 e he
theorem hd_ptr (r : List En) : ∃ q, hd r = .pointer q := by cases r <;> exact ⟨_, rfl⟩

/-- Where a key's entry lies. -/
def fndP (key : List UInt8) (l : List En) : Option Addr := (l.find? fun e => decide (e.k = key)).map fun e => ⟨e.b, 0, none⟩
theorem fndP_nil (key : List UInt8) : fndP key [] = none := rfl
theorem fndP_eq {key : List UInt8} {e : En} {r : List En} (h : e.k = key) : fndP key (e :: r) = some ⟨e.b, 0, none⟩ := by simp [fndP, h]
theorem fndP_ne {key : List UInt8} {e : En} {r : List En} (h : e.k ≠ key) : fndP key (e :: r) = fndP key r := by simp [fndP, h]
theorem ret_ptr {a b : Option Addr} (h : a = b) : Ending.returned (.pointer a) = .returned (.pointer b) := by rw [h]
theorem txt_eq (a b : List UInt8) : ((txt a).toList == (txt b).toList) = decide (a = b) := by
  rw [txt_list, txt_list]; by_cases h : a = b <;> simp [h]
set_option maxHeartbeats 1000000 in
theorem find_any (c o : Nat) (es : List En) (key : List UInt8) (w : World) (hc : w.cell? ⟨c, o, none⟩ = some (hd es)) (hC : Chain w es) :
    Calls Tryd.prog 44 #[.pointer (some ⟨c, o, none⟩), .string (txt key)] w fun e w' => e = .returned (.pointer (fndP key es)) ∧ w' = w := by
  have HC := hide hC
  clear hC
  obtain ⟨q, hq⟩ := hd_ptr es
  rw [hq] at hc
  have HQ := hide hq
  clear hq
  go_enter Tryd.func44, Tryd.ntmps44
  go_wp2
  go_loopg [5] es.length (fun kx s5 wr => ∃ (r : List En), s5 = hd r ∧ wr = w ∧ Hid (Chain w r ∧ r.length ≤ kx ∧ fndP key r = fndP key es))
  case atStart => exact ⟨es, HQ.out.symm, rfl, HC.out, Nat.le_refl _, rfl⟩
  case round =>
    obtain ⟨r, rfl, rfl, I⟩ := hrel
    cases r with
    | nil =>
      simp only [hd_nil]
      go_wp2
      go_ret
      exact ⟨ret_ptr I.out.2.2, rfl⟩
    | cons e r =>
      simp only [hd_cons]
      have c0 := I.out.1.1.cell (i := 0) rfl
      have c2 := I.out.1.1.cell (i := 2) rfl
      have he := txt_eq e.k key
      by_cases hk : e.k = key
      · have hk1 := fndP_eq (r := r) hk
        have HK := hide hk1
        rw [decide_eq_true hk] at he
        clear hk hk1
        generalize txt e.k = te at *
        generalize txt key = tk at *
        go_wp2
        go_ret
        exact ⟨ret_ptr (HK.out.symm.trans I.out.2.2), rfl⟩
      · have hk1 := fndP_ne (r := r) hk
        have HK := hide hk1
        rw [decide_eq_false hk] at he
        clear hk hk1
        generalize txt e.k = te at *
        generalize txt key = tk at *
        obtain ⟨q2, hq2⟩ := hd_ptr r
        rw [hq2] at c2
        have HQ2 := hide hq2
        clear hq2
        go_wp2
        go_roundg r.length
        case measure => have := I.out.2.1; simp only [List.length_cons] at this; omega
        case rel => exact ⟨r, HQ2.out.symm, rfl, I.out.1.2.2, Nat.le_refl _, HK.out.symm.trans I.out.2.2⟩

/-! ### push, drop -/
set_option maxHeartbeats 1000000 in
theorem push_any (c o b : Nat) (q : Option Addr) (K : ByteArray) (v : Int) (q0 : Value) (w : World) (hc : w.cell? ⟨c, o, none⟩ = some (.pointer q)) (hf : w.frozen? ⟨c, o, none⟩ = false) (hb : Blk w b [.string K, .int .i64 v, q0] 107) (hne : c ≠ b) :
    Calls Tryd.prog 45 #[.pointer (some ⟨c, o, none⟩), .pointer (some ⟨b, 0, none⟩)] w fun e w' => e = .returned (.tuple #[]) ∧ w' = (w.setCell ⟨b, 2, none⟩ (.pointer q)).setCell ⟨c, o, none⟩ (.pointer (some ⟨b, 0, none⟩)) := by
  have c2 := hb.cell (i := 2) rfl
  have f2 := hb.frozen 2
  have c3 : (w.setCell ⟨b, 2, none⟩ (.pointer q)).cell? ⟨c, o, none⟩ = some (.pointer q) := by
    rw [World.cell?_setCell_other _ _ _ _ (by intro e; injection e with e1; exact hne (by first | exact e1 | exact e1.symm))]; exact hc
  have f3 : (w.setCell ⟨b, 2, none⟩ (.pointer q)).frozen? ⟨c, o, none⟩ = false := by
    rw [World.frozen?_setCell]; exact hf
  go_enter Tryd.func45, Tryd.ntmps45
  go_wp2
  go_end0
  exact ⟨rfl, rfl⟩

/-- Where the pointer behind these entries lies. -/
def pa (c o : Nat) : List En → Nat × Nat
  | [] => (c, o)
  | x :: A => pa x.b 2 A
theorem pa_snoc (c o : Nat) (A : List En) (e : En) : pa c o (A ++ [e]) = (e.b, 2) := by
  induction A generalizing c o with
  | nil => rfl
  | cons x A ih => exact ih x.b 2
theorem pa_cell {w : World} {c o : Nat} {A r : List En} (hc : w.cell? ⟨c, o, none⟩ = some (hd (A ++ r))) (hf : w.frozen? ⟨c, o, none⟩ = false) (hC : Chain w (A ++ r)) :
    w.cell? ⟨(pa c o A).1, (pa c o A).2, none⟩ = some (hd r) ∧ w.frozen? ⟨(pa c o A).1, (pa c o A).2, none⟩ = false := by
  induction A generalizing c o with
  | nil => exact ⟨hc, hf⟩
  | cons x A ih => exact ih (c := x.b) (o := 2) (hC.1.cell rfl) (hC.1.frozen 2) hC.2.2
set_option maxHeartbeats 2000000 in
theorem drop_any (c o : Nat) (es : List En) (key : List UInt8) (w : World) (hc : w.cell? ⟨c, o, none⟩ = some (hd es)) (hf : w.frozen? ⟨c, o, none⟩ = false) (hC : Chain w es) :
    Calls Tryd.prog 79 #[.pointer (some ⟨c, o, none⟩), .string (txt key)] w fun e w' =>
      (e = .returned (.bool false) ∧ w' = w ∧ ∀ x ∈ es, x.k ≠ key) ∨ (∃ A x B, e = .returned (.bool true) ∧ es = A ++ x :: B ∧ x.k = key ∧ (∀ y ∈ A, y.k ≠ key) ∧ w' = w.setCell ⟨(pa c o A).1, (pa c o A).2, none⟩ (hd B)) := by
  have HC := hide hC
  have Hc := hide hc
  have Hf := hide hf
  clear hC hc hf
  go_enter Tryd.func79, Tryd.ntmps79
  go_wp2
  go_loopg [5] es.length (fun kx s5 wr => ∃ (A r : List En), s5 = .pointer (some ⟨(pa c o A).1, (pa c o A).2, none⟩) ∧ wr = w ∧ Hid (es = A ++ r ∧ r.length ≤ kx ∧ ∀ y ∈ A, y.k ≠ key))
  case atStart => exact ⟨[], es, rfl, rfl, rfl, Nat.le_refl _, fun y hy => by cases hy⟩
  case round =>
    obtain ⟨A, r, rfl, rfl, I⟩ := hrel
    have hcf : Hid (_ ∧ _) := pa_cell (w := wr) (c := c) (o := o) (A := A) (r := r) (by rw [← I.out.1]; exact Hc.out) Hf.out (by rw [← I.out.1]; exact HC.out)
    have HCr : Hid (Chain wr r) := Chain.app (l := A) (by rw [← I.out.1]; exact HC.out)
    obtain ⟨P, hP⟩ : ∃ P, P = pa c o A := ⟨_, rfl⟩
    rw [← hP] at hcf ⊢
    have HP := hide hP
    clear hP
    obtain ⟨p1, p2⟩ := P
    simp only at hcf ⊢
    have h1 := hcf.out.1
    have h2 := hcf.out.2
    clear hcf
    cases r with
    | nil =>
      rw [hd_nil] at h1
      go_wp2
      go_ret
      refine .inl ⟨rfl, rfl, ?_⟩
      have e1 := I.out.1
      rw [List.append_nil] at e1
      rw [e1]
      exact I.out.2.2
    | cons e r =>
      rw [hd_cons] at h1
      have c0 := HCr.out.1.cell (i := 0) rfl
      have c2 := HCr.out.1.cell (i := 2) rfl
      have he := txt_eq e.k key
      obtain ⟨q2, hq2⟩ := hd_ptr r
      rw [hq2] at c2
      have HQ2 := hide hq2
      clear hq2
      by_cases hk : e.k = key
      · have HK := hide hk
        rw [decide_eq_true hk] at he
        clear hk
        generalize txt e.k = te at *
        generalize txt key = tk at *
        go_wp2
        go_ret
        refine .inr ⟨A, e, r, rfl, I.out.1, HK.out, I.out.2.2, ?_⟩
        rw [← HP.out, HQ2.out]
      · have HK := hide hk
        rw [decide_eq_false hk] at he
        clear hk
        generalize txt e.k = te at *
        generalize txt key = tk at *
        go_wp2
        go_roundg r.length
        case measure => have := I.out.2.1; simp only [List.length_cons] at this; omega
        case rel =>
          refine ⟨A ++ [e], r, ?_, rfl, by rw [I.out.1]; simp, Nat.le_refl _, fun y hy => ?_⟩
          · rw [pa_snoc]
          · rcases List.mem_append.1 hy with hy | hy
            · exact I.out.2.2 y hy
            · simp at hy; subst hy; exact HK.out
end Go.Proofs.YtdkiegkgnimapabDoor.Tbl

/- A table in memory: Len, Buckets, Left, where a key stands. -/
set_option linter.unusedVariables false
set_option linter.unusedSimpArgs false
set_option maxRecDepth 8000
namespace Go.Proofs.YtdkiegkgnimapabDoor.Tbl
open Go.RowKit Go.Deep Math Tab

def oSl (ob mo n : Nat) : Value := if n = 0 then .slice none 0 0 else .slice (some ⟨ob, mo, none⟩) n n
theorem oSl_zero (ob mo : Nat) : oSl ob mo 0 = .slice none 0 0 := rfl
theorem oSl_pos (ob mo n : Nat) (h : 0 < n) : oSl ob mo n = .slice (some ⟨ob, mo, none⟩) n n := by unfold oSl; rw [if_neg (by omega)]
theorem oSl_is (ob mo n : Nat) : ∃ a, oSl ob mo n = .slice a n n := by
  unfold oSl
  split
  · rename_i h; exact ⟨_, by rw [h]⟩
  · exact ⟨_, rfl⟩
/-- The table f: its new buckets in block nb, the old ones that are left in block ob from mo on. -/
structure TbIn (w : World) (f nb ob mo : Nat) (nw od : List (List En)) (cnt : Nat) : Prop where
  own : Blk w f [.slice (some ⟨nb, 0, none⟩) nw.length nw.length, oSl ob mo od.length, .int .i64 (cnt : Int)] 86
  rN : Blk w nb (nw.map hd) 120
  rO : 0 < od.length → Blk w ob (List.replicate mo (.pointer none) ++ od.map hd) 120
  ne : 0 < od.length → nb ≠ ob
  ch : ∀ c ∈ od ++ nw, Chain w c
  nd : ((od ++ nw).flatten.map En.b).Nodup
def foot (f nb ob : Nat) (nw od : List (List En)) : List Nat := f :: nb :: ((if 0 < od.length then [ob] else []) ++ (od ++ nw).flatten.map En.b)
theorem TbIn.same {w w' : World} {f nb ob mo : Nat} {nw od : List (List En)} {cnt : Nat} (h : TbIn w f nb ob mo nw od cnt) (k : ∀ b ∈ foot f nb ob nw od, w'.heap[b]? = w.heap[b]?) : TbIn w' f nb ob mo nw od cnt := by
  refine ⟨h.own.same (k f (by simp [foot])), h.rN.same (k nb (by simp [foot])), fun h0 => (h.rO h0).same (k ob (by simp [foot, h0])), h.ne, fun c hc => (h.ch c hc).same (fun e he => k _ ?_), h.nd⟩
  unfold foot
  refine List.mem_cons_of_mem _ (List.mem_cons_of_mem _ (List.mem_append_right _ ?_))
  exact List.mem_map.2 ⟨e, List.mem_flatten.2 ⟨c, hc, he⟩, rfl⟩
theorem TbIn.lt {w : World} {f nb ob mo : Nat} {nw od : List (List En)} {cnt : Nat} (h : TbIn w f nb ob mo nw od cnt) : ∀ b ∈ foot f nb ob nw od, b < w.heap.size := by
  intro b hb
  unfold foot at hb
  rcases List.mem_cons.1 hb with rfl | hb
  · exact h.own.lt
  rcases List.mem_cons.1 hb with rfl | hb
  · exact h.rN.lt
  rcases List.mem_append.1 hb with hb | hb
  · by_cases h0 : 0 < od.length
    · rw [if_pos h0] at hb; simp at hb; subst hb; exact (h.rO h0).lt
    · rw [if_neg h0] at hb; cases hb
  · obtain ⟨e, he, rfl⟩ := List.mem_map.1 hb
    obtain ⟨c, hc, hce⟩ := List.mem_flatten.1 he
    exact (h.ch c hc).lt e hce
theorem TbIn.below {w w' : World} {f nb ob mo : Nat} {nw od : List (List En)} {cnt : Nat} (h : TbIn w f nb ob mo nw od cnt) (k : Below w.heap.size w w') : TbIn w' f nb ob mo nw od cnt :=
  h.same (fun b hb => k.block b (h.lt b hb))
section
variable {w : World} {f nb ob mo : Nat} {nw od : List (List En)} {cnt : Nat}
theorem TbIn.c0 (h : TbIn w f nb ob mo nw od cnt) : w.cell? ⟨f, 0, none⟩ = some (.slice (some ⟨nb, 0, none⟩) nw.length nw.length) := h.own.cell rfl
theorem TbIn.c1 (h : TbIn w f nb ob mo nw od cnt) : w.cell? ⟨f, 1, none⟩ = some (oSl ob mo od.length) := h.own.cell rfl
theorem TbIn.c2 (h : TbIn w f nb ob mo nw od cnt) : w.cell? ⟨f, 2, none⟩ = some (.int .i64 (cnt : Int)) := h.own.cell rfl
theorem TbIn.cN (h : TbIn w f nb ob mo nw od cnt) {i : Nat} {c : List En} (hc : nw[i]? = some c) : w.cell? ⟨nb, i, none⟩ = some (hd c) := h.rN.cell (by simp [hc])
theorem TbIn.cO (h : TbIn w f nb ob mo nw od cnt) {i : Nat} {c : List En} (hc : od[i]? = some c) : w.cell? ⟨ob, mo + i, none⟩ = some (hd c) := by
  refine (h.rO ?_).cell ?_
  · have := (List.getElem?_eq_some_iff.1 hc).1; omega
  · rw [List.getElem?_append_right (by simp)]; simp [hc]

/-! ### Len, Buckets, Left -/
set_option maxHeartbeats 400000 in
theorem len_any (h : TbIn w f nb ob mo nw od cnt) : Calls Tryd.prog 67 #[.pointer (some ⟨f, 0, none⟩)] w fun e w' => e = .returned (.int .i64 (cnt : Int)) ∧ w' = w := by
  have c2 := h.c2
  clear h
  go_enter Tryd.func67, Tryd.ntmps67
  go_wp2
  go_ret
  exact ⟨rfl, rfl⟩
set_option maxHeartbeats 400000 in
theorem buckets_any (h : TbIn w f nb ob mo nw od cnt) : Calls Tryd.prog 68 #[.pointer (some ⟨f, 0, none⟩)] w fun e w' => e = .returned (.int .i64 (nw.length : Int)) ∧ w' = w := by
  have c0 := h.c0
  clear h
  go_enter Tryd.func68, Tryd.ntmps68
  go_wp2
  go_ret
  exact ⟨rfl, rfl⟩
set_option maxHeartbeats 400000 in
theorem left_any (h : TbIn w f nb ob mo nw od cnt) : Calls Tryd.prog 65 #[.pointer (some ⟨f, 0, none⟩)] w fun e w' => e = .returned (.int .i64 (od.length : Int)) ∧ w' = w := by
  have c1 := h.c1
  obtain ⟨a, ha⟩ := oSl_is ob mo od.length
  rw [ha] at c1
  clear h ha
  go_enter Tryd.func65, Tryd.ntmps65
  go_wp2
  go_ret
  exact ⟨rfl, rfl⟩

theorem drewN_more {w W : World} {a : Nat} (h : W = w.drewN a) (b : Nat) : ∃ q, W.drewN b = w.drewN q := ⟨a + b, by rw [h, World.drewN_drewN]⟩
/-! ### Where a key stands -/
/-- What chainOf takes for granted. -/
structure Fits (nw od : List (List En)) (mo : Nat) : Prop where
  n1 : 1 ≤ nw.length
  n9 : nw.length ≤ 131072
  o2 : 0 < od.length → nw.length = 2 * (mo + od.length)
def kv (e : En) : KV := (e.k, e.v)
def kvs (l : List (List En)) : List (List KV) := l.map fun c => c.map kv
def tb (nw od : List (List En)) : Tb := ⟨kvs nw, kvs od⟩
theorem kvs_len (l : List (List En)) : (kvs l).length = l.length := by simp [kvs]
set_option maxHeartbeats 4000000 in
theorem chainOf_none (h : TbIn w f nb ob mo nw od cnt) (g : Fits nw od mo) (h0 : od.length = 0) (key : List UInt8) (hk : key.length ≤ maxLen) :
    Calls Tryd.prog 43 #[.pointer (some ⟨f, 0, none⟩), .string (txt key)] w fun e w' => e = .returned (.pointer (some ⟨nb, hsh key % nw.length, none⟩)) ∧ ∃ q, w' = w.drewN q := by
  have c0 := h.c0
  have cH := hide (fun W => hash_txt key hk W)
  obtain ⟨m, hm⟩ : ∃ m, m = od.length := ⟨_, rfl⟩
  have cL : Hid (∀ W : World, W.heap = w.heap → Calls Tryd.prog 65 #[.pointer (some ⟨f, 0, none⟩)] W fun e w' => e = .returned (.int .i64 0) ∧ w' = W) := fun W hW => by
    have := left_any (h.same (w' := W) (fun b _ => by rw [hW]))
    rw [h0] at this
    exact this
  obtain ⟨n, hn⟩ : ∃ n, n = nw.length := ⟨_, rfl⟩
  have g1 : 1 ≤ n := hn ▸ g.n1
  have g2 : n ≤ 131072 := hn ▸ g.n9
  rw [← hn] at c0 ⊢
  clear g hn hm h0
  have hl := hsh_lt key
  obtain ⟨x, hx⟩ : ∃ x, x = hsh key := ⟨_, rfl⟩
  rw [← hx] at cH hl ⊢
  clear hx h hk
  obtain ⟨y, hy⟩ : ∃ y, y = x % n := ⟨_, rfl⟩
  have e1 : ((x : Nat) : Int).tmod (n : Int) = (y : Int) := by
    rw [hy, Int.tmod_eq_emod_of_nonneg (by omega)]; omega
  have e2 : y < n := hy ▸ Nat.mod_lt _ g1
  have e3 : IntKind.u64.wrap (y : Int) = (y : Int) := by rw [IntKind.wrap_u64]; omega
  rw [← hy]
  clear hy
  go_enter Tryd.func43, Tryd.ntmps43
  go_wp2
  go_quiet (first | (go_at_call 66; exact Calls.quiet_of_same (cH.out _)))
  have c0' : (w.drewN nq).cell? ⟨f, 0, none⟩ = some (.slice (some ⟨nb, 0, none⟩) n n) := by rw [World.cell?_drewN]; exact c0
  have cL' := hide (cL.out (w.drewN nq) (World.heap_drewN _ _))
  obtain ⟨W1, hW⟩ : ∃ W1, W1 = w.drewN nq := ⟨_, rfl⟩
  rw [← hW] at c0' cL' ⊢
  have HW := hide hW
  clear hW cL c0 cH
  go_wp2_with fail
  refine cL'.out.mono ?_
  rintro e W2 ⟨rfl, h2⟩
  obtain rfl : W1 = W2 := h2.symm
  clear h2
  clear cL'
  go_wp2
  go_quiet (fail)
  go_wp2
  go_ret
  exact ⟨rfl, drewN_more HW.out _⟩
set_option maxHeartbeats 4000000 in
theorem chainOf_old (h : TbIn w f nb ob mo nw od cnt) (g : Fits nw od mo) (h0 : 0 < od.length) (key : List UInt8) (hk : key.length ≤ maxLen) (ho : mo ≤ hsh key % (nw.length / 2)) :
    Calls Tryd.prog 43 #[.pointer (some ⟨f, 0, none⟩), .string (txt key)] w fun e w' => e = .returned (.pointer (some ⟨ob, mo + (hsh key % (nw.length / 2) - mo), none⟩)) ∧ ∃ q, w' = w.drewN q := by
  have c0 := h.c0
  have c1 := h.c1
  rw [oSl_pos _ _ _ h0] at c1
  have cH := hide (fun W => hash_txt key hk W)
  obtain ⟨m, hm⟩ : ∃ m, m = od.length := ⟨_, rfl⟩
  have cL : Hid (∀ W : World, W.heap = w.heap → Calls Tryd.prog 65 #[.pointer (some ⟨f, 0, none⟩)] W fun e w' => e = .returned (.int .i64 (m : Int)) ∧ w' = W) := fun W hW => by
    have := left_any (h.same (w' := W) (fun b _ => by rw [hW]))
    rw [← hm] at this
    exact this
  obtain ⟨n, hn⟩ : ∃ n, n = nw.length := ⟨_, rfl⟩
  have g1 : 1 ≤ n := hn ▸ g.n1
  have g2 : n ≤ 131072 := hn ▸ g.n9
  have g3 : n = 2 * (mo + m) := by rw [hn, hm]; exact g.o2 h0
  have g4 : 0 < m := hm ▸ h0
  rw [← hm] at c1
  obtain ⟨hh, hhh⟩ : ∃ hh, hh = mo + m := ⟨_, rfl⟩
  rw [← hn, g3, Nat.mul_div_cancel_left _ (by decide : 0 < 2), ← hhh] at ho ⊢
  rw [← hhh] at g3
  rw [← hn] at c0
  clear g hn hm h0
  have hl := hsh_lt key
  obtain ⟨x, hx⟩ : ∃ x, x = hsh key := ⟨_, rfl⟩
  rw [← hx] at cH hl ho ⊢
  clear hx h hk
  obtain ⟨z, hz⟩ : ∃ z, z = x % hh := ⟨_, rfl⟩
  have z1 : ((x : Nat) : Int).tmod (hh : Int) = (z : Int) := by
    rw [hz, Int.tmod_eq_emod_of_nonneg (by omega)]; omega
  have z1' : ((x : Nat) : Int) % (hh : Int) = (z : Int) := by
    rw [hz]; omega
  have z2 : z < hh := hz ▸ Nat.mod_lt _ (by omega)
  rw [← hz] at ho ⊢
  clear hz
  have d1 : ((n : Nat) : Int).tdiv 2 = (hh : Int) := by rw [g3, Int.tdiv_eq_ediv_of_nonneg (by omega)]; omega
  have d2 : ((n : Nat) : Int) / 2 = (hh : Int) := by rw [g3]; omega
  have d3 : (hh : Int) - (m : Int) = (mo : Int) := by rw [hhh]; omega
  have d4 : (0 : Int) < (m : Int) := by omega
  have d5 : ¬ (hh : Int) = 0 := by omega
  have d6 : (mo : Int) ≤ (z : Int) := by omega
  obtain ⟨i, hi⟩ : ∃ i, i = z - mo := ⟨_, rfl⟩
  have d7 : (z : Int) - (mo : Int) = (i : Int) := by omega
  have d8 : i < m := by omega
  rw [← hi]
  clear hi ho z2 hhh g3
  go_enter Tryd.func43, Tryd.ntmps43
  go_wp2
  go_quiet (first | (go_at_call 66; exact Calls.quiet_of_same (cH.out _)))
  have c0' : (w.drewN nq).cell? ⟨f, 0, none⟩ = some (.slice (some ⟨nb, 0, none⟩) n n) := by rw [World.cell?_drewN]; exact c0
  have c1' : (w.drewN nq).cell? ⟨f, 1, none⟩ = some (.slice (some ⟨ob, mo, none⟩) m m) := by rw [World.cell?_drewN]; exact c1
  have cL' := hide (cL.out (w.drewN nq) (World.heap_drewN _ _))
  obtain ⟨W1, hW⟩ : ∃ W1, W1 = w.drewN nq := ⟨_, rfl⟩
  rw [← hW] at c0' c1' cL' ⊢
  have HW := hide hW
  clear hW cL c0 c1 cH
  go_wp2_with fail
  refine cL'.out.mono ?_
  rintro e W2 ⟨rfl, h2⟩
  obtain rfl : W1 = W2 := h2.symm
  clear h2
  go_wp2_with fail
  refine cL'.out.mono ?_
  rintro e W2 ⟨rfl, h2⟩
  obtain rfl : W1 = W2 := h2.symm
  clear h2
  clear cL'
  go_wp2
  go_ret
  exact ⟨rfl, _, HW.out⟩
set_option maxHeartbeats 4000000 in
theorem chainOf_new (h : TbIn w f nb ob mo nw od cnt) (g : Fits nw od mo) (h0 : 0 < od.length) (key : List UInt8) (hk : key.length ≤ maxLen) (ho : ¬ mo ≤ hsh key % (nw.length / 2)) :
    Calls Tryd.prog 43 #[.pointer (some ⟨f, 0, none⟩), .string (txt key)] w fun e w' => e = .returned (.pointer (some ⟨nb, hsh key % nw.length, none⟩)) ∧ ∃ q, w' = w.drewN q := by
  have c0 := h.c0
  have c1 := h.c1
  rw [oSl_pos _ _ _ h0] at c1
  have cH := hide (fun W => hash_txt key hk W)
  obtain ⟨m, hm⟩ : ∃ m, m = od.length := ⟨_, rfl⟩
  have cL : Hid (∀ W : World, W.heap = w.heap → Calls Tryd.prog 65 #[.pointer (some ⟨f, 0, none⟩)] W fun e w' => e = .returned (.int .i64 (m : Int)) ∧ w' = W) := fun W hW => by
    have := left_any (h.same (w' := W) (fun b _ => by rw [hW]))
    rw [← hm] at this
    exact this
  obtain ⟨n, hn⟩ : ∃ n, n = nw.length := ⟨_, rfl⟩
  have g1 : 1 ≤ n := hn ▸ g.n1
  have g2 : n ≤ 131072 := hn ▸ g.n9
  have g3 : n = 2 * (mo + m) := by rw [hn, hm]; exact g.o2 h0
  have g4 : 0 < m := hm ▸ h0
  rw [← hm] at c1
  obtain ⟨hh, hhh⟩ : ∃ hh, hh = mo + m := ⟨_, rfl⟩
  rw [← hn] at ho ⊢
  rw [g3, Nat.mul_div_cancel_left _ (by decide : 0 < 2), ← hhh] at ho
  rw [← hhh] at g3
  rw [← hn] at c0
  clear g hn hm h0
  have hl := hsh_lt key
  obtain ⟨x, hx⟩ : ∃ x, x = hsh key := ⟨_, rfl⟩
  rw [← hx] at cH hl ho ⊢
  clear hx h hk
  obtain ⟨y, hy⟩ : ∃ y, y = x % n := ⟨_, rfl⟩
  have e1 : ((x : Nat) : Int).tmod (n : Int) = (y : Int) := by
    rw [hy, Int.tmod_eq_emod_of_nonneg (by omega)]; omega
  have e2 : y < n := hy ▸ Nat.mod_lt _ g1
  have e3 : IntKind.u64.wrap (y : Int) = (y : Int) := by rw [IntKind.wrap_u64]; omega
  rw [← hy]
  clear hy
  obtain ⟨z, hz⟩ : ∃ z, z = x % hh := ⟨_, rfl⟩
  have z1 : ((x : Nat) : Int).tmod (hh : Int) = (z : Int) := by
    rw [hz, Int.tmod_eq_emod_of_nonneg (by omega)]; omega
  have z1' : ((x : Nat) : Int) % (hh : Int) = (z : Int) := by
    rw [hz]; omega
  have z2 : z < hh := hz ▸ Nat.mod_lt _ (by omega)
  rw [← hz] at ho
  clear hz
  have d1 : ((n : Nat) : Int).tdiv 2 = (hh : Int) := by rw [g3, Int.tdiv_eq_ediv_of_nonneg (by omega)]; omega
  have d2 : ((n : Nat) : Int) / 2 = (hh : Int) := by rw [g3]; omega
  have d3 : (hh : Int) - (m : Int) = (mo : Int) := by rw [hhh]; omega
  have d4 : (0 : Int) < (m : Int) := by omega
  have d5 : ¬ (hh : Int) = 0 := by omega
  have d6 : ¬ (mo : Int) ≤ (z : Int) := by omega
  clear ho z2 hhh g3
  go_enter Tryd.func43, Tryd.ntmps43
  go_wp2
  go_quiet (first | (go_at_call 66; exact Calls.quiet_of_same (cH.out _)))
  have c0' : (w.drewN nq).cell? ⟨f, 0, none⟩ = some (.slice (some ⟨nb, 0, none⟩) n n) := by rw [World.cell?_drewN]; exact c0
  have c1' : (w.drewN nq).cell? ⟨f, 1, none⟩ = some (.slice (some ⟨ob, mo, none⟩) m m) := by rw [World.cell?_drewN]; exact c1
  have cL' := hide (cL.out (w.drewN nq) (World.heap_drewN _ _))
  obtain ⟨W1, hW⟩ : ∃ W1, W1 = w.drewN nq := ⟨_, rfl⟩
  rw [← hW] at c0' c1' cL' ⊢
  have HW := hide hW
  clear hW cL c0 c1 cH
  go_wp2_with fail
  refine cL'.out.mono ?_
  rintro e W2 ⟨rfl, h2⟩
  obtain rfl : W1 = W2 := h2.symm
  clear h2
  go_wp2_with fail
  refine cL'.out.mono ?_
  rintro e W2 ⟨rfl, h2⟩
  obtain rfl : W1 = W2 := h2.symm
  clear h2
  clear cL'
  go_wp2
  go_quiet (fail)
  go_wp2
  go_ret
  exact ⟨rfl, drewN_more HW.out _⟩
/-- Where a key stands, or would. -/
def locB (nb ob mo : Nat) (nw od : List (List En)) (key : List UInt8) : Nat := if (tb nw od).isOld hsh key then ob else nb
def locO (mo : Nat) (nw od : List (List En)) (key : List UInt8) : Nat := if (tb nw od).isOld hsh key then mo + (tb nw od).oi hsh key else (tb nw od).ni hsh key
theorem Fits.half (g : Fits nw od mo) (h0 : 0 < od.length) : (tb nw od).half = mo + od.length ∧ (tb nw od).gone = mo := by
  have := g.o2 h0
  have e1 : (tb nw od).half = mo + od.length := by
    show (kvs nw).length / 2 = _
    rw [kvs_len]; omega
  refine ⟨e1, ?_⟩
  show (tb nw od).half - (kvs od).length = _
  rw [e1, kvs_len]; omega
theorem chainOf_any (h : TbIn w f nb ob mo nw od cnt) (g : Fits nw od mo) (key : List UInt8) (hk : key.length ≤ maxLen) :
    Calls Tryd.prog 43 #[.pointer (some ⟨f, 0, none⟩), .string (txt key)] w fun e w' => e = .returned (.pointer (some ⟨locB nb ob mo nw od key, locO mo nw od key, none⟩)) ∧ ∃ q, w' = w.drewN q := by
  have en : (tb nw od).ni hsh key = hsh key % nw.length := by show hsh key % (kvs nw).length = _; rw [kvs_len]
  have eh : (tb nw od).half = nw.length / 2 := by show (kvs nw).length / 2 = _; rw [kvs_len]
  have eo : (tb nw od).od.length = od.length := kvs_len od
  unfold locB locO
  by_cases h0 : od.length = 0
  · have e : (tb nw od).isOld hsh key = false := by unfold Tb.isOld; rw [eo, h0]; rfl
    rw [e, en]
    exact chainOf_none h g h0 key hk
  · have h0 : 0 < od.length := by omega
    have eg := (g.half h0).2
    by_cases ho : mo ≤ hsh key % (nw.length / 2)
    · have e : (tb nw od).isOld hsh key = true := isOld_iff.2 ⟨by rw [eo]; exact h0, by rw [eg, eh]; exact ho⟩
      have e2 : (tb nw od).oi hsh key = hsh key % (nw.length / 2) - mo := by unfold Tb.oi; rw [eg, eh]
      rw [e, e2]
      exact chainOf_old h g h0 key hk ho
    · have e : (tb nw od).isOld hsh key = false := by
        cases hb : (tb nw od).isOld hsh key with
        | false => rfl
        | true => have := (isOld_iff.1 hb).2; rw [eg, eh] at this; exact absurd this ho
      rw [e, en]
      exact chainOf_new h g h0 key hk ho
end
end Go.Proofs.YtdkiegkgnimapabDoor.Tbl

/- One chain of a table turned; an entry pushed. -/
set_option linter.unusedVariables false
set_option linter.unusedSimpArgs false
set_option maxRecDepth 8000
namespace Go.Proofs.YtdkiegkgnimapabDoor.Tbl
open Go.RowKit Go.Deep Math Tab

theorem _root_.Go.Proofs.YtdkiegkgnimapabDoor.Blk.ty_ne {w : World} {b b' : Nat} {L L' : List Value} {t t' : TypeId} (h : Blk w b L t) (h' : Blk w b' L' t') (ht : t ≠ t') : b ≠ b' := fun e => by
  subst e
  unfold Blk at h h'
  rw [h] at h'
  simp at h'
  exact ht h'.2
theorem split_set {α : Type} {l : List α} {i : Nat} {c : α} (h : l[i]? = some c) : ∃ A B, l = A ++ c :: B ∧ ∀ d, l.set i d = A ++ d :: B := by
  obtain ⟨A, B, e, hl⟩ := split_at h
  subst e
  exact ⟨A, B, rfl, fun d => set_split hl⟩
section
variable {w w' : World} {f nb ob mo : Nat} {nw od : List (List En)} {cnt : Nat} {key : List UInt8}
def chE (nw od : List (List En)) (key : List UInt8) : List En := if (tb nw od).isOld hsh key then od.getD ((tb nw od).oi hsh key) [] else nw.getD ((tb nw od).ni hsh key) []
def putNw (nw od : List (List En)) (key : List UInt8) (c : List En) : List (List En) := if (tb nw od).isOld hsh key then nw else nw.set ((tb nw od).ni hsh key) c
def putOd (nw od : List (List En)) (key : List UInt8) (c : List En) : List (List En) := if (tb nw od).isOld hsh key then od.set ((tb nw od).oi hsh key) c else od
theorem map_getD {l : List (List En)} {i : Nat} : (l.getD i []).map kv = (kvs l).getD i [] := by
  simp only [kvs, List.getD, List.getElem?_map]
  cases l[i]? <;> simp
theorem chE_kv : (chE nw od key).map kv = (tb nw od).chn hsh key := by
  unfold chE Tb.chn
  split <;> exact map_getD
theorem put_kv (c : List En) : tb (putNw nw od key c) (putOd nw od key c) = (tb nw od).put hsh key (c.map kv) := by
  unfold putNw putOd Tb.put
  split
  · simp [tb, kvs]
  · simp [tb, kvs]
theorem putNw_len (c : List En) : (putNw nw od key c).length = nw.length := by unfold putNw; split <;> simp
theorem putOd_len (c : List En) : (putOd nw od key c).length = od.length := by unfold putOd; split <;> simp
theorem Fits.oi_lt (g : Fits nw od mo) (h : (tb nw od).isOld hsh key = true) : (tb nw od).oi hsh key < od.length := by
  obtain ⟨h1, h2⟩ := isOld_iff.1 h
  rw [show (tb nw od).od.length = od.length from kvs_len od] at h1
  obtain ⟨e1, e2⟩ := g.half h1
  unfold Tb.oi
  rw [e1, e2] at *
  have := Nat.mod_lt (hsh key) (show 0 < mo + od.length by omega)
  omega
theorem Fits.ni_lt (g : Fits nw od mo) : (tb nw od).ni hsh key < nw.length := by
  show hsh key % (kvs nw).length < _
  rw [kvs_len]
  exact Nat.mod_lt _ g.n1
theorem Fits.put (g : Fits nw od mo) (c : List En) : Fits (putNw nw od key c) (putOd nw od key c) mo :=
  ⟨by rw [putNw_len]; exact g.n1, by rw [putNw_len]; exact g.n9, by rw [putNw_len, putOd_len]; exact g.o2⟩
/-- The chains ahead, the key's own, those behind. -/
theorem Fits.split (g : Fits nw od mo) (key : List UInt8) : ∃ A B, od ++ nw = A ++ chE nw od key :: B ∧ ∀ c, putOd nw od key c ++ putNw nw od key c = A ++ c :: B := by
  unfold chE putOd putNw
  cases h : (tb nw od).isOld hsh key with
  | true =>
    simp only [if_true]
    obtain ⟨A, B, e, es⟩ := split_set (getD_some (g.oi_lt h))
    exact ⟨A, B ++ nw, by rw [← List.cons_append, ← List.append_assoc, ← e], fun c => by rw [es, List.append_assoc]; rfl⟩
  | false =>
    simp only [Bool.false_eq_true, if_false]
    obtain ⟨A, B, e, es⟩ := split_set (getD_some (g.ni_lt (key := key)))
    exact ⟨od ++ A, B, by rw [List.append_assoc, ← e], fun c => by rw [es, List.append_assoc]⟩
def rowL (mo : Nat) (nw od : List (List En)) (key : List UInt8) : List Value := if (tb nw od).isOld hsh key then List.replicate mo (.pointer none) ++ od.map hd else nw.map hd
theorem TbIn.loc (h : TbIn w f nb ob mo nw od cnt) (g : Fits nw od mo) (key : List UInt8) : Blk w (locB nb ob mo nw od key) (rowL mo nw od key) 120 ∧ w.cell? ⟨locB nb ob mo nw od key, locO mo nw od key, none⟩ = some (hd (chE nw od key)) ∧ Chain w (chE nw od key) := by
  obtain ⟨A, B, e, _⟩ := g.split key
  refine ⟨?_, ?_, h.ch _ (by rw [e]; simp)⟩
  · unfold locB rowL
    cases ho : (tb nw od).isOld hsh key with
    | true => exact h.rO (by have := g.oi_lt ho; omega)
    | false => exact h.rN
  · unfold locB locO chE
    cases ho : (tb nw od).isOld hsh key with
    | true => exact h.cO (getD_some (g.oi_lt ho))
    | false => exact h.cN (getD_some g.ni_lt)
theorem mid_perm (A B : List (List En)) (c : List En) : (A ++ c :: B).flatten.Perm (c ++ (A.flatten ++ B.flatten)) := by
  rw [List.flatten_append, List.flatten_cons]
  exact List.perm_append_comm_assoc ..
/-- One chain is another one then; all else stays. -/
theorem TbIn.put (h : TbIn w f nb ob mo nw od cnt) (g : Fits nw od mo) (key : List UInt8) (c : List En) (hrow : Blk w' (locB nb ob mo nw od key) ((rowL mo nw od key).set (locO mo nw od key) (hd c)) 120)
    (hf : w'.heap[f]? = w.heap[f]?) (hN : nb ≠ locB nb ob mo nw od key → w'.heap[nb]? = w.heap[nb]?) (hO : 0 < od.length → ob ≠ locB nb ob mo nw od key → w'.heap[ob]? = w.heap[ob]?)
    (hother : ∀ b ∈ (od ++ nw).flatten.map En.b, b ∉ (chE nw od key).map En.b → w'.heap[b]? = w.heap[b]?) (hch : Chain w' c)
    (hnd : (c.map En.b).Nodup) (hin : ∀ e ∈ c, e.b ∈ (chE nw od key).map En.b ∨ e.b ∉ (od ++ nw).flatten.map En.b) :
    TbIn w' f nb ob mo (putNw nw od key c) (putOd nw od key c) cnt := by
  obtain ⟨A, B, e, e'⟩ := g.split key
  have nd := h.nd
  rw [e] at nd
  have p1 := (mid_perm A B (chE nw od key)).map En.b
  have nd1 := p1.nodup_iff.1 nd
  rw [List.map_append, List.nodup_append] at nd1
  refine ⟨?_, ?_, ?_, by rw [putOd_len]; exact h.ne, ?_, ?_⟩
  · rw [putNw_len, putOd_len]; exact h.own.same hf
  · unfold putNw
    cases ho : (tb nw od).isOld hsh key with
    | true =>
      have h0 : 0 < od.length := by have := g.oi_lt ho; omega
      exact h.rN.same (hN (by unfold locB; rw [ho]; exact h.ne h0))
    | false =>
      unfold locB locO rowL at hrow
      rw [ho] at hrow
      simp only [Bool.false_eq_true, if_false] at hrow ⊢
      rw [List.map_set]
      exact hrow
  · rw [putOd_len]
    intro h0
    unfold putOd
    cases ho : (tb nw od).isOld hsh key with
    | true =>
      unfold locB locO rowL at hrow
      rw [ho] at hrow
      simp only [if_true] at hrow ⊢
      rw [List.set_append_right _ _ (by simp)] at hrow
      simp only [List.length_replicate, Nat.add_sub_cancel_left] at hrow
      rw [List.map_set]
      exact hrow
    | false => exact (h.rO h0).same (hO h0 (by unfold locB; rw [ho]; exact (h.ne h0).symm))
  · intro d hd
    rw [e'] at hd
    have key2 : d ∈ A ∨ d ∈ B → Chain w' d := fun hd2 => by
      refine (h.ch d (by rw [e]; rcases hd2 with x | x <;> simp [x])).same (fun x hx => ?_)
      have hx2 : x.b ∈ (A.flatten ++ B.flatten).map En.b := List.mem_map.2 ⟨x, by
        rcases hd2 with y | y
        · exact List.mem_append_left _ (List.mem_flatten.2 ⟨d, y, hx⟩)
        · exact List.mem_append_right _ (List.mem_flatten.2 ⟨d, y, hx⟩), rfl⟩
      refine hother _ (by rw [e]; exact p1.mem_iff.2 (by rw [List.map_append]; exact List.mem_append_right _ hx2)) (fun y => nd1.2.2 _ y _ hx2 rfl)
    rcases List.mem_append.1 hd with hd | hd
    · exact key2 (.inl hd)
    · rcases List.mem_cons.1 hd with rfl | hd
      · exact hch
      · exact key2 (.inr hd)
  · rw [e']
    refine ((mid_perm A B c).map En.b).nodup_iff.2 ?_
    rw [List.map_append, List.nodup_append]
    refine ⟨hnd, nd1.2.1, fun x hx y hy hxy => ?_⟩
    subst hxy
    obtain ⟨z, hz, rfl⟩ := List.mem_map.1 hx
    rcases hin z hz with h1 | h1
    · exact nd1.2.2 _ h1 _ hy rfl
    · rw [e] at h1
      exact h1 (p1.mem_iff.2 (by rw [List.map_append]; exact List.mem_append_right _ hy))
theorem TbIn.ent (h : TbIn w f nb ob mo nw od cnt) {b : Nat} (hb : b ∈ (od ++ nw).flatten.map En.b) : ∃ L, Blk w b L 107 := by
  obtain ⟨e, he, rfl⟩ := List.mem_map.1 hb
  obtain ⟨c, hc, hce⟩ := List.mem_flatten.1 he
  obtain ⟨q, hq, _⟩ := (h.ch c hc).at e hce
  exact ⟨_, hq⟩
theorem chE_sub (g : Fits nw od mo) {b : Nat} (hb : b ∈ (chE nw od key).map En.b) : b ∈ (od ++ nw).flatten.map En.b := by
  obtain ⟨A, B, e, _⟩ := g.split key
  rw [e]
  refine ((mid_perm A B _).map En.b).mem_iff.2 ?_
  rw [List.map_append]
  exact List.mem_append_left _ hb
theorem chE_nd (h : TbIn w f nb ob mo nw od cnt) (g : Fits nw od mo) (key : List UInt8) : ((chE nw od key).map En.b).Nodup := by
  obtain ⟨A, B, e, _⟩ := g.split key
  have nd := h.nd
  rw [e] at nd
  have nd1 := ((mid_perm A B (chE nw od key)).map En.b).nodup_iff.1 nd
  rw [List.map_append, List.nodup_append] at nd1
  exact nd1.1
/-- An entry goes to the head of its chain. -/
theorem push_tb (h : TbIn w f nb ob mo nw od cnt) (g : Fits nw od mo) (x : En) {q0 : Value} (hb : Blk w x.b [.string (txt x.k), .int .i64 x.v, q0] 107) (hx : x.k.length ≤ maxLen) (hfree : x.b ∉ (od ++ nw).flatten.map En.b) :
    Calls Tryd.prog 45 #[.pointer (some ⟨locB nb ob mo nw od x.k, locO mo nw od x.k, none⟩), .pointer (some ⟨x.b, 0, none⟩)] w fun e w' => e = .returned (.tuple #[]) ∧
      TbIn w' f nb ob mo (putNw nw od x.k (x :: chE nw od x.k)) (putOd nw od x.k (x :: chE nw od x.k)) cnt ∧ Keep [locB nb ob mo nw od x.k, x.b] w w' := by
  obtain ⟨l1, l2, l3⟩ := h.loc g x.k
  obtain ⟨q, hq⟩ := hd_ptr (chE nw od x.k)
  rw [hq] at l2
  have hne := l1.ty_ne hb (by decide)
  have hp := h
  refine (push_any _ _ x.b q (txt x.k) x.v q0 w l2 (l1.frozen _) hb hne).mono ?_
  rintro e w' ⟨rfl, rfl⟩
  have hfb := h.own.ty_ne hb (by decide)
  have hfl := h.own.ty_ne l1 (by decide)
  have hnx := h.rN.ty_ne hb (by decide)
  have hox : 0 < od.length → ob ≠ x.b := fun h0 => (h.rO h0).ty_ne hb (by decide)
  have oth : ∀ b, b ≠ locB nb ob mo nw od x.k → b ≠ x.b → ((w.setCell ⟨x.b, 2, none⟩ (.pointer q)).setCell ⟨locB nb ob mo nw od x.k, locO mo nw od x.k, none⟩ (.pointer (some ⟨x.b, 0, none⟩))).heap[b]? = w.heap[b]? := fun b h1 h2 => by
    rw [blk_setCell_other _ _ _ _ h1, blk_setCell_other _ _ _ _ h2]
  have ent : ∀ b ∈ (od ++ nw).flatten.map En.b, b ≠ locB nb ob mo nw od x.k ∧ b ≠ x.b := fun b hb2 => by
    obtain ⟨L, hL⟩ := h.ent hb2
    exact ⟨hL.ty_ne l1 (by decide), fun e => hfree (e ▸ hb2)⟩
  refine ⟨rfl, h.put g x.k _ ?_ (oth f hfl hfb) (fun h1 => oth nb h1 hnx) (fun h0 h1 => oth ob h1 (hox h0)) (fun b hb2 _ => oth b (ent b hb2).1 (ent b hb2).2) ?_ ?_ ?_, ?_⟩
  · exact (l1.other (a := ⟨x.b, 2, none⟩) hne _).set _ _
  · refine ⟨?_, hx, l3.same (fun e he => ?_)⟩
    · have h1 := (hb.set 2 (.pointer q)).other (a := ⟨locB nb ob mo nw od x.k, locO mo nw od x.k, none⟩) hne.symm (.pointer (some ⟨x.b, 0, none⟩))
      rw [hq]
      exact h1
    · have := ent e.b (chE_sub g (List.mem_map.2 ⟨e, he, rfl⟩))
      exact oth _ this.1 this.2
  · rw [List.map_cons, List.nodup_cons]
    exact ⟨fun hm => hfree (chE_sub g hm), chE_nd h g x.k⟩
  · intro e he
    rcases List.mem_cons.1 he with rfl | he
    · exact .inr hfree
    · exact .inl (List.mem_map.2 ⟨e, he, rfl⟩)
  · exact ((Keep.refl _ w).setCell (.inl (by simp)) _).setCell (.inl (by simp)) _
end
end Go.Proofs.YtdkiegkgnimapabDoor.Tbl

