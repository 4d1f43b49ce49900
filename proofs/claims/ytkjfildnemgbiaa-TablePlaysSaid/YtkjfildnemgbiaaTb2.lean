/- A table in memory: Len, Buckets, Left, where a key stands. -/
import Derived.Test.YtkjfildnemgbiaaTb1
import Derived.BigQuiet
import Derived.Deep.QuietTactic
set_option linter.unusedVariables false
set_option linter.unusedSimpArgs false
set_option maxRecDepth 8000
namespace Go.Proofs.Ytkjfildnemgbiaa
open Go.RowKit Go.Deep Math Tab

def oSl (ob mo n : Nat) : Value := if n = 0 then .slice none 0 0 else .slice (some ⟨ob, mo, none⟩) n n
theorem oSl_zero (ob mo : Nat) : oSl ob mo 0 = .slice none 0 0 := rfl
theorem oSl_pos (ob mo n : Nat) (h : 0 < n) : oSl ob mo n = .slice (some ⟨ob, mo, none⟩) n n := by unfold oSl; rw [if_neg (by omega)]
theorem oSl_is (ob mo n : Nat) : ∃ a, oSl ob mo n = .slice a n n := by
  unfold oSl
  split
  · rename_i h; exact ⟨_, by rw [h]⟩
  · exact ⟨_, rfl⟩
/-- The table f: its new buckets in block nb, the old ones that are left in block ob from mo on. -/
structure TbIn (w : World) (f nb ob mo : Nat) (nw od : List (List En)) (cnt : Nat) : Prop where
  own : Blk w f [.slice (some ⟨nb, 0, none⟩) nw.length nw.length, oSl ob mo od.length, .int .i64 (cnt : Int)] 52
  rN : Blk w nb (nw.map hd) 60
  rO : 0 < od.length → Blk w ob (List.replicate mo (.pointer none) ++ od.map hd) 60
  ne : 0 < od.length → nb ≠ ob
  ch : ∀ c ∈ od ++ nw, Chain w c
  nd : ((od ++ nw).flatten.map En.b).Nodup
def foot (f nb ob : Nat) (nw od : List (List En)) : List Nat := f :: nb :: ((if 0 < od.length then [ob] else []) ++ (od ++ nw).flatten.map En.b)
theorem TbIn.same {w w' : World} {f nb ob mo : Nat} {nw od : List (List En)} {cnt : Nat} (h : TbIn w f nb ob mo nw od cnt) (k : ∀ b ∈ foot f nb ob nw od, w'.heap[b]? = w.heap[b]?) : TbIn w' f nb ob mo nw od cnt := by
  refine ⟨h.own.same (k f (by simp [foot])), h.rN.same (k nb (by simp [foot])), fun h0 => (h.rO h0).same (k ob (by simp [foot, h0])), h.ne, fun c hc => (h.ch c hc).same (fun e he => k _ ?_), h.nd⟩
  unfold foot
  refine List.mem_cons_of_mem _ (List.mem_cons_of_mem _ (List.mem_append_right _ ?_))
  exact List.mem_map.2 ⟨e, List.mem_flatten.2 ⟨c, hc, he⟩, rfl⟩
theorem TbIn.lt {w : World} {f nb ob mo : Nat} {nw od : List (List En)} {cnt : Nat} (h : TbIn w f nb ob mo nw od cnt) : ∀ b ∈ foot f nb ob nw od, b < w.heap.size := by
  intro b hb
  unfold foot at hb
  rcases List.mem_cons.1 hb with rfl | hb
  · exact h.own.lt
  rcases List.mem_cons.1 hb with rfl | hb
  · exact h.rN.lt
  rcases List.mem_append.1 hb with hb | hb
  · by_cases h0 : 0 < od.length
    · rw [if_pos h0] at hb; simp at hb; subst hb; exact (h.rO h0).lt
    · rw [if_neg h0] at hb; cases hb
  · obtain ⟨e, he, rfl⟩ := List.mem_map.1 hb
    obtain ⟨c, hc, hce⟩ := List.mem_flatten.1 he
    exact (h.ch c hc).lt e hce
theorem TbIn.below {w w' : World} {f nb ob mo : Nat} {nw od : List (List En)} {cnt : Nat} (h : TbIn w f nb ob mo nw od cnt) (k : Below w.heap.size w w') : TbIn w' f nb ob mo nw od cnt :=
  h.same (fun b hb => k.block b (h.lt b hb))
section
variable {w : World} {f nb ob mo : Nat} {nw od : List (List En)} {cnt : Nat}
theorem TbIn.c0 (h : TbIn w f nb ob mo nw od cnt) : w.cell? ⟨f, 0, none⟩ = some (.slice (some ⟨nb, 0, none⟩) nw.length nw.length) := h.own.cell rfl
theorem TbIn.c1 (h : TbIn w f nb ob mo nw od cnt) : w.cell? ⟨f, 1, none⟩ = some (oSl ob mo od.length) := h.own.cell rfl
theorem TbIn.c2 (h : TbIn w f nb ob mo nw od cnt) : w.cell? ⟨f, 2, none⟩ = some (.int .i64 (cnt : Int)) := h.own.cell rfl
theorem TbIn.cN (h : TbIn w f nb ob mo nw od cnt) {i : Nat} {c : List En} (hc : nw[i]? = some c) : w.cell? ⟨nb, i, none⟩ = some (hd c) := h.rN.cell (by simp [hc])
theorem TbIn.cO (h : TbIn w f nb ob mo nw od cnt) {i : Nat} {c : List En} (hc : od[i]? = some c) : w.cell? ⟨ob, mo + i, none⟩ = some (hd c) := by
  refine (h.rO ?_).cell ?_
  · have := (List.getElem?_eq_some_iff.1 hc).1; omega
  · rw [List.getElem?_append_right (by simp)]; simp [hc]

/-! ### Len, Buckets, Left -/
set_option maxHeartbeats 400000 in
theorem len_any (h : TbIn w f nb ob mo nw od cnt) : Calls Try.prog 20 #[.pointer (some ⟨f, 0, none⟩)] w fun e w' => e = .returned (.int .i64 (cnt : Int)) ∧ w' = w := by
  have c2 := h.c2
  clear h
  go_enter Try.func20, Try.ntmps20
  go_wp2
  go_ret
  exact ⟨rfl, rfl⟩
set_option maxHeartbeats 400000 in
theorem buckets_any (h : TbIn w f nb ob mo nw od cnt) : Calls Try.prog 21 #[.pointer (some ⟨f, 0, none⟩)] w fun e w' => e = .returned (.int .i64 (nw.length : Int)) ∧ w' = w := by
  have c0 := h.c0
  clear h
  go_enter Try.func21, Try.ntmps21
  go_wp2
  go_ret
  exact ⟨rfl, rfl⟩
set_option maxHeartbeats 400000 in
theorem left_any (h : TbIn w f nb ob mo nw od cnt) : Calls Try.prog 22 #[.pointer (some ⟨f, 0, none⟩)] w fun e w' => e = .returned (.int .i64 (od.length : Int)) ∧ w' = w := by
  have c1 := h.c1
  obtain ⟨a, ha⟩ := oSl_is ob mo od.length
  rw [ha] at c1
  clear h ha
  go_enter Try.func22, Try.ntmps22
  go_wp2
  go_ret
  exact ⟨rfl, rfl⟩

theorem drewN_more {w W : World} {a : Nat} (h : W = w.drewN a) (b : Nat) : ∃ q, W.drewN b = w.drewN q := ⟨a + b, by rw [h, World.drewN_drewN]⟩
/-! ### Where a key stands -/
/-- What chainOf takes for granted. -/
structure Fits (nw od : List (List En)) (mo : Nat) : Prop where
  n1 : 1 ≤ nw.length
  n9 : nw.length ≤ 131072
  o2 : 0 < od.length → nw.length = 2 * (mo + od.length)
def kv (e : En) : KV := (e.k, e.v)
def kvs (l : List (List En)) : List (List KV) := l.map fun c => c.map kv
def tb (nw od : List (List En)) : Tb := ⟨kvs nw, kvs od⟩
theorem kvs_len (l : List (List En)) : (kvs l).length = l.length := by simp [kvs]
set_option maxHeartbeats 4000000 in
theorem chainOf_none (h : TbIn w f nb ob mo nw od cnt) (g : Fits nw od mo) (h0 : od.length = 0) (key : List UInt8) (hk : key.length ≤ maxLen) :
    Calls Try.prog 27 #[.pointer (some ⟨f, 0, none⟩), .string (txt key)] w fun e w' => e = .returned (.pointer (some ⟨nb, hsh key % nw.length, none⟩)) ∧ ∃ q, w' = w.drewN q := by
  have c0 := h.c0
  have cH := hide (fun W => hash_txt key hk W)
  obtain ⟨m, hm⟩ : ∃ m, m = od.length := ⟨_, rfl⟩
  have cL : Hid (∀ W : World, W.heap = w.heap → Calls Try.prog 22 #[.pointer (some ⟨f, 0, none⟩)] W fun e w' => e = .returned (.int .i64 0) ∧ w' = W) := fun W hW => by
    have := left_any (h.same (w' := W) (fun b _ => by rw [hW]))
    rw [h0] at this
    exact this
  obtain ⟨n, hn⟩ : ∃ n, n = nw.length := ⟨_, rfl⟩
  have g1 : 1 ≤ n := hn ▸ g.n1
  have g2 : n ≤ 131072 := hn ▸ g.n9
  rw [← hn] at c0 ⊢
  clear g hn hm h0
  have hl := hsh_lt key
  obtain ⟨x, hx⟩ : ∃ x, x = hsh key := ⟨_, rfl⟩
  rw [← hx] at cH hl ⊢
  clear hx h hk
  obtain ⟨y, hy⟩ : ∃ y, y = x % n := ⟨_, rfl⟩
  have e1 : ((x : Nat) : Int).tmod (n : Int) = (y : Int) := by
    rw [hy, Int.tmod_eq_emod_of_nonneg (by omega)]; omega
  have e2 : y < n := hy ▸ Nat.mod_lt _ g1
  have e3 : IntKind.u64.wrap (y : Int) = (y : Int) := by rw [IntKind.wrap_u64]; omega
  rw [← hy]
  clear hy
  go_enter Try.func27, Try.ntmps27
  go_wp2
  go_quiet (first | (go_at_call 42; exact Calls.quiet_of_same (cH.out _)))
  have c0' : (w.drewN nq).cell? ⟨f, 0, none⟩ = some (.slice (some ⟨nb, 0, none⟩) n n) := by rw [World.cell?_drewN]; exact c0
  have cL' := hide (cL.out (w.drewN nq) (World.heap_drewN _ _))
  obtain ⟨W1, hW⟩ : ∃ W1, W1 = w.drewN nq := ⟨_, rfl⟩
  rw [← hW] at c0' cL' ⊢
  have HW := hide hW
  clear hW cL c0 cH
  go_wp2_with fail
  refine cL'.out.mono ?_
  rintro e W2 ⟨rfl, h2⟩
  obtain rfl : W1 = W2 := h2.symm
  clear h2
  clear cL'
  go_wp2
  go_quiet (fail)
  go_wp2
  go_ret
  exact ⟨rfl, drewN_more HW.out _⟩
set_option maxHeartbeats 4000000 in
theorem chainOf_old (h : TbIn w f nb ob mo nw od cnt) (g : Fits nw od mo) (h0 : 0 < od.length) (key : List UInt8) (hk : key.length ≤ maxLen) (ho : mo ≤ hsh key % (nw.length / 2)) :
    Calls Try.prog 27 #[.pointer (some ⟨f, 0, none⟩), .string (txt key)] w fun e w' => e = .returned (.pointer (some ⟨ob, mo + (hsh key % (nw.length / 2) - mo), none⟩)) ∧ ∃ q, w' = w.drewN q := by
  have c0 := h.c0
  have c1 := h.c1
  rw [oSl_pos _ _ _ h0] at c1
  have cH := hide (fun W => hash_txt key hk W)
  obtain ⟨m, hm⟩ : ∃ m, m = od.length := ⟨_, rfl⟩
  have cL : Hid (∀ W : World, W.heap = w.heap → Calls Try.prog 22 #[.pointer (some ⟨f, 0, none⟩)] W fun e w' => e = .returned (.int .i64 (m : Int)) ∧ w' = W) := fun W hW => by
    have := left_any (h.same (w' := W) (fun b _ => by rw [hW]))
    rw [← hm] at this
    exact this
  obtain ⟨n, hn⟩ : ∃ n, n = nw.length := ⟨_, rfl⟩
  have g1 : 1 ≤ n := hn ▸ g.n1
  have g2 : n ≤ 131072 := hn ▸ g.n9
  have g3 : n = 2 * (mo + m) := by rw [hn, hm]; exact g.o2 h0
  have g4 : 0 < m := hm ▸ h0
  rw [← hm] at c1
  obtain ⟨hh, hhh⟩ : ∃ hh, hh = mo + m := ⟨_, rfl⟩
  rw [← hn, g3, Nat.mul_div_cancel_left _ (by decide : 0 < 2), ← hhh] at ho ⊢
  rw [← hhh] at g3
  rw [← hn] at c0
  clear g hn hm h0
  have hl := hsh_lt key
  obtain ⟨x, hx⟩ : ∃ x, x = hsh key := ⟨_, rfl⟩
  rw [← hx] at cH hl ho ⊢
  clear hx h hk
  obtain ⟨z, hz⟩ : ∃ z, z = x % hh := ⟨_, rfl⟩
  have z1 : ((x : Nat) : Int).tmod (hh : Int) = (z : Int) := by
    rw [hz, Int.tmod_eq_emod_of_nonneg (by omega)]; omega
  have z1' : ((x : Nat) : Int) % (hh : Int) = (z : Int) := by
    rw [hz]; omega
  have z2 : z < hh := hz ▸ Nat.mod_lt _ (by omega)
  rw [← hz] at ho ⊢
  clear hz
  have d1 : ((n : Nat) : Int).tdiv 2 = (hh : Int) := by rw [g3, Int.tdiv_eq_ediv_of_nonneg (by omega)]; omega
  have d2 : ((n : Nat) : Int) / 2 = (hh : Int) := by rw [g3]; omega
  have d3 : (hh : Int) - (m : Int) = (mo : Int) := by rw [hhh]; omega
  have d4 : (0 : Int) < (m : Int) := by omega
  have d5 : ¬ (hh : Int) = 0 := by omega
  have d6 : (mo : Int) ≤ (z : Int) := by omega
  obtain ⟨i, hi⟩ : ∃ i, i = z - mo := ⟨_, rfl⟩
  have d7 : (z : Int) - (mo : Int) = (i : Int) := by omega
  have d8 : i < m := by omega
  rw [← hi]
  clear hi ho z2 hhh g3
  go_enter Try.func27, Try.ntmps27
  go_wp2
  go_quiet (first | (go_at_call 42; exact Calls.quiet_of_same (cH.out _)))
  have c0' : (w.drewN nq).cell? ⟨f, 0, none⟩ = some (.slice (some ⟨nb, 0, none⟩) n n) := by rw [World.cell?_drewN]; exact c0
  have c1' : (w.drewN nq).cell? ⟨f, 1, none⟩ = some (.slice (some ⟨ob, mo, none⟩) m m) := by rw [World.cell?_drewN]; exact c1
  have cL' := hide (cL.out (w.drewN nq) (World.heap_drewN _ _))
  obtain ⟨W1, hW⟩ : ∃ W1, W1 = w.drewN nq := ⟨_, rfl⟩
  rw [← hW] at c0' c1' cL' ⊢
  have HW := hide hW
  clear hW cL c0 c1 cH
  go_wp2_with fail
  refine cL'.out.mono ?_
  rintro e W2 ⟨rfl, h2⟩
  obtain rfl : W1 = W2 := h2.symm
  clear h2
  go_wp2_with fail
  refine cL'.out.mono ?_
  rintro e W2 ⟨rfl, h2⟩
  obtain rfl : W1 = W2 := h2.symm
  clear h2
  clear cL'
  go_wp2
  go_ret
  exact ⟨rfl, _, HW.out⟩
set_option maxHeartbeats 4000000 in
theorem chainOf_new (h : TbIn w f nb ob mo nw od cnt) (g : Fits nw od mo) (h0 : 0 < od.length) (key : List UInt8) (hk : key.length ≤ maxLen) (ho : ¬ mo ≤ hsh key % (nw.length / 2)) :
    Calls Try.prog 27 #[.pointer (some ⟨f, 0, none⟩), .string (txt key)] w fun e w' => e = .returned (.pointer (some ⟨nb, hsh key % nw.length, none⟩)) ∧ ∃ q, w' = w.drewN q := by
  have c0 := h.c0
  have c1 := h.c1
  rw [oSl_pos _ _ _ h0] at c1
  have cH := hide (fun W => hash_txt key hk W)
  obtain ⟨m, hm⟩ : ∃ m, m = od.length := ⟨_, rfl⟩
  have cL : Hid (∀ W : World, W.heap = w.heap → Calls Try.prog 22 #[.pointer (some ⟨f, 0, none⟩)] W fun e w' => e = .returned (.int .i64 (m : Int)) ∧ w' = W) := fun W hW => by
    have := left_any (h.same (w' := W) (fun b _ => by rw [hW]))
    rw [← hm] at this
    exact this
  obtain ⟨n, hn⟩ : ∃ n, n = nw.length := ⟨_, rfl⟩
  have g1 : 1 ≤ n := hn ▸ g.n1
  have g2 : n ≤ 131072 := hn ▸ g.n9
  have g3 : n = 2 * (mo + m) := by rw [hn, hm]; exact g.o2 h0
  have g4 : 0 < m := hm ▸ h0
  rw [← hm] at c1
  obtain ⟨hh, hhh⟩ : ∃ hh, hh = mo + m := ⟨_, rfl⟩
  rw [← hn] at ho ⊢
  rw [g3, Nat.mul_div_cancel_left _ (by decide : 0 < 2), ← hhh] at ho
  rw [← hhh] at g3
  rw [← hn] at c0
  clear g hn hm h0
  have hl := hsh_lt key
  obtain ⟨x, hx⟩ : ∃ x, x = hsh key := ⟨_, rfl⟩
  rw [← hx] at cH hl ho ⊢
  clear hx h hk
  obtain ⟨y, hy⟩ : ∃ y, y = x % n := ⟨_, rfl⟩
  have e1 : ((x : Nat) : Int).tmod (n : Int) = (y : Int) := by
    rw [hy, Int.tmod_eq_emod_of_nonneg (by omega)]; omega
  have e2 : y < n := hy ▸ Nat.mod_lt _ g1
  have e3 : IntKind.u64.wrap (y : Int) = (y : Int) := by rw [IntKind.wrap_u64]; omega
  rw [← hy]
  clear hy
  obtain ⟨z, hz⟩ : ∃ z, z = x % hh := ⟨_, rfl⟩
  have z1 : ((x : Nat) : Int).tmod (hh : Int) = (z : Int) := by
    rw [hz, Int.tmod_eq_emod_of_nonneg (by omega)]; omega
  have z1' : ((x : Nat) : Int) % (hh : Int) = (z : Int) := by
    rw [hz]; omega
  have z2 : z < hh := hz ▸ Nat.mod_lt _ (by omega)
  rw [← hz] at ho
  clear hz
  have d1 : ((n : Nat) : Int).tdiv 2 = (hh : Int) := by rw [g3, Int.tdiv_eq_ediv_of_nonneg (by omega)]; omega
  have d2 : ((n : Nat) : Int) / 2 = (hh : Int) := by rw [g3]; omega
  have d3 : (hh : Int) - (m : Int) = (mo : Int) := by rw [hhh]; omega
  have d4 : (0 : Int) < (m : Int) := by omega
  have d5 : ¬ (hh : Int) = 0 := by omega
  have d6 : ¬ (mo : Int) ≤ (z : Int) := by omega
  clear ho z2 hhh g3
  go_enter Try.func27, Try.ntmps27
  go_wp2
  go_quiet (first | (go_at_call 42; exact Calls.quiet_of_same (cH.out _)))
  have c0' : (w.drewN nq).cell? ⟨f, 0, none⟩ = some (.slice (some ⟨nb, 0, none⟩) n n) := by rw [World.cell?_drewN]; exact c0
  have c1' : (w.drewN nq).cell? ⟨f, 1, none⟩ = some (.slice (some ⟨ob, mo, none⟩) m m) := by rw [World.cell?_drewN]; exact c1
  have cL' := hide (cL.out (w.drewN nq) (World.heap_drewN _ _))
  obtain ⟨W1, hW⟩ : ∃ W1, W1 = w.drewN nq := ⟨_, rfl⟩
  rw [← hW] at c0' c1' cL' ⊢
  have HW := hide hW
  clear hW cL c0 c1 cH
  go_wp2_with fail
  refine cL'.out.mono ?_
  rintro e W2 ⟨rfl, h2⟩
  obtain rfl : W1 = W2 := h2.symm
  clear h2
  go_wp2_with fail
  refine cL'.out.mono ?_
  rintro e W2 ⟨rfl, h2⟩
  obtain rfl : W1 = W2 := h2.symm
  clear h2
  clear cL'
  go_wp2
  go_quiet (fail)
  go_wp2
  go_ret
  exact ⟨rfl, drewN_more HW.out _⟩
/-- Where a key stands, or would. -/
def locB (nb ob mo : Nat) (nw od : List (List En)) (key : List UInt8) : Nat := if (tb nw od).isOld hsh key then ob else nb
def locO (mo : Nat) (nw od : List (List En)) (key : List UInt8) : Nat := if (tb nw od).isOld hsh key then mo + (tb nw od).oi hsh key else (tb nw od).ni hsh key
theorem Fits.half (g : Fits nw od mo) (h0 : 0 < od.length) : (tb nw od).half = mo + od.length ∧ (tb nw od).gone = mo := by
  have := g.o2 h0
  have e1 : (tb nw od).half = mo + od.length := by
    show (kvs nw).length / 2 = _
    rw [kvs_len]; omega
  refine ⟨e1, ?_⟩
  show (tb nw od).half - (kvs od).length = _
  rw [e1, kvs_len]; omega
theorem chainOf_any (h : TbIn w f nb ob mo nw od cnt) (g : Fits nw od mo) (key : List UInt8) (hk : key.length ≤ maxLen) :
    Calls Try.prog 27 #[.pointer (some ⟨f, 0, none⟩), .string (txt key)] w fun e w' => e = .returned (.pointer (some ⟨locB nb ob mo nw od key, locO mo nw od key, none⟩)) ∧ ∃ q, w' = w.drewN q := by
  have en : (tb nw od).ni hsh key = hsh key % nw.length := by show hsh key % (kvs nw).length = _; rw [kvs_len]
  have eh : (tb nw od).half = nw.length / 2 := by show (kvs nw).length / 2 = _; rw [kvs_len]
  have eo : (tb nw od).od.length = od.length := kvs_len od
  unfold locB locO
  by_cases h0 : od.length = 0
  · have e : (tb nw od).isOld hsh key = false := by unfold Tb.isOld; rw [eo, h0]; rfl
    rw [e, en]
    exact chainOf_none h g h0 key hk
  · have h0 : 0 < od.length := by omega
    have eg := (g.half h0).2
    by_cases ho : mo ≤ hsh key % (nw.length / 2)
    · have e : (tb nw od).isOld hsh key = true := isOld_iff.2 ⟨by rw [eo]; exact h0, by rw [eg, eh]; exact ho⟩
      have e2 : (tb nw od).oi hsh key = hsh key % (nw.length / 2) - mo := by unfold Tb.oi; rw [eg, eh]
      rw [e, e2]
      exact chainOf_old h g h0 key hk ho
    · have e : (tb nw od).isOld hsh key = false := by
        cases hb : (tb nw od).isOld hsh key with
        | false => rfl
        | true => have := (isOld_iff.1 hb).2; rw [eg, eh] at this; exact absurd this ho
      rw [e, en]
      exact chainOf_new h g h0 key hk ho
end
end Go.Proofs.Ytkjfildnemgbiaa
