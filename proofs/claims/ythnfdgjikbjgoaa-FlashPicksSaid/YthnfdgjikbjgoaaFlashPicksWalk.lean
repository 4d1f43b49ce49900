/-
  Behind a crash each page that waited is what it was, what it became, or torn, as it was picked; others are as they were: for every input the call returns true; no condition.
-/
import Derived.WalkKit
import Derived.Below
import Derived.Test.YthnfdgjikbjgoaaLaws3
import Derived.Test.YthnfdgjikbjgoaaRefWait
namespace Go.Proofs.Ythnfdgjikbjgoaa.flashPicks
open Go.RowKit Go.Deep
set_option linter.unusedVariables false
set_option linter.unusedSimpArgs false

/-- How many wait. -/
def cnt : List Cl → Nat
  | [] => 0
  | c :: r => (if c.last.isSome then 1 else 0) + cnt r
theorem wl_cnt : ∀ (cs : List Cl) (i : Nat), (wl i cs).length = cnt cs
  | [], _ => rfl
  | c :: r, i => by
    cases h : c.last with
    | none => simp [wl, cnt, h, wl_cnt r]
    | some l => simp [wl, cnt, h, wl_cnt r]; omega

/-- What a page becomes by its pick. -/
def settled (c : Cl) (x : UInt8) : Cl := match c.last with
  | none => c
  | some l => ⟨pick c.now l x.toNat, none⟩
theorem settle_get : ∀ (cs : List Cl) (ps : List UInt8) (p : Nat) (c : Cl), cs[p]? = some c → (settle cs ps)[p]? = some (settled c (ps.getD (cnt (cs.take p)) 0))
  | [], _, _, _, h => by simp at h
  | x :: r, ps, 0, c, h => by
    simp only [List.getElem?_cons_zero, Option.some.injEq] at h
    subst h
    cases hl : x.last with
    | none => simp [settle, settled, hl]
    | some l =>
      simp only [settle, settled, hl, List.getElem?_cons_zero, List.take_zero, cnt]
      cases ps <;> rfl
  | x :: r, ps, p + 1, c, h => by
    simp only [List.getElem?_cons_succ] at h
    cases hl : x.last with
    | none =>
      simp only [settle, hl, List.getElem?_cons_succ, List.take_succ_cons, cnt]
      rw [settle_get r ps p c h]
      simp
    | some l =>
      simp only [settle, hl, List.getElem?_cons_succ, List.take_succ_cons, cnt]
      rw [settle_get r ps.tail p c h]
      cases ps with
      | nil => simp
      | cons y q => simp [Nat.add_comm 1]
theorem settle_nil : ∀ (cs : List Cl) (ps : List UInt8), settle (settle cs ps) [] = settle cs ps
  | [], _ => rfl
  | x :: r, ps => by
    cases hl : x.last with
    | none => simp [settle, hl, settle_nil r]
    | some l => simp [settle, hl, settle_nil r]
theorem wl_at (cs : List Cl) (p : Nat) (c : Cl) (h : cs[p]? = some c) :
    (∀ l, c.last = some l → (wl 0 cs)[cnt (cs.take p)]? = some (p, l)) ∧ (c.last = none → ∀ x, (wl 0 cs)[cnt (cs.take p)]? = some x → x.1 ≠ p) := by
  have hp : p < cs.length := (List.getElem?_eq_some_iff.1 h).1
  have hlen : (cs.take p).length = p := by simp; omega
  have e : cs = cs.take p ++ c :: cs.drop (p + 1) := by
    have : cs[p] = c := by have := (List.getElem?_eq_some_iff.1 h).2; exact this
    rw [← this, List.getElem_cons_drop, List.take_append_drop]
  have e2 : wl 0 cs = wl 0 (cs.take p) ++ wl p (c :: cs.drop (p + 1)) := by
    have := wl_append (cs.take p) (c :: cs.drop (p + 1)) 0
    rw [← e, hlen, Nat.zero_add] at this
    exact this
  have e3 : (wl 0 cs)[cnt (cs.take p)]? = (wl p (c :: cs.drop (p + 1)))[0]? := by
    rw [e2, ← wl_cnt (cs.take p) 0, List.getElem?_append_right (Nat.le_refl _), Nat.sub_self]
  constructor
  · intro l hl
    rw [e3]
    simp [wl, hl]
  · intro hl x hx he
    rw [e3] at hx
    have e4 : wl p (c :: cs.drop (p + 1)) = wl (p + 1) (cs.drop (p + 1)) := by simp [wl, hl]
    rw [e4] at hx
    have := wl_lt _ _ x (List.mem_of_getElem? hx)
    omega
theorem cnt_step (cs : List Cl) (p : Nat) (c : Cl) (h : cs[p]? = some c) : cnt (cs.take (p + 1)) = cnt (cs.take p) + (if c.last.isSome then 1 else 0) := by
  have := wl_take_succ cs p c h
  have h2 := congrArg List.length this
  rw [wl_cnt, List.length_append, wl_cnt] at h2
  rw [h2]
  cases c.last <;> rfl
theorem cnt_le (cs : List Cl) (p : Nat) : cnt (cs.take p) ≤ cnt cs := by
  have h : ∀ (l : List Cl) (q : Nat), cnt (l.take q) ≤ cnt l := by
    intro l
    induction l with
    | nil => intro q; simp [cnt]
    | cons a r ih =>
      intro q
      cases q with
      | zero => simp [cnt]
      | succ q => simp only [List.take_succ_cons, cnt]; have := ih q; omega
  exact h cs p

/-- What is kept of a page that waits: its text and its error. -/
def errB (e : Int) : ByteArray := ⟨#[UInt8.ofNat e.toNat]⟩
def told (g : Pg) : ByteArray := g.read ++ errB g.err
def toldAll : List Cl → List Value
  | [] => []
  | c :: r => if c.last.isSome then .string (told c.now) :: toldAll r else toldAll r
theorem toldAll_len : ∀ cs, (toldAll cs).length = cnt cs
  | [] => rfl
  | c :: r => by
    unfold toldAll cnt
    split
    · simp [toldAll_len r]; omega
    · simp [toldAll_len r]
theorem toldAll_at : ∀ (cs : List Cl) (p : Nat) (c : Cl), cs[p]? = some c → c.last.isSome = true → (toldAll cs)[cnt (cs.take p)]? = some (.string (told c.now))
  | [], _, _, h, _ => by simp at h
  | x :: r, 0, c, h, hl => by
    simp only [List.getElem?_cons_zero, Option.some.injEq] at h
    subst h
    simp [toldAll, hl, cnt]
  | x :: r, p + 1, c, h, hl => by
    simp only [List.getElem?_cons_succ] at h
    have ih := toldAll_at r p c h hl
    simp only [toldAll, List.take_succ_cons, cnt]
    split
    · rw [show 1 + cnt (r.take p) = cnt (r.take p) + 1 by omega, List.getElem?_cons_succ]; exact ih
    · rw [Nat.zero_add]; exact ih
/-- The j-th of those that wait: its page, and what is told of it. -/
theorem wait_at {cs : List Cl} {j : Nat} (hj : j < (wl 0 cs).length) : ∃ (x : Nat) (c : Cl), cs[x]? = some c ∧ (wtNums (wl 0 cs))[j]? = some (.int .i64 (x : Int)) ∧ (toldAll cs)[j]? = some (.string (told c.now)) := by
  obtain ⟨L1, y, L2, hL, hL1⟩ := part_at (wl 0 cs) j hj
  have hy : (wl 0 cs)[j]? = some y := by rw [hL, ← hL1]; simp
  obtain ⟨A, c, B, hcs, hlast, hi, hA⟩ := wl_part cs 0 j y hy
  have hget : cs[y.1]? = some c := by rw [hcs, hi]; simp
  refine ⟨y.1, c, hget, ?_, ?_⟩
  · rw [wtNums, List.getElem?_map, hy]; rfl
  · have := toldAll_at cs y.1 c hget (by rw [hlast]; rfl)
    have e : cs.take y.1 = A := by rw [hcs, hi]; simp
    rw [e, ← wl_cnt A 0, hA] at this
    exact this
theorem two_same {w w' : World} {d o : Nat} {F G : List Nat} {S T : Dv} (h : Two w d o F G S T) (hs : w.heap.size ≤ w'.heap.size) (e : ∀ k ∈ F ++ G, w'.heap[k]? = w.heap[k]?) : Two w' d o F G S T :=
  ⟨h.one.same (fun k hk => e k (by simp [hk])), h.two.same (fun k hk => e k (by simp [hk])), fun k hk => ⟨Nat.lt_of_lt_of_le (h.apart k hk).1 hs, (h.apart k hk).2⟩⟩
theorem one_new (V : World) (N : Nat) (hN : N = V.heap.size) (x : Value) (t : TypeId) (z : Nat) (u : Value) (hz : [x][z]? = some u) : (V.alloc (.cells #[x] t)).cell? (Addr.add ⟨N, 0, none⟩ z) = some u := by
  rw [Addr.add_lit, Nat.zero_add, hN]
  exact (Blk.new V [x] t).cell hz
theorem info9 : (Try.prog.info? 9).map (fun i => (i.zero, i.size, i.bytes)) = some (some (.string ⟨#[]⟩), 1, 16) := by kernel_rfl
theorem read_on {S : Dv} (h : S.off = false) {x : Nat} {c : Cl} (hc : S.cs[x]? = some c) : S.readErr (x : Int) = c.now.err ∧ S.readText (x : Int) = c.now.read ∧ ∃ y, S.readDo (x : Int) = { S with rd := y } := by
  have hx := (List.getElem?_eq_some_iff.1 hc).1
  have hh : S.has (x : Int) = true := by simp [Dv.has]; omega
  refine ⟨?_, ?_, S.readDo_rd _⟩
  · unfold Dv.readErr; rw [if_neg (by simp [hh]), if_neg (by simp [h]), Int.toNat_natCast, hc]
  · unfold Dv.readText; rw [if_neg (by simp [hh]), if_neg (by simp [h]), Int.toNat_natCast, hc]
theorem err_cases (g : Pg) : g.err = 0 ∨ g.err = 5 ∨ g.err = 6 := by rcases g with ⟨_ | _ | b⟩ <;> simp [Pg.err]
theorem read_size {g : Pg} (h : g.fits) : g.read.size ≤ 384 := by
  cases g using Pg.elim3 with
  | blank => exact Nat.zero_le _
  | torn => exact Nat.zero_le _
  | whole b => show (full b).size ≤ 384; rw [full_size b h]; exact Nat.le_refl _
set_option maxRecDepth 4000 in
set_option maxHeartbeats 4000000 in
theorem walk (a0 : Int) (a1 : Option Addr) (len1 cap1 : Nat) (z1 : List ActI) (a2 : Option Addr) (len2 cap2 bb2 : Nat) (z2 : List UInt8) (w : World) (hw0 : (Lit.int .i64 a0).wf = true) (hw1 : ActsAt w a1 len1 z1) (hw2 : len2 = z2.length ∧ BSlice w a2 z2 bb2 ∧ (a2 = none → z2 = []) ∧ z2.length ≤ 140737488351232) :
    Calls Try.prog 6 #[.int .i64 a0, .slice a1 len1 cap1, .slice a2 len2 cap2] w fun e w' => e = .returned (.bool true) ∧ Below w.heap.size w w' := by
  have HB2 := hide hw2
  by_cases g0 : a0 < 1
  · have g0' : (a0 < 1) = True := eq_true g0
    clear g0
    go_enter Try.func6, Try.ntmps6
    go_wp2_with fail
    refine (awake_any _).mono ?_
    rintro e w0 ⟨rfl, b0⟩
    have B0 := hide b0
    clear b0
    go_wp2
    go_ret
    exact ⟨rfl, B0.out⟩
  have g0' : (a0 < 1) = False := eq_false g0
  by_cases g1 : (20 : Int) < a0
  · have g1' : ((20 : Int) < a0) = True := eq_true g1
    clear g1
    go_enter Try.func6, Try.ntmps6
    go_wp2_with fail
    refine (awake_any _).mono ?_
    rintro e w0 ⟨rfl, b0⟩
    have B0 := hide b0
    clear b0
    go_wp2
    go_ret
    exact ⟨rfl, B0.out⟩
  have g1' : ((20 : Int) < a0) = False := eq_false g1
  by_cases g2 : (40 : Int) < (len1 : Int)
  · have g2' : ((40 : Int) < (len1 : Int)) = True := eq_true g2
    clear g2
    go_enter Try.func6, Try.ntmps6
    go_wp2_with fail
    refine (awake_any _).mono ?_
    rintro e w0 ⟨rfl, b0⟩
    have B0 := hide b0
    clear b0
    go_wp2
    go_ret
    exact ⟨rfl, B0.out⟩
  have g2' : ((40 : Int) < (len1 : Int)) = False := eq_false g2
  obtain ⟨p, rfl⟩ : ∃ p : Nat, a0 = (p : Int) := ⟨a0.toNat, by omega⟩
  have hp1 : 1 ≤ p := by omega
  have hp2 : p ≤ 4096 := by omega
  have HP1 := hide hp1
  have HP2 := hide (show p ≤ 20 by omega)
  have hl1 : len1 ≤ 100 := by omega
  have HL1 := hide hl1
  have WA := hide hw1
  clear hw2
  clear g0 g1 g2 hp1 hp2 hl1 hw0 hw1
  go_enter Try.func6, Try.ntmps6
  go_wp2_with fail
  refine (awake_any _).mono ?_
  rintro e w0 ⟨rfl, b0⟩
  have B0 := hide b0
  clear b0
  have cn := hide (new_at p HP1.out (by have := HP2.out; omega) w0)
  go_wp2_with fail
  refine cn.out.mono ?_
  rintro e w1 ⟨d, F, rfl, h1, f1, b1⟩
  have Q1 : Hid (Since w.heap.size w w1 F) := ⟨B0.out.trans (b1.mono B0.out.size), Nat.le_trans B0.out.size b1.size, fun k hk => Nat.le_trans B0.out.size (f1 k hk)⟩
  have H1 := hide h1
  clear cn h1 f1 b1 B0
  go_wp2_with fail
  refine (rnew_at p (by have := HP2.out; omega) w1).mono ?_
  rintro e w2 ⟨r, G, rfl, h2, g2, b2⟩
  have I0 : Hid (Inv2 w w2 d r p) := ⟨F, G, _, _, ⟨H1.out.below b2, h2, fun k hk => ⟨h2.lt k hk, fun hf => by have := H1.out.lt k hf; have := g2 k hk; omega⟩⟩, by simp [Dv.fresh], since2 (Q1.out.below b2) (fun k hk => Nat.le_trans Q1.out.2.1 (g2 k hk))⟩
  clear h2 g2 b2 H1 Q1
  go_wp2_with fail
  go_loopg [10] len1 (fun kx s8 wr => ∃ i : Nat, s8 = .int .i64 i ∧ i ≤ len1 ∧ len1 - i ≤ kx ∧ Hid (Inv2 w wr d r p))
  case atStart => exact ⟨0, rfl, Nat.zero_le _, by omega, I0.out⟩
  case round =>
    obtain ⟨i, rfl, hin, hg, I⟩ := hrel
    have hi80 : i ≤ 100 := by have := HL1.out; omega
    by_cases hlt : i < len1
    · have hlt2 : (i : Int) < (len1 : Int) := by omega
      obtain ⟨b, o, op, page, sa, sn, sc, ha, hbw, c0, c1, c2, cb⟩ := inv2_act WA.out I.out i hlt
      subst ha
      have CB := hide cb
      clear cb
      go_wp2_with fail
      refine CB.out.mono ?_
      rintro e w3 ⟨⟨v, rfl⟩, i3⟩
      have I3 := hide i3
      clear i3
      go_wp2_with fail
      go_roundg (len1 - (i + 1))
      case measure => omega
      case rel => exact ⟨i + 1, rfl, by omega, by omega, I3.out⟩
    have hlt2 : ¬ (i : Int) < (len1 : Int) := by omega
    obtain ⟨F1, G1, S, T, hP, hSl, hQ⟩ := I.out
    have HD := hide hP.dev
    have HSL := hide hSl
    have HQ : Hid (Since w.heap.size w wr F1) := ⟨hQ.1, hQ.2.1, fun k hk => hQ.2.2 k (by simp [hk])⟩
    clear hP hSl hQ I I0 hin hg hi80 hlt
    go_wp2_with fail
    refine (copy_at d F1 S wr HD.out).mono ?_
    rintro e w3 ⟨rfl, F3, h3, f3, b3⟩
    obtain ⟨ob, hob⟩ : ∃ ob, ob = wr.heap.size := ⟨_, rfl⟩
    rw [← hob] at h3 ⊢
    have T3 : Hid (Two w3 d ob F1 F3 S S) := Two.made HD.out h3 f3 b3
    have Q3 : Hid (Since w.heap.size w w3 (F1 ++ F3)) := since2 (HQ.out.below b3) (fun k hk => Nat.le_trans HQ.out.2.1 (f3 k hk))
    clear h3 f3 b3 hob HD HQ
    go_wp2_with fail
    refine (on_at ob F3 S w3 T3.out.two).mono ?_
    rintro e w4 ⟨rfl, F4, h4, m4⟩
    have T4 := hide (T3.out.step2 h4 m4)
    have Q4 := hide (Q3.out.moves m4.right)
    clear h4 m4 T3 Q3
    go_wp2_with fail
    refine (waiting_at d F1 S w4 T4.out.one).mono ?_
    rintro e w5 ⟨rfl, k5, b5⟩
    have T5 := hide (T4.out.below b5)
    have Q5 := hide (Q4.out.below b5)
    have WB : Hid (∀ k ∈ F1 ++ F4, k < w4.heap.size) := fun k hk => by rcases List.mem_append.1 hk with h | h; exact T4.out.one.lt k h; exact T4.out.two.lt k h
    have WG : Hid (w.heap.size ≤ w4.heap.size) := Q4.out.2.1
    obtain ⟨wb, hwb⟩ : ∃ wb, wb = w4.heap.size := ⟨_, rfl⟩
    rw [← hwb] at k5 WB WG ⊢
    have K5 := hide k5
    have cp := hide (power_at d F1 S w5 T5.out.one)
    obtain ⟨m, hm⟩ : ∃ m, m = (wl 0 S.cs).length := ⟨_, rfl⟩
    have hm20 : m ≤ 20 := by rw [hm]; have := wl_length S.cs 0; have := HSL.out; have := HP2.out; omega
    rw [← hm]
    have HM := hide hm
    clear k5 b5 hwb T4 Q4 hm
    cases ho : S.off with
    | true =>
      rw [ho] at cp
      clear ho
      go_wp2_with fail
      refine cp.out.mono ?_
      rintro e wx ⟨rfl, hx⟩
      obtain rfl : w5 = wx := hx.symm
      go_wp2
      go_ret
      exact ⟨rfl, Q5.out.1⟩
    | false =>
      rw [ho] at cp
      have HO := hide ho
      clear ho
      go_wp2_with fail
      refine cp.out.mono ?_
      rintro e wx ⟨rfl, hx⟩
      obtain rfl : w5 = wx := hx.symm
      clear cp
      go_wp2_with fail
      obtain ⟨i0, hi0, hp0⟩ := Option.map_eq_some_iff.1 info9
      simp only [Prod.mk.injEq] at hp0
      obtain ⟨hz0, hz1, hz2⟩ := hp0
      have S5 : Hid (wb + 1 ≤ w5.heap.size) := K5.out.lt
      go_loopg [13, 14] m (fun kx s13 s14 wr2 => ∃ j : Nat, s14 = .int .i64 j ∧ j ≤ m ∧ m - j ≤ kx ∧ (∃ a k cp, s13 = .slice a k cp) ∧ Hid ((∃ x, Two wr2 d ob F1 F4 { S with rd := x } S.on) ∧ Since w.heap.size w wr2 (F1 ++ F4) ∧ Blk wr2 wb (wtNums (wl 0 S.cs)) 3 ∧ wr2.ownsRow (wb + 1) 9 1 s13 j ((toldAll S.cs).take j) ∧ wb + 1 ≤ wr2.heap.size))
      case atStart => exact ⟨0, rfl, Nat.zero_le _, by omega, ⟨_, _, _, rfl⟩, ⟨S.rd, T5.out⟩, Q5.out, K5.out, World.ownsRow_nil _ _ _ _, S5.out⟩
      case round =>
        obtain ⟨j, rfl, hjm, hgj, ⟨va, vk, vc, rfl⟩, I⟩ := hrel
        have hj20 : j ≤ 20 := by omega
        have lwb := I.out.2.2.1.lt
        by_cases hjl : j < m
        · have hjl2 : (j : Int) < (m : Int) := by omega
          obtain ⟨x, c, hcx, hnum, htold⟩ := wait_at (cs := S.cs) (j := j) (by rw [← HM.out]; exact hjl)
          have q0 := I.out.2.2.1.cell hnum
          obtain ⟨⟨rd, hT⟩, hQ, hK, hO, hS⟩ := I.out
          obtain ⟨r1, r2, y, r3⟩ := read_on (S := { S with rd := rd }) HO.out hcx
          have cr := hide (read_at d F1 { S with rd := rd } (x : Int) wr hT.one)
          rw [r1, r2, r3] at cr
          have hfit : c.now.read.size ≤ 384 := read_size (hT.one.good.fits c (List.mem_of_getElem? hcx)).1
          have TK : Hid ((toldAll S.cs).take (j + 1) = (toldAll S.cs).take j ++ [.string (told c.now)]) := by show _ = _; rw [List.take_add_one, htold]; rfl
          have HT := hide hT
          have HQ := hide hQ
          have HK := hide hK
          have HOW := hide hO
          have HS := hide hS
          clear hT hQ hK hO hS r1 r2 r3 hnum htold hcx I
          go_wp2_with fail
          refine cr.out.mono ?_
          rintro e w6 ⟨v6, rfl, r6, h6, k6⟩
          obtain ⟨ra, rm, rc, rfl, cv6⟩ := read_str r6 (G := []) (fun k hk => by cases hk)
          have cv := cv6 w6 (Keep.refl _ _)
          have T6 := hide (HT.out.step1 h6 (Moves.of_keep k6))
          have Q6 := hide (HQ.out.moves (Moves.of_keep k6).left)
          have nwb : Hid (wb ∉ F1) := fun hf => by have := WB.out wb (by simp [hf]); omega
          have K6 := hide (HK.out.same (k6.block wb HK.out.lt nwb.out))
          have O6 : Hid (w6.ownsRow (wb + 1) 9 1 (.slice va vk vc) j ((toldAll S.cs).take j)) := by
            obtain ⟨h1, h2⟩ := HOW.out
            refine ⟨h1, ?_⟩
            rcases h2 with h2 | ⟨g, cap, cur, hv, hg0, hh, r⟩
            · exact .inl h2
            · refine .inr ⟨g, cap, cur, hv, hg0, ?_, r⟩
              rw [k6.block g (Array.getElem?_eq_some_iff.1 hh).1 (fun hf => by have := WB.out g (by simp [hf]); omega)]
              exact hh
          have S6 : Hid (wb + 1 ≤ w6.heap.size) := Nat.le_trans HS.out k6.size
          have hsum : ∀ b : ByteArray, b.size = 1 → ¬ (9223372036854775807 < c.now.read.size + b.size) := fun b hb => by omega
          clear r6 h6 k6 cv6 HT HQ HK HOW HS cr
          have TD : Hid (told c.now = c.now.read ++ errB c.now.err) := rfl
          generalize told c.now = td at TK TD
          generalize c.now.read = tx at cv hsum TD hfit
          have fin : ∀ (E : Int) (x8 : UInt8), E = (x8.toNat : Int) → ∃ eb : ByteArray, errB E = eb ∧ eb.size = 1 ∧ (convert 29 9 (.slice (some ⟨w6.heap.size, 0, none⟩) 1 1)).run Try.prog (w6.alloc (.cells #[.int .u8 E] 5)) = .ok (.string eb) (w6.alloc (.cells #[.int .u8 E] 5)) := by
            intro E x8 hE
            refine ⟨_, rfl, rfl, ?_⟩
            have h := str_any (bs_one w6 x8 E hE) (fun h => by cases h) 1
            have e : errB E = ⟨[x8].toArray⟩ := by
              unfold errB
              rw [hE, Int.toNat_natCast]
              simp
            rw [e]
            exact h
          have FIN := hide fin
          clear fin
          rcases err_cases c.now with he | he | he
          all_goals (
            rw [he] at TD ⊢
            first
              | (obtain ⟨eb, q1, q2, q3⟩ := FIN.out 0 0 rfl; rw [q1] at TD)
              | (obtain ⟨eb, q1, q2, q3⟩ := FIN.out 5 5 rfl; rw [q1] at TD)
              | (obtain ⟨eb, q1, q2, q3⟩ := FIN.out 6 6 rfl; rw [q1] at TD)
            have hs2 := hsum eb q2
            clear q1 q2 hsum hfit
            go_wp2_with (at_builtin; refine wpList_append_own _ rfl _ _ 55 rfl (wb + 1) 9 i0 (.string ⟨#[]⟩) 1 16 Try.underlying55 hi0 hz0 hz1 hz2 rfl (by decide) _ _ _ rfl ((O6.out.alloc _).alloc _) ⟨w6.heap.size + 1, 0, none⟩ 1 1 [.string (tx ++ eb)] rfl ?qc1 ?qc2 ?qc3 ?qc4 ?qc5 ?qc6 ?_)
            case qc1 => rfl
            case qc2 =>
              intro z u hz
              exact one_new _ _ (by rw [nblk_alloc]) _ _ _ _ hz
            case qc3 => intro u hu; simp at hu; subst hu; rfl
            case qc4 => unfold maxLen; omega
            case qc5 => omega
            case qc6 => have := S6.out; simp; omega
            intro v' w7 hown hgrow hnil
            obtain ⟨g2, cp2, rfl⟩ : ∃ g2 cp2, v' = .slice (some ⟨g2, 0, none⟩) (j + 1) cp2 := by
              rcases hown.2 with ⟨_, h0⟩ | ⟨g2, cp2, _, hv, _⟩
              · omega
              · exact ⟨g2, cp2, hv⟩
            have Kp := (((Keep.refl (Value.ownBlock (.slice va vk vc)).toList w6).alloc (.cells #[.int .u8 _] 5)).alloc (.cells #[.string (tx ++ eb)] 9)).grown hgrow (fun k hk => .inl (by simp [hk]))
            have rowB : ∀ k ∈ (Value.ownBlock (.slice va vk vc)).toList, wb + 1 ≤ k := fun k hk => (O6.out.lt k (by simpa using hk)).1
            have T7 := hide (two_same T6.out Kp.size (fun k hk => Kp.block k (Nat.lt_of_lt_of_le (WB.out k hk) (by have := S6.out; omega)) (fun h => by have := rowB k h; have := WB.out k hk; omega)))
            have K7 := hide (K6.out.same (Kp.block wb K6.out.lt (fun h => by have := rowB wb h; omega)))
            have B7 : Hid (Below w.heap.size w w7) := Q6.out.1.trans ⟨Kp.os, Kp.tape, Kp.output, Kp.size, fun k hk => Kp.block k (Nat.lt_of_lt_of_le hk Q6.out.2.1) (fun h => by have := rowB k h; have := WG.out; omega)⟩
            have Q7 : Hid (Since w.heap.size w w7 (F1 ++ F4)) := ⟨B7.out, B7.out.size, Q6.out.2.2⟩
            have S7 : Hid (wb + 1 ≤ w7.heap.size) := Nat.le_trans S6.out Kp.size
            have O7 := hide hown
            clear hown hgrow hnil Kp rowB T6 K6 Q6 S6 O6 B7 q3 cv hs2
            go_wp2_with fail
            go_roundg (m - (j + 1))
            case measure => omega
            case rel =>
              refine ⟨j + 1, rfl, by omega, by omega, ⟨_, _, _, rfl⟩, ⟨y, T7.out⟩, Q7.out, K7.out, ?_, S7.out⟩
              rw [TK.out, TD.out]
              exact O7.out)
        have hjl2 : ¬ (j : Int) < (m : Int) := by omega
        obtain rfl : j = m := by omega
        obtain ⟨⟨rd, hT⟩, hQ, hK, hO, hS⟩ := I.out
        have hcm : cnt S.cs = j := by rw [← wl_cnt S.cs 0]; exact HM.out.symm
        have hfull : (toldAll S.cs).take j = toldAll S.cs := by rw [List.take_of_length_le]; rw [toldAll_len, hcm]; exact Nat.le_refl _
        rw [hfull] at hO
        have hnow : vk = j ∧ ∀ q t, (toldAll S.cs)[q]? = some t → ∃ g, va = some ⟨g, 0, none⟩ ∧ wb + 1 ≤ g ∧ g < wr.heap.size ∧ wr.cell? ⟨g, q, none⟩ = some t := by
          rcases hO.2 with ⟨h0, hj0⟩ | ⟨g, cap, cur, hv, hg0, hh, _, _, _, ht⟩
          · simp only [Value.slice.injEq] at h0
            refine ⟨by rw [h0.2.1, hj0], fun q t hq => ?_⟩
            have := (List.getElem?_eq_some_iff.1 hq).1
            rw [toldAll_len, hcm] at this
            omega
          · simp only [Value.slice.injEq] at hv
            have hb : Blk wr g (toldAll S.cs ++ cur.toList.drop (j * 1)) 9 := by
              unfold Blk
              rw [← ht, List.take_append_drop, Array.toArray_toList]
              exact hh
            exact ⟨hv.2.1, fun q t hq => ⟨g, hv.1, hg0, hb.lt, hb.cell (by rw [List.getElem?_append_left (List.getElem?_eq_some_iff.1 hq).1]; exact hq)⟩⟩
        obtain ⟨rfl, hnow⟩ := hnow
        obtain ⟨K, hKdef⟩ : ∃ K, K = wb :: (va.map (·.block)).toList.filter (fun g => decide (wb + 1 ≤ g ∧ g < wr.heap.size)) := ⟨_, rfl⟩
        have hKlt : ∀ k ∈ K, wb ≤ k ∧ k < wr.heap.size := fun k hk => by
          rw [hKdef] at hk
          rcases List.mem_cons.1 hk with rfl | hk
          · exact ⟨Nat.le_refl _, hK.lt⟩
          · have := (List.mem_filter.1 hk).2
            simp at this
            exact ⟨by omega, this.2⟩
        have hKw : wb ∈ K := by rw [hKdef]; simp
        have hKg : ∀ q t, (toldAll S.cs)[q]? = some t → ∃ g, va = some ⟨g, 0, none⟩ ∧ g ∈ K ∧ wr.cell? ⟨g, q, none⟩ = some t := fun q t hq => by
          obtain ⟨g, h1, h2, h3, h4⟩ := hnow q t hq
          exact ⟨g, h1, by rw [hKdef]; exact List.mem_cons_of_mem _ (List.mem_filter.2 ⟨by rw [h1]; simp, by simp; exact ⟨h2, h3⟩⟩), h4⟩
        have ap1 : Apart wr F1 K := fun k hk => ⟨(hKlt k hk).2, fun hf => by have := WB.out k (by simp [hf]); have := (hKlt k hk).1; omega⟩
        have ap4 : Apart wr F4 K := fun k hk => ⟨(hKlt k hk).2, fun hf => by have := WB.out k (by simp [hf]); have := (hKlt k hk).1; omega⟩
        have HT := hide hT
        have HQ := hide hQ
        have HK := hide hK
        have HKW := hide hKw
        have HKG := hide hKg
        have AP1 := hide ap1
        have AP4 := hide ap4
        have HCM := hide hcm
        clear hT hQ hK hO hS hcm hfull hnow hKdef hKlt hKw hKg ap1 ap4 I hjm hgj hjl K5 T5 Q5 S5
        have hbbF : z2 ≠ [] → bb2 ∉ F1 := fun hl hk => by
          have := HQ.out.2.2 bb2 (by simp [hk])
          rcases HB2.out.2.1 with h0 | ⟨h0, _⟩
          · exact hl h0
          · omega
        have cc := hide (crash_at d F1 { S with rd := rd } a2 len2 cap2 bb2 z2 HB2.out.1 (by have := HB2.out.2.2.2; have := HB2.out.1; omega) wr (HB2.out.2.1.same HQ.out.1.size (fun h _ => HQ.out.1.block bb2 h)) hbbF HT.out.one)
        clear hbbF
        go_wp2_with fail
        refine cc.out.mono ?_
        rintro e w7 ⟨rfl, F7, h7, m7⟩
        have T7 := hide (HT.out.step1 h7 m7)
        have Q7 := hide (HQ.out.moves m7.left)
        have A7 := hide (m7.apart AP1.out)
        have A74 : Hid (Apart w7 F4 K) := fun k hk => ⟨Nat.lt_of_lt_of_le (AP4.out k hk).1 m7.keep.size, (AP4.out k hk).2⟩
        clear h7 m7 HT HQ cc
        go_wp2_with fail
        refine (on_at d F7 _ w7 T7.out.one).mono ?_
        rintro e w8 ⟨rfl, F8, h8, m8⟩
        have T8 := hide (T7.out.step1 h8 m8)
        have Q8 := hide (Q7.out.moves m8.left)
        have A8 := hide (m8.apart A7.out.1)
        have A84 : Hid (Apart w8 F4 K) := fun k hk => ⟨Nat.lt_of_lt_of_le (A74.out k hk).1 m8.keep.size, (A74.out k hk).2⟩
        have SK8 : Hid (∀ k ∈ K, w8.heap[k]? = wr.heap[k]?) := fun k hk => (A8.out.2 k hk).trans (A7.out.2 k hk)
        clear h8 m8 T7 Q7
        obtain ⟨S8, hS8⟩ : ∃ S8, S8 = (({ S with rd := rd } : Dv).crash z2).on := ⟨_, rfl⟩
        obtain ⟨T0, hT0⟩ : ∃ T0, T0 = S.on := ⟨_, rfl⟩
        have CS8 : Hid (S8.cs = settle S.cs z2 ∧ S8.off = false) := ⟨by rw [hS8]; exact settle_nil S.cs z2, by rw [hS8]; rfl⟩
        have CT0 : Hid (T0.cs = settle S.cs [] ∧ T0.off = false) := ⟨by rw [hT0]; rfl, by rw [hT0]; rfl⟩
        rw [← hS8, ← hT0] at T8
        have KB8 := hide (HK.out.same (SK8.out wb HKW.out))
        have KG8 : Hid (∀ q t, (toldAll S.cs)[q]? = some t → ∃ g, va = some ⟨g, 0, none⟩ ∧ g ∈ K ∧ w8.cell? ⟨g, q, none⟩ = some t) := fun q t hq => by
          obtain ⟨g, h1, h2, h3⟩ := HKG.out q t hq
          exact ⟨g, h1, h2, by rw [World.cell?_of_block (a := ⟨g, q, none⟩) (SK8.out g h2)]; exact h3⟩
        have I8 : Hid ((∃ x y, Two w8 d ob F8 F4 { S8 with rd := x } { T0 with rd := y }) ∧ Since w.heap.size w w8 (F8 ++ F4) ∧ (∀ k ∈ K, w8.heap[k]? = w8.heap[k]?) ∧ w8.heap.size ≤ w8.heap.size) := ⟨⟨S8.rd, T0.rd, T8.out⟩, Q8.out, fun _ _ => rfl, Nat.le_refl _⟩
        clear hS8 hT0 T8 Q8 A7 A74 SK8 HK HKG AP1 AP4
        go_wp2_with fail
        go_loopg [17, 18] p (fun kx s17 s18 wr2 => ∃ q : Nat, s18 = .int .i64 q ∧ s17 = .int .i64 (cnt (S.cs.take q) : Int) ∧ q ≤ p ∧ p - q ≤ kx ∧ Hid ((∃ x y, Two wr2 d ob F8 F4 { S8 with rd := x } { T0 with rd := y }) ∧ Since w.heap.size w wr2 (F8 ++ F4) ∧ (∀ k ∈ K, wr2.heap[k]? = w8.heap[k]?) ∧ w8.heap.size ≤ wr2.heap.size))
        case atStart => exact ⟨0, rfl, by simp [cnt], Nat.zero_le _, by omega, I8.out.1, I8.out.2.1, fun _ _ => rfl, Nat.le_refl _⟩
        case round =>
          obtain ⟨q, rfl, rfl, hqn, hgq, I⟩ := hrel
          have hq20 : q ≤ 20 := by have := HP2.out; omega
          have hk20 : cnt (S.cs.take q) ≤ 20 := by have := cnt_le S.cs q; have := HCM.out; omega
          by_cases hql : q < p
          · have hql2 : (q : Int) < (p : Int) := by omega
            obtain ⟨c, hc⟩ : ∃ c, S.cs[q]? = some c := ⟨_, List.getElem?_eq_getElem (by rw [HSL.out]; exact hql)⟩
            obtain ⟨⟨x1, y1, hT⟩, hQ, hSK, hS⟩ := I.out
            obtain ⟨k, hkd⟩ : ∃ k, k = cnt (S.cs.take q) := ⟨_, rfl⟩
            obtain ⟨x8, hx8⟩ : ∃ x8 : UInt8, x8 = z2.getD k 0 := ⟨_, rfl⟩
            have g1 : S8.cs[q]? = some (settled c x8) := by rw [CS8.out.1, hx8, hkd]; exact settle_get S.cs z2 q c hc
            have g2 : T0.cs[q]? = some (settled c 0) := by rw [CT0.out.1]; have := settle_get S.cs [] q c hc; simpa using this
            obtain ⟨r1, r2, y, r3⟩ := read_on (S := { S8 with rd := x1 }) CS8.out.2 g1
            obtain ⟨s1, s2, z, s3⟩ := read_on (S := { T0 with rd := y1 }) CT0.out.2 g2
            have cr := hide (read_at d F8 { S8 with rd := x1 } (q : Int) wr hT.one)
            rw [r1, r2, r3] at cr
            have co : Hid (∀ W, DvAt W ob F4 { T0 with rd := y1 } → _) := fun W hW => read_at ob F4 { T0 with rd := y1 } (q : Int) W hW
            rw [s1, s2, s3] at co
            have HX8 := hide hx8
            obtain ⟨E1, hE1⟩ : ∃ E, E = (settled c x8).now.err := ⟨_, rfl⟩
            obtain ⟨T1, hT1⟩ : ∃ T, T = (settled c x8).now.read := ⟨_, rfl⟩
            obtain ⟨E2, hE2⟩ : ∃ E, E = (settled c 0).now.err := ⟨_, rfl⟩
            obtain ⟨T2, hT2⟩ : ∃ T, T = (settled c 0).now.read := ⟨_, rfl⟩
            have hT1s : T1.size ≤ 384 := by rw [hT1]; exact read_size (hT.one.good.fits (settled c x8) (List.mem_of_getElem? g1)).1
            rw [← hE1, ← hT1] at cr
            rw [← hE2, ← hT2] at co
            have FE1 := hide hE1
            have FT1 := hide hT1
            have FE2 := hide hE2
            have FT2 := hide hT2
            clear hx8 hE1 hT1 hE2 hT2
            have CN := hide (cnt_step S.cs q c hc)
            have WT := hide (wl_at S.cs q c hc)
            have TA := hide (toldAll_at S.cs q c hc)
            rw [← hkd] at CN WT TA hk20 ⊢
            have HT := hide hT
            have HQ := hide hQ
            have HSK := hide hSK
            have HS := hide hS
            have hkm : k ≤ vk := by rw [hkd, ← HCM.out]; exact cnt_le _ _
            have bsz : Hid (BSlice wr a2 z2 bb2) := HB2.out.2.1.same hQ.1.size (fun h _ => hQ.1.block bb2 h)
            clear r1 r2 r3 s1 s2 s3 hT hQ hSK hS g1 g2 hc hkd I
            go_wp2_with fail
            refine cr.out.mono ?_
            rintro e w9 ⟨v9, rfl, r9, h9, k9⟩
            obtain ⟨xa, xm, xc, rfl, cv9⟩ := read_str r9 (G := F4) HT.out.two.lt
            have T9 := hide (HT.out.step1 h9 (Moves.of_keep k9))
            have Q9 := hide (HQ.out.moves (Moves.of_keep k9).left)
            have SK9 : Hid (∀ k ∈ K, w9.heap[k]? = w8.heap[k]?) := fun k hk => (k9.block k (Nat.lt_of_lt_of_le (A8.out.1 k hk).1 HS.out) (A8.out.1 k hk).2).trans (HSK.out k hk)
            have S9 : Hid (w8.heap.size ≤ w9.heap.size) := Nat.le_trans HS.out k9.size
            have CV9 := hide cv9
            clear r9 h9 k9 cv9 HT HQ HSK HS cr
            go_wp2_with fail
            refine (co.out w9 T9.out.two).mono ?_
            rintro e w10 ⟨v10, rfl, r10, h10, k10⟩
            obtain ⟨ya, ym, yc, rfl, cv10⟩ := read_str r10 (G := []) (fun k hk => by cases hk)
            have T10 := hide (T9.out.step2 h10 (Moves.of_keep k10))
            have Q10 := hide (Q9.out.moves (Moves.of_keep k10).right)
            have SK10 : Hid (∀ k ∈ K, w10.heap[k]? = w8.heap[k]?) := fun k hk => (k10.block k (Nat.lt_of_lt_of_le (A84.out k hk).1 S9.out) (A84.out k hk).2).trans (SK9.out k hk)
            have S10 : Hid (w8.heap.size ≤ w10.heap.size) := Nat.le_trans S9.out k10.size
            have e9 := CV9.out w10 k10
            have e10 := cv10 w10 (Keep.refl _ _)
            have CVW : Hid (∀ W, Keep [] w10 W → (convert 29 9 (.slice xa xm xc)).run Try.prog W = .ok (.string T1) W) := fun W hK => CV9.out W (k10.trans hK (fun x hx => by cases hx))
            have KB := hide (KB8.out.same (SK10.out wb HKW.out))
            have KG : Hid (∀ q t, (toldAll S.cs)[q]? = some t → ∃ g, va = some ⟨g, 0, none⟩ ∧ g < w10.heap.size ∧ w10.cell? ⟨g, q, none⟩ = some t) := fun q t hq => by
              obtain ⟨g, h1, h2, h3⟩ := KG8.out q t hq
              exact ⟨g, h1, Nat.lt_of_lt_of_le (A84.out g h2).1 S10.out, by rw [World.cell?_of_block (a := ⟨g, q, none⟩) (SK10.out g h2)]; exact h3⟩
            have bs10 : Hid (BSlice w10 a2 z2 bb2) := HB2.out.2.1.same Q10.out.1.size (fun h _ => Q10.out.1.block bb2 h)
            have lwb10 := KB.out.lt
            have N10 : Hid ((∃ x y, Two w10 d ob F8 F4 { S8 with rd := x } { T0 with rd := y }) ∧ Since w.heap.size w w10 (F8 ++ F4) ∧ (∀ k ∈ K, w10.heap[k]? = w8.heap[k]?) ∧ w8.heap.size ≤ w10.heap.size) := ⟨⟨_, _, T10.out⟩, Q10.out, SK10.out, S10.out⟩
            clear r10 h10 k10 cv10 CV9 T9 Q9 SK9 S9 T10 Q10 SK10 S10 co bsz
            cases hl : c.last with
            | none =>
              have CN0 : Hid (cnt (S.cs.take (q + 1)) = k) := by show _ = _; rw [CN.out, hl]; simp
              have se : ∀ x, settled c x = c := fun x => by simp [settled, hl]
              obtain rfl : E1 = E2 := by rw [FE1.out, FE2.out, se, se]
              obtain rfl : T1 = T2 := by rw [FT1.out, FT2.out, se, se]
              have WN := hide (WT.out.2 hl)
              clear hl se WT TA FE1 FT1 FE2 FT2 hT1s
              by_cases hkl : k < vk
              · have hkl2 : (k : Int) < (vk : Int) := by omega
                obtain ⟨x, hx⟩ : ∃ x, (wl 0 S.cs)[k]? = some x := ⟨_, List.getElem?_eq_getElem (by rw [← HM.out]; exact hkl)⟩
                have q1 : w10.cell? ⟨wb, k, none⟩ = some (.int .i64 (x.1 : Int)) := KB.out.cell (by rw [wtNums, List.getElem?_map, hx]; rfl)
                have hne : ¬ ((x.1 : Int) = (q : Int)) := fun h => WN.out x hx (by omega)
                clear hx
                go_wp2_with fail
                go_roundg (p - (q + 1))
                case measure => omega
                case rel => exact ⟨q + 1, rfl, by rw [CN0.out], by omega, by omega, N10.out⟩
              · have hkl2 : ¬ (k : Int) < (vk : Int) := by omega
                go_wp2_with fail
                go_roundg (p - (q + 1))
                case measure => omega
                case rel => exact ⟨q + 1, rfl, by rw [CN0.out], by omega, by omega, N10.out⟩
            | some l =>
              have CN1 : Hid ((cnt (S.cs.take (q + 1)) : Int) = (k : Int) + 1) := by show _ = _; rw [CN.out, hl]; simp
              have hwk := WT.out.1 l hl
              have hkl : k < vk := by have := (List.getElem?_eq_some_iff.1 hwk).1; rw [← HM.out] at this; exact this
              have hkl2 : (k : Int) < (vk : Int) := by omega
              have q1 : w10.cell? ⟨wb, k, none⟩ = some (.int .i64 (q : Int)) := KB.out.cell (by rw [wtNums, List.getElem?_map, hwk]; rfl)
              have se : ∀ x, settled c x = ⟨pick c.now l x.toNat, none⟩ := fun x => by simp [settled, hl]
              have e2l : E2 = l.err ∧ T2 = l.read := by rw [FE2.out, FT2.out, se]; exact ⟨rfl, rfl⟩
              obtain ⟨gg, hgg, lgg, cgg⟩ := KG.out k _ (TA.out (by rw [hl]; rfl))
              subst hgg
              have E2L := hide e2l
              have SE := hide se
              clear WT TA hwk e2l se hl
              by_cases hk2 : k < len2
              · have hk2i : (k : Int) < (len2 : Int) := by omega
                have pc : ∃ bo, a2 = some ⟨bb2, bo, none⟩ ∧ bb2 < w10.heap.size ∧ w10.cell? ⟨bb2, bo + k, none⟩ = some (.int .u8 (x8.toNat : Int)) := by
                  have hk3 : k < z2.length := by rw [← HB2.out.1]; exact hk2
                  rcases bs10.out with h0 | ⟨hb, bo, ha, hcc⟩
                  · rw [h0] at hk3; simp at hk3
                  · refine ⟨bo, ha, hb, ?_⟩
                    rw [hcc k hk3, HX8.out]
                    simp [List.getD_eq_getElem?_getD, List.getElem?_eq_getElem hk3]
                obtain ⟨bo, rfl, hbw, pc⟩ := pc
                rcases (show x8.toNat % 3 = 0 ∨ x8.toNat % 3 = 1 ∨ x8.toNat % 3 = 2 by omega) with h3 | h3 | h3
                · have h3i : (wrap64 (x8.toNat : Int)).tmod 3 = 0 := by rw [pick3]; omega
                  obtain rfl : E1 = E2 := by rw [FE1.out, SE.out, E2L.out.1]; simp [pick, h3]
                  obtain rfl : T1 = T2 := by rw [FT1.out, SE.out, E2L.out.2]; simp [pick, h3]
                  clear h3 FE1 FT1 FE2 FT2 hT1s
                  go_wp2_with fail
                  go_roundg (p - (q + 1))
                  case measure => omega
                  case rel => exact ⟨q + 1, rfl, by rw [CN1.out], by omega, by omega, N10.out⟩
                · have h3i : (wrap64 (x8.toNat : Int)).tmod 3 = 1 := by rw [pick3]; omega
                  have hE1 : E1 = c.now.err := by rw [FE1.out, SE.out]; simp [pick, h3]
                  have hT1 : T1 = c.now.read := by rw [FT1.out, SE.out]; simp [pick, h3]
                  have htd : told c.now = T1 ++ errB E1 := by rw [hE1, hT1]; rfl
                  rw [htd] at cgg
                  have fin : ∀ (E : Int) (x8 : UInt8), E = (x8.toNat : Int) → ∃ eb : ByteArray, errB E = eb ∧ eb.size = 1 ∧ (convert 29 9 (.slice (some ⟨w10.heap.size, 0, none⟩) 1 1)).run Try.prog (w10.alloc (.cells #[.int .u8 E] 5)).drew = .ok (.string eb) (w10.alloc (.cells #[.int .u8 E] 5)).drew ∧
                      (convert 29 9 (.slice xa xm xc)).run Try.prog (w10.alloc (.cells #[.int .u8 E] 5)).drew = .ok (.string T1) (w10.alloc (.cells #[.int .u8 E] 5)).drew := by
                    intro E x8 hE
                    refine ⟨_, rfl, rfl, ?_, CVW.out _ ((Keep.refl _ _).alloc _).drew⟩
                    have h := str_any (w := (w10.alloc (.cells #[.int .u8 E] 5)).drew) ((bs_one w10 x8 E hE).same (Nat.le_refl _) (fun _ _ => rfl)) (fun h => by cases h) 1
                    have e : errB E = ⟨[x8].toArray⟩ := by
                      unfold errB
                      rw [hE, Int.toNat_natCast]
                      simp
                    rw [e]
                    exact h
                  have FIN := hide fin
                  have hsum : ∀ b : ByteArray, b.size = 1 → ¬ (9223372036854775807 < T1.size + b.size) := fun b hb => by omega
                  have N11 := hide N10.out
                  clear fin h3 FE1 FT1 FE2 FT2 hT1s hT1 htd N10
                  have ec := err_cases c.now
                  rw [← hE1] at ec
                  clear hE1
                  rcases ec with he | he | he
                  all_goals (
                    subst he
                    first
                      | (obtain ⟨eb, q1, q2, q3, q4⟩ := FIN.out 0 0 rfl; rw [q1] at cgg)
                      | (obtain ⟨eb, q1, q2, q3, q4⟩ := FIN.out 5 5 rfl; rw [q1] at cgg)
                      | (obtain ⟨eb, q1, q2, q3, q4⟩ := FIN.out 6 6 rfl; rw [q1] at cgg)
                    have hs2 := hsum eb q2
                    have d1 := CVW.out w10.drew (Keep.refl _ _).drew
                    clear q1 q2 hsum
                    go_wp2_with fail
                    go_region
                    all_goals go_wp2_with fail
                    all_goals (
                      go_roundg (p - (q + 1))
                      case measure => omega
                      case rel =>
                        refine ⟨q + 1, rfl, by rw [CN1.out], by omega, by omega, ?_⟩
                        obtain ⟨⟨xx, yy, hTT⟩, hQQ, hSS, hZZ⟩ := N11.out
                        refine ⟨⟨xx, yy, (hTT.below ((Below.refl _ _).alloc (Nat.le_refl _) _)).heap rfl⟩, since_heap (hQQ.alloc _) rfl rfl rfl rfl, fun k hk => ?_, ?_⟩
                        · have hlt := Nat.lt_of_lt_of_le (A84.out k hk).1 hZZ
                          exact (blk_alloc_lt _ _ _ hlt).trans (hSS k hk)
                        · refine Nat.le_trans hZZ ?_
                          show _ ≤ (w10.alloc _).heap.size
                          rw [nblk_alloc]
                          omega))
                · have h3i : (wrap64 (x8.toNat : Int)).tmod 3 = 2 := by rw [pick3]; omega
                  obtain rfl : E1 = 6 := by rw [FE1.out, SE.out]; simp [pick, h3, Pg.err]
                  clear h3 FE1 FT1 FE2 FT2 hT1s
                  go_wp2_with fail
                  go_roundg (p - (q + 1))
                  case measure => omega
                  case rel => exact ⟨q + 1, rfl, by rw [CN1.out], by omega, by omega, N10.out⟩
              · have hk2i : ¬ (k : Int) < (len2 : Int) := by omega
                have hx0 : x8 = 0 := by rw [HX8.out, List.getD_eq_getElem?_getD, List.getElem?_eq_none (by rw [← HB2.out.1]; omega)]; rfl
                obtain rfl : E1 = E2 := by rw [FE1.out, FE2.out, hx0]
                obtain rfl : T1 = T2 := by rw [FT1.out, FT2.out, hx0]
                clear hx0 FE1 FT1 FE2 FT2 hT1s
                go_wp2_with fail
                go_roundg (p - (q + 1))
                case measure => omega
                case rel => exact ⟨q + 1, rfl, by rw [CN1.out], by omega, by omega, N10.out⟩
          have hql2 : ¬ (q : Int) < (p : Int) := by omega
          obtain ⟨⟨x1, y1, hT⟩, hQ, hSK, hS⟩ := I.out
          have cw := hide (waiting_at d F8 { S8 with rd := x1 } wr hT.one)
          have ew : wl 0 ({ S8 with rd := x1 } : Dv).cs = [] := by show wl 0 S8.cs = []; rw [CS8.out.1]; exact wl_settle _ _ _
          rw [ew] at cw
          have Q := hide hQ
          clear ew hT hQ hSK hS I
          go_wp2_with fail
          refine cw.out.mono ?_
          rintro e w9 ⟨rfl, _, b9⟩
          have Q9 := hide (Q.out.below b9)
          clear b9
          go_wp2
          go_ret
          exact ⟨rfl, Q9.out.1⟩
end Go.Proofs.Ythnfdgjikbjgoaa.flashPicks
