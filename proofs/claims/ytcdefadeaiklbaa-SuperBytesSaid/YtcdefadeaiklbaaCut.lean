/- A Store that the power goes from, a crash, and what is loaded then. -/
import Derived.Test.YtcdefadeaiklbaaChain
set_option linter.unusedVariables false
set_option linter.unusedSimpArgs false
set_option maxRecDepth 8000
namespace Go.Proofs.Ytcdefadeaiklbaa
open Go.RowKit Go.Deep Math

def Quiet (S : Dv) : Prop := ∀ c ∈ S.cs, c.last = none
theorem settle_quiet : ∀ (cs : List Cl) (ps : List UInt8), (∀ c ∈ cs, c.last = none) → settle cs ps = cs
  | [], _, _ => rfl
  | c :: r, ps, h => by
    have hc := h c (by simp)
    unfold settle
    rw [hc]
    simp only
    rw [settle_quiet r ps (fun x hx => h x (by simp [hx]))]
theorem settle_last : ∀ (cs : List Cl) (ps : List UInt8), ∀ c ∈ settle cs ps, c.last = none
  | [], _ => by simp [settle]
  | c :: r, ps => by
    intro x hx
    unfold settle at hx
    split at hx
    · rename_i h
      rcases List.mem_cons.1 hx with rfl | hx
      · exact h
      · exact settle_last r ps x hx
    · rcases List.mem_cons.1 hx with rfl | hx
      · rfl
      · exact settle_last r ps.tail x hx
theorem settle_twice (cs : List Cl) (ps : List UInt8) : settle (settle cs ps) [] = settle cs ps := settle_quiet _ _ (settle_last cs ps)
theorem settle_putAt : ∀ (cs : List Cl) (k : Nat) (p : Pg) (ps : List UInt8) (c : Cl), (∀ c ∈ cs, c.last = none) → cs[k]? = some c → ∀ j, ((settle (putAt cs k p) ps)[j]?).map (·.now) = if j = k then some (pick p c.now (ps.headD 0).toNat) else (cs[j]?).map (·.now)
  | [], k, p, ps, c, _, hk, j => by simp at hk
  | c0 :: r, 0, p, ps, c, h, hk, j => by
    have hc : c0 = c := by simpa using hk
    subst hc
    have h0 := h c0 (by simp)
    have hr := settle_quiet r ps.tail (fun x hx => h x (by simp [hx]))
    have e : settle (putAt (c0 :: r) 0 p) ps = ⟨pick p c0.now (ps.headD 0).toNat, none⟩ :: r := by
      simp only [putAt, Cl.put, h0, Option.getD_none]
      unfold settle
      simp only [hr]
    rw [e]
    cases j with
    | zero => simp
    | succ j => simp
  | c0 :: r, k + 1, p, ps, c, h, hk, j => by
    have h0 := h c0 (by simp)
    have e : settle (putAt (c0 :: r) (k + 1) p) ps = c0 :: settle (putAt r k p) ps := by
      simp only [putAt]
      rw [settle, h0]
    rw [e]
    cases j with
    | zero => simp
    | succ j =>
      have := settle_putAt r k p ps c (fun x hx => h x (by simp [hx])) (by simpa using hk) j
      simp only [List.getElem?_cons_succ, this, Nat.add_right_cancel_iff]
theorem Quiet.fresh (n : Nat) : Quiet (Dv.fresh n) := fun c hc => by
  have := List.eq_of_mem_replicate hc
  subst this
  rfl
theorem Quiet.cs {S T : Dv} (h : Quiet S) (e : T.cs = S.cs) : Quiet T := fun c hc => h c (by rw [← e]; exact hc)
theorem flushed_quiet (S : Dv) (n : Bk) (h2 : 2 ≤ S.cs.length) (ho : S.off = false) (ha : S.armed ≠ 1) (ha2 : S.armed ≠ 2) : Quiet (S.wrote n).flushDo := by
  rw [flushed_is S n h2 ho ha ha2]
  intro c hc
  obtain ⟨x, _, rfl⟩ := List.mem_map.1 (show c ∈ (S.wrote n).cs.map Cl.flush from hc)
  rfl
theorem storeDo_quiet {S : Dv} {a b : Option Bk} (t : Two S a b) (x : Bk) (hl : lastS a b ≠ 18446744073709551615) (h1 : S.armed ≠ 1) (h2 : S.armed ≠ 2) : Quiet (S.storeDo x) := by
  have hlen := t.len
  have hno : ¬ S.off = true := by rw [t.off]; decide
  have hn2 : ¬ S.cs.length < 2 := by omega
  have hls : ¬ S.lastSeq = 18446744073709551615 := by rw [t.lastSeq]; exact hl
  have eD : S.storeDo x = (S.wrote (S.nextB x)).flushDo := by unfold Dv.storeDo; rw [if_neg hn2, if_neg hno, if_neg hls, if_neg h1]
  rw [eD]
  exact flushed_quiet S _ hlen t.off h1 h2
theorem Two.pg {S T : Dv} {a b : Option Bk} (t : Two S a b) (h : T.cs = S.cs) (ho : T.off = false) : Two T a b :=
  ⟨by rw [h]; exact t.len, ho, by rw [slotB_cs h]; exact t.s0, by rw [slotB_cs h]; exact t.s1⟩
theorem back_cs (D : Dv) (ps : List UInt8) : ((D.crash ps).on).cs = settle D.cs ps := settle_twice _ _

theorem newer_gone (n : Nat) (cur : Option Bk) : newer (if n % 2 = 0 then cur else none) (if n % 2 = 0 then none else cur) = cur := by
  by_cases h : n % 2 = 0
  · rw [if_pos h, if_pos h]; cases cur <;> rfl
  · rw [if_neg h, if_neg h]; cases cur <;> rfl
/-- The cut. -/
theorem cut_last {S : Dv} {n : Nat} {cur prev : Option Bk} (c : Chain S n cur prev) (q : Quiet S) (a : Int) (b : Bk) (hf : b.fits) (hn : n < 18446744073709551615) (ps : List UInt8) :
    ((S.arm a).storeE = 0 ∧ (S.arm a).storeB b = sB b (n + 1) ∧ ((((S.arm a).storeDo b).crash ps).on).loadV = slotV (some (sB b (n + 1)))) ∨
    ((S.arm a).storeE = 4 ∧ (S.arm a).storeB b = Bk.zero ∧ (((((S.arm a).storeDo b).crash ps).on).loadV = slotV cur ∨ ((((S.arm a).storeDo b).crash ps).on).loadV = slotV (some (sB b (n + 1))))) := by
  obtain ⟨A, hA⟩ : ∃ A, A = S.arm a := ⟨_, rfl⟩
  rw [← hA]
  have hcs : A.cs = S.cs := by rw [hA]; rfl
  have tA : Two A (if n % 2 = 0 then cur else prev) (if n % 2 = 0 then prev else cur) := c.two.pg hcs (by rw [hA]; exact c.two.off)
  have qA : Quiet A := q.cs hcs
  have hN := c.nxt b
  have hlast := c.last
  have hl : lastS (if n % 2 = 0 then cur else prev) (if n % 2 = 0 then prev else cur) ≠ 18446744073709551615 := by rw [hlast]; omega
  have hlen := tA.len
  have hno : ¬ A.off = true := by rw [tA.off]; decide
  have hn2 : ¬ A.cs.length < 2 := by omega
  have hls : ¬ A.lastSeq = 18446744073709551615 := by rw [tA.lastSeq]; exact hl
  have hnb : A.nextB b = sB b (n + 1) := by rw [tA.nextB, hN]
  have hNf : (sB b (n + 1)).fits := sB_fits b hf _ (by omega)
  have hNt : (sB b (n + 1)).told = sB b (n + 1) := by rw [← hnb]; exact nextB_told A b
  -- what is loaded where the slots are those of a Store
  have new : ∀ T : Dv, T.armed = 0 → Two T (if (sB b (n + 1)).seq % 2 = 0 then some (sB b (n + 1)) else (if n % 2 = 0 then cur else prev)) (if (sB b (n + 1)).seq % 2 = 1 then some (sB b (n + 1)) else (if n % 2 = 0 then prev else cur)) → T.loadV = slotV (some (sB b (n + 1))) := fun T ha t => by
    have c' := c.step b t ha
    rw [c'.two.loadV, c'.newer]
  have old : ∀ T : Dv, T.off = false → T.cs = S.cs → T.loadV = slotV cur := fun T ho h => by
    rw [(c.two.pg h ho).loadV, c.newer]
  by_cases h1 : A.armed = 1
  · right
    have eE : A.storeE = 4 := by unfold Dv.storeE; rw [if_neg hn2, if_neg hno, if_neg hls, if_pos h1]
    have eB : A.storeB b = Bk.zero := by unfold Dv.storeB; rw [if_neg hn2, if_neg hno, if_neg hls, if_pos h1]
    have eD : A.storeDo b = A.wrote (A.nextB b) := by unfold Dv.storeDo; rw [if_neg hn2, if_neg hno, if_neg hls, if_pos h1]
    refine ⟨eE, eB, .inl (old _ rfl ?_)⟩
    have e2 : (A.wrote (A.nextB b)).cs = S.cs := by
      have hs : (txt (A.nextB b).enc).size = 64 := by rw [txt_size, Bk.enc_length]
      have hh : A.loadDo.has (((A.nextB b).seq % 2 : Nat) : Int) = true := has_nat (by rw [loadDo_cs]; omega)
      have hg : A.loadDo.gone = true := by unfold Dv.gone; rw [loadDo_off, loadDo_armed, h1]; simp
      unfold Dv.wrote Dv.writeDo
      rw [if_neg (by omega)]
      unfold Dv.putDo
      rw [if_neg (by rw [hh]; decide), if_pos hg, Dv.used_cs, loadDo_cs, hcs]
    rw [back_cs, eD, e2]
    exact settle_quiet _ _ q
  · by_cases h2 : A.armed = 2
    · right
      have eE : A.storeE = 4 := by unfold Dv.storeE; rw [if_neg hn2, if_neg hno, if_neg hls, if_neg h1, if_pos h2]
      have eB : A.storeB b = Bk.zero := by unfold Dv.storeB; rw [if_neg hn2, if_neg hno, if_neg hls, if_neg h1, if_pos h2]
      have eD : A.storeDo b = (A.wrote (A.nextB b)).flushDo := by unfold Dv.storeDo; rw [if_neg hn2, if_neg hno, if_neg hls, if_neg h1]
      have eW : (A.wrote (A.nextB b)).cs = putAt A.cs ((sB b (n + 1)).seq % 2) (.whole (txt (sB b (n + 1)).enc)) := by rw [wrote_is A _ hlen tA.off h1, hnb]
      have eF : ((A.wrote (A.nextB b)).flushDo).cs = (A.wrote (A.nextB b)).cs := by
        have e := flush_err A (A.nextB b) hlen tA.off h1
        rw [if_pos h2] at e
        unfold Dv.flushErr at e
        have hg : (A.wrote (A.nextB b)).gone = true := by
          cases hg : (A.wrote (A.nextB b)).gone with
          | true => rfl
          | false => rw [hg] at e; simp at e
        unfold Dv.flushDo
        rw [if_pos hg, Dv.used_cs]
      have hsq : (sB b (n + 1)).seq = n + 1 := rfl
      obtain ⟨c0, hc0⟩ : ∃ c0, A.cs[(sB b (n + 1)).seq % 2]? = some c0 := ⟨_, List.getElem?_eq_getElem (by omega)⟩
      obtain ⟨T, hT⟩ : ∃ T, T = ((A.storeDo b).crash ps).on := ⟨_, rfl⟩
      have hTo : T.off = false := by rw [hT]; rfl
      have hTa : T.armed = 0 := by rw [hT]; rfl
      have hTcs : T.cs = settle (putAt A.cs ((sB b (n + 1)).seq % 2) (.whole (txt (sB b (n + 1)).enc))) ps := by rw [hT, back_cs, eD, eF, eW]
      have hTl : 2 ≤ T.cs.length := by rw [hTcs, settle_length, putAt_length]; exact hlen
      have hpg : ∀ j, T.pg j = if j = (sB b (n + 1)).seq % 2 then some (pick (.whole (txt (sB b (n + 1)).enc)) c0.now (ps.headD 0).toNat) else A.pg j := fun j => by
        have := settle_putAt A.cs _ (.whole (txt (sB b (n + 1)).enc)) ps c0 qA hc0 j
        unfold Dv.pg
        rw [hTcs]
        exact this
      have hApg : A.pg ((sB b (n + 1)).seq % 2) = some c0.now := by unfold Dv.pg; rw [hc0]; rfl
      rw [← hT]
      refine ⟨eE, eB, ?_⟩
      have hslot : ∀ j, j < 2 → ∀ p, pick (.whole (txt (sB b (n + 1)).enc)) c0.now (ps.headD 0).toNat = p → T.slotB j = if j = (sB b (n + 1)).seq % 2 then pgBk p else A.slotB j := fun j hj p hp => by
        rw [slotB_pg, hpg j]
        by_cases h : j = (sB b (n + 1)).seq % 2
        · rw [if_pos h, if_pos h, Option.bind_some, hp]
        · rw [if_neg h, if_neg h, slotB_pg]
      have hAold : A.slotB ((sB b (n + 1)).seq % 2) = pgBk c0.now := by rw [slotB_pg, hApg, Option.bind_some]
      unfold pick at hslot
      by_cases hp0 : (ps.headD 0).toNat % 3 = 0
      · left
        rw [if_pos hp0] at hslot
        have hs : ∀ j, j < 2 → T.slotB j = A.slotB j := fun j hj => by
          rw [hslot j hj _ rfl]
          by_cases h : j = (sB b (n + 1)).seq % 2
          · rw [if_pos h, h, hAold]
          · rw [if_neg h]
        have t : Two T (if n % 2 = 0 then cur else prev) (if n % 2 = 0 then prev else cur) := ⟨hTl, hTo, by rw [hs 0 (by omega)]; exact tA.s0, by rw [hs 1 (by omega)]; exact tA.s1⟩
        rw [t.loadV, c.newer]
      · rw [if_neg hp0] at hslot
        by_cases hp2 : (ps.headD 0).toNat % 3 = 2
        · left
          rw [if_pos hp2] at hslot
          have t : Two T (if n % 2 = 0 then cur else none) (if n % 2 = 0 then none else cur) := by
            refine ⟨hTl, hTo, ?_, ?_⟩
            · rw [hslot 0 (by omega) _ rfl, tA.s0, hsq]
              by_cases h : n % 2 = 0
              · rw [if_neg (by omega), if_pos h, if_pos h]
              · rw [if_pos (by omega), if_neg h]; rfl
            · rw [hslot 1 (by omega) _ rfl, tA.s1, hsq]
              by_cases h : n % 2 = 0
              · rw [if_pos (by omega), if_pos h]; rfl
              · rw [if_neg (by omega), if_neg h, if_neg h]
          rw [t.loadV, newer_gone]
        · right
          rw [if_neg hp2] at hslot
          refine new T hTa ⟨hTl, hTo, ?_, ?_⟩
          · rw [hslot 0 (by omega) _ rfl, tA.s0, pgBk_enc _ hNf, hNt]
            simp only [eq_comm]
          · rw [hslot 1 (by omega) _ rfl, tA.s1, pgBk_enc _ hNf, hNt]
            simp only [eq_comm]
    · left
      obtain ⟨e1, e2, _, e3, e4⟩ := tA.store b hf hl h1 h2
      have qD : Quiet (A.storeDo b) := storeDo_quiet tA b hl h1 h2
      rw [hN] at e2 e3
      refine ⟨e1, e2, new _ rfl (e3.pg ?_ rfl)⟩
      rw [back_cs]
      exact settle_quiet _ _ qD

/-! ### The calls -/
theorem store_chainQ {w0 W : World} {d : Nat} {F : List Nat} {S : Dv} {i : Nat} {cur prev : Option Bk} (h : Law w0 d F S W) (c : Chain S i cur prev) (q : Quiet S) (hi : i < 18446744073709551615) (x : Bk) (hf : x.fits) :
    Calls Try.prog 12 #[.pointer (some ⟨d, 0, none⟩), .agg #[.int .u64 x.seq, .int .u64 x.epoch, .int .u64 x.res, .int .u64 x.hor, .int .u64 x.gen, .bool x.clean, .int .i64 x.image]] W fun e W' => e = .returned (bkV (sB x (i + 1)) 0) ∧
      ∃ F' S', Law w0 d F' S' W' ∧ Chain S' (i + 1) (some (sB x (i + 1))) cur ∧ Quiet S' ∧ Moves F F' W W' := by
  have e := c.nxt x
  have hl : lastS (if i % 2 = 0 then cur else prev) (if i % 2 = 0 then prev else cur) ≠ 18446744073709551615 := by rw [c.last]; omega
  have h1 : S.armed ≠ 1 := by rw [c.arm]; decide
  have h2 : S.armed ≠ 2 := by rw [c.arm]; decide
  obtain ⟨e1, e2, _, e3, e4⟩ := c.two.store x hf hl h1 h2
  rw [e] at e2 e3
  refine (store_law h x hf).mono ?_
  rintro r W' ⟨rfl, F', hl', hm⟩
  refine ⟨by rw [e1, e2], F', _, hl', c.step x e3 ?_, storeDo_quiet c.two x hl h1 h2, hm⟩
  rw [e4, c.arm]
theorem arm_law {w0 W : World} {d : Nat} {F : List Nat} {S : Dv} (h : Law w0 d F S W) (k : Int) (hk : k ≤ 9223372036854775807) :
    Calls Try.prog 19 #[.pointer (some ⟨d, 0, none⟩), .int .i64 k] W fun e W' => e = .returned (.tuple #[]) ∧ Law w0 d F (S.arm k) W' ∧ Moves F F W W' := by
  have hd := h.dev
  obtain ⟨p, pd, wa, wc, rfl, hd⟩ := hd
  refine (arm_any d p pd wa wc S W hd k hk).mono ?_
  rintro e W' ⟨rfl, hd', hk'⟩
  have m : Moves (foot d p wa) (foot d p wa) W W' := Moves.of_keep (hk'.mono (fun k hk => .inl (by simp at hk; simp [foot, hk])))
  exact ⟨rfl, h.move ⟨p, pd, wa, wc, rfl, hd'⟩ m, m⟩
theorem crash_law {w0 W : World} {d : Nat} {F : List Nat} {S : Dv} (h : Law w0 d F S W) {a : Option Addr} {n cap : Nat} {l : List UInt8} (hb : BS w0 a n cap l) (hnil : a = none → l = []) (hn : n ≤ 140737488351232) :
    Calls Try.prog 23 #[.pointer (some ⟨d, 0, none⟩), .slice a n cap] W fun e W' => e = .returned (.tuple #[]) ∧ ∃ F', Law w0 d F' (S.crash l) W' ∧ Moves F F' W W' := by
  have hb' := hb.later h.bel
  have hex : ∃ bb, BSlice W a l bb ∧ (l ≠ [] → bb ∉ F) := by
    cases a with
    | none => exact ⟨0, .inl (hnil rfl), fun hl => absurd (hnil rfl) hl⟩
    | some x =>
      by_cases hl : l = []
      · exact ⟨0, .inl hl, fun h => absurd hl h⟩
      · have hpos : 0 < l.length := List.length_pos_iff.2 hl
        obtain ⟨b', o', ha, hlt, hc⟩ := hb.cell 0 (by have := hb.len; omega)
        cases ha
        exact ⟨b', hb'.slice, fun _ hf => by have := h.low _ hf; omega⟩
  obtain ⟨bb, h1, h2⟩ := hex
  refine (crash_at d F S a n cap bb l hb.len (by omega) W h1 h2 h.dev).mono ?_
  rintro e W' ⟨rfl, F', hd, m⟩
  exact ⟨rfl, F', h.move hd m, m⟩
theorem on_law {w0 W : World} {d : Nat} {F : List Nat} {S : Dv} (h : Law w0 d F S W) :
    Calls Try.prog 25 #[.pointer (some ⟨d, 0, none⟩)] W fun e W' => e = .returned (.tuple #[]) ∧ ∃ F', Law w0 d F' S.on W' ∧ Moves F F' W W' := by
  refine (on_at d F S W h.dev).mono ?_
  rintro e W' ⟨rfl, F', hd, m⟩
  exact ⟨rfl, F', h.move hd m, m⟩
end Go.Proofs.Ytcdefadeaiklbaa
