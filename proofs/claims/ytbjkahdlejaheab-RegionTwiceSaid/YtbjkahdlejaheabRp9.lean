/- Put and Seal of a log whose power may go, and blocks beside it that stay as they are. -/
import Derived.Test.YtbjkahdlejaheabZr9
set_option linter.unusedVariables false
set_option linter.unusedSimpArgs false
set_option maxRecDepth 8000
namespace Go.Proofs.Ytbjkahdlejaheab
open Go.RowKit Go.Deep Math

/-- Blocks that are neither the device's nor the log's, and stand as they stood in V. -/
def Prot (V : World) (Q : List Nat) (W : World) (F : List Nat) (l m : Nat) (v5 v6 v7 : Value) : Prop := ∀ q ∈ Q, q ∉ F ∧ q ∉ lfoot l m v5 v6 v7 ∧ q < W.heap.size ∧ W.heap[q]? = V.heap[q]?
section
variable {V : World} {Q : List Nat} {w0 W W' : World} {d : Nat} {F F' : List Nat} {S : Dv} {l m : Nat} {v5 v6 v7 v5' v6' v7' : Value} {T : Lg} {R k : Nat} {L : List It} {base : List Tr}
theorem Prot.step (h : Prot V Q W F l m v5 v6 v7) (hk : Keep (F ++ lfoot l m v5 v6 v7) W W') (hF : ∀ q ∈ F', q ∈ F ∨ W.heap.size ≤ q) (hL : ∀ q ∈ lfoot l m v5' v6' v7', q ∈ lfoot l m v5 v6 v7 ∨ W.heap.size ≤ q) : Prot V Q W' F' l m v5' v6' v7' := fun q hq => by
  obtain ⟨h1, h2, h3, h4⟩ := h q hq
  refine ⟨fun hm => ?_, fun hm => ?_, Nat.lt_of_lt_of_le h3 hk.size, (hk.block q h3 (fun hm => ?_)).trans h4⟩
  · rcases hF q hm with h5 | h5
    · exact h1 h5
    · omega
  · rcases hL q hm with h5 | h5
    · exact h2 h5
    · omega
  · rcases List.mem_append.1 hm with h5 | h5
    · exact h1 h5
    · exact h2 h5
theorem Prot.below (h : Prot V Q W F l m v5 v6 v7) (b : Below W.heap.size W W') : Prot V Q W' F l m v5 v6 v7 := h.step (Keep.of_below b) (fun q hq => .inl hq) (fun q hq => .inl hq)
theorem Prot.moves (h : Prot V Q W F l m v5 v6 v7) (hm : Moves F F' W W') : Prot V Q W' F' l m v5 v6 v7 := h.step (hm.keep.mono (fun q hq => .inl (List.mem_append.2 (.inl hq)))) hm.foot (fun q hq => .inl hq)
def PpPost (V : World) (Q : List Nat) (w0 : World) (d l m R k : Nat) (L : List It) (base : List Tr) (W' : World) : Prop :=
  ∃ v5 v6 v7 F S T, LG w0 W' d F S l m v5 v6 v7 T ∧ (Al R k L base S T ∨ De R k L base S T) ∧ Prot V Q W' F l m v5 v6 v7
theorem lfoot_mem {q : Nat} : q ∈ lfoot l m v5 v6 v7 ↔ q = l ∨ q = m ∨ q ∈ own v5 ∨ q ∈ own v6 ∨ q ∈ own v7 := by simp [lfoot]
theorem put_pp (G : LG w0 W d F S l m v5 v6 v7 T) (hS : Al R k L base S T ∨ De R k L base S T) (hQ : Prot V Q W F l m v5 v6 v7) (hR1 : 1 ≤ R) (hR64 : R ≤ 64) (hk : k < 50) (x : It) (hf : x.fits) (hxL : x ∈ L) :
    Calls Try.prog 10 #[.pointer (some ⟨l, 0, none⟩), x.val] W fun e W' => (∃ v, e = .returned v) ∧ PpPost V Q w0 d l m R (k + 1) L base W' := by
  have hSm : Al R (k + 1) L base S T ∨ De R (k + 1) L base S T := by
    rcases hS with h | h
    · exact .inl h.mono
    · exact .inr h.mono
  cases hg : x.good with
  | false =>
    have hgm := hg
    rw [x.good_mayBe] at hgm
    refine (put_bad (w := W) (l := l) (txt x.key) (txt x.value) x.flags x.exp x.ver hgm).mono ?_
    rintro e w' ⟨rfl, b⟩
    exact ⟨⟨_, rfl⟩, v5, v6, v7, F, S, T, G.below b, hSm, hQ.below b⟩
  | true =>
    have gs := good_sizes hg
    have hsz : x.size = 32 + x.key.length + x.value.length := rfl
    have hnew : ∀ u ∈ T.all, u.pos ≠ (⟨W.heap.size, 0, x⟩ : Th).pos := fun u hu e => by
      have h1 := (G.lg.ths u hu).lt
      have h2 : u.blk = W.heap.size := congrArg Prod.fst e
      omega
    have hall : T.all.length ≤ 200 + k := by rcases hS with h | h; exact h.all; exact h.all
    have hcap : T.cap ≤ 200 + k := by rcases hS with h | h; exact h.cap; exact h.cap
    have hopl : T.opn.length ≤ 1000 := by
      have : T.all.length = (T.regs.flatMap Rg.ths).length + T.opn.length := by unfold Lg.all; rw [List.length_append]
      omega
    by_cases hfl : T.cont.length + x.size ≤ 1472
    · refine (put_room G.lg x hf hg hfl (by omega) hopl).mono ?_
      rintro e w' ⟨rfl, v6', v7', hL, hK, h6, h7⟩
      refine ⟨⟨_, rfl⟩, v5, v6', v7', F, S, _, G.put hL hK h6 h7, ?_, hQ.step (hK.mono (fun q hq => .inl ?_)) (fun q hq => .inl hq) (fun q hq => ?_)⟩
      · rcases hS with h | h
        · exact .inl (h.put ⟨W.heap.size, 0, x⟩ ⟨hf, hg⟩ hxL hfl hnew)
        · exact .inr (h.put ⟨W.heap.size, 0, x⟩ hfl)
      · refine List.mem_append.2 (.inr (lfoot_mem.2 ?_))
        simp only [List.mem_cons, List.mem_append] at hq
        rcases hq with h1 | h1 | h1 | h1
        · exact .inl h1
        · exact .inr (.inl h1)
        · exact .inr (.inr (.inr (.inl h1)))
        · exact .inr (.inr (.inr (.inr h1)))
      · rcases lfoot_mem.1 hq with h1 | h1 | h1 | h1 | h1
        · exact .inl (lfoot_mem.2 (.inl h1))
        · exact .inl (lfoot_mem.2 (.inr (.inl h1)))
        · exact .inl (lfoot_mem.2 (.inr (.inr (.inl h1))))
        · rcases h6 q h1 with h2 | h2
          · exact .inl (lfoot_mem.2 (.inr (.inr (.inr (.inl h2)))))
          · exact .inr h2
        · rcases h7 q h1 with h2 | h2
          · exact .inl (lfoot_mem.2 (.inr (.inr (.inr (.inr h2)))))
          · exact .inr h2
    · rcases hS with h | h
      · have hcne : T.cont ≠ [] := fun h0 => by rw [h0] at hfl; simp at hfl; omega
        have hopn : T.opn ≠ [] := fun h0 => hcne (by unfold Lg.cont; rw [h0]; rfl)
        refine (put_full G.lg G.dev x hf hg (by omega) (by omega) hopn h.losses (by have := h.num; omega) (by rw [h.regions']; exact hR1) (by rw [h.regions']; exact hR64) (by rw [h.first']; decide) h.cont hcne (by have := h.regs; omega) (by omega) T.next (T.num + 1) rfl rfl).mono ?_
        rintro e w' ⟨va, vn, vc, v5', F', hvn, hrow, hD', hK', hF', h5', rfl, hend⟩
        have hbase : T.first + 4 * T.next = 4 * T.next := by rw [h.first', Nat.zero_add]
        rw [hbase] at hD' hend ⊢
        have hKm : Keep (F ++ lfoot l m v5 v6 v7) W w' := hK'.mono (fun q hq => .inl (by
          simp only [List.mem_append, List.mem_cons] at hq
          refine List.mem_append.2 ?_
          rcases hq with h1 | h1 | h1 | h1
          · exact .inl h1
          · exact .inr (lfoot_mem.2 (.inl h1))
          · exact .inr (lfoot_mem.2 (.inr (.inl h1)))
          · exact .inr (lfoot_mem.2 (.inr (.inr (.inl h1))))))
        refine ⟨⟨_, rfl⟩, ?_⟩
        rcases h.seal hR1 hR64 hk hopn v6 with ⟨e0, hA⟩ | ⟨e0, hDe⟩
        · rcases hend with ⟨h0, _⟩ | ⟨_, v6', v7', hL', h6', h7'⟩
          · exact absurd e0 h0
          have hs := G.bel.size
          have hfoot : ∀ q ∈ F ++ l :: m :: own v5, w0.heap.size ≤ q := fun q hq => by
            simp only [List.mem_append, List.mem_cons] at hq
            rcases hq with h1 | h1 | h1 | h1
            · exact G.lowF q h1
            · exact G.lowL q (by simp [lfoot, h1])
            · exact G.lowL q (by simp [lfoot, h1])
            · exact G.lowL q (by simp [lfoot, h1])
          have hLf : ∀ q ∈ lfoot l m v5' v6' v7', q ∈ lfoot l m v5 v6 v7 ∨ W.heap.size ≤ q := fun q hq => by
            rcases lfoot_mem.1 hq with h1 | h1 | h1 | h1 | h1
            · exact .inl (lfoot_mem.2 (.inl h1))
            · exact .inl (lfoot_mem.2 (.inr (.inl h1)))
            · rcases h5' q h1 with h2 | h2
              · exact .inl (lfoot_mem.2 (.inr (.inr (.inl h2))))
              · exact .inr h2
            · exact .inr (h6' q h1)
            · exact .inr (h7' q h1)
          have G' : LG w0 w' d F' (wrR (4 * T.next) (T.num + 1) 4 S T.cont).2 l m v5' v6' v7' ((T.cut v6).put ⟨W.heap.size, 0, x⟩) := by
            refine ⟨hL', hD', G.bel.trans (hK'.below hfoot hs), fun q hq => ?_, fun q hq => ?_⟩
            · rcases hF' q hq with h1 | h1
              · exact G.lowF q h1
              · omega
            · rcases hLf q hq with h1 | h1
              · exact G.lowL q h1
              · omega
          refine ⟨v5', v6', v7', F', _, _, G', .inl ?_, hQ.step hKm hF' hLf⟩
          have hn2 : ∀ u ∈ (T.cut v6).all, u.pos ≠ (⟨W.heap.size, 0, x⟩ : Th).pos := fun u hu => hnew u (by
            unfold Lg.cut at hu
            rw [sealed_all] at hu
            exact (lose_sub T _).subset hu)
          have hput := hA.put ⟨W.heap.size, 0, x⟩ ⟨hf, hg⟩ hxL (by show 0 + x.size ≤ 1472; omega) hn2
          refine ⟨hput.off, hput.losses, hput.first', hput.regions', hput.wk, ?_, ?_, ?_, ?_, hput.cont, hput.oks, hput.pos, hput.opnL, hput.has⟩
          · show T.num + 1 ≤ 100 + (k + 1); have := h.num; omega
          · show (T.lose T.next).cap + 1 ≤ 200 + (k + 1); rw [(lose_same T T.next).2.2.2.2.2.1]; omega
          · show ((T.lose T.next).regs ++ [_]).length ≤ 4 + (k + 1)
            rw [List.length_append, List.length_singleton]
            have := h.regs; have := (lose_same T T.next).2.2.2.2.2.2; omega
          · rw [put_all, List.length_append]
            have e1 : (T.cut v6).all = (T.lose T.next).all := by unfold Lg.cut; rw [sealed_all]
            rw [e1]
            have := (lose_sub T T.next).length_le
            simp; omega
        · rcases hend with ⟨_, hL'⟩ | ⟨h0, _⟩
          · refine ⟨v5', v6, v7, F', _, _, G.seal hL' hD' hK' hF' h5' (fun q hq => hq) (fun q hq => hq), .inr hDe, hQ.step hKm hF' (fun q hq => ?_)⟩
            rcases lfoot_mem.1 hq with h1 | h1 | h1 | h1
            · exact .inl (lfoot_mem.2 (.inl h1))
            · exact .inl (lfoot_mem.2 (.inr (.inl h1)))
            · rcases h5' q h1 with h2 | h2
              · exact .inl (lfoot_mem.2 (.inr (.inr (.inl h2))))
              · exact .inr h2
            · exact .inl (lfoot_mem.2 (.inr (.inr (.inr h1))))
          · exact absurd h0 e0
      · refine (put_done G.lg G.dev x hf hg (by omega) h.cont h.opn h.loss).mono ?_
        rintro e w' ⟨rfl, b⟩
        exact ⟨⟨_, rfl⟩, v5, v6, v7, F, S, T, G.below b, hSm, hQ.below b⟩
theorem seal_pp (G : LG w0 W d F S l m v5 v6 v7 T) (hS : Al R k L base S T ∨ De R k L base S T) (hQ : Prot V Q W F l m v5 v6 v7) (hR1 : 1 ≤ R) (hR64 : R ≤ 64) (hk : k < 50) :
    Calls Try.prog 11 #[.pointer (some ⟨l, 0, none⟩)] W fun e W' => (∃ v, e = .returned v) ∧ PpPost V Q w0 d l m R (k + 1) L base W' := by
  rcases hS with h | h
  · by_cases ho : T.opn = []
    · refine (seal_idle G.lg ho).mono ?_
      rintro e w' ⟨rfl, rfl⟩
      exact ⟨⟨_, rfl⟩, v5, v6, v7, F, S, T, G, .inl h.mono, hQ⟩
    · have hall := h.all
      refine (seal_log G.lg G.dev ho h.losses (by have := h.num; omega) (by rw [h.regions']; exact hR1) (by rw [h.regions']; exact hR64) (by rw [h.first']; decide) h.cont (cont_ne h.oks ho) (by have := h.regs; omega) T.next (T.num + 1) rfl rfl (lose_any G.lg _ (by have := h.regs; omega) (by omega))).mono ?_
      rintro e w' ⟨va, vn, vc, v5', F', hvn, hrow, hD', hK', hF', h5', rfl, hend⟩
      have hbase : T.first + 4 * T.next = 4 * T.next := by rw [h.first', Nat.zero_add]
      rw [hbase] at hD' hend ⊢
      have hKm : Keep (F ++ lfoot l m v5 v6 v7) W w' := hK'.mono (fun q hq => .inl (by
        simp only [List.mem_append, List.mem_cons] at hq
        refine List.mem_append.2 ?_
        rcases hq with h1 | h1 | h1 | h1
        · exact .inl h1
        · exact .inr (lfoot_mem.2 (.inl h1))
        · exact .inr (lfoot_mem.2 (.inr (.inl h1)))
        · exact .inr (lfoot_mem.2 (.inr (.inr (.inl h1))))))
      refine ⟨⟨_, rfl⟩, ?_⟩
      rcases h.seal hR1 hR64 hk ho v6 with ⟨e0, hA⟩ | ⟨e0, hDe⟩
      · rcases hend with ⟨h0, _⟩ | ⟨_, hL'⟩
        · exact absurd e0 h0
        have G' := G.seal hL' hD' hK' hF' h5' (fun q hq => by simp [own, Value.ownBlock] at hq) (fun q hq => by simp [own, Value.ownBlock] at hq)
        refine ⟨v5', _, _, F', _, _, G', .inl hA, hQ.step hKm hF' (fun q hq => ?_)⟩
        rcases lfoot_mem.1 hq with h1 | h1 | h1 | h1 | h1
        · exact .inl (lfoot_mem.2 (.inl h1))
        · exact .inl (lfoot_mem.2 (.inr (.inl h1)))
        · rcases h5' q h1 with h2 | h2
          · exact .inl (lfoot_mem.2 (.inr (.inr (.inl h2))))
          · exact .inr h2
        · simp [own, Value.ownBlock] at h1
        · simp [own, Value.ownBlock] at h1
      · rcases hend with ⟨_, hL'⟩ | ⟨h0, _⟩
        · refine ⟨v5', v6, v7, F', _, _, G.seal hL' hD' hK' hF' h5' (fun q hq => hq) (fun q hq => hq), .inr hDe, hQ.step hKm hF' (fun q hq => ?_)⟩
          rcases lfoot_mem.1 hq with h1 | h1 | h1 | h1
          · exact .inl (lfoot_mem.2 (.inl h1))
          · exact .inl (lfoot_mem.2 (.inr (.inl h1)))
          · rcases h5' q h1 with h2 | h2
            · exact .inl (lfoot_mem.2 (.inr (.inr (.inl h2))))
            · exact .inr h2
          · exact .inl (lfoot_mem.2 (.inr (.inr (.inr h1))))
        · exact absurd h0 e0
  · refine (seal_done G.lg G.dev h.opn h.loss).mono ?_
    rintro e w' ⟨rfl, b⟩
    exact ⟨⟨_, rfl⟩, v5, v6, v7, F, S, T, G.below b, .inr h.mono, hQ.below b⟩
theorem arm_pp (G : LG w0 W d F S l m v5 v6 v7 T) (hQ : Prot V Q W F l m v5 v6 v7) (a : Int) (ha : a ≤ 9223372036854775807) :
    Calls Try.prog 20 #[.pointer (some ⟨d, 0, none⟩), .int .i64 a] W fun e W' => e = .returned (.tuple #[]) ∧ LG w0 W' d F (S.arm a) l m v5 v6 v7 T ∧ Prot V Q W' F l m v5 v6 v7 := by
  obtain ⟨p, pd, wa, wc, hF, h⟩ := G.dev
  refine (arm_any d p pd wa wc S W h a ha).mono ?_
  rintro e w' ⟨rfl, h1, k1⟩
  have hm : Moves F F W w' := Moves.of_keep (k1.mono (fun q hq => .inl (by
    simp only [List.mem_singleton] at hq
    rw [hF, hq]
    simp [foot])))
  exact ⟨rfl, G.devTurn ⟨p, pd, wa, wc, hF, h1⟩ hm, hQ.moves hm⟩
theorem cutM (hS : Al R k L base S T ∨ De R k L base S T) (ps : List UInt8) : ∃ M D, M ≤ 101 + k ∧ Wk R M L base (settle S.cs ps) D := by
  rcases hS with h | h
  · exact ⟨T.num, _, by have := h.num; omega, by rw [h.wk.crash ps]; exact h.wk⟩
  · exact h.aft ps
theorem Opd.al2 {M : Nat} {D : List Tr} {S0 : Dv} (h : Opd R D S T) (hw : Wk R M L base S0.cs D) (hS : S.cs = S0.cs) (hoff : S.off = false) (hM : M ≤ 100 + k) (hR : R ≤ 4) (L' : List It) : Al R k L' D S T := by
  have hn := hw.numTo
  refine ⟨hoff, h.losses, h.first', h.regions', ?_, by rw [h.num, hS]; have := hn.1; omega, by rw [h.cap]; have := h.all; omega, by have := h.len; omega, by have := h.all; omega, ?_, h.oks, h.pos, fun t ht => (by rw [h.opn] at ht; cases ht), h.has⟩
  · rw [h.regs, h.num, hS]
    exact hn.2.again L'
  · unfold Lg.cont
    rw [h.opn]
    exact Nat.zero_le _
theorem from_last {base : List Tr} {L : List It} {D : List Tr} (h : From base L D) {y : It} (hy : lastIt (flatI D) y.key = some y) : y ∈ L ∨ lastIt (flatI base) y.key = some y := by
  obtain ⟨A, B, N, h1, h2, h3⟩ := h
  have e2 : flatI D = flatI B ++ flatI N := by rw [h2]; unfold flatI; rw [List.flatMap_append]
  have e1 : flatI base = flatI A ++ flatI B := by rw [h1]; unfold flatI; rw [List.flatMap_append]
  rw [e2, lastIt_append] at hy
  cases hN : lastIt (flatI N) y.key with
  | some z =>
    rw [hN] at hy
    have e : z = y := Option.some.inj hy
    left
    rw [← e]
    exact h3 z (lastIt_mem hN).1
  | none =>
    rw [hN] at hy
    right
    have hy2 : lastIt (flatI B) y.key = some y := hy
    rw [e1, lastIt_append, hy2]
    rfl
end
end Go.Proofs.Ytbjkahdlejaheab
