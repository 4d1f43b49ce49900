/- Texts joined: Bk6, Bk7. -/
import Derived.Test.YtbccnfbombgdmaaGreatJ18
/- Open. -/
set_option linter.unusedVariables false
set_option linter.unusedSimpArgs false
set_option maxRecDepth 8000
namespace Go.Proofs.YtbccnfbombgdmaaGreat
open Go.RowKit Go.Deep Math
variable {w0 W W' : World} {d s : Nat} {F F' : List Nat} {S S' : Dv} {L : Int} {first : Nat} {M : SM}

/-- The same but for the counts. -/
structure Like (S S' : Dv) : Prop where
  cs : S'.cs = S.cs
  off : S'.off = S.off
  armed : S'.armed = S.armed
  losses : S'.losses = S.losses
theorem Like.refl (S : Dv) : Like S S := ⟨rfl, rfl, rfl, rfl⟩
theorem Like.trans {S S' S'' : Dv} (h : Like S S') (k : Like S' S'') : Like S S'' := ⟨k.cs.trans h.cs, k.off.trans h.off, k.armed.trans h.armed, k.losses.trans h.losses⟩
theorem Like.read (S : Dv) (k : Int) : Like S (S.readDo k) := by
  unfold Dv.readDo
  split
  · exact Like.refl _
  · split
    · exact Like.refl _
    · exact ⟨rfl, rfl, rfl, rfl⟩
/-- The items of a page of a device. -/
def Dv.its (S : Dv) (k : Nat) : List It := match S.cs[k]? with
  | some c => c.now.its
  | none => []
theorem Like.its {S S' : Dv} (h : Like S S') (k : Nat) : S'.its k = S.its k := by unfold Dv.its; rw [h.cs]
theorem Dv.its_of {S : Dv} {k : Nat} {c : Cl} (h : S.cs[k]? = some c) : S.its k = c.now.its := by unfold Dv.its; rw [h]
theorem Dv.its_all {S : Dv} (hg : S.good) (k : Nat) : total (S.its k) ≤ 384 ∧ ∀ x ∈ S.its k, x.fits ∧ x.good = true := by
  unfold Dv.its
  cases h : S.cs[k]? with
  | none => simp [total]
  | some c => exact Pg.its_all c.now (hg.fits c (List.mem_of_getElem? h)).1

set_option maxHeartbeats 1000000 in
theorem open_bad (h : Law w0 d F S W) (a b : Int) (ha : -1000000 ≤ a ∧ a ≤ 1000000) (hb : -1000000 ≤ b ∧ b ≤ 1000000) (hx : a < 0 ∨ b < 1 ∨ 256 < b ∨ (S.cs.length : Int) - b < a) :
    Calls Tryz.prog 7 #[.pointer (some ⟨d, 0, none⟩), .int .i64 a, .int .i64 b] W fun e W' => e = .returned (.tuple #[.pointer none, .int .i64 1]) ∧ W' = W := by
  have cP : Hid (Calls Tryz.prog 23 #[.pointer (some ⟨d, 0, none⟩)] W fun e w' => e = .returned (.int .i64 (S.cs.length : Nat)) ∧ w' = W) := pages_at h.dev
  have hm := h.dev.good.many
  generalize S.cs.length = n at cP hx hm
  clear h
  by_cases x1 : a < 0
  · go_enter Tryz.func7, Tryz.ntmps7
    go_wp2
    go_ret2
    exact ⟨rfl, rfl⟩
  by_cases x2 : b < 1
  · go_enter Tryz.func7, Tryz.ntmps7
    go_wp2
    go_ret2
    exact ⟨rfl, rfl⟩
  by_cases x3 : 256 < b
  · go_enter Tryz.func7, Tryz.ntmps7
    go_wp2
    go_ret2
    exact ⟨rfl, rfl⟩
  have x4 : (n : Int) - b < a := by omega
  go_enter Tryz.func7, Tryz.ntmps7
  go_wp2_with (go_at_call 23; refine cP.out.mono ?_; rintro e w1 ⟨rfl, h1⟩; obtain rfl : W = w1 := h1.symm; clear h1)
  go_ret2
  exact ⟨rfl, rfl⟩

theorem ne_type {w : World} {a b : Nat} {c1 c2 : Array Value} {t1 t2 : TypeId} {z1 z2 : Nat × Nat} (h1 : w.heap[a]? = some (.cells c1 t1 z1)) (h2 : w.heap[b]? = some (.cells c2 t2 z2)) (ht : t1 ≠ t2) : a ≠ b := by
  rintro rfl
  rw [h1] at h2
  simp at h2
  exact ht h2.2.1
theorem info67 : (Tryz.prog.info? 73).map (fun i => (i.zero, i.size, i.bytes)) = some (some (.pointer none), 1, 8) := by kernel_rfl
theorem run_app67 {w : World} {base : Nat} {v : Value} {n : Nat} {xs : List Value} (h : w.ownsRow base 73 1 v n xs) (hbase : base ≤ w.heap.size) {b : Nat} {u : Value} (hb : Blk w b [u] 73) (h1 : u.oneCell' = true) (hn : n ≤ 1000) :
    ∃ v' w', (Builtin.append_ #[70, 70] 70 #[v, .slice (some ⟨b, 0, none⟩) 1 1]).run Tryz.prog w = .ok v' w' ∧ w'.ownsRow base 73 1 v' (n + 1) (xs ++ [u]) ∧ w.grownBy w' v.ownBlock := by
  obtain ⟨i0, hi0, hp0⟩ := Option.map_eq_some_iff.1 info67
  simp only [Prod.mk.injEq] at hp0
  obtain ⟨hz0, hz1, hz2⟩ := hp0
  obtain ⟨v', w', h1, h2, h3, h4⟩ := run_append_own (P := Tryz.prog) w base 70 70 73 i0 _ 1 8 Tryz.underlying70 hi0 hz0 hz1 hz2 rfl (by decide) v n xs h ⟨b, 0, none⟩ 1 1 [u] rfl (fun j y hj => by
    rw [Addr.add_lit, Nat.zero_add]
    exact hb.cell hj) (fun y hy => by simp at hy; rw [hy]; exact h1) (by unfold maxLen; omega) (by omega) hbase
  exact ⟨v', w', h1, h2, h3⟩
theorem row67_low {w : World} {base : Nat} {e : TypeId} {size : Nat} {v : Value} {n : Nat} {xs : List Value} (h : w.ownsRow base e size v n xs) : w.ownsRow 0 e size v n xs := by
  refine ⟨h.1, ?_⟩
  rcases h.2 with h2 | ⟨g, cap, cur, hv, hg, r⟩
  · exact .inl h2
  · exact .inr ⟨g, cap, cur, hv, Nat.zero_le _, r⟩
theorem Bk.row67 (h : Bk w0 W d F S s L first M) {B : Nat} (hB : ∀ b ∈ M.foot s, B ≤ b) : W.ownsRow B 73 1 (.slice M.a M.fs.length M.cap) M.fs.length M.ptrs := by
  refine ⟨h.st.row.1, ?_⟩
  rcases h.st.row.2 with h2 | ⟨g, cap, cur, hv, hg, r⟩
  · exact .inl h2
  · refine .inr ⟨g, cap, cur, hv, ?_, r⟩
    simp only [Value.slice.injEq] at hv
    exact hB g (SM.mem_a (a := ⟨g, 0, none⟩) hv.1)
/-- One more filter. -/
theorem Bk.more {V V2 : World} (h : Bk w0 V d F S s L first M) {f sb g cp : Nat} {l : List Bool} (hf : Bl.FltIn V f sb l 3) (hl : l.length = 256) (hnf : f ∉ F ∧ sb ∉ F ∧ w0.heap.size ≤ f ∧ w0.heap.size ≤ sb) (hns : ∀ x ∈ M.fs, x.s ≠ sb)
    {B : Nat} (hB : w0.heap.size ≤ B) (hr : V2.ownsRow B 73 1 (.slice (some ⟨g, 0, none⟩) (M.fs.length + 1) cp) (M.fs.length + 1) (M.ptrs ++ [.pointer (some ⟨f, 0, none⟩)])) (hg : V.grownBy V2 (M.a.map (·.block))) :
    Bk w0 (V2.setCell ⟨s, 3, none⟩ (.slice (some ⟨g, 0, none⟩) (M.fs.length + 1) cp)) d F S s L first ⟨some ⟨g, 0, none⟩, cp, M.fs ++ [⟨f, sb, l⟩]⟩ ∧ B ≤ g ∧ Keep (s :: (M.a.map (·.block)).toList) V (V2.setCell ⟨s, 3, none⟩ (.slice (some ⟨g, 0, none⟩) (M.fs.length + 1) cp)) := by
  obtain ⟨cur, hcur, hg0⟩ : ∃ cur, V2.heap[g]? = some (.cells cur 73 (0, 0)) ∧ B ≤ g := by
    rcases hr.2 with ⟨hv, _⟩ | ⟨g', cap, cur, hv, hb, hh, _⟩
    · simp at hv
    · simp at hv; rw [hv.1]; exact ⟨cur, hh, hb⟩
  -- which blocks are kept
  have hA : ∀ a, M.a = some a → ∃ cu, V.heap[a.block]? = some (.cells cu 73 (0, 0)) := fun a ha => by
    rcases h.st.form with ⟨h1, _⟩ | ⟨q, cu, h1, h2, _⟩
    · rw [h1] at ha; cases ha
    · rw [h1] at ha; cases ha; exact ⟨cu, h2⟩
  have kp : ∀ (k : Nat) (c : Array Value) (t : TypeId) (z : Nat × Nat), V.heap[k]? = some (.cells c t z) → t ≠ 73 → V2.heap[k]? = V.heap[k]? := fun k c t z hk ht => by
    refine hg.block k (Array.getElem?_eq_some_iff.1 hk).1 (fun e => ?_)
    cases ha : M.a with
    | none => rw [ha] at e; simp at e
    | some a =>
      rw [ha] at e
      simp at e
      obtain ⟨cu, hcu⟩ := hA a ha
      rw [← e] at hcu
      exact ne_type hk hcu ht rfl
  have hs2 : Blk V2 s [.pointer (some ⟨d, 0, none⟩), .int .i64 L, .int .i64 (first : Int), .slice M.a M.fs.length M.cap] 72 := h.st.box.same (kp s _ 72 _ h.st.box (by decide))
  have hgs : g ≠ s := ne_type hcur hs2 (by decide)
  have oth : ∀ k, k ≠ s → (V2.setCell ⟨s, 3, none⟩ (.slice (some ⟨g, 0, none⟩) (M.fs.length + 1) cp)).heap[k]? = V2.heap[k]? := fun k hk => blk_setCell_other _ _ _ _ hk
  have fl : ∀ (f' s' : Nat) (l' : List Bool), Bl.FltIn V f' s' l' 3 → Bl.FltIn (V2.setCell ⟨s, 3, none⟩ (.slice (some ⟨g, 0, none⟩) (M.fs.length + 1) cp)) f' s' l' 3 := fun f' s' l' hx => by
    refine hx.same ?_ ?_
    · rw [oth f' (ne_type hx.own h.st.box (by decide)), kp f' _ 114 _ hx.own (by decide)]
    · rw [oth s' (ne_type hx.row h.st.box (by decide)), kp s' _ 4 _ hx.row (by decide)]
  have KK : Keep (s :: (M.a.map (·.block)).toList) V (V2.setCell ⟨s, 3, none⟩ (.slice (some ⟨g, 0, none⟩) (M.fs.length + 1) cp)) := by
    refine Keep.setCell ⟨hg.os, hg.tape, hg.output, hg.size, fun k hk hn => hg.block k hk (fun e => hn ?_)⟩ (.inl (by simp)) _
    simp only [List.mem_cons]
    right
    rw [← e]; simp
  have hsF : s ∉ F := h.off s SM.mem_s
  have haF : ∀ a, M.a = some a → a.block ∉ F := fun a ha => h.off _ (SM.mem_a ha)
  have hKF : ∀ b ∈ s :: (M.a.map (·.block)).toList, b ∉ F ∧ w0.heap.size ≤ b := fun b hb => by
    simp only [List.mem_cons] at hb
    rcases hb with rfl | hb
    · exact ⟨hsF, h.new _ SM.mem_s⟩
    · cases ha : M.a with
      | none => rw [ha] at hb; simp at hb
      | some a => rw [ha] at hb; simp at hb; rw [hb]; exact ⟨haF a ha, h.new _ (SM.mem_a ha)⟩
  have hgF : g ∉ F ∧ w0.heap.size ≤ g := by
    by_cases hga : ∃ a, M.a = some a ∧ a.block = g
    · obtain ⟨a, ha, rfl⟩ := hga
      exact ⟨haF a ha, h.new _ (SM.mem_a ha)⟩
    · have hgn : some g ≠ M.a.map (·.block) := fun e => by
        cases ha : M.a with
        | none => rw [ha] at e; simp at e
        | some a => rw [ha] at e; simp at e; exact hga ⟨a, ha, e.symm⟩
      refine ⟨fun hf => ?_, ?_⟩
      · have hlt := h.law.dev.lt g hf
        have e := hg.block g hlt hgn
        rw [hcur] at e
        obtain ⟨p, pd, wa, wc, hF, hd⟩ := h.law.dev
        rw [hF] at hf
        simp only [foot, List.mem_cons] at hf
        rcases hf with rfl | rfl | hf
        · exact ne_type e.symm hd.dev (by decide) rfl
        · exact ne_type e.symm hd.row (by decide) rfl
        · cases hwa : wa with
          | none => rw [hwa] at hf; simp at hf
          | some a =>
            rw [hwa] at hf; simp at hf
            rcases hd.own.2 with ⟨hv, _⟩ | ⟨g', cap, cu, hv, _, hh, _⟩
            · rw [hwa] at hv; simp at hv
            · rw [hwa] at hv; simp at hv
              rw [hv.1] at hf
              simp at hf
              rw [← hf] at hh
              exact ne_type e.symm hh (by decide) rfl
      · exact Nat.le_trans hB hg0
  refine ⟨⟨⟨h.law.dev.same (fun b hb => ?_), h.law.low, h.law.bel.trans (KK.below (fun b hb => (hKF b hb).2) h.law.bel.size)⟩, ⟨?_, ?_, ?_, ?_⟩, ?_, ?_⟩, hg0, KK⟩
  · exact KK.block b (h.law.dev.lt b hb) (fun hb' => (hKF b hb').1 hb)
  · have := hs2.set 3 (.slice (some ⟨g, 0, none⟩) (M.fs.length + 1) cp)
    simpa using this
  · have e1 : SM.ptrs ⟨some ⟨g, 0, none⟩, cp, M.fs ++ [⟨f, sb, l⟩]⟩ = M.ptrs ++ [.pointer (some ⟨f, 0, none⟩)] := by simp [SM.ptrs]
    rw [e1]
    have e2 : (SM.mk (some ⟨g, 0, none⟩) cp (M.fs ++ [⟨f, sb, l⟩])).fs.length = M.fs.length + 1 := by simp
    rw [e2]
    exact row67_keep (row67_low hr) (fun q hq => by simp [Value.ownBlock] at hq; rw [← hq]; exact oth g hgs)
  · intro x hx
    simp only [List.mem_append, List.mem_singleton] at hx
    rcases hx with hx | rfl
    · exact ⟨fl _ _ _ (h.st.flt x hx).1, (h.st.flt x hx).2⟩
    · exact ⟨fl _ _ _ hf, hl⟩
  · simp only [List.map_append, List.map_cons, List.map_nil]
    rw [List.nodup_append]
    refine ⟨h.st.nd, by simp, fun a ha b hb => ?_⟩
    simp at hb; subst hb
    obtain ⟨x, hx, rfl⟩ := List.mem_map.1 ha
    exact hns x hx
  · intro b hb
    rcases SM.foot_inv hb with rfl | ⟨a, ha, rfl⟩ | ⟨x, hx, hbx⟩
    · exact h.new _ SM.mem_s
    · simp at ha; rw [← ha]; exact hgF.2
    · simp only [List.mem_append, List.mem_singleton] at hx
      rcases hx with hx | rfl
      · rcases hbx with rfl | rfl
        · exact h.new _ (SM.mem_f hx).1
        · exact h.new _ (SM.mem_f hx).2
      · rcases hbx with rfl | rfl
        · exact hnf.2.2.1
        · exact hnf.2.2.2
  · intro b hb
    rcases SM.foot_inv hb with rfl | ⟨a, ha, rfl⟩ | ⟨x, hx, hbx⟩
    · exact hsF
    · simp at ha; rw [← ha]; exact hgF.1
    · simp only [List.mem_append, List.mem_singleton] at hx
      rcases hx with hx | rfl
      · rcases hbx with rfl | rfl
        · exact h.off _ (SM.mem_f hx).1
        · exact h.off _ (SM.mem_f hx).2
      · rcases hbx with rfl | rfl
        · exact hnf.1
        · exact hnf.2.1

set_option maxHeartbeats 2000000 in
theorem open_ok (h : Law w0 d F S W) (hoff : S.off = false) (first pages : Nat) (h1 : 1 ≤ pages) (h2 : pages ≤ 256) (h3 : first + pages ≤ S.cs.length) :
    Calls Tryz.prog 7 #[.pointer (some ⟨d, 0, none⟩), .int .i64 first, .int .i64 pages] W fun e W' => ∃ s M S', e = .returned (.tuple #[.pointer (some ⟨s, 0, none⟩), .int .i64 0]) ∧ Bk w0 W' d F S' s S.losses first M ∧ Like S S' ∧
      M.fs.map (·.l) = (List.range pages).map (fun k => toldB (S.its (first + k))) ∧ Keep F W W' ∧ ∀ b ∈ M.foot s, W.heap.size ≤ b := by
  have cP : Hid (Calls Tryz.prog 23 #[.pointer (some ⟨d, 0, none⟩)] W fun e w' => e = .returned (.int .i64 (S.cs.length : Nat)) ∧ w' = W) := pages_at h.dev
  have cL : Hid (Calls Tryz.prog 24 #[.pointer (some ⟨d, 0, none⟩)] W fun e w' => e = .returned (.int .i64 S.losses) ∧ w' = W) := losses_at h.dev
  have hm := h.dev.good.many
  obtain ⟨n, hn⟩ : ∃ n, n = S.cs.length := ⟨_, rfl⟩
  rw [← hn] at cP h3 hm
  obtain ⟨Ls, hLs⟩ : ∃ l, l = S.losses := ⟨_, rfl⟩
  rw [← hLs] at cL ⊢
  have H := hide h
  have HN := hide hn
  have HO := hide hoff
  have HLS := hide hLs
  have x1 : ¬ (first : Int) < 0 := by omega
  have x2 : ¬ (pages : Int) < 1 := by omega
  have x3 : ¬ (256 : Int) < (pages : Int) := by omega
  have x4 : ¬ (n : Int) - (pages : Int) < (first : Int) := by omega
  clear h hn hoff hLs
  go_enter Tryz.func7, Tryz.ntmps7
  go_wp2_with (first
    | (go_at_call 23; refine cP.out.mono ?_; rintro e w1 ⟨rfl, h1'⟩; obtain rfl : W = w1 := h1'.symm; clear h1')
    | (go_at_call 24; refine cL.out.mono ?_; rintro e w1 ⟨rfl, h1'⟩; obtain rfl : W = w1 := h1'.symm; clear h1'))
  have hs0 : Blk (W.alloc (.cells #[.pointer (some ⟨d, 0, none⟩), .int .i64 Ls, .int .i64 (first : Int), .slice none 0 0] 72)) W.heap.size [.pointer (some ⟨d, 0, none⟩), .int .i64 Ls, .int .i64 (first : Int), .slice none 0 0] 72 := Blk.new W _ 72
  have K0 : Hid (Bk w0 (W.alloc (.cells #[.pointer (some ⟨d, 0, none⟩), .int .i64 Ls, .int .i64 (first : Int), .slice none 0 0] 72)) d F S W.heap.size Ls first ⟨none, 0, []⟩) :=
    ⟨H.out.alloc _, ⟨hs0, ⟨rfl, .inl ⟨rfl, rfl⟩⟩, by simp, by simp⟩, fun b hb => by simp [SM.foot] at hb; subst hb; exact H.out.bel.size, fun b hb => by simp [SM.foot] at hb; subst hb; exact H.out.dev.new _ (Nat.le_refl _)⟩
  have KW : Hid (Keep F W (W.alloc (.cells #[.pointer (some ⟨d, 0, none⟩), .int .i64 Ls, .int .i64 (first : Int), .slice none 0 0] 72))) := (Keep.refl F W).alloc _
  obtain ⟨s, hs⟩ : ∃ s, s = W.heap.size := ⟨_, rfl⟩
  rw [← hs] at K0 ⊢
  have HS := hide hs
  generalize W.alloc (.cells #[.pointer (some ⟨d, 0, none⟩), .int .i64 Ls, .int .i64 (first : Int), .slice none 0 0] 72) = wA at K0 KW ⊢
  clear hs0 hs cP cL
  go_loopg [37] pages (fun kx s37 wr => ∃ (i : Nat) (M : SM) (S' : Dv), s37 = .int .i64 i ∧ i ≤ pages ∧ pages - i ≤ kx ∧ Hid (Bk w0 wr d F S' s Ls first M ∧ Like S S' ∧ M.fs.map (·.l) = (List.range i).map (fun k => toldB (S.its (first + k))) ∧ Keep F W wr ∧ ∀ b ∈ M.foot s, W.heap.size ≤ b))
  case atStart => exact ⟨0, ⟨none, 0, []⟩, S, rfl, Nat.zero_le _, by omega, K0.out, Like.refl _, rfl, KW.out, fun b hb => by simp [SM.foot] at hb; subst hb; rw [HS.out]; exact Nat.le_refl _⟩
  case round =>
    obtain ⟨i, M, S1, rfl, hip, hg, I⟩ := hrel
    by_cases hlt : i < pages
    · have hlt2 : (i : Int) < (pages : Int) := by omega
      obtain ⟨c, hc⟩ : ∃ c, S.cs[first + i]? = some c := ⟨_, List.getElem?_eq_getElem (by rw [← HN.out]; omega)⟩
      have hcf : c.now.fits := (H.out.dev.good.fits c (List.mem_of_getElem? hc)).1
      have cF := hide (filter_ok I.out.1 (by rw [HLS.out, I.out.2.1.losses]) (by rw [I.out.2.1.off]; exact HO.out) i c (by rw [I.out.2.1.cs]; exact hc) hcf)
      have EI := hide (Dv.its_of hc)
      have hfl : Hid (M.fs.length = i) := by
        show _ = _
        have := congrArg List.length I.out.2.2.1
        simpa using this
      clear hc hcf
      go_wp2_with fail
      refine cF.out.mono ?_
      rintro e w1 ⟨rfl, hf, hb1, k1⟩
      have F1 := hide hf
      have B1 := hide hb1
      have K1 := hide k1
      clear hf hb1 k1 cF
      have c3 := B1.out.st.box.cell (i := 3) rfl
      have z3 := B1.out.st.box.frozen 3
      have hsl := B1.out.st.box.lt
      have hNw : wr.heap.size + 1 < w1.heap.size := F1.out.own.lt
      obtain ⟨v', w2, hrun, hown, hgr⟩ := run_app67 (w := w1.alloc (.cells #[.pointer (some ⟨wr.heap.size + 1, 0, none⟩)] 73)) (base := W.heap.size) (row67_keep (B1.out.row67 I.out.2.2.2.2) (fun q hq => blk_alloc_lt _ _ _ (by
        have : q ∈ M.foot s := by
          cases ha : M.a with
          | none => rw [ha] at hq; simp [Value.ownBlock] at hq
          | some a => rw [ha] at hq; simp [Value.ownBlock] at hq; rw [← hq]; exact SM.mem_a ha
        exact B1.out.st.lt q this))) (by have := K1.out.size; have := I.out.2.2.2.1.size; simp; omega) (Blk.new w1 [.pointer (some ⟨wr.heap.size + 1, 0, none⟩)] 73) rfl (by have := hfl.out; omega)
      have HR := hide hrun
      obtain ⟨g2, cp2, rfl⟩ : ∃ g2 cp2, v' = .slice (some ⟨g2, 0, none⟩) (M.fs.length + 1) cp2 := by
        rcases hown.2 with ⟨_, h0⟩ | ⟨g2, cp2, _, hv, _⟩
        · omega
        · exact ⟨g2, cp2, hv⟩
      have hgr' : (w1.alloc (.cells #[.pointer (some ⟨wr.heap.size + 1, 0, none⟩)] 73)).grownBy w2 (M.a.map (·.block)) := by
        cases ha : M.a with
        | none => rw [ha] at hgr; exact hgr
        | some a => rw [ha] at hgr; exact hgr
      have hbe : Below w1.heap.size w1 (w1.alloc (.cells #[.pointer (some ⟨wr.heap.size + 1, 0, none⟩)] 73)) := (Below.refl _ _).alloc (Nat.le_refl _) _
      have hnew := I.out.1.law.dev
      have MM := hide ((B1.out.below hbe).more (l := toldB c.now.its) (F1.out.below hbe) (toldB_length _) ⟨hnew.new _ (by omega), hnew.new _ (Nat.le_refl _), by have := I.out.1.law.bel.size; omega, I.out.1.law.bel.size⟩ (fun x hx he => by
        have := I.out.1.st.lt x.s (SM.mem_f hx).2
        omega) H.out.bel.size hown hgr')
      have hw2 : w1.heap.size ≤ w2.heap.size := by have := hgr'.size; simp at this; omega
      have sc3 : w2.cell? ⟨s, 3, none⟩ = some (.slice M.a M.fs.length M.cap) ∧ w2.frozen? ⟨s, 3, none⟩ = false := by
        have e : w2.heap[s]? = w1.heap[s]? := by
          rw [hgr'.block s (by simp; omega) (fun e => by
            cases ha : M.a with
            | none => rw [ha] at e; simp at e
            | some a =>
              rw [ha] at e; simp at e
              rcases B1.out.st.form with ⟨h1, _⟩ | ⟨q, cu, h1, h2, _⟩
              · rw [h1] at ha; cases ha
              · rw [h1] at ha; cases ha
                exact ne_type B1.out.st.box h2 (by decide) e)]
          exact blk_alloc_lt _ _ _ hsl
        have hb := B1.out.st.box.same e
        exact ⟨hb.cell (i := 3) rfl, hb.frozen 3⟩
      obtain ⟨sc, sz⟩ := sc3
      have KK := hide (I.out.2.2.2.1.trans (K1.out.trans (Keep.of_below (F := []) hbe) (by simp)) (fun q hq => .inl hq))
      clear hrun hown hgr hgr' hbe hnew
      go_wp2_with (at_builtin; refine Lib.wpList_append_run _ rfl _ _ _ _ rfl _ _ rfl rfl _ _ HR.out ?_)
      go_roundg (pages - (i + 1))
      case measure => omega
      case rel =>
        refine ⟨i + 1, _, _, rfl, by omega, by omega, MM.out.1, I.out.2.1.trans (Like.read _ _), ?_, ?_⟩
        · simp only [List.map_append, List.map_cons, List.map_nil]
          rw [I.out.2.2.1, List.range_succ, List.map_append]
          simp only [List.map_cons, List.map_nil]
          rw [EI.out]
        · refine ⟨KK.out.trans MM.out.2.2 (fun q hq => .inr ?_), fun b hb => ?_⟩
          · simp only [List.mem_cons] at hq
            rcases hq with rfl | hq
            · exact I.out.2.2.2.2 _ SM.mem_s
            · cases ha : M.a with
              | none => rw [ha] at hq; simp at hq
              | some a => rw [ha] at hq; simp at hq; rw [hq]; exact I.out.2.2.2.2 _ (SM.mem_a ha)
          · have hsz := I.out.2.2.2.1.size
            rcases SM.foot_inv hb with rfl | ⟨a, ha, rfl⟩ | ⟨x, hx, hbx⟩
            · exact I.out.2.2.2.2 _ SM.mem_s
            · simp at ha; rw [← ha]; exact MM.out.2.1
            · simp only [List.mem_append, List.mem_singleton] at hx
              rcases hx with hx | rfl
              · rcases hbx with rfl | rfl
                · exact I.out.2.2.2.2 _ (SM.mem_f hx).1
                · exact I.out.2.2.2.2 _ (SM.mem_f hx).2
              · rcases hbx with rfl | rfl
                · show _ ≤ wr.heap.size + 1; omega
                · exact hsz
    · obtain rfl : i = pages := by omega
      have hlt2 : ¬ (i : Int) < (i : Int) := by omega
      go_wp2
      go_ret2
      exact ⟨s, rfl, M, S1, I.out.1, I.out.2.1, I.out.2.2.1, I.out.2.2.2.1, I.out.2.2.2.2⟩
end Go.Proofs.YtbccnfbombgdmaaGreat

/- May. -/
set_option linter.unusedVariables false
set_option linter.unusedSimpArgs false
set_option maxRecDepth 8000
namespace Go.Proofs.YtbccnfbombgdmaaGreat
open Go.RowKit Go.Deep Math
variable {w0 W W' : World} {d s : Nat} {F F' : List Nat} {S S' : Dv} {L : Int} {first : Nat} {M : SM}

theorem StIn.at_ (h : StIn W s d L first M) {k : Nat} {x : FB} (hx : M.fs[k]? = some x) : ∃ q, M.a = some ⟨q, 0, none⟩ ∧ W.cell? ⟨q, k, none⟩ = some (.pointer (some ⟨x.f, 0, none⟩)) ∧ q < W.heap.size := by
  rcases h.form with ⟨_, h1⟩ | ⟨q, cur, h1, h2, h3, h4⟩
  · rw [h1] at hx; simp at hx
  · refine ⟨q, h1, ?_, (Array.getElem?_eq_some_iff.1 h2).1⟩
    have hk : k < M.fs.length := (List.getElem?_eq_some_iff.1 hx).1
    have e := congrArg (fun l => l[k]?) h4
    simp only [List.getElem?_take, SM.ptrs, List.getElem?_map, hx, if_pos hk, Array.getElem?_toList, Option.map_some] at e
    simp [World.cell?, h2, e]
theorem below_drew {B : Nat} {A V : World} (h : Below B A V) (q : Nat) : Below B A (V.drewN q) := ⟨h.os, h.tape, h.output, h.size, h.block⟩
theorem enter32 (args : Array Value) (w : World) : (callFunc 29 args).run Tryz.prog w = .ok (.enter 29 args) w := enters_of Tryz.func29 (by kernel_rfl) rfl args w
theorem enter39 (args : Array Value) (w : World) : (callFunc 44 args).run Tryz.prog w = .ok (.enter 44 args) w := enters_of Tryz.func44 (by kernel_rfl) rfl args w
set_option maxHeartbeats 2000000 in
theorem may_ok (h : Bk w0 W d F S s L first M) (key : List UInt8) (hk : key.length ≤ maxLen) (x : FB) (hx : M.fs[bkt key M.fs.length]? = some x) (hn2 : M.fs.length ≤ 1000) :
    Calls Tryz.prog 16 #[.pointer (some ⟨s, 0, none⟩), .string (txt key)] W fun e W' => e = .returned (.bool (Bl.mayB x.l (Bl.plc (txt key) 256 3))) ∧ Below W.heap.size W W' := by
  obtain ⟨q, hq, hqc, hql⟩ := h.st.at_ hx
  have hkn := (List.getElem?_eq_some_iff.1 hx).1
  have hfl := h.st.flt x (List.mem_of_getElem? hx)
  obtain ⟨res, hres⟩ : ∃ r, r = Bl.mayB x.l (Bl.plc (txt key) 256 3) := ⟨_, rfl⟩
  obtain ⟨xf, hxf⟩ : ∃ xf, xf = x.f := ⟨_, rfl⟩
  rw [← hres]
  have cM0 : Hid (∀ V, Below W.heap.size W V → Calls Tryz.prog 44 #[.pointer (some ⟨xf, 0, none⟩), .string (txt key)] V fun e w' => e = .returned (.bool res) ∧ Below V.heap.size V w') := fun V hV => by
    have := Bl.may_any x.f x.s 3 x.l (txt key) (by rw [txt_size]; exact hk) V (hfl.1.below hV)
    rw [hfl.2, ← hres, ← hxf] at this
    exact this
  have cB0 : Hid (∀ V, Below W.heap.size W V → Calls Tryz.prog 29 #[.pointer (some ⟨s, 0, none⟩), .string (txt key)] V fun e w' => e = .returned (.int .i64 (bkt key M.fs.length : Nat)) ∧ ∃ q, w' = V.drewN q) := fun V hV => bucket_any (h.below hV).st key hk (by omega) hn2
  have cl : Hid (∀ V, Below W.heap.size W V → V.cell? ⟨s, 3, none⟩ = some (.slice M.a M.fs.length M.cap) ∧ V.cell? ⟨q, bkt key M.fs.length, none⟩ = some (.pointer (some ⟨xf, 0, none⟩))) := fun V hV => by
    refine ⟨(h.below hV).st.box.cell (i := 3) rfl, ?_⟩
    rw [hxf, ← hqc]
    exact hV.cell (p := ⟨q, _, none⟩) hql
  obtain ⟨bk, hbk⟩ : ∃ bk, bk = bkt key M.fs.length := ⟨_, rfl⟩
  obtain ⟨n, hn⟩ : ∃ n, n = M.fs.length := ⟨_, rfl⟩
  obtain ⟨cap, hcap⟩ : ∃ cap, cap = M.cap := ⟨_, rfl⟩
  rw [← hbk] at cB0 cl hkn
  rw [hq, ← hn, ← hcap] at cl
  rw [← hn] at hkn hn2
  have hbn : (bk : Int) < (n : Int) := by omega
  clear h hx hfl hk hqc hres hxf hbk hn hcap hq
  go_enter Tryz.func16, Tryz.ntmps16
  go_wp2_with fail
  obtain ⟨CC, hCC⟩ : ∃ CC : Bool → World → Prop, CC = fun f w' => match f with
      | false => ∃ q, w' = W.drewN q
      | true => Below W.heap.size W w' := ⟨_, rfl⟩
  have CB : Hid (∀ f w', CC f w' → Below W.heap.size W w') := fun f w' hw => by
    rw [hCC] at hw
    cases f with
    | false => obtain ⟨q, rfl⟩ := hw; exact below_q2 W q
    | true => exact hw
  have DR : Hid (CC false { W with drawn := W.drawn + 1 }) := by show CC false _; rw [hCC]; exact ⟨1, rfl⟩
  have cB : Hid (∀ f w', CC f w' → Calls Tryz.prog 29 #[.pointer (some ⟨s, 0, none⟩), .string (txt key)] w' fun e w' => e = .returned (.int .i64 (bk : Int)) ∧ CC f w') := fun f w' hw => by
    refine (cB0.out w' (CB.out f w' hw)).mono ?_
    rintro e w2 ⟨rfl, q2, rfl⟩
    refine ⟨rfl, ?_⟩
    rw [hCC] at hw ⊢
    cases f with
    | false => obtain ⟨q, rfl⟩ := hw; exact ⟨q + q2, by rw [World.drewN_drewN]⟩
    | true => exact below_drew hw q2
  have cM : Hid (∀ w', CC false w' → Calls Tryz.prog 44 #[.pointer (some ⟨xf, 0, none⟩), .string (txt key)] w' fun e w' => e = .returned (.bool res) ∧ CC true w') := fun w' hw => by
    have hb := CB.out false w' hw
    refine (cM0.out w' hb).mono ?_
    rintro e w2 ⟨rfl, h2⟩
    refine ⟨rfl, ?_⟩
    rw [hCC]
    exact hb.trans (h2.mono hb.size)
  have cells : Hid (∀ f w', CC f w' → w'.cell? ⟨s, 3, none⟩ = some (.slice (some ⟨q, 0, none⟩) n cap) ∧ w'.cell? ⟨q, bk, none⟩ = some (.pointer (some ⟨xf, 0, none⟩))) := fun f w' hw => cl.out w' (CB.out f w' hw)
  clear hCC cB0 cM0 cl
  refine wp_region_turn (by kernel_rfl) (by kernel_rfl) (fun i => ([.pointer (some ⟨s, 0, none⟩), .pointer (some ⟨s, 0, none⟩), .pointer (some ⟨s, 3, none⟩), .slice (some ⟨q, 0, none⟩) n cap, .pointer (some ⟨s, 0, none⟩), .string (txt key), .int .i64 (bk : Int), .pointer (some ⟨q, bk, none⟩), .pointer (some ⟨xf, 0, none⟩), .string (txt key), .bool res, .bool res] : List Value).getD i undef) 10 (by decide) (CC) (DR.out) ?_ ?_
  · intro i o hi f w' ev hc hz hin hout hcst hfn
    have hlt : i < 12 := by
      have := (Array.getElem?_eq_some_iff.1 hi).1
      simpa using this
    match i, hlt with
    | 0, _ =>
      simp only [List.getElem?_toArray, List.getElem?_cons_zero, List.getElem?_cons_succ, Option.some.injEq] at hi
      subst hi
      have e0 : ev (.tmp 0) = .pointer (some ⟨s, 0, none⟩) := hout 0 (by kernel_rfl) (show (0 : Nat) < 16 by decide)
      rw [if_neg (by decide)]
      refine .inl ⟨w', ?_, hc⟩
      show _ = Result.ok (Next.value (.pointer (some ⟨s, 0, none⟩))) w'
      simp [execOp, e0, hcst, go_sem]
    | 1, _ =>
      simp only [List.getElem?_toArray, List.getElem?_cons_zero, List.getElem?_cons_succ, Option.some.injEq] at hi
      subst hi
      have e0 : ev (.tmp 5) = .pointer (some ⟨s, 0, none⟩) := hin 5 0 ⟨0, .data⟩ (by kernel_rfl) (by simp) rfl rfl (show (5 : Nat) < 16 by decide)
      rw [if_neg (by decide)]
      refine .inl ⟨w', ?_, hc⟩
      show _ = Result.ok (Next.value (.pointer (some ⟨s, 0, none⟩))) w'
      simp [execOp, e0, hcst, go_sem]
    | 2, _ =>
      simp only [List.getElem?_toArray, List.getElem?_cons_zero, List.getElem?_cons_succ, Option.some.injEq] at hi
      subst hi
      have e0 : ev (.tmp 6) = .pointer (some ⟨s, 0, none⟩) := hin 6 1 ⟨1, .data⟩ (by kernel_rfl) (by simp) rfl rfl (show (6 : Nat) < 16 by decide)
      rw [if_neg (by decide)]
      refine .inl ⟨w', ?_, hc⟩
      show _ = Result.ok (Next.value (.pointer (some ⟨s, 3, none⟩))) w'
      simp [execOp, e0, hcst, go_sem]
    | 3, _ =>
      simp only [List.getElem?_toArray, List.getElem?_cons_zero, List.getElem?_cons_succ, Option.some.injEq] at hi
      subst hi
      have e0 : ev (.tmp 7) = .pointer (some ⟨s, 3, none⟩) := hin 7 2 ⟨2, .data⟩ (by kernel_rfl) (by simp) rfl rfl (show (7 : Nat) < 16 by decide)
      rw [if_neg (by decide)]
      refine .inl ⟨w', ?_, hc⟩
      show _ = Result.ok (Next.value (.slice (some ⟨q, 0, none⟩) n cap)) w'
      have q1 := (cells.out f w' hc).1
      simp [execOp, e0, q1, hcst, go_sem]
    | 4, _ =>
      simp only [List.getElem?_toArray, List.getElem?_cons_zero, List.getElem?_cons_succ, Option.some.injEq] at hi
      subst hi
      have e0 : ev (.tmp 0) = .pointer (some ⟨s, 0, none⟩) := hout 0 (by kernel_rfl) (show (0 : Nat) < 16 by decide)
      rw [if_neg (by decide)]
      refine .inl ⟨w', ?_, hc⟩
      show _ = Result.ok (Next.value (.pointer (some ⟨s, 0, none⟩))) w'
      simp [execOp, e0, hcst, go_sem]
    | 5, _ =>
      simp only [List.getElem?_toArray, List.getElem?_cons_zero, List.getElem?_cons_succ, Option.some.injEq] at hi
      subst hi
      have e0 : ev (.tmp 1) = .string (txt key) := hout 1 (by kernel_rfl) (show (1 : Nat) < 16 by decide)
      rw [if_neg (by decide)]
      refine .inl ⟨w', ?_, hc⟩
      show _ = Result.ok (Next.value (.string (txt key))) w'
      simp [execOp, e0, hcst, go_sem]
    | 6, _ =>
      simp only [List.getElem?_toArray, List.getElem?_cons_zero, List.getElem?_cons_succ, Option.some.injEq] at hi
      subst hi
      have e0 : ev (.tmp 9) = .pointer (some ⟨s, 0, none⟩) := hin 9 4 ⟨4, .data⟩ (by kernel_rfl) (by simp) rfl rfl (show (9 : Nat) < 16 by decide)
      have e1 : ev (.tmp 10) = .string (txt key) := hin 10 5 ⟨5, .data⟩ (by kernel_rfl) (by simp) rfl rfl (show (10 : Nat) < 16 by decide)
      rw [if_neg (by decide)]
      refine .inr (.inr ⟨29, #[.pointer (some ⟨s, 0, none⟩), .string (txt key)], ?_, ?_⟩)
      · have ef := hfn 29
        simp [execOp, resolve, invoke, ef, hcst, e0, e1, Result.andThen]
        exact enter32 _ _
      · refine (cB.out f w' hc).mono ?_
        rintro e w2 ⟨rfl, h2⟩
        exact ⟨rfl, h2⟩
    | 7, _ =>
      simp only [List.getElem?_toArray, List.getElem?_cons_zero, List.getElem?_cons_succ, Option.some.injEq] at hi
      subst hi
      have e0 : ev (.tmp 8) = .slice (some ⟨q, 0, none⟩) n cap := hin 8 3 ⟨3, .data⟩ (by kernel_rfl) (by simp) rfl rfl (show (8 : Nat) < 16 by decide)
      have e1 : ev (.tmp 11) = .int .i64 (bk : Int) := hin 11 6 ⟨6, .data⟩ (by kernel_rfl) (by simp) rfl rfl (show (11 : Nat) < 16 by decide)
      rw [if_neg (by decide)]
      refine .inl ⟨w', ?_, hc⟩
      show _ = Result.ok (Next.value (.pointer (some ⟨q, bk, none⟩))) w'
      simp [execOp, e0, e1, hcst, go_sem, hbn]
    | 8, _ =>
      simp only [List.getElem?_toArray, List.getElem?_cons_zero, List.getElem?_cons_succ, Option.some.injEq] at hi
      subst hi
      have e0 : ev (.tmp 12) = .pointer (some ⟨q, bk, none⟩) := hin 12 7 ⟨7, .data⟩ (by kernel_rfl) (by simp) rfl rfl (show (12 : Nat) < 16 by decide)
      rw [if_neg (by decide)]
      refine .inl ⟨w', ?_, hc⟩
      show _ = Result.ok (Next.value (.pointer (some ⟨xf, 0, none⟩))) w'
      have q1 := (cells.out f w' hc).2
      simp [execOp, e0, q1, hcst, go_sem]
    | 9, _ =>
      simp only [List.getElem?_toArray, List.getElem?_cons_zero, List.getElem?_cons_succ, Option.some.injEq] at hi
      subst hi
      have e0 : ev (.tmp 1) = .string (txt key) := hout 1 (by kernel_rfl) (show (1 : Nat) < 16 by decide)
      rw [if_neg (by decide)]
      refine .inl ⟨w', ?_, hc⟩
      show _ = Result.ok (Next.value (.string (txt key))) w'
      simp [execOp, e0, hcst, go_sem]
    | 10, _ =>
      simp only [List.getElem?_toArray, List.getElem?_cons_zero, List.getElem?_cons_succ, Option.some.injEq] at hi
      subst hi
      have e0 : ev (.tmp 13) = .pointer (some ⟨xf, 0, none⟩) := hin 13 8 ⟨8, .data⟩ (by kernel_rfl) (by simp) rfl rfl (show (13 : Nat) < 16 by decide)
      have e1 : ev (.tmp 14) = .string (txt key) := hin 14 9 ⟨9, .data⟩ (by kernel_rfl) (by simp) rfl rfl (show (14 : Nat) < 16 by decide)
      rw [if_pos rfl]
      refine .inr (.inr ⟨44, #[.pointer (some ⟨xf, 0, none⟩), .string (txt key)], ?_, ?_⟩)
      · have ef := hfn 44
        simp [execOp, resolve, invoke, ef, hcst, e0, e1, Result.andThen]
        exact enter39 _ _
      · rw [hz rfl] at hc
        refine (cM.out w' hc).mono ?_
        rintro e w2 ⟨rfl, h2⟩
        exact ⟨rfl, h2⟩
    | 11, _ =>
      simp only [List.getElem?_toArray, List.getElem?_cons_zero, List.getElem?_cons_succ, Option.some.injEq] at hi
      subst hi
      have e0 : ev (.tmp 15) = .bool res := hin 15 10 ⟨10, .data⟩ (by kernel_rfl) (by simp) rfl rfl (show (15 : Nat) < 16 by decide)
      rw [if_neg (by decide)]
      refine .inl ⟨w', ?_, hc⟩
      show _ = Result.ok (Next.value (.bool res)) w'
      simp [execOp, e0, hcst, go_sem]
  · intro w7 hc
    simp only [lexF, Act.put, List.setIfInBounds_toArray, List.set_cons_succ, List.set_cons_zero, List.getD_cons_succ, List.getD_cons_zero]
    have T := hide (CB.out true w7 hc)
    clear hc cB cM cells DR CB hbn
    go_wp2
    go_ret
    exact ⟨rfl, T.out⟩
end Go.Proofs.YtbccnfbombgdmaaGreat
