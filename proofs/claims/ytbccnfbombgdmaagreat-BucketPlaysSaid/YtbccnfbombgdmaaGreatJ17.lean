/- Texts joined: Bk2, AnyG, Bk3. -/
import Derived.Test.YtbccnfbombgdmaaGreatJ07
import Derived.Test.YtbccnfbombgdmaaGreatJ14
import Derived.Test.YtbccnfbombgdmaaGreatJ15
import Derived.Test.YtbccnfbombgdmaaGreatJ16
/- A store of small items as it lies; 'list', 'bucket', 'write'. -/
set_option linter.unusedVariables false
set_option linter.unusedSimpArgs false
set_option maxRecDepth 8000
namespace Go.Proofs.YtbccnfbombgdmaaGreat
open Go.RowKit Go.Deep Math

/-- A filter: its box, its bits' block, its bits. -/
structure FB where
  f : Nat
  s : Nat
  l : List Bool
/-- Where a store's filters lie. -/
structure SM where
  a : Option Addr
  cap : Nat
  fs : List FB
def SM.foot (M : SM) (s : Nat) : List Nat := s :: ((M.a.map (·.block)).toList ++ M.fs.flatMap (fun x => [x.f, x.s]))
def SM.ptrs (M : SM) : List Value := M.fs.map fun x => .pointer (some ⟨x.f, 0, none⟩)
structure StIn (W : World) (s d : Nat) (L : Int) (first : Nat) (M : SM) : Prop where
  box : Blk W s [.pointer (some ⟨d, 0, none⟩), .int .i64 L, .int .i64 (first : Int), .slice M.a M.fs.length M.cap] 72
  row : W.ownsRow 0 73 1 (.slice M.a M.fs.length M.cap) M.fs.length M.ptrs
  flt : ∀ x ∈ M.fs, Bl.FltIn W x.f x.s x.l 3 ∧ x.l.length = 256
  nd : (M.fs.map (·.s)).Nodup
theorem SM.mem_f {M : SM} {s : Nat} {x : FB} (h : x ∈ M.fs) : x.f ∈ M.foot s ∧ x.s ∈ M.foot s := by
  unfold SM.foot
  simp only [List.mem_cons, List.mem_append, List.mem_flatMap]
  exact ⟨.inr (.inr ⟨x, h, by simp⟩), .inr (.inr ⟨x, h, by simp⟩)⟩
theorem SM.mem_s {M : SM} {s : Nat} : s ∈ M.foot s := by simp [SM.foot]
theorem SM.mem_a {M : SM} {s : Nat} {a : Addr} (h : M.a = some a) : a.block ∈ M.foot s := by simp [SM.foot, h]
theorem SM.foot_inv {M : SM} {s b : Nat} (h : b ∈ M.foot s) : b = s ∨ (∃ a, M.a = some a ∧ b = a.block) ∨ ∃ x ∈ M.fs, b = x.f ∨ b = x.s := by
  unfold SM.foot at h
  simp only [List.mem_cons, List.mem_append, List.mem_flatMap] at h
  rcases h with h | h | ⟨x, hx, h⟩
  · exact .inl h
  · cases ha : M.a with
    | none => rw [ha] at h; simp at h
    | some a => rw [ha] at h; simp at h; exact .inr (.inl ⟨a, rfl, h⟩)
  · simp at h; exact .inr (.inr ⟨x, hx, h⟩)
theorem StIn.form {W : World} {s d : Nat} {L : Int} {first : Nat} {M : SM} (h : StIn W s d L first M) : (M.a = none ∧ M.fs = []) ∨ ∃ q cur, M.a = some ⟨q, 0, none⟩ ∧ W.heap[q]? = some (.cells cur 73 (0, 0)) ∧ M.fs.length ≤ M.cap ∧ cur.toList.take M.fs.length = M.ptrs := by
  rcases h.row.2 with ⟨hv, h0⟩ | ⟨g, cap, cur, hv, hb, hh, hc, hm, hs, ht⟩
  · simp at hv; exact .inl ⟨hv.1, List.eq_nil_of_length_eq_zero h0⟩
  · simp only [Value.slice.injEq] at hv
    obtain ⟨h1, _, h3⟩ := hv
    subst h3
    exact .inr ⟨g, cur, h1, hh, hc, by simpa using ht⟩
theorem StIn.lt {W : World} {s d : Nat} {L : Int} {first : Nat} {M : SM} (h : StIn W s d L first M) : ∀ b ∈ M.foot s, b < W.heap.size := by
  intro b hb
  rcases SM.foot_inv hb with rfl | ⟨a, ha, rfl⟩ | ⟨x, hx, rfl | rfl⟩
  · exact h.box.lt
  · rcases h.form with ⟨h1, _⟩ | ⟨q, cur, h1, h2, _⟩
    · rw [h1] at ha; cases ha
    · rw [h1] at ha; cases ha; exact (Array.getElem?_eq_some_iff.1 h2).1
  · exact (h.flt x hx).1.own.lt
  · exact (h.flt x hx).1.row.lt
theorem row67_keep {W W' : World} {base : Nat} {e : TypeId} {size : Nat} {v : Value} {n : Nat} {xs : List Value} (h : W.ownsRow base e size v n xs) (k : ∀ q, v.ownBlock = some q → W'.heap[q]? = W.heap[q]?) : W'.ownsRow base e size v n xs := by
  refine ⟨h.1, ?_⟩
  rcases h.2 with h2 | ⟨g, cap, cur, hv, hg, hh, r⟩
  · exact .inl h2
  · exact .inr ⟨g, cap, cur, hv, hg, by rw [k g (by rw [hv]; rfl)]; exact hh, r⟩
theorem StIn.same {W W' : World} {s d : Nat} {L : Int} {first : Nat} {M : SM} (h : StIn W s d L first M) (k : ∀ b ∈ M.foot s, W'.heap[b]? = W.heap[b]?) : StIn W' s d L first M :=
  ⟨h.box.same (k s SM.mem_s), row67_keep h.row (fun q hq => by
    cases ha : M.a with
    | none => rw [ha] at hq; simp [Value.ownBlock] at hq
    | some a => rw [ha] at hq; simp [Value.ownBlock] at hq; rw [← hq]; exact k _ (SM.mem_a ha)), fun x hx => ⟨(h.flt x hx).1.same (k _ (SM.mem_f hx).1) (k _ (SM.mem_f hx).2), (h.flt x hx).2⟩, h.nd⟩
/-- A device and a store on it. -/
structure Bk (w0 W : World) (d : Nat) (F : List Nat) (S : Dv) (s : Nat) (L : Int) (first : Nat) (M : SM) : Prop where
  law : Law w0 d F S W
  st : StIn W s d L first M
  new : ∀ b ∈ M.foot s, w0.heap.size ≤ b
  off : ∀ b ∈ M.foot s, b ∉ F
variable {w0 W W' : World} {d s : Nat} {F F' : List Nat} {S S' : Dv} {L : Int} {first : Nat} {M : SM}
theorem Bk.move (h : Bk w0 W d F S s L first M) (hd : DvAt W' d F' S') (m : Moves F F' W W') : Bk w0 W' d F' S' s L first M :=
  ⟨h.law.move hd m, h.st.same (fun b hb => m.keep.block b (h.st.lt b hb) (h.off b hb)), h.new, fun b hb hf => by
    rcases m.foot b hf with h1 | h1
    · exact h.off b hb h1
    · have := h.st.lt b hb; omega⟩
theorem Bk.below (h : Bk w0 W d F S s L first M) (b : Below W.heap.size W W') : Bk w0 W' d F S s L first M := h.move (h.law.dev.below b) (Moves.of_keep (Keep.of_below b))
theorem Bk.keep (h : Bk w0 W d F S s L first M) {G : List Nat} (k : Keep G W W') (hF : ∀ b ∈ G, b ∉ F ∧ b ∉ M.foot s ∧ w0.heap.size ≤ b) : Bk w0 W' d F S s L first M :=
  ⟨⟨h.law.dev.same (fun b hb => k.block b (h.law.dev.lt b hb) (fun hg => (hF b hg).1 hb)), h.law.low, h.law.bel.trans (k.below (fun b hb => (hF b hb).2.2) h.law.bel.size)⟩, h.st.same (fun b hb => k.block b (h.st.lt b hb) (fun hg => (hF b hg).2.1 hb)), h.new, h.off⟩

theorem losses_at {w : World} (h : DvAt w d F S) : Calls Tryz.prog 24 #[.pointer (some ⟨d, 0, none⟩)] w fun e w' => e = .returned (.int .i64 S.losses) ∧ w' = w := by
  obtain ⟨p, pd, wa, wc, _, hd⟩ := h
  exact losses_any d p pd wa wc S w hd
theorem pages_at {w : World} (h : DvAt w d F S) : Calls Tryz.prog 23 #[.pointer (some ⟨d, 0, none⟩)] w fun e w' => e = .returned (.int .i64 (S.cs.length : Nat)) ∧ w' = w := by
  obtain ⟨p, pd, wa, wc, _, hd⟩ := h
  exact pages_any d p pd wa wc S w hd
def Pg.its : Pg → List It
  | ⟨some (some b)⟩ => lsO (full b).data.toList
  | _ => []
theorem Pg.its_all (p : Pg) (hp : p.fits) : total p.its ≤ 384 ∧ ∀ x ∈ p.its, x.fits ∧ x.good = true := by
  cases p using Pg.elim3 with
  | whole b =>
    have := lsO_all (full b).data.toList
    have h2 : (full b).data.toList.length = 384 := by rw [Array.length_toList]; exact full_size b hp
    rw [h2] at this
    exact this
  | blank => simp [Pg.its, total]
  | torn => simp [Pg.its, total]

theorem below_q2 (W : World) (n : Nat) : Below W.heap.size W (W.drewN n) := ⟨rfl, rfl, rfl, Nat.le_refl _, fun _ _ => rfl⟩
theorem keep_q {F : List Nat} (W : World) (n : Nat) : Keep F W (W.drewN n) := Keep.of_below (below_q2 W n)
theorem enter46 (args : Array Value) (w : World) : (callFunc 57 args).run Tryz.prog w = .ok (.enter 57 args) w := enters_of Tryz.func57 (by kernel_rfl) rfl args w
set_option maxHeartbeats 2000000 in
theorem list_ok (h : Bk w0 W d F S s L first M) (hL : L = S.losses) (hoff : S.off = false) (at0 : Nat) (c : Cl) (hk : S.cs[first + at0]? = some c) :
    Calls Tryz.prog 30 #[.pointer (some ⟨s, 0, none⟩), .int .i64 at0] W fun e W' => ∃ v, e = .returned (.tuple #[v, .int .i64 0]) ∧ Row W' W.heap.size v c.now.its ∧ Bk w0 W' d F (S.readDo (first + at0 : Nat)) s L first M ∧ Keep F W W' := by
  have c0 := h.st.box.cell (i := 0) rfl
  have c1 := h.st.box.cell (i := 1) rfl
  have hm := h.law.dev.good.many
  have hlt := (List.getElem?_eq_some_iff.1 hk).1
  have cL : Hid (∀ V : World, V.heap = W.heap → Calls Tryz.prog 24 #[.pointer (some ⟨d, 0, none⟩)] V fun e w' => e = .returned (.int .i64 L) ∧ w' = V) := fun V hV => by
    rw [hL]; exact losses_at (h.law.dev.same (fun _ _ => by rw [hV]))
  have H := hide h
  have hkb : first + at0 ≤ 4096 := by omega
  obtain ⟨k, hkk⟩ : ∃ k, k = first + at0 := ⟨_, rfl⟩
  have e1 : (first : Int) + (at0 : Int) = (k : Int) := by omega
  rw [← hkk] at hk hkb ⊢
  have hx1 : first ≤ 4096 := by omega
  have hwr : IntKind.i64.wrap ((first : Int) + (at0 : Int)) = (k : Int) := by rw [IntKind.wrap_i64, e1]; omega
  have hx2 : at0 ≤ 4096 := by omega
  have HX : Hid (∀ (P : World → Prop) (w' : World), DvAt w' d F (S.readDo (k : Nat)) → Keep F W w' → Bk w0 w' d F (S.readDo (k : Nat)) s L first M) := fun P w' h1 h2 => H.out.move h1 (Moves.of_keep h2)
  obtain ⟨rv, er, X, cR, hcs⟩ : ∃ (rv : Value) (er : Int) (X : World → Prop), Hid (∀ q, Calls Tryz.prog 57 #[.pointer (some ⟨d, 0, none⟩), .int .i64 (k : Nat)] (W.drewN q) fun e w' => e = .returned (.tuple #[rv, .int .i64 er]) ∧ DvAt w' d F (S.readDo (k : Nat)) ∧ Keep F W w' ∧ X w') ∧
      (((er = 5 ∨ er = 6) ∧ rv = .slice none 0 0 ∧ c.now.its = []) ∨ ∃ g lb, er = 0 ∧ rv = .slice (some ⟨g, 0, none⟩) 384 384 ∧ c.now.its = lsO lb ∧ ∀ w', X w' → BS w' (some ⟨g, 0, none⟩) 384 384 lb) := by
    have hdv : ∀ q, DvAt (W.drewN q) d F S := fun q => h.law.dev.same (fun _ _ => rfl)
    cases hp : c.now using Pg.elim3 with
    | blank =>
      refine ⟨_, 5, fun _ => True, fun q => (read_bare hk hoff hp (e0 := 5) rfl (by omega) (W.drewN q) (hdv q)).mono ?_, .inl ⟨.inl rfl, rfl, rfl⟩⟩
      rintro e w2 ⟨rfl, h2, k2⟩
      exact ⟨rfl, h2, (keep_q (F := F) W q).trans k2 (fun x hx => .inl hx), trivial⟩
    | torn =>
      refine ⟨_, 6, fun _ => True, fun q => (read_bare hk hoff hp (e0 := 6) rfl (by omega) (W.drewN q) (hdv q)).mono ?_, .inl ⟨.inr rfl, rfl, rfl⟩⟩
      rintro e w2 ⟨rfl, h2, k2⟩
      exact ⟨rfl, h2, (keep_q (F := F) W q).trans k2 (fun x hx => .inl hx), trivial⟩
    | whole b =>
      refine ⟨_, 0, fun w' => BS w' (some ⟨W.heap.size + 1, 0, none⟩) 384 384 (full b).data.toList, fun q => (read_whole hk hoff hp (W.drewN q) (hdv q)).mono ?_, .inr ⟨W.heap.size + 1, _, rfl, rfl, rfl, fun w' h => h⟩⟩
      rintro e w2 ⟨rfl, hb, h2, k2⟩
      exact ⟨rfl, h2, (keep_q (F := F) W q).trans k2 (fun x hx => .inl hx), hb⟩
  have HCS := hide hcs
  clear h hlt hm hkk hL hk hoff hcs
  go_enter Tryz.func30, Tryz.ntmps30
  go_wp2_with fail
  go_quiet (first | (go_at_call 24; refine Calls.quiet_of_same (cL.out _ ?_); rfl))
  go_wp2_with fail
  obtain ⟨CC, hCC⟩ : ∃ CC : Bool → World → Prop, CC = fun f w' => match f with
      | false => w' = W.drewN (nq + 1)
      | true => DvAt w' d F (S.readDo (k : Nat)) ∧ Keep F W w' ∧ X w' := ⟨_, rfl⟩
  have DR : Hid (CC false { W.drewN nq with drawn := (W.drewN nq).drawn + 1 }) := by show CC false _; rw [hCC]; rfl
  have cC : Hid (∀ w', CC false w' → Calls Tryz.prog 57 #[.pointer (some ⟨d, 0, none⟩), .int .i64 (k : Nat)] w' fun e w' => e = .returned (.tuple #[rv, .int .i64 er]) ∧ CC true w') := fun w' hw => by
    rw [hCC] at hw ⊢
    simp only at hw
    subst hw
    exact cR.out _
  have cells : Hid (∀ f w', CC f w' → w'.cell? ⟨s, 0, none⟩ = some (.pointer (some ⟨d, 0, none⟩)) ∧ w'.cell? ⟨s, 2, none⟩ = some (.int .i64 (first : Int))) := fun f w' hw => by
    rw [hCC] at hw
    cases f with
    | false =>
      simp only at hw
      subst hw
      exact ⟨H.out.st.box.cell (i := 0) rfl, H.out.st.box.cell (i := 2) rfl⟩
    | true =>
      have := (HX.out X w' hw.1 hw.2.1).st.box
      exact ⟨this.cell (i := 0) rfl, this.cell (i := 2) rfl⟩
  have HE : Hid (∀ w', CC true w' → DvAt w' d F (S.readDo (k : Nat)) ∧ Keep F W w' ∧ X w') := fun w' hw => by rw [hCC] at hw; exact hw
  clear hCC c0 c1 cL cR
  refine wp_region_turn (by kernel_rfl) (by kernel_rfl) (fun i => ([.pointer (some ⟨s, 0, none⟩), .pointer (some ⟨s, 0, none⟩), .pointer (some ⟨s, 0, none⟩), .pointer (some ⟨d, 0, none⟩), .pointer (some ⟨s, 0, none⟩), .pointer (some ⟨s, 0, none⟩), .pointer (some ⟨s, 2, none⟩), .int .i64 (first : Int), .int .i64 (at0 : Int), .int .i64 (k : Int), .tuple #[rv, .int .i64 er], .tuple #[rv, .int .i64 er], rv, .int .i64 er, rv, .int .i64 er] : List Value).getD i undef) 10 (by decide) (CC) (DR.out) ?_ ?_
  · intro i o hi f w' ev hc hz hin hout hcst hfn
    have hlt : i < 16 := by
      have := (Array.getElem?_eq_some_iff.1 hi).1
      simpa using this
    match i, hlt with
    | 0, _ =>
      simp only [List.getElem?_toArray, List.getElem?_cons_zero, List.getElem?_cons_succ, Option.some.injEq] at hi
      subst hi
      have e0 : ev (.tmp 0) = .pointer (some ⟨s, 0, none⟩) := hout 0 (by kernel_rfl) (show (0 : Nat) < 50 by decide)
      rw [if_neg (by decide)]
      refine .inl ⟨w', ?_, hc⟩
      show _ = Result.ok (Next.value (.pointer (some ⟨s, 0, none⟩))) w'
      simp [execOp, e0, hcst, go_sem]
    | 1, _ =>
      simp only [List.getElem?_toArray, List.getElem?_cons_zero, List.getElem?_cons_succ, Option.some.injEq] at hi
      subst hi
      have e0 : ev (.tmp 20) = .pointer (some ⟨s, 0, none⟩) := hin 20 0 ⟨0, .data⟩ (by kernel_rfl) (by simp) rfl rfl (show (20 : Nat) < 50 by decide)
      rw [if_neg (by decide)]
      refine .inl ⟨w', ?_, hc⟩
      show _ = Result.ok (Next.value (.pointer (some ⟨s, 0, none⟩))) w'
      simp [execOp, e0, hcst, go_sem]
    | 2, _ =>
      simp only [List.getElem?_toArray, List.getElem?_cons_zero, List.getElem?_cons_succ, Option.some.injEq] at hi
      subst hi
      have e0 : ev (.tmp 21) = .pointer (some ⟨s, 0, none⟩) := hin 21 1 ⟨1, .data⟩ (by kernel_rfl) (by simp) rfl rfl (show (21 : Nat) < 50 by decide)
      rw [if_neg (by decide)]
      refine .inl ⟨w', ?_, hc⟩
      show _ = Result.ok (Next.value (.pointer (some ⟨s, 0, none⟩))) w'
      simp [execOp, e0, hcst, go_sem]
    | 3, _ =>
      simp only [List.getElem?_toArray, List.getElem?_cons_zero, List.getElem?_cons_succ, Option.some.injEq] at hi
      subst hi
      have e0 : ev (.tmp 22) = .pointer (some ⟨s, 0, none⟩) := hin 22 2 ⟨2, .data⟩ (by kernel_rfl) (by simp) rfl rfl (show (22 : Nat) < 50 by decide)
      rw [if_neg (by decide)]
      refine .inl ⟨w', ?_, hc⟩
      show _ = Result.ok (Next.value (.pointer (some ⟨d, 0, none⟩))) w'
      have q := (cells.out f w' hc).1
      simp [execOp, e0, q, hcst, go_sem]
    | 4, _ =>
      simp only [List.getElem?_toArray, List.getElem?_cons_zero, List.getElem?_cons_succ, Option.some.injEq] at hi
      subst hi
      have e0 : ev (.tmp 0) = .pointer (some ⟨s, 0, none⟩) := hout 0 (by kernel_rfl) (show (0 : Nat) < 50 by decide)
      rw [if_neg (by decide)]
      refine .inl ⟨w', ?_, hc⟩
      show _ = Result.ok (Next.value (.pointer (some ⟨s, 0, none⟩))) w'
      simp [execOp, e0, hcst, go_sem]
    | 5, _ =>
      simp only [List.getElem?_toArray, List.getElem?_cons_zero, List.getElem?_cons_succ, Option.some.injEq] at hi
      subst hi
      have e0 : ev (.tmp 24) = .pointer (some ⟨s, 0, none⟩) := hin 24 4 ⟨4, .data⟩ (by kernel_rfl) (by simp) rfl rfl (show (24 : Nat) < 50 by decide)
      rw [if_neg (by decide)]
      refine .inl ⟨w', ?_, hc⟩
      show _ = Result.ok (Next.value (.pointer (some ⟨s, 0, none⟩))) w'
      simp [execOp, e0, hcst, go_sem]
    | 6, _ =>
      simp only [List.getElem?_toArray, List.getElem?_cons_zero, List.getElem?_cons_succ, Option.some.injEq] at hi
      subst hi
      have e0 : ev (.tmp 25) = .pointer (some ⟨s, 0, none⟩) := hin 25 5 ⟨5, .data⟩ (by kernel_rfl) (by simp) rfl rfl (show (25 : Nat) < 50 by decide)
      rw [if_neg (by decide)]
      refine .inl ⟨w', ?_, hc⟩
      show _ = Result.ok (Next.value (.pointer (some ⟨s, 2, none⟩))) w'
      simp [execOp, e0, hcst, go_sem]
    | 7, _ =>
      simp only [List.getElem?_toArray, List.getElem?_cons_zero, List.getElem?_cons_succ, Option.some.injEq] at hi
      subst hi
      have e0 : ev (.tmp 26) = .pointer (some ⟨s, 2, none⟩) := hin 26 6 ⟨6, .data⟩ (by kernel_rfl) (by simp) rfl rfl (show (26 : Nat) < 50 by decide)
      rw [if_neg (by decide)]
      refine .inl ⟨w', ?_, hc⟩
      show _ = Result.ok (Next.value (.int .i64 (first : Int))) w'
      have q := (cells.out f w' hc).2
      simp [execOp, e0, q, hcst, go_sem]
    | 8, _ =>
      simp only [List.getElem?_toArray, List.getElem?_cons_zero, List.getElem?_cons_succ, Option.some.injEq] at hi
      subst hi
      have e0 : ev (.tmp 1) = .int .i64 (at0 : Int) := hout 1 (by kernel_rfl) (show (1 : Nat) < 50 by decide)
      rw [if_neg (by decide)]
      refine .inl ⟨w', ?_, hc⟩
      show _ = Result.ok (Next.value (.int .i64 (at0 : Int))) w'
      simp [execOp, e0, hcst, go_sem]
    | 9, _ =>
      simp only [List.getElem?_toArray, List.getElem?_cons_zero, List.getElem?_cons_succ, Option.some.injEq] at hi
      subst hi
      have e0 : ev (.tmp 27) = .int .i64 (first : Int) := hin 27 7 ⟨7, .data⟩ (by kernel_rfl) (by simp) rfl rfl (show (27 : Nat) < 50 by decide)
      have e1 : ev (.tmp 28) = .int .i64 (at0 : Int) := hin 28 8 ⟨8, .data⟩ (by kernel_rfl) (by simp) rfl rfl (show (28 : Nat) < 50 by decide)
      rw [if_neg (by decide)]
      refine .inl ⟨w', ?_, hc⟩
      show _ = Result.ok (Next.value (.int .i64 (k : Int))) w'
      simp [execOp, e0, e1, hcst, go_sem, hwr]
    | 10, _ =>
      simp only [List.getElem?_toArray, List.getElem?_cons_zero, List.getElem?_cons_succ, Option.some.injEq] at hi
      subst hi
      have e0 : ev (.tmp 23) = .pointer (some ⟨d, 0, none⟩) := hin 23 3 ⟨3, .data⟩ (by kernel_rfl) (by simp) rfl rfl (show (23 : Nat) < 50 by decide)
      have e1 : ev (.tmp 29) = .int .i64 (k : Int) := hin 29 9 ⟨9, .data⟩ (by kernel_rfl) (by simp) rfl rfl (show (29 : Nat) < 50 by decide)
      rw [if_pos rfl]
      refine .inr (.inr ⟨57, #[.pointer (some ⟨d, 0, none⟩), .int .i64 (k : Int)], ?_, ?_⟩)
      · have ef := hfn 57
        simp [execOp, resolve, invoke, ef, hcst, e0, e1, Result.andThen]
        exact enter46 _ _
      · rw [hz rfl] at hc
        refine (cC.out w' hc).mono ?_
        rintro e w2 ⟨rfl, h2⟩
        exact ⟨rfl, h2⟩
    | 11, _ =>
      simp only [List.getElem?_toArray, List.getElem?_cons_zero, List.getElem?_cons_succ, Option.some.injEq] at hi
      subst hi
      have e0 : ev (.tmp 30) = .tuple #[rv, .int .i64 er] := hin 30 10 ⟨10, .data⟩ (by kernel_rfl) (by simp) rfl rfl (show (30 : Nat) < 50 by decide)
      rw [if_neg (by decide)]
      refine .inl ⟨w', ?_, hc⟩
      show _ = Result.ok (Next.value (.tuple #[rv, .int .i64 er])) w'
      simp [execOp, e0, hcst, go_sem]
    | 12, _ =>
      simp only [List.getElem?_toArray, List.getElem?_cons_zero, List.getElem?_cons_succ, Option.some.injEq] at hi
      subst hi
      have e0 : ev (.tmp 19) = .tuple #[rv, .int .i64 er] := hin 19 11 ⟨11, .data⟩ (by kernel_rfl) (by simp) rfl rfl (show (19 : Nat) < 50 by decide)
      rw [if_neg (by decide)]
      refine .inl ⟨w', ?_, hc⟩
      show _ = Result.ok (Next.value (rv)) w'
      simp [execOp, e0, hcst, go_sem]
    | 13, _ =>
      simp only [List.getElem?_toArray, List.getElem?_cons_zero, List.getElem?_cons_succ, Option.some.injEq] at hi
      subst hi
      have e0 : ev (.tmp 19) = .tuple #[rv, .int .i64 er] := hin 19 11 ⟨11, .data⟩ (by kernel_rfl) (by simp) rfl rfl (show (19 : Nat) < 50 by decide)
      rw [if_neg (by decide)]
      refine .inl ⟨w', ?_, hc⟩
      show _ = Result.ok (Next.value (.int .i64 er)) w'
      simp [execOp, e0, hcst, go_sem]
    | 14, _ =>
      simp only [List.getElem?_toArray, List.getElem?_cons_zero, List.getElem?_cons_succ, Option.some.injEq] at hi
      subst hi
      have e0 : ev (.tmp 31) = rv := hin 31 12 ⟨12, .data⟩ (by kernel_rfl) (by simp) rfl rfl (show (31 : Nat) < 50 by decide)
      rw [if_neg (by decide)]
      refine .inl ⟨w', ?_, hc⟩
      show _ = Result.ok (Next.value (rv)) w'
      simp [execOp, e0, hcst, go_sem]
    | 15, _ =>
      simp only [List.getElem?_toArray, List.getElem?_cons_zero, List.getElem?_cons_succ, Option.some.injEq] at hi
      subst hi
      have e0 : ev (.tmp 32) = .int .i64 er := hin 32 13 ⟨13, .data⟩ (by kernel_rfl) (by simp) rfl rfl (show (32 : Nat) < 50 by decide)
      rw [if_neg (by decide)]
      refine .inl ⟨w', ?_, hc⟩
      show _ = Result.ok (Next.value (.int .i64 er)) w'
      simp [execOp, e0, hcst, go_sem]
  · intro w7 hc
    simp only [lexF, Act.put, List.setIfInBounds_toArray, List.set_cons_succ, List.set_cons_zero, List.getD_cons_succ, List.getD_cons_zero]
    have T := hide (HE.out w7 hc)
    clear hwr
    clear hc cC cells DR HE
    rcases HCS.out with ⟨he, rfl, hi⟩ | ⟨g, lb, rfl, rfl, hi, hX⟩
    · have HI := hide hi
      clear hi
      rcases he with rfl | rfl
      · go_wp2
        go_ret2
        exact ⟨_, rfl, by rw [HI.out]; exact Row.nil _ _, HX.out X _ T.out.1 T.out.2.1, T.out.2.1⟩
      · go_wp2
        go_ret2
        exact ⟨_, rfl, by rw [HI.out]; exact Row.nil _ _, HX.out X _ T.out.1 T.out.2.1, T.out.2.1⟩
    · have EP := hide hi
      have cT := hide (list_cap take_is (some ⟨g, 0, none⟩) 384 384 lb (by omega) (by omega) w7 (hX w7 T.out.2.2))
      clear hi hX
      go_wp2_with fail
      refine cT.out.mono ?_
      rintro e w3 ⟨b3, hp3⟩
      have B3 := hide b3
      clear b3 cT
      cases hl : lst lb with
      | none =>
        rw [hl] at hp3
        simp only at hp3
        subst hp3
        have E : Hid (lsO lb = []) := by show _ = _; simp [lsO, hl]
        clear hl
        go_wp2
        go_ret2
        refine ⟨_, rfl, ?_, (HX.out X _ T.out.1 T.out.2.1).below B3.out, T.out.2.1.trans (Keep.of_below (F := []) B3.out) (by simp)⟩
        rw [EP.out, E.out]
        exact Row.nil _ _
      | some xs =>
        rw [hl] at hp3
        simp only at hp3
        obtain ⟨v, rfl, hv⟩ := hp3
        have E : Hid (lsO lb = xs) := by show _ = _; simp [lsO, hl]
        have HV := hide hv
        clear hl hv
        go_wp2
        go_ret2
        refine ⟨v, rfl, ?_, (HX.out X _ T.out.1 T.out.2.1).below B3.out, T.out.2.1.trans (Keep.of_below (F := []) B3.out) (by simp)⟩
        rw [EP.out, E.out]
        exact Row.mono (base := w7.heap.size) HV.out T.out.2.1.size
end Go.Proofs.YtbccnfbombgdmaaGreat

/- A guarded region whose world turns at several operations. -/
set_option linter.unusedVariables false
set_option linter.unusedSimpArgs false
namespace Go.Proofs.YtbccnfbombgdmaaGreat
open Go.RowKit
variable {P : Program} {ops : Array Oper} {Q : Exit → Act → World → Prop} {md : Region.Mode}
/-- Does an operation wait for another one? -/
def edgeOf (ops : Array Oper) (j k : Nat) : Bool := match ops[j]? with
  | some o => o.after.any fun e => e.on == k && Region.binds .any e
  | none => false
/-- A guarded region; what is known of the world hangs on what has been done. -/
theorem wp_region_gl {id : Nat} {a0 : Act} {w : World} (hm : P.follows .mixedOrders = true) (hp : guardRegion ops = true) (V : Nat → Value) (C : Array Bool → World → Prop)
    (hsz : ∀ (i : Nat) (o : Oper) (t : Nat), ops[i]? = some o → o.dst = some t → t < a0.tmps.size)
    (hC0 : C (Array.replicate ops.size false) { w with drawn := w.drawn + 1 })
    (hops : ∀ (i : Nat) (o : Oper), ops[i]? = some o → ∀ (listed : Array Bool) (w' : World) (ev : Operand → Value), listed.size = ops.size → C listed w' → listed.getD i false = false → (∀ k, edgeOf ops i k = true → listed.getD k false = true) → (∀ j k, edgeOf ops j k = true → listed.getD j false = true → listed.getD k false = true) →
      (∀ t j e, ownOf ops t = some j → e ∈ o.after.toList → Region.binds .any e = true → e.on = j → t < a0.tmps.size → ev (.tmp t) = V j) →
      (∀ t, ownOf ops t = none → t < a0.tmps.size → ev (.tmp t) = a0.eval (.tmp t)) → (∀ v, ev (.const v) = v) → (∀ f, ev (.func f) = .func (.func f) #[] #[]) →
      if wantV V o = true then OpRuns P ev o (V i) w' (C (listed.setIfInBounds i true)) else V i = undef ∧ C (listed.setIfInBounds i true) w')
    (hend : ∀ w', C (Array.replicate ops.size true) w' → Q .normal (lexF V 0 ops.toList a0) w') : (Code.region id ops true).wp P Q a0 w := by
  refine wp_region_any hm ?_
  refine wpAny_by (fun listed a w' => listed.size = ops.size ∧ a = frameOf (ownOf ops) V a0 listed ∧ (∀ j k, edgeOf ops j k = true → listed.getD j false = true → listed.getD k false = true) ∧ C listed w') ?_ ?_ _ _ _ _ ⟨by simp, (frame_none _ _ _ _).symm, fun j k _ hj => by simp only [Array.getD_eq_getD_getElem?, Array.getElem?_replicate] at hj; split at hj <;> simp at hj, hC0⟩ ?_
  · rintro listed a w' ⟨hs, rfl, hcl, hc⟩ hr
    have := all_listed_g hs hp hr
    subst this
    rw [frame_lex_g hp]
    exact hend w' hc
  · rintro listed a w' ⟨hs, rfl, hcl, hc⟩ i hi
    obtain ⟨hlt, hfree, haft⟩ := ready_free hi
    have ho : ops[i]? = some ops[i] := Array.getElem?_eq_getElem hlt
    have hpi := List.all_eq_true.1 hp i (List.mem_range.2 hlt)
    rw [ho] at hpi
    simp only [Bool.and_eq_true] at hpi
    rw [ho] at haft
    simp only [Option.map_some, Option.getD_some] at haft
    have hbind : ∀ e ∈ (ops[i]).after.toList, Region.binds .any e = true → listed.getD e.on false = true := by
      intro e he hb
      obtain ⟨j, hj, hje⟩ := List.getElem_of_mem he
      have hx := (Array.all_eq_true.1 haft) j (by simpa using hj)
      have hje' : (ops[i]).after[j]'(by simpa using hj) = e := by simpa using hje
      rw [hje', hb] at hx
      simpa using hx
    have hdir : ∀ k, edgeOf ops i k = true → listed.getD k false = true := by
      intro k hk
      unfold edgeOf at hk
      rw [ho] at hk
      obtain ⟨x, hx, hxe⟩ := Array.any_eq_true.1 hk
      simp only [Bool.and_eq_true, beq_iff_eq] at hxe
      have := hbind ((ops[i]).after[x]) (by simp) hxe.2
      rw [hxe.1] at this
      exact this
    have hcl' : ∀ j k, edgeOf ops j k = true → (listed.setIfInBounds i true).getD j false = true → (listed.setIfInBounds i true).getD k false = true := by
      intro j k hjk hj
      rw [getD_set _ _ _ (by omega)] at hj ⊢
      split
      · rfl
      · by_cases h : j = i
        · subst h; exact hdir k hjk
        · rw [if_neg h] at hj; exact hcl j k hjk hj
    have hrun := hops i ops[i] ho listed w' (frameOf (ownOf ops) V a0 listed).eval hs hc (by
      simp only [Array.getD_eq_getD_getElem?] at hfree ⊢
      rw [Array.getElem?_eq_getElem (by omega)] at hfree ⊢
      simpa using hfree) hdir hcl
      (fun t j e hown he hb hej ht => by rw [frame_eval _ _ _ _ _ ht]; unfold pickSlot; rw [hown]; simp only; rw [if_pos (hej ▸ hbind e he hb)])
      (fun t hown ht => by rw [frame_eval _ _ _ _ _ ht]; unfold pickSlot; rw [hown]) (fun v => rfl) (fun f => rfl)
    have hw : Region.wanted ops[i] (yielded ops (frameOf (ownOf ops) V a0 listed).tmps) = wantV V ops[i] := by
      have hg := hpi.1.2
      unfold Region.wanted wantV
      cases hgd : ops[i].guard with
      | none => rfl
      | some p =>
        obtain ⟨j, b⟩ := p
        rw [hgd] at hg
        simp only [Bool.and_eq_true] at hg
        obtain ⟨hany, hdst⟩ := hg
        obtain ⟨x, hx, hxe⟩ := Array.any_eq_true.1 hany
        simp only [Bool.and_eq_true, beq_iff_eq] at hxe
        have hl : listed.getD j false = true := by
          have := hbind ((ops[i]).after[x]) (by simp) hxe.2
          rw [hxe.1] at this
          exact this
        obtain ⟨t, ht⟩ := Option.isSome_iff_exists.1 hdst
        have hoj : ∃ oj, ops[j]? = some oj := by
          cases h : ops[j]? with
          | none => rw [h] at ht; cases ht
          | some oj => exact ⟨oj, rfl⟩
        obtain ⟨oj, hoj⟩ := hoj
        have hdj : oj.dst = some t := by rw [hoj] at ht; exact ht
        have hjlt : j < ops.size := (Array.getElem?_eq_some_iff.1 hoj).1
        have hpj := List.all_eq_true.1 hp j (List.mem_range.2 hjlt)
        rw [hoj] at hpj
        simp only [Bool.and_eq_true] at hpj
        have hown : ownOf ops t = some j := by
          have := hpj.2
          rw [hdj] at this
          simpa using this
        have htl := hsz j oj t hoj hdj
        have hy : yielded ops (frameOf (ownOf ops) V a0 listed).tmps j = match V j with | .bool c => some c | _ => none := by
          unfold yielded
          rw [hoj]
          simp only [Option.bind_some, hdj]
          rw [frame_get, Array.getElem?_eq_getElem htl]
          simp only [Option.map_some]
          unfold pickSlot
          rw [hown]
          simp only [hl, if_true]
          cases V j <;> rfl
        simp only [hy]
        cases V j <;> simp
    have hput : (frameOf (ownOf ops) V a0 listed).put ops[i].dst (V i) = frameOf (ownOf ops) V a0 (listed.setIfInBounds i true) := by
      cases hd : ops[i].dst with
      | none =>
        exact frame_skip (by omega) (fun s hs' => by
          have := ownOf_back hs'
          rw [ho] at this
          simp [hd] at this)
      | some t =>
        have hown : ownOf ops t = some i := by
          have := hpi.2
          rw [hd] at this
          simpa using this
        exact frame_put (by omega) hown (fun s hs' => by
          have := ownOf_back hs'
          rw [ho] at this
          simp [hd] at this
          exact this.symm)
    unfold wpOp
    rw [ho]
    simp only [hw]
    by_cases hwv : wantV V ops[i] = true
    · rw [if_pos hwv] at hrun
      rw [hwv]
      simp only [if_true]
      left
      unfold Oper.wp
      rcases hrun with ⟨w2, hr, hc2⟩ | ⟨hv, w2, hr, hc2⟩ | ⟨f, args, hr, hcalls⟩
      · rw [hr]
        exact ⟨by simpa using hs, hput, hcl', hc2⟩
      · rw [hr]
        rw [hv] at hput
        exact ⟨by simpa using hs, hput, hcl', hc2⟩
      · rw [hr]
        refine hcalls.mono ?_
        rintro e w2 ⟨rfl, hc2⟩
        exact ⟨by simpa using hs, hput, hcl', hc2⟩
    · rw [if_neg hwv] at hrun
      have hwf : wantV V ops[i] = false := by simpa using hwv
      rw [hwf]
      rw [hrun.1] at hput
      simp only [Bool.false_eq_true, if_false]
      exact ⟨by simpa using hs, hput, hcl', hrun.2⟩
  · unfold todo
    simp

end Go.Proofs.YtbccnfbombgdmaaGreat

/- A key's bucket; a page is written; a store that is done. -/
set_option linter.unusedVariables false
set_option linter.unusedSimpArgs false
set_option maxRecDepth 8000
namespace Go.Proofs.YtbccnfbombgdmaaGreat
open Go.RowKit Go.Deep Math
variable {w0 W W' : World} {d s : Nat} {F F' : List Nat} {S S' : Dv} {L : Int} {first : Nat} {M : SM}

set_option maxHeartbeats 1000000 in
/-- Behind a loss of power. -/
theorem list_done (h : Bk w0 W d F S s L first M) (hL : S.losses ≠ L) (at0 : Int) :
    Calls Tryz.prog 30 #[.pointer (some ⟨s, 0, none⟩), .int .i64 at0] W fun e W' => e = .returned (.tuple #[.slice none 0 0, .int .i64 4]) ∧ Below W.heap.size W W' := by
  have c0 := h.st.box.cell (i := 0) rfl
  have c1 := h.st.box.cell (i := 1) rfl
  have hne : (S.losses != L) = true := by simpa using hL
  have cL : Hid (∀ V : World, V.heap = W.heap → Calls Tryz.prog 24 #[.pointer (some ⟨d, 0, none⟩)] V fun e w' => e = .returned (.int .i64 S.losses) ∧ w' = V) := fun V hV => losses_at (h.law.dev.same (fun _ _ => by rw [hV]))
  clear h
  go_enter Tryz.func30, Tryz.ntmps30
  go_wp2_with fail
  go_quiet (first | (go_at_call 24; refine Calls.quiet_of_same (cL.out _ ?_); rfl))
  go_wp2
  go_ret2
  exact ⟨rfl, below_q2 W nq⟩

/-- Which of the pages is a key's. -/
def bkt (key : List UInt8) (n : Nat) : Nat := (Bl.hashK (txt key) % (n : Int)).toNat
theorem bkt_lt (key : List UInt8) (n : Nat) (hn : 0 < n) : bkt key n < n := by
  unfold bkt
  have h1 := Int.emod_nonneg (Bl.hashK (txt key)) (show (n : Int) ≠ 0 by omega)
  have h2 := Int.emod_lt_of_pos (Bl.hashK (txt key)) (show (0 : Int) < n by omega)
  omega
set_option maxHeartbeats 1000000 in
theorem bucket_any (h : StIn W s d L first M) (key : List UInt8) (hk : key.length ≤ maxLen) (h1 : 0 < M.fs.length) (h2 : M.fs.length ≤ 1000) :
    Calls Tryz.prog 29 #[.pointer (some ⟨s, 0, none⟩), .string (txt key)] W fun e W' => e = .returned (.int .i64 (bkt key M.fs.length : Nat)) ∧ ∃ q, W' = W.drewN q := by
  have c3 := h.box.cell (i := 3) rfl
  obtain ⟨n, hn⟩ : ∃ n, n = M.fs.length := ⟨_, rfl⟩
  rw [← hn] at c3 h1 h2 ⊢
  have cH : Hid (∀ V : World, Calls Tryz.prog 63 #[.string (txt key)] V fun e w' => e = .returned (.int .u64 (Bl.hashK (txt key))) ∧ w' = V) := fun V => Bl.hash_any (txt key) V (by rw [txt_size]; exact hk)
  obtain ⟨H, hH⟩ : ∃ H, H = Bl.hashK (txt key) := ⟨_, rfl⟩
  have hr := Bl.hashK_range (txt key)
  have hb : (bkt key n : Int) = H % (n : Int) := by
    rw [hH]
    unfold bkt
    have := Int.emod_nonneg (Bl.hashK (txt key)) (show (n : Int) ≠ 0 by omega)
    omega
  have hbl := bkt_lt key n h1
  rw [← hH] at cH hr
  have HB : Hid (wrap64 (H % (n : Int)) = (bkt key n : Int)) := by show _ = _; rw [← hb]; unfold wrap64; omega
  have hn0 : ¬ ((n : Int) = 0) := by omega
  have hr0 := hr.1
  have hr1 := hr.2
  have hw1 : IntKind.u64.wrap (n : Int) = (n : Int) := by rw [IntKind.wrap_u64]; omega
  clear hb hr h hn hH hk
  go_enter Tryz.func29, Tryz.ntmps29
  go_wp2_with fail
  go_quiet (first | (go_at_call 63; refine Calls.quiet_of_same (cH.out _)))
  go_wp2
  go_ret
  exact ⟨congrArg (fun z => Ending.returned (.int .i64 z)) HB.out, _, rfl⟩
end Go.Proofs.YtbccnfbombgdmaaGreat
