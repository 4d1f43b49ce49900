/- Joined texts. -/
import Derived.Deep.RegionHeld3
import Derived.Test.YtcdghalnneilpaaGreatR20
set_option linter.unusedVariables false
set_option linter.unusedSimpArgs false
set_option maxRecDepth 8000
set_option maxHeartbeats 8000000
namespace Go.Proofs.YtcdghalnneilpaaGreat
open Go.RowKit Go.Deep Math
structure FB where
 f : Nat
 s : Nat
 l : List Bool
structure SM where
 a : Option Addr
 cap : Nat
 fs : List FB
def SM.foot (M : SM) (s : Nat) : List Nat := s :: ((M.a.map (·.block)).toList ++ M.fs.flatMap (fun x => [x.f, x.s]))
def SM.ptrs (M : SM) : List Value := M.fs.map fun x => .pointer (some ⟨x.f, 0, none⟩)
structure StIn (W : World) (s d : Nat) (L : Int) (first : Nat) (M : SM) : Prop where
 box : Blk W s [.pointer (some ⟨d, 0, none⟩), .int .i64 L, .int .i64 (first : Int), .slice M.a M.fs.length M.cap] 210
 row : W.ownsRow 0 207 1 (.slice M.a M.fs.length M.cap) M.fs.length M.ptrs
 flt : ∀ x ∈ M.fs, Bl.FltIn W x.f x.s x.l 3 /\ x.l.length = 256
 nd : (M.fs.map (·.s)).Nodup
theorem SM.mem_f {M : SM} {s : Nat} {x : FB} (h : x ∈ M.fs) : x.f ∈ M.foot s /\ x.s ∈ M.foot s := by
 unfold SM.foot
 simp only [List.mem_cons, List.mem_append, List.mem_flatMap]
 exact ⟨.inr (.inr ⟨x, h, by simp⟩), .inr (.inr ⟨x, h, by simp⟩)⟩
theorem SM.mem_s {M : SM} {s : Nat} : s ∈ M.foot s := by simp [SM.foot]
theorem SM.mem_a {M : SM} {s : Nat} {a : Addr} (h : M.a = some a) : a.block ∈ M.foot s := by simp [SM.foot, h]
theorem SM.foot_inv {M : SM} {s b : Nat} (h : b ∈ M.foot s) : b = s \/ (∃ a, M.a = some a /\ b = a.block) \/ ∃ x ∈ M.fs, b = x.f \/ b = x.s := by
 unfold SM.foot at h
 simp only [List.mem_cons, List.mem_append, List.mem_flatMap] at h
 rcases h with h | h | ⟨x, hx, h⟩
 ·exact .inl h
 ·cases ha : M.a with
  | none => rw [ha] at h; simp at h
  | some a => rw [ha] at h; simp at h; exact .inr (.inl ⟨a, rfl, h⟩)
 ·simp at h; exact .inr (.inr ⟨x, hx, h⟩)
theorem StIn.form {W : World} {s d : Nat} {L : Int} {first : Nat} {M : SM} (h : StIn W s d L first M) : (M.a = none /\ M.fs = []) \/ ∃ q cur, M.a = some ⟨q, 0, none⟩ /\ W.heap[q]? = some (.cells cur 207 (0, 0)) /\ M.fs.length <= M.cap /\ cur.toList.take M.fs.length = M.ptrs := by
 rcases h.row.2 with ⟨hv, h0⟩ | ⟨g, cap, cur, hv, hb, hh, hc, hm, hs, ht⟩
 ·simp at hv; exact .inl ⟨hv.1, List.eq_nil_of_length_eq_zero h0⟩
 ·simp only [Value.slice.injEq] at hv
  obtain ⟨h1, _, h3⟩ := hv
  subst h3
  exact .inr ⟨g, cur, h1, hh, hc, by simpa using ht⟩
theorem StIn.lt {W : World} {s d : Nat} {L : Int} {first : Nat} {M : SM} (h : StIn W s d L first M) : ∀ b ∈ M.foot s, b < W.heap.size := by
 intro b hb
 rcases SM.foot_inv hb with rfl | ⟨a, ha, rfl⟩ | ⟨x, hx, rfl | rfl⟩
 ·exact h.box.lt
 ·rcases h.form with ⟨h1, _⟩ | ⟨q, cur, h1, h2, _⟩
  ·rw [h1] at ha; cases ha
  ·rw [h1] at ha; cases ha; exact (Array.getElem?_eq_some_iff.1 h2).1
 ·exact (h.flt x hx).1.own.lt
 ·exact (h.flt x hx).1.row.lt
theorem row67_keep {W W' : World} {base : Nat} {e : TypeId} {size : Nat} {v : Value} {n : Nat} {xs : List Value} (h : W.ownsRow base e size v n xs) (k : ∀ q, v.ownBlock = some q -> W'.heap[q]? = W.heap[q]?) : W'.ownsRow base e size v n xs := by
 refine ⟨h.1, ?_⟩
 rcases h.2 with h2 | ⟨g, cap, cur, hv, hg, hh, r⟩
 ·exact .inl h2
 ·exact .inr ⟨g, cap, cur, hv, hg, by rw [k g (by rw [hv]; rfl)]; exact hh, r⟩
theorem StIn.same {W W' : World} {s d : Nat} {L : Int} {first : Nat} {M : SM} (h : StIn W s d L first M) (k : ∀ b ∈ M.foot s, W'.heap[b]? = W.heap[b]?) : StIn W' s d L first M :=
 ⟨h.box.same (k s SM.mem_s), row67_keep h.row (fun q hq => by
  cases ha : M.a with
  | none => rw [ha] at hq; simp [Value.ownBlock] at hq
  | some a => rw [ha] at hq; simp [Value.ownBlock] at hq; rw [<- hq]; exact k _ (SM.mem_a ha)), fun x hx => ⟨(h.flt x hx).1.same (k _ (SM.mem_f hx).1) (k _ (SM.mem_f hx).2), (h.flt x hx).2⟩, h.nd⟩
structure Bk (w0 W : World) (d : Nat) (F : List Nat) (S : Dv) (s : Nat) (L : Int) (first : Nat) (M : SM) : Prop where
 law : Law w0 d F S W
 st : StIn W s d L first M
 new : ∀ b ∈ M.foot s, w0.heap.size <= b
 off : ∀ b ∈ M.foot s, b ∉ F
variable {w0 W W' : World} {d s : Nat} {F F' : List Nat} {S S' : Dv} {L : Int} {first : Nat} {M : SM}
theorem Bk.move (h : Bk w0 W d F S s L first M) (hd : DvAt W' d F' S') (m : Moves F F' W W') : Bk w0 W' d F' S' s L first M :=
 ⟨h.law.move hd m, h.st.same (fun b hb => m.keep.block b (h.st.lt b hb) (h.off b hb)), h.new, fun b hb hf => by
  rcases m.foot b hf with h1 | h1
  ·exact h.off b hb h1
  ·have := h.st.lt b hb; omega⟩
theorem Bk.below (h : Bk w0 W d F S s L first M) (b : Below W.heap.size W W') : Bk w0 W' d F S s L first M := h.move (h.law.dev.below b) (Moves.of_keep (Keep.of_below b))
theorem Bk.keep (h : Bk w0 W d F S s L first M) {G : List Nat} (k : Keep G W W') (hF : ∀ b ∈ G, b ∉ F /\ b ∉ M.foot s /\ w0.heap.size <= b) : Bk w0 W' d F S s L first M :=
 ⟨⟨h.law.dev.same (fun b hb => k.block b (h.law.dev.lt b hb) (fun hg => (hF b hg).1 hb)), h.law.low, h.law.bel.trans (k.below (fun b hb => (hF b hb).2.2) h.law.bel.size)⟩, h.st.same (fun b hb => k.block b (h.st.lt b hb) (fun hg => (hF b hg).2.1 hb)), h.new, h.off⟩
def Pg.its : Pg -> List It
 | ⟨some (some b)⟩ => lsO (full b).data.toList
 | _ => []
theorem Pg.its_all (p : Pg) (hp : p.fits) : total p.its <= 384 /\ ∀ x ∈ p.its, x.fits /\ x.good = true := by
 rcases p with ⟨_ | _ | b⟩
 ·simp [Pg.its, total]
 ·simp [Pg.its, total]
 ·have := lsO_all (full b).data.toList
  have h2 : (full b).data.toList.length = 384 := by rw [Array.length_toList]; exact full_size b hp
  rw [h2] at this
  exact this
theorem below_q2 (W : World) (n : Nat) : Below W.heap.size W (W.drewN n) := ⟨rfl, rfl, rfl, Nat.le_refl _, fun _ _ => rfl⟩
theorem keep_q {F : List Nat} (W : World) (n : Nat) : Keep F W (W.drewN n) := Keep.of_below (below_q2 W n)
theorem entb46 (args : Array Value) (w : World) : (callFunc 99 args).run Tryz.prog w = .ok (.enter 99 args) w := enters_of Tryz.func99 (by kernel_rfl) rfl args w
theorem list_ok (h : Bk w0 W d F S s L first M) (hL : L = S.losses) (hoff : S.off = false) (at0 : Nat) (c : Cl) (hk : S.cs[first + at0]? = some c) :
  Calls Tryz.prog 148 #[.pointer (some ⟨s, 0, none⟩), .int .i64 at0] W fun e W' => ∃ v, e = .returned (.tuple #[v, .int .i64 0]) /\ Row W' W.heap.size v c.now.its /\ Bk w0 W' d F (S.readDo (first + at0 : Nat)) s L first M /\ Keep F W W' := by
 have c0 := h.st.box.cell (i := 0) rfl
 have c1 := h.st.box.cell (i := 1) rfl
 have hm := h.law.dev.good.many
 have hlt := (List.getElem?_eq_some_iff.1 hk).1
 have cL : Hid (∀ V : World, V.heap = W.heap -> Calls Tryz.prog 48 #[.pointer (some ⟨d, 0, none⟩)] V fun e w' => e = .returned (.int .i64 L) /\ w' = V) := fun V hV => by
  rw [hL]; exact losses_at (h.law.dev.same (fun _ _ => by rw [hV]))
 have H := hide h
 have hkb : first + at0 <= 4096 := by omega
 obtain ⟨k, hkk⟩ : ∃ k, k = first + at0 := ⟨_, rfl⟩
 have e1 : (first : Int) + (at0 : Int) = (k : Int) := by omega
 rw [<- hkk] at hk hkb ⊢
 have hx1 : first <= 4096 := by omega
 have hwr : IntKind.i64.wrap ((first : Int) + (at0 : Int)) = (k : Int) := by rw [IntKind.wrap_i64, e1]; omega
 have hx2 : at0 <= 4096 := by omega
 have HX : Hid (∀ (P : World -> Prop) (w' : World), DvAt w' d F (S.readDo (k : Nat)) -> Keep F W w' -> Bk w0 w' d F (S.readDo (k : Nat)) s L first M) := fun P w' h1 h2 => H.out.move h1 (Moves.of_keep h2)
 obtain ⟨rv, er, X, cR, hcs⟩ : ∃ (rv : Value) (er : Int) (X : World -> Prop), Hid (∀ q, Calls Tryz.prog 99 #[.pointer (some ⟨d, 0, none⟩), .int .i64 (k : Nat)] (W.drewN q) fun e w' => e = .returned (.tuple #[rv, .int .i64 er]) /\ DvAt w' d F (S.readDo (k : Nat)) /\ Keep F W w' /\ X w') /\
   (((er = 5 \/ er = 6) /\ rv = .slice none 0 0 /\ c.now.its = []) \/ ∃ g lb, er = 0 /\ rv = .slice (some ⟨g, 0, none⟩) 384 384 /\ c.now.its = lsO lb /\ ∀ w', X w' -> BS w' (some ⟨g, 0, none⟩) 384 384 lb) := by
  have hdv : ∀ q, DvAt (W.drewN q) d F S := fun q => h.law.dev.same (fun _ _ => rfl)
  rcases hp : c.now with ⟨_ | _ | b⟩
  ·refine ⟨_, 5, fun _ => True, fun q => (read_bare hk hoff hp (e0 := 5) rfl (by omega) (W.drewN q) (hdv q)).mono ?_, .inl ⟨.inl rfl, rfl, rfl⟩⟩
   rintro e w2 ⟨rfl, h2, k2⟩
   exact ⟨rfl, h2, (keep_q (F := F) W q).trans k2 (fun x hx => .inl hx), trivial⟩
  ·refine ⟨_, 6, fun _ => True, fun q => (read_bare hk hoff hp (e0 := 6) rfl (by omega) (W.drewN q) (hdv q)).mono ?_, .inl ⟨.inr rfl, rfl, rfl⟩⟩
   rintro e w2 ⟨rfl, h2, k2⟩
   exact ⟨rfl, h2, (keep_q (F := F) W q).trans k2 (fun x hx => .inl hx), trivial⟩
  ·refine ⟨_, 0, fun w' => BS w' (some ⟨W.heap.size + 1, 0, none⟩) 384 384 (full b).data.toList, fun q => (read_whole hk hoff hp (W.drewN q) (hdv q)).mono ?_, .inr ⟨W.heap.size + 1, _, rfl, rfl, rfl, fun w' h => h⟩⟩
   rintro e w2 ⟨rfl, hb, h2, k2⟩
   exact ⟨rfl, h2, (keep_q (F := F) W q).trans k2 (fun x hx => .inl hx), hb⟩
 have HCS := hide hcs
 clear h hlt hm hkk hL hk hoff hcs
 go_enter Tryz.func148, Tryz.ntmps148
 go_wp2_with fail
 go_quiet (first | (go_at_call 48; refine Calls.quiet_of_same (cL.out _ ?_); rfl))
 go_wp2_with fail
 obtain ⟨CC, hCC⟩ : ∃ CC : Bool -> World -> Prop, CC = fun f w' => match f with
   | false => w' = W.drewN (nq + 1)
   | true => DvAt w' d F (S.readDo (k : Nat)) /\ Keep F W w' /\ X w' := ⟨_, rfl⟩
 have DR : Hid (CC false { W.drewN nq with drawn := (W.drewN nq).drawn + 1 }) := by show CC false _; rw [hCC]; rfl
 have cC : Hid (∀ w', CC false w' -> Calls Tryz.prog 99 #[.pointer (some ⟨d, 0, none⟩), .int .i64 (k : Nat)] w' fun e w' => e = .returned (.tuple #[rv, .int .i64 er]) /\ CC true w') := fun w' hw => by
  rw [hCC] at hw ⊢
  simp only at hw
  subst hw
  exact cR.out _
 have cells : Hid (∀ f w', CC f w' -> w'.cell? ⟨s, 0, none⟩ = some (.pointer (some ⟨d, 0, none⟩)) /\ w'.cell? ⟨s, 2, none⟩ = some (.int .i64 (first : Int))) := fun f w' hw => by
  rw [hCC] at hw
  cases f with
  | false =>
   simp only at hw
   subst hw
   exact ⟨H.out.st.box.cell (i := 0) rfl, H.out.st.box.cell (i := 2) rfl⟩
  | true =>
   have := (HX.out X w' hw.1 hw.2.1).st.box
   exact ⟨this.cell (i := 0) rfl, this.cell (i := 2) rfl⟩
 have HE : Hid (∀ w', CC true w' -> DvAt w' d F (S.readDo (k : Nat)) /\ Keep F W w' /\ X w') := fun w' hw => by rw [hCC] at hw; exact hw
 clear hCC c0 c1 cL cR
 refine wp_region_turn (by kernel_rfl) (by kernel_rfl) (fun i => ([.pointer (some ⟨s, 0, none⟩), .pointer (some ⟨s, 0, none⟩), .pointer (some ⟨s, 0, none⟩), .pointer (some ⟨d, 0, none⟩), .pointer (some ⟨s, 0, none⟩), .pointer (some ⟨s, 0, none⟩), .pointer (some ⟨s, 2, none⟩), .int .i64 (first : Int), .int .i64 (at0 : Int), .int .i64 (k : Int), .tuple #[rv, .int .i64 er], .tuple #[rv, .int .i64 er], rv, .int .i64 er, rv, .int .i64 er] : List Value).getD i undef) 10 (by decide) (CC) (DR.out) ?_ ?_
 ·intro i o hi f w' ev hc hz hin hout hcst hfn
  have hlt : i < 16 := by
   have := (Array.getElem?_eq_some_iff.1 hi).1
   simpa using this
  match i, hlt with
  | 0, _ =>
   cases hi
   have e0 : ev (.tmp 0) = .pointer (some ⟨s, 0, none⟩) := hout 0
   rw [if_neg (by decide)]
   refine .inl ⟨w', ?_, hc⟩
   simp [execOp, e0, hcst, go_sem]
  | 1, _ =>
   cases hi
   have e0 : ev (.tmp 20) = .pointer (some ⟨s, 0, none⟩) := hin 20 0 ⟨0, .data⟩
   rw [if_neg (by decide)]
   refine .inl ⟨w', ?_, hc⟩
   simp [execOp, e0, hcst, go_sem]
  | 2, _ =>
   cases hi
   have e0 : ev (.tmp 21) = .pointer (some ⟨s, 0, none⟩) := hin 21 1 ⟨1, .data⟩
   rw [if_neg (by decide)]
   refine .inl ⟨w', ?_, hc⟩
   simp [execOp, e0, hcst, go_sem]
  | 3, _ =>
   cases hi
   have e0 : ev (.tmp 22) = .pointer (some ⟨s, 0, none⟩) := hin 22 2 ⟨2, .data⟩
   rw [if_neg (by decide)]
   refine .inl ⟨w', ?_, hc⟩
   show _ = Result.ok (Next.value (.pointer (some ⟨d, 0, none⟩))) w'
   have q := (cells.out f w' hc).1
   simp [execOp, e0, q, hcst, go_sem]
  | 4, _ =>
   cases hi
   have e0 : ev (.tmp 0) = .pointer (some ⟨s, 0, none⟩) := hout 0
   rw [if_neg (by decide)]
   refine .inl ⟨w', ?_, hc⟩
   simp [execOp, e0, hcst, go_sem]
  | 5, _ =>
   cases hi
   have e0 : ev (.tmp 24) = .pointer (some ⟨s, 0, none⟩) := hin 24 4 ⟨4, .data⟩
   rw [if_neg (by decide)]
   refine .inl ⟨w', ?_, hc⟩
   simp [execOp, e0, hcst, go_sem]
  | 6, _ =>
   cases hi
   have e0 : ev (.tmp 25) = .pointer (some ⟨s, 0, none⟩) := hin 25 5 ⟨5, .data⟩
   rw [if_neg (by decide)]
   refine .inl ⟨w', ?_, hc⟩
   simp [execOp, e0, hcst, go_sem]
  | 7, _ =>
   cases hi
   have e0 : ev (.tmp 26) = .pointer (some ⟨s, 2, none⟩) := hin 26 6 ⟨6, .data⟩
   rw [if_neg (by decide)]
   refine .inl ⟨w', ?_, hc⟩
   show _ = Result.ok (Next.value (.int .i64 (first : Int))) w'
   have q := (cells.out f w' hc).2
   simp [execOp, e0, q, hcst, go_sem]
  | 8, _ =>
   cases hi
   have e0 : ev (.tmp 1) = .int .i64 (at0 : Int) := hout 1
   rw [if_neg (by decide)]
   refine .inl ⟨w', ?_, hc⟩
   simp [execOp, e0, hcst, go_sem]
  | 9, _ =>
   cases hi
   have e0 : ev (.tmp 27) = .int .i64 (first : Int) := hin 27 7 ⟨7, .data⟩
   have e1 : ev (.tmp 28) = .int .i64 (at0 : Int) := hin 28 8 ⟨8, .data⟩
   rw [if_neg (by decide)]
   refine .inl ⟨w', ?_, hc⟩
   simp [execOp, e0, e1, hcst, go_sem, hwr]
  | 10, _ =>
   cases hi
   have e0 : ev (.tmp 23) = .pointer (some ⟨d, 0, none⟩) := hin 23 3 ⟨3, .data⟩
   have e1 : ev (.tmp 29) = .int .i64 (k : Int) := hin 29 9 ⟨9, .data⟩
   rw [if_pos rfl]
   refine .inr (.inr ⟨99, #[.pointer (some ⟨d, 0, none⟩), .int .i64 (k : Int)], ?_, ?_⟩)
   ·have ef := hfn 99
    simp [execOp, resolve, invoke, ef, hcst, e0, e1, Result.andThen]
    exact entb46 _ _
   ·rw [hz rfl] at hc
    refine (cC.out w' hc).mono ?_
    rintro e w2 ⟨rfl, h2⟩
    exact ⟨rfl, h2⟩
  | 11, _ =>
   cases hi
   have e0 : ev (.tmp 30) = .tuple #[rv, .int .i64 er] := hin 30 10 ⟨10, .data⟩
   rw [if_neg (by decide)]
   refine .inl ⟨w', ?_, hc⟩
   simp [execOp, e0, hcst, go_sem]
  | 12, _ =>
   cases hi
   have e0 : ev (.tmp 19) = .tuple #[rv, .int .i64 er] := hin 19 11 ⟨11, .data⟩
   rw [if_neg (by decide)]
   refine .inl ⟨w', ?_, hc⟩
   simp [execOp, e0, hcst, go_sem]
  | 13, _ =>
   cases hi
   have e0 : ev (.tmp 19) = .tuple #[rv, .int .i64 er] := hin 19 11 ⟨11, .data⟩
   rw [if_neg (by decide)]
   refine .inl ⟨w', ?_, hc⟩
   simp [execOp, e0, hcst, go_sem]
  | 14, _ =>
   cases hi
   have e0 : ev (.tmp 31) = rv := hin 31 12 ⟨12, .data⟩
   rw [if_neg (by decide)]
   refine .inl ⟨w', ?_, hc⟩
   simp [execOp, e0, hcst, go_sem]
  | 15, _ =>
   cases hi
   have e0 : ev (.tmp 32) = .int .i64 er := hin 32 13 ⟨13, .data⟩
   rw [if_neg (by decide)]
   refine .inl ⟨w', ?_, hc⟩
   simp [execOp, e0, hcst, go_sem]
 ·intro w7 hc
  simp only [lexF, Act.put, List.setIfInBounds_toArray, List.set_cons_succ, List.set_cons_zero, List.getD_cons_succ, List.getD_cons_zero]
  have T := hide (HE.out w7 hc)
  clear hwr
  clear hc cC cells DR HE
  rcases HCS.out with ⟨he, rfl, hi⟩ | ⟨g, lb, rfl, rfl, hi, hX⟩
  ·have HI := hide hi
   clear hi
   rcases he with rfl | rfl
   ·go_wp2
    go_ret2
    exact ⟨_, rfl, by rw [HI.out]; exact Row.nil _ _, HX.out X _ T.out.1 T.out.2.1, T.out.2.1⟩
   ·go_wp2
    go_ret2
    exact ⟨_, rfl, by rw [HI.out]; exact Row.nil _ _, HX.out X _ T.out.1 T.out.2.1, T.out.2.1⟩
  ·have EP := hide hi
   have cT := hide (list_cap take_is (some ⟨g, 0, none⟩) 384 384 lb (by omega) (by omega) w7 (hX w7 T.out.2.2))
   clear hi hX
   go_wp2_with fail
   refine cT.out.mono ?_
   rintro e w3 ⟨b3, hp3⟩
   have B3 := hide b3
   clear b3 cT
   cases hl : lst lb with
   | none =>
    rw [hl] at hp3
    simp only at hp3
    subst hp3
    have E : Hid (lsO lb = []) := by show _ = _; simp [lsO, hl]
    clear hl
    go_wp2
    go_ret2
    refine ⟨_, rfl, ?_, (HX.out X _ T.out.1 T.out.2.1).below B3.out, T.out.2.1.trans (Keep.of_below (F := []) B3.out) (by simp)⟩
    rw [EP.out, E.out]
    exact Row.nil _ _
   | some xs =>
    rw [hl] at hp3
    simp only at hp3
    obtain ⟨v, rfl, hv⟩ := hp3
    have E : Hid (lsO lb = xs) := by show _ = _; simp [lsO, hl]
    have HV := hide hv
    clear hl hv
    go_wp2
    go_ret2
    refine ⟨v, rfl, ?_, (HX.out X _ T.out.1 T.out.2.1).below B3.out, T.out.2.1.trans (Keep.of_below (F := []) B3.out) (by simp)⟩
    rw [EP.out, E.out]
    exact Row.mono (base := w7.heap.size) HV.out T.out.2.1.size
variable {w0 W W' : World} {d s : Nat} {F F' : List Nat} {S S' : Dv} {L : Int} {first : Nat} {M : SM}
def bkt (key : List UInt8) (n : Nat) : Nat := (Bl.hashK (txt key) % (n : Int)).toNat
theorem bkt_lt (key : List UInt8) (n : Nat) (hn : 0 < n) : bkt key n < n := by
 unfold bkt
 have h1 := Int.emod_nonneg (Bl.hashK (txt key)) (show (n : Int) ≠ 0 by omega)
 have h2 := Int.emod_lt_of_pos (Bl.hashK (txt key)) (show (0 : Int) < n by omega)
 omega
theorem bucket_any (h : StIn W s d L first M) (key : List UInt8) (hk : key.length <= maxLen) (h1 : 0 < M.fs.length) (h2 : M.fs.length <= 1000) :
  Calls Tryz.prog 141 #[.pointer (some ⟨s, 0, none⟩), .string (txt key)] W fun e W' => e = .returned (.int .i64 (bkt key M.fs.length : Nat)) /\ ∃ q, W' = W.drewN q := by
 have c3 := h.box.cell (i := 3) rfl
 obtain ⟨n, hn⟩ : ∃ n, n = M.fs.length := ⟨_, rfl⟩
 rw [<- hn] at c3 h1 h2 ⊢
 have cH : Hid (∀ V : World, Calls Tryz.prog 116 #[.string (txt key)] V fun e w' => e = .returned (.int .u64 (Bl.hashK (txt key))) /\ w' = V) := fun V => Bl.hash_any (txt key) V (by rw [txt_size]; exact hk)
 obtain ⟨H, hH⟩ : ∃ H, H = Bl.hashK (txt key) := ⟨_, rfl⟩
 have hr := Bl.hashK_range (txt key)
 have hb : (bkt key n : Int) = H % (n : Int) := by
  rw [hH]
  unfold bkt
  have := Int.emod_nonneg (Bl.hashK (txt key)) (show (n : Int) ≠ 0 by omega)
  omega
 have hbl := bkt_lt key n h1
 rw [<- hH] at cH hr
 have HB : Hid (wrap64 (H % (n : Int)) = (bkt key n : Int)) := by show _ = _; rw [<- hb]; unfold wrap64; omega
 have hn0 : ¬ ((n : Int) = 0) := by omega
 have hr0 := hr.1
 have hr1 := hr.2
 have hw1 : IntKind.u64.wrap (n : Int) = (n : Int) := by rw [IntKind.wrap_u64]; omega
 clear hb hr h hn hH hk
 go_enter Tryz.func141, Tryz.ntmps141
 go_wp2_with fail
 go_quiet (first | (go_at_call 116; refine Calls.quiet_of_same (cH.out _)))
 go_wp2
 go_ret
 exact ⟨congrArg (fun z => Ending.returned (.int .i64 z)) HB.out, _, rfl⟩
variable {w0 W W' : World} {d s : Nat} {F F' : List Nat} {S S' : Dv} {L : Int} {first : Nat} {M : SM}
theorem BS.slice {w : World} {b off n cap : Nat} {l : List UInt8} (h : BS w (some ⟨b, off, none⟩) n cap l) : BSlice w (some ⟨b, off, none⟩) l b := by
 by_cases hl : l = []
 ·exact .inl hl
 ·have h0 : 0 < n := by rw [h.len]; exact List.length_pos_iff.2 hl
  obtain ⟨b', off', he, hb, _⟩ := h.cell 0 h0
  cases he
  refine .inr ⟨hb, off, rfl, fun j hj => ?_⟩
  obtain ⟨b', off', he, _, hc⟩ := h.cell j (by rw [h.len]; exact hj)
  cases he
  rw [hc]
  simp [List.getD_eq_getElem?_getD, hj]
def pgB (xs : List It) : ByteArray := ⟨(encs xs ++ List.replicate (384 - total xs) 0).toArray⟩
theorem pgB_size (xs : List It) (h : total xs <= 384) : (pgB xs).size = 384 := by
 show (encs xs ++ List.replicate (384 - total xs) 0).toArray.size = 384
 simp [encs_length]; omega
theorem take_zeros (n : Nat) : take (List.replicate n 0) = .none := by
 cases n with
 | zero => simp [take, ended]
 | succ n => simp [take, ended, List.replicate_succ]
theorem pgB_its (xs : List It) (h : total xs <= 384) (hg : ∀ x ∈ xs, x.fits /\ x.good = true) : (Pg.whole (pgB xs)).its = xs := by
 have h1 := pgB_size xs h
 have e : (full (pgB xs)).data.toList = encs xs ++ List.replicate (384 - total xs) 0 := by
  rw [full_data, h1, Nat.sub_self]
  simp [pgB]
 show lsO _ = xs
 rw [e]
 unfold lsO
 rw [lst_encs xs _ hg (take_zeros _)]
 rfl
theorem entb51 (args : Array Value) (w : World) : (callFunc 88 args).run Tryz.prog w = .ok (.enter 88 args) w := enters_of Tryz.func88 (by kernel_rfl) rfl args w
theorem write_any (h : Bk w0 W d F S s L first M) (at0 : Nat) (hk : first + at0 <= 4096) (a : Option Addr) (n cap : Nat) (xs : List It) (hn : n <= 1048576) (hI : ItsAt W a n xs) (hg : xs.all It.good = true) (hfit : total xs <= 384) :
  Calls Tryz.prog 160 #[.pointer (some ⟨s, 0, none⟩), .int .i64 at0, .slice a n cap] W fun e W' => e = .returned (.int .i64 (S.writeErr (first + at0 : Nat) (pgB xs))) /\ ∃ F', Bk w0 W' d F' (S.writeDo (first + at0 : Nat) (pgB xs)) s L first M /\ Moves F F' W W' := by
 have cY := hide (lay_ok a n cap xs 384 (by omega) (by omega) W hI hg hfit)
 have H := hide h
 obtain ⟨k, hkk⟩ : ∃ k, k = first + at0 := ⟨_, rfl⟩
 rw [<- hkk] at hk ⊢
 have e1 : (first : Int) + (at0 : Int) = (k : Int) := by omega
 have hx1 : first <= 4096 := by omega
 have hx2 : at0 <= 4096 := by omega
 have hwr : IntKind.i64.wrap ((first : Int) + (at0 : Int)) = (k : Int) := by rw [IntKind.wrap_i64, e1]; omega
 obtain ⟨er, her⟩ : ∃ er, er = S.writeErr (k : Nat) (pgB xs) := ⟨_, rfl⟩
 rw [<- her]
 have HF := hide hfit
 have HER := hide her
 clear h hkk hI hg hfit her
 go_enter Tryz.func160, Tryz.ntmps160
 go_wp2_with fail
 refine cY.out.mono ?_
 rintro e w1 ⟨g, rfl, hgl, hbuf, b1⟩
 have hbs : BS w1 (some ⟨g, 0, none⟩) 384 384 (encs xs ++ List.replicate (384 - total xs) 0) := buf_bs (buf_full hbuf) (by rw [List.length_append, encs_length, List.length_replicate]; have := HF.out; omega) (Nat.le_refl _)
 have B1 := hide b1
 have HBS := hide hbs
 have HG : Hid (g ∉ F) := H.out.law.dev.new g hgl
 have H1 := hide (H.out.below b1)
 clear b1 hbs hbuf hgl cY
 go_wp2_with fail
 obtain ⟨CC, hCC⟩ : ∃ CC : Bool -> World -> Prop, CC = fun f w' => match f with
   | false => w' = w1.drewN 1
   | true => ∃ F', DvAt w' d F' (S.writeDo (k : Nat) (pgB xs)) /\ Moves F F' w1 w' := ⟨_, rfl⟩
 have DR : Hid (CC false { w1 with drawn := w1.drawn + 1 }) := by show CC false _; rw [hCC]; rfl
 have cC : Hid (∀ w', CC false w' -> Calls Tryz.prog 88 #[.pointer (some ⟨d, 0, none⟩), .int .i64 (k : Nat), .slice (some ⟨g, 0, none⟩) 384 384] w' fun e w' => e = .returned (.int .i64 er) /\ CC true w') := fun w' hw => by
  rw [hCC] at hw ⊢
  simp only at hw
  subst hw
  have hb2 : BS (w1.drewN 1) (some ⟨g, 0, none⟩) 384 384 (encs xs ++ List.replicate (384 - total xs) 0) := HBS.out.heap rfl
  refine (write_at d F S (k : Nat) (some ⟨g, 0, none⟩) 384 384 g _ HBS.out.len (w1.drewN 1) hb2.slice (fun h => by cases h) (fun _ => HG.out) (H1.out.law.dev.same (fun _ _ => rfl))).mono ?_
  rintro e w2 ⟨rfl, F', h1, h2⟩
  refine ⟨by rw [HER.out]; rfl, F', h1, ?_⟩
  exact (Moves.of_keep (keep_q w1 1)).trans h2
 have cells : Hid (∀ f w', CC f w' -> w'.cell? ⟨s, 0, none⟩ = some (.pointer (some ⟨d, 0, none⟩)) /\ w'.cell? ⟨s, 2, none⟩ = some (.int .i64 (first : Int))) := fun f w' hw => by
  rw [hCC] at hw
  cases f with
  | false =>
   simp only at hw
   subst hw
   exact ⟨H1.out.st.box.cell (i := 0) rfl, H1.out.st.box.cell (i := 2) rfl⟩
  | true =>
   obtain ⟨F', h1, h2⟩ := hw
   have := (H1.out.move h1 h2).st.box
   exact ⟨this.cell (i := 0) rfl, this.cell (i := 2) rfl⟩
 have HE : Hid (∀ w', CC true w' -> ∃ F', DvAt w' d F' (S.writeDo (k : Nat) (pgB xs)) /\ Moves F F' w1 w') := fun w' hw => by rw [hCC] at hw; exact hw
 clear hCC
 refine wp_region_turn (by kernel_rfl) (by kernel_rfl) (fun i => ([.pointer (some ⟨s, 0, none⟩), .pointer (some ⟨s, 0, none⟩), .pointer (some ⟨s, 0, none⟩), .pointer (some ⟨d, 0, none⟩), .pointer (some ⟨s, 0, none⟩), .pointer (some ⟨s, 0, none⟩), .pointer (some ⟨s, 2, none⟩), .int .i64 (first : Int), .int .i64 (at0 : Int), .int .i64 (k : Int), .slice (some ⟨g, 0, none⟩) 384 384, .int .i64 er, .int .i64 er] : List Value).getD i undef) 11 (by decide) (CC) (DR.out) ?_ ?_
 ·intro i o hi f w' ev hc hz hin hout hcst hfn
  have hlt : i < 13 := by
   have := (Array.getElem?_eq_some_iff.1 hi).1
   simpa using this
  match i, hlt with
  | 0, _ =>
   cases hi
   have e0 : ev (.tmp 0) = .pointer (some ⟨s, 0, none⟩) := hout 0
   rw [if_neg (by decide)]
   refine .inl ⟨w', ?_, hc⟩
   simp [execOp, e0, hcst, go_sem]
  | 1, _ =>
   cases hi
   have e0 : ev (.tmp 17) = .pointer (some ⟨s, 0, none⟩) := hin 17 0 ⟨0, .data⟩
   rw [if_neg (by decide)]
   refine .inl ⟨w', ?_, hc⟩
   simp [execOp, e0, hcst, go_sem]
  | 2, _ =>
   cases hi
   have e0 : ev (.tmp 18) = .pointer (some ⟨s, 0, none⟩) := hin 18 1 ⟨1, .data⟩
   rw [if_neg (by decide)]
   refine .inl ⟨w', ?_, hc⟩
   simp [execOp, e0, hcst, go_sem]
  | 3, _ =>
   cases hi
   have e0 : ev (.tmp 19) = .pointer (some ⟨s, 0, none⟩) := hin 19 2 ⟨2, .data⟩
   rw [if_neg (by decide)]
   refine .inl ⟨w', ?_, hc⟩
   show _ = Result.ok (Next.value (.pointer (some ⟨d, 0, none⟩))) w'
   have q := (cells.out f w' hc).1
   simp [execOp, e0, q, hcst, go_sem]
  | 4, _ =>
   cases hi
   have e0 : ev (.tmp 0) = .pointer (some ⟨s, 0, none⟩) := hout 0
   rw [if_neg (by decide)]
   refine .inl ⟨w', ?_, hc⟩
   simp [execOp, e0, hcst, go_sem]
  | 5, _ =>
   cases hi
   have e0 : ev (.tmp 21) = .pointer (some ⟨s, 0, none⟩) := hin 21 4 ⟨4, .data⟩
   rw [if_neg (by decide)]
   refine .inl ⟨w', ?_, hc⟩
   simp [execOp, e0, hcst, go_sem]
  | 6, _ =>
   cases hi
   have e0 : ev (.tmp 22) = .pointer (some ⟨s, 0, none⟩) := hin 22 5 ⟨5, .data⟩
   rw [if_neg (by decide)]
   refine .inl ⟨w', ?_, hc⟩
   simp [execOp, e0, hcst, go_sem]
  | 7, _ =>
   cases hi
   have e0 : ev (.tmp 23) = .pointer (some ⟨s, 2, none⟩) := hin 23 6 ⟨6, .data⟩
   rw [if_neg (by decide)]
   refine .inl ⟨w', ?_, hc⟩
   show _ = Result.ok (Next.value (.int .i64 (first : Int))) w'
   have q := (cells.out f w' hc).2
   simp [execOp, e0, q, hcst, go_sem]
  | 8, _ =>
   cases hi
   have e0 : ev (.tmp 1) = .int .i64 (at0 : Int) := hout 1
   rw [if_neg (by decide)]
   refine .inl ⟨w', ?_, hc⟩
   simp [execOp, e0, hcst, go_sem]
  | 9, _ =>
   cases hi
   have e0 : ev (.tmp 24) = .int .i64 (first : Int) := hin 24 7 ⟨7, .data⟩
   have e1 : ev (.tmp 25) = .int .i64 (at0 : Int) := hin 25 8 ⟨8, .data⟩
   rw [if_neg (by decide)]
   refine .inl ⟨w', ?_, hc⟩
   simp [execOp, e0, e1, hcst, go_sem, hwr]
  | 10, _ =>
   cases hi
   have e0 : ev (.tmp 7) = .slice (some ⟨g, 0, none⟩) 384 384 := hout 7
   rw [if_neg (by decide)]
   refine .inl ⟨w', ?_, hc⟩
   simp [execOp, e0, hcst, go_sem]
  | 11, _ =>
   cases hi
   have e0 : ev (.tmp 20) = .pointer (some ⟨d, 0, none⟩) := hin 20 3 ⟨3, .data⟩
   have e1 : ev (.tmp 26) = .int .i64 (k : Int) := hin 26 9 ⟨9, .data⟩
   have e2 : ev (.tmp 27) = .slice (some ⟨g, 0, none⟩) 384 384 := hin 27 10 ⟨10, .data⟩
   rw [if_pos rfl]
   refine .inr (.inr ⟨88, #[.pointer (some ⟨d, 0, none⟩), .int .i64 (k : Int), .slice (some ⟨g, 0, none⟩) 384 384], ?_, ?_⟩)
   ·have ef := hfn 88
    simp [execOp, resolve, invoke, ef, hcst, e0, e1, e2, Result.andThen]
    exact entb51 _ _
   ·rw [hz rfl] at hc
    refine (cC.out w' hc).mono ?_
    rintro e w2 ⟨rfl, h2⟩
    exact ⟨rfl, h2⟩
  | 12, _ =>
   cases hi
   have e0 : ev (.tmp 28) = .int .i64 er := hin 28 11 ⟨11, .data⟩
   rw [if_neg (by decide)]
   refine .inl ⟨w', ?_, hc⟩
   simp [execOp, e0, hcst, go_sem]
 ·intro w7 hc
  simp only [lexF, Act.put, List.setIfInBounds_toArray, List.set_cons_succ, List.set_cons_zero, List.getD_cons_succ, List.getD_cons_zero]
  have T := hide (HE.out w7 hc)
  clear hwr hc cC cells DR HE
  go_wp2
  go_ret
  obtain ⟨F', h1, h2⟩ := T.out
  exact ⟨rfl, F', H1.out.move h1 h2, (Moves.of_keep (Keep.of_below B1.out)).trans h2⟩
end Go.Proofs.YtcdghalnneilpaaGreat
namespace Go.Proofs.YtcdghalnneilpaaGreat
open Go.RowKit Go.Deep Go.ChangeShapes Go.WideShapes Math
theorem taddNumber_any (g r k nl cp : Nat) (l : List UInt8) (n : Nat) (hn : n < 18446744073709551616) (hk : k <= r) (hk8 : k <= 8) (hnl : nl = l.length) (hcp : cp = l.length + r) (hc63 : cp <= 9223372036854775807) (w : World) (h : Buf w g l r) :
  Calls Tryz.prog 166 #[.slice (some ⟨g, 0, none⟩) nl cp, .int .u64 n, .int .i64 k] w fun e w' => e = .returned (.slice (some ⟨g, 0, none⟩) (nl + k) cp) /\ Buf w' g (l ++ low n k) (r - k) /\ Keep [g] w w' := by
 have HB := hide h
 have HNL := hide hnl
 have HCP := hide hcp
 have HK := hide hk
 have HN := hide hn
 clear h hnl hcp hk hn hc63
 go_enter Tryz.func166, Tryz.ntmps166
 go_wp2_with fail
 go_loopg [0, 1, 8] k (fun kx s0 s1 s8 wr => ∃ i m : Nat, s8 = .int .i64 i /\ s0 = .slice (some ⟨g, 0, none⟩) (nl + i) cp /\ s1 = .int .u64 m /\ i <= k /\ k - i <= kx /\ Hid (m = n / 256 ^ i /\ Buf wr g (l ++ low n i) (r - i) /\ Keep [g] w wr))
 case atStart => exact ⟨0, n, rfl, rfl, rfl, Nat.zero_le _, by omega, by simp, by simpa [low] using HB.out, Keep.refl _ _⟩
 case round =>
  obtain ⟨i, m, rfl, rfl, rfl, hik, hg, I⟩ := hrel
  by_cases hlt : i < k
  ·have hlt2 : (i : Int) < (k : Int) := by omega
   obtain ⟨W, hr, hb, hkp⟩ := buf_one (nl := nl + i) (cp := cp) I.out.2.1 m ((m : Int) % 256) (by omega) (by have := HK.out; omega) (by rw [List.length_append, low_length, HNL.out]) (by rw [List.length_append, low_length, HCP.out]; have := HK.out; omega)
   have HR := hide hr
   have HW := hide hb
   have HKP := hide hkp
   clear hr hb hkp
   go_wp2_with (at_builtin; refine Lib.wpList_append_run _ rfl _ _ _ _ rfl _ _ rfl rfl _ _ HR.out ?_)
   go_roundg (k - (i + 1))
   case measure => omega
   case rel =>
    refine ⟨i + 1, m / 256, rfl, rfl, rfl, by omega, by omega, ?_, ?_, I.out.2.2.trans HKP.out (fun x hx => .inl hx)⟩
    ·rw [I.out.1, Nat.div_div_eq_div_mul, Nat.pow_succ]
    ·rw [low_snoc, <- I.out.1, <- List.append_assoc, show r - (i + 1) = r - i - 1 by omega]
     exact HW.out
  ·obtain rfl : i = k := by omega
   have hlt2 : ¬ (i : Int) < (i : Int) := by omega
   go_wp2
   go_ret
   exact ⟨rfl, I.out.2.1, I.out.2.2⟩
theorem tnumber_any (a : Option Addr) (n cap : Nat) (l : List UInt8) (hn : n = l.length) (h8 : n <= 8) (w : World) (hr : Reads w a (ints l)) :
  Calls Tryz.prog 183 #[.slice a n cap] w fun e w' => e = .returned (.int .u64 (up l : Int)) /\ w' = w := by
 have HR : Hid (Reads w a (ints l)) := hr
 have HN := hide hn
 clear hr hn
 go_enter Tryz.func183, Tryz.ntmps183
 go_wp2
 go_loop [3, 8] (fun t i => ∃ k m : Nat, k <= n /\ i = .int .i64 k /\ t = .int .u64 m /\ Hid (m = up (l.take k))) (fun _ i => n - (intOf i).toNat)
 case atStart => exact ⟨0, 0, Nat.zero_le _, rfl, rfl, rfl⟩
 case round =>
  obtain ⟨k, m, hk, rfl, rfl, hm⟩ := hrel
  by_cases hlt : k < n
  ·obtain ⟨b, off, rfl, hc⟩ := HR.out.1 k (by rw [ints_length, <- HN.out]; exact hlt)
   rw [ints_getD] at hc
   have HT := hide (take_snoc_byte l k (by rw [<- HN.out]; exact hlt))
   have HL : Hid ((l.take k).length = k) := by show _ = _; rw [List.length_take, <- HN.out]; omega
   generalize l.getD k 0 = x at hc HT
   have hx1 : (x.toNat : Int) <= 255 := by have := x.toNat_lt; omega
   have OB : Hid (∀ y : Int, y = ((256 ^ k * x.toNat : Nat) : Int) -> bits .or .u64 (m : Int) y = (up (l.take (k + 1)) : Int)) := fun y hy => by
    rw [hm.out, HT.out]
    exact or_byte (l.take k) x (by rw [HL.out]; omega) y (by rw [HL.out]; exact hy)
   clear HR
   rcases (show k = 0 \/ k = 1 \/ k = 2 \/ k = 3 \/ k = 4 \/ k = 5 \/ k = 6 \/ k = 7 by omega) with rfl | rfl | rfl | rfl | rfl | rfl | rfl | rfl
   all_goals (
    try simp only [Nat.add_zero] at hc
    go_wp2
    go_round
    case rel => exact ⟨_, _, hlt, rfl, (by rw [OB.out _ (by first | omega | (rw [IntKind.wrap_u64]; omega))]), rfl⟩
    case measure => simp [intOf]; omega)
  ·have hkn : Hid (k = n) := by unfold Hid; omega
   go_wp2
   go_ret
   exact ⟨ret_int (by rw [hm.out, hkn.out, HN.out, List.take_length]), rfl⟩
theorem stage {X : World -> Prop} {G : Prop} {S : World -> Prop} (h1 : (∀ W, S W -> X W) -> G) (h2 : ∀ W, S W -> X W) : G := h1 h2
end Go.Proofs.YtcdghalnneilpaaGreat
