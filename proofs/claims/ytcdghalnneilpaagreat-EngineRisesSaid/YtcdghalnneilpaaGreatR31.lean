/- Joined texts. -/
import Derived.Test.YtcdghalnneilpaaGreatR30
set_option linter.unusedVariables false
set_option linter.unusedSimpArgs false
set_option maxRecDepth 8000
set_option maxHeartbeats 8000000
namespace Go.Proofs.YtcdghalnneilpaaGreat
open Go.RowKit Go.Deep Math
theorem entt31 (args : Array Value) (w : World) : (callFunc 88 args).run Tryz.prog w = .ok (.enter 88 args) w := by go_simp
theorem entt32 (args : Array Value) (w : World) : (callFunc 118 args).run Tryz.prog w = .ok (.enter 118 args) w := by go_simp
theorem MksAt.heap {w w' : World} {a : Option Addr} {len : Nat} {xs : List Mk} (h : MksAt w a len xs) (e : w'.heap = w.heap) : MksAt w' a len xs :=
 ⟨h.len, h.fits, fun i x hx => by
  obtain ⟨b, o, ha, hb, hc⟩ := h.cell i x hx
  exact ⟨b, o, ha, by rw [e]; exact hb, hc.same (by rw [e])⟩⟩
structure Jr.ok (J : Jr) (S : Dv) (f p u : Nat) : Prop where
 first : J.first = (f : Int)
 pages : J.pages = (p : Int)
 used : J.used = (u : Int)
 le : u <= p
 fits : f + p <= S.cs.length
structure MkIn (w : World) (j m : Nat) (F : List Nat) (a : Option Addr) (len : Nat) (xs : List Mk) : Prop where
 at_ : MksAt w a len xs
 off : ∀ b o, a = some ⟨b, o, none⟩ -> b ∉ F /\ b ≠ j /\ b ≠ m
def AddPostM (w : World) (j d m n : Nat) (F : List Nat) (k : Nat) (er : Int) (J : Jr) (S : Dv) (e : Ending) (w' : World) : Prop :=
 e = .returned (.int .i64 er) /\ ∃ F' n', JD w' j d m n' F' J S /\ Keep (j :: m :: F) w w' /\ (∀ x ∈ F', x ∈ F \/ w.heap.size <= x) /\ n' <= n + k
theorem JD.heap {W W' : World} {j d m n : Nat} {F : List Nat} {J : Jr} {S : Dv} (h : JD W j d m n F J S) (e : W'.heap = W.heap) : JD W' j d m n F J S :=
 ⟨h.jr.same (by rw [e]) (by rw [e]), h.dev.same (fun _ _ => by rw [e]), h.nj, h.nm⟩
theorem Keep.heap {F : List Nat} {a W W' : World} (h : Keep F a W) (e : W'.heap = W.heap) (ht : W'.os = W.os /\ W'.tape = W.tape /\ W'.output = W.output) : Keep F a W' :=
 ⟨ht.1.trans h.os, ht.2.1.trans h.tape, ht.2.2.trans h.output, by rw [e]; exact h.size, fun k h1 h2 => by rw [e]; exact h.block k h1 h2⟩
theorem add_done (j d m n : Nat) (F : List Nat) (J : Jr) (S : Dv) (a : Option Addr) (len cap : Nat) (h1 : 1 <= len) (h23 : len <= 23) (hl : S.losses ≠ J.losses) (w : World) (h : JD w j d m n F J S) :
  Calls Tryz.prog 57 #[.pointer (some ⟨j, 0, none⟩), .slice a len cap] w (AddPostM w j d m n F 0 4 J S) := by
 have g0 : ((len : Int) == 0) = false := by simp; omega
 have g1 : ((23 : Int) < (len : Int)) = False := eq_false (by omega)
 have g2 : ¬ len = 0 := by omega
 have c0 := h.jr.blk.cell (i := 0) rfl
 have c1 := h.jr.blk.cell (i := 1) rfl
 have hne : (S.losses != J.losses) = true := by simpa using hl
 have cL : Hid (∀ W : World, W.heap = w.heap -> Calls Tryz.prog 48 #[.pointer (some ⟨d, 0, none⟩)] W fun e w' => e = .returned (.int .i64 S.losses) /\ w' = W) := fun W hW => by
  obtain ⟨p, pd, wa, wc, rfl, hd⟩ := (h.dev.same (w' := W) (fun _ _ => by rw [hW]))
  exact losses_any d p pd wa wc S W hd
 have H := hide' h
 clear h hl h1 h23
 go_enter Tryz.func57, Tryz.ntmps57
 go_wp2_with fail
 go_quiet (first | (go_at_call 48; refine Calls.quiet_of_same (cL.out _ ?_); rfl))
 go_wp2
 go_ret
 exact ⟨rfl, F, n, H.out.heap rfl, (Keep.refl _ w).heap rfl ⟨rfl, rfl, rfl⟩, fun x hx => .inl hx, by omega⟩
theorem add_full (j d m n : Nat) (F : List Nat) (J : Jr) (S : Dv) (f p u : Nat) (ho : J.ok S f p u) (hu : u = p) (a : Option Addr) (len cap : Nat) (h1 : 1 <= len) (h23 : len <= 23) (hl : S.losses = J.losses) (w : World) (h : JD w j d m n F J S) :
  Calls Tryz.prog 57 #[.pointer (some ⟨j, 0, none⟩), .slice a len cap] w (AddPostM w j d m n F 0 7 J S) := by
 have g0 : ((len : Int) == 0) = false := by simp; omega
 have g1 : ((23 : Int) < (len : Int)) = False := eq_false (by omega)
 have g2 : ¬ len = 0 := by omega
 have c0 := h.jr.blk.cell (i := 0) rfl
 have c1 := h.jr.blk.cell (i := 1) rfl
 have hne : (S.losses != J.losses) = false := by simpa using hl
 have cL : Hid (∀ W : World, W.heap = w.heap -> Calls Tryz.prog 48 #[.pointer (some ⟨d, 0, none⟩)] W fun e w' => e = .returned (.int .i64 S.losses) /\ w' = W) := fun W hW => by
  obtain ⟨p, pd, wa, wc, rfl, hd⟩ := (h.dev.same (w' := W) (fun _ _ => by rw [hW]))
  exact losses_any d p pd wa wc S W hd
 have cR : Hid (∀ W : World, W.heap = w.heap -> Calls Tryz.prog 117 #[.pointer (some ⟨j, 0, none⟩)] W fun e w' => e = .returned (.int .i64 0) /\ Below W.heap.size W w') := fun W hW => by
  have := room_any j d m n J W (h.heap hW).jr
  rw [ho.pages, ho.used, hu, Int.sub_self, show wrap64 0 = 0 by unfold wrap64; omega] at this
  exact this
 have H := hide' h
 clear h hl h1 h23 ho hu
 go_enter Tryz.func57, Tryz.ntmps57
 go_wp2_with fail
 go_quiet (first | (go_at_call 48; refine Calls.quiet_of_same (cL.out _ ?_); rfl))
 go_wp2_with fail
 refine (cR.out (w.drewN nq) rfl).mono ?_
 rintro r w1 ⟨rfl, b1⟩
 have B1 := hide' b1
 clear b1 cR cL
 go_wp2
 go_ret
 exact ⟨rfl, F, n, (H.out.heap (W' := w.drewN nq) rfl).below B1.out, ((Keep.refl _ w).heap (W' := w.drewN nq) rfl ⟨rfl, rfl, rfl⟩).trans (Keep.of_below (F := []) B1.out) (by simp), fun x hx => .inl hx, by omega⟩
def addEr (S : Dv) (q : Nat) (pg : ByteArray) : Int := if S.writeErr (q : Int) pg ≠ 0 then S.writeErr (q : Int) pg else (S.writeDo (q : Int) pg).flushErr
def addDv (S : Dv) (q : Nat) (pg : ByteArray) : Dv := if S.writeErr (q : Int) pg ≠ 0 then S.writeDo (q : Int) pg else (S.writeDo (q : Int) pg).flushDo
def addJr (J : Jr) (S : Dv) (q : Nat) (pg : ByteArray) (xs : List Mk) : Jr := if S.writeErr (q : Int) pg ≠ 0 then J else if (S.writeDo (q : Int) pg).flushErr ≠ 0 then { J with used := J.used + 1 } else ({ J with used := J.used + 1 } : Jr).keeps xs
def pgOf (gen : Nat) (xs : List Mk) : ByteArray := ⟨(pageB gen xs).toArray⟩
theorem add_go (j d m n : Nat) (F : List Nat) (J : Jr) (S : Dv) (f p u : Nat) (ho : J.ok S f p u) (hu : u < p) (hgen : J.gen < 18446744073709551616) (a : Option Addr) (len cap : Nat) (xs : List Mk) (h1 : 1 <= len) (h23 : len <= 23) (hl : S.losses = J.losses) (hn : n < 900000) (w : World) (hx : MkIn w j m F a len xs) (h : JD w j d m n F J S) :
  Calls Tryz.prog 57 #[.pointer (some ⟨j, 0, none⟩), .slice a len cap] w (AddPostM w j d m n F len (addEr S (f + u) (pgOf J.gen xs)) (addJr J S (f + u) (pgOf J.gen xs) xs) (addDv S (f + u) (pgOf J.gen xs))) := by
 have g0 : ((len : Int) == 0) = false := by simp; omega
 have g1 : ((23 : Int) < (len : Int)) = False := eq_false (by omega)
 have g2 : ¬ len = 0 := by omega
 have c0 := h.jr.blk.cell (i := 0) rfl
 have c1 := h.jr.blk.cell (i := 1) rfl
 have hne : (S.losses != J.losses) = false := by simpa using hl
 have hmany := h.dev.good.many
 have cL : Hid (∀ W : World, W.heap = w.heap -> Calls Tryz.prog 48 #[.pointer (some ⟨d, 0, none⟩)] W fun e w' => e = .returned (.int .i64 S.losses) /\ w' = W) := fun W hW => by
  obtain ⟨p, pd, wa, wc, rfl, hd⟩ := (h.dev.same (w' := W) (fun _ _ => by rw [hW]))
  exact losses_any d p pd wa wc S W hd
 obtain ⟨rm, hrm⟩ : ∃ rm : Nat, rm = p - u := ⟨_, rfl⟩
 have hfit := ho.fits
 have cR : Hid (∀ W : World, W.heap = w.heap -> Calls Tryz.prog 117 #[.pointer (some ⟨j, 0, none⟩)] W fun e w' => e = .returned (.int .i64 (rm : Int)) /\ Below W.heap.size W w') := fun W hW => by
  have := room_any j d m n J W (h.heap hW).jr
  rw [ho.pages, ho.used] at this
  have e : wrap64 ((p : Int) - (u : Int)) = (rm : Int) := by rw [hrm]; unfold wrap64; omega
  rw [e] at this
  exact this
 have hrm0 : ((rm : Int) == 0) = false := by
  have : ¬ (rm : Int) = 0 := by omega
  simpa using this
 have hrm1 : ¬ rm = 0 := by omega
 obtain ⟨q, hq⟩ : ∃ q, q = f + u := ⟨_, rfl⟩
 obtain ⟨gen, hge⟩ : ∃ g, g = J.gen := ⟨_, rfl⟩
 obtain ⟨N, hN⟩ : ∃ N, N = 16 + 16 * len := ⟨_, rfl⟩
 obtain ⟨pg, hpg⟩ : ∃ pg, pg = pgOf gen xs := ⟨_, rfl⟩
 rw [<- hq, <- hge, <- hpg]
 obtain ⟨er, her⟩ : ∃ er, er = S.writeErr (q : Int) pg := ⟨_, rfl⟩
 have hfu : (f : Int) + (u : Int) = (q : Int) := by omega
 have hq5 : q <= 5000 := by omega
 have hfu2 : wrap64 (q : Int) = (q : Int) := wrap_small q hq5
 have hfu3 : IntKind.i64.wrap (q : Int) = (q : Int) := wrap_small' q hq5
 have hxl : len = xs.length := hx.at_.len
 have HGEN := hide' (show gen < 18446744073709551616 by rw [hge]; exact hgen)
 have H := hide' h
 have HX := hide' hx
 have HO := hide' ho
 have HPG := hide' hpg
 have HER := hide' her
 have HGE := hide' hge
 have HNN := hide' hN
 have HXL := hide' hxl
 have HU := hide' (And.intro hu (And.intro h23 hn))
 have HQ := hide' hq
 clear h hl h1 h23 ho hu hx hgen hpg her hge hN hxl hmany hfit hrm hn hq
 go_enter Tryz.func57, Tryz.ntmps57
 go_wp2_with fail
 go_quiet (first | (go_at_call 48; refine Calls.quiet_of_same (cL.out _ ?_); rfl))
 go_wp2_with fail
 refine (cR.out (w.drewN nq) rfl).mono ?_
 rintro r w1 ⟨rfl, b1⟩
 have J1 := hide' ((H.out.heap (W' := w.drewN nq) rfl).below b1)
 have K1 := hide' (((Keep.refl (j :: m :: F) w).heap (W' := w.drewN nq) rfl ⟨rfl, rfl, rfl⟩).trans (Keep.of_below (F := []) b1) (by simp))
 have X1 : Hid (MksAt w1 a len xs) := HX.out.at_.below ⟨b1.os, b1.tape, b1.output, b1.size, b1.block⟩
 clear b1 cR cL g0 g1 g2 c0 c1 hne
 obtain ⟨G, hG⟩ : ∃ G, G = w1.heap.size := ⟨_, rfl⟩
 -- the three worlds of the region
 obtain ⟨CX, hCX⟩ : ∃ CX : Bool -> Bool -> World -> Prop, CX = fun b c W => match b, c with
   | false, false => W = { w1 with drawn := w1.drawn + 1 }
   | true, false => JD W j d m n F J S /\ Buf W G (pageB gen xs) 0 /\ Below w1.heap.size w1 W
   | true, true => ∃ F', JD W j d m n F' J (S.writeDo (q : Int) pg) /\ Moves F F' w1 W /\ MksAt W a len xs
   | false, true => False := ⟨_, rfl⟩
 have CF : Hid (∀ W, ¬ CX false true W) := fun W hW => by rw [hCX] at hW; exact hW
 have DR : Hid (CX false false { w1 with drawn := w1.drawn + 1 }) := by show CX _ _ _; rw [hCX]
 have cells : Hid (∀ (W : World) (F' : List Nat) (S' : Dv), JD W j d m n F' J S' -> W.cell? ⟨j, 0, none⟩ = some (.pointer (some ⟨d, 0, none⟩)) /\ W.cell? ⟨j, 2, none⟩ = some (.int .i64 (f : Int)) /\ W.cell? ⟨j, 4, none⟩ = some (.int .i64 (u : Int)) /\ W.cell? ⟨j, 5, none⟩ = some (.int .u64 (gen : Int))) := fun W F' S' hW => by
  have e2 := hW.jr.blk.cell (i := 2) rfl
  have e4 := hW.jr.blk.cell (i := 4) rfl
  have e5 := hW.jr.blk.cell (i := 5) rfl
  rw [HO.out.first] at e2
  rw [HO.out.used] at e4
  rw [<- HGE.out] at e5
  exact ⟨hW.jr.blk.cell (i := 0) rfl, e2, e4, e5⟩
 have CC : Hid (∀ b c W, CX b c W -> W.cell? ⟨j, 0, none⟩ = some (.pointer (some ⟨d, 0, none⟩)) /\ W.cell? ⟨j, 2, none⟩ = some (.int .i64 (f : Int)) /\ W.cell? ⟨j, 4, none⟩ = some (.int .i64 (u : Int)) /\ W.cell? ⟨j, 5, none⟩ = some (.int .u64 (gen : Int))) := fun b c W hW => by
  rw [hCX] at hW
  match b, c, hW with
  | false, false, hW => rw [hW]; exact cells.out w1 F S J1.out
  | true, false, hW => exact cells.out W F S hW.1
  | true, true, hW => obtain ⟨F', h1, _⟩ := hW; exact cells.out W F' _ h1
 have cA : Hid (∀ W, CX false false W -> Calls Tryz.prog 118 #[.int .u64 (gen : Int), .slice a len cap] W fun e w' => e = .returned (.slice (some ⟨G, 0, none⟩) N N) /\ CX true false w') := fun W hW => by
  rw [hCX] at hW
  have hW2 : W = { w1 with drawn := w1.drawn + 1 } := hW
  have hxW : MksAt W a len xs := by rw [hW2]; exact X1.out.heap rfl
  refine (tlaid_any gen HGEN.out a len cap xs HU.out.2.1 W hxW).mono ?_
  rintro e w' ⟨rfl, hb, hbl⟩
  have eG : W.heap.size = G := by rw [hW2, hG]
  rw [eG] at hb hbl ⊢
  rw [<- HNN.out]
  refine ⟨rfl, ?_⟩
  rw [hCX]
  have hb1 : Below w1.heap.size w1 w' := by rw [hW2] at hbl; rw [<- hG]; exact ⟨hbl.os, hbl.tape, hbl.output, by rw [hG] at *; exact hbl.size, hbl.block⟩
  exact ⟨J1.out.below hb1, hb, hb1⟩
 have cB : Hid (∀ W, CX true false W -> Calls Tryz.prog 88 #[.pointer (some ⟨d, 0, none⟩), .int .i64 (q : Int), .slice (some ⟨G, 0, none⟩) N N] W fun e w' => e = .returned (.int .i64 er) /\ CX true true w') := fun W hW => by
  rw [hCX] at hW
  obtain ⟨hW1, hW2, hW3⟩ := hW
  have hNl : N = (pageB gen xs).length := by rw [pageB_length, HNN.out, HXL.out]
  have hbs := (buf_bs (n := N) (cap := N) hW2 hNl (Nat.le_refl _)).slice
  refine (write_at d F S (q : Int) (some ⟨G, 0, none⟩) N N G (pageB gen xs) hNl W hbs (fun e => by cases e) (fun _ hf => by have := J1.out.dev.lt G hf; omega) hW1.dev).mono ?_
  rintro e w' ⟨rfl, F', hd', mv⟩
  have epg : (⟨(pageB gen xs).toArray⟩ : ByteArray) = pg := by rw [HPG.out]; rfl
  rw [epg] at hd' ⊢
  refine ⟨by rw [HER.out], ?_⟩
  rw [hCX]
  have mv1 : Moves F F' w1 w' := (Moves.of_keep (Keep.of_below hW3)).trans mv
  have hj' : j ∉ F' := fun hf => by rcases mv1.foot j hf with h | h; exact hW1.nj h; have := J1.out.jr.blk.lt; omega
  have hm' : m ∉ F' := fun hf => by rcases mv1.foot m hf with h | h; exact hW1.nm h; have := J1.out.jr.mlt; omega
  refine ⟨F', ⟨hW1.jr.keep mv.keep hW1.nj hW1.nm, hd', hj', hm'⟩, mv1, X1.out.len, X1.out.fits, fun i x hxi => ?_⟩
  obtain ⟨b, o, ha, hb, hc⟩ := X1.out.cell i x hxi
  exact ⟨b, o, ha, Nat.lt_of_lt_of_le hb mv1.keep.size, hc.same (mv1.keep.block b hb (HX.out.off b o ha).1)⟩
 have HCX := hide' hCX
 have HG := hide' hG
 clear hCX hG cells
 go_wp2_with fail
 refine wp_region_two (by kernel_rfl) (by kernel_rfl) (fun i => ([.pointer (some ⟨j, 0, none⟩), .pointer (some ⟨j, 0, none⟩), .pointer (some ⟨j, 0, none⟩), .pointer (some ⟨d, 0, none⟩), .pointer (some ⟨j, 0, none⟩), .pointer (some ⟨j, 0, none⟩), .pointer (some ⟨j, 2, none⟩), .int .i64 (f : Int), .pointer (some ⟨j, 0, none⟩), .pointer (some ⟨j, 0, none⟩), .pointer (some ⟨j, 4, none⟩), .int .i64 (u : Int), .int .i64 (q : Int), .pointer (some ⟨j, 0, none⟩), .pointer (some ⟨j, 0, none⟩), .pointer (some ⟨j, 5, none⟩), .int .u64 (gen : Int), .slice a len cap, .slice (some ⟨G, 0, none⟩) N N, .int .i64 er, .int .i64 er] : List Value).getD i undef) 18 19 (by decide) (by decide) (by decide) (by kernel_rfl) CX CF.out DR.out ?_ ?_
 ·intro i o hi f' g' w' ev hc hy hz hin hout hcst hfn
  have hlt : i < 21 := by
   have := (Array.getElem?_eq_some_iff.1 hi).1
   simpa using this
  match i, hlt with
  | 0, _ =>
   cases hi
   have e0 : ev (.tmp 0) = .pointer (some ⟨j, 0, none⟩) := hout 0
   rw [if_neg (by decide), if_neg (by decide)]
   refine .inl ⟨w', ?_, hc⟩
   simp [execOp, e0, hcst, go_sem]
  | 1, _ =>
   cases hi
   have e0 : ev (.tmp 32) = .pointer (some ⟨j, 0, none⟩) := hin 32 0 ⟨0, .data⟩
   rw [if_neg (by decide), if_neg (by decide)]
   refine .inl ⟨w', ?_, hc⟩
   show _ = Result.ok (Next.value (.pointer (some ⟨j, 0, none⟩))) w'
   simp only [execOp, e0, hcst]
   go_simp
  | 2, _ =>
   cases hi
   have e0 : ev (.tmp 33) = .pointer (some ⟨j, 0, none⟩) := hin 33 1 ⟨1, .data⟩
   rw [if_neg (by decide), if_neg (by decide)]
   refine .inl ⟨w', ?_, hc⟩
   show _ = Result.ok (Next.value (.pointer (some ⟨j, 0, none⟩))) w'
   simp only [execOp, e0, hcst]
   go_simp
  | 3, _ =>
   cases hi
   have e0 : ev (.tmp 34) = .pointer (some ⟨j, 0, none⟩) := hin 34 2 ⟨2, .data⟩
   rw [if_neg (by decide), if_neg (by decide)]
   refine .inl ⟨w', ?_, hc⟩
   show _ = Result.ok (Next.value (.pointer (some ⟨d, 0, none⟩))) w'
   obtain ⟨z0, z2, z4, z5⟩ := CC.out f' g' w' hc
   simp only [execOp, e0]
   go_simp
  | 4, _ =>
   cases hi
   have e0 : ev (.tmp 0) = .pointer (some ⟨j, 0, none⟩) := hout 0
   rw [if_neg (by decide), if_neg (by decide)]
   refine .inl ⟨w', ?_, hc⟩
   simp [execOp, e0, hcst, go_sem]
  | 5, _ =>
   cases hi
   have e0 : ev (.tmp 36) = .pointer (some ⟨j, 0, none⟩) := hin 36 4 ⟨4, .data⟩
   rw [if_neg (by decide), if_neg (by decide)]
   refine .inl ⟨w', ?_, hc⟩
   show _ = Result.ok (Next.value (.pointer (some ⟨j, 0, none⟩))) w'
   simp only [execOp, e0, hcst]
   go_simp
  | 6, _ =>
   cases hi
   have e0 : ev (.tmp 37) = .pointer (some ⟨j, 0, none⟩) := hin 37 5 ⟨5, .data⟩
   rw [if_neg (by decide), if_neg (by decide)]
   refine .inl ⟨w', ?_, hc⟩
   show _ = Result.ok (Next.value (.pointer (some ⟨j, 2, none⟩))) w'
   simp only [execOp, e0, hcst]
   go_simp
  | 7, _ =>
   cases hi
   have e0 : ev (.tmp 38) = .pointer (some ⟨j, 2, none⟩) := hin 38 6 ⟨6, .data⟩
   rw [if_neg (by decide), if_neg (by decide)]
   refine .inl ⟨w', ?_, hc⟩
   show _ = Result.ok (Next.value (.int .i64 (f : Int))) w'
   obtain ⟨z0, z2, z4, z5⟩ := CC.out f' g' w' hc
   simp only [execOp, e0]
   go_simp
  | 8, _ =>
   cases hi
   have e0 : ev (.tmp 0) = .pointer (some ⟨j, 0, none⟩) := hout 0
   rw [if_neg (by decide), if_neg (by decide)]
   refine .inl ⟨w', ?_, hc⟩
   simp [execOp, e0, hcst, go_sem]
  | 9, _ =>
   cases hi
   have e0 : ev (.tmp 40) = .pointer (some ⟨j, 0, none⟩) := hin 40 8 ⟨8, .data⟩
   rw [if_neg (by decide), if_neg (by decide)]
   refine .inl ⟨w', ?_, hc⟩
   show _ = Result.ok (Next.value (.pointer (some ⟨j, 0, none⟩))) w'
   simp only [execOp, e0, hcst]
   go_simp
  | 10, _ =>
   cases hi
   have e0 : ev (.tmp 41) = .pointer (some ⟨j, 0, none⟩) := hin 41 9 ⟨9, .data⟩
   rw [if_neg (by decide), if_neg (by decide)]
   refine .inl ⟨w', ?_, hc⟩
   show _ = Result.ok (Next.value (.pointer (some ⟨j, 4, none⟩))) w'
   simp only [execOp, e0, hcst]
   go_simp
  | 11, _ =>
   cases hi
   have e0 : ev (.tmp 42) = .pointer (some ⟨j, 4, none⟩) := hin 42 10 ⟨10, .data⟩
   rw [if_neg (by decide), if_neg (by decide)]
   refine .inl ⟨w', ?_, hc⟩
   show _ = Result.ok (Next.value (.int .i64 (u : Int))) w'
   obtain ⟨z0, z2, z4, z5⟩ := CC.out f' g' w' hc
   simp only [execOp, e0]
   go_simp
  | 12, _ =>
   cases hi
   have e0 : ev (.tmp 39) = .int .i64 (f : Int) := hin 39 7 ⟨7, .data⟩
   have e1 : ev (.tmp 43) = .int .i64 (u : Int) := hin 43 11 ⟨11, .data⟩
   rw [if_neg (by decide), if_neg (by decide)]
   refine .inl ⟨w', ?_, hc⟩
   show _ = Result.ok (Next.value (.int .i64 (q : Int))) w'
   simp only [execOp, e0, e1, hcst]
   go_simp
  | 13, _ =>
   cases hi
   have e0 : ev (.tmp 0) = .pointer (some ⟨j, 0, none⟩) := hout 0
   rw [if_neg (by decide), if_neg (by decide)]
   refine .inl ⟨w', ?_, hc⟩
   simp [execOp, e0, hcst, go_sem]
  | 14, _ =>
   cases hi
   have e0 : ev (.tmp 45) = .pointer (some ⟨j, 0, none⟩) := hin 45 13 ⟨13, .data⟩
   rw [if_neg (by decide), if_neg (by decide)]
   refine .inl ⟨w', ?_, hc⟩
   show _ = Result.ok (Next.value (.pointer (some ⟨j, 0, none⟩))) w'
   simp only [execOp, e0, hcst]
   go_simp
  | 15, _ =>
   cases hi
   have e0 : ev (.tmp 46) = .pointer (some ⟨j, 0, none⟩) := hin 46 14 ⟨14, .data⟩
   rw [if_neg (by decide), if_neg (by decide)]
   refine .inl ⟨w', ?_, hc⟩
   show _ = Result.ok (Next.value (.pointer (some ⟨j, 5, none⟩))) w'
   simp only [execOp, e0, hcst]
   go_simp
  | 16, _ =>
   cases hi
   have e0 : ev (.tmp 47) = .pointer (some ⟨j, 5, none⟩) := hin 47 15 ⟨15, .data⟩
   rw [if_neg (by decide), if_neg (by decide)]
   refine .inl ⟨w', ?_, hc⟩
   show _ = Result.ok (Next.value (.int .u64 (gen : Int))) w'
   obtain ⟨z0, z2, z4, z5⟩ := CC.out f' g' w' hc
   simp only [execOp, e0]
   go_simp
  | 17, _ =>
   cases hi
   have e0 : ev (.tmp 1) = .slice a len cap := hout 1
   rw [if_neg (by decide), if_neg (by decide)]
   refine .inl ⟨w', ?_, hc⟩
   simp [execOp, e0, hcst, go_sem]
  | 18, _ =>
   cases hi
   have e0 : ev (.tmp 48) = .int .u64 (gen : Int) := hin 48 16 ⟨16, .data⟩
   have e1 : ev (.tmp 49) = .slice a len cap := hin 49 17 ⟨17, .data⟩
   obtain ⟨hf, hg⟩ := hy rfl
   subst hf hg
   rw [if_pos rfl, if_neg (by decide)]
   refine .inr (.inr ⟨118, #[.int .u64 (gen : Int), .slice a len cap], ?_, ?_⟩)
   ·have ef := hfn 118
    simp [execOp, resolve, invoke, ef, hcst, e0, e1, Result.andThen]
    exact entt32 _ _
   ·exact cA.out w' hc
  | 19, _ =>
   cases hi
   have e0 : ev (.tmp 35) = .pointer (some ⟨d, 0, none⟩) := hin 35 3 ⟨3, .data⟩
   have e1 : ev (.tmp 44) = .int .i64 (q : Int) := hin 44 12 ⟨12, .data⟩
   have e2 : ev (.tmp 50) = .slice (some ⟨G, 0, none⟩) N N := hin 50 18 ⟨18, .data⟩
   obtain ⟨hf, hg⟩ := hz rfl
   subst hf hg
   rw [if_neg (by decide), if_pos rfl]
   refine .inr (.inr ⟨88, #[.pointer (some ⟨d, 0, none⟩), .int .i64 (q : Int), .slice (some ⟨G, 0, none⟩) N N], ?_, ?_⟩)
   ·have ef := hfn 88
    simp [execOp, resolve, invoke, ef, hcst, e0, e1, e2, Result.andThen]
    exact entt31 _ _
   ·exact cB.out w' hc
  | 20, _ =>
   cases hi
   have e0 : ev (.tmp 51) = .int .i64 er := hin 51 19 ⟨19, .data⟩
   rw [if_neg (by decide), if_neg (by decide)]
   refine .inl ⟨w', ?_, hc⟩
   simp [execOp, e0, hcst, go_sem]
 ·intro w7 hc
  simp only [lexF, Act.put, List.setIfInBounds_toArray, List.set_cons_succ, List.set_cons_zero, List.getD_cons_succ, List.getD_cons_zero]
  have HC := hide' hc
  clear hc DR CF CC cA cB
  have t := HC.out
  rw [HCX.out] at t
  obtain ⟨F1, t1, t2, t3⟩ := t
  have T1 := hide' t1
  have T2 := hide' t2
  have T3 := hide' t3
  clear t1 t2 t3 HC HCX
  by_cases he : er = 0
  ·subst he
   have q0 := T1.out.jr.blk.cell (i := 0) rfl
   have q4 := T1.out.jr.blk.cell (i := 4) rfl
   rw [HO.out.used] at q4
   have z4 := T1.out.jr.blk.frozen 4
   have hu5 : u <= 5000 := by have := HU.out.1; have := HQ.out; omega
   have u1 : wrap64 ((u : Int) + 1) = (u : Int) + 1 := by unfold wrap64; omega
   have u2 : IntKind.i64.wrap ((u : Int) + 1) = (u : Int) + 1 := by rw [IntKind.wrap_i64]; omega
   obtain ⟨J2, hJ2⟩ : ∃ J2 : Jr, J2 = { J with used := J.used + 1 } := ⟨_, rfl⟩
   obtain ⟨W8, hW8⟩ : ∃ W8, w7.setCell ⟨j, 4, none⟩ (.int .i64 ((u : Int) + 1)) = W8 := ⟨_, rfl⟩
   have T4 : Hid (JD W8 j d m n F1 J2 (S.writeDo (q : Int) pg)) := by
    have := T1.out.setUsed ((u : Int) + 1)
    rw [hW8] at this
    rw [hJ2, HO.out.used]
    exact this
   have K8 : Hid (Keep (j :: m :: F) w W8) := by
    rw [<- hW8]
    exact (K1.out.trans T2.out.keep (fun x hx => .inl (by simp [hx]))).setCell (p := ⟨j, 4, none⟩) (.inl (by simp)) _
   have X8 : Hid (MksAt W8 a len xs) := by
    rw [<- hW8]
    refine ⟨T3.out.len, T3.out.fits, fun i x hxi => ?_⟩
    obtain ⟨b, o, ha, hb, hc⟩ := T3.out.cell i x hxi
    exact ⟨b, o, ha, by rw [World.size_setCell]; exact hb, hc.same (blk_setCell_other _ _ _ _ (show b ≠ j from (HX.out.off b o ha).2.1))⟩
   have S8 : Hid (w7.heap.size = W8.heap.size) := by rw [<- hW8, Hid, World.size_setCell]
   have q0' := T4.out.jr.blk.cell (i := 0) rfl
   have cF := hide' (flush_at d F1 (S.writeDo (q : Int) pg) W8 T4.out.dev)
   obtain ⟨e2, he2⟩ : ∃ e2, e2 = (S.writeDo (q : Int) pg).flushErr := ⟨_, rfl⟩
   rw [<- he2] at cF
   have HE2 := hide' he2
   have HJ2 := hide' hJ2
   clear he2 hJ2
   go_wp2_with fail
   refine cF.out.mono ?_
   rintro r w9 ⟨rfl, F2, hd9, m9⟩
   have hj9 : j ∉ F2 := fun hf => by rcases m9.foot j hf with h | h; exact T4.out.nj h; have := T4.out.jr.blk.lt; omega
   have hm9 : m ∉ F2 := fun hf => by rcases m9.foot m hf with h | h; exact T4.out.nm h; have := T4.out.jr.mlt; omega
   have T9 : Hid (JD w9 j d m n F2 J2 (S.writeDo (q : Int) pg).flushDo) := ⟨T4.out.jr.keep m9.keep T4.out.nj T4.out.nm, hd9, hj9, hm9⟩
   have F12 : Hid (∀ x ∈ F1, x ∈ F \/ w.heap.size <= x) := fun x hx => by
    rcases T2.out.foot x hx with h | h
    ·exact .inl h
    ·exact .inr (Nat.le_trans K1.out.size h)
   have FF : Hid (∀ x ∈ F2, x ∈ F \/ w.heap.size <= x) := fun x hx => by
    rcases m9.foot x hx with h | h
    ·exact F12.out x h
    ·exact .inr (Nat.le_trans K8.out.size h)
   have K9 : Hid (Keep (j :: m :: F) w w9) := K8.out.trans m9.keep (fun x hx => by
    rcases F12.out x hx with h | h
    ·exact .inl (by simp [h])
    ·exact .inr h)
   have X9 : Hid (MksAt w9 a len xs) := by
    refine ⟨X8.out.len, X8.out.fits, fun i x hxi => ?_⟩
    obtain ⟨b, o, ha, hb, hc⟩ := X8.out.cell i x hxi
    obtain ⟨b2, o2, ha2, hb2, _⟩ := X1.out.cell i x hxi
    rw [ha] at ha2
    cases ha2
    refine ⟨b, o, ha, Nat.lt_of_lt_of_le hb m9.keep.size, hc.same (m9.keep.block b hb (fun hf => ?_))⟩
    rcases T2.out.foot b hf with h | h
    ·exact (HX.out.off b o ha).1 h
    ·omega
   clear hd9 m9 hj9 hm9 cF T1 T2 T3 q0 q4 z4 q0' u1 u2
   by_cases he3 : e2 = 0
   ·subst he3
    have EA : Hid (addEr S q pg = 0 /\ addJr J S q pg xs = J2.keeps xs /\ addDv S q pg = (S.writeDo (q : Int) pg).flushDo) := by
     have e0 := HER.out
     have e1 := HE2.out
     refine ⟨?_, ?_, ?_⟩
     ·unfold addEr; rw [<- e0, if_neg (by decide), <- e1]
     ·unfold addJr; rw [<- e0, if_neg (by decide), <- e1, if_neg (by decide), HJ2.out]
     ·unfold addDv; rw [<- e0, if_neg (by decide)]
    clear hW8 T4 K8 X8 S8 J1 K1 X1 hrm0 hrm1 hfu hfu2 hfu3
    go_wp2_with fail
    go_loopg [72] len (fun kx s72 wr => ∃ i : Nat, s72 = .int .i64 i /\ i <= len /\ len - i <= kx /\ Hid (JD wr j d m (n + i) F2 (J2.keeps (xs.take i)) (S.writeDo (q : Int) pg).flushDo /\ Keep (j :: m :: F) w wr /\ MksAt wr a len xs))
    case atStart => exact ⟨0, rfl, Nat.zero_le _, by omega, T9.out, K9.out, X9.out⟩
    case round =>
     obtain ⟨i, rfl, hin, hg, I⟩ := hrel
     by_cases hlt : i < len
     ·have hlt2 : (i : Int) < (len : Int) := by omega
      have hl23 : len <= 23 := HU.out.2.1
      obtain ⟨x, hx⟩ : ∃ x, xs[i]? = some x := ⟨_, List.getElem?_eq_getElem (by rw [<- HXL.out]; exact hlt)⟩
      obtain ⟨b, o, ha, hb, hc⟩ := I.out.2.2.cell i x hx
      have hfx := I.out.2.2.fits x (List.mem_of_getElem? hx)
      subst ha
      have y0 := hc.c0
      have y1 := hc.c1
      have hb' : b < wr.heap.size := hb
      have HBM := hide' (HX.out.off b o rfl).2.2
      have XT : Hid (xs.take (i + 1) = xs.take i ++ [x]) := by
       obtain ⟨hi, hxx⟩ := List.getElem?_eq_some_iff.1 hx
       show _ = _
       rw [List.take_succ_eq_append_getElem hi, hxx]
      obtain ⟨k1, v1⟩ := x
      simp only at y0 y1
      have FX := hide' hfx
      clear hc hfx hx
      have hA := I.out.1.below ((Below.refl _ wr).alloc (Nat.le_refl _) (.cells #[.int .u64 (k1 : Int), .int .u64 (v1 : Int)] 115))
      have HA := hide' hA
      have cK := hide' (keep_any j d m (n + i) (J2.keeps (xs.take i)) k1 v1 FX.out.1 FX.out.2 (by have := HU.out; omega) _ hA.jr)
      clear hA
      go_wp2_with fail
      refine cK.out.mono ?_
      rintro r w10 ⟨rfl, hj10, k10⟩
      have I2 : Hid (JD w10 j d m (n + (i + 1)) F2 (J2.keeps (xs.take (i + 1))) (S.writeDo (q : Int) pg).flushDo /\ Keep (j :: m :: F) w w10 /\ MksAt w10 (some ⟨b, o, none⟩) len xs) := by
       refine ⟨⟨?_, HA.out.dev.same (fun k hk => k10.block k (HA.out.dev.lt k hk) (by simp; intro e; exact HA.out.nm (e ▸ hk))), HA.out.nj, HA.out.nm⟩, (I.out.2.1.alloc _).trans k10 (fun x hx => .inl (by simp at hx; simp [hx])), ?_⟩
       ·rw [XT.out, Jr.keeps_snoc]; exact hj10
       ·refine ⟨I.out.2.2.len, I.out.2.2.fits, fun i' x' hx' => ?_⟩
        obtain ⟨b2, o2, ha2, hb2, hc2⟩ := I.out.2.2.cell i' x' hx'
        cases ha2
        refine ⟨b, o, rfl, ?_, hc2.same ((k10.block b ?_ ?_).trans (blk_alloc_lt _ _ _ hb2))⟩
        ·have := k10.size; rw [World.size_alloc] at this; omega
        ·rw [World.size_alloc]; omega
        ·simpa using HBM.out
      clear hj10 k10 cK HA I y0 y1 hb'
      go_wp2
      go_roundg (len - (i + 1))
      case measure => omega
      case rel => exact ⟨i + 1, by go_num, by omega, by omega, I2.out⟩
     ·obtain rfl : i = len := by omega
      have hlt2 : ¬ (i : Int) < (i : Int) := by omega
      have TE : Hid (xs.take i = xs) := List.take_of_length_le (by rw [<- HXL.out]; exact Nat.le_refl _)
      go_wp2
      go_ret
      rw [EA.out.1, EA.out.2.1, EA.out.2.2]
      have := I.out.1
      rw [TE.out] at this
      exact ⟨rfl, F2, _, this, I.out.2.1, FF.out, Nat.le_refl _⟩
   ·have he4 : (e2 != 0) = true := by simpa using he3
    have EA : Hid (addEr S q pg = e2 /\ addJr J S q pg xs = J2 /\ addDv S q pg = (S.writeDo (q : Int) pg).flushDo) := by
     have e0 := HER.out
     have e1 := HE2.out
     refine ⟨?_, ?_, ?_⟩
     ·unfold addEr; rw [<- e0, if_neg (by decide), <- e1]
     ·unfold addJr; rw [<- e0, if_neg (by decide), <- e1, if_pos he3, HJ2.out]
     ·unfold addDv; rw [<- e0, if_neg (by decide)]
    clear he3
    go_wp2
    go_ret
    rw [EA.out.1, EA.out.2.1, EA.out.2.2]
    exact ⟨rfl, F2, n, T9.out, K9.out, FF.out, by omega⟩
  ·have he2 : (er != 0) = true := by simpa using he
   have EA : Hid (addEr S q pg = er /\ addJr J S q pg xs = J /\ addDv S q pg = S.writeDo (q : Int) pg) := by
    have e0 := HER.out
    refine ⟨?_, ?_, ?_⟩
    ·unfold addEr; rw [<- e0, if_pos he]
    ·unfold addJr; rw [<- e0, if_pos he]
    ·unfold addDv; rw [<- e0, if_pos he]
   clear he
   go_wp2
   go_ret
   rw [EA.out.1, EA.out.2.1, EA.out.2.2]
   refine ⟨rfl, F1, n, T1.out, K1.out.trans T2.out.keep (fun x hx => .inl (by simp [hx])), fun x hx => ?_, by omega⟩
   rcases T2.out.foot x hx with h | h
   ·exact .inl h
   ·exact .inr (Nat.le_trans K1.out.size h)
end Go.Proofs.YtcdghalnneilpaaGreat
