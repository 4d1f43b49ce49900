/- Joined texts. -/
import Derived.Test.YtcdghalnneilpaaGreatR27
import Derived.Test.YtcdghalnneilpaaGreatR31
set_option linter.unusedVariables false
set_option linter.unusedSimpArgs false
set_option maxRecDepth 8000
set_option maxHeartbeats 8000000
namespace Go.Proofs.YtcdghalnneilpaaGreat
open Go.RowKit Go.Deep Math
theorem enz78 (args : Array Value) (w : World) : (callFunc 78 args).run Tryz.prog w = .ok (.enter 78 args) w := enters_of Tryz.func78 (by kernel_rfl) rfl args w
def Jr.begun (J : Jr) (g : Nat) : Jr := { J with used := 0, gen := g, M := fun _ => none }
def En.wiped (E : En) : Sb := { E.b with hor := E.last, gen := (E.b.gen + 1) % 18446744073709551616 }
def WipeC (W0 : World) (j d : Nat) (J : Jr) (g : Nat) (s : Nat) (W : World) : Prop := if s = 0 then W = W0.drew else ∃ m', JrAt W j d m' 0 (J.begun g) /\ W0.heap.size <= m' /\ Keep [j] W0 W
def WipePost (w : World) (x d : Nat) (F : List Nat) (S : Dv) (E : En) (sp lp mp : Value) (j m : Nat) (J' : Jr) (w' : World) : Prop :=
 ∃ F' m' n', DvAt w' d F' (E.setD S E.wiped) /\ Blk w' x (enL d (E.setB S E.wiped) (.pointer (some ⟨j, 0, none⟩)) sp lp mp) 104 /\ JrAt w' j d m' n' J' /\ Keep (x :: j :: F) w w' /\ (∀ k ∈ F', k ∈ F \/ w.heap.size <= k) /\ (m' = m \/ w.heap.size <= m')
section
variable {w : World} {x d : Nat} {F : List Nat} {S : Dv} {E : En} {sp lp mp : Value} {j m n : Nat} {J : Jr}
theorem wipe_any (hb : Blk w x (enL d E (.pointer (some ⟨j, 0, none⟩)) sp lp mp) 104) (h : DvAt w d F S) (hx : x ∉ F) (hf : E.b.fits) (hl : E.last < 18446744073709551616) (hJ : JrAt w j d m n J) (hj : j ∉ F) (hm : m ∉ F) (hxm : x ≠ m) :
  Calls Tryz.prog 28 #[.pointer (some ⟨x, 0, none⟩)] w fun e w' => e = .returned (.int .i64 (E.setE S)) /\ WipePost w x d F S E sp lp mp j m (if E.setE S = 0 then J.begun E.wiped.gen else J) w' := by
 have hxj : x ≠ j := fun e => by
  have h1 : w.heap[x]? = _ := hb
  have h2 : w.heap[j]? = _ := hJ.blk
  rw [e, h2] at h1
  simp at h1
 have c9 := hb.cell (i := 9) rfl
 have c2 := hb.cell (i := 2) rfl
 have c3 := hb.cell (i := 3) rfl
 have c4 := hb.cell (i := 4) rfl
 have c5 := hb.cell (i := 5) rfl
 have c6 := hb.cell (i := 6) rfl
 have c7 := hb.cell (i := 7) rfl
 have c8 := hb.cell (i := 8) rfl
 have hbO := hb.same (w' := w.alloc (.cells #[.int .u64 E.b.seq, .int .u64 E.b.epoch, .int .u64 E.b.res, .int .u64 E.b.hor, .int .u64 E.b.gen, .bool E.b.clean, .int .i64 E.b.image] 30)) (blk_alloc_lt _ _ _ hb.lt)
 have c9' := hbO.cell (i := 9) rfl
 clear c9 hbO
 have hfw : E.wiped.fits := ⟨hf.seq, hf.epoch, hf.res, hl, Nat.mod_lt _ (by decide), hf.image0, hf.image1⟩
 obtain ⟨g, hg⟩ : ∃ g, E.wiped.gen = g := ⟨_, rfl⟩
 have e4 : IntKind.u64.wrap ((E.b.gen : Int) + 1) = (g : Int) := by
  rw [<- hg]
  show ((E.b.gen : Int) + 1) % 18446744073709551616 = (((E.b.gen + 1) % 18446744073709551616 : Nat) : Int)
  omega
 have HG := hide hg
 have HB := hide hb
 have HJ := hide hJ
 have HL := hide (h.lt)
 have KA : Hid (Keep (x :: j :: F) w (w.alloc (.cells #[.int .u64 E.b.seq, .int .u64 E.b.epoch, .int .u64 E.b.res, .int .u64 E.last, .int .u64 g, .bool E.b.clean, .int .i64 E.b.image] 30))) := (Keep.refl _ _).alloc _
 have hbA := hb.same (w' := w.alloc (.cells #[.int .u64 E.b.seq, .int .u64 E.b.epoch, .int .u64 E.b.res, .int .u64 E.last, .int .u64 g, .bool E.b.clean, .int .i64 E.b.image] 30)) (blk_alloc_lt _ _ _ hb.lt)
 have cS0 := set_any hbA (h.alloc _) hx E.wiped hfw
 have ev : E.wiped.val = .agg #[.int .u64 E.b.seq, .int .u64 E.b.epoch, .int .u64 E.b.res, .int .u64 E.last, .int .u64 g, .bool E.b.clean, .int .i64 E.b.image] := by unfold Sb.val; rw [hg]; rfl
 rw [ev] at cS0
 have cS := hide cS0
 clear ev cS0
 have hbN : Hid (Blk (w.alloc (.cells #[.int .u64 E.b.seq, .int .u64 E.b.epoch, .int .u64 E.b.res, .int .u64 E.last, .int .u64 g, .bool E.b.clean, .int .i64 E.b.image] 30)) w.heap.size (bkL E.wiped) 30) := by
  have := Blk.new w (bkL E.wiped) 30
  have e : bkL E.wiped = [.int .u64 E.b.seq, .int .u64 E.b.epoch, .int .u64 E.b.res, .int .u64 E.last, .int .u64 g, .bool E.b.clean, .int .i64 E.b.image] := by unfold bkL; rw [hg]; rfl
  rw [e] at this
  rw [e]
  exact this
 have HM : Hid (x ∉ F /\ j ∉ F /\ m ∉ F /\ x ≠ j /\ x ≠ m) := ⟨hx, hj, hm, hxj, hxm⟩
 have NF : Hid (w.heap.size ∉ F) := h.new _ (Nat.le_refl _)
 have HN : Hid ((w.alloc (.cells #[.int .u64 E.b.seq, .int .u64 E.b.epoch, .int .u64 E.b.res, .int .u64 E.last, .int .u64 g, .bool E.b.clean, .int .i64 E.b.image] 30)).heap.size = w.heap.size + 1) := nblk_alloc _ _
 rw [hg]
 clear hb hf hl hx hj hm hxj hxm hfw hbA h hJ hg
 obtain ⟨er, her⟩ : ∃ er, E.setE S = er := ⟨_, rfl⟩
 have HER := hide her
 rw [her]
 clear her
 go_enter Tryz.func28, Tryz.ntmps28
 go_wp2_with fail
 refine (cS.out).mono ?_
 rintro r w1 ⟨rfl, F', hd1, hb1, hk1, hf1⟩
 rw [HER.out]
 have hK : Keep (x :: j :: F) w w1 := KA.out.trans hk1 (fun k hk => .inl (by
  rcases List.mem_cons.1 hk with rfl | h1
  ·exact List.mem_cons_self ..
  ·exact List.mem_cons_of_mem _ (List.mem_cons_of_mem _ h1)))
 have hF : ∀ k ∈ F', k ∈ F \/ w.heap.size <= k := fun k hk => by
  rcases hf1 k hk with h1 | h1
  ·exact .inl h1
  ·exact .inr (Nat.le_trans KA.out.size h1)
 have hJA : JrAt (w.alloc (.cells #[.int .u64 E.b.seq, .int .u64 E.b.epoch, .int .u64 E.b.res, .int .u64 E.last, .int .u64 g, .bool E.b.clean, .int .i64 E.b.image] 30)) j d m n J := HJ.out.below ((Below.refl _ _).alloc (Nat.le_refl _) _)
 have hJ1 : JrAt w1 j d m n J := hJA.keep hk1 (by simpa using ⟨fun e => HM.out.2.2.2.1 e.symm, HM.out.2.1⟩) (by simpa using ⟨fun e => HM.out.2.2.2.2 e.symm, HM.out.2.2.1⟩)
 have hN1 : Blk w1 w.heap.size (bkL E.wiped) 30 := hbN.out.same (hk1.block _ (by rw [HN.out]; omega) (by
  have := HB.out.lt
  simp only [List.mem_cons, not_or]
  exact ⟨by omega, NF.out⟩))
 have HD1 := hide hd1
 have HK1 := hide hK
 have HF1 := hide hF
 have HB1 := hide hb1
 have HJ1 := hide hJ1
 have hxF' : Hid (x ∉ F') := fun hk => by
  rcases hF _ hk with h1 | h1
  ·exact HM.out.1 h1
  ·have := HB.out.lt; omega
 have hjF' : Hid (j ∉ F') := fun hk => by
  rcases hF _ hk with h1 | h1
  ·exact HM.out.2.1 h1
  ·have := HJ.out.blk.lt; omega
 have hsz : Hid (w.heap.size <= w1.heap.size) := hK.size
 clear hd1 hK hF hk1 hf1 hJA hJ1 cS KA c2 c3 c4 c5 c6 c7 c8 c9'
 by_cases hz : er = 0
 ·subst hz
  have C10 := hide (hb1.cell (i := 10) rfl)
  have CG : Hid (w1.cell? ⟨w.heap.size, 4, none⟩ = some (.int .u64 (g : Nat))) := by
   have := hN1.cell (i := 4) rfl
   rw [<- HG.out]
   exact this
  have cB : Hid (Calls Tryz.prog 78 #[.pointer (some ⟨j, 0, none⟩), .int .u64 (g : Nat)] w1.drew fun e w' => e = .returned (.tuple #[]) /\ ∃ m', JrAt w' j d m' 0 (J.begun g) /\ w1.drew.heap.size <= m' /\ Keep [j] w1.drew w') := begin_any j d m n J g w1.drew (HJ1.out.same rfl rfl)
  have CS : Hid (∀ W', WipeC w1 j d J g 0 W' -> Calls Tryz.prog 78 #[.pointer (some ⟨j, 0, none⟩), .int .u64 (g : Nat)] W' fun e w' => e = .returned (.tuple #[]) /\ WipeC w1 j d J g 1 w') := fun W' hW => by
   cases (show W' = w1.drew from hW)
   refine cB.out.mono ?_
   rintro e w' ⟨rfl, m', h1, h2, h3⟩
   exact ⟨rfl, m', h1, h2, ⟨h3.os, h3.tape, h3.output, h3.size, h3.block⟩⟩
  clear hb1 hN1 HG HER hbN HN NF
  generalize w.heap.size = N at CG ⊢
  go_wp2_with fail
  refine wp_region_chain (by kernel_rfl) (by kernel_rfl) (fun jx => ([.pointer (some ⟨x, 0, none⟩), .pointer (some ⟨x, 0, none⟩), .pointer (some ⟨x, 10, none⟩), .pointer (some ⟨j, 0, none⟩), .pointer (some ⟨N, 4, none⟩), .int .u64 (g : Nat), .tuple #[]] : List Value).getD jx undef) [6] (by kernel_rfl) (WipeC w1 j d J g) (rfl) ?_ ?_
  ·intro jx ox hi sx w' ev hlm hks hc hin hout hcst hfn
   have hltx : jx < 7 := by
    have := (Array.getElem?_eq_some_iff.1 hi).1
    simpa using this
   match jx, hltx with
   | 0, _ =>
    cases hi
    have e0 : ev (.tmp 0) = .pointer (some ⟨x, 0, none⟩) := hout 0
    rw [if_neg (by decide)]
    refine .inl ⟨w', ?_, hc⟩
    simp [execOp, e0, hcst, go_sem]
   | 1, _ =>
    cases hi
    have e0 : ev (.tmp 24) = .pointer (some ⟨x, 0, none⟩) := hin 24 0 ⟨0, .data⟩
    rw [if_neg (by decide)]
    refine .inl ⟨w', ?_, hc⟩
    simp [execOp, e0, hcst, go_sem]
   | 2, _ =>
    cases hi
    have e0 : ev (.tmp 25) = .pointer (some ⟨x, 0, none⟩) := hin 25 1 ⟨1, .data⟩
    rw [if_neg (by decide)]
    refine .inl ⟨w', ?_, hc⟩
    simp [execOp, e0, hcst, go_sem]
   | 3, _ =>
    cases hi
    have e0 : ev (.tmp 26) = .pointer (some ⟨x, 10, none⟩) := hin 26 2 ⟨2, .data⟩
    rw [if_neg (by decide)]
    refine .inl ⟨w', ?_, hc⟩
    show _ = Result.ok (Next.value (.pointer (some ⟨j, 0, none⟩))) w'
    have hl2 : sx <= 0 := Nat.le_trans hlm (Nat.le_of_eq (by kernel_rfl))
    have hs0 : sx = 0 := by omega
    subst hs0
    have hq : w'.cell? ⟨x, 10, none⟩ = some (.pointer (some ⟨j, 0, none⟩)) := by rw [show w' = _ from hc]; exact C10.out
    simp [execOp, e0, hq, hcst, go_sem]
   | 4, _ =>
    cases hi
    have e0 : ev (.tmp 3) = .pointer (some ⟨N, 0, none⟩) := hout 3
    rw [if_neg (by decide)]
    refine .inl ⟨w', ?_, hc⟩
    simp [execOp, e0, hcst, go_sem]
   | 5, _ =>
    cases hi
    have e0 : ev (.tmp 28) = .pointer (some ⟨N, 4, none⟩) := hin 28 4 ⟨4, .data⟩
    rw [if_neg (by decide)]
    refine .inl ⟨w', ?_, hc⟩
    show _ = Result.ok (Next.value (.int .u64 (g : Nat))) w'
    have hl2 : sx <= 0 := Nat.le_trans hlm (Nat.le_of_eq (by kernel_rfl))
    have hs0 : sx = 0 := by omega
    subst hs0
    have hq : w'.cell? ⟨N, 4, none⟩ = some (.int .u64 (g : Nat)) := by rw [show w' = _ from hc]; exact CG.out
    simp [execOp, e0, hq, hcst, go_sem]
   | 6, _ =>
    cases hi
    have e0 : ev (.tmp 27) = .pointer (some ⟨j, 0, none⟩) := hin 27 3 ⟨3, .data⟩
    have e1 : ev (.tmp 29) = .int .u64 (g : Nat) := hin 29 5 ⟨5, .data⟩
    rw [if_pos (by decide)]
    have hsx : sx = 0 := hks 0 rfl
    subst hsx
    refine .inr (.inr ⟨78, #[.pointer (some ⟨j, 0, none⟩), .int .u64 (g : Nat)], ?_, ?_⟩)
    ·have ef := hfn 78
     simp [execOp, resolve, invoke, ef, hcst, e0, e1, Result.andThen]
     exact enz78 _ _
    ·exact CS.out w' hc
  ·intro w7 hc
   simp only [lexF, Act.put, List.setIfInBounds_toArray, List.set_cons_succ, List.set_cons_zero, List.getD_cons_succ, List.getD_cons_zero]
   obtain ⟨m', hj7, hm7, hk7⟩ : ∃ m', JrAt w7 j d m' 0 (J.begun g) /\ w1.heap.size <= m' /\ Keep [j] w1 w7 := hc
   have HJ7 := hide hj7
   have HM7 := hide hm7
   have HK7 := hide hk7
   clear hj7 hm7 hk7
   go_wp2
   go_ret
   refine ⟨rfl, F', m', 0, HD1.out.same (fun k hk => HK7.out.block k (HD1.out.lt k hk) (by simp only [List.mem_singleton]; intro e; exact hjF'.out (by rw [<- e]; exact hk))), HB1.out.same (HK7.out.block _ HB1.out.lt (by simpa using HM.out.2.2.2.1)), HJ7.out, HK1.out.trans HK7.out (fun k hk => .inl (by rw [List.mem_singleton.1 hk]; exact List.mem_cons_of_mem _ (List.mem_cons_self ..))), HF1.out, .inr (Nat.le_trans hsz.out HM7.out)⟩
 ·have hne : (er != 0) = true := by simpa using hz
  clear hb1 hN1
  go_wp2
  go_ret
  exact ⟨rfl, F', m, n, HD1.out, HB1.out, by simpa [hz] using HJ1.out, HK1.out, HF1.out, .inl rfl⟩
end
variable {w0 W W' : World} {d s : Nat} {F F' : List Nat} {S S' : Dv} {L : Int} {first : Nat} {M : SM}
theorem ItsAt.same {w w' : World} {a : Option Addr} {len : Nat} {xs : List It} (h : ItsAt w a len xs) (hs : w.heap.size <= w'.heap.size) (k : ∀ b o, a = some ⟨b, o, none⟩ -> w'.heap[b]? = w.heap[b]?) : ItsAt w' a len xs :=
 ⟨h.len, h.fits, fun i x hx => by
  obtain ⟨b, o, ha, hb, hc⟩ := h.cell i x hx
  exact ⟨b, o, ha, Nat.lt_of_lt_of_le hb hs, hc.same (k b o ha)⟩⟩
theorem Oks.of_good {xs : List It} (h : ∀ x ∈ xs, x.fits /\ x.good = true) : Oks xs := fun x hx => by
 have := good_sizes (h x hx).2
 exact ⟨(h x hx).1, by omega, by omega⟩
def keyB (l : List Bool) (x : It) : List Bool := Bl.setB l (Bl.plc (txt x.key) 256 3)
def toldB (xs : List It) : List Bool := xs.foldl keyB (List.replicate 256 false)
theorem keyB_length (l : List Bool) (x : It) : (keyB l x).length = l.length := Bl.setB_length _ _
theorem toldB_snoc (xs : List It) (x : It) : toldB (xs ++ [x]) = keyB (toldB xs) x := by simp [toldB]
theorem foldB_length (xs : List It) : ∀ l : List Bool, (xs.foldl keyB l).length = l.length := by
 induction xs with
 | nil => intro l; rfl
 | cons x r ih => intro l; rw [List.foldl_cons, ih, keyB_length]
theorem toldB_length (xs : List It) : (toldB xs).length = 256 := by unfold toldB; rw [foldB_length, List.length_replicate]
theorem filter_ok (h : Bk w0 W d F S s L first M) (hL : L = S.losses) (hoff : S.off = false) (at0 : Nat) (c : Cl) (hk : S.cs[first + at0]? = some c) (hcf : c.now.fits) :
  Calls Tryz.prog 153 #[.pointer (some ⟨s, 0, none⟩), .int .i64 at0] W fun e W' => e = .returned (.tuple #[.pointer (some ⟨W.heap.size + 1, 0, none⟩), .int .i64 0]) /\
   Bl.FltIn W' (W.heap.size + 1) W.heap.size (toldB c.now.its) 3 /\ Bk w0 W' d F (S.readDo (first + at0 : Nat)) s L first M /\ Keep F W W' := by
 have cN := hide (Bl.new_ok 256 3 W (by omega) (by omega) (by omega) (by omega))
 obtain ⟨N, hN⟩ : ∃ N, N = W.heap.size := ⟨_, rfl⟩
 rw [<- hN] at cN ⊢
 have H := hide h
 have HL := hide hL
 have HO := hide hoff
 have HK := hide hk
 have HC := hide (Pg.its_all c.now hcf)
 have HNN := hide hN
 obtain ⟨xs, hxs⟩ : ∃ xs, xs = c.now.its := ⟨_, rfl⟩
 rw [<- hxs] at HC ⊢
 have HXS := hide hxs
 have hxl : xs.length <= 100 := by have h1 := HC.out.1; have h2 := total_len xs; omega
 clear h hL hoff hk hcf hN hxs
 go_enter Tryz.func153, Tryz.ntmps153
 go_wp2_with fail
 refine cN.out.mono ?_
 rintro e w1 ⟨rfl, hf, b1⟩
 rw [HNN.out] at b1
 have H1 := hide (H.out.below b1)
 have F1 := hide hf
 have B1 := hide b1
 have cT := hide (list_ok H1.out HL.out HO.out at0 c HK.out)
 clear hf b1 cN
 go_wp2_with fail
 refine cT.out.mono ?_
 rintro e w2 ⟨v, rfl, hr, hb2, k2⟩
 rw [<- HXS.out] at hr
 have hNF : N ∉ F /\ N + 1 ∉ F := ⟨by rw [HNN.out]; exact H.out.law.dev.new _ (Nat.le_refl _), by rw [HNN.out]; exact H.out.law.dev.new _ (by omega)⟩
 have F2 := hide (F1.out.keep k2 hNF.2 hNF.1)
 have H2 := hide hb2
 have K2 := hide k2
 obtain ⟨a, cap, rfl, hI, hq, _, _⟩ := hr.its (Oks.of_good HC.out.2)
 have hw1 : N < w1.heap.size := F1.out.row.lt
 have HQ : Hid (∀ b o, a = some ⟨b, o, none⟩ -> b ≠ N) := fun b o hab => by
  have := (hr.lt b (by rw [hab]; rfl)).1
  omega
 have HI := hide hI
 obtain ⟨n, hn⟩ : ∃ n, n = xs.length := ⟨_, rfl⟩
 rw [<- hn] at HI hxl ⊢
 have HN2 := hide hn
 clear hr hb2 k2 cT hI hq hn
 go_wp2_with fail
 go_loopg [26] n (fun kx s26 wr => ∃ i : Nat, s26 = .int .i64 i /\ i <= n /\ n - i <= kx /\ Hid (Bl.FltIn wr (N + 1) N (toldB (xs.take i)) 3 /\ Keep [N] w2 wr))
 case atStart => exact ⟨0, rfl, Nat.zero_le _, by omega, F2.out, Keep.refl _ _⟩
 case round =>
  obtain ⟨i, rfl, hin, hg, I⟩ := hrel
  by_cases hlt : i < n
  ·have hlt2 : (i : Int) < (n : Int) := by omega
   obtain ⟨x, hx⟩ : ∃ x, xs[i]? = some x := ⟨_, List.getElem?_eq_getElem (by rw [<- HN2.out]; exact hlt)⟩
   have IW := HI.out.same I.out.2.size (fun b o hab => I.out.2.block b (by
    obtain ⟨b', o', ha', hb', _⟩ := HI.out.cell i x hx
    rw [hab] at ha'
    cases ha'
    exact hb') (by simpa using HQ.out b o hab))
   obtain ⟨b, o, rfl, hb, hc⟩ := IW.cell i x hx
   obtain ⟨c0, c1, c2, c3, c4⟩ := hc.vals
   have hxg := good_sizes (HC.out.2 x (List.mem_of_getElem? hx)).2
   have cA := hide (fun (V : World) (hV : Bl.FltIn V (N + 1) N (toldB (xs.take i)) 3) => Bl.add_any (N + 1) N 3 (toldB (xs.take i)) (txt x.key) (by rw [txt_size]; unfold maxLen; omega) V hV)
   rw [toldB_length] at cA
   have TT : Hid (toldB (xs.take (i + 1)) = Bl.setB (toldB (xs.take i)) (Bl.plc (txt x.key) 256 3)) := by
    show _ = _
    rw [List.take_add_one, hx]
    exact toldB_snoc _ _
   clear hc hx IW hxg
   go_wp2_with fail
   refine (cA.out _ (I.out.1.alloc _)).mono ?_
   rintro e w3 ⟨rfl, hf3, k3⟩
   have F3 := hide hf3
   have K3 := hide ((I.out.2.alloc (.cells #[.string (txt x.key), .string (txt x.value), .int .u32 x.flags, .int .i64 x.exp, .int .u64 x.ver] 39)).trans k3 (fun q hq => .inl hq))
   clear hf3 k3 cA
   go_wp2
   go_roundg (n - (i + 1))
   case measure => omega
   case rel => exact ⟨i + 1, rfl, by omega, by omega, by rw [TT.out]; exact F3.out, K3.out⟩
  ·obtain rfl : i = n := by omega
   have hlt2 : ¬ (i : Int) < (i : Int) := by omega
   have I' := I.out
   rw [HN2.out, List.take_length] at I'
   have II := hide I'
   have NS : Hid (N ∉ M.foot s /\ w0.heap.size <= N) := ⟨fun hf => by have := H.out.st.lt N hf; have := HNN.out; omega, by rw [HNN.out]; exact H.out.law.bel.size⟩
   have HNF := hide hNF
   clear I' hNF
   go_wp2
   go_ret2
   refine ⟨rfl, II.out.1, H2.out.keep II.out.2 (fun b hb => by simp at hb; subst hb; exact ⟨HNF.out.1, NS.out⟩), ?_⟩
   have k0 : Keep F W w1 := Keep.of_below B1.out
   exact (k0.trans K2.out (fun q hq => .inl hq)).trans II.out.2 (fun q hq => by simp at hq; subst hq; exact .inr (by have := HNN.out; omega))
end Go.Proofs.YtcdghalnneilpaaGreat
