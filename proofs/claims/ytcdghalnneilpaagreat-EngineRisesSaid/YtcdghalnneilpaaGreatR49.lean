/- Joined texts. -/
import Derived.Test.YtcdghalnneilpaaGreatR48
set_option linter.unusedVariables false
set_option linter.unusedSimpArgs false
set_option maxRecDepth 8000
set_option maxHeartbeats 8000000
namespace Go.Proofs.YtcdghalnneilpaaGreat
open Go.RowKit Go.Shelf Go.Deep Math
attribute [local go_sem] Oper.semAt_some
theorem mksTo_fits (may : List UInt8 -> Bool) (last : Nat) (ks : List (List UInt8)) (hla : last < 18446744073709551616) : ∀ i, ∀ y ∈ mksTo may last ks i, Mk.fits y
 | 0, y, hy => by simp [mksTo] at hy
 | i + 1, y, hy => by
  unfold mksTo at hy
  rcases List.mem_append.1 hy with h | h
  ·exact mksTo_fits may last ks hla i y h
  ·split at h
   ·split at h
    ·rename_i k _ _
     rw [List.mem_singleton.1 h]
     exact ⟨by have := Bl.hashK_range (txt k); show (Bl.hashK (txt k)).toNat < _; omega, hla⟩
    ·cases h
   ·cases h
theorem MRow.open_ {w : World} {base : Nat} {va : Option Addr} {vn vc : Nat} {ms : List Mk} (h : MRow w base (.slice va vn vc) ms) : vn = ms.length /\ (0 < ms.length -> ∃ g, va = some ⟨g, 0, none⟩ /\ base <= g /\ g < w.heap.size /\ vn <= vc) := by
 rcases h.2 with ⟨hv, h0⟩ | ⟨g, cap, cur, hv, hb, hh, hc, hm, hs, ht⟩
 ·cases hv
  exact ⟨h0.symm, fun h => by omega⟩
 ·cases hv
  exact ⟨rfl, fun _ => ⟨g, rfl, hb, (Array.getElem?_eq_some_iff.1 hh).1, hc⟩⟩
theorem chunk_near (m : Nat) (hm : 1 <= m) (sb nb g len cap t : Nat) (a : Option Addr) (ha : 0 < len -> a = some ⟨g, 0, none⟩) (ht : t = chN len) (hlen : len <= 40000) (hcap : 0 < len -> len <= cap) (w : World)
  (hsb : w.cell? ⟨sb, 0, none⟩ = some (.slice a len cap)) (hnb : w.cell? ⟨nb, 0, none⟩ = some (.int .i64 23)) :
  SeqNear Fence.wide m Tryz.prog 115 #[.pointer (some ⟨sb, 0, none⟩), .pointer (some ⟨nb, 0, none⟩)] (fun x : Fin t => #[chV g len x.val]) (KpC sb nb)
   (fun ys => ys = uptoF t t) (fun pre => ∃ k, k <= t /\ pre = uptoF t k) t w := fun l J Jx W hW hJ hY h0 =>
 chunk_in m hm l sb nb g len cap t a ha ht hlen hcap J Jx hJ hY W (cell_later hW hsb) (cell_later hW hnb) h0
section
variable {w0 w w' : World} {x d : Nat} {E : En} {j m nj : Nat} {J : Jr} {s first n : Nat} {S S' : Dv} {f : Nat -> List It} {bs : List (List Bool)} {G : List Nat} {l ml : Nat} {v5 v6 v7 : Value} {T : Lg}
theorem KpC.b {sb nb K : Nat} (h1 : sb < K) (h2 : nb < K) (W : World) (o' : Obj) : KpC sb nb W (W.putObj K o') := by
 have e1 : (W.putObj K o').heap[sb]? = W.heap[sb]? := World.putObj_heap_other (by omega)
 have e2 : (W.putObj K o').heap[nb]? = W.heap[nb]? := World.putObj_heap_other (by omega)
 exact ⟨by simp only [World.cell?, e1], by simp only [World.cell?, e2]⟩
set_option maxRecDepth 100000 in
theorem remove_by (h : EnAt w0 w x d E j m nj J s first n S f bs G l ml v5 v6 v7 T) (a : Option Addr) (kn kc : Nat) (ks : List (List UInt8)) (hks : KeysAt w a ks) (hkn : kn = ks.length) (hkc : kn <= kc) (hmax : kn <= 30000) (hla : E.last < 18446744073709551616) (ms : List Mk) (hms : ms = mksTo (mayF bs n T) E.last ks kn)
  (jf jp u : Nat) (ho : J.ok S jf jp u) (hfp : jf + jp <= first) (hgen : J.gen < 18446744073709551616) (hl : S.losses = J.losses) (hlE : S.losses = E.losses) (hn : nj < 800000) (h22 : 2 <= first) (hq : ∀ (L : List (List Mk)) (S1 : Dv), S1.cs = csL S.cs (jf + u) J.gen L -> S1.lastSeq ≠ 18446744073709551615) (hf : E.b.fits)
  (R : Ending -> World -> Prop) (hR1 : Hid (∀ w', (u + chN ms.length <= jp /\ ∃ S' G' n', EnAt w0 w' x d E j m n' (J.addL (ckAll ms)) s first n S' f bs G' l ml v5 v6 v7 T /\ n' <= nj + 23 * chN ms.length /\ S'.cs = csL S.cs (jf + u) J.gen (ckAll ms) /\ S'.losses = S.losses /\ Keep (j :: m :: G) w w' /\ ∀ q ∈ G', q ∈ G \/ w.heap.size <= q) -> R (.returned (.int .i64 0)) w'))
  (hR2 : Hid (∀ w', (jp < u + chN ms.length /\ ∃ (L : List (List Mk)) (S1 : Dv) (G' : List Nat) (m' n' : Nat), u + L.length = jp /\ S1.cs = csL S.cs (jf + u) J.gen L /\ S1.losses = S.losses /\ EnAt w0 w' x d { E with b := S1.nextB E.wiped } j m' n' ((J.addL L).begun E.wiped.gen) s first n (S1.storeDo E.wiped) f bs G' l ml v5 v6 v7 T /\ Keep (x :: j :: m :: G) w w' /\ (∀ q ∈ G', q ∈ G \/ w.heap.size <= q) /\ (m' = m \/ w.heap.size <= m')) -> R (.returned (.int .i64 0)) w')) :
  Calls Tryz.prog 16 #[.pointer (some ⟨x, 0, none⟩), .slice a kn kc] w R := by
 have hml : ms.length <= 30000 := by
  have := mksTo_len (mayF bs n T) E.last ks kn
  rw [<- hms] at this; omega
 have hfits : ∀ y ∈ ms, Mk.fits y := by rw [hms]; exact mksTo_fits _ _ _ hla _
 obtain ⟨w2, hw2⟩ : ∃ w2, (w.alloc (.cells #[.pointer (some ⟨x, 0, none⟩)] 27)).alloc (.cells #[.int .i64 0] 24) = w2 := ⟨_, rfl⟩
 have b2 : Below w.heap.size w w2 := by rw [<- hw2]; exact ((Below.refl _ _).alloc (Nat.le_refl _) _).alloc (by simp) _
 have h2 := h.below b2
 have hsz2 : w2.heap.size = w.heap.size + 2 := by rw [<- hw2]; simp
 have x2 : Blk w2 w.heap.size [.pointer (some ⟨x, 0, none⟩)] 27 := by rw [<- hw2]; exact (Blk.new w [.pointer (some ⟨x, 0, none⟩)] 27).alloc _
 have r2 : Blk w2 (w.heap.size + 1) [.int .i64 0] 24 := by
  have := Blk.new (w.alloc (.cells #[.pointer (some ⟨x, 0, none⟩)] 27)) [.int .i64 0] 24
  rw [nblk_alloc, hw2] at this
  exact this
 have c2 := x2.cell (i := 0) rfl
 have cM : Hid (CallsIn Fence.wide 4 Tryz.prog 56 #[.pointer (some ⟨x, 0, none⟩), .slice a kn kc] w2 fun e w' => ∃ va vn vc, e = .returned (.slice va vn vc) /\ MRow w' w2.heap.size (.slice va vn vc) ms /\ Below w2.heap.size w2 w') := callsIn_wide.2 (by rw [hms]; exact marks_en h2 a kn kc ks (hks.below rfl b2) hkn hkc (by omega))
 have cC : Hid (∀ (W : World) (va : Option Addr) (vn vc : Nat), CallsIn Fence.wide 4 Tryz.prog 55 #[.slice va vn vc, .int .i64 23] W fun e w' => e = .returned (.func (.func 115) #[] #[.pointer (some ⟨W.heap.size, 0, none⟩), .pointer (some ⟨W.heap.size + 1, 0, none⟩)]) /\
   w' = (W.alloc (.cells #[.slice va vn vc] 113)).alloc (.cells #[.int .i64 23] 3)) := fun W va vn vc => callsIn_wide.2 (chunk_any va vn vc W)
 have H2 := hide h2
 have HB2 := hide b2
 have X2 := hide (And.intro x2 r2)
 have HH := hide h
 have HKS := hide hks
 have HQ := hide hq
 have HO := hide ho
 clear h2 b2 x2 r2 h hks hkn hms hq hkc hmax ho
 refine (callsIn_wide (n := 5)).1 ?_
 refine callsIn_of_wp_marks Tryz.func16 rfl trivial ?_ rfl
 simp only [Tryz.ntmps16, List.size_toArray, List.length_cons, List.length_nil, Nat.reduceAdd, Nat.reduceSub, Array.replicate_succ, Array.replicate_zero, List.push_toArray, List.append_toArray, List.nil_append, List.cons_append]
 gi_wp2_with fail
 refine ⟨trivial, ?_⟩
 gi_at_call 56
 refine cM.out.mono ?_
 rintro e w3 ⟨va, vn, vc, rfl, hrow, b3⟩
 obtain ⟨hvn, hgo⟩ := hrow.open_
 obtain ⟨g, hg⟩ : ∃ g, 0 < ms.length -> va = some ⟨g, 0, none⟩ /\ vn <= vc := by
  by_cases h0 : 0 < ms.length
  ·obtain ⟨g, h1, _, _, h4⟩ := hgo h0
   exact ⟨g, fun _ => ⟨h1, h4⟩⟩
  ·exact ⟨0, fun h => absurd h h0⟩
 subst hvn
 gi_wp2_with fail
 refine ⟨trivial, ?_⟩
 gi_at_call 55
 refine (cC.out _ _ _ _).mono ?_
 rintro e w' ⟨rfl, rfl⟩
 gi_wp2_with fail
 obtain ⟨w4, hw4⟩ : ∃ w4, (w3.alloc (.cells #[.slice va ms.length vc] 113)).alloc (.cells #[.int .i64 23] 3) = w4 := ⟨_, rfl⟩
 have s4 : Blk w4 w3.heap.size [.slice va ms.length vc] 113 := by rw [<- hw4]; exact (Blk.new w3 [.slice va ms.length vc] 113).alloc _
 have n4 : Blk w4 (w3.heap.size + 1) [.int .i64 23] 3 := by
  have := Blk.new (w3.alloc (.cells #[.slice va ms.length vc] 113)) [.int .i64 23] 3
  rw [nblk_alloc, hw4] at this
  exact this
 have b4 : Below w3.heap.size w3 w4 := by rw [<- hw4]; exact ((Below.refl _ _).alloc (Nat.le_refl _) _).alloc (by simp) _
 have hsz4 : w4.heap.size = w3.heap.size + 2 := by rw [<- hw4]; simp
 have hsz3 := b3.size
 have h4 := (H2.out.below b3).below b4
 have hrow4 : MRow w4 (w.heap.size + 2) (.slice va ms.length vc) ms := (hrow.keep (fun q hq => b4.block q (hrow.lt q hq).2)).mono (by omega)
 have bb : RmB w0 w w4.heap.size x j m G l ml v5 v6 v7 T (.slice va ms.length vc) := ⟨HH.out.lt, by omega, HH.out.bu.bel.size, fun q hq => by have := (hrow.lt q hq).2; omega⟩
 have b34 : Below w.heap.size w w4 := (HB2.out.trans (b3.mono (by omega))).trans (b4.mono (by omega))
 have I0 : RmI w0 w w4.heap.size x d E j m nj J s first n S f bs G l ml v5 v6 v7 T jf jp u ms (.slice va ms.length vc) [] w4 :=
  ⟨⟨S, G, nj, by rw [addL_nil]; exact h4, by simp, rfl, rfl, fun q hq => .inl hq⟩, HO.out.le, Keep.of_below b34, Nat.le_refl _,
   (X2.out.1.same (b3.block _ X2.out.1.lt)).same (b4.block _ (Nat.lt_of_lt_of_le X2.out.1.lt hsz3)), (X2.out.2.same (b3.block _ X2.out.2.lt)).same (b4.block _ (Nat.lt_of_lt_of_le X2.out.2.lt hsz3)), hrow4⟩
 simp only [hw4]
 have HW4 := hide hw4
 clear cM cC hw4 h4 hrow4 H2 HB2 X2 HKS b34
 refine range_but rfl (by omega) (gf := 115) (lb := #[.pointer (some ⟨w3.heap.size, 0, none⟩), .pointer (some ⟨w3.heap.size + 1, 0, none⟩)]) rfl trivial (enters_of Tryz.func115 (by kernel_rfl) rfl)
  (chunk_near (5 - 1) (by omega) w3.heap.size (w3.heap.size + 1) g ms.length vc (chN ms.length) va (fun h => (hg h).1) rfl (by omega) (fun h => (hg h).2) w4 (s4.cell (i := 0) rfl) (n4.cell (i := 0) rfl))
  (fun h k => KpC.t h k) (KpC.b (by omega) (by omega)) (Below.refl _ _) (fun _ => rfl)
  (fun pre W => RmI w0 w w4.heap.size x d E j m nj J s first n S f bs G l ml v5 v6 v7 T jf jp u ms (.slice va ms.length vc) (pre.map (fun i => ckM ms i.val)) W)
  (fun pre W => (∃ k, k < pre.length /\ u + k = jp) /\ RmX w0 w w4.heap.size x d E j m J s first n S f bs G l ml v5 v6 v7 T jf jp u W)
  (RmI.own bb (by omega)) (fun pre A A' row hs hg' hr => ⟨hs.1, RmX.own (α := Nat) bb [] A A' row hs.2 hg' hr⟩)
  (fun o => RmI.turn (I0.turn bb (Keep.of_below ((Below.refl _ _).alloc (Nat.le_refl _) _)) (.inl rfl)) bb (N := (w4.alloc (.deferred (some []))).heap.size) (Keep.of_below ((Below.refl _ _).alloc (Nat.le_refl _) _)) (.inl rfl))
  (fun i => { tmps := #[.pointer (some ⟨x, 0, none⟩), .slice a kn kc, .pointer (some ⟨w.heap.size, 0, none⟩), undef, .pointer (some ⟨w.heap.size + 1, 0, none⟩), chV g ms.length i.val, undef, .pointer (some ⟨x, 0, none⟩), .slice a kn kc, .slice va ms.length vc, .func (.func 115) #[] #[.pointer (some ⟨w3.heap.size, 0, none⟩), .pointer (some ⟨w3.heap.size + 1, 0, none⟩)], chV g ms.length i.val, undef, undef, undef, undef, undef, undef, undef, undef, undef, undef, undef, undef, undef, undef], defers := [] }) ?assign ?body ?done ?stop
 case assign =>
  intro l x W K hK
  gi_wp2
  exact hK
 case body =>
  rintro l0 pre i W hI hp ⟨o1, d1, d2⟩ ⟨o2, d3, d4⟩
  have hlt : 23 * i.val < ms.length := by have := i.isLt; unfold chN at this; omega
  have hcn : 23 * chN ms.length <= 30022 := by unfold chN; omega
  have c0 := hI.box.cell (i := 0) rfl
  obtain ⟨_, _, _, he, _⟩ := hI.en
  have c1 := he.box.cell (i := 10) rfl
  have hLl : (pre.map (fun i => ckM ms i.val)).length = pre.length := List.length_map _
  have hW1 : w4.heap.size + 1 < W.heap.size := (Array.getElem?_eq_some_iff.1 d3).1
  by_cases hroom : u + pre.length < jp
  ·have cA : CallsIn Fence.wide 2 Tryz.prog 57 _ W _ := callsIn_wide.2 (rm_step (sb := w3.heap.size) (nb := w3.heap.size + 1) hI bb HO.out (by rw [hLl]; omega) hfp hgen hl (by rw [hLl]; omega) g _ _ (by rw [(hg (by omega)).1]) hfits hlt ⟨by omega, by omega⟩ ⟨by omega, by omega⟩)
   have CA := hide cA
   have HD := hide (And.intro d1 (And.intro d2 (And.intro d3 d4)))
   clear cA he hI I0 bb hfits b3 b4 s4 n4 hrow d1 d2 d3 d4
   generalize chV g ms.length i.val = cv at *
   gi_wp2_with fail
   refine ⟨trivial, ?_⟩
   gi_at_call 57
   refine CA.out.mono ?_
   rintro e W5 ⟨rfl, g1, g2, g3⟩
   gi_wp2
   refine ⟨g2 _ _ (Nat.le_refl _) HD.out.1 HD.out.2.1, g2 _ _ (by omega) HD.out.2.2.1 HD.out.2.2.2, g3, ?_⟩
   simp only [List.map_append, List.map_cons, List.map_nil]; exact g1
  ·have hfull : u + pre.length = jp := by have := hI.most; rw [hLl] at this; omega
   have cA : CallsIn Fence.wide 2 Tryz.prog 57 _ W _ := callsIn_wide.2 (rm_full hI bb HO.out (by rw [hLl]; exact hfull) hl g hlt)
   have CA := hide cA
   have HD := hide (And.intro d1 (And.intro d2 (And.intro d3 d4)))
   have HBB := hide bb
   have cW : Hid (∀ V, RmI w0 w w4.heap.size x d E j m nj J s first n S f bs G l ml v5 v6 v7 T jf jp u ms (.slice va ms.length vc) (pre.map (fun i => ckM ms i.val)) V -> W.heap.size <= V.heap.size -> CallsIn Fence.wide 2 Tryz.prog 28 #[.pointer (some ⟨x, 0, none⟩)] V fun e W' => e = .returned (.int .i64 0) /\ RmX w0 w w4.heap.size x d E j m J s first n S f bs G l ml v5 v6 v7 T jf jp u W' /\ ∀ q (o : Obj), w4.heap.size <= q -> V.heap[q]? = some o -> o.isCells = false -> W'.heap[q]? = V.heap[q]?) := fun V hV hs => callsIn_wide.2 (rm_wipe hV bb (by rw [hLl]; exact hfull) hlE h22 HQ.out hf hla (by omega))
   clear cA he hI I0 bb hfits b3 b4 s4 n4 hrow d1 d2 d3 d4
   generalize chV g ms.length i.val = cv at *
   gi_wp2_with fail
   refine ⟨trivial, ?_⟩
   gi_at_call 57
   refine CA.out.mono ?_
   rintro e W5 ⟨rfl, g1, g2, g3⟩
   have c5 := g1.box.cell (i := 0) rfl
   have cX := hide (cW.out W5 g1 g2)
   have HG1 := hide (And.intro g1 g3)
   clear g1 g2 g3 CA cW c0 c1
   gi_wp2_with fail
   refine ⟨trivial, ?_⟩
   gi_at_call 28
   refine cX.out.mono ?_
   rintro e W6 ⟨rfl, g4, g5⟩
   have r0 := g4.res.cell (i := 0) rfl
   have r1 := g4.res.frozen 0
   have HG4 := hide (And.intro g4 g5)
   clear g4 g5 cX
   gi_wp2
   obtain ⟨d1, d2, d3, d4⟩ := HD.out
   have e1 := HG1.out.2 _ _ (Nat.le_refl _) d1 d2
   have e2 := HG1.out.2 _ _ (by omega) d3 d4
   have e3 := HG4.out.2 _ _ (Nat.le_refl _) (e1.trans d1) d2
   have e4 := HG4.out.2 _ _ (by omega) (e2.trans d3) d4
   have hle := HBB.out.le
   refine ⟨(blk_setCell_other _ _ _ _ (show w4.heap.size ≠ w.heap.size + 1 by omega)).trans (e3.trans e1), (blk_setCell_other _ _ _ _ (show w4.heap.size + 1 ≠ w.heap.size + 1 by omega)).trans (e4.trans e2), ⟨pre.length, by simp, hfull⟩, HG4.out.1.set0 HBB.out⟩
 case done =>
  rintro ys W rfl hI hK
  have r0 := hI.res.cell (i := 0) rfl
  have r1 := hI.res.frozen 0
  have hmost := hI.most
  rw [List.length_map, uptoF_length (Nat.le_refl _)] at hmost
  have G0 := hide hI
  have HBB := hide bb
  clear hI I0 bb hfits b3 b4 s4 n4 hrow
  gi_wp2
  have hK' := (KeepsOthers.setCell W ⟨w.heap.size + 1, 0, none⟩ (.int .i64 0)).same w4.heap.size _ hK rfl
  refine ⟨by simp, .inl ⟨_, _, rfl, run_takeDeferred hK', ?_⟩⟩
  have hc5 := cell_kept (World.cell?_setCell_same' W ⟨w.heap.size + 1, 0, none⟩ (.int .i64 0) (by rw [r0]; rfl)) (grownBy_putObj' _ w4.heap.size (.deferred none)) (fun r e => by cases e; exact ⟨_, hK', rfl⟩)
  refine ⟨.int .i64 0, ?_, hR1.out _ ⟨hmost, ?_⟩⟩
  ·simp [results, Tryz.f16, go_sem, hc5]
  ·have I1 := (G0.out.set0 HBB.out).turn HBB.out ((Keep.refl [w4.heap.size] _).grown (grownBy_putObj' _ w4.heap.size (.deferred none)) (fun k e => by cases e; exact .inl (by simp))) (.inr ⟨Nat.le_refl _, _, hK', rfl⟩)
   rw [uptoF_rows (ckM ms) _ (Nat.le_refl _)] at I1
   obtain ⟨S', G', n', he, hn', hcs, hlo, hG'⟩ := I1.en
   refine ⟨S', G', n', he, ?_, hcs, hlo, I1.keep, fun q hq => ?_⟩
   ·simpa using hn'
   ·rcases hG' q hq with h1 | h1
    ·exact .inl h1
    ·exact .inr (by have := HBB.out.le; omega)
 case stop =>
  rintro pre W hpre ⟨⟨k, hk1, hk2⟩, hX⟩ hK
  have hfew : jp < u + chN ms.length := by
   obtain ⟨k2, hk3, rfl⟩ := hpre
   rw [uptoF_length hk3] at hk1; omega
  have r0 := hX.res.cell (i := 0) rfl
  have G0 := hide hX
  have HBB := hide bb
  clear hX I0 bb hfits b3 b4 s4 n4 hrow
  gi_wp2
  refine ⟨by simp, .inl ⟨_, _, rfl, run_takeDeferred hK, ?_⟩⟩
  have hc5 := cell_kept r0 (grownBy_putObj' _ w4.heap.size (.deferred none)) (fun r e => by cases e; exact ⟨_, hK, rfl⟩)
  refine ⟨.int .i64 0, ?_, hR2.out _ ⟨hfew, ?_⟩⟩
  ·simp [results, Tryz.f16, go_sem, hc5]
  ·have I1 := G0.out.turn HBB.out ((Keep.refl [w4.heap.size] _).grown (grownBy_putObj' _ w4.heap.size (.deferred none)) (fun k e => by cases e; exact .inl (by simp))) (.inr ⟨Nat.le_refl _, by omega, _, hK, rfl⟩)
   obtain ⟨L, S1, G', m', n', hL, hcs, hlo, he, hG', hm'⟩ := I1.en
   have hle := HBB.out.le
   refine ⟨L, S1, G', m', n', hL, hcs, hlo, he, I1.keep, fun q hq => ?_, ?_⟩
   ·rcases hG' q hq with h1 | h1
    ·exact .inl h1
    ·exact .inr (by omega)
   ·rcases hm' with h1 | h1
    ·exact .inl h1
    ·exact .inr (by omega)
end
end Go.Proofs.YtcdghalnneilpaaGreat
namespace Go.Proofs.YtcdghalnneilpaaGreat
open Go.RowKit Go.Deep Math
theorem csL_cons (cs : List Cl) (q g : Nat) (xs : List Mk) (L : List (List Mk)) : csL cs q g (xs :: L) = csL ((putAt cs q (.whole (pgOf g xs))).map Cl.flush) (q + 1) g L := rfl
theorem csL_other (g : Nat) : ∀ (L : List (List Mk)) (cs : List Cl) (q j : Nat), (j < q \/ q + L.length <= j) -> ((csL cs q g L)[j]?).map (·.now) = (cs[j]?).map (·.now)
 | [], _, _, _, _ => rfl
 | xs :: L, cs, q, j, h => by
  rw [List.length_cons] at h
  rw [csL_cons, csL_other g L _ (q + 1) j (by omega), flush_get, putAt_get, if_neg (by omega)]
theorem begun_addL (J : Jr) (L : List (List Mk)) (g : Nat) : (J.addL L).begun g = J.begun g := by
 have s2 := keeps_same L.flatten J
 apply Jr.ext'
 ·exact s2.1
 ·exact s2.2.1
 ·exact s2.2.2.1
 ·rfl
 ·rfl
 ·rfl
theorem slotB_pg2 (S : Dv) (k : Nat) : S.slotB k = match S.pg k with | some p => pgBk p | none => none := by
 unfold Dv.slotB Dv.pg
 cases S.cs[k]? <;> rfl
theorem lastSeq_pg {S S1 : Dv} (h0 : S1.pg 0 = S.pg 0) (h1 : S1.pg 1 = S.pg 1) : S1.lastSeq = S.lastSeq := by
 unfold Dv.lastSeq Dv.loadB
 rw [slotB_pg2, slotB_pg2, slotB_pg2, slotB_pg2, h0, h1]
theorem lastSeq_csL {S S1 : Dv} {q g : Nat} {L : List (List Mk)} (hc : S1.cs = csL S.cs q g L) (hq : 2 <= q) : S1.lastSeq = S.lastSeq := by
 refine lastSeq_pg ?_ ?_
 ·unfold Dv.pg; rw [hc]; exact csL_other g L _ q 0 (by omega)
 ·unfold Dv.pg; rw [hc]; exact csL_other g L _ q 1 (by omega)
theorem lastSeq_far {first n : Nat} {S S1 : Dv} (h : Dv.far first n S S1) (h2 : 2 <= first) : S1.lastSeq = S.lastSeq := lastSeq_pg (h.pg 0 (by omega)) (h.pg 1 (by omega))
def sqO (a : Option Sb) : Nat := match a with
 | some x => x.seq
 | none => 0
theorem lastS_max (a b : Option Sb) : lastS a b = max (sqO a) (sqO b) := by
 cases a with
 | none =>
  cases b with
  | none => rfl
  | some y => show y.seq = max 0 y.seq; omega
 | some x =>
  cases b with
  | none => show x.seq = max x.seq 0; omega
  | some y =>
   have e : newer (some x) (some y) = if x.seq < y.seq then some y else some x := rfl
   unfold lastS
   rw [e]
   show _ = max x.seq y.seq
   by_cases h : x.seq < y.seq
   ·rw [if_pos h]; show y.seq = _; omega
   ·rw [if_neg h]; show x.seq = _; omega
theorem lastSeq_store {S : Dv} (hS : Sure S) (h2 : 2 <= S.cs.length) (hl : S.lastSeq ≠ 18446744073709551615) (x : Sb) (hf : x.fits) : (S.storeDo x).lastSeq = S.lastSeq + 1 := by
 have h : Two S (S.slotB 0) (S.slotB 1) := ⟨h2, hS.off, rfl, rfl⟩
 have k := (h.store x hf (by rw [<- h.lastSeq]; exact hl) (by rw [hS.armed]; decide) (by rw [hS.armed]; decide)).2.2.2.1
 rw [k.lastSeq, h.lastSeq]
 generalize S.slotB 0 = a at *
 generalize S.slotB 1 = b at *
 obtain ⟨N, hN⟩ : ∃ N, N = nxt a b x := ⟨_, rfl⟩
 have e : N.seq = lastS a b + 1 := by rw [hN]; rfl
 rw [<- hN]
 rcases Nat.mod_two_eq_zero_or_one N.seq with h0 | h0
 ·rw [if_pos h0, if_neg (by omega)]
  rw [lastS_max] at e ⊢
  rw [lastS_max]
  show max N.seq (sqO b) = _
  omega
 ·rw [if_neg (by omega), if_pos h0]
  rw [lastS_max] at e ⊢
  rw [lastS_max]
  show max (sqO a) N.seq = _
  omega
section
variable {w0 w w' : World} {x d : Nat} {E : En} {j m nj : Nat} {J : Jr} {s first n : Nat} {S S' : Dv} {f : Nat -> List It} {bs : List (List Bool)} {G : List Nat} {l ml : Nat} {v5 v6 v7 : Value} {T : Lg}
theorem remove_calm (h : EnAt w0 w x d E j m nj J s first n S f bs G l ml v5 v6 v7 T) (a : Option Addr) (kn kc : Nat) (ks : List (List UInt8)) (hks : KeysAt w a ks) (hkn : kn = ks.length) (hkc : kn <= kc) (hmax : kn <= 30000) (hla : E.last < 18446744073709551616) (ms : List Mk) (hms : ms = mksTo (mayF bs n T) E.last ks kn)
  (jf jp u : Nat) (ho : J.ok S jf jp u) (hjf : 2 <= jf) (hfp : jf + jp <= first) (hgen : J.gen < 18446744073709551616) (hl : S.losses = J.losses) (hlE : S.losses = E.losses) (hn : nj < 800000) (hq : S.lastSeq ≠ 18446744073709551615) (hf : E.b.fits) :
  Calls Tryz.prog 16 #[.pointer (some ⟨x, 0, none⟩), .slice a kn kc] w fun e w' => e = .returned (.int .i64 0) /\
   ((u + chN ms.length <= jp /\ ∃ S' G' n', EnAt w0 w' x d E j m n' (J.addL (ckAll ms)) s first n S' f bs G' l ml v5 v6 v7 T /\ n' <= nj + 23 * chN ms.length /\ S'.cs = csL S.cs (jf + u) J.gen (ckAll ms) /\ S'.losses = S.losses /\ Keep (j :: m :: G) w w' /\ ∀ q ∈ G', q ∈ G \/ w.heap.size <= q) \/
    (jp < u + chN ms.length /\ ∃ (L : List (List Mk)) (S1 : Dv) (G' : List Nat) (m' n' : Nat), u + L.length = jp /\ S1.cs = csL S.cs (jf + u) J.gen L /\ S1.losses = S.losses /\ S1.lastSeq = S.lastSeq /\ EnAt w0 w' x d { E with b := S.nextB E.wiped } j m' n' (J.begun E.wiped.gen) s first n (S1.storeDo E.wiped) f bs G' l ml v5 v6 v7 T /\ Keep (x :: j :: m :: G) w w' /\ (∀ q ∈ G', q ∈ G \/ w.heap.size <= q) /\ (m' = m \/ w.heap.size <= m'))) :=
 remove_by h a kn kc ks hks hkn hkc hmax hla ms hms jf jp u ho hfp hgen hl hlE hn (by omega) (fun L S1 hc => by rw [lastSeq_csL hc (by omega)]; exact hq) hf _ (fun w' h => ⟨rfl, .inl h⟩) (fun w' h => by
  obtain ⟨h1, L, S1, G', m', n', h2, h3, h4, h5, h6⟩ := h
  have e := lastSeq_csL h3 (by omega)
  have e2 : S1.nextB E.wiped = S.nextB E.wiped := by unfold Dv.nextB; rw [e]
  rw [begun_addL, e2] at h5
  exact ⟨rfl, .inr ⟨h1, L, S1, G', m', n', h2, h3, h4, e, h5, h6⟩⟩)
end
theorem fresh_its (n k : Nat) : (Dv.fresh n).its k = [] := by
 unfold Dv.its
 cases h : (Dv.fresh n).cs[k]? with
 | none => rfl
 | some c => rw [fresh_get n k h]; rfl
theorem fresh_opF (n first : Nat) : opF (Dv.fresh n) first = fun _ => [] := funext fun k => fresh_its n _
theorem fresh_opB (n first gb : Nat) : opB (Dv.fresh n) first gb = List.replicate gb (toldB []) := by
 unfold opB
 rw [List.eq_replicate_iff]
 refine ⟨by simp, fun b hb => ?_⟩
 obtain ⟨k, _, rfl⟩ := List.mem_map.1 hb
 rw [fresh_its]
theorem fresh_loadV (n : Nat) (h : 2 <= n) : (Dv.fresh n).loadV = bkV Sb.zero 5 := (Two.fresh n h).loadV
theorem fresh_lastSeq (n : Nat) (h : 2 <= n) : (Dv.fresh n).lastSeq = 0 := (Two.fresh n h).lastSeq
theorem fresh_openJ (n first pages gen : Nat) : openJ (Dv.fresh n) first pages gen = ⟨0, first, pages, 0, gen, fun _ => none⟩ := by
 have e : scanP gen ((Dv.fresh n).pgs first pages) = [] := by
  unfold Dv.pgs
  cases h : (((Dv.fresh n).cs.drop first).take pages) with
  | nil => rfl
  | cons c r =>
   have hc : (Dv.fresh n).cs[first]? = some c := by
    have h0 : (((Dv.fresh n).cs.drop first).take pages)[0]? = some c := by rw [h]; rfl
    rw [List.getElem?_take] at h0
    split at h0
    ·rw [List.getElem?_drop] at h0; exact h0
    ·cases h0
   rw [List.map_cons, fresh_get n first hc]
   rfl
 unfold openJ
 rw [e]
 rfl
theorem fresh_T {n first regions : Nat} {T : Lg} (h : OpT (Dv.fresh n) first regions T) : T.regs = [] /\ T.opn = [] /\ T.num = 0 /\ T.losses = 0 /\ T.first = first /\ T.regions = regions := by
 obtain ⟨rs, h1, h2⟩ := h.regs
 rw [(fresh_cnts n first regions).1] at h1
 have : rs = [] := List.map_eq_nil_iff.1 h1
 subst this
 exact ⟨h2, h.opn, by rw [h.num]; exact (fresh_cnts n first regions).2, h.losses, h.first', h.regions'⟩
def gSm : Geo := ⟨2, 3, 1, 0⟩
theorem small_any (w : World) : Calls Tryz.prog 12 #[] w fun e w' => e = .returned gSm.val /\ Below w.heap.size w w' := by
 go_enter Tryz.func12, Tryz.ntmps12
 go_wp2
 exact bodyPost_ret (v := gSm.val) (by simp [results, Tryz.results12, go_sem, gSm, Geo.val]) rfl ⟨rfl, (Below.refl _ _).alloc (Nat.le_refl _) _⟩
theorem zero_fits : Sb.zero.fits := ⟨by decide, by decide, by decide, by decide, by decide, by decide, by decide⟩
section
variable {w0 w w' : World} {d : Nat} {F : List Nat}
theorem open_fresh {n : Nat} (hn : 11 <= n) (hL : Law w0 d F (Dv.fresh n) w) :
  Calls Tryz.prog 11 #[.pointer (some ⟨d, 0, none⟩), gSm.val] w fun e w' => ∃ x, e = .returned (.tuple #[.pointer (some ⟨x, 0, none⟩), .agg #[.int .u64 0, .int .u64 0, .int .u64 0, .int .u64 0, .int .u64 0, .bool false, .int .i64 0], .int .i64 0]) /\
   ∃ p m nj q S G l ml v5 T, EnAt w0 w' x d ⟨0, ⟨1, 1, 0, 0, 0, false, 0⟩, 0⟩ p m nj ⟨0, 2, 2, 0, 0, fun _ => none⟩ q 4 3 S (fun _ => []) (List.replicate 3 (toldB [])) G l ml v5 (.slice none 0 0) (.slice none 0 0) T /\
    (T.regs = [] /\ T.opn = [] /\ T.num = 0 /\ T.losses = 0 /\ T.first = 7 /\ T.regions = 1) /\ OpT (Dv.fresh n) 7 1 T /\ nj <= 46 /\ (∀ k, T.has k = none) /\ S.lastSeq = 1 /\ S.losses = 0 /\ S.cs.length = n /\ Keep F w w' /\ ∀ k, (k = x \/ k = p \/ k = m \/ k ∈ G \/ k ∈ lblocks l ml v5 (.slice none 0 0) (.slice none 0 0) T) -> k ∈ F \/ w.heap.size <= k := by
 have hlen : (Dv.fresh n).cs.length = n := by simp [Dv.fresh]
 have hq : (Dv.fresh n).lastSeq ≠ 18446744073709551615 := by rw [fresh_lastSeq n (by omega)]; decide
 refine (eopen_en (gj := 2) (gb := 3) (gr := 1) (gi := 0) hL (Sure.fresh n) (by omega) (by omega) (by omega) (by omega) (by omega) (by omega) (by omega) (by rw [hlen]; omega) 5 (.inr rfl) (fresh_loadV n (by omega)) hq zero_fits).mono ?_
 rintro e w' ⟨x, rfl, p, m, nj, q, S1, G, l, ml, v5, T, hE, hnn, hT, hlk, hk, hfo⟩
 have hl1 : S1.lastSeq = 0 := by rw [lastSeq_like hlk, fresh_lastSeq n (by omega)]
 have hc1 : S1.cs.length = n := by rw [hlk.cs, hlen]
 obtain ⟨_, s2, s3, s4, _⟩ := sure_store ((Sure.fresh n).like hlk) (by omega) (by rw [hl1]; decide) Sb.zero.opened
 have hE' : EnAt w0 w' x d ⟨0, ⟨1, 1, 0, 0, 0, false, 0⟩, 0⟩ p m nj ⟨0, 2, 2, 0, 0, fun _ => none⟩ q 4 3 (S1.storeDo Sb.zero.opened) (fun _ => []) (List.replicate 3 (toldB [])) G l ml v5 (.slice none 0 0) (.slice none 0 0) T := by
  have e1 : (Dv.fresh n).nextB Sb.zero.opened = ⟨1, 1, 0, 0, 0, false, 0⟩ := by
   unfold Dv.nextB
   rw [fresh_lastSeq n (by omega)]
   rfl
  rw [fresh_openJ, fresh_opF, fresh_opB, e1] at hE
  exact hE
 refine ⟨x, rfl, p, m, nj, q, S1.storeDo Sb.zero.opened, G, l, ml, v5, T, hE', fresh_T hT, hT, by omega, ?_, ?_, ?_, by rw [s4, hc1], hk, hfo⟩
 ·intro k
  have ha : T.all = [] := by unfold Lg.all; rw [(fresh_T hT).1, (fresh_T hT).2.1]; rfl
  rw [hT.has, ha]
  rfl
 ·rw [lastSeq_store ((Sure.fresh n).like hlk) (by omega) (by rw [hl1]; decide) _ (opened_fits zero_fits), hl1]
 ·rw [s3, hlk.losses]; rfl
end
def yA : It := ⟨[97], [49], 0, 0, 1⟩
def fA : Nat -> List It := fun k => if k = bkt [97] 3 then [yA] else []
def bsA : List (List Bool) := (List.replicate 3 (toldB [])).set (bkt [97] 3) (keyB (toldB []) yA)
theorem putF_A : putF 3 (fun _ => []) yA = fA := by
 funext k
 unfold putF fA
 have e : putL 3 (fun _ => []) yA = [yA] := rfl
 have e2 : ovr [yA] = 0 := by decide
 rw [e, e2]
 rfl
theorem bsA_at : bsA[bkt [97] 3]? = some (keyB (toldB []) yA) := by
 unfold bsA
 rw [List.getElem?_set_self (by simpa using bkt_lt [97] 3 (by omega))]
theorem fA_find : (fA (bkt [97] 3)).find? (isKey [97]) = some yA := by
 unfold fA
 rw [if_pos rfl]
 rfl
section
variable {w0 w w' : World} {x d p m nj q : Nat} {J : Jr} {S : Dv} {f : Nat -> List It} {bs : List (List Bool)} {G : List Nat} {l ml : Nat} {v5 v6 v7 : Value} {T : Lg}
theorem aw_version (h : EnAt w0 w x d ⟨0, ⟨1, 1, 0, 0, 0, false, 0⟩, 0⟩ p m nj J q 4 3 S f bs G l ml v5 v6 v7 T) (hs : S.lastSeq = 1) (hl : S.losses = 0) (hc : 11 <= S.cs.length) :
  Calls Tryz.prog 23 #[.pointer (some ⟨x, 0, none⟩)] w fun e w' => e = .returned (.tuple #[.int .u64 1, .int .i64 0]) /\ ∃ S' G', EnAt w0 w' x d ⟨0, ⟨2, 1, 64, 0, 0, false, 0⟩, 1⟩ p m nj J q 4 3 S' f bs G' l ml v5 v6 v7 T /\ S'.lastSeq = 2 /\ S'.losses = 0 /\ S'.cs.length = S.cs.length /\ (∀ j, 2 <= j -> S'.pg j = S.pg j) /\ Keep (x :: G) w w' /\ ∀ k ∈ G', k ∈ G \/ w.heap.size <= k := by
 have hf : (⟨1, 1, 0, 0, 0, false, 0⟩ : Sb).fits := ⟨by decide, by decide, by decide, by decide, by decide, by decide, by decide⟩
 obtain ⟨F, M, hu, _⟩ := h.bu
 have hS := hu.sure
 refine (version_eno h hl (by omega) (by rw [hs]; decide) hf (by decide) rfl).mono ?_
 rintro e w' ⟨rfl, G', hE, hk, hfo⟩
 obtain ⟨_, s2, s3, s4, s5⟩ := sure_store hS (by omega) (by rw [hs]; decide) (Sb.more ⟨1, 1, 0, 0, 0, false, 0⟩)
 have e1 : S.nextB (Sb.more ⟨1, 1, 0, 0, 0, false, 0⟩) = ⟨2, 1, 64, 0, 0, false, 0⟩ := by
  unfold Dv.nextB
  rw [hs]
  rfl
 refine ⟨rfl, S.storeDo (Sb.more ⟨1, 1, 0, 0, 0, false, 0⟩), G', ?_, ?_, by rw [s3, hl], s4, fun j hj => ?_, hk, hfo⟩
 ·rw [<- e1]; exact hE
 ·rw [lastSeq_store hS (by omega) (by rw [hs]; decide) _ (Sb.more_fits hf), hs]
 ·rw [s5, if_neg (by omega)]
theorem aw_put {b : Sb} {la : Nat} (h : EnAt w0 w x d ⟨0, b, la⟩ p m nj J q 4 3 S (fun _ => []) (List.replicate 3 (toldB [])) G l ml v5 v6 v7 T) :
  Calls Tryz.prog 13 #[.pointer (some ⟨x, 0, none⟩), .agg #[.string (txt [97]), .string (txt [49]), .int .u32 0, .int .i64 0, .int .u64 1]] w fun e w' => e = .returned (.int .i64 0) /\ ∃ S' G', EnAt w0 w' x d ⟨0, b, la⟩ p m nj J q 4 3 S' fA bsA G' l ml v5 v6 v7 (T.drop [97]) /\ S'.lastSeq = S.lastSeq /\ S'.losses = S.losses /\ Dv.far 4 3 S S' /\ EnMv G (lblocks l ml v5 v6 v7 T) G' (lblocks l ml v5 v6 v7 (T.drop [97])) w w' := by
 refine (eput_sm h yA ⟨by decide, by decide, by decide, by decide⟩ (by decide) (by decide)).mono ?_
 rintro e w' ⟨rfl, S', bs', G', hE, hb, hl, hf, hm⟩
 have hbs : bs' = bsA := hb (toldB []) (by
  rw [List.getElem?_replicate, if_pos (bkt_lt _ 3 (by omega))])
 rw [putF_A, hbs] at hE
 exact ⟨rfl, S', G', hE, lastSeq_far hf (by omega), hl, hf, hm⟩
end
section
variable {w0 w w' : World} {x d p m nj q : Nat} {J : Jr} {S : Dv} {f : Nat -> List It} {bs : List (List Bool)} {G : List Nat} {l ml : Nat} {v5 v6 v7 : Value} {T : Lg}
theorem aw_get {E : En} (hb : E.b.hor = 0) (h : EnAt w0 w x d E p m nj J q 4 3 S fA bsA G l ml v5 v6 v7 T) (hT : T.has [97] = none) (g : Bool) (hJ : J.gone (hsh [97]) 1 = g) :
  Calls Tryz.prog 14 #[.pointer (some ⟨x, 0, none⟩), .string (txt [97])] w fun e w' => e = .returned (getV (if g then none else some yA)) /\ ∃ S', EnAt w0 w' x d E p m nj J q 4 3 S' fA bsA G l ml v5 v6 v7 T /\ LikeB S S' /\ Moves G G w w' := by
 refine (get_any h [97] (by decide) (by decide) (some yA) none fA_find (.inl ⟨hT, rfl⟩) (by decide) (by decide)).mono ?_
 rintro e w' ⟨rfl, r⟩
 refine ⟨?_, r⟩
 have e1 : fndI ((some yA).getD It.zero) ((none : Option It).getD It.zero) = yA := rfl
 have e2 : E.counts J yA = !g := by
  unfold En.counts
  rw [hb]
  show (decide (0 < 1) && !J.gone (hsh [97]) 1) = !g
  rw [hJ]
  rfl
 unfold En.gets
 rw [e1, e2]
 cases g <;> rfl
theorem toldB_len : (toldB []).length = 256 := by
 unfold toldB
 rw [List.foldl_nil, List.length_replicate]
theorem mayK_A : mayK ((bsA[bkt [97] 3]?).getD []) [97] = true := by
 have h := mayK_add toldB_len yA
 have e : yA.key = [97] := rfl
 rw [bsA_at, Option.getD_some]
 rw [e] at h
 exact h
theorem aw_may {E : En} (h : EnAt w0 w x d E p m nj J q 4 3 S fA bsA G l ml v5 v6 v7 T) :
  Calls Tryz.prog 32 #[.pointer (some ⟨x, 0, none⟩), .string (txt [97])] w fun e w' => e = .returned (.bool true) /\ Below w.heap.size w w' := by
 refine (mayE_any h [97] (by decide)).mono ?_
 rintro e w' ⟨rfl, b⟩
 rw [mayK_A, Bool.true_or]
 exact ⟨rfl, b⟩
theorem mayF_A (T : Lg) : mayF bsA 3 T [97] = true := by
 unfold mayF
 rw [mayK_A, Bool.true_or]
theorem marks_A (T : Lg) : mksTo (mayF bsA 3 T) 1 [[97]] 1 = [(hsh [97], 1)] := by
 unfold mksTo
 have e : cntK [[97]] 0 [97] = 0 := rfl
 show mksTo _ 1 [[97]] 0 ++ (if cntK [[97]] 0 [97] = 0 /\ mayF bsA 3 T [97] = true then [(hsh [97], 1)] else []) = _
 rw [if_pos ⟨e, mayF_A T⟩]
 rfl
end
end Go.Proofs.YtcdghalnneilpaaGreat
