/- Joined texts. -/
import Derived.Test.YtcdghalnneilpaaGreatR28
set_option linter.unusedVariables false
set_option linter.unusedSimpArgs false
set_option maxRecDepth 8000
set_option maxHeartbeats 8000000
namespace Go.Proofs.YtcdghalnneilpaaGreat
open Go.RowKit Go.Deep Math
theorem read_wholeT {d : Nat} {F : List Nat} {S : Dv} {k : Nat} {c : Cl} {b : ByteArray} (hk : S.cs[k]? = some c) (hoff : S.off = false) (hc : c.now = .whole b) (w : World) (h : DvAt w d F S) :
  Calls Tryz.prog 99 #[.pointer (some ⟨d, 0, none⟩), .int .i64 (k : Nat)] w fun e w' => ∃ g, e = .returned (.tuple #[.slice (some ⟨g, 0, none⟩) 384 384, .int .i64 0]) /\ w.heap.size <= g /\
   BS w' (some ⟨g, 0, none⟩) 384 384 (full b).data.toList /\ DvAt w' d F (S.readDo (k : Nat)) /\ Keep F w w' := by
 refine (read_whole hk hoff hc w h).mono ?_
 rintro e w' ⟨rfl, h1, h2, h3⟩
 exact ⟨_, rfl, Nat.le_succ _, h1, h2, h3⟩
def rdM : Nat -> List UInt8 -> List Mk
 | 0, _ => []
 | n + 1, l => (up (sl l 0 8), up (sl l 8 16)) :: rdM n (l.drop 16)
def tkM (gen : Nat) (l : List UInt8) : Option (List Mk) := if sl l 0 4 = tmk4 /\ up (sl l 4 8) <= 23 /\ up (sl l 8 16) = gen then some (rdM (up (sl l 4 8)) (l.drop 16)) else none
def Pg.tk (gen : Nat) : Pg -> Option (List Mk)
 | ⟨none⟩ => none
 | ⟨some none⟩ => some []
 | ⟨some (some b)⟩ => tkM gen (full b).data.toList
def Jr.keeps (J : Jr) (xs : List Mk) : Jr := xs.foldl (fun J x => J.keep x.1 x.2) J
theorem Jr.keeps_nil (J : Jr) : J.keeps [] = J := rfl
theorem Jr.keeps_snoc (J : Jr) (xs : List Mk) (x : Mk) : J.keeps (xs ++ [x]) = (J.keeps xs).keep x.1 x.2 := by simp [Jr.keeps]
theorem rdM_length : ∀ (n : Nat) (l : List UInt8), (rdM n l).length = n
 | 0, _ => rfl
 | n + 1, l => by rw [rdM, List.length_cons, rdM_length n]
theorem rdM_get : ∀ (n : Nat) (l : List UInt8) (i : Nat), i < n -> (rdM n l)[i]? = some (up (sl (l.drop (16 * i)) 0 8), up (sl (l.drop (16 * i)) 8 16))
 | n + 1, l, 0, _ => by simp [rdM]
 | n + 1, l, i + 1, h => by
  rw [rdM, List.getElem?_cons_succ, rdM_get n _ i (by omega), List.drop_drop, show 16 + 16 * i = 16 * (i + 1) by omega]
theorem sl_drop (l : List UInt8) (k i j : Nat) : sl (l.drop k) i j = sl l (k + i) (k + j) := by
 unfold sl
 rw [List.take_drop, List.drop_drop]
theorem tup_sl_lt (l : List UInt8) (i j : Nat) (hj : j <= l.length) (h8 : j - i <= 8) : up (sl l i j) < 18446744073709551616 := by
 have h1 := up_lt (sl l i j)
 rw [sl_length _ _ _ hj] at h1
 have : (256 : Nat) ^ (j - i) <= 256 ^ 8 := Nat.pow_le_pow_right (by decide) h8
 have e : (256 : Nat) ^ 8 = 18446744073709551616 := by decide
 omega
structure JD (W : World) (j d m n : Nat) (F : List Nat) (J : Jr) (S : Dv) : Prop where
 jr : JrAt W j d m n J
 dev : DvAt W d F S
 nj : j ∉ F
 nm : m ∉ F
theorem JD.below {W W' : World} {j d m n : Nat} {F : List Nat} {J : Jr} {S : Dv} (h : JD W j d m n F J S) (b : Below W.heap.size W W') : JD W' j d m n F J S :=
 ⟨h.jr.below b, h.dev.below b, h.nj, h.nm⟩
theorem take_blank (j d m n : Nat) (F : List Nat) (J : Jr) (S : Dv) (k : Nat) (c : Cl) (hk : S.cs[k]? = some c) (hoff : S.off = false) (hc : c.now = .blank) (w : World) (h : JD w j d m n F J S) :
  Calls Tryz.prog 152 #[.pointer (some ⟨j, 0, none⟩), .int .i64 (k : Nat)] w fun e w' => e = .returned (.bool false) /\ JD w' j d m n F J (S.readDo (k : Nat)) /\ Keep F w w' := by
 have c0 := h.jr.blk.cell (i := 0) rfl
 have C1 := hide (read_bare (e0 := 5) hk hoff hc rfl (by decide) w h.dev)
 have H := hide h
 clear h hk hoff hc
 go_enter Tryz.func152, Tryz.ntmps152
 go_wp2_with (go_at_call 99; refine C1.out.mono ?_; rintro r w1 ⟨rfl, hd, kp⟩; have HD := hide hd; have HK := hide kp; clear hd kp)
 go_ret
 exact ⟨rfl, ⟨H.out.jr.keep HK.out H.out.nj H.out.nm, HD.out, H.out.nj, H.out.nm⟩, HK.out⟩
theorem take_torn (j d m n : Nat) (F : List Nat) (J : Jr) (S : Dv) (k : Nat) (c : Cl) (hk : S.cs[k]? = some c) (hoff : S.off = false) (hc : c.now = .torn) (w : World) (h : JD w j d m n F J S) :
  Calls Tryz.prog 152 #[.pointer (some ⟨j, 0, none⟩), .int .i64 (k : Nat)] w fun e w' => e = .returned (.bool true) /\ JD w' j d m n F J (S.readDo (k : Nat)) /\ Keep F w w' := by
 have c0 := h.jr.blk.cell (i := 0) rfl
 have C1 := hide (read_bare (e0 := 6) hk hoff hc rfl (by decide) w h.dev)
 have H := hide h
 clear h hk hoff hc
 go_enter Tryz.func152, Tryz.ntmps152
 go_wp2_with (go_at_call 99; refine C1.out.mono ?_; rintro r w1 ⟨rfl, hd, kp⟩; have HD := hide hd; have HK := hide kp; clear hd kp)
 go_ret
 exact ⟨rfl, ⟨H.out.jr.keep HK.out H.out.nj H.out.nm, HD.out, H.out.nj, H.out.nm⟩, HK.out⟩
theorem take_bad (j d m n : Nat) (F : List Nat) (J : Jr) (S : Dv) (k : Nat) (c : Cl) (b : ByteArray) (hk : S.cs[k]? = some c) (hoff : S.off = false) (hc : c.now = .whole b) (hb : b.size <= 384) (ht : tkM J.gen (full b).data.toList = none) (w : World) (h : JD w j d m n F J S) :
  Calls Tryz.prog 152 #[.pointer (some ⟨j, 0, none⟩), .int .i64 (k : Nat)] w fun e w' => e = .returned (.bool false) /\ JD w' j d m n F J (S.readDo (k : Nat)) /\ Keep F w w' := by
 have c0 := h.jr.blk.cell (i := 0) rfl
 have C1 := hide (read_wholeT hk hoff hc w h.dev)
 have H := hide h
 have HT := hide ht
 clear h hk hoff hc ht
 generalize hL : (full b).data.toList = L at C1 HT
 have hL4 : L.length = 384 := by rw [<- hL, Array.length_toList]; exact full_size b hb
 have HL := hide hL4
 clear hL hL4
 go_enter Tryz.func152, Tryz.ntmps152
 go_wp2_with (go_at_call 99; refine C1.out.mono ?_; rintro r w1 ⟨g, rfl, hg, hbs, hd, kp⟩; have HD := hide hd; have HK := hide kp; have HB := hide hbs; clear hd kp hbs hg)
 have HJ := hide (H.out.jr.keep HK.out H.out.nj H.out.nm)
 have hgen := HJ.out.blk.cell (i := 5) rfl
 have cn : Hid (∀ W : World, W.heap = w1.heap -> ∀ (i jj o n2 c2 : Nat), o = 0 + i -> i <= jj -> jj <= 384 -> n2 = jj - i -> n2 <= 8 -> n2 <= c2 -> Calls Tryz.prog 183 #[.slice (some ⟨g, o, none⟩) n2 c2] W fun e w' => e = .returned (.int .u64 (up (sl L i jj) : Int)) /\ w' = W) := fun W hW i jj o n2 c2 h1 h2 h3 h4 h5 h6 => by
  have hs := (HB.out.heap hW).sub i jj o n2 c2 h1 h2 h3 h4 h6
  exact tnumber_any _ n2 c2 _ hs.len h5 W hs.reads
 have hst : ∀ W : World, W.heap = w1.heap -> (convert 40 9 (.slice (some ⟨g, 0, none⟩) 4 384)).run Tryz.prog W = .ok (.string (txt (sl L 0 4))) W := fun W hW => str_bs ((HB.out.heap hW).sub 0 4 0 4 384 rfl (by omega) (by omega) rfl (by omega)) (by simp)
 have HST := hide hst
 clear hst
 refine (cn.out w1 rfl 4 8 4 4 380 rfl (by omega) (by omega) rfl (by omega) (by omega)).mono ?_
 rintro r w2 ⟨rfl, rfl⟩
 have hst : ∀ nq, (convert 40 9 (.slice (some ⟨g, 0, none⟩) 4 384)).run Tryz.prog (w2.drewN nq) = .ok (.string (txt (sl L 0 4))) (w2.drewN nq) := fun nq => HST.out _ rfl
 by_cases h1 : sl L 0 4 = tmk4
 ·have hs1 : ((txt (sl L 0 4)).toList == [84, 79, 77, 66]) = true := by rw [txt_list, h1]; rfl
  by_cases h2 : up (sl L 4 8) <= 23
  ·have h3 : ¬ up (sl L 8 16) = J.gen := fun e => by have := HT.out; unfold tkM at this; rw [if_pos ⟨h1, h2, e⟩] at this; simp at this
   have h2' : ((23 : Int) < (up (sl L 4 8) : Int)) = False := eq_false (by omega)
   have h3' : ((up (sl L 8 16) : Int) != (J.gen : Int)) = true := by simp; omega
   clear h1 h2 h3 HT
   go_wp2_with fail
   go_quiet (first | (go_at_call 183; refine Calls.quiet_of_same (cn.out _ ?_ 8 16 8 8 376 rfl (by omega) (by omega) rfl (by omega) (by omega)); rfl))
   go_wp2
   go_ret
   exact ⟨rfl, ⟨HJ.out.same rfl rfl, HD.out.same (fun _ _ => rfl), H.out.nj, H.out.nm⟩, ⟨HK.out.os, HK.out.tape, HK.out.output, HK.out.size, HK.out.block⟩⟩
  ·have h2' : ((23 : Int) < (up (sl L 4 8) : Int)) = True := eq_true (by omega)
   clear h1 h2 HT
   go_wp2_with fail
   go_quiet (fail)
   go_wp2
   go_ret
   exact ⟨rfl, ⟨HJ.out.same rfl rfl, HD.out.same (fun _ _ => rfl), H.out.nj, H.out.nm⟩, ⟨HK.out.os, HK.out.tape, HK.out.output, HK.out.size, HK.out.block⟩⟩
 ·have hs1 : ((txt (sl L 0 4)).toList == [84, 79, 77, 66]) = false := by rw [txt_list]; simpa [tmk4] using h1
  clear h1 HT
  go_wp2_with fail
  go_quiet (fail)
  go_wp2
  go_ret
  exact ⟨rfl, ⟨HJ.out.same rfl rfl, HD.out.same (fun _ _ => rfl), H.out.nj, H.out.nm⟩, ⟨HK.out.os, HK.out.tape, HK.out.output, HK.out.size, HK.out.block⟩⟩
theorem BS.far {w w' : World} {b off n cap : Nat} {l : List UInt8} (h : BS w (some ⟨b, off, none⟩) n cap l) (e : w'.heap[b]? = w.heap[b]?) : BS w' (some ⟨b, off, none⟩) n cap l :=
 BS.mk' h.len h.cap ⟨fun i hi => by
  obtain ⟨b', off', ha, hc⟩ := h.reads.1 i hi
  cases ha
  exact ⟨b, off, rfl, (World.cell?_of_block (a := ⟨b, off + i, none⟩) e).trans hc⟩, h.reads.2⟩
theorem entt49 (args : Array Value) (w : World) : (callFunc 183 args).run Tryz.prog w = .ok (.enter 183 args) w := by go_simp
theorem entt34 (args : Array Value) (w : World) : (callFunc 119 args).run Tryz.prog w = .ok (.enter 119 args) w := by go_simp
structure TK (w W : World) (j d m n g : Nat) (F : List Nat) (L : List UInt8) (J : Jr) (S : Dv) : Prop where
 jd : JD W j d m n F J S
 bs : BS W (some ⟨g, 0, none⟩) 384 384 L
 keep : Keep (m :: F) w W
 ng : g ≠ m
theorem TK.num {w W : World} {j d m n g : Nat} {F : List Nat} {L : List UInt8} {J : Jr} {S : Dv} (h : TK w W j d m n g F L J S) (W' : World) (hW : W'.heap = W.heap) (i jj o n2 c2 : Nat) (h1 : o = 0 + i) (h2 : i <= jj) (h3 : jj <= 384) (h4 : n2 = jj - i) (h5 : n2 <= 8) (h6 : n2 <= c2) :
  Calls Tryz.prog 183 #[.slice (some ⟨g, o, none⟩) n2 c2] W' fun e w' => e = .returned (.int .u64 (up (sl L i jj) : Int)) /\ w' = W' := by
 have hs := (h.bs.heap hW).sub i jj o n2 c2 h1 h2 h3 h4 h6
 exact tnumber_any _ n2 c2 _ hs.len h5 W' hs.reads
theorem TK.kp {w W : World} {j d m n g : Nat} {F : List Nat} {L : List UInt8} {J : Jr} {S : Dv} (h : TK w W j d m n g F L J S) (W' : World) (hW : W'.heap = W.heap) (ht : W'.os = W.os /\ W'.tape = W.tape /\ W'.output = W.output) (a b : Nat) (ha : a < 18446744073709551616) (hb : b < 18446744073709551616) (hn : n < 1000000) :
  Calls Tryz.prog 119 #[.pointer (some ⟨j, 0, none⟩), .agg #[.int .u64 a, .int .u64 b]] W' fun e w' => e = .returned (.tuple #[]) /\ TK w w' j d m (n + 1) g F L (J.keep a b) S := by
 have hj : JrAt W' j d m n J := h.jd.jr.same (by rw [hW]) (by rw [hW])
 refine (keep_any j d m n J a b ha hb hn W' hj).mono ?_
 rintro e w' ⟨rfl, hj', kp⟩
 have hd : DvAt W' d F S := h.jd.dev.same (fun k _ => by rw [hW])
 have hK : Keep (m :: F) w W' := ⟨ht.1.trans h.keep.os, ht.2.1.trans h.keep.tape, ht.2.2.trans h.keep.output, by rw [hW]; exact h.keep.size, fun k h1 h2 => by rw [hW]; exact h.keep.block k h1 h2⟩
 have hg : g < W'.heap.size := by
  obtain ⟨bb, off, e, hc⟩ := (h.bs.heap hW).reads.1 0 (by rw [ints_length, <- h.bs.len]; omega)
  cases e
  exact block_lt_of_cell hc
 refine ⟨rfl, ⟨hj', hd.same (fun k hk => kp.block k (hd.lt k hk) (by simp; intro e; exact h.jd.nm (e ▸ hk))), h.jd.nj, h.jd.nm⟩, ?_, hK.trans kp (fun x hx => .inl (by simp at hx; simp [hx])), h.ng⟩
 exact (h.bs.heap hW).far (kp.block g hg (by simp; exact h.ng))
theorem take_good (j d m n : Nat) (F : List Nat) (J : Jr) (S : Dv) (k : Nat) (c : Cl) (b : ByteArray) (xs : List Mk) (hk : S.cs[k]? = some c) (hoff : S.off = false) (hc : c.now = .whole b) (hb : b.size <= 384) (ht : tkM J.gen (full b).data.toList = some xs) (hn : n < 900000) (w : World) (h : JD w j d m n F J S) :
  Calls Tryz.prog 152 #[.pointer (some ⟨j, 0, none⟩), .int .i64 (k : Nat)] w fun e w' => e = .returned (.bool true) /\ JD w' j d m (n + xs.length) F (J.keeps xs) (S.readDo (k : Nat)) /\ Keep (m :: F) w w' := by
 have c0 := h.jr.blk.cell (i := 0) rfl
 have C1 := hide (read_wholeT hk hoff hc w h.dev)
 have H := hide h
 clear h hk hoff hc
 generalize hL : (full b).data.toList = L at C1 ht
 have hL4 : L.length = 384 := by rw [<- hL, Array.length_toList]; exact full_size b hb
 have HL := hide hL4
 clear hL hL4
 unfold tkM at ht
 split at ht
 case isFalse => simp at ht
 rename_i hcond
 obtain ⟨h1, h2, h3⟩ := hcond
 obtain ⟨N, hN⟩ : ∃ N, N = up (sl L 4 8) := ⟨_, rfl⟩
 rw [<- hN] at ht h2
 have hs1 : ((txt (sl L 0 4)).toList == [84, 79, 77, 66]) = true := by rw [txt_list, h1]; rfl
 have h2' : ((23 : Int) < (N : Int)) = False := eq_false (by omega)
 have h3' : ((up (sl L 8 16) : Int) != (J.gen : Int)) = false := by simp; omega
 have hxs : xs = rdM N (L.drop 16) := by simpa using ht.symm
 have HX := hide hxs
 have H2 := hide h2
 have HN := hide hN
 have HNN := hide hn
 clear ht h1 h2 h3 hxs hN hn
 go_enter Tryz.func152, Tryz.ntmps152
 go_wp2_with (go_at_call 99; refine C1.out.mono ?_; rintro r w1 ⟨g, rfl, hg, hbs, hd, kp⟩; have HD := hide hd; have HK := hide kp; have HB := hide hbs; have HGN := hide hg; clear hd kp hbs hg)
 have HJ := hide (H.out.jr.keep HK.out H.out.nj H.out.nm)
 have hgen := HJ.out.blk.cell (i := 5) rfl
 have T1 : Hid (TK w w1 j d m n g F L J (S.readDo (k : Nat))) := ⟨⟨HJ.out, HD.out, H.out.nj, H.out.nm⟩, HB.out, HK.out.mono (fun x hx => .inl (by simp [hx])), by have := H.out.jr.mlt; have := HGN.out; omega⟩
 have hst : ∀ nq, (convert 40 9 (.slice (some ⟨g, 0, none⟩) 4 384)).run Tryz.prog (w1.drewN nq) = .ok (.string (txt (sl L 0 4))) (w1.drewN nq) := fun nq => str_bs (BS.sub (w := w1.drewN nq) (HB.out.heap rfl) 0 4 0 4 384 rfl (by omega) (by omega) rfl (by omega)) (by simp)
 refine (T1.out.num w1 rfl 4 8 4 4 380 rfl (by omega) (by omega) rfl (by omega) (by omega)).mono ?_
 rintro r w2 ⟨rfl, rfl⟩
 rw [<- HN.out]
 go_wp2_with fail
 go_quiet (first | (go_at_call 183; refine Calls.quiet_of_same (T1.out.num _ ?_ 8 16 8 8 376 rfl (by omega) (by omega) rfl (by omega) (by omega)); rfl))
 go_wp2_with fail
 have T2 : Hid (TK w (w2.drewN nq) j d m n g F L J (S.readDo (k : Nat))) := ⟨⟨HJ.out.same rfl rfl, HD.out.same (fun _ _ => rfl), H.out.nj, H.out.nm⟩, HB.out.heap rfl, ⟨T1.out.keep.os, T1.out.keep.tape, T1.out.keep.output, T1.out.keep.size, T1.out.keep.block⟩, T1.out.ng⟩
 clear T1 HJ HD HB HK hst hgen hs1 h2' h3' C1 c0
 go_loopg [5, 7] N (fun kx s5 s7 wr => ∃ i o r c : Nat, s5 = .slice (some ⟨g, o, none⟩) r r /\ s7 = .int .u64 c /\ c <= kx /\ i + c = N /\ (0 < r -> o = 16 + 16 * i) /\ r + 16 * i = 368 /\ Hid (TK w wr j d m (n + i) g F L (J.keeps (xs.take i)) (S.readDo (k : Nat))))
 case atStart => exact ⟨0, 16, 368, N, rfl, rfl, Nat.le_refl _, by omega, fun _ => rfl, rfl, T2.out⟩
 case round =>
  obtain ⟨i, o, r, c, rfl, rfl, hg, hic, ho, hr, I⟩ := hrel
  by_cases hc0 : 0 < c
  ·have hc1 : ((0 : Int) < (c : Int)) = True := eq_true (by omega)
   have hr16 : 16 <= r := by have := H2.out; omega
   replace ho := ho (by omega)
   have hr8 : ((r : Int) < 8) = False := eq_false (by omega)
   have hr8' : ((16 : Int) <= (r : Int)) = True := eq_true (by omega)
   have hr8'' : (r = 8) = False := eq_false (by omega)
   have hx := rdM_get N (L.drop 16) i (by omega)
   rw [List.drop_drop, sl_drop, sl_drop] at hx
   have hxi : xs[i]? = some (up (sl L o (o + 8)), up (sl L (o + 8) (o + 16))) := by
    rw [HX.out, hx, ho, Nat.add_zero]
   have hxt : xs.take (i + 1) = xs.take i ++ [(up (sl L o (o + 8)), up (sl L (o + 8) (o + 16)))] := by rw [List.take_add_one, hxi]; rfl
   have ha := tup_sl_lt L o (o + 8) (by have := HL.out; omega) (by omega)
   have hb' := tup_sl_lt L (o + 8) (o + 16) (by have := HL.out; omega) (by omega)
   generalize hA : up (sl L o (o + 8)) = A at hxt ha
   generalize hB : up (sl L (o + 8) (o + 16)) = B at hxt hb'
   obtain ⟨CC, hCC⟩ : ∃ CC : Bool -> World -> Prop, CC = fun f W => TK w W j d m (n + i + (if f then 1 else 0)) g F L (J.keeps (xs.take (i + if f then 1 else 0))) (S.readDo (k : Nat)) := ⟨_, rfl⟩
   have c1 : Hid (∀ f W, CC f W -> Calls Tryz.prog 183 #[.slice (some ⟨g, o, none⟩) 8 r] W fun e w' => e = .returned (.int .u64 (A : Int)) /\ w' = W) := fun f W hW => by
    rw [hCC] at hW
    rw [<- hA]
    exact hW.num W rfl o (o + 8) o 8 r (by omega) (by omega) (by omega) (by omega) (by omega) (by omega)
   have c2 : Hid (∀ f W, CC f W -> Calls Tryz.prog 183 #[.slice (some ⟨g, o + 8, none⟩) 8 (r - 8)] W fun e w' => e = .returned (.int .u64 (B : Int)) /\ w' = W) := fun f W hW => by
    rw [hCC] at hW
    rw [<- hB]
    exact hW.num W rfl (o + 8) (o + 16) (o + 8) 8 (r - 8) (by omega) (by omega) (by omega) (by omega) (by omega) (by omega)
   have c3 : Hid (∀ W, CC false W -> Calls Tryz.prog 119 #[.pointer (some ⟨j, 0, none⟩), .agg #[.int .u64 (A : Int), .int .u64 (B : Int)]] W fun e w' => e = .returned (.tuple #[]) /\ CC true w') := fun W hW => by
    rw [hCC] at hW
    refine (hW.kp W rfl ⟨rfl, rfl, rfl⟩ A B ha hb' (by have := HNN.out; have := H2.out; simp; omega)).mono ?_
    rintro e w' ⟨he, ht⟩
    refine ⟨he, ?_⟩
    rw [hCC]
    simp only [Bool.false_eq_true, if_false, Nat.add_zero, if_true] at ht ⊢
    rw [hxt, Jr.keeps_snoc]
    exact ht
   have DR : Hid (CC false { wr with drawn := wr.drawn + 1 }) := by
    show CC false _
    rw [hCC]
    exact ⟨⟨I.out.jd.jr.same rfl rfl, I.out.jd.dev.same (fun _ _ => rfl), I.out.jd.nj, I.out.jd.nm⟩, I.out.bs.heap rfl, ⟨I.out.keep.os, I.out.keep.tape, I.out.keep.output, I.out.keep.size, I.out.keep.block⟩, I.out.ng⟩
   have hc23 : (c : Int) <= 23 := by have := H2.out; omega
   have HO := hide ho
   have HR := hide hr
   have HIC := hide hic
   have HG := hide hg
   have HCC := hide hCC
   clear ho hr hic hg hx hxi hxt ha hb' hA hB hCC
   go_wp2_with fail
   refine wp_region_turn (by kernel_rfl) (by kernel_rfl) (fun i => ([.pointer (some ⟨j, 0, none⟩), .slice (some ⟨g, o, none⟩) r r, .slice (some ⟨g, o, none⟩) 8 r, .int .u64 (A : Int), .slice (some ⟨g, o, none⟩) r r, .slice (some ⟨g, o + 8, none⟩) 8 (r - 8), .int .u64 (B : Int), .agg #[.int .u64 (A : Int), .int .u64 (B : Int)], .tuple #[]] : List Value).getD i undef) 8 (by decide) (fun f W => CC f W) (DR.out) ?_ ?_
   ·intro i o hi f w' ev hc hz hin hout hcst hfn
    have hlt : i < 9 := by
     have := (Array.getElem?_eq_some_iff.1 hi).1
     simpa using this
    match i, hlt with
    | 0, _ =>
     cases hi
     have e0 : ev (.tmp 0) = .pointer (some ⟨j, 0, none⟩) := hout 0
     rw [if_neg (by decide)]
     refine .inl ⟨w', ?_, hc⟩
     simp [execOp, e0, hcst, go_sem]
    | 1, _ =>
     cases hi
     have e0 : ev (.tmp 5) = .slice (some ⟨g, o, none⟩) r r := hout 5
     rw [if_neg (by decide)]
     refine .inl ⟨w', ?_, hc⟩
     simp [execOp, e0, hcst, go_sem]
    | 2, _ =>
     cases hi
     have e0 : ev (.tmp 49) = .slice (some ⟨g, o, none⟩) r r := hin 49 1 ⟨1, .data⟩
     rw [if_neg (by decide)]
     refine .inl ⟨w', ?_, hc⟩
     simp [execOp, e0, hcst, go_sem, hr8, hr8', hr8'']
    | 3, _ =>
     cases hi
     have e0 : ev (.tmp 50) = .slice (some ⟨g, o, none⟩) 8 r := hin 50 2 ⟨2, .data⟩
     rw [if_neg (by decide)]
     refine .inr (.inr ⟨183, #[.slice (some ⟨g, o, none⟩) 8 r], ?_, ?_⟩)
     ·have ef := hfn 183
      simp [execOp, resolve, invoke, ef, hcst, e0, Result.andThen]
      exact entt49 _ _
     ·refine (c1.out f w' hc).mono ?_
      rintro e w2 ⟨rfl, rfl⟩
      exact ⟨rfl, hc⟩
    | 4, _ =>
     cases hi
     have e0 : ev (.tmp 5) = .slice (some ⟨g, o, none⟩) r r := hout 5
     rw [if_neg (by decide)]
     refine .inl ⟨w', ?_, hc⟩
     simp [execOp, e0, hcst, go_sem]
    | 5, _ =>
     cases hi
     have e0 : ev (.tmp 52) = .slice (some ⟨g, o, none⟩) r r := hin 52 4 ⟨4, .data⟩
     rw [if_neg (by decide)]
     refine .inl ⟨w', ?_, hc⟩
     simp [execOp, e0, hcst, go_sem, hr8, hr8', hr8'']
    | 6, _ =>
     cases hi
     have e0 : ev (.tmp 53) = .slice (some ⟨g, o + 8, none⟩) 8 (r - 8) := hin 53 5 ⟨5, .data⟩
     rw [if_neg (by decide)]
     refine .inr (.inr ⟨183, #[.slice (some ⟨g, o + 8, none⟩) 8 (r - 8)], ?_, ?_⟩)
     ·have ef := hfn 183
      simp [execOp, resolve, invoke, ef, hcst, e0, Result.andThen]
      exact entt49 _ _
     ·refine (c2.out f w' hc).mono ?_
      rintro e w2 ⟨rfl, rfl⟩
      exact ⟨rfl, hc⟩
    | 7, _ =>
     cases hi
     have e0 : ev (.tmp 51) = .int .u64 (A : Int) := hin 51 3 ⟨3, .data⟩
     have e1 : ev (.tmp 54) = .int .u64 (B : Int) := hin 54 6 ⟨6, .data⟩
     rw [if_neg (by decide)]
     refine .inl ⟨w', ?_, hc⟩
     simp [execOp, e0, e1, hcst, go_sem]
    | 8, _ =>
     cases hi
     have e0 : ev (.tmp 48) = .pointer (some ⟨j, 0, none⟩) := hin 48 0 ⟨0, .data⟩
     have e1 : ev (.tmp 55) = .agg #[.int .u64 (A : Int), .int .u64 (B : Int)] := hin 55 7 ⟨7, .data⟩
     rw [if_pos rfl]
     refine .inr (.inr ⟨119, #[.pointer (some ⟨j, 0, none⟩), .agg #[.int .u64 (A : Int), .int .u64 (B : Int)]], ?_, ?_⟩)
     ·have ef := hfn 119
      simp [execOp, resolve, invoke, ef, hcst, e0, e1, Result.andThen]
      exact entt34 _ _
     ·have hf := hz rfl
      subst hf
      exact c3.out w' hc
   ·intro w7 hc
    simp only [lexF, Act.put, List.setIfInBounds_toArray, List.set_cons_succ, List.set_cons_zero, List.getD_cons_succ, List.getD_cons_zero]
    have T3 := hide hc
    clear hc
    have HR16 := hide hr16
    by_cases hre : r = 16
    ·subst hre
     clear hr16 hr8 hr8' hr8''
     go_wp2
     go_roundg (c - 1)
     case measure => have := HG.out; omega
     case rel =>
      refine ⟨i + 1, o, 0, c - 1, rfl, ?_, Nat.le_refl _, by have := HIC.out; omega, fun h => absurd h (by omega), by have := HR.out; omega, ?_⟩
      ·rw [show ((c - 1 : Nat) : Int) = (c : Int) - 1 by omega]
      ·have := T3.out; rw [HCC.out] at this; exact this
    ·go_wp2
     go_roundg (c - 1)
     case measure => have := HG.out; omega
     case rel =>
      refine ⟨i + 1, o + 16, r - 16, c - 1, rfl, ?_, Nat.le_refl _, by have := HIC.out; omega, fun _ => by have := HO.out; omega, by have := HR.out; have := HR16.out; omega, ?_⟩
      ·rw [show ((c - 1 : Nat) : Int) = (c : Int) - 1 by omega]
      ·have := T3.out; rw [HCC.out] at this; exact this
  ·obtain rfl : c = 0 := by omega
   have hi : Hid (i = N) := by show _ = _; omega
   clear hic hg ho hr
   go_wp2
   go_ret
   refine ⟨rfl, ?_, ?_⟩
   ·have h1 := I.out.jd
    have hl : xs.length = N := by rw [HX.out, rdM_length]
    rw [hi.out, List.take_of_length_le (by omega)] at h1
    rw [hl]
    exact h1
   ·exact I.out.keep
structure Dv.like (S S' : Dv) : Prop where
 cs : S'.cs = S.cs
 armed : S'.armed = S.armed
 off : S'.off = S.off
 losses : S'.losses = S.losses
theorem Dv.like.refl (S : Dv) : S.like S := ⟨rfl, rfl, rfl, rfl⟩
theorem Dv.like.trans {A B C : Dv} (h : A.like B) (k : B.like C) : A.like C := ⟨k.cs.trans h.cs, k.armed.trans h.armed, k.off.trans h.off, k.losses.trans h.losses⟩
theorem Dv.like_read (S : Dv) (k : Int) : S.like (S.readDo k) := by unfold Dv.readDo; split <;> (try split) <;> exact ⟨rfl, rfl, rfl, rfl⟩
def rTake (r : Option (List Mk)) : Bool := r.isSome
def lTake (r : Option (List Mk)) : List Mk := r.getD []
theorem take_any (j d m n : Nat) (F : List Nat) (J : Jr) (S : Dv) (k : Nat) (c : Cl) (hk : S.cs[k]? = some c) (hoff : S.off = false) (hfit : c.now.fits) (hn : n < 900000) (w : World) (h : JD w j d m n F J S) :
  Calls Tryz.prog 152 #[.pointer (some ⟨j, 0, none⟩), .int .i64 (k : Nat)] w fun e w' => e = .returned (.bool (rTake (c.now.tk J.gen))) /\
   JD w' j d m (n + (lTake (c.now.tk J.gen)).length) F (J.keeps (lTake (c.now.tk J.gen))) (S.readDo (k : Nat)) /\ Keep (m :: F) w w' := by
 rcases hc : c.now with ⟨_ | _ | b⟩
 ·refine (take_blank j d m n F J S k c hk hoff hc w h).mono ?_
  rintro e w' ⟨rfl, h1, h2⟩
  exact ⟨rfl, h1, h2.mono (fun x hx => .inl (by simp [hx]))⟩
 ·refine (take_torn j d m n F J S k c hk hoff hc w h).mono ?_
  rintro e w' ⟨rfl, h1, h2⟩
  exact ⟨rfl, h1, h2.mono (fun x hx => .inl (by simp [hx]))⟩
 ·rw [hc] at hfit
  cases ht : tkM J.gen (full b).data.toList with
  | none =>
   refine (take_bad j d m n F J S k c b hk hoff hc hfit ht w h).mono ?_
   rintro e w' ⟨rfl, h1, h2⟩
   have e : Pg.tk J.gen (.whole b) = none := ht
   rw [e]
   exact ⟨rfl, h1, h2.mono (fun x hx => .inl (by simp [hx]))⟩
  | some xs =>
   refine (take_good j d m n F J S k c b xs hk hoff hc hfit ht hn w h).mono ?_
   rintro e w' ⟨rfl, h1, h2⟩
   have e : Pg.tk J.gen (.whole b) = some xs := ht
   rw [e]
   exact ⟨rfl, h1, h2⟩
def scanP (gen : Nat) : List Pg -> List (List Mk)
 | [] => []
 | p :: r => match p.tk gen with
  | none => []
  | some xs => xs :: scanP gen r
theorem scan_next {gen : Nat} : ∀ {P : List Pg} {k : Nat} {p : Pg} {xs : List Mk}, k <= (scanP gen P).length -> P[k]? = some p -> p.tk gen = some xs -> (scanP gen P)[k]? = some xs
 | [], k, p, xs, _, h, _ => by simp at h
 | q :: r, 0, p, xs, _, h, ht => by
  simp at h; subst h
  simp [scanP, ht]
 | q :: r, k + 1, p, xs, hk, h, ht => by
  simp only [scanP] at hk ⊢
  cases hq : q.tk gen with
  | none => rw [hq] at hk; simp at hk
  | some ys =>
   rw [hq] at hk
   simp only [List.length_cons, List.getElem?_cons_succ] at hk h ⊢
   exact scan_next (by omega) h ht
theorem scan_stop {gen : Nat} : ∀ {P : List Pg} {k : Nat} {p : Pg}, k <= (scanP gen P).length -> P[k]? = some p -> p.tk gen = none -> (scanP gen P).length = k
 | [], k, p, _, h, _ => by simp at h
 | q :: r, 0, p, _, h, ht => by
  simp at h; subst h
  simp [scanP, ht]
 | q :: r, k + 1, p, hk, h, ht => by
  simp only [scanP] at hk ⊢
  cases hq : q.tk gen with
  | none => rw [hq] at hk; simp at hk
  | some ys =>
   rw [hq] at hk
   simp only [List.length_cons, List.getElem?_cons_succ] at hk h ⊢
   rw [scan_stop (by omega) h ht]
theorem scan_le {gen : Nat} : ∀ P : List Pg, (scanP gen P).length <= P.length
 | [] => Nat.le_refl _
 | p :: r => by
  simp only [scanP]
  cases p.tk gen with
  | none => simp
  | some xs => simp only [List.length_cons]; exact Nat.succ_le_succ (scan_le r)
theorem tk_len {gen : Nat} {p : Pg} {xs : List Mk} (h : p.tk gen = some xs) : xs.length <= 23 := by
 rcases p with ⟨_ | _ | b⟩
 ·simp [Pg.tk] at h
 ·simp [Pg.tk] at h; subst h; simp
 ·simp only [Pg.tk, tkM] at h
  split at h
  ·rename_i hc
   cases h
   rw [rdM_length]; exact hc.2.1
  ·cases h
theorem keeps_same (xs : List Mk) : ∀ J : Jr, (J.keeps xs).losses = J.losses /\ (J.keeps xs).first = J.first /\ (J.keeps xs).pages = J.pages /\ (J.keeps xs).used = J.used /\ (J.keeps xs).gen = J.gen := by
 induction xs with
 | nil => intro J; exact ⟨rfl, rfl, rfl, rfl, rfl⟩
 | cons x r ih => intro J; exact ih (J.keep x.1 x.2)
theorem keeps_cells (J : Jr) (xs : List Mk) (d m : Nat) : jrCells d m (J.keeps xs) = jrCells d m J := by
 obtain ⟨h1, h2, h3, h4, h5⟩ := keeps_same xs J
 unfold jrCells
 rw [h1, h2, h3, h4, h5]
def kM (M : Nat -> Option Nat) (xs : List Mk) : Nat -> Option Nat := xs.foldl (fun M x => fun y => if y = x.1 then some (max ((M x.1).getD 0) x.2) else M y) M
theorem keeps_M (xs : List Mk) : ∀ J : Jr, (J.keeps xs).M = kM J.M xs := by
 induction xs with
 | nil => intro J; rfl
 | cons x r ih => intro J; exact ih (J.keep x.1 x.2)
theorem Jr.ext' {A B : Jr} (h1 : A.losses = B.losses) (h2 : A.first = B.first) (h3 : A.pages = B.pages) (h4 : A.used = B.used) (h5 : A.gen = B.gen) (h6 : A.M = B.M) : A = B := by
 cases A; cases B; simp_all
end Go.Proofs.YtcdghalnneilpaaGreat
