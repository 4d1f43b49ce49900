/- Joined texts. -/
import Derived.Test.YtcdghalnneilpaaGreatR21
set_option linter.unusedVariables false
set_option linter.unusedSimpArgs false
set_option maxRecDepth 8000
set_option maxHeartbeats 8000000
namespace Go.Proofs.YtcdghalnneilpaaGreat
open Go.RowKit Go.Deep Math
abbrev Mk := Nat × Nat
def Mk.fits (x : Nat × Nat) : Prop := x.1 < 18446744073709551616 /\ x.2 < 18446744073709551616
structure OneMk (w : World) (b o : Nat) (x : Mk) : Prop where
 c0 : w.cell? ⟨b, o, none⟩ = some (.int .u64 x.1)
 c1 : w.cell? ⟨b, o + 1, none⟩ = some (.int .u64 x.2)
theorem OneMk.below {w w' : World} {b o : Nat} {x : Mk} {B : Nat} (h : OneMk w b o x) (k : Below B w w') (hb : b < B) : OneMk w' b o x :=
 ⟨(k.cell (p := ⟨b, o, none⟩) hb).trans h.c0, (k.cell (p := ⟨b, o + 1, none⟩) hb).trans h.c1⟩
theorem OneMk.same {w w' : World} {b o : Nat} {x : Mk} (h : OneMk w b o x) (e : w'.heap[b]? = w.heap[b]?) : OneMk w' b o x :=
 ⟨(cell_same e).trans h.c0, (cell_same e).trans h.c1⟩
structure MksAt (w : World) (a : Option Addr) (len : Nat) (xs : List Mk) : Prop where
 len : len = xs.length
 fits : ∀ x ∈ xs, Mk.fits x
 cell : ∀ i x, xs[i]? = some x -> ∃ b o, a = some ⟨b, o, none⟩ /\ b < w.heap.size /\ OneMk w b (o + i * 2) x
theorem MksAt.below {w w' : World} {a : Option Addr} {len : Nat} {xs : List Mk} (h : MksAt w a len xs) (k : Below w.heap.size w w') : MksAt w' a len xs :=
 ⟨h.len, h.fits, fun i x hx => by
  obtain ⟨b, o, ha, hb, hc⟩ := h.cell i x hx
  exact ⟨b, o, ha, Nat.lt_of_lt_of_le hb k.size, hc.below k hb⟩⟩
def tmk4 : List UInt8 := [84, 79, 77, 66]
def encM (xs : List Mk) : List UInt8 := xs.flatMap fun x => low x.1 8 ++ low x.2 8
theorem encM_snoc (xs : List Mk) (x : Mk) : encM (xs ++ [x]) = encM xs ++ (low x.1 8 ++ low x.2 8) := by simp [encM]
theorem encM_cons (xs : List Mk) (x : Mk) : encM (x :: xs) = low x.1 8 ++ (low x.2 8 ++ encM xs) := by simp [encM]
theorem encM_length : ∀ xs : List Mk, (encM xs).length = 16 * xs.length
 | [] => rfl
 | x :: xs => by rw [encM_cons, List.length_append, List.length_append, low_length, low_length, encM_length xs, List.length_cons]; omega
def headB (gen n : Nat) : List UInt8 := tmk4 ++ low n 4 ++ low gen 8
def pageB (gen : Nat) (xs : List Mk) : List UInt8 := headB gen xs.length ++ encM xs
theorem headB_length (gen n : Nat) : (headB gen n).length = 16 := by simp [headB, tmk4, low_length]
theorem pageB_length (gen : Nat) (xs : List Mk) : (pageB gen xs).length = 16 + 16 * xs.length := by rw [pageB, List.length_append, headB_length, encM_length]
structure TLS (w W : World) (g : Nat) (cur : List UInt8) (r N : Nat) : Prop where
 buf : Buf W g cur r
 below : Below w.heap.size w W
 ng : w.heap.size <= g
 len : cur.length + r = N
theorem TLS.num {w W : World} {g r N : Nat} {cur : List UInt8} (h : TLS w W g cur r N) (n k m : Nat) (hm : m = cur.length) (hk : k <= 8) (hkr : k <= r) (hn : n < 18446744073709551616) (hN : N <= 400) :
  Calls Tryz.prog 166 #[.slice (some ⟨g, 0, none⟩) m N, .int .u64 n, .int .i64 k] W fun e w' => e = .returned (.slice (some ⟨g, 0, none⟩) (m + k) N) /\ TLS w w' g (cur ++ low n k) (r - k) N /\ Keep [g] W w' := by
 have hl := h.len
 refine (taddNumber_any g r k m N cur n hn hkr hk hm (by omega) (by omega) W h.buf).mono ?_
 rintro e w' ⟨he, hb, hkp⟩
 have hng := h.ng
 exact ⟨he, ⟨hb, h.below.trans (hkp.below (by simp; omega) h.below.size), hng, by rw [List.length_append, low_length]; omega⟩, hkp⟩
theorem TLS.alloc {w W : World} {g r N : Nat} {cur : List UInt8} (h : TLS w W g cur r N) (o : Obj) : TLS w (W.alloc o) g cur r N :=
 ⟨by have := h.buf; unfold Buf at *; exact this.alloc _, h.below.alloc h.below.size _, h.ng, h.len⟩
theorem TLS.start (w : World) (N : Nat) (Z : Array Value) (hZ : (zc N).toArray = Z) : TLS w (w.alloc (.cells Z 5)) w.heap.size [] N N := by
 refine ⟨?_, (Below.refl _ _).alloc (Nat.le_refl _) _, Nat.le_refl _, by simp⟩
 unfold Buf
 rw [show bCells [] ++ zc N = zc N from rfl]
 unfold Blk
 rw [hZ]
 exact blk_alloc_new _ _
theorem TLS.mark {w W : World} {g N : Nat} (h : TLS w W g [] N N) (h4 : 4 <= N) (hN : N <= 400) :
  ∃ W', (Builtin.append_ #[40, 9] 40 #[.slice (some ⟨g, 0, none⟩) 0 N, .string ⟨#[84, 79, 77, 66]⟩]).run Tryz.prog W = .ok (.slice (some ⟨g, 0, none⟩) 4 N) W' /\ TLS w W' g tmk4 (N - 4) N := by
 have hs : Src Tryz.prog 1 9 (.string ⟨#[84, 79, 77, 66]⟩) 4 (bCells tmk4) W := Src.ofString (P := Tryz.prog) W Tryz.underlying9 (txt tmk4)
 obtain ⟨h1, h2⟩ := buf_append (nl := 0) (cp := N) h.buf hs h4 rfl (by simp) 40
 have hk : Keep [g] W (W.setCells g 0 (bCells tmk4)) := (Keep.refl _ _).setCells (.inl (by simp)) _ _
 have hng := h.ng
 exact ⟨_, h1, h2, h.below.trans (hk.below (by simp; omega) h.below.size), hng, by simp [tmk4]; omega⟩
theorem tlaid_any (gen : Nat) (hgen : gen < 18446744073709551616) (a : Option Addr) (len cap : Nat) (xs : List Mk) (hlen : len <= 23) (w : World) (h : MksAt w a len xs) :
  Calls Tryz.prog 118 #[.int .u64 gen, .slice a len cap] w fun e w' => e = .returned (.slice (some ⟨w.heap.size, 0, none⟩) (16 + 16 * len) (16 + 16 * len)) /\ Buf w' w.heap.size (pageB gen xs) 0 /\ Below w.heap.size w w' := by
 obtain ⟨N, hN⟩ : ∃ N, N = 16 + 16 * len := ⟨_, rfl⟩
 have hN4 : N <= 400 := by omega
 have hmk := make_cap N (by omega) w
 generalize hZ : (zc N).toArray = Z at hmk
 obtain ⟨W1, hm, h1⟩ := (TLS.start w N Z hZ).mark (by omega) hN4
 have EN : wrap64 (16 + wrap64 (16 * (len : Int))) = (N : Int) := by unfold wrap64; omega
 have hl := h.len
 have H := hide h
 have HR1 := hide hm
 have HLE := hide hlen
 have HN := hide hN
 have HN4 := hide hN4
 have HG := hide hgen
 have C1 := hide (h1.num len 4 4 rfl (by omega) (by omega) (by omega) hN4)
 have HL := hide hl
 have hwl : IntKind.u64.wrap (len : Int) = (len : Int) := by rw [IntKind.wrap_u64]; omega
 rw [<- hN]
 clear h h1 hl hlen hN hN4 hgen hZ hm
 go_enter Tryz.func118, Tryz.ntmps118
 go_wp2_with (first
  | (go_at_call 166; fail)
  | (at_builtin; refine Lib.wpList_append_run _ rfl _ _ _ _ rfl _ _ rfl rfl _ _ HR1.out ?_))
 refine C1.out.mono ?_
 rintro r W2 ⟨rfl, h2, _⟩
 have H2 := hide h2
 have C2 := hide (h2.num gen 8 8 (by simp [tmk4, low_length]) (by omega) (by have := HN.out; omega) HG.out HN4.out)
 clear h2 C1 HR1
 go_wp2_with fail
 refine C2.out.mono ?_
 rintro r W3 ⟨rfl, h3, _⟩
 have H3 : Hid (TLS w W3 w.heap.size (headB gen len) (N - 16) N) := by
  have := h3
  rw [show N - 4 - 4 - 8 = N - 16 by omega] at this
  exact this
 clear h3 C2 H2 hmk EN hwl
 go_wp2_with fail
 go_loopg [5, 24] len (fun kx s5 s24 wr => ∃ i m : Nat, s24 = .int .i64 i /\ s5 = .slice (some ⟨w.heap.size, 0, none⟩) m N /\ i <= len /\ len - i <= kx /\ Hid (m = (headB gen len ++ encM (xs.take i)).length /\ TLS w wr w.heap.size (headB gen len ++ encM (xs.take i)) (N - 16 - 16 * i) N))
 case atStart => exact ⟨0, 16, rfl, rfl, by omega, by omega, by simp [headB_length, encM], by simpa [encM] using H3.out⟩
 case round =>
  obtain ⟨i, m, rfl, rfl, hin, hg, I⟩ := hrel
  by_cases hlt : i < len
  ·have hlt2 : (i : Int) < (len : Int) := by omega
   have hi23 : (i : Int) < 23 := by have := HLE.out; omega
   obtain ⟨x, hx⟩ : ∃ x, xs[i]? = some x := ⟨_, List.getElem?_eq_getElem (by have := HL.out; omega)⟩
   have hxf := H.out.fits x (List.mem_of_getElem? hx)
   obtain ⟨b, o, rfl, hb, hone⟩ := H.out.cell i x hx
   obtain ⟨k0, k1⟩ := hone.below I.out.2.below hb
   have hr : 16 <= N - 16 - 16 * i := by have := HN.out; omega
   have hxs : xs.take (i + 1) = xs.take i ++ [x] := by rw [List.take_add_one, hx]; rfl
   have HX := hide hxs
   have HM := hide I.out.1
   have CA := hide (((I.out.2.alloc (.cells #[.int .u64 x.1, .int .u64 x.2] 115))).num x.1 8 m I.out.1 (by omega) (by omega) hxf.1 HN4.out)
   have HXF := hide hxf
   have HR := hide hr
   have HGM := hide hg
   have NW := hide (Blk.new wr [.int .u64 x.1, .int .u64 x.2] 115)
   have HBL := hide I.out.2.below
   clear hx hone hxs hr hxf hg
   go_wp2_with fail
   refine CA.out.mono ?_
   rintro r w1 ⟨rfl, ha, kp⟩
   have hbx := NW.out.same (kp.block _ NW.out.lt (by simp; have := I.out.2.buf; unfold Buf at this; have := this.lt; omega))
   have y1 := hbx.cell (i := 1) rfl
   have hltx := hbx.lt
   have CB := hide (ha.num x.2 8 (m + 8) (by rw [HM.out]; simp [low_length]; omega) (by omega) (by have := HR.out; omega) HXF.out.2 HN4.out)
   clear ha kp hbx CA k0 k1
   go_wp2_with fail
   refine CB.out.mono ?_
   rintro r w2 ⟨rfl, hb2, _⟩
   have HB2 := hide hb2
   clear hb2 CB y1
   go_wp2
   go_roundg (len - (i + 1))
   case measure => have := HGM.out; omega
   case rel =>
    refine ⟨i + 1, m + 16, rfl, rfl, hlt, by omega, ?_, ?_⟩
    ·rw [HX.out, encM_snoc, HM.out]; simp [low_length]; omega
    ·have := HB2.out
     rw [HX.out, encM_snoc, show N - 16 - 16 * (i + 1) = N - 16 - 16 * i - 8 - 8 by omega]
     simpa [List.append_assoc] using this
  ·obtain rfl : i = len := by omega
   have hlt2 : ¬ (i : Int) < (i : Int) := by omega
   have hfin : Hid (m = N /\ TLS w wr w.heap.size (pageB gen xs) 0 N) := by
    have h1 := I.out.2
    have h2 := I.out.1
    rw [show xs.take i = xs from List.take_of_length_le (by have := HL.out; omega)] at h1 h2
    rw [show N - 16 - 16 * i = 0 by have := HN.out; omega] at h1
    refine ⟨?_, ?_⟩
    ·rw [h2, List.length_append, headB_length, encM_length, HN.out, <- HL.out]
    ·unfold pageB; rw [<- HL.out]; exact h1
   obtain ⟨rfl, hls⟩ := hfin.out
   have HLS := hide hls
   clear hls hfin I
   go_wp2
   go_ret
   exact ⟨rfl, HLS.out.buf, HLS.out.below⟩
end Go.Proofs.YtcdghalnneilpaaGreat
namespace Go.Proofs.YtcdghalnneilpaaGreat
open Go.RowKit Go.Deep
theorem hide' {p : Prop} (h : p) : Hid p := h
structure Jr where
 losses : Int
 first : Int
 pages : Int
 used : Int
 gen : Nat
 M : Nat -> Option Nat
def u64L (k : Nat) : Lit := .int .u64 (k : Int)
def kv (p : Nat × Nat) : Lit × DataW Unit := (u64L p.1, .lit (u64L p.2))
structure MapIs (D : DataW Unit) (M : Nat -> Option Nat) : Prop where
 isMap : Maps.IsMap D
 has : ∀ k, k < 18446744073709551616 -> Maps.has D (u64L k) = (M k).isSome
 val : ∀ k, k < 18446744073709551616 -> D.atKey (u64L k) (.lit (u64L 0)) = .lit (u64L ((M k).getD 0))
 lt : ∀ k v, M k = some v -> k < 18446744073709551616 /\ v < 18446744073709551616
 list : ∃ L : List (Nat × Nat), D = .map (L.map kv) /\ (L.map Prod.fst).Nodup /\ ∀ p, p ∈ L ↔ M p.1 = some p.2
def jrCells (d m : Nat) (J : Jr) : List Value := [.pointer (some ⟨d, 0, none⟩), .int .i64 J.losses, .int .i64 J.first, .int .i64 J.pages, .int .i64 J.used, .int .u64 J.gen, .map (some m)]
structure JrAt (w : World) (j d m n : Nat) (J : Jr) : Prop where
 blk : Blk w j (jrCells d m J) 166
 map : ∃ D : DataW Unit, w.ownsMap Tryz.prog 28 (plainElem Tryz.prog 28) m n D /\ MapIs D J.M
 ne : j ≠ m
theorem keyed30 : Maps.Keyed Tryz.prog 28 := Maps.int_keyed Tryz.underlying28
theorem wf_u64' (k : Nat) (h : k < 18446744073709551616) : (u64L k).wf = true := by
 have h1 : IntKind.u64.min = 0 := rfl
 have h2 : IntKind.u64.max = 18446744073709551615 := rfl
 simp [u64L, Lit.wf, h1, h2]
 omega
theorem key30 (k : Nat) (h : k < 18446744073709551616) : keyOf Tryz.prog 28 (.int .u64 (k : Int)) = some (u64L k) := Maps.keyOf_int_mk Tryz.underlying28 (wf_u64' k h)
theorem zero30 (w : World) : (zeroValue 28).run Tryz.prog w = .ok (.int .u64 0) w := by go_simp
theorem room_any (j d m n : Nat) (J : Jr) (w : World) (h : JrAt w j d m n J) :
  Calls Tryz.prog 117 #[.pointer (some ⟨j, 0, none⟩)] w fun e w' => e = .returned (.int .i64 (wrap64 (J.pages - J.used))) /\ Below w.heap.size w w' := by
 have c3 := h.blk.cell (i := 3) rfl
 have c4 := h.blk.cell (i := 4) rfl
 clear h
 go_enter Tryz.func117, Tryz.ntmps117
 go_wp2_with fail
 go_region
 all_goals go_wp2
 all_goals go_ret
 all_goals exact ⟨rfl, (Below.refl _ _).drew⟩
def Jr.gone (J : Jr) (k v : Nat) : Bool := match J.M k with
 | none => false
 | some u => decide (v <= u)
theorem gone_any' (j d m n : Nat) (J : Jr) (k v : Nat) (hk : k < 18446744073709551616) (w : World) (h : JrAt w j d m n J) :
  Calls Tryz.prog 164 #[.pointer (some ⟨j, 0, none⟩), .int .u64 k, .int .u64 v] w fun e w' => e = .returned (.bool (J.gone k v)) /\ w' = w := by
 have c6 := h.blk.cell (i := 6) rfl
 obtain ⟨D, hD, hM⟩ := h.map
 obtain ⟨x, ps, hrun, hx⟩ := hD.look_ok (t := 164) keyed30 Tryz.underlying164 (zero30 w) (plainElem_int Tryz.underlying28 (wf_u64' 0 (by decide))) (key30 k hk)
 rw [hM.has k hk] at hrun
 have hv := hM.val k hk
 obtain ⟨a, rfl, ha, _⟩ := plainElem_int_inv Tryz.underlying28 hx
 have e : a = (((J.M k).getD 0 : Nat) : Int) := by
  have h1 : D.atKey (u64L k) (.lit (.int .u64 0)) = .lit (.int .u64 a) := by simpa using (congrArg Prod.fst ha)
  have h2 : DataW.lit (u64L ((J.M k).getD 0)) = (.lit (.int .u64 a) : DataW Unit) := by rw [<- hv]; exact h1
  simp [u64L] at h2
  exact h2.symm
 subst e
 have EG : Hid (J.gone k v = match J.M k with | none => false | some u => decide (v <= u)) := rfl
 cases hMk : J.M k with
 | none =>
  rw [hMk] at hrun EG
  simp only [Option.isSome_none, Option.getD_none] at hrun
  clear h hD hM hx ha hv hMk
  go_enter Tryz.func164, Tryz.ntmps164
  go_wp2
  go_ret
  exact ⟨by rw [EG.out]; rfl, rfl⟩
 | some u =>
  rw [hMk] at hrun EG
  simp only [Option.isSome_some, Option.getD_some] at hrun
  clear h hD hM hx ha hv hMk
  go_enter Tryz.func164, Tryz.ntmps164
  go_wp2
  go_ret
  exact ⟨by rw [EG.out]; simp, rfl⟩
def Jr.keep (J : Jr) (k v : Nat) : Jr := { J with M := fun x => if x = k then some (max ((J.M k).getD 0) v) else J.M x }
theorem u64L_inj {a b : Nat} (h : u64L a = u64L b) : a = b := by
 simp [u64L] at h
 omega
theorem tkeyLit (k : Nat) : WideAt.IsKeyLit (u64L k) := by simp [u64L, WideAt.IsKeyLit]
theorem same_u64 (a b : Nat) : (u64L a).sameKey (u64L b) = decide (a = b) := by
 by_cases e : a = b
 ·subst e; simp [Lit.sameKey, u64L]
 ·rw [Maps.sameKey_ne (fun h => e (u64L_inj h))]; simp [e]
theorem insert_kv (x : Nat × Nat) : ∀ l : List (Nat × Nat), ∃ l' : List (Nat × Nat), DataW.insert (kv x) (l.map kv) = l'.map kv /\ l'.Perm (x :: l)
 | [] => ⟨[x], rfl, List.Perm.refl _⟩
 | y :: r => by
  obtain ⟨l', h1, h2⟩ := insert_kv x r
  rw [List.map_cons]
  unfold DataW.insert
  split
  ·exact ⟨x :: y :: r, rfl, List.Perm.refl _⟩
  ·refine ⟨y :: l', by rw [h1]; rfl, (h2.cons y).trans (List.Perm.swap x y r)⟩
theorem filter_kv (k : Nat) (l : List (Nat × Nat)) : (l.map kv).filter (ChangeMaps.notKey (u64L k)) = (l.filter fun p => decide (p.1 ≠ k)).map kv := by
 rw [List.filter_map]
 congr 1
 apply List.filter_congr
 intro p _
 show (!(u64L p.1).sameKey (u64L k)) = _
 rw [same_u64]
 by_cases e : p.1 = k <;> simp [e]
theorem MapIs.put {D : DataW Unit} {M : Nat -> Option Nat} (h : MapIs D M) (k u : Nat) (hk : k < 18446744073709551616) (hu : u < 18446744073709551616) : MapIs (D.put (u64L k) (.lit (u64L u))) (fun x => if x = k then some u else M x) := by
 refine ⟨?_, fun x hx => ?_, fun x hx => ?_, fun x v hv => ?_, ?_⟩
 ·exact h.isMap.put _ _
 ·by_cases e : x = k
  ·subst e; rw [Maps.has_put_same h.isMap (tkeyLit x)]; simp
  ·rw [Maps.has_put_other (fun e' => e (u64L_inj e'))]; simp [e, h.has x hx]
 ·by_cases e : x = k
  ·subst e; rw [Maps.atKey_put_same h.isMap (tkeyLit x)]; simp
  ·rw [Maps.atKey_put_other (fun e' => e (u64L_inj e'))]; simp [e, h.val x hx]
 ·by_cases e : x = k
  ·simp [e] at hv; omega
  ·simp [e] at hv; exact h.lt x v hv
 ·obtain ⟨L, h1, h2, h3⟩ := h.list
  obtain ⟨L', e1, e2⟩ := insert_kv (k, u) (L.filter fun p => decide (p.1 ≠ k))
  refine ⟨L', ?_, ?_, fun p => ?_⟩
  ·rw [h1, DataW.put_eq]
   show DataW.map (DataW.insert (kv (k, u)) _) = _
   rw [filter_kv, e1]
  ·have hn : (((k, u) :: L.filter fun p => decide (p.1 ≠ k)).map Prod.fst).Nodup := by
    rw [List.map_cons, List.nodup_cons]
    refine ⟨fun hm => ?_, ?_⟩
    ·obtain ⟨q, hq, hq2⟩ := List.mem_map.1 hm
     have := (List.mem_filter.1 hq).2
     simp at this hq2
     exact this hq2
    ·exact h2.sublist ((List.filter_sublist).map _)
   exact ((e2.map Prod.fst).nodup_iff).2 hn
  ·rw [e2.mem_iff, List.mem_cons, List.mem_filter, h3]
   obtain ⟨a, b⟩ := p
   by_cases e : a = k
   ·subst e; simp; constructor <;> (intro e; exact e.symm)
   ·simp [e]
theorem MapIs.empty : MapIs (.map []) (fun _ => none) :=
 ⟨⟨[], rfl⟩, fun k _ => rfl, fun k _ => rfl, fun k v h => by simp at h, [], rfl, List.nodup_nil, fun p => by simp⟩
theorem JrAt.same {w w' : World} {j d m n : Nat} {J : Jr} (h : JrAt w j d m n J) (hj : w'.heap[j]? = w.heap[j]?) (hm : w'.heap[m]? = w.heap[m]?) : JrAt w' j d m n J := by
 obtain ⟨D, ⟨es, c, h1, h2⟩, h3⟩ := h.map
 exact ⟨h.blk.same hj, ⟨D, ⟨es, c, hm.trans h1, h2⟩, h3⟩, h.ne⟩
theorem JrAt.mlt {w : World} {j d m n : Nat} {J : Jr} (h : JrAt w j d m n J) : m < w.heap.size := by
 obtain ⟨D, h1, _⟩ := h.map
 exact h1.lt
theorem JrAt.below {w w' : World} {j d m n : Nat} {J : Jr} (h : JrAt w j d m n J) (b : Below w.heap.size w w') : JrAt w' j d m n J := h.same (b.block _ h.blk.lt) (b.block _ h.mlt)
theorem JrAt.keep {w w' : World} {j d m n : Nat} {J : Jr} {F : List Nat} (h : JrAt w j d m n J) (k : Keep F w w') (hj : j ∉ F) (hm : m ∉ F) : JrAt w' j d m n J := h.same (k.block _ h.blk.lt hj) (k.block _ h.mlt hm)
theorem keep_any (j d m n : Nat) (J : Jr) (k v : Nat) (hk : k < 18446744073709551616) (hv : v < 18446744073709551616) (hn : n < 1000000) (w : World) (h : JrAt w j d m n J) :
  Calls Tryz.prog 119 #[.pointer (some ⟨j, 0, none⟩), .agg #[.int .u64 k, .int .u64 v]] w fun e w' => e = .returned (.tuple #[]) /\ JrAt w' j d m (n + 1) (J.keep k v) /\ Keep [m] w w' := by
 have hA := h.below ((Below.refl _ w).alloc (Nat.le_refl _) (.cells #[.int .u64 k, .int .u64 v] 115))
 have hA' : JrAt (w.alloc (.cells #[.int .u64 k, .int .u64 v] 115)).drew j d m n J := hA.same rfl rfl
 have c6 := hA'.blk.cell (i := 6) rfl
 obtain ⟨D, hD, hM⟩ := hA'.map
 obtain ⟨c, hrun, hc, hwf⟩ := hD.lookup_int (t := 164) keyed30 Tryz.underlying164 Tryz.underlying28 (zero30 _) (key30 k hk)
 have ec : c = (((J.M k).getD 0 : Nat) : Int) := by
  have h2 := hM.val k hk
  have h1 : D.atKey (u64L k) (.lit (u64L 0)) = .lit (.int .u64 c) := hc
  rw [h2] at h1
  simp [u64L] at h1
  exact h1.symm
 subst ec
 have hlt : max ((J.M k).getD 0) v < 18446744073709551616 := by
  cases hMk : J.M k with
  | none => simp; omega
  | some u => have := (hM.lt k u hMk).2; simp; omega
 obtain ⟨w', hupd, hown, hgrow⟩ := hD.update (t := 164) keyed30 Tryz.underlying164 (Nat.lt_trans hn (by decide)) (key30 k hk) (plainElem_int Tryz.underlying28 (wf_u64' (max ((J.M k).getD 0) v) hlt))
 have ei : max (((J.M k).getD 0 : Nat) : Int) (v : Int) = ((max ((J.M k).getD 0) v : Nat) : Int) := by omega
 rw [<- ei] at hupd
 have HJ := hide' hA'.blk
 have HW := hide' (show JrAt w' j d m (n + 1) (J.keep k v) from ⟨hA'.blk.same (hgrow.block _ hA'.blk.lt (by intro e; exact h.ne (Option.some.inj e))), ⟨_, hown, hM.put k _ hk hlt⟩, h.ne⟩)
 have HK := hide' (show Keep [m] w w' from (((Keep.refl [m] w).alloc (.cells #[.int .u64 k, .int .u64 v] 115)).drew).grown hgrow (fun x hx => .inl (by cases hx; simp)))
 clear hA hA' h hD hM hc hwf hown hgrow ei hlt
 go_enter Tryz.func119, Tryz.ntmps119
 go_wp2_with fail
 go_region
 all_goals go_wp2
 all_goals go_end0
 all_goals exact ⟨rfl, HW.out, HK.out⟩
theorem begin_any (j d m n : Nat) (J : Jr) (g : Nat) (w : World) (h : JrAt w j d m n J) :
  Calls Tryz.prog 78 #[.pointer (some ⟨j, 0, none⟩), .int .u64 g] w fun e w' => e = .returned (.tuple #[]) /\ ∃ m', JrAt w' j d m' 0 { J with used := 0, gen := g, M := fun _ => none } /\ w.heap.size <= m' /\ Keep [j] w w' := by
 have hB := h.blk.alloc (.map #[] 0)
 have f := fun i => hB.frozen i
 have f4 := f 4
 have f5 := f 5
 have f6 := f 6
 have c4 := hB.cell (i := 4) rfl
 have c5 := hB.cell (i := 5) rfl
 have c6 := hB.cell (i := 6) rfl
 have hlt := hB.lt
 have HB := hide' hB
 have HL := hide' h.blk.lt
 clear h hB f
 go_enter Tryz.func78, Tryz.ntmps78
 have hmk := run_makeMap (P := Tryz.prog) 164 w
 go_wp2
 go_end0
 have hne : j ≠ w.heap.size := Nat.ne_of_lt HL.out
 have KK : Keep [j] w ((((w.alloc (.map #[] 0)).setCell ⟨j, 5, none⟩ (.int .u64 g)).setCell ⟨j, 4, none⟩ (.int .i64 0)).setCell ⟨j, 6, none⟩ (.map (some w.heap.size))) :=
  ((((Keep.refl [j] w).alloc _).setCell (.inl (by simp)) _).setCell (.inl (by simp)) _).setCell (.inl (by simp)) _
 refine ⟨rfl, w.heap.size, ⟨((HB.out.set 5 _).set 4 _).set 6 _, ⟨.map [], (((World.ownsMap_made w Tryz.prog 28 (plainElem Tryz.prog 28)).setCell (Ne.symm hne) _).setCell (Ne.symm hne) _).setCell (Ne.symm hne) _, MapIs.empty⟩, hne⟩, Nat.le_refl _, KK⟩
end Go.Proofs.YtcdghalnneilpaaGreat
