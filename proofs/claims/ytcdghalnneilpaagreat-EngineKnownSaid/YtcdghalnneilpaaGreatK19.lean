/- Joined texts. -/
import Derived.Test.YtcdghalnneilpaaGreatK14
set_option linter.unusedVariables false
set_option linter.unusedSimpArgs false
set_option maxRecDepth 8000
set_option maxHeartbeats 8000000
namespace Go.Proofs.YtcdghalnneilpaaGreat
open Go.RowKit Go.Deep Math
abbrev Mk := Nat × Nat
def Mk.fits (x : Nat × Nat) : Prop := x.1 < 18446744073709551616 /\ x.2 < 18446744073709551616
structure OneMk (w : World) (b o : Nat) (x : Mk) : Prop where
 c0 : w.cell? ⟨b, o, none⟩ = some (.int .u64 x.1)
 c1 : w.cell? ⟨b, o + 1, none⟩ = some (.int .u64 x.2)
theorem OneMk.below {w w' : World} {b o : Nat} {x : Mk} {B : Nat} (h : OneMk w b o x) (k : Below B w w') (hb : b < B) : OneMk w' b o x :=
 ⟨(k.cell (p := ⟨b, o, none⟩) hb).trans h.c0, (k.cell (p := ⟨b, o + 1, none⟩) hb).trans h.c1⟩
theorem OneMk.same {w w' : World} {b o : Nat} {x : Mk} (h : OneMk w b o x) (e : w'.heap[b]? = w.heap[b]?) : OneMk w' b o x :=
 ⟨(cell_same e).trans h.c0, (cell_same e).trans h.c1⟩
structure MksAt (w : World) (a : Option Addr) (len : Nat) (xs : List Mk) : Prop where
 len : len = xs.length
 fits : ∀ x ∈ xs, Mk.fits x
 cell : ∀ i x, xs[i]? = some x -> ∃ b o, a = some ⟨b, o, none⟩ /\ b < w.heap.size /\ OneMk w b (o + i * 2) x
theorem MksAt.below {w w' : World} {a : Option Addr} {len : Nat} {xs : List Mk} (h : MksAt w a len xs) (k : Below w.heap.size w w') : MksAt w' a len xs :=
 ⟨h.len, h.fits, fun i x hx => by
  obtain ⟨b, o, ha, hb, hc⟩ := h.cell i x hx
  exact ⟨b, o, ha, Nat.lt_of_lt_of_le hb k.size, hc.below k hb⟩⟩
def tmk4 : List UInt8 := [84, 79, 77, 66]
def encM (xs : List Mk) : List UInt8 := xs.flatMap fun x => low x.1 8 ++ low x.2 8
theorem encM_snoc (xs : List Mk) (x : Mk) : encM (xs ++ [x]) = encM xs ++ (low x.1 8 ++ low x.2 8) := by simp [encM]
theorem encM_cons (xs : List Mk) (x : Mk) : encM (x :: xs) = low x.1 8 ++ (low x.2 8 ++ encM xs) := by simp [encM]
theorem encM_length : ∀ xs : List Mk, (encM xs).length = 16 * xs.length
 | [] => rfl
 | x :: xs => by rw [encM_cons, List.length_append, List.length_append, low_length, low_length, encM_length xs, List.length_cons]; omega
def headB (gen n : Nat) : List UInt8 := tmk4 ++ low n 4 ++ low gen 8
def pageB (gen : Nat) (xs : List Mk) : List UInt8 := headB gen xs.length ++ encM xs
theorem headB_length (gen n : Nat) : (headB gen n).length = 16 := by simp [headB, tmk4, low_length]
theorem pageB_length (gen : Nat) (xs : List Mk) : (pageB gen xs).length = 16 + 16 * xs.length := by rw [pageB, List.length_append, headB_length, encM_length]
structure TLS (w W : World) (g : Nat) (cur : List UInt8) (r N : Nat) : Prop where
 buf : Buf W g cur r
 below : Below w.heap.size w W
 ng : w.heap.size <= g
 len : cur.length + r = N
theorem TLS.num {w W : World} {g r N : Nat} {cur : List UInt8} (h : TLS w W g cur r N) (n k m : Nat) (hm : m = cur.length) (hk : k <= 8) (hkr : k <= r) (hn : n < 18446744073709551616) (hN : N <= 400) :
  Calls Tryz.prog 166 #[.slice (some ⟨g, 0, none⟩) m N, .int .u64 n, .int .i64 k] W fun e w' => e = .returned (.slice (some ⟨g, 0, none⟩) (m + k) N) /\ TLS w w' g (cur ++ low n k) (r - k) N /\ Keep [g] W w' := by
 have hl := h.len
 refine (taddNumber_any g r k m N cur n hn hkr hk hm (by omega) (by omega) W h.buf).mono ?_
 rintro e w' ⟨he, hb, hkp⟩
 have hng := h.ng
 exact ⟨he, ⟨hb, h.below.trans (hkp.below (by simp; omega) h.below.size), hng, by rw [List.length_append, low_length]; omega⟩, hkp⟩
theorem TLS.alloc {w W : World} {g r N : Nat} {cur : List UInt8} (h : TLS w W g cur r N) (o : Obj) : TLS w (W.alloc o) g cur r N :=
 ⟨by have := h.buf; unfold Buf at *; exact this.alloc _, h.below.alloc h.below.size _, h.ng, h.len⟩
theorem TLS.start (w : World) (N : Nat) (Z : Array Value) (hZ : (zc N).toArray = Z) : TLS w (w.alloc (.cells Z 5)) w.heap.size [] N N := by
 refine ⟨?_, (Below.refl _ _).alloc (Nat.le_refl _) _, Nat.le_refl _, by simp⟩
 unfold Buf
 rw [show bCells [] ++ zc N = zc N from rfl]
 unfold Blk
 rw [hZ]
 exact blk_alloc_new _ _
theorem TLS.mark {w W : World} {g N : Nat} (h : TLS w W g [] N N) (h4 : 4 <= N) (hN : N <= 400) :
  ∃ W', (Builtin.append_ #[40, 9] 40 #[.slice (some ⟨g, 0, none⟩) 0 N, .string ⟨#[84, 79, 77, 66]⟩]).run Tryz.prog W = .ok (.slice (some ⟨g, 0, none⟩) 4 N) W' /\ TLS w W' g tmk4 (N - 4) N := by
 have hs : Src Tryz.prog 1 9 (.string ⟨#[84, 79, 77, 66]⟩) 4 (bCells tmk4) W := Src.ofString (P := Tryz.prog) W Tryz.underlying9 (txt tmk4)
 obtain ⟨h1, h2⟩ := buf_append (nl := 0) (cp := N) h.buf hs h4 rfl (by simp) 40
 have hk : Keep [g] W (W.setCells g 0 (bCells tmk4)) := (Keep.refl _ _).setCells (.inl (by simp)) _ _
 have hng := h.ng
 exact ⟨_, h1, h2, h.below.trans (hk.below (by simp; omega) h.below.size), hng, by simp [tmk4]; omega⟩
theorem tlaid_any (gen : Nat) (hgen : gen < 18446744073709551616) (a : Option Addr) (len cap : Nat) (xs : List Mk) (hlen : len <= 23) (w : World) (h : MksAt w a len xs) :
  Calls Tryz.prog 118 #[.int .u64 gen, .slice a len cap] w fun e w' => e = .returned (.slice (some ⟨w.heap.size, 0, none⟩) (16 + 16 * len) (16 + 16 * len)) /\ Buf w' w.heap.size (pageB gen xs) 0 /\ Below w.heap.size w w' := by
 obtain ⟨N, hN⟩ : ∃ N, N = 16 + 16 * len := ⟨_, rfl⟩
 have hN4 : N <= 400 := by omega
 have hmk := make_cap N (by omega) w
 generalize hZ : (zc N).toArray = Z at hmk
 obtain ⟨W1, hm, h1⟩ := (TLS.start w N Z hZ).mark (by omega) hN4
 have EN : wrap64 (16 + wrap64 (16 * (len : Int))) = (N : Int) := by unfold wrap64; omega
 have hl := h.len
 have H := hide h
 have HR1 := hide hm
 have HLE := hide hlen
 have HN := hide hN
 have HN4 := hide hN4
 have HG := hide hgen
 have C1 := hide (h1.num len 4 4 rfl (by omega) (by omega) (by omega) hN4)
 have HL := hide hl
 have hwl : IntKind.u64.wrap (len : Int) = (len : Int) := by rw [IntKind.wrap_u64]; omega
 rw [<- hN]
 clear h h1 hl hlen hN hN4 hgen hZ hm
 go_enter Tryz.func118, Tryz.ntmps118
 go_wp2_with (first
  | (go_at_call 166; fail)
  | (at_builtin; refine Lib.wpList_append_run _ rfl _ _ _ _ rfl _ _ rfl rfl _ _ HR1.out ?_))
 refine C1.out.mono ?_
 rintro r W2 ⟨rfl, h2, _⟩
 have H2 := hide h2
 have C2 := hide (h2.num gen 8 8 (by simp [tmk4, low_length]) (by omega) (by have := HN.out; omega) HG.out HN4.out)
 clear h2 C1 HR1
 go_wp2_with fail
 refine C2.out.mono ?_
 rintro r W3 ⟨rfl, h3, _⟩
 have H3 : Hid (TLS w W3 w.heap.size (headB gen len) (N - 16) N) := by
  have := h3
  rw [show N - 4 - 4 - 8 = N - 16 by omega] at this
  exact this
 clear h3 C2 H2 hmk EN hwl
 go_wp2_with fail
 go_loopg [5, 24] len (fun kx s5 s24 wr => ∃ i m : Nat, s24 = .int .i64 i /\ s5 = .slice (some ⟨w.heap.size, 0, none⟩) m N /\ i <= len /\ len - i <= kx /\ Hid (m = (headB gen len ++ encM (xs.take i)).length /\ TLS w wr w.heap.size (headB gen len ++ encM (xs.take i)) (N - 16 - 16 * i) N))
 case atStart => exact ⟨0, 16, rfl, rfl, by omega, by omega, by simp [headB_length, encM], by simpa [encM] using H3.out⟩
 case round =>
  obtain ⟨i, m, rfl, rfl, hin, hg, I⟩ := hrel
  by_cases hlt : i < len
  ·have hlt2 : (i : Int) < (len : Int) := by omega
   have hi23 : (i : Int) < 23 := by have := HLE.out; omega
   obtain ⟨x, hx⟩ : ∃ x, xs[i]? = some x := ⟨_, List.getElem?_eq_getElem (by have := HL.out; omega)⟩
   have hxf := H.out.fits x (List.mem_of_getElem? hx)
   obtain ⟨b, o, rfl, hb, hone⟩ := H.out.cell i x hx
   obtain ⟨k0, k1⟩ := hone.below I.out.2.below hb
   have hr : 16 <= N - 16 - 16 * i := by have := HN.out; omega
   have hxs : xs.take (i + 1) = xs.take i ++ [x] := by rw [List.take_add_one, hx]; rfl
   have HX := hide hxs
   have HM := hide I.out.1
   have CA := hide (((I.out.2.alloc (.cells #[.int .u64 x.1, .int .u64 x.2] 115))).num x.1 8 m I.out.1 (by omega) (by omega) hxf.1 HN4.out)
   have HXF := hide hxf
   have HR := hide hr
   have HGM := hide hg
   have NW := hide (Blk.new wr [.int .u64 x.1, .int .u64 x.2] 115)
   have HBL := hide I.out.2.below
   clear hx hone hxs hr hxf hg
   go_wp2_with fail
   refine CA.out.mono ?_
   rintro r w1 ⟨rfl, ha, kp⟩
   have hbx := NW.out.same (kp.block _ NW.out.lt (by simp; have := I.out.2.buf; unfold Buf at this; have := this.lt; omega))
   have y1 := hbx.cell (i := 1) rfl
   have hltx := hbx.lt
   have CB := hide (ha.num x.2 8 (m + 8) (by rw [HM.out]; simp [low_length]; omega) (by omega) (by have := HR.out; omega) HXF.out.2 HN4.out)
   clear ha kp hbx CA k0 k1
   go_wp2_with fail
   refine CB.out.mono ?_
   rintro r w2 ⟨rfl, hb2, _⟩
   have HB2 := hide hb2
   clear hb2 CB y1
   go_wp2
   go_roundg (len - (i + 1))
   case measure => have := HGM.out; omega
   case rel =>
    refine ⟨i + 1, m + 16, rfl, rfl, hlt, by omega, ?_, ?_⟩
    ·rw [HX.out, encM_snoc, HM.out]; simp [low_length]; omega
    ·have := HB2.out
     rw [HX.out, encM_snoc, show N - 16 - 16 * (i + 1) = N - 16 - 16 * i - 8 - 8 by omega]
     simpa [List.append_assoc] using this
  ·obtain rfl : i = len := by omega
   have hlt2 : ¬ (i : Int) < (i : Int) := by omega
   have hfin : Hid (m = N /\ TLS w wr w.heap.size (pageB gen xs) 0 N) := by
    have h1 := I.out.2
    have h2 := I.out.1
    rw [show xs.take i = xs from List.take_of_length_le (by have := HL.out; omega)] at h1 h2
    rw [show N - 16 - 16 * i = 0 by have := HN.out; omega] at h1
    refine ⟨?_, ?_⟩
    ·rw [h2, List.length_append, headB_length, encM_length, HN.out, <- HL.out]
    ·unfold pageB; rw [<- HL.out]; exact h1
   obtain ⟨rfl, hls⟩ := hfin.out
   have HLS := hide hls
   clear hls hfin I
   go_wp2
   go_ret
   exact ⟨rfl, HLS.out.buf, HLS.out.below⟩
theorem hide' {p : Prop} (h : p) : Hid p := h
structure Jr where
 losses : Int
 first : Int
 pages : Int
 used : Int
 gen : Nat
 M : Nat -> Option Nat
def u64L (k : Nat) : Lit := .int .u64 (k : Int)
def kv (p : Nat × Nat) : Lit × DataW Unit := (u64L p.1, .lit (u64L p.2))
structure MapIs (D : DataW Unit) (M : Nat -> Option Nat) : Prop where
 isMap : Maps.IsMap D
 has : ∀ k, k < 18446744073709551616 -> Maps.has D (u64L k) = (M k).isSome
 val : ∀ k, k < 18446744073709551616 -> D.atKey (u64L k) (.lit (u64L 0)) = .lit (u64L ((M k).getD 0))
 lt : ∀ k v, M k = some v -> k < 18446744073709551616 /\ v < 18446744073709551616
 list : ∃ L : List (Nat × Nat), D = .map (L.map kv) /\ (L.map Prod.fst).Nodup /\ ∀ p, p ∈ L ↔ M p.1 = some p.2
def jrCells (d m : Nat) (J : Jr) : List Value := [.pointer (some ⟨d, 0, none⟩), .int .i64 J.losses, .int .i64 J.first, .int .i64 J.pages, .int .i64 J.used, .int .u64 J.gen, .map (some m)]
structure JrAt (w : World) (j d m n : Nat) (J : Jr) : Prop where
 blk : Blk w j (jrCells d m J) 166
 map : ∃ D : DataW Unit, w.ownsMap Tryz.prog 28 (plainElem Tryz.prog 28) m n D /\ MapIs D J.M
 ne : j ≠ m
theorem keyed30 : Maps.Keyed Tryz.prog 28 := Maps.int_keyed Tryz.underlying28
theorem wf_u64' (k : Nat) (h : k < 18446744073709551616) : (u64L k).wf = true := by
 have h1 : IntKind.u64.min = 0 := rfl
 have h2 : IntKind.u64.max = 18446744073709551615 := rfl
 simp [u64L, Lit.wf, h1, h2]
 omega
theorem key30 (k : Nat) (h : k < 18446744073709551616) : keyOf Tryz.prog 28 (.int .u64 (k : Int)) = some (u64L k) := Maps.keyOf_int_mk Tryz.underlying28 (wf_u64' k h)
theorem zero30 (w : World) : (zeroValue 28).run Tryz.prog w = .ok (.int .u64 0) w := by go_simp
theorem room_any (j d m n : Nat) (J : Jr) (w : World) (h : JrAt w j d m n J) :
  Calls Tryz.prog 117 #[.pointer (some ⟨j, 0, none⟩)] w fun e w' => e = .returned (.int .i64 (wrap64 (J.pages - J.used))) /\ Below w.heap.size w w' := by
 have c3 := h.blk.cell (i := 3) rfl
 have c4 := h.blk.cell (i := 4) rfl
 clear h
 go_enter Tryz.func117, Tryz.ntmps117
 go_wp2_with fail
 go_region
 all_goals go_wp2
 all_goals go_ret
 all_goals exact ⟨rfl, (Below.refl _ _).drew⟩
def Jr.gone (J : Jr) (k v : Nat) : Bool := match J.M k with
 | none => false
 | some u => decide (v <= u)
theorem gone_any' (j d m n : Nat) (J : Jr) (k v : Nat) (hk : k < 18446744073709551616) (w : World) (h : JrAt w j d m n J) :
  Calls Tryz.prog 164 #[.pointer (some ⟨j, 0, none⟩), .int .u64 k, .int .u64 v] w fun e w' => e = .returned (.bool (J.gone k v)) /\ w' = w := by
 have c6 := h.blk.cell (i := 6) rfl
 obtain ⟨D, hD, hM⟩ := h.map
 obtain ⟨x, ps, hrun, hx⟩ := hD.look_ok (t := 164) keyed30 Tryz.underlying164 (zero30 w) (plainElem_int Tryz.underlying28 (wf_u64' 0 (by decide))) (key30 k hk)
 rw [hM.has k hk] at hrun
 have hv := hM.val k hk
 obtain ⟨a, rfl, ha, _⟩ := plainElem_int_inv Tryz.underlying28 hx
 have e : a = (((J.M k).getD 0 : Nat) : Int) := by
  have h1 : D.atKey (u64L k) (.lit (.int .u64 0)) = .lit (.int .u64 a) := by simpa using (congrArg Prod.fst ha)
  have h2 : DataW.lit (u64L ((J.M k).getD 0)) = (.lit (.int .u64 a) : DataW Unit) := by rw [<- hv]; exact h1
  simp [u64L] at h2
  exact h2.symm
 subst e
 have EG : Hid (J.gone k v = match J.M k with | none => false | some u => decide (v <= u)) := rfl
 cases hMk : J.M k with
 | none =>
  rw [hMk] at hrun EG
  simp only [Option.isSome_none, Option.getD_none] at hrun
  clear h hD hM hx ha hv hMk
  go_enter Tryz.func164, Tryz.ntmps164
  go_wp2
  go_ret
  exact ⟨by rw [EG.out]; rfl, rfl⟩
 | some u =>
  rw [hMk] at hrun EG
  simp only [Option.isSome_some, Option.getD_some] at hrun
  clear h hD hM hx ha hv hMk
  go_enter Tryz.func164, Tryz.ntmps164
  go_wp2
  go_ret
  exact ⟨by rw [EG.out]; simp, rfl⟩
def Jr.keep (J : Jr) (k v : Nat) : Jr := { J with M := fun x => if x = k then some (max ((J.M k).getD 0) v) else J.M x }
theorem u64L_inj {a b : Nat} (h : u64L a = u64L b) : a = b := by
 simp [u64L] at h
 omega
theorem tkeyLit (k : Nat) : WideAt.IsKeyLit (u64L k) := by simp [u64L, WideAt.IsKeyLit]
theorem same_u64 (a b : Nat) : (u64L a).sameKey (u64L b) = decide (a = b) := by
 by_cases e : a = b
 ·subst e; simp [Lit.sameKey, u64L]
 ·rw [Maps.sameKey_ne (fun h => e (u64L_inj h))]; simp [e]
theorem insert_kv (x : Nat × Nat) : ∀ l : List (Nat × Nat), ∃ l' : List (Nat × Nat), DataW.insert (kv x) (l.map kv) = l'.map kv /\ l'.Perm (x :: l)
 | [] => ⟨[x], rfl, List.Perm.refl _⟩
 | y :: r => by
  obtain ⟨l', h1, h2⟩ := insert_kv x r
  rw [List.map_cons]
  unfold DataW.insert
  split
  ·exact ⟨x :: y :: r, rfl, List.Perm.refl _⟩
  ·refine ⟨y :: l', by rw [h1]; rfl, (h2.cons y).trans (List.Perm.swap x y r)⟩
theorem filter_kv (k : Nat) (l : List (Nat × Nat)) : (l.map kv).filter (ChangeMaps.notKey (u64L k)) = (l.filter fun p => decide (p.1 ≠ k)).map kv := by
 rw [List.filter_map]
 congr 1
 apply List.filter_congr
 intro p _
 show (!(u64L p.1).sameKey (u64L k)) = _
 rw [same_u64]
 by_cases e : p.1 = k <;> simp [e]
theorem MapIs.put {D : DataW Unit} {M : Nat -> Option Nat} (h : MapIs D M) (k u : Nat) (hk : k < 18446744073709551616) (hu : u < 18446744073709551616) : MapIs (D.put (u64L k) (.lit (u64L u))) (fun x => if x = k then some u else M x) := by
 refine ⟨?_, fun x hx => ?_, fun x hx => ?_, fun x v hv => ?_, ?_⟩
 ·exact h.isMap.put _ _
 ·by_cases e : x = k
  ·subst e; rw [Maps.has_put_same h.isMap (tkeyLit x)]; simp
  ·rw [Maps.has_put_other (fun e' => e (u64L_inj e'))]; simp [e, h.has x hx]
 ·by_cases e : x = k
  ·subst e; rw [Maps.atKey_put_same h.isMap (tkeyLit x)]; simp
  ·rw [Maps.atKey_put_other (fun e' => e (u64L_inj e'))]; simp [e, h.val x hx]
 ·by_cases e : x = k
  ·simp [e] at hv; omega
  ·simp [e] at hv; exact h.lt x v hv
 ·obtain ⟨L, h1, h2, h3⟩ := h.list
  obtain ⟨L', e1, e2⟩ := insert_kv (k, u) (L.filter fun p => decide (p.1 ≠ k))
  refine ⟨L', ?_, ?_, fun p => ?_⟩
  ·rw [h1, DataW.put_eq]
   show DataW.map (DataW.insert (kv (k, u)) _) = _
   rw [filter_kv, e1]
  ·have hn : (((k, u) :: L.filter fun p => decide (p.1 ≠ k)).map Prod.fst).Nodup := by
    rw [List.map_cons, List.nodup_cons]
    refine ⟨fun hm => ?_, ?_⟩
    ·obtain ⟨q, hq, hq2⟩ := List.mem_map.1 hm
     have := (List.mem_filter.1 hq).2
     simp at this hq2
     exact this hq2
    ·exact h2.sublist ((List.filter_sublist).map _)
   exact ((e2.map Prod.fst).nodup_iff).2 hn
  ·rw [e2.mem_iff, List.mem_cons, List.mem_filter, h3]
   obtain ⟨a, b⟩ := p
   by_cases e : a = k
   ·subst e; simp; constructor <;> (intro e; exact e.symm)
   ·simp [e]
theorem MapIs.empty : MapIs (.map []) (fun _ => none) :=
 ⟨⟨[], rfl⟩, fun k _ => rfl, fun k _ => rfl, fun k v h => by simp at h, [], rfl, List.nodup_nil, fun p => by simp⟩
theorem JrAt.same {w w' : World} {j d m n : Nat} {J : Jr} (h : JrAt w j d m n J) (hj : w'.heap[j]? = w.heap[j]?) (hm : w'.heap[m]? = w.heap[m]?) : JrAt w' j d m n J := by
 obtain ⟨D, ⟨es, c, h1, h2⟩, h3⟩ := h.map
 exact ⟨h.blk.same hj, ⟨D, ⟨es, c, hm.trans h1, h2⟩, h3⟩, h.ne⟩
theorem JrAt.mlt {w : World} {j d m n : Nat} {J : Jr} (h : JrAt w j d m n J) : m < w.heap.size := by
 obtain ⟨D, h1, _⟩ := h.map
 exact h1.lt
theorem JrAt.below {w w' : World} {j d m n : Nat} {J : Jr} (h : JrAt w j d m n J) (b : Below w.heap.size w w') : JrAt w' j d m n J := h.same (b.block _ h.blk.lt) (b.block _ h.mlt)
theorem JrAt.keep {w w' : World} {j d m n : Nat} {J : Jr} {F : List Nat} (h : JrAt w j d m n J) (k : Keep F w w') (hj : j ∉ F) (hm : m ∉ F) : JrAt w' j d m n J := h.same (k.block _ h.blk.lt hj) (k.block _ h.mlt hm)
theorem keep_any (j d m n : Nat) (J : Jr) (k v : Nat) (hk : k < 18446744073709551616) (hv : v < 18446744073709551616) (hn : n < 1000000) (w : World) (h : JrAt w j d m n J) :
  Calls Tryz.prog 119 #[.pointer (some ⟨j, 0, none⟩), .agg #[.int .u64 k, .int .u64 v]] w fun e w' => e = .returned (.tuple #[]) /\ JrAt w' j d m (n + 1) (J.keep k v) /\ Keep [m] w w' := by
 have hA := h.below ((Below.refl _ w).alloc (Nat.le_refl _) (.cells #[.int .u64 k, .int .u64 v] 115))
 have hA' : JrAt (w.alloc (.cells #[.int .u64 k, .int .u64 v] 115)).drew j d m n J := hA.same rfl rfl
 have c6 := hA'.blk.cell (i := 6) rfl
 obtain ⟨D, hD, hM⟩ := hA'.map
 obtain ⟨c, hrun, hc, hwf⟩ := hD.lookup_int (t := 164) keyed30 Tryz.underlying164 Tryz.underlying28 (zero30 _) (key30 k hk)
 have ec : c = (((J.M k).getD 0 : Nat) : Int) := by
  have h2 := hM.val k hk
  have h1 : D.atKey (u64L k) (.lit (u64L 0)) = .lit (.int .u64 c) := hc
  rw [h2] at h1
  simp [u64L] at h1
  exact h1.symm
 subst ec
 have hlt : max ((J.M k).getD 0) v < 18446744073709551616 := by
  cases hMk : J.M k with
  | none => simp; omega
  | some u => have := (hM.lt k u hMk).2; simp; omega
 obtain ⟨w', hupd, hown, hgrow⟩ := hD.update (t := 164) keyed30 Tryz.underlying164 (Nat.lt_trans hn (by decide)) (key30 k hk) (plainElem_int Tryz.underlying28 (wf_u64' (max ((J.M k).getD 0) v) hlt))
 have ei : max (((J.M k).getD 0 : Nat) : Int) (v : Int) = ((max ((J.M k).getD 0) v : Nat) : Int) := by omega
 rw [<- ei] at hupd
 have HJ := hide' hA'.blk
 have HW := hide' (show JrAt w' j d m (n + 1) (J.keep k v) from ⟨hA'.blk.same (hgrow.block _ hA'.blk.lt (by intro e; exact h.ne (Option.some.inj e))), ⟨_, hown, hM.put k _ hk hlt⟩, h.ne⟩)
 have HK := hide' (show Keep [m] w w' from (((Keep.refl [m] w).alloc (.cells #[.int .u64 k, .int .u64 v] 115)).drew).grown hgrow (fun x hx => .inl (by cases hx; simp)))
 clear hA hA' h hD hM hc hwf hown hgrow ei hlt
 go_enter Tryz.func119, Tryz.ntmps119
 go_wp2_with fail
 go_region
 all_goals go_wp2
 all_goals go_end0
 all_goals exact ⟨rfl, HW.out, HK.out⟩
theorem begin_any (j d m n : Nat) (J : Jr) (g : Nat) (w : World) (h : JrAt w j d m n J) :
  Calls Tryz.prog 78 #[.pointer (some ⟨j, 0, none⟩), .int .u64 g] w fun e w' => e = .returned (.tuple #[]) /\ ∃ m', JrAt w' j d m' 0 { J with used := 0, gen := g, M := fun _ => none } /\ w.heap.size <= m' /\ Keep [j] w w' := by
 have hB := h.blk.alloc (.map #[] 0)
 have f := fun i => hB.frozen i
 have f4 := f 4
 have f5 := f 5
 have f6 := f 6
 have c4 := hB.cell (i := 4) rfl
 have c5 := hB.cell (i := 5) rfl
 have c6 := hB.cell (i := 6) rfl
 have hlt := hB.lt
 have HB := hide' hB
 have HL := hide' h.blk.lt
 clear h hB f
 go_enter Tryz.func78, Tryz.ntmps78
 have hmk := run_makeMap (P := Tryz.prog) 164 w
 go_wp2
 go_end0
 have hne : j ≠ w.heap.size := Nat.ne_of_lt HL.out
 have KK : Keep [j] w ((((w.alloc (.map #[] 0)).setCell ⟨j, 5, none⟩ (.int .u64 g)).setCell ⟨j, 4, none⟩ (.int .i64 0)).setCell ⟨j, 6, none⟩ (.map (some w.heap.size))) :=
  ((((Keep.refl [j] w).alloc _).setCell (.inl (by simp)) _).setCell (.inl (by simp)) _).setCell (.inl (by simp)) _
 refine ⟨rfl, w.heap.size, ⟨((HB.out.set 5 _).set 4 _).set 6 _, ⟨.map [], (((World.ownsMap_made w Tryz.prog 28 (plainElem Tryz.prog 28)).setCell (Ne.symm hne) _).setCell (Ne.symm hne) _).setCell (Ne.symm hne) _, MapIs.empty⟩, hne⟩, Nat.le_refl _, KK⟩
theorem read_wholeT {d : Nat} {F : List Nat} {S : Dv} {k : Nat} {c : Cl} {b : ByteArray} (hk : S.cs[k]? = some c) (hoff : S.off = false) (hc : c.now = .whole b) (w : World) (h : DvAt w d F S) :
  Calls Tryz.prog 99 #[.pointer (some ⟨d, 0, none⟩), .int .i64 (k : Nat)] w fun e w' => ∃ g, e = .returned (.tuple #[.slice (some ⟨g, 0, none⟩) 384 384, .int .i64 0]) /\ w.heap.size <= g /\
   BS w' (some ⟨g, 0, none⟩) 384 384 (full b).data.toList /\ DvAt w' d F (S.readDo (k : Nat)) /\ Keep F w w' := by
 refine (read_whole hk hoff hc w h).mono ?_
 rintro e w' ⟨rfl, h1, h2, h3⟩
 exact ⟨_, rfl, Nat.le_succ _, h1, h2, h3⟩
def rdM : Nat -> List UInt8 -> List Mk
 | 0, _ => []
 | n + 1, l => (up (sl l 0 8), up (sl l 8 16)) :: rdM n (l.drop 16)
def tkM (gen : Nat) (l : List UInt8) : Option (List Mk) := if sl l 0 4 = tmk4 /\ up (sl l 4 8) <= 23 /\ up (sl l 8 16) = gen then some (rdM (up (sl l 4 8)) (l.drop 16)) else none
def Pg.tk (gen : Nat) : Pg -> Option (List Mk)
 | ⟨none⟩ => none
 | ⟨some none⟩ => some []
 | ⟨some (some b)⟩ => tkM gen (full b).data.toList
def Jr.keeps (J : Jr) (xs : List Mk) : Jr := xs.foldl (fun J x => J.keep x.1 x.2) J
theorem Jr.keeps_nil (J : Jr) : J.keeps [] = J := rfl
theorem Jr.keeps_snoc (J : Jr) (xs : List Mk) (x : Mk) : J.keeps (xs ++ [x]) = (J.keeps xs).keep x.1 x.2 := by simp [Jr.keeps]
theorem rdM_length : ∀ (n : Nat) (l : List UInt8), (rdM n l).length = n
 | 0, _ => rfl
 | n + 1, l => by rw [rdM, List.length_cons, rdM_length n]
theorem rdM_get : ∀ (n : Nat) (l : List UInt8) (i : Nat), i < n -> (rdM n l)[i]? = some (up (sl (l.drop (16 * i)) 0 8), up (sl (l.drop (16 * i)) 8 16))
 | n + 1, l, 0, _ => by simp [rdM]
 | n + 1, l, i + 1, h => by
  rw [rdM, List.getElem?_cons_succ, rdM_get n _ i (by omega), List.drop_drop, show 16 + 16 * i = 16 * (i + 1) by omega]
theorem sl_drop (l : List UInt8) (k i j : Nat) : sl (l.drop k) i j = sl l (k + i) (k + j) := by
 unfold sl
 rw [List.take_drop, List.drop_drop]
theorem tup_sl_lt (l : List UInt8) (i j : Nat) (hj : j <= l.length) (h8 : j - i <= 8) : up (sl l i j) < 18446744073709551616 := by
 have h1 := up_lt (sl l i j)
 rw [sl_length _ _ _ hj] at h1
 have : (256 : Nat) ^ (j - i) <= 256 ^ 8 := Nat.pow_le_pow_right (by decide) h8
 have e : (256 : Nat) ^ 8 = 18446744073709551616 := by decide
 omega
structure JD (W : World) (j d m n : Nat) (F : List Nat) (J : Jr) (S : Dv) : Prop where
 jr : JrAt W j d m n J
 dev : DvAt W d F S
 nj : j ∉ F
 nm : m ∉ F
theorem JD.below {W W' : World} {j d m n : Nat} {F : List Nat} {J : Jr} {S : Dv} (h : JD W j d m n F J S) (b : Below W.heap.size W W') : JD W' j d m n F J S :=
 ⟨h.jr.below b, h.dev.below b, h.nj, h.nm⟩
theorem take_blank (j d m n : Nat) (F : List Nat) (J : Jr) (S : Dv) (k : Nat) (c : Cl) (hk : S.cs[k]? = some c) (hoff : S.off = false) (hc : c.now = .blank) (w : World) (h : JD w j d m n F J S) :
  Calls Tryz.prog 152 #[.pointer (some ⟨j, 0, none⟩), .int .i64 (k : Nat)] w fun e w' => e = .returned (.bool false) /\ JD w' j d m n F J (S.readDo (k : Nat)) /\ Keep F w w' := by
 have c0 := h.jr.blk.cell (i := 0) rfl
 have C1 := hide (read_bare (e0 := 5) hk hoff hc rfl (by decide) w h.dev)
 have H := hide h
 clear h hk hoff hc
 go_enter Tryz.func152, Tryz.ntmps152
 go_wp2_with (go_at_call 99; refine C1.out.mono ?_; rintro r w1 ⟨rfl, hd, kp⟩; have HD := hide hd; have HK := hide kp; clear hd kp)
 go_ret
 exact ⟨rfl, ⟨H.out.jr.keep HK.out H.out.nj H.out.nm, HD.out, H.out.nj, H.out.nm⟩, HK.out⟩
theorem take_torn (j d m n : Nat) (F : List Nat) (J : Jr) (S : Dv) (k : Nat) (c : Cl) (hk : S.cs[k]? = some c) (hoff : S.off = false) (hc : c.now = .torn) (w : World) (h : JD w j d m n F J S) :
  Calls Tryz.prog 152 #[.pointer (some ⟨j, 0, none⟩), .int .i64 (k : Nat)] w fun e w' => e = .returned (.bool true) /\ JD w' j d m n F J (S.readDo (k : Nat)) /\ Keep F w w' := by
 have c0 := h.jr.blk.cell (i := 0) rfl
 have C1 := hide (read_bare (e0 := 6) hk hoff hc rfl (by decide) w h.dev)
 have H := hide h
 clear h hk hoff hc
 go_enter Tryz.func152, Tryz.ntmps152
 go_wp2_with (go_at_call 99; refine C1.out.mono ?_; rintro r w1 ⟨rfl, hd, kp⟩; have HD := hide hd; have HK := hide kp; clear hd kp)
 go_ret
 exact ⟨rfl, ⟨H.out.jr.keep HK.out H.out.nj H.out.nm, HD.out, H.out.nj, H.out.nm⟩, HK.out⟩
theorem take_bad (j d m n : Nat) (F : List Nat) (J : Jr) (S : Dv) (k : Nat) (c : Cl) (b : ByteArray) (hk : S.cs[k]? = some c) (hoff : S.off = false) (hc : c.now = .whole b) (hb : b.size <= 384) (ht : tkM J.gen (full b).data.toList = none) (w : World) (h : JD w j d m n F J S) :
  Calls Tryz.prog 152 #[.pointer (some ⟨j, 0, none⟩), .int .i64 (k : Nat)] w fun e w' => e = .returned (.bool false) /\ JD w' j d m n F J (S.readDo (k : Nat)) /\ Keep F w w' := by
 have c0 := h.jr.blk.cell (i := 0) rfl
 have C1 := hide (read_wholeT hk hoff hc w h.dev)
 have H := hide h
 have HT := hide ht
 clear h hk hoff hc ht
 generalize hL : (full b).data.toList = L at C1 HT
 have hL4 : L.length = 384 := by rw [<- hL, Array.length_toList]; exact full_size b hb
 have HL := hide hL4
 clear hL hL4
 go_enter Tryz.func152, Tryz.ntmps152
 go_wp2_with (go_at_call 99; refine C1.out.mono ?_; rintro r w1 ⟨g, rfl, hg, hbs, hd, kp⟩; have HD := hide hd; have HK := hide kp; have HB := hide hbs; clear hd kp hbs hg)
 have HJ := hide (H.out.jr.keep HK.out H.out.nj H.out.nm)
 have hgen := HJ.out.blk.cell (i := 5) rfl
 have cn : Hid (∀ W : World, W.heap = w1.heap -> ∀ (i jj o n2 c2 : Nat), o = 0 + i -> i <= jj -> jj <= 384 -> n2 = jj - i -> n2 <= 8 -> n2 <= c2 -> Calls Tryz.prog 183 #[.slice (some ⟨g, o, none⟩) n2 c2] W fun e w' => e = .returned (.int .u64 (up (sl L i jj) : Int)) /\ w' = W) := fun W hW i jj o n2 c2 h1 h2 h3 h4 h5 h6 => by
  have hs := (HB.out.heap hW).sub i jj o n2 c2 h1 h2 h3 h4 h6
  exact tnumber_any _ n2 c2 _ hs.len h5 W hs.reads
 have hst : ∀ W : World, W.heap = w1.heap -> (convert 40 9 (.slice (some ⟨g, 0, none⟩) 4 384)).run Tryz.prog W = .ok (.string (txt (sl L 0 4))) W := fun W hW => str_bs ((HB.out.heap hW).sub 0 4 0 4 384 rfl (by omega) (by omega) rfl (by omega)) (by simp)
 have HST := hide hst
 clear hst
 refine (cn.out w1 rfl 4 8 4 4 380 rfl (by omega) (by omega) rfl (by omega) (by omega)).mono ?_
 rintro r w2 ⟨rfl, rfl⟩
 have hst : ∀ nq, (convert 40 9 (.slice (some ⟨g, 0, none⟩) 4 384)).run Tryz.prog (w2.drewN nq) = .ok (.string (txt (sl L 0 4))) (w2.drewN nq) := fun nq => HST.out _ rfl
 by_cases h1 : sl L 0 4 = tmk4
 ·have hs1 : ((txt (sl L 0 4)).toList == [84, 79, 77, 66]) = true := by rw [txt_list, h1]; rfl
  by_cases h2 : up (sl L 4 8) <= 23
  ·have h3 : ¬ up (sl L 8 16) = J.gen := fun e => by have := HT.out; unfold tkM at this; rw [if_pos ⟨h1, h2, e⟩] at this; simp at this
   have h2' : ((23 : Int) < (up (sl L 4 8) : Int)) = False := eq_false (by omega)
   have h3' : ((up (sl L 8 16) : Int) != (J.gen : Int)) = true := by simp; omega
   clear h1 h2 h3 HT
   go_wp2_with fail
   go_quiet (first | (go_at_call 183; refine Calls.quiet_of_same (cn.out _ ?_ 8 16 8 8 376 rfl (by omega) (by omega) rfl (by omega) (by omega)); rfl))
   go_wp2
   go_ret
   exact ⟨rfl, ⟨HJ.out.same rfl rfl, HD.out.same (fun _ _ => rfl), H.out.nj, H.out.nm⟩, ⟨HK.out.os, HK.out.tape, HK.out.output, HK.out.size, HK.out.block⟩⟩
  ·have h2' : ((23 : Int) < (up (sl L 4 8) : Int)) = True := eq_true (by omega)
   clear h1 h2 HT
   go_wp2_with fail
   go_quiet (fail)
   go_wp2
   go_ret
   exact ⟨rfl, ⟨HJ.out.same rfl rfl, HD.out.same (fun _ _ => rfl), H.out.nj, H.out.nm⟩, ⟨HK.out.os, HK.out.tape, HK.out.output, HK.out.size, HK.out.block⟩⟩
 ·have hs1 : ((txt (sl L 0 4)).toList == [84, 79, 77, 66]) = false := by rw [txt_list]; simpa [tmk4] using h1
  clear h1 HT
  go_wp2_with fail
  go_quiet (fail)
  go_wp2
  go_ret
  exact ⟨rfl, ⟨HJ.out.same rfl rfl, HD.out.same (fun _ _ => rfl), H.out.nj, H.out.nm⟩, ⟨HK.out.os, HK.out.tape, HK.out.output, HK.out.size, HK.out.block⟩⟩
theorem BS.far {w w' : World} {b off n cap : Nat} {l : List UInt8} (h : BS w (some ⟨b, off, none⟩) n cap l) (e : w'.heap[b]? = w.heap[b]?) : BS w' (some ⟨b, off, none⟩) n cap l :=
 BS.mk' h.len h.cap ⟨fun i hi => by
  obtain ⟨b', off', ha, hc⟩ := h.reads.1 i hi
  cases ha
  exact ⟨b, off, rfl, (World.cell?_of_block (a := ⟨b, off + i, none⟩) e).trans hc⟩, h.reads.2⟩
theorem entt49 (args : Array Value) (w : World) : (callFunc 183 args).run Tryz.prog w = .ok (.enter 183 args) w := by go_simp
theorem entt34 (args : Array Value) (w : World) : (callFunc 119 args).run Tryz.prog w = .ok (.enter 119 args) w := by go_simp
structure TK (w W : World) (j d m n g : Nat) (F : List Nat) (L : List UInt8) (J : Jr) (S : Dv) : Prop where
 jd : JD W j d m n F J S
 bs : BS W (some ⟨g, 0, none⟩) 384 384 L
 keep : Keep (m :: F) w W
 ng : g ≠ m
theorem TK.num {w W : World} {j d m n g : Nat} {F : List Nat} {L : List UInt8} {J : Jr} {S : Dv} (h : TK w W j d m n g F L J S) (W' : World) (hW : W'.heap = W.heap) (i jj o n2 c2 : Nat) (h1 : o = 0 + i) (h2 : i <= jj) (h3 : jj <= 384) (h4 : n2 = jj - i) (h5 : n2 <= 8) (h6 : n2 <= c2) :
  Calls Tryz.prog 183 #[.slice (some ⟨g, o, none⟩) n2 c2] W' fun e w' => e = .returned (.int .u64 (up (sl L i jj) : Int)) /\ w' = W' := by
 have hs := (h.bs.heap hW).sub i jj o n2 c2 h1 h2 h3 h4 h6
 exact tnumber_any _ n2 c2 _ hs.len h5 W' hs.reads
theorem TK.kp {w W : World} {j d m n g : Nat} {F : List Nat} {L : List UInt8} {J : Jr} {S : Dv} (h : TK w W j d m n g F L J S) (W' : World) (hW : W'.heap = W.heap) (ht : W'.os = W.os /\ W'.tape = W.tape /\ W'.output = W.output) (a b : Nat) (ha : a < 18446744073709551616) (hb : b < 18446744073709551616) (hn : n < 1000000) :
  Calls Tryz.prog 119 #[.pointer (some ⟨j, 0, none⟩), .agg #[.int .u64 a, .int .u64 b]] W' fun e w' => e = .returned (.tuple #[]) /\ TK w w' j d m (n + 1) g F L (J.keep a b) S := by
 have hj : JrAt W' j d m n J := h.jd.jr.same (by rw [hW]) (by rw [hW])
 refine (keep_any j d m n J a b ha hb hn W' hj).mono ?_
 rintro e w' ⟨rfl, hj', kp⟩
 have hd : DvAt W' d F S := h.jd.dev.same (fun k _ => by rw [hW])
 have hK : Keep (m :: F) w W' := ⟨ht.1.trans h.keep.os, ht.2.1.trans h.keep.tape, ht.2.2.trans h.keep.output, by rw [hW]; exact h.keep.size, fun k h1 h2 => by rw [hW]; exact h.keep.block k h1 h2⟩
 have hg : g < W'.heap.size := by
  obtain ⟨bb, off, e, hc⟩ := (h.bs.heap hW).reads.1 0 (by rw [ints_length, <- h.bs.len]; omega)
  cases e
  exact block_lt_of_cell hc
 refine ⟨rfl, ⟨hj', hd.same (fun k hk => kp.block k (hd.lt k hk) (by simp; intro e; exact h.jd.nm (e ▸ hk))), h.jd.nj, h.jd.nm⟩, ?_, hK.trans kp (fun x hx => .inl (by simp at hx; simp [hx])), h.ng⟩
 exact (h.bs.heap hW).far (kp.block g hg (by simp; exact h.ng))
theorem take_good (j d m n : Nat) (F : List Nat) (J : Jr) (S : Dv) (k : Nat) (c : Cl) (b : ByteArray) (xs : List Mk) (hk : S.cs[k]? = some c) (hoff : S.off = false) (hc : c.now = .whole b) (hb : b.size <= 384) (ht : tkM J.gen (full b).data.toList = some xs) (hn : n < 900000) (w : World) (h : JD w j d m n F J S) :
  Calls Tryz.prog 152 #[.pointer (some ⟨j, 0, none⟩), .int .i64 (k : Nat)] w fun e w' => e = .returned (.bool true) /\ JD w' j d m (n + xs.length) F (J.keeps xs) (S.readDo (k : Nat)) /\ Keep (m :: F) w w' := by
 have c0 := h.jr.blk.cell (i := 0) rfl
 have C1 := hide (read_wholeT hk hoff hc w h.dev)
 have H := hide h
 clear h hk hoff hc
 generalize hL : (full b).data.toList = L at C1 ht
 have hL4 : L.length = 384 := by rw [<- hL, Array.length_toList]; exact full_size b hb
 have HL := hide hL4
 clear hL hL4
 unfold tkM at ht
 split at ht
 case isFalse => simp at ht
 rename_i hcond
 obtain ⟨h1, h2, h3⟩ := hcond
 obtain ⟨N, hN⟩ : ∃ N, N = up (sl L 4 8) := ⟨_, rfl⟩
 rw [<- hN] at ht h2
 have hs1 : ((txt (sl L 0 4)).toList == [84, 79, 77, 66]) = true := by rw [txt_list, h1]; rfl
 have h2' : ((23 : Int) < (N : Int)) = False := eq_false (by omega)
 have h3' : ((up (sl L 8 16) : Int) != (J.gen : Int)) = false := by simp; omega
 have hxs : xs = rdM N (L.drop 16) := by simpa using ht.symm
 have HX := hide hxs
 have H2 := hide h2
 have HN := hide hN
 have HNN := hide hn
 clear ht h1 h2 h3 hxs hN hn
 go_enter Tryz.func152, Tryz.ntmps152
 go_wp2_with (go_at_call 99; refine C1.out.mono ?_; rintro r w1 ⟨g, rfl, hg, hbs, hd, kp⟩; have HD := hide hd; have HK := hide kp; have HB := hide hbs; have HGN := hide hg; clear hd kp hbs hg)
 have HJ := hide (H.out.jr.keep HK.out H.out.nj H.out.nm)
 have hgen := HJ.out.blk.cell (i := 5) rfl
 have T1 : Hid (TK w w1 j d m n g F L J (S.readDo (k : Nat))) := ⟨⟨HJ.out, HD.out, H.out.nj, H.out.nm⟩, HB.out, HK.out.mono (fun x hx => .inl (by simp [hx])), by have := H.out.jr.mlt; have := HGN.out; omega⟩
 have hst : ∀ nq, (convert 40 9 (.slice (some ⟨g, 0, none⟩) 4 384)).run Tryz.prog (w1.drewN nq) = .ok (.string (txt (sl L 0 4))) (w1.drewN nq) := fun nq => str_bs (BS.sub (w := w1.drewN nq) (HB.out.heap rfl) 0 4 0 4 384 rfl (by omega) (by omega) rfl (by omega)) (by simp)
 refine (T1.out.num w1 rfl 4 8 4 4 380 rfl (by omega) (by omega) rfl (by omega) (by omega)).mono ?_
 rintro r w2 ⟨rfl, rfl⟩
 rw [<- HN.out]
 go_wp2_with fail
 go_quiet (first | (go_at_call 183; refine Calls.quiet_of_same (T1.out.num _ ?_ 8 16 8 8 376 rfl (by omega) (by omega) rfl (by omega) (by omega)); rfl))
 go_wp2_with fail
 have T2 : Hid (TK w (w2.drewN nq) j d m n g F L J (S.readDo (k : Nat))) := ⟨⟨HJ.out.same rfl rfl, HD.out.same (fun _ _ => rfl), H.out.nj, H.out.nm⟩, HB.out.heap rfl, ⟨T1.out.keep.os, T1.out.keep.tape, T1.out.keep.output, T1.out.keep.size, T1.out.keep.block⟩, T1.out.ng⟩
 clear T1 HJ HD HB HK hst hgen hs1 h2' h3' C1 c0
 go_loopg [5, 7] N (fun kx s5 s7 wr => ∃ i o r c : Nat, s5 = .slice (some ⟨g, o, none⟩) r r /\ s7 = .int .u64 c /\ c <= kx /\ i + c = N /\ (0 < r -> o = 16 + 16 * i) /\ r + 16 * i = 368 /\ Hid (TK w wr j d m (n + i) g F L (J.keeps (xs.take i)) (S.readDo (k : Nat))))
 case atStart => exact ⟨0, 16, 368, N, rfl, rfl, Nat.le_refl _, by omega, fun _ => rfl, rfl, T2.out⟩
 case round =>
  obtain ⟨i, o, r, c, rfl, rfl, hg, hic, ho, hr, I⟩ := hrel
  by_cases hc0 : 0 < c
  ·have hc1 : ((0 : Int) < (c : Int)) = True := eq_true (by omega)
   have hr16 : 16 <= r := by have := H2.out; omega
   replace ho := ho (by omega)
   have hr8 : ((r : Int) < 8) = False := eq_false (by omega)
   have hr8' : ((16 : Int) <= (r : Int)) = True := eq_true (by omega)
   have hr8'' : (r = 8) = False := eq_false (by omega)
   have hx := rdM_get N (L.drop 16) i (by omega)
   rw [List.drop_drop, sl_drop, sl_drop] at hx
   have hxi : xs[i]? = some (up (sl L o (o + 8)), up (sl L (o + 8) (o + 16))) := by
    rw [HX.out, hx, ho, Nat.add_zero]
   have hxt : xs.take (i + 1) = xs.take i ++ [(up (sl L o (o + 8)), up (sl L (o + 8) (o + 16)))] := by rw [List.take_add_one, hxi]; rfl
   have ha := tup_sl_lt L o (o + 8) (by have := HL.out; omega) (by omega)
   have hb' := tup_sl_lt L (o + 8) (o + 16) (by have := HL.out; omega) (by omega)
   generalize hA : up (sl L o (o + 8)) = A at hxt ha
   generalize hB : up (sl L (o + 8) (o + 16)) = B at hxt hb'
   obtain ⟨CC, hCC⟩ : ∃ CC : Bool -> World -> Prop, CC = fun f W => TK w W j d m (n + i + (if f then 1 else 0)) g F L (J.keeps (xs.take (i + if f then 1 else 0))) (S.readDo (k : Nat)) := ⟨_, rfl⟩
   have c1 : Hid (∀ f W, CC f W -> Calls Tryz.prog 183 #[.slice (some ⟨g, o, none⟩) 8 r] W fun e w' => e = .returned (.int .u64 (A : Int)) /\ w' = W) := fun f W hW => by
    rw [hCC] at hW
    rw [<- hA]
    exact hW.num W rfl o (o + 8) o 8 r (by omega) (by omega) (by omega) (by omega) (by omega) (by omega)
   have c2 : Hid (∀ f W, CC f W -> Calls Tryz.prog 183 #[.slice (some ⟨g, o + 8, none⟩) 8 (r - 8)] W fun e w' => e = .returned (.int .u64 (B : Int)) /\ w' = W) := fun f W hW => by
    rw [hCC] at hW
    rw [<- hB]
    exact hW.num W rfl (o + 8) (o + 16) (o + 8) 8 (r - 8) (by omega) (by omega) (by omega) (by omega) (by omega) (by omega)
   have c3 : Hid (∀ W, CC false W -> Calls Tryz.prog 119 #[.pointer (some ⟨j, 0, none⟩), .agg #[.int .u64 (A : Int), .int .u64 (B : Int)]] W fun e w' => e = .returned (.tuple #[]) /\ CC true w') := fun W hW => by
    rw [hCC] at hW
    refine (hW.kp W rfl ⟨rfl, rfl, rfl⟩ A B ha hb' (by have := HNN.out; have := H2.out; simp; omega)).mono ?_
    rintro e w' ⟨he, ht⟩
    refine ⟨he, ?_⟩
    rw [hCC]
    simp only [Bool.false_eq_true, if_false, Nat.add_zero, if_true] at ht ⊢
    rw [hxt, Jr.keeps_snoc]
    exact ht
   have DR : Hid (CC false { wr with drawn := wr.drawn + 1 }) := by
    show CC false _
    rw [hCC]
    exact ⟨⟨I.out.jd.jr.same rfl rfl, I.out.jd.dev.same (fun _ _ => rfl), I.out.jd.nj, I.out.jd.nm⟩, I.out.bs.heap rfl, ⟨I.out.keep.os, I.out.keep.tape, I.out.keep.output, I.out.keep.size, I.out.keep.block⟩, I.out.ng⟩
   have hc23 : (c : Int) <= 23 := by have := H2.out; omega
   have HO := hide ho
   have HR := hide hr
   have HIC := hide hic
   have HG := hide hg
   have HCC := hide hCC
   clear ho hr hic hg hx hxi hxt ha hb' hA hB hCC
   go_wp2_with fail
   refine wp_region_turn (by kernel_rfl) (by kernel_rfl) (fun i => ([.pointer (some ⟨j, 0, none⟩), .slice (some ⟨g, o, none⟩) r r, .slice (some ⟨g, o, none⟩) 8 r, .int .u64 (A : Int), .slice (some ⟨g, o, none⟩) r r, .slice (some ⟨g, o + 8, none⟩) 8 (r - 8), .int .u64 (B : Int), .agg #[.int .u64 (A : Int), .int .u64 (B : Int)], .tuple #[]] : List Value).getD i undef) 8 (by decide) (fun f W => CC f W) (DR.out) ?_ ?_
   ·intro i o hi f w' ev hc hz hin hout hcst hfn
    have hlt : i < 9 := by
     have := (Array.getElem?_eq_some_iff.1 hi).1
     simpa using this
    match i, hlt with
    | 0, _ =>
     cases hi
     have e0 : ev (.tmp 0) = .pointer (some ⟨j, 0, none⟩) := hout 0
     rw [if_neg (by decide)]
     refine .inl ⟨w', ?_, hc⟩
     simp [execOp, e0, hcst, go_sem]
    | 1, _ =>
     cases hi
     have e0 : ev (.tmp 5) = .slice (some ⟨g, o, none⟩) r r := hout 5
     rw [if_neg (by decide)]
     refine .inl ⟨w', ?_, hc⟩
     simp [execOp, e0, hcst, go_sem]
    | 2, _ =>
     cases hi
     have e0 : ev (.tmp 49) = .slice (some ⟨g, o, none⟩) r r := hin 49 1 ⟨1, .data⟩
     rw [if_neg (by decide)]
     refine .inl ⟨w', ?_, hc⟩
     simp [execOp, e0, hcst, go_sem, hr8, hr8', hr8'']
    | 3, _ =>
     cases hi
     have e0 : ev (.tmp 50) = .slice (some ⟨g, o, none⟩) 8 r := hin 50 2 ⟨2, .data⟩
     rw [if_neg (by decide)]
     refine .inr (.inr ⟨183, #[.slice (some ⟨g, o, none⟩) 8 r], ?_, ?_⟩)
     ·have ef := hfn 183
      simp [execOp, resolve, invoke, ef, hcst, e0, Result.andThen]
      exact entt49 _ _
     ·refine (c1.out f w' hc).mono ?_
      rintro e w2 ⟨rfl, rfl⟩
      exact ⟨rfl, hc⟩
    | 4, _ =>
     cases hi
     have e0 : ev (.tmp 5) = .slice (some ⟨g, o, none⟩) r r := hout 5
     rw [if_neg (by decide)]
     refine .inl ⟨w', ?_, hc⟩
     simp [execOp, e0, hcst, go_sem]
    | 5, _ =>
     cases hi
     have e0 : ev (.tmp 52) = .slice (some ⟨g, o, none⟩) r r := hin 52 4 ⟨4, .data⟩
     rw [if_neg (by decide)]
     refine .inl ⟨w', ?_, hc⟩
     simp [execOp, e0, hcst, go_sem, hr8, hr8', hr8'']
    | 6, _ =>
     cases hi
     have e0 : ev (.tmp 53) = .slice (some ⟨g, o + 8, none⟩) 8 (r - 8) := hin 53 5 ⟨5, .data⟩
     rw [if_neg (by decide)]
     refine .inr (.inr ⟨183, #[.slice (some ⟨g, o + 8, none⟩) 8 (r - 8)], ?_, ?_⟩)
     ·have ef := hfn 183
      simp [execOp, resolve, invoke, ef, hcst, e0, Result.andThen]
      exact entt49 _ _
     ·refine (c2.out f w' hc).mono ?_
      rintro e w2 ⟨rfl, rfl⟩
      exact ⟨rfl, hc⟩
    | 7, _ =>
     cases hi
     have e0 : ev (.tmp 51) = .int .u64 (A : Int) := hin 51 3 ⟨3, .data⟩
     have e1 : ev (.tmp 54) = .int .u64 (B : Int) := hin 54 6 ⟨6, .data⟩
     rw [if_neg (by decide)]
     refine .inl ⟨w', ?_, hc⟩
     simp [execOp, e0, e1, hcst, go_sem]
    | 8, _ =>
     cases hi
     have e0 : ev (.tmp 48) = .pointer (some ⟨j, 0, none⟩) := hin 48 0 ⟨0, .data⟩
     have e1 : ev (.tmp 55) = .agg #[.int .u64 (A : Int), .int .u64 (B : Int)] := hin 55 7 ⟨7, .data⟩
     rw [if_pos rfl]
     refine .inr (.inr ⟨119, #[.pointer (some ⟨j, 0, none⟩), .agg #[.int .u64 (A : Int), .int .u64 (B : Int)]], ?_, ?_⟩)
     ·have ef := hfn 119
      simp [execOp, resolve, invoke, ef, hcst, e0, e1, Result.andThen]
      exact entt34 _ _
     ·have hf := hz rfl
      subst hf
      exact c3.out w' hc
   ·intro w7 hc
    simp only [lexF, Act.put, List.setIfInBounds_toArray, List.set_cons_succ, List.set_cons_zero, List.getD_cons_succ, List.getD_cons_zero]
    have T3 := hide hc
    clear hc
    have HR16 := hide hr16
    by_cases hre : r = 16
    ·subst hre
     clear hr16 hr8 hr8' hr8''
     go_wp2
     go_roundg (c - 1)
     case measure => have := HG.out; omega
     case rel =>
      refine ⟨i + 1, o, 0, c - 1, rfl, ?_, Nat.le_refl _, by have := HIC.out; omega, fun h => absurd h (by omega), by have := HR.out; omega, ?_⟩
      ·rw [show ((c - 1 : Nat) : Int) = (c : Int) - 1 by omega]
      ·have := T3.out; rw [HCC.out] at this; exact this
    ·go_wp2
     go_roundg (c - 1)
     case measure => have := HG.out; omega
     case rel =>
      refine ⟨i + 1, o + 16, r - 16, c - 1, rfl, ?_, Nat.le_refl _, by have := HIC.out; omega, fun _ => by have := HO.out; omega, by have := HR.out; have := HR16.out; omega, ?_⟩
      ·rw [show ((c - 1 : Nat) : Int) = (c : Int) - 1 by omega]
      ·have := T3.out; rw [HCC.out] at this; exact this
  ·obtain rfl : c = 0 := by omega
   have hi : Hid (i = N) := by show _ = _; omega
   clear hic hg ho hr
   go_wp2
   go_ret
   refine ⟨rfl, ?_, ?_⟩
   ·have h1 := I.out.jd
    have hl : xs.length = N := by rw [HX.out, rdM_length]
    rw [hi.out, List.take_of_length_le (by omega)] at h1
    rw [hl]
    exact h1
   ·exact I.out.keep
structure Dv.like (S S' : Dv) : Prop where
 cs : S'.cs = S.cs
 armed : S'.armed = S.armed
 off : S'.off = S.off
 losses : S'.losses = S.losses
theorem Dv.like.refl (S : Dv) : S.like S := ⟨rfl, rfl, rfl, rfl⟩
theorem Dv.like.trans {A B C : Dv} (h : A.like B) (k : B.like C) : A.like C := ⟨k.cs.trans h.cs, k.armed.trans h.armed, k.off.trans h.off, k.losses.trans h.losses⟩
theorem Dv.like_read (S : Dv) (k : Int) : S.like (S.readDo k) := by unfold Dv.readDo; split <;> (try split) <;> exact ⟨rfl, rfl, rfl, rfl⟩
def rTake (r : Option (List Mk)) : Bool := r.isSome
def lTake (r : Option (List Mk)) : List Mk := r.getD []
theorem take_any (j d m n : Nat) (F : List Nat) (J : Jr) (S : Dv) (k : Nat) (c : Cl) (hk : S.cs[k]? = some c) (hoff : S.off = false) (hfit : c.now.fits) (hn : n < 900000) (w : World) (h : JD w j d m n F J S) :
  Calls Tryz.prog 152 #[.pointer (some ⟨j, 0, none⟩), .int .i64 (k : Nat)] w fun e w' => e = .returned (.bool (rTake (c.now.tk J.gen))) /\
   JD w' j d m (n + (lTake (c.now.tk J.gen)).length) F (J.keeps (lTake (c.now.tk J.gen))) (S.readDo (k : Nat)) /\ Keep (m :: F) w w' := by
 rcases hc : c.now with ⟨_ | _ | b⟩
 ·refine (take_blank j d m n F J S k c hk hoff hc w h).mono ?_
  rintro e w' ⟨rfl, h1, h2⟩
  exact ⟨rfl, h1, h2.mono (fun x hx => .inl (by simp [hx]))⟩
 ·refine (take_torn j d m n F J S k c hk hoff hc w h).mono ?_
  rintro e w' ⟨rfl, h1, h2⟩
  exact ⟨rfl, h1, h2.mono (fun x hx => .inl (by simp [hx]))⟩
 ·rw [hc] at hfit
  cases ht : tkM J.gen (full b).data.toList with
  | none =>
   refine (take_bad j d m n F J S k c b hk hoff hc hfit ht w h).mono ?_
   rintro e w' ⟨rfl, h1, h2⟩
   have e : Pg.tk J.gen (.whole b) = none := ht
   rw [e]
   exact ⟨rfl, h1, h2.mono (fun x hx => .inl (by simp [hx]))⟩
  | some xs =>
   refine (take_good j d m n F J S k c b xs hk hoff hc hfit ht hn w h).mono ?_
   rintro e w' ⟨rfl, h1, h2⟩
   have e : Pg.tk J.gen (.whole b) = some xs := ht
   rw [e]
   exact ⟨rfl, h1, h2⟩
def scanP (gen : Nat) : List Pg -> List (List Mk)
 | [] => []
 | p :: r => match p.tk gen with
  | none => []
  | some xs => xs :: scanP gen r
theorem scan_next {gen : Nat} : ∀ {P : List Pg} {k : Nat} {p : Pg} {xs : List Mk}, k <= (scanP gen P).length -> P[k]? = some p -> p.tk gen = some xs -> (scanP gen P)[k]? = some xs
 | [], k, p, xs, _, h, _ => by simp at h
 | q :: r, 0, p, xs, _, h, ht => by
  simp at h; subst h
  simp [scanP, ht]
 | q :: r, k + 1, p, xs, hk, h, ht => by
  simp only [scanP] at hk ⊢
  cases hq : q.tk gen with
  | none => rw [hq] at hk; simp at hk
  | some ys =>
   rw [hq] at hk
   simp only [List.length_cons, List.getElem?_cons_succ] at hk h ⊢
   exact scan_next (by omega) h ht
theorem scan_stop {gen : Nat} : ∀ {P : List Pg} {k : Nat} {p : Pg}, k <= (scanP gen P).length -> P[k]? = some p -> p.tk gen = none -> (scanP gen P).length = k
 | [], k, p, _, h, _ => by simp at h
 | q :: r, 0, p, _, h, ht => by
  simp at h; subst h
  simp [scanP, ht]
 | q :: r, k + 1, p, hk, h, ht => by
  simp only [scanP] at hk ⊢
  cases hq : q.tk gen with
  | none => rw [hq] at hk; simp at hk
  | some ys =>
   rw [hq] at hk
   simp only [List.length_cons, List.getElem?_cons_succ] at hk h ⊢
   rw [scan_stop (by omega) h ht]
theorem scan_le {gen : Nat} : ∀ P : List Pg, (scanP gen P).length <= P.length
 | [] => Nat.le_refl _
 | p :: r => by
  simp only [scanP]
  cases p.tk gen with
  | none => simp
  | some xs => simp only [List.length_cons]; exact Nat.succ_le_succ (scan_le r)
theorem tk_len {gen : Nat} {p : Pg} {xs : List Mk} (h : p.tk gen = some xs) : xs.length <= 23 := by
 rcases p with ⟨_ | _ | b⟩
 ·simp [Pg.tk] at h
 ·simp [Pg.tk] at h; subst h; simp
 ·simp only [Pg.tk, tkM] at h
  split at h
  ·rename_i hc
   cases h
   rw [rdM_length]; exact hc.2.1
  ·cases h
theorem keeps_same (xs : List Mk) : ∀ J : Jr, (J.keeps xs).losses = J.losses /\ (J.keeps xs).first = J.first /\ (J.keeps xs).pages = J.pages /\ (J.keeps xs).used = J.used /\ (J.keeps xs).gen = J.gen := by
 induction xs with
 | nil => intro J; exact ⟨rfl, rfl, rfl, rfl, rfl⟩
 | cons x r ih => intro J; exact ih (J.keep x.1 x.2)
theorem keeps_cells (J : Jr) (xs : List Mk) (d m : Nat) : jrCells d m (J.keeps xs) = jrCells d m J := by
 obtain ⟨h1, h2, h3, h4, h5⟩ := keeps_same xs J
 unfold jrCells
 rw [h1, h2, h3, h4, h5]
def kM (M : Nat -> Option Nat) (xs : List Mk) : Nat -> Option Nat := xs.foldl (fun M x => fun y => if y = x.1 then some (max ((M x.1).getD 0) x.2) else M y) M
theorem keeps_M (xs : List Mk) : ∀ J : Jr, (J.keeps xs).M = kM J.M xs := by
 induction xs with
 | nil => intro J; rfl
 | cons x r ih => intro J; exact ih (J.keep x.1 x.2)
theorem Jr.ext' {A B : Jr} (h1 : A.losses = B.losses) (h2 : A.first = B.first) (h3 : A.pages = B.pages) (h4 : A.used = B.used) (h5 : A.gen = B.gen) (h6 : A.M = B.M) : A = B := by
 cases A; cases B; simp_all
end Go.Proofs.YtcdghalnneilpaaGreat
