/- Joined texts. -/
import Derived.Test.YtcdghalnneilpaaGreatR35
set_option linter.unusedVariables false
set_option linter.unusedSimpArgs false
set_option maxRecDepth 8000
set_option maxHeartbeats 8000000
namespace Go.Proofs.YtcdghalnneilpaaGreat
open Go.RowKit Go.Deep Math
variable {w0 W W' : World} {d s : Nat} {F F' : List Nat} {S S' : Dv} {L : Int} {first : Nat} {M : SM}
end Go.Proofs.YtcdghalnneilpaaGreat
namespace Go.Proofs.YtcdghalnneilpaaGreat
namespace Bl
theorem plc_lt {key : ByteArray} {n t : Nat} (hn : 0 < n) : ∀ i ∈ plc key n t, i < n := by
 intro i hi
 simp only [plc, upto, List.mem_map] at hi
 obtain ⟨k, _, rfl⟩ := hi
 exact pl_lt _ _ _ _ hn
theorem setB_getD : ∀ (ps : List Nat) (l : List Bool) (i : Nat), (setB l ps).getD i false = (l.getD i false || decide (i ∈ ps /\ i < l.length))
 | [], l, i => by simp [setB]
 | p :: ps, l, i => by
  show (setB (l.set p true) ps).getD i false = _
  rw [setB_getD ps]
  simp only [List.length_set, List.getD_eq_getElem?_getD, List.getElem?_set, List.mem_cons]
  by_cases h : p = i
  ·subst h
   by_cases h2 : p < l.length <;> simp [h2]
  ·have h3 : ¬ i = p := fun e => h e.symm
   simp [h, h3]
end Bl
open Go.RowKit Go.Deep Math
variable {w0 W W' : World} {d s : Nat} {F F' : List Nat} {S S' : Dv} {L : Int} {first n : Nat} {M : SM} {f : Nat -> List It} {bs : List (List Bool)} {G : List Nat}
def mayK (l : List Bool) (key : List UInt8) : Bool := Bl.mayB l (Bl.plc (txt key) 256 3)
theorem mayK_add {l : List Bool} (hl : l.length = 256) (x : It) : mayK (keyB l x) x.key = true := by
 unfold mayK keyB Bl.mayB
 rw [List.all_eq_true]
 intro i hi
 rw [Bl.setB_getD]
 have := Bl.plc_lt (by omega) i hi
 simp [hi]
 omega
theorem mayK_keep {l : List Bool} {key : List UInt8} (h : mayK l key = true) (x : It) : mayK (keyB l x) key = true := by
 unfold mayK keyB Bl.mayB at *
 rw [List.all_eq_true] at h ⊢
 intro i hi
 rw [Bl.setB_getD, h i hi]
 rfl
theorem mayK_fold (xs : List It) : ∀ (l : List Bool) (key : List UInt8), mayK l key = true -> mayK (xs.foldl keyB l) key = true := by
 induction xs with
 | nil => intro l key h; exact h
 | cons x r ih => intro l key h; exact ih _ _ (mayK_keep h x)
theorem mayK_told : ∀ (xs : List It) (l : List Bool) (x : It), l.length = 256 -> x ∈ xs -> mayK (xs.foldl keyB l) x.key = true
 | [], l, x, _, hx => by simp at hx
 | z :: r, l, x, hl, hx => by
  rcases List.mem_cons.1 hx with rfl | hx
  ·exact mayK_fold r _ _ (mayK_add hl _)
  ·exact mayK_told r _ x (by rw [keyB_length]; exact hl) hx
structure BuIn (w0 W : World) (d : Nat) (F : List Nat) (S : Dv) (s first n : Nat) (M : SM) (f : Nat -> List It) (bs : List (List Bool)) : Prop where
 bk : Bk w0 W d F S s S.losses first M
 sure : Sure S
 len : M.fs.length = n
 n1 : 0 < n
 n2 : n <= 256
 fit : first + n <= S.cs.length
 its : ∀ k, k < n -> S.its (first + k) = f k
 bits : M.fs.map (·.l) = bs
 told : ∀ k l x, bs[k]? = some l -> x ∈ f k -> mayK l x.key = true
def Bu (w0 W : World) (d s first n : Nat) (S : Dv) (f : Nat -> List It) (bs : List (List Bool)) (G : List Nat) : Prop := ∃ F M, BuIn w0 W d F S s first n M f bs /\ G = F ++ M.foot s
theorem BuIn.lt (h : BuIn w0 W d F S s first n M f bs) : ∀ q ∈ F ++ M.foot s, q < W.heap.size /\ w0.heap.size <= q := fun q hq => by
 rcases List.mem_append.1 hq with h1 | h1
 ·exact ⟨h.bk.law.dev.lt q h1, h.bk.law.low q h1⟩
 ·exact ⟨h.bk.st.lt q h1, h.bk.new q h1⟩
theorem Bu.lt (h : Bu w0 W d s first n S f bs G) : ∀ q ∈ G, q < W.heap.size /\ w0.heap.size <= q := by
 obtain ⟨F, M, h, rfl⟩ := h
 exact h.lt
theorem Bu.bel (h : Bu w0 W d s first n S f bs G) : Below w0.heap.size w0 W := by
 obtain ⟨F, M, h, rfl⟩ := h
 exact h.bk.law.bel
theorem Bu.below (h : Bu w0 W d s first n S f bs G) (b : Below W.heap.size W W') : Bu w0 W' d s first n S f bs G := by
 obtain ⟨F, M, h, rfl⟩ := h
 exact ⟨F, M, ⟨h.bk.below b, h.sure, h.len, h.n1, h.n2, h.fit, h.its, h.bits, h.told⟩, rfl⟩
theorem Bu.keep (h : Bu w0 W d s first n S f bs G) {H : List Nat} (k : Keep H W W') (hH : ∀ q ∈ H, q ∉ G /\ w0.heap.size <= q) : Bu w0 W' d s first n S f bs G := by
 obtain ⟨F, M, h, rfl⟩ := h
 exact ⟨F, M, ⟨h.bk.keep k (fun q hq => ⟨fun hf => (hH q hq).1 (List.mem_append.2 (.inl hf)), fun hf => (hH q hq).1 (List.mem_append.2 (.inr hf)), (hH q hq).2⟩), h.sure, h.len, h.n1, h.n2, h.fit, h.its, h.bits, h.told⟩, rfl⟩
theorem moves_keep {F G : List Nat} (h : Keep F W W') (hs : ∀ x ∈ F, x ∈ G) : Moves G G W W' := Moves.of_keep (h.mono (fun x hx => .inl (hs x hx)))
theorem bu_open (h : Law w0 d F S W) (hS : Sure S) (first pages : Nat) (h1 : 1 <= pages) (h2 : pages <= 256) (h3 : first + pages <= S.cs.length) :
  Calls Tryz.prog 105 #[.pointer (some ⟨d, 0, none⟩), .int .i64 first, .int .i64 pages] W fun e W' => ∃ s S' G, e = .returned (.tuple #[.pointer (some ⟨s, 0, none⟩), .int .i64 0]) /\
   Bu w0 W' d s first pages S' (fun k => S.its (first + k)) ((List.range pages).map (fun k => toldB (S.its (first + k)))) G /\ LikeB S S' /\ Moves F G W W' := by
 refine (open_ok h hS.off first pages h1 h2 h3).mono ?_
 rintro e W' ⟨s, M, S', rfl, hb, hl, hm, hk, hnew⟩
 refine ⟨s, S', F ++ M.foot s, rfl, ⟨F, M, ⟨by rw [hl.losses]; exact hb, hS.like hl, ?_, by omega, h2, by rw [hl.cs]; exact h3, fun k hk => hl.its _, hm, ?_⟩, rfl⟩, hl, hk, ?_⟩
 ·have := congrArg List.length hm; simpa using this
 ·intro k l x hkl hx
  rw [List.getElem?_map] at hkl
  cases hr : (List.range pages)[k]? with
  | none => rw [hr] at hkl; simp at hkl
  | some j =>
   have hj : j = k := by
    obtain ⟨a, b⟩ := List.getElem?_eq_some_iff.1 hr
    simpa using b.symm
   rw [hr] at hkl
   simp at hkl
   rw [<- hkl, hj]
   exact mayK_told _ _ x (by simp) hx
 ·intro q hq
  rcases List.mem_append.1 hq with h4 | h4
  ·exact .inl h4
  ·exact .inr (hnew q h4)
theorem its_put {k : Nat} {ys : List It} (hp : PutD S S' k ys) (hk : k < S.cs.length) (ht : total ys <= 384) (hg : ∀ x ∈ ys, x.fits /\ x.good = true) (j : Nat) : S'.its j = if j = k then ys else S.its j := by
 have h1 := putAt_get S.cs k j (.whole (pgB ys))
 have e : ∀ T : Dv, T.its j = (((T.cs[j]?).map (·.now)).map Pg.its).getD [] := fun T => by
  unfold Dv.its
  cases T.cs[j]? <;> rfl
 rw [e, e, hp.cs, h1]
 by_cases h : j = k
 ·rw [if_pos ⟨h, by omega⟩, if_pos h]
  simp [pgB_its ys ht hg]
 ·rw [if_neg (fun h2 => h h2.1), if_neg h]
structure Dv.far (first n : Nat) (S S' : Dv) : Prop where
 len : S'.cs.length = S.cs.length
 pg : ∀ j, j < first \/ first + n <= j -> (S'.cs[j]?).map (·.now) = (S.cs[j]?).map (·.now)
theorem Dv.far.trans {first n : Nat} {S S1 S2 : Dv} (h : Dv.far first n S1 S2) (k : Dv.far first n S S1) : Dv.far first n S S2 := ⟨h.len.trans k.len, fun j hj => (h.pg j hj).trans (k.pg j hj)⟩
def putL (n : Nat) (f : Nat -> List It) (x : It) : List It := (f (bkt x.key n)).filter (notKey x.key) ++ [x]
def putF (n : Nat) (f : Nat -> List It) (x : It) : Nat -> List It := fun k => if k = bkt x.key n then (putL n f x).drop (ovr (putL n f x)) else f k
def outL (n : Nat) (f : Nat -> List It) (x : It) : List It := (putL n f x).take (ovr (putL n f x))
theorem BuIn.f_all (h : BuIn w0 W d F S s first n M f bs) {k : Nat} (hk : k < n) : total (f k) <= 384 /\ ∀ x ∈ f k, x.fits /\ x.good = true := by
 rw [<- h.its k hk]; exact Dv.its_all h.bk.law.dev.good _
theorem Bu.f_all (h : Bu w0 W d s first n S f bs G) {k : Nat} (hk : k < n) : total (f k) <= 384 /\ ∀ x ∈ f k, x.fits /\ x.good = true := by
 obtain ⟨F, M, h, rfl⟩ := h
 exact h.f_all hk
theorem bu_put (h : Bu w0 W d s first n S f bs G) (x : It) (hxf : x.fits) (hxg : x.good = true) (hx : x.size <= 120) :
  Calls Tryz.prog 110 #[.pointer (some ⟨s, 0, none⟩), .agg #[.string (txt x.key), .string (txt x.value), .int .u32 x.flags, .int .i64 x.exp, .int .u64 x.ver]] W fun e W' => ∃ v, e = .returned (.tuple #[v, .int .i64 0]) /\ Row W' W.heap.size v (outL n f x) /\ ∃ S' bs' G', Bu w0 W' d s first n S' (putF n f x) bs' G' /\
   (∀ l, bs[bkt x.key n]? = some l -> bs' = bs.set (bkt x.key n) (keyB l x)) /\ Moves G G' W W' /\ S'.losses = S.losses /\ Dv.far first n S S' := by
 obtain ⟨F, M, h, rfl⟩ := h
 have hb := bkt_lt x.key n h.n1
 obtain ⟨y, hy⟩ : ∃ y, M.fs[bkt x.key n]? = some y := ⟨_, List.getElem?_eq_getElem (by rw [h.len]; exact hb)⟩
 have hy' : M.fs[bkt x.key M.fs.length]? = some y := by rw [h.len]; exact hy
 have hl1 : putL n f x = (S.its (first + bkt x.key M.fs.length)).filter (notKey x.key) ++ [x] := by rw [h.len, h.its _ hb]; rfl
 refine (put_ok h.bk rfl h.sure (by rw [h.len]; exact h.n2) (by rw [h.len]; exact h.fit) x hxf hxg hx y hy' (putL n f x) hl1).mono ?_
 rintro e W' ⟨v, rfl, hr, F', S', hb', hp, hk, hf⟩
 rw [h.len] at hb' hp
 have hbl : bs[bkt x.key n]? = some y.l := by rw [<- h.bits, List.getElem?_map, hy]; rfl
 have hyl := (h.bk.st.flt y (List.mem_of_getElem? hy)).2
 have hgl : ∀ z ∈ putL n f x, z.fits /\ z.good = true := fun z hz => by
  rcases List.mem_append.1 hz with h1 | h1
  ·exact (h.f_all hb).2 z (List.mem_filter.1 h1).1
  ·simp at h1; rw [h1]; exact ⟨hxf, hxg⟩
 have hits := its_put hp (by have := h.fit; omega) (ovr_fit _) (fun z hz => hgl z (List.mem_of_mem_drop hz))
 have hlen' : S'.cs.length = S.cs.length := by rw [hp.cs, putAt_length]
 refine ⟨v, rfl, hr, S', bs.set (bkt x.key n) (keyB y.l x), F' ++ SM.foot ⟨M.a, M.cap, M.fs.set (bkt x.key n) ⟨y.f, y.s, keyB y.l x⟩⟩ s, ⟨F', _, ⟨by rw [hp.losses]; exact hb', hp.sure, by simp [h.len], h.n1, h.n2, by rw [hlen']; exact h.fit, ?_, ?_, ?_⟩, rfl⟩, fun l hl => by rw [hbl] at hl; cases hl; rfl, ⟨?_, ?_⟩, hp.losses, ⟨hlen', fun j hj => by rw [hp.cs, putAt_get, if_neg (by omega)]⟩⟩
 ·intro k hkn
  rw [hits]
  unfold putF
  by_cases hk : k = bkt x.key n
  ·rw [if_pos (by omega), if_pos hk]
  ·rw [if_neg (by omega), if_neg hk, h.its k hkn]
 ·rw [<- h.bits]
  apply List.ext_getElem?
  intro i
  simp only [List.getElem?_map, List.getElem?_set, List.length_map]
  by_cases hi : bkt x.key n = i
  ·subst hi; rw [if_pos rfl, if_pos rfl]; split <;> rfl
  ·rw [if_neg hi, if_neg hi]
 ·intro k l z hl hz
  rw [List.getElem?_set] at hl
  unfold putF at hz
  by_cases hk : bkt x.key n = k
  ·rw [if_pos hk] at hl
   rw [if_pos hk.symm] at hz
   split at hl
   ·simp at hl
    rw [<- hl]
    have hz' := List.mem_of_mem_drop hz
    rcases List.mem_append.1 hz' with h1 | h1
    ·exact mayK_keep (h.told _ y.l z hbl (List.mem_filter.1 h1).1) x
    ·simp at h1; rw [h1]; exact mayK_add hyl x
   ·cases hl
  ·rw [if_neg hk] at hl
   rw [if_neg (fun e => hk e.symm)] at hz
   exact h.told k l z hl hz
 ·refine hk.mono (fun z hz => .inl ?_)
  rcases List.mem_cons.1 hz with rfl | hz
  ·exact List.mem_append.2 (.inr (SM.mem_f (List.mem_of_getElem? hy)).2)
  ·exact List.mem_append.2 (.inl hz)
 ·intro q hq
  rcases List.mem_append.1 hq with h1 | h1
  ·rcases hf q h1 with h2 | h2
   ·exact .inl (List.mem_append.2 (.inl h2))
   ·exact .inr h2
  ·refine .inl (List.mem_append.2 (.inr ?_))
   rcases SM.foot_inv h1 with rfl | ⟨a, ha, rfl⟩ | ⟨z, hz, hbz⟩
   ·exact SM.mem_s
   ·exact SM.mem_a ha
   ·rcases List.mem_or_eq_of_mem_set hz with hz | rfl
    ·rcases hbz with rfl | rfl
     ·exact (SM.mem_f hz).1
     ·exact (SM.mem_f hz).2
    ·rcases hbz with rfl | rfl
     ·exact (SM.mem_f (List.mem_of_getElem? hy)).1
     ·exact (SM.mem_f (List.mem_of_getElem? hy)).2
def allF (n : Nat) (f : Nat -> List It) : List It := (List.range n).flatMap f
theorem Bu.like (h : BuIn w0 W d F S s first n M f bs) (hb : Bk w0 W' d F S' s S.losses first M) (hl : LikeB S S') : BuIn w0 W' d F S' s first n M f bs :=
 ⟨by rw [hl.losses]; exact hb, h.sure.like hl, h.len, h.n1, h.n2, by rw [hl.cs]; exact h.fit, fun k hk => by rw [hl.its]; exact h.its k hk, h.bits, h.told⟩
theorem flat_congr {α β : Type} {l : List α} {p q : α -> List β} (h : ∀ x ∈ l, p x = q x) : l.flatMap p = l.flatMap q := by
 induction l with
 | nil => rfl
 | cons x r ih => rw [List.flatMap_cons, List.flatMap_cons, h x (by simp), ih (fun y hy => h y (by simp [hy]))]
theorem bu_items (h : Bu w0 W d s first n S f bs G) :
  Calls Tryz.prog 95 #[.pointer (some ⟨s, 0, none⟩)] W fun e W' => ∃ v, e = .returned (.tuple #[v, .int .i64 0]) /\ Row W' W.heap.size v (allF n f) /\ ∃ S', Bu w0 W' d s first n S' f bs G /\ LikeB S S' /\ Moves G G W W' := by
 obtain ⟨F, M, h, rfl⟩ := h
 refine (items_ok h.bk rfl h.sure.off (by rw [h.len]; exact h.n2) (by rw [h.len]; exact h.fit)).mono ?_
 rintro e W' ⟨v, S', rfl, hr, hb, hl, hk⟩
 have e : S.all first M.fs.length = allF n f := by
  unfold Dv.all allF
  rw [h.len]
  exact flat_congr (fun k hk => h.its k (List.mem_range.1 hk))
 rw [e] at hr
 exact ⟨v, rfl, hr, S', ⟨F, M, Bu.like h hb hl, rfl⟩, hl, moves_keep hk (fun x hx => List.mem_append.2 (.inl hx))⟩
theorem bu_get (h : Bu w0 W d s first n S f bs G) (key : List UInt8) (hk : key.length <= maxLen) :
  Calls Tryz.prog 112 #[.pointer (some ⟨s, 0, none⟩), .string (txt key)] W fun e W' => e = .returned (getV ((f (bkt key n)).find? (isKey key))) /\ ∃ S', Bu w0 W' d s first n S' f bs G /\ LikeB S S' /\ Moves G G W W' := by
 obtain ⟨F, M, h, rfl⟩ := h
 have hb := bkt_lt key n h.n1
 obtain ⟨y, hy⟩ : ∃ y, M.fs[bkt key n]? = some y := ⟨_, List.getElem?_eq_getElem (by rw [h.len]; exact hb)⟩
 have hbl : bs[bkt key n]? = some y.l := by rw [<- h.bits, List.getElem?_map, hy]; rfl
 have ho : (f (bkt key n)).find? (isKey key) = if Bl.mayB y.l (Bl.plc (txt key) 256 3) = true then (S.its (first + bkt key M.fs.length)).find? (isKey key) else none := by
  rw [h.len, h.its _ hb]
  split
  ·rfl
  ·rename_i hm
   rw [List.find?_eq_none]
   intro z hz hzk
   have hzk' : z.key = key := by simpa [isKey] using hzk
   have := h.told _ y.l z hbl hz
   rw [hzk'] at this
   exact hm this
 refine (get_ok h.bk rfl h.sure.off key hk y (by rw [h.len]; exact hy) (by rw [h.len]; exact h.n2) (by rw [h.len]; exact h.fit) _ ho).mono ?_
 rintro e W' ⟨S', rfl, hb', hl, hk'⟩
 exact ⟨rfl, S', ⟨F, M, Bu.like h hb' hl, rfl⟩, hl, moves_keep hk' (fun x hx => List.mem_append.2 (.inl hx))⟩
theorem bu_may (h : Bu w0 W d s first n S f bs G) (key : List UInt8) (hk : key.length <= maxLen) (l : List Bool) (hl : bs[bkt key n]? = some l) :
  Calls Tryz.prog 85 #[.pointer (some ⟨s, 0, none⟩), .string (txt key)] W fun e W' => e = .returned (.bool (mayK l key)) /\ Below W.heap.size W W' := by
 obtain ⟨F, M, h, rfl⟩ := h
 have hb := bkt_lt key n h.n1
 obtain ⟨y, hy⟩ : ∃ y, M.fs[bkt key n]? = some y := ⟨_, List.getElem?_eq_getElem (by rw [h.len]; exact hb)⟩
 have hbl : bs[bkt key n]? = some y.l := by rw [<- h.bits, List.getElem?_map, hy]; rfl
 rw [hbl] at hl
 cases hl
 exact may_ok h.bk key hk y (by rw [h.len]; exact hy) (by have := h.n2; have := h.len; omega)
end Go.Proofs.YtcdghalnneilpaaGreat
namespace Go.Proofs.YtcdghalnneilpaaGreat
open Go.RowKit Go.Deep Math
def hsh (key : List UInt8) : Nat := (Bl.hashK (txt key)).toNat
def En.counts (E : En) (J : Jr) (x : It) : Bool := decide (E.b.hor < x.ver) && !J.gone (hsh x.key) x.ver
section
variable {w : World} {x d : Nat} {E : En} {sp lp mp : Value} {j m n : Nat} {J : Jr}
theorem counts_any (hb : Blk w x (enL d E (.pointer (some ⟨j, 0, none⟩)) sp lp mp) 104) (hJ : JrAt w j d m n J) (y : It) (hk : y.key.length <= maxLen) :
  Calls Tryz.prog 114 #[.pointer (some ⟨x, 0, none⟩), y.val] w fun e w' => e = .returned (.bool (E.counts J y)) /\ Below w.heap.size w w' := by
 have ev : y.val = itV (txt y.key) (txt y.value) y.flags y.exp y.ver := rfl
 rw [ev]
 unfold itV
 have hbA := hb.same (w' := w.alloc (.cells #[.string (txt y.key), .string (txt y.value), .int .u32 y.flags, .int .i64 y.exp, .int .u64 y.ver] 39)) (blk_alloc_lt _ _ _ hb.lt)
 have c5 := hbA.cell (i := 5) rfl
 have c10 := hbA.cell (i := 10) rfl
 have B := hide ((Below.refl w.heap.size w).alloc (Nat.le_refl _) (.cells #[.string (txt y.key), .string (txt y.value), .int .u32 y.flags, .int .i64 y.exp, .int .u64 y.ver] 39))
 have hh := Bl.hashK_range (txt y.key)
 have cH : Hid (∀ V : World, Calls Tryz.prog 116 #[.string (txt y.key)] V fun e w' => e = .returned (.int .u64 ((hsh y.key : Nat) : Int)) /\ w' = V) := fun V => by
  have := Bl.hash_any (txt y.key) V (by rw [txt_size]; exact hk)
  have e : ((hsh y.key : Nat) : Int) = Bl.hashK (txt y.key) := by unfold hsh; omega
  rw [e]
  exact this
 have hlt : hsh y.key < 18446744073709551616 := by unfold hsh; omega
 have cG : Hid (∀ V : World, V.heap = (w.alloc (.cells #[.string (txt y.key), .string (txt y.value), .int .u32 y.flags, .int .i64 y.exp, .int .u64 y.ver] 39)).heap -> Calls Tryz.prog 164 #[.pointer (some ⟨j, 0, none⟩), .int .u64 (hsh y.key : Nat), .int .u64 (y.ver : Nat)] V fun e w' => e = .returned (.bool (J.gone (hsh y.key) y.ver)) /\ w' = V) := fun V hV => gone_any' j d m n J (hsh y.key) y.ver hlt V ((hJ.below ((Below.refl _ _).alloc (Nat.le_refl _) _)).same (by rw [hV]) (by rw [hV]))
 have hc : E.counts J y = (decide (E.b.hor < y.ver) && !J.gone (hsh y.key) y.ver) := rfl
 rw [hc]
 clear hb hJ hbA hh hlt ev hc hk
 generalize J.gone (hsh y.key) y.ver = gn at *
 generalize hsh y.key = hv at *
 generalize txt y.key = kb at *
 generalize txt y.value = vb at *
 by_cases hv : E.b.hor < y.ver
 ·have e1 : ((E.b.hor : Int) < (y.ver : Int)) = True := eq_true (by omega)
  have e2 : decide (E.b.hor < y.ver) = true := decide_eq_true hv
  rw [e2]
  clear hv e2
  go_enter Tryz.func114, Tryz.ntmps114
  go_wp2_with fail
  go_quiet (first | (go_at_call 116; refine Calls.quiet_of_same (cH.out _)) | (go_at_call 164; refine Calls.quiet_of_same (cG.out _ ?_); rfl))
  go_wp2
  go_ret
  exact ⟨by cases gn <;> rfl, below_q B.out _⟩
 ·have e1 : ((E.b.hor : Int) < (y.ver : Int)) = False := eq_false (by omega)
  have e2 : decide (E.b.hor < y.ver) = false := decide_eq_false hv
  rw [e2]
  clear hv e2
  go_enter Tryz.func114, Tryz.ntmps114
  go_wp2_with fail
  go_quiet (fail)
  go_wp2
  go_ret
  exact ⟨rfl, below_q B.out _⟩
end
theorem zero39 (w : World) : (zeroValue 39).run Tryz.prog w = .ok (.agg #[.string ⟨#[]⟩, .string ⟨#[]⟩, .int .u32 0, .int .i64 0, .int .u64 0]) w := by go_simp
theorem look_none (k : List UInt8) (hk : k.length <= maxLen) (c : Bool) (w : World) : (Instr.lookup 102 (.map none) (.string (txt k)) c).run Tryz.prog w = .ok (if c then .tuple #[.agg #[.string ⟨#[]⟩, .string ⟨#[]⟩, .int .u32 0, .int .i64 0, .int .u64 0], .bool false] else .agg #[.string ⟨#[]⟩, .string ⟨#[]⟩, .int .u32 0, .int .i64 0, .int .u64 0]) w :=
 Maps.look_nil (w := w) c keyed9 Tryz.underlying102 (zero39 w) (key9 k hk)
section
variable {w0 w : World} {x d : Nat} {E : En} {jp : Value} {s first n : Nat} {S : Dv} {f : Nat -> List It} {bs : List (List Bool)} {G : List Nat} {l dl ml : Nat} {v5 v6 v7 : Value} {T : Lg}
theorem may_any (hb : Blk w x (enL d E jp (.pointer (some ⟨s, 0, none⟩)) (.pointer (some ⟨l, 0, none⟩)) (.map none)) 104) (hB : Bu w0 w d s first n S f bs G) (hL : LgIn w l dl ml v5 v6 v7 T) (key : List UInt8) (hk : key.length <= maxLen) (hk2 : key.length <= 140737488351232) (lb : List Bool) (hl : bs[bkt key n]? = some lb) :
  Calls Tryz.prog 32 #[.pointer (some ⟨x, 0, none⟩), .string (txt key)] w fun e w' => e = .returned (.bool (mayK lb key || (T.has key).isSome)) /\ Below w.heap.size w w' := by
 have c13 := hb.cell (i := 13) rfl
 have hbA := hb.same (w' := w.alloc (.cells #[.string ⟨#[]⟩, .string ⟨#[]⟩, .int .u32 0, .int .i64 0, .int .u64 0] 39)) (blk_alloc_lt _ _ _ hb.lt)
 have c11 := hbA.cell (i := 11) rfl
 have BA := (Below.refl w.heap.size w).alloc (Nat.le_refl _) (.cells #[.string ⟨#[]⟩, .string ⟨#[]⟩, .int .u32 0, .int .i64 0, .int .u64 0] 39)
 have cM := hide (bu_may (hB.below BA) key hk lb hl)
 have HB := hide hbA
 have HL := hide (hL.alloc (.cells #[.string ⟨#[]⟩, .string ⟨#[]⟩, .int .u32 0, .int .i64 0, .int .u64 0] 39))
 have HBA := hide BA
 have hlk : (Instr.lookup 102 (.map none) (.string (txt key)) true).run Tryz.prog w = _ := look_none key hk true w
 simp only [if_true] at hlk
 clear hb hbA hB hL BA hl hk
 have HK := hide hk2
 clear hk2
 go_enter Tryz.func32, Tryz.ntmps32
 go_wp2_with fail
 refine cM.out.mono ?_
 rintro r w1 ⟨rfl, b1⟩
 have hb1 := HB.out.same (b1.block _ HB.out.lt)
 have hL1 := HL.out.below b1
 have c12 := hb1.cell (i := 12) rfl
 have cG := hide (may_log hL1 key HK.out)
 have B1 : Hid (Below w.heap.size w w1) := HBA.out.trans (b1.mono (by rw [nblk_alloc]; omega))
 clear b1 hb1 hL1 cM HBA HL HB hlk c11 c13 HK
 cases hm : mayK lb key with
 | true =>
  go_wp2
  go_ret
  exact ⟨by rw [hm]; rfl, B1.out⟩
 | false =>
  go_wp2_with fail
  refine cG.out.mono ?_
  rintro r w2 ⟨rfl, rfl⟩
  clear cG
  go_wp2
  go_ret
  exact ⟨by rw [hm]; rfl, B1.out⟩
end
end Go.Proofs.YtcdghalnneilpaaGreat
