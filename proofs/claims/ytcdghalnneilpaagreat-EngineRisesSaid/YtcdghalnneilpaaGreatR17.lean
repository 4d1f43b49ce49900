/- Joined texts. -/
import Derived.Test.YtcdghalnneilpaaGreatR16
set_option linter.unusedVariables false
set_option linter.unusedSimpArgs false
set_option maxRecDepth 8000
set_option maxHeartbeats 8000000
namespace Go.Proofs.YtcdghalnneilpaaGreat
open Go.RowKit Go.Deep Math
section
variable {w : World} {l d m : Nat} {v5 v6 v7 : Value} {T : Lg}
theorem LgIn.boxTurn {w' : World} {T' : Lg} (h : LgIn w l d m v5 v6 v7 T) (k : Keep [l] w w') (hb : Blk w' l (lgCells d m v5 v6 v7 T') 202) (e1 : T'.regs = T.regs) (e2 : T'.opn = T.opn) (e3 : T'.cap = T.cap) (e4 : T'.has = T.has) : LgIn w' l d m v5 v6 v7 T' := by
 have ne : ∀ {q : Nat} {c : Array Value} {e : TypeId}, w.heap[q]? = some (.cells c e (0, 0)) -> e ≠ 202 -> w'.heap[q]? = w.heap[q]? := fun {q c e} hq he => k.block q (Array.getElem?_eq_some_iff.1 hq).1 (by
  simp only [List.mem_singleton]
  rintro rfl
  have hb := h.box
  unfold Blk at hb
  rw [hq] at hb
  simp only [Option.some.injEq, Obj.cells.injEq] at hb
  exact he hb.2.1)
 obtain ⟨a1, a2, a3, a4, a5, a6, a7, a8⟩ := T'
 simp only at e1 e2 e3 e4
 subst e1 e2 e3 e4
 refine ⟨hb, own_same h.sld (fun q hq => ?_), fun r hr => own_same (h.rows r hr) (fun q hq => ?_), own_same h.opn (fun q hq => ?_), own_same h.cont (fun q hq => ?_), h.map.same ?_, fun t ht => ?_, h.apart, h.hasAt⟩
 ·obtain ⟨c, hc⟩ := own_ty h.sld hq; exact ne hc (by decide)
 ·obtain ⟨c, hc⟩ := own_ty (h.rows r hr) hq; exact ne hc (by decide)
 ·obtain ⟨c, hc⟩ := own_ty h.opn hq; exact ne hc (by decide)
 ·obtain ⟨c, hc⟩ := own_ty h.cont hq; exact ne hc (by decide)
 ·refine k.block m h.map.lt ?_
  simp only [List.mem_singleton]
  exact Ne.symm (h.notM h.box)
 ·obtain ⟨c, hc⟩ := (h.ths t ht).ty
  exact (h.ths t ht).same (ne hc (by decide))
theorem LgIn.setNum (h : LgIn w l d m v5 v6 v7 T) (n : Nat) : LgIn (w.setCell ⟨l, 4, none⟩ (.int .u64 (n : Int))) l d m v5 v6 v7 { T with num := n } :=
 h.boxTurn (T' := { T with num := n }) ((Keep.refl [l] w).setCell (.inl (by simp)) _) (h.box.set 4 _) rfl rfl rfl rfl
end
section
variable {w wr : World} {l d m : Nat} {v5 v6 v7 : Value} {T : Lg} {S : Dv} {F : List Nat} {base i n : Nat} {pv : Value} {fps : List Fp}
theorem Rd1.num (h : Rd1 w wr l d m v5 v6 v7 T S F base i pv n fps) (hF : ∀ k ∈ F, k < w.heap.size) (hl : l < w.heap.size) (x : Nat) {w1 : World} (hw : w1 = wr.setCell ⟨l, 4, none⟩ (.int .u64 (x : Int))) :
  LgIn w1 l d m v5 v6 v7 { T with num := x } /\ Keep (l :: F) w w1 /\ w1.ownsRow w.heap.size 259 3 pv n (fpRow fps) /\ (∀ p ∈ fps, FpAt w1 p /\ w.heap.size <= p.g) /\ ∃ S', Like S S' /\ DvAt w1 d F S' := by
 subst hw
 have k1 : Keep [l] wr (wr.setCell ⟨l, 4, none⟩ (.int .u64 (x : Int))) := (Keep.refl [l] wr).setCell (.inl (by simp)) _
 refine ⟨h.lg.setNum x, h.keep.trans k1 (fun y hy => .inl (by simp at hy; simp [hy])), own_same h.row (fun q hq => ?_), fun p hp => ⟨(h.at' p hp).1.same ?_, (h.at' p hp).2⟩, ?_⟩
 ·obtain ⟨c, hc⟩ := own_ty h.row hq
  have hq0 : w.heap.size <= q := by
   rcases h.row.2 with ⟨h1, _⟩ | ⟨g1, cap, cur, h1, h2, _⟩
   ·rw [h1] at hq; cases hq
   ·rw [h1] at hq; simp [Value.ownBlock] at hq; subst hq; exact h2
  exact k1.block q (Array.getElem?_eq_some_iff.1 hc).1 (by simp; omega)
 ·have h1 := h.at' p hp
  exact k1.block p.g h1.1.glt (by simp; omega)
 ·obtain ⟨S', h1, h2⟩ := h.dev
  refine ⟨S', h1, h2.same (fun q hq => k1.block q (h2.lt q hq) (fun hf => ?_))⟩
  simp only [List.mem_singleton] at hf
  subst hf
  exact h.lg.off h2 q (by simp [lblocks, lfoot]) hq
end
theorem own_bs {w : World} {base : Nat} {a : Option Addr} {n c : Nat} {l : List UInt8} (h : w.ownsRow base 5 1 (.slice a n c) n (bCells l)) : BS w a n c l /\ c <= 9223372036854775807 := by
 have hn : n = l.length := by have := h.1; rw [bCells_length] at this; omega
 rcases h.2 with ⟨h1, h0⟩ | ⟨g, cap, cur, hv, hb, hh, hc, hm, hs, htk⟩
 ·simp only [Value.slice.injEq] at h1
  obtain ⟨rfl, rfl, rfl⟩ := h1
  have hl : l = [] := List.eq_nil_of_length_eq_zero hn.symm
  subst hl
  exact ⟨BS.mk' rfl (Nat.le_refl _) (Reads.nil _ _), by omega⟩
 ·simp only [Value.slice.injEq] at hv
  obtain ⟨rfl, _, rfl⟩ := hv
  refine ⟨BS.mk' hn hc ⟨fun i hi => ⟨g, 0, rfl, ?_⟩, fun i => ?_⟩, hm⟩
  ·rw [ints_length] at hi
   have h1 : (cur.toList.take (n * 1))[i]? = some (.int .u8 ((l[i]).toNat : Int)) := by
    rw [htk]
    simp [bCells, List.getElem?_eq_getElem hi]
   rw [List.getElem?_take] at h1
   rw [Nat.zero_add, ints_getD]
   split at h1
   ·simp [World.cell?, hh, <- Array.getElem?_toList, h1, List.getD_eq_getElem?_getD, List.getElem?_eq_getElem hi]
   ·cases h1
  ·rw [ints_getD]
   have := (l.getD i 0).toNat_lt
   omega
def ReadPost (w : World) (l d m : Nat) (v5 v6 v7 : Value) (T : Lg) (S : Dv) (F : List Nat) (place : Nat) (e : Ending) (w' : World) : Prop := e = .returned (.tuple #[]) /\ ∃ S', Like S S' /\ DvAt w' d F S' /\
 ((cnt S.cs (T.first + 4 * place) = none /\ LgIn w' l d m v5 v6 v7 { T with num := maxNum T.num (forms S.cs (T.first + 4 * place) 4) } /\ Keep (l :: F) w w') \/
  ∃ n xs v5' r, cnt S.cs (T.first + 4 * place) = some (n, xs) /\ r.place = place /\ r.num = n /\ r.ths.map Th.it = xs /\ (∀ t ∈ r.ths, w.heap.size <= t.blk) /\ (r.ths.map Th.pos).Nodup /\ (∀ q ∈ own r.v, w.heap.size <= q) /\
   LgIn w' l d m v5' v6 v7 { T with num := maxNum T.num (forms S.cs (T.first + 4 * place) 4), regs := T.regs ++ [r] } /\ Keep (l :: (own v5 ++ F)) w w' /\ ∀ q ∈ own v5', q ∈ own v5 \/ w.heap.size <= q)
theorem read_log {w : World} {l d m : Nat} {v5 v6 v7 : Value} {T : Lg} {S : Dv} {F : List Nat} (h : LgIn w l d m v5 v6 v7 T) (hD : DvAt w d F S) (hoff : S.off = false) (place : Nat) (hpl : place < 64) (hfi : T.first <= 4096) (hin : T.first + 4 * place + 4 <= S.cs.length) (hrl : T.regs.length <= 100) :
  Calls Tryz.prog 154 #[.pointer (some ⟨l, 0, none⟩), .int .i64 place] w (ReadPost w l d m v5 v6 v7 T S F place) := by
 obtain ⟨base, hbase⟩ : ∃ base, base = T.first + 4 * place := ⟨_, rfl⟩
 have hF : ∀ k ∈ F, k < w.heap.size := hD.lt
 have hll : l < w.heap.size := h.box.lt
 have R0 : Hid (Rd1 w w l d m v5 v6 v7 T S F base 0 (.slice none 0 0) 0 []) := ⟨⟨S, Like.refl S, hD⟩, h, Keep.refl _ _, rfl, rfl, World.ownsRow_nil _ _ _ _, fun p hp => by cases hp⟩
 have HF := hide hF
 have HLL := hide hll
 have HB := hide hbase
 have HPL := hide hpl
 have HFI := hide hfi
 have HIN := hide hin
 have HOFF := hide hoff
 have HT := hide h
 have HRL := hide hrl
 clear hrl h hD hF hll hbase hfi hin hoff
 go_enter Tryz.func154, Tryz.ntmps154
 go_wp2_with fail
 go_loopg [4, 16] 4 (fun kx s4 s16 wr => ∃ (i : Nat) (pa : Option Addr) (pn pc : Nat) (fps : List Fp), s4 = .slice pa pn pc /\ s16 = .int .i64 i /\ i <= 4 /\ 4 - i <= kx /\ Hid (Rd1 w wr l d m v5 v6 v7 T S F base i (.slice pa pn pc) pn fps))
 case atStart => exact ⟨0, none, 0, 0, [], rfl, rfl, by omega, by omega, R0.out⟩
 case round =>
  obtain ⟨i, pa, pn, pc, fps, rfl, rfl, hi4, hg, I⟩ := hrel
  by_cases hlt : i < 4
  ·have hlt2 : (i : Int) < 4 := by omega
   obtain ⟨S', hL', hD'⟩ := I.out.dev
   obtain ⟨c, hc⟩ : ∃ c, S.cs[base + i]? = some c := ⟨_, List.getElem?_eq_getElem (by have := HIN.out; have := HB.out; omega)⟩
   have hk : S'.cs[base + i]? = some c := by rw [hL'.cs]; exact hc
   have hoff' : S'.off = false := by rw [hL'.off]; exact HOFF.out
   obtain ⟨rv, er, cR, hcs⟩ := read_page (d := d) (F := F) hk hoff'
   have hfa : fmAt S.cs (base + i) = fmPg c.now := by unfold fmAt; rw [hc]; rfl
   obtain ⟨rvn, hrvn⟩ : ∃ rvn, rvn = rv wr.heap.size := ⟨_, rfl⟩
   obtain ⟨CC, hCC⟩ : ∃ CC : Bool -> World -> Prop, CC = fun f w' => match f with
    | false => w' = wr.drew
    | true => DvAt w' d F (S'.readDo (base + i : Nat)) /\ Keep F wr w' /\ (∀ l, pgText c.now = some l -> Blk w' (wr.heap.size + 1) (bCells l) 5 /\ l.length = 384) := ⟨_, rfl⟩
   have DR : Hid (CC false { wr with drawn := wr.drawn + 1 }) := by show CC false _; rw [hCC]; rfl
   have hDd : DvAt wr.drew d F S' := hD'.same (fun _ _ => rfl)
   have cRd : Hid (∀ w', CC false w' -> Calls Tryz.prog 99 #[.pointer (some ⟨d, 0, none⟩), .int .i64 ((base + i : Nat) : Int)] w' fun e w' => e = .returned (.tuple #[rvn, .int .i64 er]) /\ CC true w') := fun w' hw => by
    rw [hCC] at hw ⊢
    simp only at hw
    subst hw
    refine (cR wr.drew hDd).mono ?_
    rintro e w2 ⟨rfl, h1, h2, h3⟩
    refine ⟨by rw [hrvn]; rfl, h1, ?_, h3⟩
    exact ((Keep.refl F wr).drew).trans h2 (fun x hx => .inl hx)
   have lgC : Hid (∀ f w', CC f w' -> LgIn w' l d m v5 v6 v7 { T with num := maxNum T.num (forms S.cs base i) }) := fun f w' hw => by
    rw [hCC] at hw
    cases f with
    | false => simp only at hw; subst hw; exact I.out.lg.heap rfl
    | true => exact I.out.lg.dev hD' hw.2.1
   have cWh : Hid (∀ f w', CC f w' -> Calls Tryz.prog 174 #[.pointer (some ⟨l, 0, none⟩), .int .i64 (place : Int), .int .i64 (i : Int)] w' fun e w2 => e = .returned (.int .i64 ((base + i : Nat) : Int)) /\ w2 = w') := fun f w' hw => by
    have := where_any (lgC.out f w' hw) place i HFI.out (by have := HPL.out; omega) (by omega)
    rw [HB.out]
    exact this
   have cDev : Hid (∀ f w', CC f w' -> w'.cell? ⟨l, 0, none⟩ = some (.pointer (some ⟨d, 0, none⟩))) := fun f w' hw => (lgC.out f w' hw).box.cell (i := 0) rfl
   have HE : Hid (∀ w', CC true w' -> Rd1 w w' l d m v5 v6 v7 T S F base i (.slice pa pn pc) pn fps /\ (∀ l, pgText c.now = some l -> Blk w' (wr.heap.size + 1) (bCells l) 5 /\ l.length = 384) /\ wr.heap.size <= w'.heap.size) := fun w' hw => by
    rw [hCC] at hw
    exact ⟨I.out.dv HF.out (hL'.trans (like_read S' _)) hw.1 hw.2.1, hw.2.2, hw.2.1.size⟩
   have HCS := hide hcs
   have HFA := hide hfa
   have HRV := hide hrvn
   clear hCC hDd cR hcs hfa hrvn hk hoff' hc hL' hD'
   go_wp2_with fail
   refine wp_region_turn (by kernel_rfl) (by kernel_rfl) (fun jx => ([.pointer (some ⟨l, 0, none⟩), .pointer (some ⟨l, 0, none⟩), .pointer (some ⟨l, 0, none⟩), .pointer (some ⟨d, 0, none⟩), .pointer (some ⟨l, 0, none⟩), .int .i64 (place : Int), .int .i64 (i : Int), .int .i64 ((base + i : Nat) : Int), .tuple #[rvn, .int .i64 er], .tuple #[rvn, .int .i64 er], rvn, .int .i64 er, rvn, .int .i64 er] : List Value).getD jx undef) 8 (by decide) (CC) (DR.out) ?_ ?_
   ·intro jx ox hi f w' ev hc hz hin hout hcst hfn
    have hltx : jx < 14 := by
     have := (Array.getElem?_eq_some_iff.1 hi).1
     simpa using this
    match jx, hltx with
    | 0, _ =>
     cases hi
     have e0 : ev (.tmp 0) = .pointer (some ⟨l, 0, none⟩) := hout 0
     rw [if_neg (by decide)]
     refine .inl ⟨w', ?_, hc⟩
     simp [execOp, e0, hcst, go_sem]
    | 1, _ =>
     cases hi
     have e0 : ev (.tmp 20) = .pointer (some ⟨l, 0, none⟩) := hin 20 0 ⟨0, .data⟩
     rw [if_neg (by decide)]
     refine .inl ⟨w', ?_, hc⟩
     simp [execOp, e0, hcst, go_sem]
    | 2, _ =>
     cases hi
     have e0 : ev (.tmp 21) = .pointer (some ⟨l, 0, none⟩) := hin 21 1 ⟨1, .data⟩
     rw [if_neg (by decide)]
     refine .inl ⟨w', ?_, hc⟩
     simp [execOp, e0, hcst, go_sem]
    | 3, _ =>
     cases hi
     have e0 : ev (.tmp 22) = .pointer (some ⟨l, 0, none⟩) := hin 22 2 ⟨2, .data⟩
     rw [if_neg (by decide)]
     refine .inl ⟨w', ?_, hc⟩
     show _ = Result.ok (Next.value (.pointer (some ⟨d, 0, none⟩))) w'
     have q := cDev.out f w' hc
     simp [execOp, e0, q, hcst, go_sem]
    | 4, _ =>
     cases hi
     have e0 : ev (.tmp 0) = .pointer (some ⟨l, 0, none⟩) := hout 0
     rw [if_neg (by decide)]
     refine .inl ⟨w', ?_, hc⟩
     simp [execOp, e0, hcst, go_sem]
    | 5, _ =>
     cases hi
     have e0 : ev (.tmp 1) = .int .i64 (place : Int) := hout 1
     rw [if_neg (by decide)]
     refine .inl ⟨w', ?_, hc⟩
     simp [execOp, e0, hcst, go_sem]
    | 6, _ =>
     cases hi
     have e0 : ev (.tmp 5) = .int .i64 (i : Int) := hout 5
     rw [if_neg (by decide)]
     refine .inl ⟨w', ?_, hc⟩
     simp [execOp, e0, hcst, go_sem]
    | 7, _ =>
     cases hi
     have e0 : ev (.tmp 24) = .pointer (some ⟨l, 0, none⟩) := hin 24 4 ⟨4, .data⟩
     have e1 : ev (.tmp 25) = .int .i64 (place : Int) := hin 25 5 ⟨5, .data⟩
     have e2 : ev (.tmp 26) = .int .i64 (i : Int) := hin 26 6 ⟨6, .data⟩
     rw [if_neg (by decide)]
     refine .inr (.inr ⟨174, #[.pointer (some ⟨l, 0, none⟩), .int .i64 (place : Int), .int .i64 (i : Int)], ?_, ?_⟩)
     ·have ef := hfn 174
      simp [execOp, resolve, invoke, ef, hcst, e0, e1, e2, Result.andThen]
      exact enter38 _ _
     ·refine (cWh.out f w' hc).mono ?_
      rintro e w2 ⟨rfl, h2⟩
      rw [h2]
      exact ⟨rfl, hc⟩
    | 8, _ =>
     cases hi
     have e0 : ev (.tmp 23) = .pointer (some ⟨d, 0, none⟩) := hin 23 3 ⟨3, .data⟩
     have e1 : ev (.tmp 27) = .int .i64 ((base + i : Nat) : Int) := hin 27 7 ⟨7, .data⟩
     rw [if_pos rfl]
     refine .inr (.inr ⟨99, #[.pointer (some ⟨d, 0, none⟩), .int .i64 ((base + i : Nat) : Int)], ?_, ?_⟩)
     ·have ef := hfn 99
      simp [execOp, resolve, invoke, ef, hcst, e0, e1, Result.andThen]
      exact enter37 _ _
     ·rw [hz rfl] at hc
      refine (cRd.out w' hc).mono ?_
      rintro e w2 ⟨rfl, h2⟩
      exact ⟨rfl, h2⟩
    | 9, _ =>
     cases hi
     have e0 : ev (.tmp 28) = .tuple #[rvn, .int .i64 er] := hin 28 8 ⟨8, .data⟩
     rw [if_neg (by decide)]
     refine .inl ⟨w', ?_, hc⟩
     simp [execOp, e0, hcst, go_sem]
    | 10, _ =>
     cases hi
     have e0 : ev (.tmp 19) = .tuple #[rvn, .int .i64 er] := hin 19 9 ⟨9, .data⟩
     rw [if_neg (by decide)]
     refine .inl ⟨w', ?_, hc⟩
     simp [execOp, e0, hcst, go_sem]
    | 11, _ =>
     cases hi
     have e0 : ev (.tmp 19) = .tuple #[rvn, .int .i64 er] := hin 19 9 ⟨9, .data⟩
     rw [if_neg (by decide)]
     refine .inl ⟨w', ?_, hc⟩
     simp [execOp, e0, hcst, go_sem]
    | 12, _ =>
     cases hi
     have e0 : ev (.tmp 29) = rvn := hin 29 10 ⟨10, .data⟩
     rw [if_neg (by decide)]
     refine .inl ⟨w', ?_, hc⟩
     simp [execOp, e0, hcst, go_sem]
    | 13, _ =>
     cases hi
     have e0 : ev (.tmp 30) = .int .i64 er := hin 30 11 ⟨11, .data⟩
     rw [if_neg (by decide)]
     refine .inl ⟨w', ?_, hc⟩
     simp [execOp, e0, hcst, go_sem]
   ·intro w7 hc
    simp only [lexF, Act.put, List.setIfInBounds_toArray, List.set_cons_succ, List.set_cons_zero, List.getD_cons_succ, List.getD_cons_zero]
    have T7 := hide (HE.out w7 hc)
    clear hc cRd cWh cDev DR HE lgC
    rcases HCS.out with ⟨he, hrv, htx⟩ | ⟨he, hrv, lt, htx⟩
    ·have E : Hid (fmAt S.cs (base + i) = none) := by show _ = _; rw [HFA.out]; unfold fmPg; rw [htx]; rfl
     have he2 : (er != 0) = true := by rw [bne_iff_ne]; exact he
     have := HRV.out
     rw [hrv] at this
     subst this
     clear htx hrv he HCS
     go_wp2
     go_roundg (4 - (i + 1))
     case measure => omega
     case rel => exact ⟨i + 1, pa, pn, pc, fps, rfl, rfl, by omega, by omega, T7.out.1.skip E.out⟩
    ·subst he
     have hrv2 := HRV.out
     rw [hrv] at hrv2
     subst hrv2
     obtain ⟨hbk, hl384⟩ := T7.out.2.1 lt htx
     have hbs := blk_bs hbk hl384
     cases hfm : isForm lt with
     | false =>
      have E : Hid (fmAt S.cs (base + i) = none) := by show _ = _; rw [HFA.out]; unfold fmPg; rw [htx]; simp [hfm]
      have cF := hide (formed_no _ lt w7 hbs hfm)
      clear htx hrv HCS hbs hfm hbk hl384
      go_wp2_with fail
      refine cF.out.mono ?_
      rintro e w8 ⟨rfl, b8⟩
      have R8 := hide ((T7.out.1.below HF.out b8).skip E.out)
      clear b8 cF
      go_wp2
      go_roundg (4 - (i + 1))
      case measure => omega
      case rel => exact ⟨i + 1, pa, pn, pc, fps, rfl, rfl, by omega, by omega, R8.out.below HF.out ((Below.refl _ _).alloc (Nat.le_refl _) _)⟩
     | true =>
      have E : Hid (forms S.cs base (i + 1) = forms S.cs base i ++ [lt]) := by show _ = _; rw [forms, HFA.out]; unfold fmPg; rw [htx]; simp [hfm]
      have cF := hide (formed_yes _ lt w7 hbs hfm)
      unfold fmV at cF
      have HFP : Hid (FpAt w7 ⟨wr.heap.size + 1, lt⟩) := ⟨hbk, hl384, hfm⟩
      clear htx hrv HCS hbs hfm hbk hl384
      go_wp2_with fail
      refine cF.out.mono ?_
      rintro e w8 ⟨rfl, b8⟩
      have B8 := hide b8
      obtain ⟨W9, hW9⟩ : ∃ W9, W9 = (w8.alloc (.cells #[.int .u8 (fmPlace lt), .int .u64 (fmNum lt), .slice (some ⟨wr.heap.size + 1, 16, none⟩) (fmLen lt) 368] 259)).drew := ⟨_, rfl⟩
      have b9 : Below w7.heap.size w7 W9 := by rw [hW9]; exact b8.trans ((((Below.refl w8.heap.size w8).alloc (Nat.le_refl _) _).drew).mono b8.size)
      have R9 := T7.out.1.below HF.out b9
      have c4 := R9.lg.box.cell (i := 4) rfl
      have f4 := R9.lg.box.frozen 4
      have bx : Blk W9 w8.heap.size [.int .u8 (fmPlace lt), .int .u64 (fmNum lt), .slice (some ⟨wr.heap.size + 1, 16, none⟩) (fmLen lt) 368] 259 := by rw [hW9]; exact Blk.new w8 _ 259
      have hne : w8.heap.size ≠ l := by have h1 := HLL.out; have h2 := T7.out.1.keep.size; have h3 := b8.size; omega
      obtain ⟨X, hX⟩ : ∃ X, X = max (maxNum T.num (forms S.cs base i)) (fmNum lt) := ⟨_, rfl⟩
      have bx2 := bx.other (a := ⟨l, 4, none⟩) hne (.int .u64 (X : Int))
      have k0 := bx2.cell (i := 0) rfl
      have k1 := bx2.cell (i := 1) rfl
      have k2 := bx2.cell (i := 2) rfl
      have bk1 := bx.cell (i := 1) rfl
      have hpn : pn + 1 <= 1048576 := by
       have h1 := forms_len S.cs base i
       have h2 := R9.ls
       have h3 := R9.len
       have h4 : (fpLs fps).length = fps.length := by simp [fpLs]
       rw [h2] at h4
       omega
      obtain ⟨hLG, hKP, hRW, hFPs, hDV⟩ := R9.num HF.out HLL.out X rfl
      obtain ⟨ua, uc, w2, hrun, hrow2, hkp2, hblk2, hsz2⟩ := app_pg hRW (.int .u8 (fmPlace lt)) (.int .u64 (fmNum lt)) (.slice (some ⟨wr.heap.size + 1, 16, none⟩) (fmLen lt) 368) rfl rfl rfl hpn hKP.size
      have T2 : Hid (Rd1 w w2 l d m v5 v6 v7 T S F base (i + 1) (.slice ua (pn + 1) uc) (pn + 1) (fps ++ [⟨wr.heap.size + 1, lt⟩])) := by
       obtain ⟨S1, hS1, hS2⟩ := hDV
       have hrl : ∀ q ∈ own (.slice pa pn pc), w.heap.size <= q := fun q hq => by
        rcases R9.row.2 with ⟨h1, _⟩ | ⟨g1, cap, cur, h1, h2, _⟩
        ·rw [h1] at hq; simp [own, Value.ownBlock] at hq
        ·rw [h1] at hq; simp [own, Value.ownBlock] at hq; subst hq; exact h2
       have hty : ∀ q ∈ own (.slice pa pn pc), ∃ c, (W9.setCell ⟨l, 4, none⟩ (.int .u64 (X : Int))).heap[q]? = some (.cells c 259 (0, 0)) := fun q hq => own_ty hRW (mem_own.1 hq)
       have h7 := HFP.out.below b9
       have h7' : FpAt (W9.setCell ⟨l, 4, none⟩ (.int .u64 (X : Int))) ⟨wr.heap.size + 1, lt⟩ := h7.same (blk_setCell_other _ _ _ _ (by
        have h1 := HLL.out
        have h2 := I.out.keep.size
        simp only
        omega))
       have kd : ∀ q, q < (W9.setCell ⟨l, 4, none⟩ (.int .u64 (X : Int))).heap.size -> q ∉ own (.slice pa pn pc) -> w2.heap[q]? = (W9.setCell ⟨l, 4, none⟩ (.int .u64 (X : Int))).heap[q]? := fun q hq hn => hkp2.block q hq hn
       have nb : ∀ {q : Nat} {g : Array Value}, (W9.setCell ⟨l, 4, none⟩ (.int .u64 (X : Int))).heap[q]? = some (.cells g 5 (0, 0)) -> q ∉ own (.slice pa pn pc) := fun {q g} hq hm => by
        obtain ⟨c, hc⟩ := hty q hm
        rw [hq] at hc
        cases hc
       refine ⟨⟨S1, hS1, hS2.same (fun q hq => kd q (hS2.lt q hq) (fun hm => by have h1 := HF.out q hq; have h2 := hrl q hm; omega))⟩, ?_, hKP.trans hkp2 (fun q hq => .inr (hrl q hq)), ?_, ?_, ?_, ?_⟩
       ·rw [E.out, maxNum_snoc, <- hX]
        refine hLG.same (fun q hq => kd q (hLG.lt q hq) (fun hm => ?_))
        obtain ⟨c, hc⟩ := hty q hm
        rcases hLG.kinds q hq with ⟨es, c', hh⟩ | ⟨c', e', hh, he⟩
        ·rw [hc] at hh; cases hh
        ·rw [hc] at hh
         simp only [Option.some.injEq, Obj.cells.injEq] at hh
         have := hh.2.1
         rcases he with rfl | rfl | rfl | rfl | rfl <;> cases this
       ·rw [E.out, <- R9.ls]; simp [fpLs]
       ·rw [R9.len]; simp
       ·have e : fpRow (fps ++ [⟨wr.heap.size + 1, lt⟩]) = fpRow fps ++ [.int .u8 (fmPlace lt), .int .u64 (fmNum lt), .slice (some ⟨wr.heap.size + 1, 16, none⟩) (fmLen lt) 368] := by simp [fpRow, fpCells]
        rw [e]; exact hrow2
       ·intro p hp
        rcases List.mem_append.1 hp with hp | hp
        ·exact ⟨(hFPs p hp).1.same (kd p.g (hFPs p hp).1.glt (nb (hFPs p hp).1.blk)), (hFPs p hp).2⟩
        ·simp only [List.mem_singleton] at hp
         subst hp
         refine ⟨h7'.same (kd _ h7'.glt (nb h7'.blk)), ?_⟩
         have := I.out.keep.size
         simp only
         omega
      obtain ⟨W10, hW10⟩ : ∃ W10, W9.setCell ⟨l, 4, none⟩ (.int .u64 (X : Int)) = W10 := ⟨_, rfl⟩
      have HW10 := hide hW10
      rw [hW10] at k0 k1 k2 hrun
      have HRUN := hide hrun
      clear hW10 hrun hrow2 hkp2 hblk2 hsz2 hLG hKP hRW hFPs hDV hpn bx bx2 R9 b9 b8 cF HFP E
      have emax : max ((maxNum T.num (forms S.cs base i) : Nat) : Int) ((fmNum lt : Nat) : Int) = (X : Int) := by rw [hX]; omega
      clear hX
      generalize maxNum T.num (forms S.cs base i) = A at *
      generalize fmNum lt = Bn at *
      generalize fmPlace lt = Pn at *
      generalize fmLen lt = Ln at *
      have DR2 : Hid ((w8.alloc (.cells #[.int .u8 (Pn : Int), .int .u64 (Bn : Int), .slice (some ⟨wr.heap.size + 1, 16, none⟩) Ln 368] 259)).drew = W9) := hW9.symm
      clear hW9
      go_wp2_with fail
      refine wp_region_last (by kernel_rfl) (by kernel_rfl) (fun jx => ([.pointer (some ⟨l, 0, none⟩), .pointer (some ⟨l, 0, none⟩), .pointer (some ⟨l, 0, none⟩), .pointer (some ⟨l, 4, none⟩), .int .u64 (A : Int), .pointer (some ⟨w8.heap.size, 1, none⟩), .int .u64 (Bn : Int), .int .u64 (X : Int), .pointer (some ⟨l, 0, none⟩), .pointer (some ⟨l, 4, none⟩), undef] : List Value).getD jx undef) 10 (by decide) (by kernel_rfl) (fun w' => w' = W9) (fun w' => w' = W10) (DR2.out) ?_ ?_
      ·intro jx ox hi w' ev hc hin hout hcst hfn
       have hltx : jx < 11 := by
        have := (Array.getElem?_eq_some_iff.1 hi).1
        simpa using this
       match jx, hltx with
       | 0, _ =>
        cases hi
        have e0 : ev (.tmp 0) = .pointer (some ⟨l, 0, none⟩) := hout 0
        rw [if_neg (by decide)]
        refine .inl ⟨w', ?_, hc⟩
        simp [execOp, e0, hcst, go_sem]
       | 1, _ =>
        cases hi
        have e0 : ev (.tmp 0) = .pointer (some ⟨l, 0, none⟩) := hout 0
        rw [if_neg (by decide)]
        refine .inl ⟨w', ?_, hc⟩
        simp [execOp, e0, hcst, go_sem]
       | 2, _ =>
        cases hi
        have e0 : ev (.tmp 40) = .pointer (some ⟨l, 0, none⟩) := hin 40 1 ⟨1, .data⟩
        rw [if_neg (by decide)]
        refine .inl ⟨w', ?_, hc⟩
        simp [execOp, e0, hcst, go_sem]
       | 3, _ =>
        cases hi
        have e0 : ev (.tmp 41) = .pointer (some ⟨l, 0, none⟩) := hin 41 2 ⟨2, .data⟩
        rw [if_neg (by decide)]
        refine .inl ⟨w', ?_, hc⟩
        simp [execOp, e0, hcst, go_sem]
       | 4, _ =>
        cases hi
        have e0 : ev (.tmp 42) = .pointer (some ⟨l, 4, none⟩) := hin 42 3 ⟨3, .data⟩
        rw [if_neg (by decide)]
        refine .inl ⟨w', ?_, hc⟩
        show _ = Result.ok (Next.value (.int .u64 (A : Int))) w'
        subst hc
        simp [execOp, e0, c4, hcst, go_sem]
       | 5, _ =>
        cases hi
        have e0 : ev (.tmp 8) = .pointer (some ⟨w8.heap.size, 0, none⟩) := hout 8
        rw [if_neg (by decide)]
        refine .inl ⟨w', ?_, hc⟩
        simp [execOp, e0, hcst, go_sem]
       | 6, _ =>
        cases hi
        have e0 : ev (.tmp 44) = .pointer (some ⟨w8.heap.size, 1, none⟩) := hin 44 5 ⟨5, .data⟩
        rw [if_neg (by decide)]
        refine .inl ⟨w', ?_, hc⟩
        show _ = Result.ok (Next.value (.int .u64 (Bn : Int))) w'
        subst hc
        simp [execOp, e0, bk1, hcst, go_sem]
       | 7, _ =>
        cases hi
        have e0 : ev (.tmp 43) = .int .u64 (A : Int) := hin 43 4 ⟨4, .data⟩
        have e1 : ev (.tmp 45) = .int .u64 (Bn : Int) := hin 45 6 ⟨6, .data⟩
        rw [if_neg (by decide)]
        refine .inl ⟨w', ?_, hc⟩
        simp [execOp, e0, e1, hcst, go_sem, resolve, invoke, builtin, Result.andThen, emax]
       | 8, _ =>
        cases hi
        have e0 : ev (.tmp 39) = .pointer (some ⟨l, 0, none⟩) := hin 39 0 ⟨0, .data⟩
        rw [if_neg (by decide)]
        refine .inl ⟨w', ?_, hc⟩
        simp [execOp, e0, hcst, go_sem]
       | 9, _ =>
        cases hi
        have e0 : ev (.tmp 47) = .pointer (some ⟨l, 0, none⟩) := hin 47 8 ⟨8, .data⟩
        rw [if_neg (by decide)]
        refine .inl ⟨w', ?_, hc⟩
        simp [execOp, e0, hcst, go_sem]
       | 10, _ =>
        cases hi
        have e0 : ev (.tmp 48) = .pointer (some ⟨l, 4, none⟩) := hin 48 9 ⟨9, .data⟩
        have e1 : ev (.tmp 46) = .int .u64 (X : Int) := hin 46 7 ⟨7, .data⟩
        rw [if_pos rfl]
        subst hc
        refine .inr (.inl ⟨rfl, _, ?_, HW10.out⟩)
        simp [execOp, e0, e1, c4, f4, hcst, go_sem]
      ·intro w10 hc
       simp only [lexF, Act.put, List.setIfInBounds_toArray, List.set_cons_succ, List.set_cons_zero, List.getD_cons_succ, List.getD_cons_zero]
       obtain rfl := hc
       clear DR2 emax c4 f4 bk1 HW10
       go_wp2_with (at_builtin; refine Lib.wpList_append_run _ rfl _ _ _ _ rfl _ _ rfl rfl _ _ (HRUN.out _) ?_)
       go_roundg (4 - (i + 1))
       case measure => omega
       case rel => exact ⟨i + 1, ua, pn + 1, uc, _, rfl, rfl, by omega, by omega, T2.out⟩
  ·obtain rfl : i = 4 := by omega
   have hlt2 : ¬ ((4 : Nat) : Int) < 4 := by omega
   have hpn : pn <= 4 := by
    have h1 := forms_len S.cs base 4
    have h2 := I.out.ls
    have h3 := I.out.len
    have h4 : (fpLs fps).length = fps.length := by simp [fpLs]
    rw [h2] at h4
    omega
   have cW := hide (whole_any pa pn pc fps wr (own_zero I.out.row) (fun p hp => (I.out.at' p hp).1) hpn)
   rw [I.out.ls] at cW
   clear hpn
   go_wp2_with fail
   refine cW.out.mono ?_
   rintro e w2 ⟨b2, hpost⟩
   have R2 := hide (I.out.below HF.out b2)
   clear cW
   rcases hpost with ⟨hw, rfl⟩ | ⟨hw, va, vn, vc, rfl, hvn, hrw⟩
   ·have E : Hid (cnt S.cs base = none) := by show _ = _; unfold cnt; rw [hw]; simp
    clear hw b2
    go_wp2
    go_end0
    obtain ⟨S1, hS1, hS2⟩ := R2.out.dev
    refine ⟨rfl, S1, hS1, hS2, .inl ?_⟩
    rw [<- HB.out]
    exact ⟨E.out, R2.out.lg, R2.out.keep⟩
   ·obtain ⟨hBS, hvc⟩ := own_bs hrw
    have hvn2 : vn <= 1048576 := by
     have h1 := content_le (w := wr) fps (fun p hp => (I.out.at' p hp).1)
     have h2 := forms_len S.cs base 4
     have h4 : (fpLs fps).length = fps.length := by simp [fpLs]
     rw [I.out.ls] at h1 h4
     omega
    have cL := hide (list_cap take_is va vn vc _ hvc hvn2 w2 hBS)
    have HW := hide hw
    clear hBS hvc hvn2 hvn hrw hw b2
    go_wp2_with fail
    refine cL.out.mono ?_
    rintro e w3 ⟨b3, hpost⟩
    have R3 := hide (R2.out.below HF.out b3)
    have hs23 := b3.size
    clear cL b3
    cases hl : lst (content (forms S.cs base 4)) with
    | none =>
     rw [hl] at hpost
     simp only at hpost
     subst hpost
     have E : Hid (cnt S.cs base = none) := by show _ = _; unfold cnt; rw [HW.out, hl]; simp
     clear hl
     go_wp2
     go_end0
     obtain ⟨S1, hS1, hS2⟩ := R3.out.dev
     refine ⟨rfl, S1, hS1, hS2, .inl ?_⟩
     rw [<- HB.out]
     exact ⟨E.out, R3.out.lg, R3.out.keep⟩
    | some xs =>
     rw [hl] at hpost
     simp only at hpost
     obtain ⟨xv, rfl, hxrow⟩ := hpost
     have hRow : Row w3 w2.heap.size xv xs := hxrow
     have hgood := (lst_all _ _ _ (Nat.le_refl _) hl).2
     have htot := (lst_all _ _ _ (Nat.le_refl _) hl).1
     have htl := total_len xs
     have hcl := content_le (w := wr) fps (fun p hp => (I.out.at' p hp).1)
     have hcl2 := forms_len S.cs base 4
     have hcl4 : (fpLs fps).length = fps.length := by simp [fpLs]
     rw [I.out.ls] at hcl hcl4
     have hxs : xs.length <= 1000 := by omega
     obtain ⟨xa, xc, rfl⟩ := hRow.sl
     obtain ⟨g, hgx, hgT, hgw⟩ : ∃ g, (xs ≠ [] -> xa = some ⟨g, 0, none⟩) /\ (∀ t ∈ thsOf g 0 xs, ThAt w3 t) /\ (xs ≠ [] -> w2.heap.size <= g) := by
      rcases row_things hRow hgood with rfl | ⟨g, c, hv, hg, hT⟩
      ·exact ⟨0, fun h => absurd rfl h, fun t ht => by simp [thsOf] at ht, fun h => absurd rfl h⟩
      ·simp only [Value.slice.injEq] at hv
       exact ⟨g, fun _ => hv.1, hT, fun _ => hg⟩
     have E : Hid (cnt S.cs base = some (headNum (forms S.cs base 4), xs)) := by show _ = _; unfold cnt; rw [HW.out, hl]; simp
     have h4 : 4 <= (forms S.cs base 4).length := by
      have := HW.out
      simp only [isWhole, Bool.and_eq_true, decide_eq_true_eq] at this
      exact this.1
     obtain ⟨p0, hp0⟩ : ∃ p0, fps[0]? = some p0 := ⟨_, List.getElem?_eq_getElem (by omega)⟩
     obtain ⟨gp, gc, hv, _, k1, _, hgl⟩ := fp_cell R3.out.row hp0
     simp only [Value.slice.injEq, true_and] at hv
     obtain ⟨rfl, rfl⟩ := hv
     rw [Nat.zero_mul, Nat.zero_add] at k1
     have HH : Hid (headNum (forms S.cs base 4) = fmNum p0.l) := by
      show _ = _
      rw [<- I.out.ls]
      cases fps with
      | nil => simp at hp0
      | cons x r => simp at hp0; subst hp0; rfl
     have hpn2 : (0 : Int) < (pn : Int) := by have := I.out.len; omega
     have HGX := hide hgx
     have HGT := hide hgT
     have HGW := hide hgw
     have HS23 := hide hs23
     clear hl hxrow hRow hgood htot htl hcl hcl2 hcl4 h4 hp0 hgx hgT hgw hs23 HW
     generalize fmNum p0.l = hn0 at *
     obtain ⟨nx, hnx⟩ : ∃ nx, nx = xs.length := ⟨_, rfl⟩
     have HNX := hide hnx
     rw [<- hnx] at hxs ⊢
     clear hnx
     go_wp2_with fail
     go_loopg [76] nx (fun kx s76 wq => ∃ (i : Nat) (ra : Option Addr) (rc : Nat), s76 = .int .i64 i /\ i <= nx /\ nx - i <= kx /\ Hid (Below w3.heap.size w3 wq /\ Blk wq w3.heap.size [.int .i64 place, .int .u64 hn0, .slice ra i rc] 206 /\ wq.ownsRow w3.heap.size 211 1 (.slice ra i rc) i (ptrCells ((thsOf g 0 xs).take i))))
     case atStart => exact ⟨0, none, 0, rfl, Nat.zero_le _, by omega, (Below.refl _ _).alloc (Nat.le_refl _) _, Blk.new _ [.int .i64 place, .int .u64 hn0, .slice none 0 0] 206, World.ownsRow_nil _ _ _ _⟩
     case round =>
      obtain ⟨i, ra, rc, rfl, hin, hg, J⟩ := hrel
      by_cases hlt3 : i < nx
      ·have hlt4 : (i : Int) < (nx : Int) := by omega
       have hne : xs ≠ [] := fun h => by rw [HNX.out, h] at hlt3; simp at hlt3
       have hxa := HGX.out hne
       subst hxa
       have hgl2 : g < w3.heap.size := by
        obtain ⟨x, hx⟩ : ∃ x, xs[0]? = some x := ⟨_, List.getElem?_eq_getElem (by rw [<- HNX.out]; omega)⟩
        have := HGT.out ⟨g, 0, x⟩ (List.mem_of_getElem? (i := 0) (by rw [thsOf_get, hx]; rfl))
        exact this.lt
       have hownD : wr.drew.ownsRow w3.heap.size 211 1 (.slice ra i rc) i (ptrCells ((thsOf g 0 xs).take i)) := own_same J.out.2.2 (fun _ _ => rfl)
       have hi63 : i + 1 <= 1048576 := by omega
       obtain ⟨ua, uc, w5, hrun, hrow5, hkp5, hblk5, hsz5⟩ := app_ptr hownD (.pointer (some ⟨g, i * 5, none⟩)) rfl hi63 J.out.1.size
       have hbD : Blk wr.drew w3.heap.size [.int .i64 place, .int .u64 hn0, .slice ra i rc] 206 := J.out.2.1
       have c2a := hbD.cell (i := 2) rfl
       have c2b : (wr.alloc (.cells #[.pointer (some ⟨g, i * 5, none⟩)] 211)).drew.cell? ⟨w3.heap.size, 2, none⟩ = some (.slice ra i rc) := (hbD.alloc (.cells #[.pointer (some ⟨g, i * 5, none⟩)] 211)).cell (i := 2) rfl
       have hb5 : Blk w5 w3.heap.size [.int .i64 place, .int .u64 hn0, .slice ra i rc] 206 := hbD.same (hkp5.block _ hbD.lt (own_notin hownD hbD (by decide)))
       have c2c := hb5.cell (i := 2) rfl
       have f2c := hb5.frozen 2
       obtain ⟨t, ht⟩ : ∃ t, xs[i]? = some t := ⟨_, List.getElem?_eq_getElem (by rw [<- HNX.out]; exact hlt3)⟩
       have ET : Hid ((thsOf g 0 xs).take (i + 1) = (thsOf g 0 xs).take i ++ [⟨g, i * 5, t⟩]) := by
        show _ = _
        rw [List.take_add_one, thsOf_get, ht, Nat.zero_add]; rfl
       have T5 : Hid (Below w3.heap.size w3 (w5.setCell ⟨w3.heap.size, 2, none⟩ (.slice ua (i + 1) uc)) /\ Blk (w5.setCell ⟨w3.heap.size, 2, none⟩ (.slice ua (i + 1) uc)) w3.heap.size [.int .i64 place, .int .u64 hn0, .slice ua (i + 1) uc] 206 /\ (w5.setCell ⟨w3.heap.size, 2, none⟩ (.slice ua (i + 1) uc)).ownsRow w3.heap.size 211 1 (.slice ua (i + 1) uc) (i + 1) (ptrCells ((thsOf g 0 xs).take (i + 1)))) := by
        have b1 : Below w3.heap.size w3 wr.drew := J.out.1.drew
        have b5 : Below w3.heap.size w3 w5 := b1.trans (hkp5.below (fun q hq => own_base hownD q hq) b1.size)
        refine ⟨b5.trans ((((Keep.refl [w3.heap.size] w5).setCell (.inl (by simp)) _)).below (by simp) b5.size), hb5.set 2 _, ?_⟩
        have e : ptrCells ((thsOf g 0 xs).take (i + 1)) = ptrCells ((thsOf g 0 xs).take i) ++ [.pointer (some ⟨g, i * 5, none⟩)] := by rw [ET.out]; simp [ptrCells, Th.ptr]
        rw [e]
        refine own_same hrow5 (fun q hq => blk_setCell_other _ _ _ _ ?_)
        obtain ⟨c, hc⟩ := own_ty hrow5 hq
        exact ty_ne hc hb5 (by decide)
       have hrun' : ∀ ty, (Builtin.append_ #[199, 199] ty #[.slice ra i rc, .slice (some ⟨wr.heap.size, 0, none⟩) 1 1]).run Tryz.prog (wr.alloc (.cells #[.pointer (some ⟨g, i * 5, none⟩)] 211)).drew = .ok (.slice ua (i + 1) uc) w5 := hrun
       have HRUN := hide hrun'
       have hr63 := hrun' 199
       clear hownD hrun hrun' hrow5 hkp5 hblk5 hsz5 hbD hb5 ht ET hi63
       obtain ⟨W6, hW6⟩ : ∃ W6, w5.setCell ⟨w3.heap.size, 2, none⟩ (.slice ua (i + 1) uc) = W6 := ⟨_, rfl⟩
       rw [hW6] at T5
       obtain ⟨CC3, hCC3⟩ : ∃ CC3 : Nat -> World -> Prop, CC3 = fun s w' => match s with
        | 0 => w' = wr.drew
        | 1 => w' = (wr.alloc (.cells #[.pointer (some ⟨g, i * 5, none⟩)] 211)).drew
        | 2 => w' = w5
        | _ => w' = W6 := ⟨_, rfl⟩
       have DR3 : Hid (CC3 0 wr.drew) := by show CC3 0 _; rw [hCC3]; exact (rfl : wr.drew = wr.drew)
       have cS3 : Hid (∀ s w', CC3 s w' -> s <= 1 -> w'.cell? ⟨w3.heap.size, 2, none⟩ = some (.slice ra i rc)) := fun s w' hw hs => by
        rw [hCC3] at hw
        match s, hs with
        | 0, _ => simp only at hw; subst hw; exact c2a
        | 1, _ => simp only at hw; subst hw; exact c2b
       have cA3 : Hid (∀ w', CC3 0 w' -> CC3 1 (w'.alloc (.cells #[.pointer (some ⟨g, i * 5, none⟩)] 211)) /\ w'.heap.size = wr.heap.size) := fun w' hw => by
        rw [hCC3] at hw ⊢
        simp only at hw ⊢
        subst hw
        refine ⟨?_, ?_⟩ <;> first | rfl | trivial
       have cB3 : Hid (∀ w', CC3 1 w' -> CC3 2 w5 /\ (Builtin.append_ #[199, 199] 199 #[.slice ra i rc, .slice (some ⟨wr.heap.size, 0, none⟩) 1 1]).run Tryz.prog w' = .ok (.slice ua (i + 1) uc) w5) := fun w' hw => by
        rw [hCC3] at hw ⊢
        simp only at hw ⊢
        subst hw
        refine ⟨?_, hr63⟩
        first | rfl | trivial
       have cD3 : Hid (∀ w', CC3 2 w' -> CC3 3 (w'.setCell ⟨w3.heap.size, 2, none⟩ (.slice ua (i + 1) uc)) /\ w'.cell? ⟨w3.heap.size, 2, none⟩ = some (.slice ra i rc) /\ w'.frozen? ⟨w3.heap.size, 2, none⟩ = false) := fun w' hw => by
        rw [hCC3] at hw ⊢
        simp only at hw ⊢
        subst hw
        refine ⟨?_, c2c, f2c⟩
        exact hW6
       have HE3 : Hid (∀ w', CC3 3 w' -> w' = W6) := fun w' hw => by rw [hCC3] at hw; exact hw
       clear hCC3 hW6 c2a c2b c2c f2c hr63 HRUN
       go_wp2_with fail
       refine wp_region_chain (by kernel_rfl) (by kernel_rfl) (fun jx => ([.pointer (some ⟨w3.heap.size, 2, none⟩), .slice ra i rc, .slice (some ⟨g, 0, none⟩) nx xc, .int .i64 (i : Int), .pointer (some ⟨g, i * 5, none⟩), .slice (some ⟨wr.heap.size, 0, none⟩) 1 1, .slice ua (i + 1) uc, .pointer (some ⟨w3.heap.size, 2, none⟩), undef] : List Value).getD jx undef) [5, 6, 8] (by kernel_rfl) (CC3) (DR3.out) ?_ ?_
       ·intro jx ox hi sx w' ev hlm hks hc hin hout hcst hfn
        have hltx : jx < 9 := by
         have := (Array.getElem?_eq_some_iff.1 hi).1
         simpa using this
        match jx, hltx with
        | 0, _ =>
         cases hi
         have e0 : ev (.tmp 14) = .pointer (some ⟨w3.heap.size, 0, none⟩) := hout 14
         rw [if_neg (by decide)]
         refine .inl ⟨w', ?_, hc⟩
         simp [execOp, e0, hcst, go_sem]
        | 1, _ =>
         cases hi
         have e0 : ev (.tmp 79) = .pointer (some ⟨w3.heap.size, 2, none⟩) := hin 79 0 ⟨0, .data⟩
         rw [if_neg (by decide)]
         refine .inl ⟨w', ?_, hc⟩
         show _ = Result.ok (Next.value (.slice ra i rc)) w'
         have hl2 : sx <= 1 := Nat.le_trans hlm (Nat.le_of_eq (by kernel_rfl))
         have q := cS3.out sx w' hc (by omega)
         simp [execOp, e0, q, hcst, go_sem]
        | 2, _ =>
         cases hi
         have e0 : ev (.tmp 12) = .slice (some ⟨g, 0, none⟩) nx xc := hout 12
         rw [if_neg (by decide)]
         refine .inl ⟨w', ?_, hc⟩
         simp [execOp, e0, hcst, go_sem]
        | 3, _ =>
         cases hi
         have e0 : ev (.tmp 15) = .int .i64 (i : Int) := hout 15
         rw [if_neg (by decide)]
         refine .inl ⟨w', ?_, hc⟩
         simp [execOp, e0, hcst, go_sem]
        | 4, _ =>
         cases hi
         have e0 : ev (.tmp 81) = .slice (some ⟨g, 0, none⟩) nx xc := hin 81 2 ⟨2, .data⟩
         have e1 : ev (.tmp 82) = .int .i64 (i : Int) := hin 82 3 ⟨3, .data⟩
         rw [if_neg (by decide)]
         refine .inl ⟨w', ?_, hc⟩
         simp [execOp, e0, e1, hcst, go_sem, hlt4]
        | 5, _ =>
         cases hi
         have e0 : ev (.tmp 83) = .pointer (some ⟨g, i * 5, none⟩) := hin 83 4 ⟨4, .data⟩
         rw [if_pos (by decide)]
         have hsx : sx = 0 := hks 0 rfl
         subst hsx
         have q := cA3.out w' hc
         refine .inl ⟨_, ?_, q.1⟩
         have hsz := q.2
         simp [execOp, e0, hcst, go_sem, hsz]
        | 6, _ =>
         cases hi
         have e0 : ev (.tmp 80) = .slice ra i rc := hin 80 1 ⟨1, .data⟩
         have e1 : ev (.tmp 84) = .slice (some ⟨wr.heap.size, 0, none⟩) 1 1 := hin 84 5 ⟨5, .data⟩
         rw [if_pos (by decide)]
         have hsx : sx = 1 := hks 1 rfl
         subst hsx
         have q := cB3.out w' hc
         refine .inl ⟨_, ?_, q.1⟩
         have hrn := q.2
         simp [execOp, e0, e1, hcst, resolve, invoke, builtin, Result.andThen, hrn]
        | 7, _ =>
         cases hi
         have e0 : ev (.tmp 14) = .pointer (some ⟨w3.heap.size, 0, none⟩) := hout 14
         rw [if_neg (by decide)]
         refine .inl ⟨w', ?_, hc⟩
         simp [execOp, e0, hcst, go_sem]
        | 8, _ =>
         cases hi
         have e0 : ev (.tmp 86) = .pointer (some ⟨w3.heap.size, 2, none⟩) := hin 86 7 ⟨7, .data⟩
         have e1 : ev (.tmp 85) = .slice ua (i + 1) uc := hin 85 6 ⟨6, .data⟩
         rw [if_pos (by decide)]
         have hsx : sx = 2 := hks 2 rfl
         subst hsx
         have q := cD3.out w' hc
         refine .inr (.inl ⟨rfl, _, ?_, q.1⟩)
         have q1 := q.2.1
         have q2 := q.2.2
         simp [execOp, e0, e1, hcst, go_sem, q1, q2]
       ·intro w9 hc
        simp only [lexF, Act.put, List.setIfInBounds_toArray, List.set_cons_succ, List.set_cons_zero, List.getD_cons_succ, List.getD_cons_zero]
        obtain rfl := HE3.out w9 hc
        clear hc DR3 cS3 cA3 cB3 cD3 HE3
        go_wp2
        go_roundg (nx - (i + 1))
        case measure => omega
        case rel => exact ⟨i + 1, ua, uc, rfl, by omega, by omega, T5.out⟩
      ·obtain rfl : i = nx := by omega
       have hlt4 : ¬ (i : Int) < (i : Int) := by omega
       have RQ := R3.out.below HF.out J.out.1
       have hLg := RQ.lg
       obtain ⟨a5, c5, rfl⟩ := own_slice hLg.sld
       have hbD : Blk wr.drew w3.heap.size [.int .i64 place, .int .u64 hn0, .slice ra i rc] 206 := J.out.2.1
       have hLgD : LgIn wr.drew l d m (.slice a5 T.regs.length c5) v6 v7 { T with num := maxNum T.num (forms S.cs base 4) } := hLg.heap rfl
       have hsldD := hLgD.sld
       obtain ⟨ua, uc, w5, hrun, hrow5, hkp5, hblk5, hsz5⟩ := app_rg hsldD (.int .i64 (place : Int)) (.int .u64 (hn0 : Int)) (.slice ra i rc) rfl rfl rfl (by have := HRL.out; simp only; omega) (Nat.zero_le _)
       have hnl : (thsOf g 0 xs).take i = thsOf g 0 xs := by rw [HNX.out, <- thsOf_length g xs 0, List.take_length]
       have hthl : (thsOf g 0 xs).length = i := by rw [thsOf_length, <- HNX.out]
       have hptr := J.out.2.2
       rw [hnl] at hptr
       have cS0 : wr.drew.cell? ⟨l, 5, none⟩ = some (.slice a5 T.regs.length c5) := hLgD.box.cell (i := 5) rfl
       have cS1 : (wr.alloc (.cells #[.int .i64 (place : Int), .int .u64 (hn0 : Int), .slice ra i rc] 206)).drew.cell? ⟨l, 5, none⟩ = some (.slice a5 T.regs.length c5) := (hLgD.box.alloc (.cells #[.int .i64 (place : Int), .int .u64 (hn0 : Int), .slice ra i rc] 206)).cell (i := 5) rfl
       have cT0 : ∀ j v, [Value.int .i64 (place : Int), .int .u64 (hn0 : Int), .slice ra i rc][j]? = some v -> wr.drew.cell? ⟨w3.heap.size, j, none⟩ = some v /\ (wr.alloc (.cells #[.int .i64 (place : Int), .int .u64 (hn0 : Int), .slice ra i rc] 206)).drew.cell? ⟨w3.heap.size, j, none⟩ = some v := fun j v hj => ⟨hbD.cell hj, (hbD.alloc (.cells #[.int .i64 (place : Int), .int .u64 (hn0 : Int), .slice ra i rc] 206)).cell hj⟩
       have hb5 : Blk w5 l (lgCells d m (.slice a5 T.regs.length c5) v6 v7 { T with num := maxNum T.num (forms S.cs base 4) }) 202 := hLgD.box.same (hkp5.block l hLgD.box.lt (own_notin hsldD hLgD.box (by decide)))
       have c5c := hb5.cell (i := 5) rfl
       have f5c := hb5.frozen 5
       have hr62 : (Builtin.append_ #[198, 198] 198 #[.slice a5 T.regs.length c5, .slice (some ⟨wr.heap.size, 0, none⟩) 1 1]).run Tryz.prog (wr.alloc (.cells #[.int .i64 (place : Int), .int .u64 (hn0 : Int), .slice ra i rc] 206)).drew = .ok (.slice ua (T.regs.length + 1) uc) w5 := hrun 198
       have hw3 : w.heap.size <= w3.heap.size := R3.out.keep.size
       have TT : Hid (ReadPost w l d m (.slice a5 T.regs.length c5) v6 v7 T S F place (.returned (.tuple #[])) (w5.setCell ⟨l, 5, none⟩ (.slice ua (T.regs.length + 1) uc))) := by
        obtain ⟨S1, hS1, hS2⟩ := RQ.dev
        have hS2d : DvAt wr.drew d F S1 := hS2.same (fun _ _ => rfl)
        have hthD : ∀ t ∈ thsOf g 0 xs, ThAt wr.drew t := fun t ht => (HGT.out t ht).same (J.out.1.block _ (HGT.out t ht).lt)
        have hap : ∀ q, (Value.slice ra i rc).ownBlock = some q -> v6.ownBlock ≠ some q := fun q hq hq6 => by
         have h1 := own_base J.out.2.2 q (mem_own.2 hq)
         have h2 := own_lt HT.out.opn q (mem_own.2 hq6)
         omega
        have hfin := add_region (r := ⟨place, hn0, .slice ra i rc, thsOf g 0 xs⟩) hLgD (by rw [hthl]; exact own_zero (own_same hptr (fun _ _ => rfl))) hthD hap (v5' := .slice ua (T.regs.length + 1) uc) (W2 := w5) hrow5 hkp5
        have k1 : Keep (l :: F) w wr.drew := RQ.keep.drew
        have k2 : Keep (l :: (own (.slice a5 T.regs.length c5) ++ F)) w wr.drew := k1.mono (fun q hq => .inl (by simp only [List.mem_cons, List.mem_append] at hq ⊢; rcases hq with h | h <;> simp [h]))
        have k3 := k2.trans hkp5 (fun q hq => .inl (by simp [hq]))
        refine ⟨rfl, S1, hS1, ?_, .inr ⟨hn0, xs, .slice ua (T.regs.length + 1) uc, ⟨place, hn0, .slice ra i rc, thsOf g 0 xs⟩, ?_, rfl, rfl, thsOf_it g xs 0, fun t ht => ?_, thsOf_nodup g xs 0, fun q hq => by
         have h1 := own_base J.out.2.2 q hq
         omega, ?_, k3.setCell (.inl (by simp)) _, fun q hq => ?_⟩⟩
        ·refine hS2d.same (fun q hq => ?_)
         obtain ⟨c, e, hc, he⟩ := hS2d.kinds q hq
         have h1 : q ∉ own (.slice a5 T.regs.length c5) := own_notin hsldD hc (by rcases he with rfl | rfl | rfl <;> decide)
         have h2 : q ≠ l := ty_ne hc hLgD.box (by rcases he with rfl | rfl | rfl <;> decide)
         exact (blk_setCell_other w5 ⟨l, 5, none⟩ _ q h2).trans (hkp5.block q (hS2d.lt q hq) h1)
        ·rw [<- HB.out, E.out, HH.out]
        ·have h1 := (thsOf_mem g xs 0 t ht).1
         have hne : xs ≠ [] := fun h => by rw [h] at ht; simp [thsOf] at ht
         have h2 := HGW.out hne
         have h3 := R2.out.keep.size
         omega
        ·rw [<- HB.out]
         exact hfin
        ·rcases hblk5 q hq with h1 | h1
         ·exact .inl h1
         ·have h2 := RQ.keep.size
          have h3 : wr.heap.size <= q := h1
          exact .inr (Nat.le_trans h2 h3)
       obtain ⟨W6, hW6⟩ : ∃ W6, w5.setCell ⟨l, 5, none⟩ (.slice ua (T.regs.length + 1) uc) = W6 := ⟨_, rfl⟩
       rw [hW6] at TT
       clear hrun hrow5 hkp5 hblk5 hsz5 hbD hLgD hsldD hLg RQ hptr hnl hthl hb5
       generalize T.regs.length = n5 at *
       obtain ⟨CC3, hCC3⟩ : ∃ CC3 : Nat -> World -> Prop, CC3 = fun s w' => match s with
        | 0 => w' = wr.drew
        | 1 => w' = (wr.alloc (.cells #[.int .i64 (place : Int), .int .u64 (hn0 : Int), .slice ra i rc] 206)).drew
        | 2 => w' = w5
        | _ => w' = W6 := ⟨_, rfl⟩
       have DR3 : Hid (CC3 0 wr.drew) := by show CC3 0 _; rw [hCC3]; exact (rfl : wr.drew = wr.drew)
       have cS3 : Hid (∀ s w', CC3 s w' -> s <= 1 -> w'.cell? ⟨l, 5, none⟩ = some (.slice a5 n5 c5) /\ w'.cell? ⟨w3.heap.size, 0, none⟩ = some (.int .i64 (place : Int)) /\ w'.cell? ⟨w3.heap.size, 1, none⟩ = some (.int .u64 (hn0 : Int)) /\ w'.cell? ⟨w3.heap.size, 2, none⟩ = some (.slice ra i rc)) := fun s w' hw hs => by
        rw [hCC3] at hw
        match s, hs with
        | 0, _ => simp only at hw; subst hw; exact ⟨cS0, (cT0 0 _ rfl).1, (cT0 1 _ rfl).1, (cT0 2 _ rfl).1⟩
        | 1, _ => simp only at hw; subst hw; exact ⟨cS1, (cT0 0 _ rfl).2, (cT0 1 _ rfl).2, (cT0 2 _ rfl).2⟩
       have cA3 : Hid (∀ w', CC3 0 w' -> CC3 1 (w'.alloc (.cells #[.int .i64 (place : Int), .int .u64 (hn0 : Int), .slice ra i rc] 206)) /\ w'.heap.size = wr.heap.size) := fun w' hw => by
        rw [hCC3] at hw ⊢
        simp only at hw ⊢
        subst hw
        refine ⟨?_, ?_⟩ <;> first | rfl | trivial
       have cB3 : Hid (∀ w', CC3 1 w' -> CC3 2 w5 /\ (Builtin.append_ #[198, 198] 198 #[.slice a5 n5 c5, .slice (some ⟨wr.heap.size, 0, none⟩) 1 1]).run Tryz.prog w' = .ok (.slice ua (n5 + 1) uc) w5) := fun w' hw => by
        rw [hCC3] at hw ⊢
        simp only at hw ⊢
        subst hw
        refine ⟨?_, hr62⟩
        first | rfl | trivial
       have cD3 : Hid (∀ w', CC3 2 w' -> CC3 3 (w'.setCell ⟨l, 5, none⟩ (.slice ua (n5 + 1) uc)) /\ w'.cell? ⟨l, 5, none⟩ = some (.slice a5 n5 c5) /\ w'.frozen? ⟨l, 5, none⟩ = false) := fun w' hw => by
        rw [hCC3] at hw ⊢
        simp only at hw ⊢
        subst hw
        refine ⟨?_, c5c, f5c⟩
        exact hW6
       have HE3 : Hid (∀ w', CC3 3 w' -> w' = W6) := fun w' hw => by rw [hCC3] at hw; exact hw
       clear hCC3 hW6 cS0 cS1 cT0 c5c f5c hr62
       go_wp2_with fail
       refine wp_region_chain (by kernel_rfl) (by kernel_rfl) (fun jx => ([.pointer (some ⟨l, 0, none⟩), .pointer (some ⟨l, 0, none⟩), .pointer (some ⟨l, 0, none⟩), .pointer (some ⟨l, 5, none⟩), .slice a5 n5 c5, .agg #[.int .i64 (place : Int), .int .u64 (hn0 : Int), .slice ra i rc], .slice (some ⟨wr.heap.size, 0, none⟩) 1 1, .slice ua (n5 + 1) uc, .pointer (some ⟨l, 0, none⟩), .pointer (some ⟨l, 5, none⟩), undef] : List Value).getD jx undef) [6, 7, 10] (by kernel_rfl) (CC3) (DR3.out) ?_ ?_
       ·intro jx ox hi sx w' ev hlm hks hc hin hout hcst hfn
        have hltx : jx < 11 := by
         have := (Array.getElem?_eq_some_iff.1 hi).1
         simpa using this
        match jx, hltx with
        | 0, _ =>
         cases hi
         have e0 : ev (.tmp 0) = .pointer (some ⟨l, 0, none⟩) := hout 0
         rw [if_neg (by decide)]
         refine .inl ⟨w', ?_, hc⟩
         simp [execOp, e0, hcst, go_sem]
        | 1, _ =>
         cases hi
         have e0 : ev (.tmp 0) = .pointer (some ⟨l, 0, none⟩) := hout 0
         rw [if_neg (by decide)]
         refine .inl ⟨w', ?_, hc⟩
         simp [execOp, e0, hcst, go_sem]
        | 2, _ =>
         cases hi
         have e0 : ev (.tmp 89) = .pointer (some ⟨l, 0, none⟩) := hin 89 1 ⟨1, .data⟩
         rw [if_neg (by decide)]
         refine .inl ⟨w', ?_, hc⟩
         simp [execOp, e0, hcst, go_sem]
        | 3, _ =>
         cases hi
         have e0 : ev (.tmp 90) = .pointer (some ⟨l, 0, none⟩) := hin 90 2 ⟨2, .data⟩
         rw [if_neg (by decide)]
         refine .inl ⟨w', ?_, hc⟩
         simp [execOp, e0, hcst, go_sem]
        | 4, _ =>
         cases hi
         have e0 : ev (.tmp 91) = .pointer (some ⟨l, 5, none⟩) := hin 91 3 ⟨3, .data⟩
         rw [if_neg (by decide)]
         refine .inl ⟨w', ?_, hc⟩
         show _ = Result.ok (Next.value (.slice a5 n5 c5)) w'
         have hl2 : sx <= 1 := Nat.le_trans hlm (Nat.le_of_eq (by kernel_rfl))
         have q := (cS3.out sx w' hc (by omega)).1
         simp [execOp, e0, q, hcst, go_sem]
        | 5, _ =>
         cases hi
         have e0 : ev (.tmp 14) = .pointer (some ⟨w3.heap.size, 0, none⟩) := hout 14
         rw [if_neg (by decide)]
         refine .inl ⟨w', ?_, hc⟩
         show _ = Result.ok (Next.value (.agg #[.int .i64 (place : Int), .int .u64 (hn0 : Int), .slice ra i rc])) w'
         have hl2 : sx <= 0 := Nat.le_trans hlm (Nat.le_of_eq (by kernel_rfl))
         obtain ⟨_, q0, q1, q2⟩ := cS3.out sx w' hc (by omega)
         simp [execOp, e0, q0, q1, q2, hcst, go_sem]
        | 6, _ =>
         cases hi
         have e0 : ev (.tmp 93) = .agg #[.int .i64 (place : Int), .int .u64 (hn0 : Int), .slice ra i rc] := hin 93 5 ⟨5, .data⟩
         rw [if_pos (by decide)]
         have hsx : sx = 0 := hks 0 rfl
         subst hsx
         have q := cA3.out w' hc
         refine .inl ⟨_, ?_, q.1⟩
         have hsz := q.2
         simp [execOp, e0, hcst, go_sem, hsz]
        | 7, _ =>
         cases hi
         have e0 : ev (.tmp 92) = .slice a5 n5 c5 := hin 92 4 ⟨4, .data⟩
         have e1 : ev (.tmp 94) = .slice (some ⟨wr.heap.size, 0, none⟩) 1 1 := hin 94 6 ⟨6, .data⟩
         rw [if_pos (by decide)]
         have hsx : sx = 1 := hks 1 rfl
         subst hsx
         have q := cB3.out w' hc
         refine .inl ⟨_, ?_, q.1⟩
         have hrn := q.2
         simp [execOp, e0, e1, hcst, resolve, invoke, builtin, Result.andThen, hrn]
        | 8, _ =>
         cases hi
         have e0 : ev (.tmp 88) = .pointer (some ⟨l, 0, none⟩) := hin 88 0 ⟨0, .data⟩
         rw [if_neg (by decide)]
         refine .inl ⟨w', ?_, hc⟩
         simp [execOp, e0, hcst, go_sem]
        | 9, _ =>
         cases hi
         have e0 : ev (.tmp 96) = .pointer (some ⟨l, 0, none⟩) := hin 96 8 ⟨8, .data⟩
         rw [if_neg (by decide)]
         refine .inl ⟨w', ?_, hc⟩
         simp [execOp, e0, hcst, go_sem]
        | 10, _ =>
         cases hi
         have e0 : ev (.tmp 97) = .pointer (some ⟨l, 5, none⟩) := hin 97 9 ⟨9, .data⟩
         have e1 : ev (.tmp 95) = .slice ua (n5 + 1) uc := hin 95 7 ⟨7, .data⟩
         rw [if_pos (by decide)]
         have hsx : sx = 2 := hks 2 rfl
         subst hsx
         have q := cD3.out w' hc
         refine .inr (.inl ⟨rfl, _, ?_, q.1⟩)
         have q1 := q.2.1
         have q2 := q.2.2
         simp [execOp, e0, e1, hcst, go_sem, q1, q2]
       ·intro w9 hc
        simp only [lexF, Act.put, List.setIfInBounds_toArray, List.set_cons_succ, List.set_cons_zero, List.getD_cons_succ, List.getD_cons_zero]
        obtain rfl := HE3.out w9 hc
        clear hc DR3 cS3 cA3 cB3 cD3 HE3
        go_wp2
        go_end0
        exact TT.out
end Go.Proofs.YtcdghalnneilpaaGreat
