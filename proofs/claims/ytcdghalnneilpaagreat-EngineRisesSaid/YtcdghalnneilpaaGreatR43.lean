/- Joined texts. -/
import Derived.Test.YtcdghalnneilpaaGreatR18
set_option linter.unusedVariables false
set_option linter.unusedSimpArgs false
set_option maxRecDepth 8000
set_option maxHeartbeats 8000000
namespace Go.Proofs.YtcdghalnneilpaaGreat
open Go.RowKit Go.Deep Math
structure Opn (w wr : World) (l d m : Nat) (S : Dv) (F : List Nat) (first regions k : Nat) (v5 : Value) (T : Lg) : Prop where
 lg : LgIn wr l d m v5 (.slice none 0 0) (.slice none 0 0) T
 dev : ∃ S', Like S S' /\ DvAt wr d F S'
 keep : Keep F w wr
 num : T.num = numTo S.cs first k
 regs : T.regs.map Rg.three = cnts S.cs first k
 losses : T.losses = S.losses
 first' : T.first = first
 regions' : T.regions = regions
 opn : T.opn = []
 cap : T.cap = 0
 has : T.has = fun _ => none
 row : ∀ q ∈ own v5, w.heap.size <= q
 new : ∀ t ∈ T.all, w.heap.size <= t.blk
 nod : (T.all.map Th.pos).Nodup
 rowR : ∀ r ∈ T.regs, ∀ q ∈ own r.v, w.heap.size <= q
theorem cnts_len (cs : List Cl) (first : Nat) : ∀ k, (cnts cs first k).length <= k
 | 0 => by simp [cnts]
 | k + 1 => by
  have := cnts_len cs first k
  rw [cnts, List.length_append]
  cases cnt cs (first + 4 * k) <;> simp <;> omega
theorem Opn.len {w wr : World} {l d m : Nat} {S : Dv} {F : List Nat} {first regions k : Nat} {v5 : Value} {T : Lg} (h : Opn w wr l d m S F first regions k v5 T) : T.regs.length <= k := by
 have h1 := cnts_len S.cs first k
 rw [<- h.regs, List.length_map] at h1
 exact h1
theorem Opn.step {w wr w' : World} {l d m : Nat} {S S1 : Dv} {F : List Nat} {first regions k : Nat} {v5 : Value} {T : Lg} {e : Ending} (h : Opn w wr l d m S F first regions k v5 T) (hl : w.heap.size <= l) (hS1 : Like S S1) (hR : ReadPost wr l d m v5 (.slice none 0 0) (.slice none 0 0) T S1 F k e w') : e = .returned (.tuple #[]) /\ ∃ v5' T', Opn w w' l d m S F first regions (k + 1) v5' T' := by
 obtain ⟨he, S', hS', hD', hc⟩ := hR
 refine ⟨he, ?_⟩
 obtain rfl := h.first'
 rw [hS1.cs] at hc
 have hsz := h.keep.size
 rcases hc with ⟨hn, hL, hK⟩ | ⟨n, xs, v5', r, hn, h1, h2, h3, h4, h5, hr0, hL, hK, hv⟩
 ·refine ⟨v5, _, hL, ⟨S', hS1.trans hS', hD'⟩, h.keep.trans hK (fun q hq => ?_), ?_, ?_, h.losses, h.first', h.regions', h.opn, h.cap, h.has, h.row, h.new, h.nod, h.rowR⟩
  ·simp only [List.mem_cons] at hq
   rcases hq with rfl | hq
   ·exact .inr hl
   ·exact .inl hq
  ·show maxNum T.num _ = _
   rw [h.num, numTo]
  ·show T.regs.map Rg.three = _
   rw [h.regs, cnts, hn]
   simp
 ·refine ⟨v5', _, hL, ⟨S', hS1.trans hS', hD'⟩, h.keep.trans hK (fun q hq => ?_), ?_, ?_, h.losses, h.first', h.regions', h.opn, h.cap, h.has, fun q hq => ?_, fun t ht => ?_, ?_, fun x hx q hq => ?_⟩
  ·simp only [List.mem_cons, List.mem_append] at hq
   rcases hq with rfl | hq | hq
   ·exact .inr hl
   ·exact .inr (h.row q hq)
   ·exact .inl hq
  ·show maxNum T.num _ = _
   rw [h.num, numTo]
  ·show (T.regs ++ [r]).map Rg.three = _
   rw [List.map_append, h.regs, cnts, hn]
   simp [Rg.three, h1, h2, h3]
  ·rcases hv q hq with h6 | h6
   ·exact h.row q h6
   ·omega
  ·have ht' : t ∈ (T.regs ++ [r]).flatMap Rg.ths ++ T.opn := ht
   rw [h.opn, List.append_nil] at ht'
   obtain ⟨x, hx, hxt⟩ := List.mem_flatMap.1 ht'
   rcases List.mem_append.1 hx with hx | hx
   ·exact h.new t (mem_all_regs hx hxt)
   ·simp only [List.mem_singleton] at hx
    subst hx
    have := h4 t hxt
    omega
  ·show ((((T.regs ++ [r]).flatMap Rg.ths) ++ T.opn).map Th.pos).Nodup
   have hold := h.nod
   unfold Lg.all at hold
   rw [h.opn, List.append_nil] at hold ⊢
   rw [List.flatMap_append, List.map_append, List.nodup_append]
   refine ⟨hold, by simpa using h5, fun a ha b hb => ?_⟩
   obtain ⟨t, ht, rfl⟩ := List.mem_map.1 ha
   obtain ⟨u, hu, rfl⟩ := List.mem_map.1 hb
   have hu' : u ∈ r.ths := by simpa using hu
   have h6 := h4 u hu'
   have h7 := (h.lg.ths t (by unfold Lg.all; rw [h.opn, List.append_nil]; exact ht)).lt
   intro he
   have : t.blk = u.blk := congrArg Prod.fst he
   omega
  ·rcases List.mem_append.1 (show x ∈ T.regs ++ [r] from hx) with h6 | h6
   ·exact h.rowR x h6 q hq
   ·rw [List.mem_singleton.1 h6] at hq
    have := hr0 q hq
    omega
theorem own_len (a : Option Addr) (n c n' c' : Nat) : own (.slice a n c) = own (.slice a n' c') := by cases a <;> rfl
def OpenPost (w : World) (d : Nat) (S : Dv) (F : List Nat) (first regions : Nat) (e : Ending) (w' : World) : Prop :=
 ∃ l m v5 T S', e = .returned (.tuple #[.pointer (some ⟨l, 0, none⟩), .int .i64 0]) /\ LgIn w' l d m v5 (.slice none 0 0) (.slice none 0 0) T /\ Like S S' /\ DvAt w' d F S' /\ Keep F w w' /\
  (∀ q ∈ lfoot l m v5 (.slice none 0 0) (.slice none 0 0), w.heap.size <= q) /\ (∀ t ∈ T.all, w.heap.size <= t.blk) /\ (T.all.map Th.pos).Nodup /\
  T.losses = S.losses /\ T.first = first /\ T.regions = regions /\ T.num = numTo S.cs first regions /\ T.opn = [] /\ T.cap = T.all.length /\ T.has = hasL (fun _ => none) T.all /\ (∀ r ∈ T.regs, ∀ q ∈ own r.v, w.heap.size <= q) /\
  ∃ rs : List Rg, rs.map Rg.three = cnts S.cs first regions /\ T.regs = isort rs
theorem flat_take_len (rs : List Rg) (i : Nat) : ((rs.take i).flatMap Rg.ths).length <= (rs.flatMap Rg.ths).length := by
 have : (rs.flatMap Rg.ths).length = ((rs.take i).flatMap Rg.ths).length + ((rs.drop i).flatMap Rg.ths).length := by
  rw [<- List.length_append, <- List.flatMap_append, List.take_append_drop]
 omega
theorem three_len : ∀ (l : List Rg) (n : Nat), (∀ x ∈ l.map Rg.three, x.2.2.length <= 46) -> l.length <= n -> (l.flatMap Rg.ths).length <= 46 * n
 | [], n, _, _ => by simp
 | r :: l, n, h, hn => by
  have h1 := h r.three (by simp)
  simp only [Rg.three, List.length_map] at h1
  have h2 := three_len l (n - 1) (fun x hx => h x (by simp only [List.map_cons, List.mem_cons]; exact .inr hx)) (by simp at hn; omega)
  simp only [List.length_cons] at hn
  rw [List.flatMap_cons, List.length_append]
  omega
theorem cnts_mem (cs : List Cl) (first : Nat) : ∀ k, ∀ x ∈ cnts cs first k, x.1 < k /\ cnt cs (first + 4 * x.1) = some (x.2.1, x.2.2)
 | 0 => by simp [cnts]
 | k + 1 => by
  intro x hx
  rw [cnts] at hx
  rcases List.mem_append.1 hx with hx | hx
  ·have := cnts_mem cs first k x hx
   exact ⟨by omega, this.2⟩
  ·simp only [Option.mem_toList, Option.map_eq_some_iff] at hx
   obtain ⟨p, hp, rfl⟩ := hx
   exact ⟨by simp, by rw [hp]⟩
theorem open_log {N : Nat} (hSort : SortIs N) {w : World} {d : Nat} {S : Dv} {F : List Nat} (hD : DvAt w d F S) (hoff : S.off = false) (first regions : Nat) (h1 : 1 <= regions) (h64 : regions <= 64) (hin : first + 4 * regions <= S.cs.length) (hN : (cnts S.cs first regions).length <= N) :
  Calls Tryz.prog 106 #[.pointer (some ⟨d, 0, none⟩), .int .i64 first, .int .i64 regions] w (OpenPost w d S F first regions) := by
 have hm := hD.good.many
 have cP := hide (pages_at hD)
 have cO := hide (power_at hD)
 have cL := hide (losses_at hD)
 have O0 : Hid (Opn w ((w.alloc (.map #[] 0)).alloc (.cells #[.pointer (some ⟨d, 0, none⟩), .int .i64 S.losses, .int .i64 first, .int .i64 regions, .int .u64 0, .slice none 0 0, .slice none 0 0, .slice none 0 0, .map (some w.heap.size)] 202)) (w.heap.size + 1) d w.heap.size S F first regions 0 (.slice none 0 0) ⟨S.losses, first, regions, 0, [], [], 0, fun _ => none⟩) := by
  have b : Below w.heap.size w ((w.alloc (.map #[] 0)).alloc (.cells #[.pointer (some ⟨d, 0, none⟩), .int .i64 S.losses, .int .i64 first, .int .i64 regions, .int .u64 0, .slice none 0 0, .slice none 0 0, .slice none 0 0, .map (some w.heap.size)] 202)) := ((Below.refl _ _).alloc (Nat.le_refl _) _).alloc (by rw [nblk_alloc]; omega) _
  exact ⟨new_log w d first regions S.losses, ⟨S, Like.refl S, hD.below b⟩, Keep.of_below b, rfl, rfl, rfl, rfl, rfl, rfl, rfl, rfl, fun q hq => by simp [own, Value.ownBlock] at hq, fun t ht => by simp [Lg.all] at ht, by simp [Lg.all], fun r hr => by simp at hr⟩
 have q1 : ¬ (first : Int) < 0 := by omega
 have q2 : ¬ (regions : Int) < 1 := by omega
 have q3 : ¬ (64 : Int) < (regions : Int) := by omega
 have q4 : ¬ ((S.cs.length : Int) - 4 * (regions : Int)) < (first : Int) := by omega
 have q5 : (S.cs.length : Int) <= 4096 := by omega
 rw [hoff] at cO
 have HOFF := hide hoff
 have HIN := hide hin
 have HN := hide hN
 have HM := hide hm
 have HD := hide hD
 clear hoff hin hN hm hD
 generalize hlen : S.cs.length = len at *
 have HLEN := hide hlen
 clear hlen
 go_enter Tryz.func106, Tryz.ntmps106
 have hmk := run_makeMap (P := Tryz.prog) 200 w
 go_wp2_with (first
  | (go_at_call 46; refine cP.out.mono ?_; rintro e w' ⟨rfl, h1⟩; obtain rfl := h1.symm; clear h1)
  | (go_at_call 101; refine cO.out.mono ?_; rintro e w' ⟨rfl, h1⟩; obtain rfl := h1.symm; clear h1)
  | (go_at_call 48; refine cL.out.mono ?_; rintro e w' ⟨rfl, h1⟩; obtain rfl := h1.symm; clear h1)
  | (go_at_call 154; fail))
 go_loopg [45] regions (fun kx s45 wr => ∃ (k : Nat) (v5 : Value) (T : Lg), s45 = .int .i64 k /\ k <= regions /\ regions - k <= kx /\ Hid (Opn w wr (w.heap.size + 1) d w.heap.size S F first regions k v5 T))
 case atStart => exact ⟨0, _, _, rfl, Nat.zero_le _, by omega, O0.out⟩
 case round =>
  obtain ⟨k, v5, T, rfl, hk, hg, I⟩ := hrel
  by_cases hlt : k < regions
  ·have hlt2 : (k : Int) < (regions : Int) := by omega
   obtain ⟨S1, hS1, hD1⟩ := I.out.dev
   have hle := I.out.len
   have hfs := I.out.first'
   have cR := hide (read_log I.out.lg hD1 (by rw [hS1.off]; exact HOFF.out) k (by omega) (by rw [hfs]; have h1 := HIN.out; have h2 := HM.out; omega) (by rw [hfs, hS1.cs, HLEN.out]; have h1 := HIN.out; omega) (by omega))
   have HS1 := hide hS1
   clear hS1 hD1 hle hfs
   go_wp2_with fail
   refine cR.out.mono ?_
   intro e w2 hpost
   obtain ⟨rfl, v5', T', hO⟩ := I.out.step (by omega) HS1.out hpost
   have HO := hide hO
   clear hpost hO cR
   go_wp2
   go_roundg (regions - (k + 1))
   case measure => omega
   case rel => exact ⟨k + 1, v5', T', rfl, by omega, by omega, HO.out⟩
  ·obtain rfl : k = regions := by omega
   have hlt2 : ¬ (k : Int) < (k : Int) := by omega
   have hL := I.out.lg
   obtain ⟨a5, c5, rfl⟩ := own_slice hL.sld
   have c5c := hL.box.cell (i := 5) rfl
   have hlen5 : T.regs.length <= N := by
    have h1 := HN.out
    rw [<- I.out.regs, List.length_map] at h1
    exact h1
   have hlen64 := I.out.len
   have cS := hide (hSort a5 T.regs.length c5 T.regs wr (fun r hr => by obtain ⟨a, c, h⟩ := own_slice (hL.rows r hr); exact ⟨a, _, c, h⟩) hL.sld hlen5)
   have HL := hide hL
   clear hL hlen5
   obtain ⟨n5, hn5⟩ : ∃ n5, n5 = T.regs.length := ⟨_, rfl⟩
   have HN5 := hide hn5
   rw [<- hn5] at c5c cS hlen64 HL
   clear hn5
   go_wp2_with fail
   refine cS.out.mono ?_
   rintro e w2 ⟨rfl, hrow, hkp⟩
   have hL2 := HL.out.regsTurn (isort_perm T.regs) (by rw [<- HN5.out]; exact hrow) hkp
   obtain ⟨rs, hrs⟩ : ∃ rs, rs = isort T.regs := ⟨_, rfl⟩
   rw [<- hrs] at hL2
   have hrl : rs.length = n5 := by rw [hrs, (isort_perm T.regs).length_eq, HN5.out]
   have hbnd : (rs.flatMap Rg.ths).length <= 46 * 64 := by
    refine three_len rs 64 (fun x hx => ?_) (by omega)
    have hx' : x ∈ T.regs.map Rg.three := by rw [hrs] at hx; exact ((isort_perm T.regs).map Rg.three).mem_iff.1 hx
    rw [I.out.regs] at hx'
    exact (cnt_len (cnts_mem S.cs first k x hx').2).1
   have hopn := I.out.opn
   have hcap0 := I.out.cap
   have hhas0 := I.out.has
   have L0 : Hid (LgIn w2 (w.heap.size + 1) d w.heap.size (.slice a5 n5 c5) (.slice none 0 0) (.slice none 0 0) { T with regs := rs, cap := ((rs.take 0).flatMap Rg.ths).length, has := hasL (fun _ => none) ((rs.take 0).flatMap Rg.ths) } /\ Keep [w.heap.size] w2 w2) := by
    refine ⟨?_, Keep.refl _ _⟩
    have e : ({ T with regs := rs, cap := ((rs.take 0).flatMap Rg.ths).length, has := hasL (fun _ => none) ((rs.take 0).flatMap Rg.ths) } : Lg) = { T with regs := rs } := by
     simp [hasL, hcap0, hhas0]
    rw [e]
    exact hL2
   have c52 := hL2.box.cell (i := 5) rfl
   have HRL := hide hrl
   have HBND := hide hbnd
   have HRS := hide hrs
   have HKP := hide hkp
   clear hL2 hrs hrl hbnd hopn hcap0 hhas0 hrow hkp cS
   go_wp2_with fail
   go_loopg [62] n5 (fun kx s62 wr => ∃ (i : Nat), s62 = .int .i64 i /\ i <= n5 /\ n5 - i <= kx /\ Hid (LgIn wr (w.heap.size + 1) d w.heap.size (.slice a5 n5 c5) (.slice none 0 0) (.slice none 0 0) { T with regs := rs, cap := ((rs.take i).flatMap Rg.ths).length, has := hasL (fun _ => none) ((rs.take i).flatMap Rg.ths) } /\ Keep [w.heap.size] w2 wr))
   case atStart => exact ⟨0, rfl, Nat.zero_le _, by omega, L0.out⟩
   case round =>
    obtain ⟨i, rfl, hi, hg2, J⟩ := hrel
    by_cases hlt3 : i < n5
    ·have hlt4 : (i : Int) < (n5 : Int) := by omega
     obtain ⟨r, hr⟩ : ∃ r, rs[i]? = some r := ⟨_, List.getElem?_eq_getElem (by rw [HRL.out]; exact hlt3)⟩
     have hmem := List.mem_of_getElem? hr
     have hL := J.out.1
     have hsl := hL.sld
     rw [show ({ T with regs := rs, cap := ((rs.take i).flatMap Rg.ths).length, has := hasL (fun _ => none) ((rs.take i).flatMap Rg.ths) } : Lg).regs.length = n5 from HRL.out] at hsl
     obtain ⟨g, c', hv, k0, k1, k2, _, _⟩ := rg_cell hsl hr
     simp only [Value.slice.injEq, true_and] at hv
     obtain ⟨rfl, rfl⟩ := hv
     have hrow := hL.rows r hmem
     obtain ⟨ra, rc, hrv⟩ := own_slice hrow
     rw [hrv] at k2 hrow
     have ET : Hid ((rs.take (i + 1)).flatMap Rg.ths = (rs.take i).flatMap Rg.ths ++ r.ths) := by show _ = _; rw [List.take_add_one, hr]; simp
     have hb2 := flat_take_len rs (i + 1)
     rw [ET.out, List.length_append] at hb2
     have HB2 := hide hb2
     have HROW := hide hrow
     have HMEM := hide hmem
     have HRV := hide hrv
     obtain ⟨rn, hrn⟩ : ∃ rn, rn = r.ths.length := ⟨_, rfl⟩
     have HRN := hide hrn
     have hrn2 : rn <= 2944 := by have := HBND.out; omega
     rw [<- hrn] at k2 HROW HRV
     obtain ⟨pl, hpl⟩ : ∃ pl : Int, pl = (r.place : Int) := ⟨_, rfl⟩
     obtain ⟨nm, hnm⟩ : ∃ nm : Int, nm = (r.num : Int) := ⟨_, rfl⟩
     rw [<- hpl] at k0
     rw [<- hnm] at k1
     have B0 : Hid (∀ o, LgIn (wr.alloc o) (w.heap.size + 1) d w.heap.size (.slice (some ⟨g, 0, none⟩) n5 c5) (.slice none 0 0) (.slice none 0 0) { T with regs := rs, cap := ((rs.take i).flatMap Rg.ths).length, has := hasL (fun _ => none) ((rs.take i).flatMap Rg.ths) } /\ Keep [w.heap.size] w2 (wr.alloc o)) := fun o => ⟨hL.alloc o, J.out.2.alloc o⟩
     clear hL hsl hrow hmem hrv hb2 hr hrn hpl hnm
     go_wp2_with fail
     go_loopg [69] rn (fun kx s69 wr => ∃ (j : Nat), s69 = .int .i64 j /\ j <= rn /\ rn - j <= kx /\ Hid (LgIn wr (w.heap.size + 1) d w.heap.size (.slice (some ⟨g, 0, none⟩) n5 c5) (.slice none 0 0) (.slice none 0 0) { T with regs := rs, cap := ((rs.take i).flatMap Rg.ths).length + j, has := hasL (fun _ => none) ((rs.take i).flatMap Rg.ths ++ r.ths.take j) } /\ Keep [w.heap.size] w2 wr))
     case atStart => exact ⟨0, rfl, Nat.zero_le _, by omega, by rw [List.take_zero, List.append_nil, Nat.add_zero]; exact B0.out _⟩
     case round =>
      obtain ⟨j, rfl, hj, hg3, K⟩ := hrel
      by_cases hlt5 : j < rn
      ·have hlt6 : (j : Int) < (rn : Int) := by omega
       obtain ⟨t, ht⟩ : ∃ t, r.ths[j]? = some t := ⟨_, List.getElem?_eq_getElem (by rw [<- HRN.out]; exact hlt5)⟩
       have hL := K.out.1
       have hrow := hL.rows r HMEM.out
       rw [HRV.out, <- HRN.out] at hrow
       obtain ⟨g2, c2, hv, hc, _, _⟩ := ptr_cell hrow ht
       simp only [Value.slice.injEq, true_and] at hv
       obtain ⟨rfl, rfl⟩ := hv
       have htm : t ∈ ({ T with regs := rs, cap := ((rs.take i).flatMap Rg.ths).length + j, has := hasL (fun _ => none) ((rs.take i).flatMap Rg.ths ++ r.ths.take j) } : Lg).all := mem_all_regs (T := { T with regs := rs, cap := ((rs.take i).flatMap Rg.ths).length + j, has := hasL (fun _ => none) ((rs.take i).flatMap Rg.ths ++ r.ths.take j) }) HMEM.out (List.mem_of_getElem? ht)
       have hLd : LgIn wr.drew (w.heap.size + 1) d w.heap.size (.slice (some ⟨g, 0, none⟩) n5 c5) (.slice none 0 0) (.slice none 0 0) { T with regs := rs, cap := ((rs.take i).flatMap Rg.ths).length + j, has := hasL (fun _ => none) ((rs.take i).flatMap Rg.ths ++ r.ths.take j) } := hL.heap rfl
       have hTA := hLd.ths t htm
       have c8 := hLd.box.cell (i := 8) rfl
       have k0' := hTA.one.c0
       obtain ⟨W2, hupd, hmap, hkp, _⟩ := hLd.map.store t.it.key (Nat.le_trans hTA.key (by decide)) (by have h1 := HB2.out; have h2 := HBND.out; have h3 := HRN.out; simp only; omega) t.pos
       have TT : Hid (LgIn W2 (w.heap.size + 1) d w.heap.size (.slice (some ⟨g, 0, none⟩) n5 c5) (.slice none 0 0) (.slice none 0 0) { T with regs := rs, cap := ((rs.take i).flatMap Rg.ths).length + (j + 1), has := hasL (fun _ => none) ((rs.take i).flatMap Rg.ths ++ r.ths.take (j + 1)) } /\ Keep [w.heap.size] w2 W2) := by
        have h1 := hLd.mapTurn hmap hkp (fun x p hx => by
         by_cases e : x = t.it.key
         ·subst e
          rw [updK_same] at hx
          exact ⟨t, htm, Option.some.inj hx, rfl⟩
         ·rw [updK_other _ _ _ _ e] at hx
          exact hLd.hasAt x p hx)
        refine ⟨?_, K.out.2.drew.trans hkp (fun x hx => .inl hx)⟩
        have e1 : (rs.take i).flatMap Rg.ths ++ r.ths.take (j + 1) = ((rs.take i).flatMap Rg.ths ++ r.ths.take j) ++ [t] := by rw [List.take_add_one, ht, List.append_assoc]; rfl
        rw [e1, hasL_snoc]
        exact h1
       have hupd' : (Instr.mapUpdate 200 (.map (some w.heap.size)) (.string (txt t.it.key)) (.pointer (some ⟨t.blk, t.off, none⟩))).run Tryz.prog wr.drew = .ok () W2 := hupd
       simp only [Th.ptr] at hc
       clear hL hrow hLd hTA hupd hmap hkp htm ht
       go_wp2_with fail
       refine wp_region_last (by kernel_rfl) (by kernel_rfl) (fun jx => ([.pointer (some ⟨w.heap.size + 1, 0, none⟩), .pointer (some ⟨w.heap.size + 1, 0, none⟩), .pointer (some ⟨w.heap.size + 1, 8, none⟩), .map (some w.heap.size), .pointer (some ⟨t.blk, t.off, none⟩), .pointer (some ⟨t.blk, t.off, none⟩), .pointer (some ⟨t.blk, t.off, none⟩), .string (txt t.it.key), .pointer (some ⟨t.blk, t.off, none⟩), undef] : List Value).getD jx undef) 9 (by decide) (by kernel_rfl) (fun w' => w' = wr.drew) (fun w' => w' = W2) (rfl) ?_ ?_
       ·intro jx ox hi w' ev hc hin hout hcst hfn
        have hltx : jx < 10 := by
         have := (Array.getElem?_eq_some_iff.1 hi).1
         simpa using this
        match jx, hltx with
        | 0, _ =>
         cases hi
         have e0 : ev (.tmp 8) = .pointer (some ⟨w.heap.size + 1, 0, none⟩) := hout 8
         rw [if_neg (by decide)]
         refine .inl ⟨w', ?_, hc⟩
         simp [execOp, e0, hcst, go_sem]
        | 1, _ =>
         cases hi
         have e0 : ev (.tmp 73) = .pointer (some ⟨w.heap.size + 1, 0, none⟩) := hin 73 0 ⟨0, .data⟩
         rw [if_neg (by decide)]
         refine .inl ⟨w', ?_, hc⟩
         simp [execOp, e0, hcst, go_sem]
        | 2, _ =>
         cases hi
         have e0 : ev (.tmp 74) = .pointer (some ⟨w.heap.size + 1, 0, none⟩) := hin 74 1 ⟨1, .data⟩
         rw [if_neg (by decide)]
         refine .inl ⟨w', ?_, hc⟩
         simp [execOp, e0, hcst, go_sem]
        | 3, _ =>
         cases hi
         have e0 : ev (.tmp 75) = .pointer (some ⟨w.heap.size + 1, 8, none⟩) := hin 75 2 ⟨2, .data⟩
         rw [if_neg (by decide)]
         refine .inl ⟨w', ?_, hc⟩
         show _ = Result.ok (Next.value (.map (some w.heap.size))) w'
         subst hc
         simp [execOp, e0, c8, hcst, go_sem]
        | 4, _ =>
         cases hi
         have e0 : ev (.tmp 13) = .pointer (some ⟨t.blk, t.off, none⟩) := hout 13
         rw [if_neg (by decide)]
         refine .inl ⟨w', ?_, hc⟩
         simp [execOp, e0, hcst, go_sem]
        | 5, _ =>
         cases hi
         have e0 : ev (.tmp 77) = .pointer (some ⟨t.blk, t.off, none⟩) := hin 77 4 ⟨4, .data⟩
         rw [if_neg (by decide)]
         refine .inl ⟨w', ?_, hc⟩
         simp [execOp, e0, hcst, go_sem]
        | 6, _ =>
         cases hi
         have e0 : ev (.tmp 78) = .pointer (some ⟨t.blk, t.off, none⟩) := hin 78 5 ⟨5, .data⟩
         rw [if_neg (by decide)]
         refine .inl ⟨w', ?_, hc⟩
         simp [execOp, e0, hcst, go_sem]
        | 7, _ =>
         cases hi
         have e0 : ev (.tmp 79) = .pointer (some ⟨t.blk, t.off, none⟩) := hin 79 6 ⟨6, .data⟩
         rw [if_neg (by decide)]
         refine .inl ⟨w', ?_, hc⟩
         show _ = Result.ok (Next.value (.string (txt t.it.key))) w'
         subst hc
         simp [execOp, e0, k0', hcst, go_sem]
        | 8, _ =>
         cases hi
         have e0 : ev (.tmp 13) = .pointer (some ⟨t.blk, t.off, none⟩) := hout 13
         rw [if_neg (by decide)]
         refine .inl ⟨w', ?_, hc⟩
         simp [execOp, e0, hcst, go_sem]
        | 9, _ =>
         cases hi
         have e0 : ev (.tmp 76) = .map (some w.heap.size) := hin 76 3 ⟨3, .data⟩
         have e1 : ev (.tmp 80) = .string (txt t.it.key) := hin 80 7 ⟨7, .data⟩
         have e2 : ev (.tmp 81) = .pointer (some ⟨t.blk, t.off, none⟩) := hin 81 8 ⟨8, .data⟩
         rw [if_pos rfl]
         subst hc
         refine .inr (.inl ⟨rfl, W2, ?_, rfl⟩)
         simp [execOp, e0, e1, e2, hcst, hupd', Result.andThen]
       ·intro w9 hc
        simp only [lexF, Act.put, List.setIfInBounds_toArray, List.set_cons_succ, List.set_cons_zero, List.getD_cons_succ, List.getD_cons_zero]
        obtain rfl := hc
        clear hupd' c8 k0' hc
        go_wp2
        go_roundg (rn - (j + 1))
        case measure => omega
        case rel => exact ⟨j + 1, rfl, by omega, by omega, TT.out⟩
      ·obtain rfl : j = rn := by omega
       have hlt6 : ¬ (j : Int) < (j : Int) := by omega
       have K' := K.out
       rw [HRN.out, List.take_length, <- ET.out, <- List.length_append, <- ET.out] at K'
       have KK := hide K'
       clear K'
       go_wp2
       go_roundg (n5 - (i + 1))
       case measure => omega
       case rel => exact ⟨i + 1, rfl, by omega, by omega, KK.out⟩
    ·obtain rfl : i = n5 := by omega
     have hlt4 : ¬ (i : Int) < (i : Int) := by omega
     have J' := J.out
     have etk : rs.take i = rs := by rw [<- HRL.out]; exact List.take_length
     rw [etk] at J'
     have JJ := hide J'
     clear J'
     go_wp2
     go_ret2
     obtain ⟨S1, hS1, hS2⟩ := I.out.dev
     have hopn := I.out.opn
     have eall : ({ T with regs := rs, cap := (rs.flatMap Rg.ths).length, has := hasL (fun _ => none) (rs.flatMap Rg.ths) } : Lg).all = rs.flatMap Rg.ths := by
      show rs.flatMap Rg.ths ++ T.opn = _
      rw [hopn, List.append_nil]
     have hperm : (rs.flatMap Rg.ths).Perm T.all := by
      unfold Lg.all
      rw [hopn, List.append_nil, HRS.out]
      exact (isort_perm T.regs).flatMap_right _
     have hS2' := hS2.same (w' := w2) (fun q hq => HKP.out.block q (hS2.lt q hq) (fun hm => I.out.lg.off hS2 q (List.mem_append.2 (.inl (by
      have : q ∈ own (.slice a5 T.regs.length c5) := own_len a5 i c5 _ _ ▸ hm
      simp only [lfoot, List.mem_cons, List.mem_append]
      exact .inr (.inr (.inl this))))) hq))
     have hsz2 := HKP.out.size
     have hFlt : ∀ q ∈ F, q < w.heap.size := HD.out.lt
     refine ⟨w.heap.size + 1, w.heap.size, .slice a5 i c5, { T with regs := rs, cap := (rs.flatMap Rg.ths).length, has := hasL (fun _ => none) (rs.flatMap Rg.ths) }, S1, rfl, JJ.out.1, hS1, ?_, ?_, ?_, ?_, ?_, I.out.losses, I.out.first', I.out.regions', I.out.num, hopn, ?_, ?_, fun r hr => I.out.rowR r ((isort_perm T.regs).mem_iff.1 (HRS.out ▸ (show r ∈ rs from hr))), T.regs, I.out.regs, HRS.out⟩
     ·refine hS2'.same (fun q hq => JJ.out.2.block q (hS2'.lt q hq) ?_)
      have := hFlt q hq
      simp only [List.mem_singleton]
      omega
     ·refine (I.out.keep.trans HKP.out (fun q hq => .inr (I.out.row q (own_len a5 i c5 T.regs.length c5 ▸ hq)))).trans JJ.out.2 (fun q hq => .inr ?_)
      simp only [List.mem_singleton] at hq
      omega
     ·intro q hq
      simp only [lfoot, List.mem_cons, List.mem_append] at hq
      rcases hq with rfl | rfl | hq | hq | hq
      ·omega
      ·exact Nat.le_refl _
      ·exact I.out.row q (own_len a5 i c5 T.regs.length c5 ▸ hq)
      ·simp [own, Value.ownBlock] at hq
      ·simp [own, Value.ownBlock] at hq
     ·intro t ht
      rw [eall] at ht
      exact I.out.new t (hperm.mem_iff.1 ht)
     ·rw [eall]
      exact ((hperm.map Th.pos).nodup_iff).2 I.out.nod
     ·rw [eall]
     ·rw [eall]
end Go.Proofs.YtcdghalnneilpaaGreat
