/- Joined texts. -/
import Derived.RangeFuncNested
import Derived.RangeFuncBound
import Derived.RangeFuncCalls
import Derived.RangeFuncLeaves
import Derived.Shelf.Abstract
import Derived.Shelf.RegionOpen
import Derived.OwnWalkIn
import Derived.TacticsInMore
import Derived.LoopNIn
import Derived.LoopIn
import Derived.RegionIn
import Derived.Laws.MakeOwn
import Derived.Test.YtcdghalnneilpaaGreatR18
set_option linter.unusedVariables false
set_option linter.unusedSimpArgs false
set_option maxRecDepth 8000
set_option maxHeartbeats 8000000
namespace Go.Proofs.YtcdghalnneilpaaGreat
open Go.RowKit Go.Deep Math
theorem run_app {w : World} {base : Nat} {v : Value} {xs : List It} (h : Row w base v xs) {b o c : Nat} {ys : List It} (hy : ItsAt w (some ⟨b, o, none⟩) ys.length ys) (hn : xs.length + ys.length <= 1048576) (hb : base <= w.heap.size) :
  ∃ v' w', (∀ ty, (Builtin.append_ #[72, 72] ty #[v, .slice (some ⟨b, o, none⟩) ys.length c]).run Tryz.prog w = .ok v' w') /\ Row w' base v' (xs ++ ys) /\ w.grownBy w' v.ownBlock /\ (v' = .slice none 0 0 ↔ v = .slice none 0 0 /\ ys.length = 0) := by
 obtain ⟨i0, hi0, hp0⟩ := Option.map_eq_some_iff.1 info30
 simp only [Prod.mk.injEq] at hp0
 obtain ⟨hz0, hz1, hz2⟩ := hp0
 obtain ⟨v', w', h1, h2, h3, h4⟩ := run_append_own (P := Tryz.prog) w base 72 0 39 i0 _ 5 56 Tryz.underlying72 hi0 hz0 hz1 hz2 rfl (by decide) v xs.length (itsCells xs) h ⟨b, o, none⟩ ys.length c (itsCells ys) (itsCells_length ys) (its_news hy) (its_one ys) (by unfold maxLen; omega) (by omega) hb
 refine ⟨v', w', fun ty => h1, ?_, h3, h4⟩
 unfold Row
 rw [<- itsCells_append, List.length_append]
 exact h2
theorem delf_nil (key : List UInt8) (B : Nat) (w : World) (hB : w.cell? ⟨B, 0, none⟩ = some (.string (txt key))) :
  Calls Tryz.prog 190 #[.slice none 0 0, .func (.func 191) #[] #[.pointer (some ⟨B, 0, none⟩)]] w fun e w' => e = .returned (.slice none 0 0) /\ Below w.heap.size w w' := by
 have cI := hide (idx_any none 0 0 [] key B (by omega) w ⟨rfl, fun x hx => by simp at hx, fun i x hx => by simp at hx⟩ hB)
 clear hB
 go_enter Tryz.func190, Tryz.ntmps190
 go_wp2_with fail
 refine cI.out.mono ?_
 rintro e w1 ⟨⟨k, rfl, hk⟩, b1⟩
 have hk1 : k = -1 := by
  rcases hk with ⟨h, _⟩ | ⟨i, x, _, h, _⟩
  ·exact h
  ·simp at h
 subst hk1
 have B1 := hide b1
 clear b1 cI hk
 go_wp2
 go_ret
 exact ⟨rfl, B1.out⟩
theorem wo_any (base : Nat) (v : Value) (xs : List It) (key : List UInt8) (w : World) (h : Row w base v xs) (ho : Oks xs) (hn : xs.length <= 1048576) :
  Calls Tryz.prog 159 #[v, .string (txt key)] w fun e w' => ∃ v', e = .returned v' /\ Row w' base v' (xs.filter (notKey key)) /\ Keep v.ownBlock.toList w w' /\ v'.ownBlock = v.ownBlock := by
 have hbx : (w.alloc (.cells #[.string (txt key)] 9)).cell? ⟨w.heap.size, 0, none⟩ = some (.string (txt key)) := (Blk.new w [.string (txt key)] 9).cell rfl
 rcases h.form with ⟨rfl, rfl⟩ | ⟨g, cap, pad, rfl, hb, hh, hc, hm, hl⟩
 ·have cD := hide (delf_nil key w.heap.size _ hbx)
  clear h ho hbx
  go_enter Tryz.func159, Tryz.ntmps159
  go_wp2_with fail
  refine cD.out.mono ?_
  rintro e w1 ⟨rfl, b1⟩
  have B1 := hide b1
  clear b1 cD
  go_wp2
  go_ret
  exact ⟨.slice none 0 0, rfl, Row.nil _ _, Keep.trans ((Keep.refl _ w).alloc _) (Keep.of_below (F := []) B1.out) (by simp), rfl⟩
 ·obtain ⟨n, hn0⟩ : ∃ n, n = xs.length := ⟨_, rfl⟩
  have hgl := hh.lt
  have cD := hide (delf_any g n cap xs pad key w.heap.size hn0 (by omega) (w.alloc (.cells #[.string (txt key)] 9)) ho (hh.alloc _) (by omega) (by omega) (by unfold maxLen at hm; omega) hbx)
  have HH := hide (And.intro hb (And.intro hm hl))
  have HC := hide (show n <= cap by omega)
  rw [<- hn0]
  have HN := hide hn0
  clear h ho hbx hh hc hm hl hb hn0 hn
  go_enter Tryz.func159, Tryz.ntmps159
  go_wp2_with fail
  refine cD.out.mono ?_
  rintro e w1 ⟨pad', rfl, hb', hl', hk⟩
  have T := hide (And.intro hb' (And.intro hl' hk))
  clear hb' hl' hk cD
  go_wp2
  go_ret
  refine ⟨_, rfl, Row.of HH.out.1 T.out.1 (by have := List.length_filter_le (notKey key) xs; have := HN.out; have := HC.out; omega) HH.out.2.1 (T.out.2.1.trans HH.out.2.2), ?_, rfl⟩
  exact ((Keep.refl _ w).alloc _).trans T.out.2.2 (by simp [Value.ownBlock])
def ovr : List It -> Nat
 | [] => 0
 | x :: r => if 384 < total (x :: r) then ovr r + 1 else 0
theorem ovr_le : ∀ xs, ovr xs <= xs.length
 | [] => Nat.le_refl _
 | x :: r => by
  unfold ovr
  split
  ·have := ovr_le r; simp; omega
  ·omega
theorem ovr_fit : ∀ xs : List It, total (xs.drop (ovr xs)) <= 384
 | [] => by simp [total]
 | x :: r => by
  unfold ovr
  split
  ·exact ovr_fit r
  ·simp only [List.drop_zero]; omega
theorem ovr_go (xs : List It) (k : Nat) (h : 384 < total (xs.drop k)) : ∃ x, xs[k]? = some x /\ xs.drop k = x :: xs.drop (k + 1) /\ ovr (xs.drop k) = ovr (xs.drop (k + 1)) + 1 /\ total (xs.drop k) = x.size + total (xs.drop (k + 1)) := by
 cases hd : xs.drop k with
 | nil => rw [hd] at h; simp [total] at h
 | cons x r =>
  have hk : k < xs.length := by
   rcases Nat.lt_or_ge k xs.length with h1 | h1
   ·exact h1
   ·rw [List.drop_eq_nil_of_le h1] at hd; cases hd
  have e := List.drop_eq_getElem_cons hk
  rw [hd] at e
  injection e with e1 e2
  subst e2
  refine ⟨x, by rw [List.getElem?_eq_getElem hk, e1], rfl, ?_, rfl⟩
  rw [hd] at h
  rw [ovr, if_pos h]
theorem size_it (x : It) (hk : x.key.length <= 140737488351232) (hv : x.value.length <= 140737488351232) (w : World) : Calls Tryz.prog 51 #[.agg #[.string (txt x.key), .string (txt x.value), .int .u32 x.flags, .int .i64 x.exp, .int .u64 x.ver]] w fun r w' => r = .returned (.int .i64 (x.size : Nat)) /\ Below w.heap.size w w' := by
 have := size_any (txt x.key) (txt x.value) x.flags x.exp x.ver (by rw [txt_size]; exact hk) (by rw [txt_size]; exact hv) w
 rw [txt_size, txt_size] at this
 exact this
theorem over_any (a : Option Addr) (n cap : Nat) (xs : List It) (hn63 : n <= 1048576) (ht : total xs <= 1000000) (w : World) (h : ItsAt w a n xs) :
  Calls Tryz.prog 161 #[.slice a n cap] w fun e w' => e = .returned (.int .i64 (ovr xs : Nat)) /\ Below w.heap.size w w' := by
 have H := hide h
 have HT := hide ht
 have cS : Hid (∀ x ∈ xs, ∀ W, Calls Tryz.prog 51 #[.agg #[.string (txt x.key), .string (txt x.value), .int .u32 x.flags, .int .i64 x.exp, .int .u64 x.ver]] W fun r w' => r = .returned (.int .i64 (x.size : Nat)) /\ Below W.heap.size W w') := fun x hx W => size_it x (h.fits x hx).2.1 (h.fits x hx).2.2 W
 clear h ht
 go_enter Tryz.func161, Tryz.ntmps161
 go_wp2_with fail
 go_loopg [3, 9] n (fun kx s3 s9 wr => ∃ i m : Nat, s3 = .int .i64 m /\ s9 = .int .i64 i /\ i <= n /\ n - i <= kx /\ m <= 1000000 /\ Hid (m = total (xs.take i) /\ Below w.heap.size w wr))
 case atStart => exact ⟨0, 0, rfl, rfl, Nat.zero_le _, by omega, by omega, by simp [total], Below.refl _ _⟩
 case round =>
  obtain ⟨i, m, rfl, rfl, hin, hg, hm, I⟩ := hrel
  by_cases hlt : i < n
  ·have hlt2 : (i : Int) < (n : Int) := by omega
   obtain ⟨x, hx⟩ : ∃ x, xs[i]? = some x := ⟨_, List.getElem?_eq_getElem (by rw [<- H.out.len]; exact hlt)⟩
   obtain ⟨b, o, rfl, hb, hc⟩ := H.out.cell i x hx
   obtain ⟨c0, c1, c2, c3, c4⟩ := (hc.below I.out.2 hb).vals
   have hbw : b < wr.heap.size := Nat.lt_of_lt_of_le hb I.out.2.size
   have cs := hide (cS.out x (List.mem_of_getElem? hx))
   have TT := hide (total_take_succ xs i x hx)
   have hsz : m + x.size <= 1000000 := by have h1 := TT.out; have h2 := I.out.1; have h3 := total_take_le xs (i + 1); have := HT.out; omega
   generalize x.size = sz at cs TT hsz
   clear hc hx
   go_wp2_with fail
   refine (cs.out _).mono ?_
   rintro r w1 ⟨rfl, b1⟩
   have B1 := hide ((I.out.2.alloc I.out.2.size (.cells #[.string (txt x.key), .string (txt x.value), .int .u32 x.flags, .int .i64 x.exp, .int .u64 x.ver] 39)).trans (b1.mono (by rw [nblk_alloc]; have := I.out.2.size; omega)))
   clear b1
   go_wp2
   go_roundg (n - (i + 1))
   case measure => omega
   case rel => exact ⟨i + 1, m + sz, by go_num, rfl, by omega, by omega, hsz, by rw [TT.out, I.out.1], B1.out⟩
  ·obtain rfl : i = n := by omega
   have hlt2 : ¬ (i : Int) < (i : Int) := by omega
   have T0 : Hid (m = total xs) := by
    show _ = _
    have := I.out.1
    rw [H.out.len, List.take_length] at this
    exact this
   go_wp2_with fail
   go_loopg [3, 6] i (fun kx s3 s6 wv => ∃ k m : Nat, s3 = .int .i64 m /\ s6 = .int .i64 k /\ k <= i /\ i - k <= kx /\ m <= 1000000 /\ Hid (m = total (xs.drop k) /\ ovr xs = k + ovr (xs.drop k) /\ Below w.heap.size w wv))
   case atStart => exact ⟨0, m, rfl, rfl, Nat.zero_le _, by omega, hm, by simpa using T0.out, by simp, I.out.2⟩
   case round =>
    obtain ⟨k, m', rfl, rfl, hki, hgk, hm', J⟩ := hrel
    by_cases hov : 384 < m'
    ·have hov2 : (384 : Int) < (m' : Int) := by omega
     obtain ⟨x, hx, hd, ho, htt⟩ := ovr_go xs k (by rw [<- J.out.1]; exact hov)
     obtain ⟨b, o, rfl, hb, hc⟩ := H.out.cell k x hx
     obtain ⟨c0, c1, c2, c3, c4⟩ := (hc.below J.out.2.2 hb).vals
     have hbw : b < wr.heap.size := Nat.lt_of_lt_of_le hb J.out.2.2.size
     have cs := hide (cS.out x (List.mem_of_getElem? hx))
     have hkn : k < i := by rw [H.out.len]; exact (List.getElem?_eq_some_iff.1 hx).1
     have hkn2 : (k : Int) < (i : Int) := by omega
     have TT : Hid (ovr (xs.drop k) = ovr (xs.drop (k + 1)) + 1) := ho
     have hms : m' = x.size + total (xs.drop (k + 1)) := by rw [<- htt]; exact J.out.1
     obtain ⟨r, hr⟩ : ∃ r, r = total (xs.drop (k + 1)) := ⟨_, rfl⟩
     rw [<- hr] at hms
     have HR := hide hr
     generalize x.size = sz at cs hms
     have hsub : (m' : Int) - (sz : Int) = (r : Int) := by omega
     have hr6 : r <= 1000000 := by omega
     clear hc hx hd ho htt hr hms
     go_wp2_with fail
     refine (cs.out _).mono ?_
     rintro e w1 ⟨rfl, b1⟩
     have B1 := hide (J.out.2.2.trans (b1.mono J.out.2.2.size))
     clear b1
     go_wp2
     go_roundg (i - (k + 1))
     case measure => omega
     case rel => exact ⟨k + 1, r, by first | rfl | go_num, by go_num, by omega, by omega, hr6, HR.out, by have h1 := J.out.2.1; have h2 := TT.out; omega, B1.out⟩
    ·have hov2 : ¬ (384 : Int) < (m' : Int) := by omega
     have E : Hid (ovr xs = k) := by
      show _ = _
      have h1 := J.out.2.1
      have h2 : ovr (xs.drop k) = 0 := by
       cases hd : xs.drop k with
       | nil => rfl
       | cons x r => rw [ovr, if_neg (by rw [<- hd, <- J.out.1]; exact hov)]
      omega
     go_wp2
     go_ret
     exact ⟨by rw [E.out]; rfl, J.out.2.2⟩
theorem clone_any (b o n cap : Nat) (xs : List It) (hn : n = xs.length) (hn63 : n <= 1048576) (w : World) (h : ItsAt w (some ⟨b, o, none⟩) n xs) :
  Calls Tryz.prog 163 #[.slice (some ⟨b, o, none⟩) n cap] w fun e w' => ∃ v, e = .returned v /\ Row w' w.heap.size v xs /\ Below w.heap.size w w' := by
 have hq : ∀ W : World, (binOp .eql 72 (.slice (some ⟨b, o, none⟩) n cap) (.slice none 0 0)).run Tryz.prog W = .ok (.bool false) W := fun W => Lib.run_eql_slice_nil W 72 39 _ n cap 0 0 Tryz.underlying72
 have hR : Row (w.alloc (.cells #[] 39)) w.heap.size (.slice (some ⟨w.heap.size, 0, none⟩) 0 0) [] := Row.of (pad := []) (Nat.le_refl _) (Blk.new w [] 39) (Nat.le_refl _) (Nat.zero_le _) rfl
 have hI : ItsAt (w.alloc (.cells #[] 39)) (some ⟨b, o, none⟩) xs.length xs := by
  have := h.below ((Below.refl _ w).alloc (Nat.le_refl _) (.cells #[] 39))
  rw [hn] at this
  exact this
 obtain ⟨v', w', h1, h2, h3, h4⟩ := run_app (c := cap) hR hI (by simp; omega) (by simp)
 rw [<- hn] at h1
 have T := hide (And.intro h2 h3)
 have HA := hide (h1 72)
 clear h hn hR hI h1 h2 h3 h4
 go_enter Tryz.func163, Tryz.ntmps163
 go_wp2_with (at_builtin; refine Lib.wpList_append_run _ rfl _ _ _ _ rfl _ _ rfl rfl _ _ HA.out ?_)
 go_ret
 refine ⟨v', rfl, by simpa using T.out.1, ?_⟩
 have k := T.out.2
 refine ⟨k.os, k.tape, k.output, ?_, fun q hq => ?_⟩
 ·have := k.size; simp at this; omega
 ·rw [k.block q (by simp; omega) (by simp [Value.ownBlock]; omega)]
  exact Below.heap_alloc w _ q hq
end Go.Proofs.YtcdghalnneilpaaGreat
namespace Go.Proofs.YtcdghalnneilpaaGreat.Math
def turn1 (h x : Int) : Int := IntKind.u64.wrap (bits .xor .u64 h x * 1099511628211)
def hash (h : Int) (l : List UInt8) : Int := l.foldl (fun h x => turn1 h (x.toNat : Int)) h
theorem hash_append (h : Int) (l m : List UInt8) : hash h (l ++ m) = hash (hash h l) m := by unfold hash; rw [List.foldl_append]
theorem hash_snoc (h : Int) (l : List UInt8) (x : UInt8) : hash h (l ++ [x]) = turn1 (hash h l) (x.toNat : Int) := by rw [hash_append]; rfl
def offset : Int := 14695981039346656037
def second0 : Int := turn1 1099511628211 0
theorem turn1_nonneg (h x : Int) : 0 <= turn1 h x := by unfold turn1; rw [IntKind.wrap_u64]; omega
theorem turn1_lt (h x : Int) : turn1 h x < 18446744073709551616 := by unfold turn1; rw [IntKind.wrap_u64]; omega
theorem hash_range (h : Int) (l : List UInt8) (h0 : 0 <= h) (h1 : h < 18446744073709551616) : 0 <= hash h l /\ hash h l < 18446744073709551616 := by
 induction l generalizing h with
 | nil => exact ⟨h0, h1⟩
 | cons x xs ih => exact ih _ (turn1_nonneg _ _) (turn1_lt _ _)
theorem offset_range : 0 <= offset /\ offset < 18446744073709551616 := by unfold offset; omega
end Go.Proofs.YtcdghalnneilpaaGreat.Math
namespace Go.Proofs.YtcdghalnneilpaaGreat.Bl
open Go.RowKit Math
theorem ret_int {k : IntKind} {a b : Int} (h : a = b) : Ending.returned (.int k a) = .returned (.int k b) := by rw [h]
theorem take_snoc (s : ByteArray) (k : Nat) (h : k < s.size) : s.data.toList.take (k + 1) = s.data.toList.take k ++ [s[k]] := by
 rw [List.take_succ_eq_append_getElem (by simpa using h)]; rfl
theorem turn_any (h x : Int) (w : World) (hx0 : 0 <= x) (hx1 : x <= 255) :
  Calls Tryz.prog 193 #[.int .u64 h, .int .u8 x] w fun e w' => e = .returned (.int .u64 (turn1 h x)) /\ w' = w := by
 go_enter Tryz.func193, Tryz.ntmps193
 go_wp2
 go_ret
 exact ⟨rfl, rfl⟩
theorem fold_any (h : Int) (s : ByteArray) (w : World) (hs : s.size <= maxLen) :
  Calls Tryz.prog 165 #[.int .u64 h, .string s] w fun e w' => e = .returned (.int .u64 (hash h s.data.toList)) /\ w' = w := by
 unfold maxLen at hs
 go_enter Tryz.func165, Tryz.ntmps165
 go_wp2
 go_loop [0, 8] (fun t i => ∃ k : Nat, k <= s.size /\ i = .int .i64 k /\ t = .int .u64 (hash h (s.data.toList.take k))) (fun _ i => s.size - (intOf i).toNat)
 case atStart => exact ⟨0, Nat.zero_le _, rfl, rfl⟩
 case round =>
  obtain ⟨k, hk, rfl, rfl⟩ := hrel
  by_cases hlt : k < s.size
  ·have HS : Hid (hash h (s.data.toList.take (k + 1)) = turn1 (hash h (s.data.toList.take k)) (s[k].toNat : Int)) := by
    unfold Hid; rw [take_snoc s k hlt, hash_snoc]
   have hx0 : (0 : Int) <= (s[k].toNat : Int) := by omega
   have hx1 : (s[k].toNat : Int) <= 255 := by have := s[k].toNat_lt; omega
   go_wp2_with (go_at_call 193; refine (turn_any _ _ _ hx0 hx1).mono ?_; rintro e w' ⟨rfl, rfl⟩)
   go_round
   case rel => exact ⟨k + 1, by omega, by go_num, by rw [HS.out]⟩
   case measure => simp [intOf]; omega
  ·have hk8 : Hid (k = s.size) := by unfold Hid; omega
   go_wp2
   go_ret
   exact ⟨ret_int (by rw [hk8.out, List.take_of_length_le (by simp)]), rfl⟩
theorem hash_any (s : ByteArray) (w : World) (hs : s.size <= maxLen) :
  Calls Tryz.prog 116 #[.string s] w fun e w' => e = .returned (.int .u64 (hash offset s.data.toList)) /\ w' = w := by
 go_enter Tryz.func116, Tryz.ntmps116
 go_wp2_with (go_at_call 165; refine (fold_any _ _ _ hs).mono ?_; rintro e w' ⟨rfl, rfl⟩)
 go_ret
 exact ⟨rfl, rfl⟩
theorem second_any (s : ByteArray) (w : World) (hs : s.size <= maxLen) :
  Calls Tryz.prog 198 #[.string s] w fun e w' => e = .returned (.int .u64 (hash second0 s.data.toList)) /\ w' = w := by
 go_enter Tryz.func198, Tryz.ntmps198
 go_wp2_with (first | (go_at_call 193; refine (turn_any _ _ _ (by decide) (by decide)).mono ?_; rintro e w' ⟨rfl, rfl⟩) | (go_at_call 165; refine (fold_any _ _ _ hs).mono ?_; rintro e w' ⟨rfl, rfl⟩))
 go_ret
 exact ⟨rfl, rfl⟩
end Go.Proofs.YtcdghalnneilpaaGreat.Bl
namespace Go.Proofs.YtcdghalnneilpaaGreat.Bl
open Go.RowKit Go.Shelf Go.Deep Math
attribute [local go_sem] Oper.semAt_some
def at64 (H S : Int) (k : Nat) : Int := (H + (k : Int) * S) % 18446744073709551616
def pl (H S : Int) (n k : Nat) : Nat := (at64 H S k % (n : Int)).toNat
theorem at64_nonneg (H S : Int) (k : Nat) : 0 <= at64 H S k := by unfold at64; omega
theorem at64_zero (H S : Int) (h0 : 0 <= H) (h1 : H < 18446744073709551616) : at64 H S 0 = H := by unfold at64; simp; omega
theorem at64_succ (H S : Int) (k : Nat) : IntKind.u64.wrap (at64 H S k + S) = at64 H S (k + 1) := by
 rw [IntKind.wrap_u64]; unfold at64
 have : ((k + 1 : Nat) : Int) * S = (k : Int) * S + S := by rw [Int.natCast_add, Int.add_mul]; simp
 rw [this]
 generalize (k : Int) * S = z
 omega
theorem pl_lt (H S : Int) (n k : Nat) (hn : 0 < n) : pl H S n k < n := by
 unfold pl
 have h0 := Int.emod_nonneg (at64 H S k) (show (n : Int) ≠ 0 by omega)
 have h1 := Int.emod_lt_of_pos (at64 H S k) (show (0 : Int) < n by omega)
 omega
theorem pl_int (H S : Int) (n k : Nat) (hn : 0 < n) : (at64 H S k).tmod (n : Int) = (pl H S n k : Int) := by
 unfold pl
 rw [Int.tmod_eq_emod_of_nonneg (at64_nonneg H S k)]
 have h0 := Int.emod_nonneg (at64 H S k) (show (n : Int) ≠ 0 by omega)
 omega
def hashK (key : ByteArray) : Int := hash offset key.data.toList
def stepK (key : ByteArray) : Int := bits .or .u64 (hash second0 key.data.toList) 1
theorem hashK_range (key : ByteArray) : 0 <= hashK key /\ hashK key < 18446744073709551616 := hash_range _ _ offset_range.1 offset_range.2
def plF (H S : Int) (n : Nat) (hn : 0 < n) (k : Nat) : Fin n := ⟨pl H S n k, pl_lt H S n k hn⟩
def upto {α : Type} (f : Nat -> α) (k : Nat) : List α := (List.range k).map f
theorem upto_succ {α : Type} (f : Nat -> α) (k : Nat) : upto f (k + 1) = upto f k ++ [f k] := by simp [upto, List.range_succ]
theorem upto_length {α : Type} (f : Nat -> α) (k : Nat) : (upto f k).length = k := by simp [upto]
def KpB (fb f : Nat) (W W' : World) : Prop := W'.cell? ⟨fb, 0, none⟩ = W.cell? ⟨fb, 0, none⟩ /\ W'.cell? ⟨f, 0, none⟩ = W.cell? ⟨f, 0, none⟩
theorem KpB.t {fb f : Nat} {A B C : World} (h : KpB fb f A B) (k : KpB fb f B C) : KpB fb f A C := ⟨k.1.trans h.1, k.2.trans h.2⟩
theorem KpB.of_blocks {fb f : Nat} {W W' : World} (h1 : W'.heap[fb]? = W.heap[fb]?) (h2 : W'.heap[f]? = W.heap[f]?) : KpB fb f W W' := by
 constructor <;> simp [World.cell?, h1, h2]
theorem KpB.b {fb f : Nat} {w : World} (h1 : fb < w.heap.size) (h2 : f < w.heap.size) (W : World) (l : Nat) (o o' : Obj) (hl : w.heap.size <= l) (h : W.heap[l]? = some o) (_ : o.isCells = false) (_ : o.isWalk = false) : KpB fb f W (W.putObj l o') :=
 KpB.of_blocks (World.putObj_heap_other (by omega)) (World.putObj_heap_other (by omega))
set_option maxRecDepth 100000 in
theorem places1_in (m : Nat) (hm : 1 <= m) (l kb fb f s n t : Nat) (key : ByteArray) (hk : key.size <= maxLen) (hn : 0 < n) (hn2 : n <= 65536) (ht : t <= 8) (J Jx : List (Fin n) -> World -> Prop)
  (hJd : ∀ pre W, J pre W -> J pre W.drew)
  (hY : ∀ pre x W, J pre W -> pre.length < t -> YieldAt Fence.wide (m - 1) Tryz.prog l #[.int .i64 ((x : Fin n).val : Int)] W fun e W' =>
   (e = .returned (.bool true) /\ J (pre ++ [x]) W' /\ KpB fb f W W') \/ (e = .returned (.bool false) /\ Jx (pre ++ [x]) W'))
  (W : World) (hkb : W.cell? ⟨kb, 0, none⟩ = some (.string key)) (hfb : W.cell? ⟨fb, 0, none⟩ = some (.pointer (some ⟨f, 0, none⟩)))
  (hf0 : W.cell? ⟨f, 0, none⟩ = some (.slice (some ⟨s, 0, none⟩) n n)) (hf1 : W.cell? ⟨f, 1, none⟩ = some (.int .i64 t)) (h0 : J [] W) :
  CallsIn Fence.wide m Tryz.prog 197 #[.func (.yield l) #[] #[], .pointer (some ⟨kb, 0, none⟩), .pointer (some ⟨fb, 0, none⟩)] W fun e W' => (∃ v, e = .returned v) /\
   ((∃ ys, ys = upto (plF (hashK key) (stepK key) n hn) t /\ J ys W') \/ (∃ pre, (∃ k, k <= t /\ pre = upto (plF (hashK key) (stepK key) n hn) k) /\ Jx pre W')) := by
 have cH : Hid (∀ W : World, CallsIn Fence.wide (m - 1) Tryz.prog 116 #[.string key] W fun e w' => e = .returned (.int .u64 (hashK key)) /\ w' = W) := fun W => callsIn_wide.2 (hash_any key W hk)
 have cS : Hid (∀ W : World, CallsIn Fence.wide (m - 1) Tryz.prog 198 #[.string key] W fun e w' => e = .returned (.int .u64 (hash second0 key.data.toList)) /\ w' = W) := fun W => callsIn_wide.2 (second_any key W hk)
 have hmx : Tryz.prog.follows .mixedOrders = true := by kernel_rfl
 refine callsIn_of_wp Tryz.func197 rfl trivial ?_ rfl
 simp only [Tryz.ntmps197, List.size_toArray, List.length_cons, List.length_nil, Nat.reduceAdd, Nat.reduceSub, Array.replicate_succ, Array.replicate_zero, List.push_toArray, List.append_toArray, List.nil_append, List.cons_append]
 gi_wp2
 gi_region_with_o (refine ⟨trivial, ?_⟩; first | (gi_at_call 116; refine (cH.out _).mono ?_; rintro e w' ⟨rfl, rfl⟩) | (gi_at_call 198; refine (cS.out _).mono ?_; rintro e w' ⟨rfl, rfl⟩))
 all_goals clear cH cS hmx hk
 all_goals gi_wp2
 all_goals
  gi_loopw [4, 15] (fun a i wr => ∃ k : Nat, k <= t /\ i = .int .i64 k /\ a = .int .u64 (at64 (hashK key) (stepK key) k) /\ Hid (J (upto (plF (hashK key) (stepK key) n hn) k) wr) /\ Hid (KpB fb f W wr))
   (fun a i _ => t - (intOf i).toNat)
  case atStart => exact ⟨0, Nat.zero_le _, rfl, by rw [at64_zero (hashK key) _ (hashK_range key).1 (hashK_range key).2], hJd _ _ h0, rfl, rfl⟩
  case round =>
   obtain ⟨k, hk, rfl, rfl, hJs, hK⟩ := hrel
   have hfb' := hK.out.1.trans hfb
   have hf0' := hK.out.2.trans hf0
   by_cases hlt : k < t
   ·obtain ⟨fn, tmps, assign, body, hy, hR⟩ := hY _ (plF (hashK key) (stepK key) n hn k) wr hJs.out (by rw [upto_length]; exact hlt)
    have e1 := pl_int (hashK key) (stepK key) n k hn
    have e2 := at64_succ (hashK key) (stepK key) k
    have e3 : pl (hashK key) (stepK key) n k < n := pl_lt _ _ _ _ hn
    have e4 : IntKind.u64.wrap (n : Int) = (n : Int) := by rw [IntKind.wrap_u64]; omega
    have e5 : IntKind.i64.wrap (pl (hashK key) (stepK key) n k : Int) = (pl (hashK key) (stepK key) n k : Int) := by rw [IntKind.wrap_i64]; omega
    have e6 : IntKind.u64.wrap (pl (hashK key) (stepK key) n k : Int) = (pl (hashK key) (stepK key) n k : Int) := by rw [IntKind.wrap_u64]; omega
    have e7 : ¬ (n : Int) = 0 := by omega
    have hs : IntKind.u64.signed = false := rfl
    dsimp only [plF] at hy
    gi_wp2
    refine hR.mono ?_
    rintro e W3 (⟨rfl, hJ3, hk3⟩ | ⟨rfl, hJx3⟩)
    ·have J3 := hide hJ3
     have K3 := hide (hK.out.t hk3)
     clear hJ3 hk3
     gi_wp2
     go_roundw
     case rel => exact ⟨k + 1, by omega, by simp, by rw [<- e2]; rfl, by rw [upto_succ]; exact J3.out, K3.out⟩
     case measure => simp [intOf]; omega
    ·gi_wp2
     refine bodyPost_ret (results_none rfl _ _ _) rfl ?_
     exact ⟨⟨_, rfl⟩, .inr ⟨_, ⟨k + 1, by omega, (upto_succ _ _).symm⟩, hJx3⟩⟩
   ·obtain rfl : k = t := by omega
    gi_wp2
    go_end0
    exact ⟨⟨_, rfl⟩, .inl ⟨_, rfl, hJs.out⟩⟩
theorem places_stops (m : Nat) (hm : 1 <= m) (kb fb f s n t : Nat) (key : ByteArray) (hk : key.size <= maxLen) (hn : 0 < n) (hn2 : n <= 65536) (ht : t <= 8) (w : World)
  (hkb : w.cell? ⟨kb, 0, none⟩ = some (.string key)) (hfb : w.cell? ⟨fb, 0, none⟩ = some (.pointer (some ⟨f, 0, none⟩)))
  (hf0 : w.cell? ⟨f, 0, none⟩ = some (.slice (some ⟨s, 0, none⟩) n n)) (hf1 : w.cell? ⟨f, 1, none⟩ = some (.int .i64 t)) :
  SeqStopsK Fence.wide m Tryz.prog 197 #[.pointer (some ⟨kb, 0, none⟩), .pointer (some ⟨fb, 0, none⟩)] (fun x : Fin n => #[Value.int .i64 (x.val : Int)]) (KpB fb f)
   (fun ys => ys = upto (plF (hashK key) (stepK key) n hn) t) (fun pre => ∃ k, k <= t /\ pre = upto (plF (hashK key) (stepK key) n hn) k) t w := fun l J Jx W hW hJ hJx hY h0 => by
 refine places1_in m hm l kb fb f s n t key hk hn hn2 ht J Jx ?_ hY W (cell_later hW hkb) (cell_later hW hfb) (cell_later hW hf0) (cell_later hW hf1) h0
 intro pre W1 h1
 exact hJ pre W1 _ none h1 ⟨rfl, rfl, rfl, Nat.le_refl _, fun _ _ _ => rfl⟩ (fun r e => by cases e)
end Go.Proofs.YtcdghalnneilpaaGreat.Bl
namespace Go.Proofs.YtcdghalnneilpaaGreat.Bl
open Go.RowKit Go.Shelf Go.Deep Math
attribute [local go_sem] Oper.semAt_some
structure FltIn (w : World) (f s : Nat) (l : List Bool) (t : Nat) : Prop where
 own : Blk w f [.slice (some ⟨s, 0, none⟩) l.length l.length, .int .i64 t] 250
 row : Blk w s (l.map Value.bool) 4
 ne : f ≠ s
 n8 : 8 <= l.length
 n9 : l.length <= 65536
 t1 : 1 <= t
 t8 : t <= 8
theorem FltIn.same {w w' : World} {f s : Nat} {l : List Bool} {t : Nat} (h : FltIn w f s l t) (h1 : w'.heap[f]? = w.heap[f]?) (h2 : w'.heap[s]? = w.heap[s]?) : FltIn w' f s l t :=
 ⟨h.own.same h1, h.row.same h2, h.ne, h.n8, h.n9, h.t1, h.t8⟩
theorem FltIn.keep {w w' : World} {f s : Nat} {l : List Bool} {t : Nat} (h : FltIn w f s l t) {F : List Nat} (k : Keep F w w') (h1 : f ∉ F) (h2 : s ∉ F) : FltIn w' f s l t :=
 h.same (k.block f h.own.lt h1) (k.block s h.row.lt h2)
theorem FltIn.alloc {w : World} {f s : Nat} {l : List Bool} {t : Nat} (h : FltIn w f s l t) (o : Obj) : FltIn (w.alloc o) f s l t :=
 ⟨h.own.alloc o, h.row.alloc o, h.ne, h.n8, h.n9, h.t1, h.t8⟩
theorem FltIn.below {w w' : World} {f s : Nat} {l : List Bool} {t : Nat} (h : FltIn w f s l t) (k : Below w.heap.size w w') : FltIn w' f s l t :=
 h.same (k.block f h.own.lt) (k.block s h.row.lt)
def setB (l : List Bool) (ps : List Nat) : List Bool := ps.foldl (fun l i => l.set i true) l
theorem setB_snoc (l : List Bool) (ps : List Nat) (i : Nat) : setB l (ps ++ [i]) = (setB l ps).set i true := by simp [setB]
theorem setB_length (l : List Bool) (ps : List Nat) : (setB l ps).length = l.length := by
 induction ps generalizing l with
 | nil => rfl
 | cons x xs ih => show (setB (l.set x true) xs).length = _; rw [ih]; simp
def plc (key : ByteArray) (n t : Nat) : List Nat := upto (pl (hashK key) (stepK key) n) t
theorem FltIn.set {w : World} {f s : Nat} {l : List Bool} {t : Nat} (h : FltIn w f s l t) (i : Nat) : FltIn (w.setCell ⟨s, i, none⟩ (.bool true)) f s (l.set i true) t := by
 refine ⟨?_, ?_, h.ne, by simpa using h.n8, by simpa using h.n9, h.t1, h.t8⟩
 ·rw [List.length_set]; exact h.own.other (a := ⟨s, i, none⟩) h.ne _
 ·have := h.row.set i (.bool true); rw [List.map_set]; exact this
theorem info4 : (Tryz.prog.info? 4).map (fun i => (i.zero, i.size, i.bytes)) = some (some (.bool false), 1, 1) := by kernel_rfl
def boolsA (l : List Bool) : Array Value := (l.map Value.bool).toArray
theorem run_make_bools (n : Nat) (hn : n <= 1000000) (w : World) :
  (Instr.makeSlice 120 (.int .i64 (n : Int)) (.int .i64 (n : Int))).run Tryz.prog w = .ok (.slice (some ⟨w.heap.size, 0, none⟩) n n) (w.alloc (.cells (boolsA (List.replicate n false)) 4)) := by
 unfold boolsA
 obtain ⟨i, hi, hi2⟩ := Option.map_eq_some_iff.1 info4
 simp only [Prod.mk.injEq] at hi2
 obtain ⟨hz0, hz1, hz2⟩ := hi2
 have := run_make (P := Tryz.prog) w 120 4 i (.bool false) Tryz.underlying120 hi hz0 .i64 .i64 (n : Int) (n : Int) (by omega) (by omega) (by rw [hz2]; omega) (by omega)
 rw [this, hz1]
 have e : madeCells (Value.bool false).cells ((n : Int).toNat * 1) = ((List.replicate n false).map Value.bool).toArray := by
  have hc : (Value.bool false).cells = #[.bool false] := rfl
  rw [hc, Int.toNat_natCast, Nat.mul_one]
  unfold madeCells
  apply Array.ext
  ·simp
  ·intro j h1 h2
   simp [Nat.mod_one]
 rw [e, Int.toNat_natCast]
theorem new_ok (n t : Nat) (w : World) (h1 : 8 <= n) (h2 : n <= 65536) (h3 : 1 <= t) (h4 : t <= 8) :
  Calls Tryz.prog 184 #[.int .i64 n, .int .i64 t] w fun e w' => e = .returned (.tuple #[.pointer (some ⟨w.heap.size + 1, 0, none⟩), .int .i64 0]) /\ FltIn w' (w.heap.size + 1) w.heap.size (List.replicate n false) t /\ Below w.heap.size w w' := by
 have e1 : ¬ (n : Int) < 8 := by omega
 have e2 : ¬ (65536 : Int) < (n : Int) := by omega
 have e3 : ¬ (t : Int) < 1 := by omega
 have e4 : ¬ (8 : Int) < (t : Int) := by omega
 have hmk := run_make_bools n (by omega)
 go_enter Tryz.func184, Tryz.ntmps184
 go_wp2
 go_ret2
 refine ⟨rfl, ⟨?_, ?_, by omega, by simpa using h1, by simpa using h2, h3, h4⟩, ((Below.refl _ w).alloc (Nat.le_refl _) _).alloc (by simp) _⟩
 ·have := Blk.new (w.alloc (.cells (boolsA (List.replicate n false)) 4)) [.slice (some ⟨w.heap.size, 0, none⟩) n n, .int .i64 t] 250
  rw [World.size_alloc] at this
  rw [List.length_replicate]
  exact this
 ·exact (Blk.new w ((List.replicate n false).map Value.bool) 4).alloc _
theorem places_any (f : Nat) (key : ByteArray) (w : World) :
  Calls Tryz.prog 176 #[.pointer (some ⟨f, 0, none⟩), .string key] w fun e w' => e = .returned (.func (.func 197) #[] #[.pointer (some ⟨w.heap.size + 1, 0, none⟩), .pointer (some ⟨w.heap.size, 0, none⟩)]) /\
   w' = (w.alloc (.cells #[.pointer (some ⟨f, 0, none⟩)] 207)).alloc (.cells #[.string key] 9) := by
 go_enter Tryz.func176, Tryz.ntmps176
 go_wp2
 go_ret
 exact ⟨rfl, rfl⟩
end Go.Proofs.YtcdghalnneilpaaGreat.Bl
