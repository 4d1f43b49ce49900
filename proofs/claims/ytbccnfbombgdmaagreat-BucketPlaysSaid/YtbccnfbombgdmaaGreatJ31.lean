/- Texts joined: BkH. -/
import Derived.Test.YtbccnfbombgdmaaGreatJ30
/- Put and Drop while the power is armed. -/
set_option linter.unusedVariables false
set_option linter.unusedSimpArgs false
set_option maxRecDepth 8000
namespace Go.Proofs.YtbccnfbombgdmaaGreat
open Go.RowKit Go.Deep Math
variable {w0 W W' : World} {d s : Nat} {F F' : List Nat} {S S' : Dv} {L : Int} {first : Nat} {M : SM}

/-- The power is armed; the next call that writes does not find it gone. -/
structure Armed (S : Dv) : Prop where
  off : S.off = false
  armed : 2 ≤ S.armed
theorem Armed.like {S S' : Dv} (h : Armed S) (k : Like S S') : Armed S' := ⟨k.off.trans h.off, by rw [k.armed]; exact h.armed⟩
theorem Armed.gone {S : Dv} (h : Armed S) : S.gone = false := by
  have := h.armed
  simp [Dv.gone, h.off]
  omega
theorem Armed.used {S : Dv} (h : Armed S) : S.used = { S with armed := S.armed - 1 } := by
  have := h.armed
  unfold Dv.used
  rw [if_neg (by rw [h.off]; simp; omega), if_neg (by omega)]
structure PutA (S S' : Dv) (k : Nat) (ys : List It) : Prop where
  cs : S'.cs = putAt S.cs k (.whole (pgB ys))
  off : S'.off = false
  armed : S'.armed = S.armed - 1
  losses : S'.losses = S.losses
theorem armed_write {S : Dv} (h : Armed S) (q : Nat) (hq : q < S.cs.length) (pg : ByteArray) (hp : pg.size ≤ 384) :
    S.writeErr (q : Int) pg = 0 ∧ S.writeDo (q : Int) pg = { S with cs := putAt S.cs q (.whole pg), wr := wrap64 (S.wr + 1), armed := S.armed - 1 } := by
  have h1 : ¬ 384 < pg.size := by omega
  constructor
  · simp [Dv.writeErr, Dv.putErr, h1, has_nat hq, h.gone]
  · simp [Dv.writeDo, Dv.putDo, h1, has_nat hq, h.gone, h.used]

set_option maxHeartbeats 20000000 in
theorem drop_lost (h : Bk w0 W d F S s L first M) (hL : L = S.losses) (hS : Last S) (hn1 : 0 < M.fs.length) (hn2 : M.fs.length ≤ 256) (hfit : first + M.fs.length ≤ S.cs.length) (key : List UInt8) (hk : key.length ≤ maxLen) (ys : List It) (hys : ys = (S.its (first + bkt key M.fs.length)).filter (notKey key)) :
    Calls Tryz.prog 14 #[.pointer (some ⟨s, 0, none⟩), .string (txt key)] W fun e W' =>
      (ys = S.its (first + bkt key M.fs.length) ∧ e = .returned (.int .i64 5) ∧ ∃ S', Bk w0 W' d F S' s L first M ∧ Like S S' ∧ Keep F W W') ∨
      (ys ≠ S.its (first + bkt key M.fs.length) ∧ e = .returned (.int .i64 4) ∧ ∃ F' S', Bk w0 W' d F' S' s L first M ∧ Lost S S' ∧ Keep F W W' ∧ ∀ k ∈ F', k ∈ F ∨ W.heap.size ≤ k) := by
  have cB := hide (bucket_any h.st key hk hn1 (by omega))
  have hbkl := bkt_lt key M.fs.length hn1
  obtain ⟨bk, hbk⟩ : ∃ bk, bk = bkt key M.fs.length := ⟨_, rfl⟩
  rw [← hbk] at cB hys hbkl ⊢
  have H := hide h
  have HL := hide hL
  have HS := hide hS
  have HFIT := hide (And.intro hfit hbkl)
  obtain ⟨c, hc⟩ : ∃ c, S.cs[first + bk]? = some c := ⟨_, List.getElem?_eq_getElem (by omega)⟩
  have HC := hide hc
  have EI := hide (Dv.its_of hc)
  have hm4 : first + bk < 4096 := by have := h.law.dev.good.many; omega
  obtain ⟨xs, hxs⟩ : ∃ xs, xs = S.its (first + bk) := ⟨_, rfl⟩
  rw [← hxs] at hys ⊢
  have HXG : Hid (total xs ≤ 384 ∧ ∀ z ∈ xs, z.fits ∧ z.good = true) := by rw [hxs]; exact Dv.its_all h.law.dev.good _
  have hxl : xs.length ≤ 12 := by rw [hxs]; exact its_len h.law.dev.good _
  have HXS := hide hxs
  have HYS := hide hys
  have HWS : Hid (∀ q, q ∈ F ∨ q ∈ M.foot s → q < W.heap.size) := fun q hq => by
    rcases hq with hq | hq
    · exact h.law.dev.lt q hq
    · exact h.st.lt q hq
  have hbk6 : bk ≤ 256 := by omega
  clear h hL hS hfit hk hys hbk hc hxs hbkl hn1
  go_enter Tryz.func14, Tryz.ntmps14
  go_wp2_with fail
  refine cB.out.mono ?_
  rintro e w3 ⟨rfl, q3, rfl⟩
  have H3 := hide (H.out.below (below_q2 W q3))
  have cT := hide (list_ok H3.out HL.out HS.out.off bk c HC.out)
  clear cB
  go_wp2_with fail
  refine cT.out.mono ?_
  rintro e W4 ⟨v0, rfl, hr, hb4, k4⟩
  rw [← EI.out, ← HXS.out] at hr
  have hr' : Row W4 W.heap.size v0 xs := hr
  have H4 := hide hb4
  have K4 : Hid (Keep F W W4) := (keep_q (F := F) W q3).trans k4 (fun z hz => .inl hz)
  have HV : Hid (∀ q, v0.ownBlock = some q → W.heap.size ≤ q ∧ q < W4.heap.size) := fun q hq => hr'.lt q hq
  have cW := hide (wo_any W.heap.size v0 xs key W4 hr' (Oks.of_good HXG.out.2) (by omega))
  obtain ⟨va, vc, rfl, _, _, _, _⟩ := hr.its (Oks.of_good HXG.out.2)
  rw [← HYS.out] at cW
  clear hr hb4 k4 cT hr'
  go_wp2_with fail
  refine cW.out.mono ?_
  rintro e w5 ⟨u, rfl, hru, hku, _⟩
  have hyl : ys.length ≤ xs.length := by rw [HYS.out]; exact List.length_filter_le _ _
  have HYG : Hid (∀ z ∈ ys, z.fits ∧ z.good = true) := fun z hz => by rw [HYS.out] at hz; exact HXG.out.2 z (List.mem_filter.1 hz).1
  obtain ⟨ua, uc, rfl, hI, _, _, _⟩ := hru.its (Oks.of_good HYG.out)
  have I5 := hide hI
  have H5 : Hid (Bk w0 w5 d F (S.readDo (first + bk : Nat)) s L first M) := H4.out.keep hku (fun q hq => by
    have hq' := (HV.out q (by simpa using hq)).1
    refine ⟨fun hf => ?_, fun hf => ?_, Nat.le_trans H.out.law.bel.size hq'⟩
    · have := HWS.out q (.inl hf); omega
    · have := HWS.out q (.inr hf); omega)
  have KW5 : Hid (Keep F W w5) := K4.out.trans hku (fun q hq => .inr (HV.out q (by simpa using hq)).1)
  have hlik : Hid (Like S (S.readDo (first + bk : Nat))) := Like.read _ _
  clear hru hku hI cW
  by_cases he : ys.length = xs.length
  · have hE : Hid (ys = xs) := by
      show _ = _
      rw [HYS.out] at he ⊢
      exact List.filter_eq_self.2 (List.length_filter_eq_length_iff.1 he)
    have he2 : (ys.length : Int) = (xs.length : Int) := by omega
    go_wp2
    go_ret
    exact .inl ⟨hE.out, rfl, _, H5.out, hlik.out, KW5.out⟩
  · have hE : Hid (ys ≠ xs) := fun e => he (by rw [e])
    have he2 : ¬ (ys.length : Int) = (xs.length : Int) := by omega
    have htot : total ys ≤ 384 := by rw [HYS.out]; exact Nat.le_trans (total_filter _ _) HXG.out.1
    have cX := hide (write_any H5.out bk (by omega) ua ys.length uc ys (by omega) I5.out (by
      rw [List.all_eq_true]
      intro z hz
      exact (HYG.out z hz).2) htot)
    have hsw := last_write (HS.out.like hlik.out) (first + bk) (by rw [hlik.out.cs]; have := HFIT.out; omega) (pgB ys) (by rw [pgB_size _ htot]; exact Nat.le_refl _)
    rw [hsw.1] at cX
    have HSW : Hid (Lost S ((S.readDo (first + bk : Nat)).writeDo ((first + bk : Nat) : Int) (pgB ys))) := by
      rw [hsw.2]
      exact ⟨hlik.out.cs, rfl, rfl, (by show wrap64 ((S.readDo (first + bk : Nat)).losses + 1) = _; rw [hlik.out.losses])⟩
    obtain ⟨n1, hn1⟩ : ∃ n1, n1 = ys.length := ⟨_, rfl⟩
    obtain ⟨n2, hn2'⟩ : ∃ n2, n2 = xs.length := ⟨_, rfl⟩
    rw [← hn1, ← hn2'] at he2
    rw [← hn1] at cX
    rw [← hn1, ← hn2']
    clear hsw htot he hyl hn1 hn2'
    go_wp2_with fail
    refine cX.out.mono ?_
    rintro e w9 ⟨rfl, F9, hb9, mv9⟩
    have H9 := hide hb9
    have M9 := hide mv9
    clear hb9 mv9 cX
    go_wp2
    go_ret
    refine .inr ⟨hE.out, rfl, F9, _, H9.out, HSW.out, KW5.out.trans M9.out.keep (fun z hz => .inl hz), fun z hz => ?_⟩
    rcases M9.out.foot z hz with h1 | h1
    · exact .inl h1
    · exact .inr (Nat.le_trans KW5.out.size h1)
set_option maxHeartbeats 20000000 in
theorem drop_armed (h : Bk w0 W d F S s L first M) (hL : L = S.losses) (hS : Armed S) (hn1 : 0 < M.fs.length) (hn2 : M.fs.length ≤ 256) (hfit : first + M.fs.length ≤ S.cs.length) (key : List UInt8) (hk : key.length ≤ maxLen) (ys : List It) (hys : ys = (S.its (first + bkt key M.fs.length)).filter (notKey key)) :
    Calls Tryz.prog 14 #[.pointer (some ⟨s, 0, none⟩), .string (txt key)] W fun e W' =>
      (ys = S.its (first + bkt key M.fs.length) ∧ e = .returned (.int .i64 5) ∧ ∃ S', Bk w0 W' d F S' s L first M ∧ Like S S' ∧ Keep F W W') ∨
      (ys ≠ S.its (first + bkt key M.fs.length) ∧ e = .returned (.int .i64 0) ∧ ∃ F' S', Bk w0 W' d F' S' s L first M ∧ PutA S S' (first + bkt key M.fs.length) ys ∧ Keep F W W' ∧ ∀ k ∈ F', k ∈ F ∨ W.heap.size ≤ k) := by
  have cB := hide (bucket_any h.st key hk hn1 (by omega))
  have hbkl := bkt_lt key M.fs.length hn1
  obtain ⟨bk, hbk⟩ : ∃ bk, bk = bkt key M.fs.length := ⟨_, rfl⟩
  rw [← hbk] at cB hys hbkl ⊢
  have H := hide h
  have HL := hide hL
  have HS := hide hS
  have HFIT := hide (And.intro hfit hbkl)
  obtain ⟨c, hc⟩ : ∃ c, S.cs[first + bk]? = some c := ⟨_, List.getElem?_eq_getElem (by omega)⟩
  have HC := hide hc
  have EI := hide (Dv.its_of hc)
  have hm4 : first + bk < 4096 := by have := h.law.dev.good.many; omega
  obtain ⟨xs, hxs⟩ : ∃ xs, xs = S.its (first + bk) := ⟨_, rfl⟩
  rw [← hxs] at hys ⊢
  have HXG : Hid (total xs ≤ 384 ∧ ∀ z ∈ xs, z.fits ∧ z.good = true) := by rw [hxs]; exact Dv.its_all h.law.dev.good _
  have hxl : xs.length ≤ 12 := by rw [hxs]; exact its_len h.law.dev.good _
  have HXS := hide hxs
  have HYS := hide hys
  have HWS : Hid (∀ q, q ∈ F ∨ q ∈ M.foot s → q < W.heap.size) := fun q hq => by
    rcases hq with hq | hq
    · exact h.law.dev.lt q hq
    · exact h.st.lt q hq
  have hbk6 : bk ≤ 256 := by omega
  clear h hL hS hfit hk hys hbk hc hxs hbkl hn1
  go_enter Tryz.func14, Tryz.ntmps14
  go_wp2_with fail
  refine cB.out.mono ?_
  rintro e w3 ⟨rfl, q3, rfl⟩
  have H3 := hide (H.out.below (below_q2 W q3))
  have cT := hide (list_ok H3.out HL.out HS.out.off bk c HC.out)
  clear cB
  go_wp2_with fail
  refine cT.out.mono ?_
  rintro e W4 ⟨v0, rfl, hr, hb4, k4⟩
  rw [← EI.out, ← HXS.out] at hr
  have hr' : Row W4 W.heap.size v0 xs := hr
  have H4 := hide hb4
  have K4 : Hid (Keep F W W4) := (keep_q (F := F) W q3).trans k4 (fun z hz => .inl hz)
  have HV : Hid (∀ q, v0.ownBlock = some q → W.heap.size ≤ q ∧ q < W4.heap.size) := fun q hq => hr'.lt q hq
  have cW := hide (wo_any W.heap.size v0 xs key W4 hr' (Oks.of_good HXG.out.2) (by omega))
  obtain ⟨va, vc, rfl, _, _, _, _⟩ := hr.its (Oks.of_good HXG.out.2)
  rw [← HYS.out] at cW
  clear hr hb4 k4 cT hr'
  go_wp2_with fail
  refine cW.out.mono ?_
  rintro e w5 ⟨u, rfl, hru, hku, _⟩
  have hyl : ys.length ≤ xs.length := by rw [HYS.out]; exact List.length_filter_le _ _
  have HYG : Hid (∀ z ∈ ys, z.fits ∧ z.good = true) := fun z hz => by rw [HYS.out] at hz; exact HXG.out.2 z (List.mem_filter.1 hz).1
  obtain ⟨ua, uc, rfl, hI, _, _, _⟩ := hru.its (Oks.of_good HYG.out)
  have I5 := hide hI
  have H5 : Hid (Bk w0 w5 d F (S.readDo (first + bk : Nat)) s L first M) := H4.out.keep hku (fun q hq => by
    have hq' := (HV.out q (by simpa using hq)).1
    refine ⟨fun hf => ?_, fun hf => ?_, Nat.le_trans H.out.law.bel.size hq'⟩
    · have := HWS.out q (.inl hf); omega
    · have := HWS.out q (.inr hf); omega)
  have KW5 : Hid (Keep F W w5) := K4.out.trans hku (fun q hq => .inr (HV.out q (by simpa using hq)).1)
  have hlik : Hid (Like S (S.readDo (first + bk : Nat))) := Like.read _ _
  clear hru hku hI cW
  by_cases he : ys.length = xs.length
  · have hE : Hid (ys = xs) := by
      show _ = _
      rw [HYS.out] at he ⊢
      exact List.filter_eq_self.2 (List.length_filter_eq_length_iff.1 he)
    have he2 : (ys.length : Int) = (xs.length : Int) := by omega
    go_wp2
    go_ret
    exact .inl ⟨hE.out, rfl, _, H5.out, hlik.out, KW5.out⟩
  · have hE : Hid (ys ≠ xs) := fun e => he (by rw [e])
    have he2 : ¬ (ys.length : Int) = (xs.length : Int) := by omega
    have htot : total ys ≤ 384 := by rw [HYS.out]; exact Nat.le_trans (total_filter _ _) HXG.out.1
    have cX := hide (write_any H5.out bk (by omega) ua ys.length uc ys (by omega) I5.out (by
      rw [List.all_eq_true]
      intro z hz
      exact (HYG.out z hz).2) htot)
    have hsw := armed_write (HS.out.like hlik.out) (first + bk) (by rw [hlik.out.cs]; have := HFIT.out; omega) (pgB ys) (by rw [pgB_size _ htot]; exact Nat.le_refl _)
    rw [hsw.1] at cX
    have HSW : Hid (PutA S ((S.readDo (first + bk : Nat)).writeDo ((first + bk : Nat) : Int) (pgB ys)) (first + bk) ys) := by
      rw [hsw.2]
      exact ⟨(by rw [hlik.out.cs]), (HS.out.like hlik.out).off, (by show (S.readDo (first + bk : Nat)).armed - 1 = _; rw [hlik.out.armed]), hlik.out.losses⟩
    obtain ⟨n1, hn1⟩ : ∃ n1, n1 = ys.length := ⟨_, rfl⟩
    obtain ⟨n2, hn2'⟩ : ∃ n2, n2 = xs.length := ⟨_, rfl⟩
    rw [← hn1, ← hn2'] at he2
    rw [← hn1] at cX
    rw [← hn1, ← hn2']
    clear hsw htot he hyl hn1 hn2'
    go_wp2_with fail
    refine cX.out.mono ?_
    rintro e w9 ⟨rfl, F9, hb9, mv9⟩
    have H9 := hide hb9
    have M9 := hide mv9
    clear hb9 mv9 cX
    go_wp2
    go_ret
    refine .inr ⟨hE.out, rfl, F9, _, H9.out, HSW.out, KW5.out.trans M9.out.keep (fun z hz => .inl hz), fun z hz => ?_⟩
    rcases M9.out.foot z hz with h1 | h1
    · exact .inl h1
    · exact .inr (Nat.le_trans KW5.out.size h1)
set_option maxHeartbeats 20000000 in
theorem put_armed (h : Bk w0 W d F S s L first M) (hL : L = S.losses) (hS : Armed S) (hn2 : M.fs.length ≤ 256) (hfit : first + M.fs.length ≤ S.cs.length) (x : It) (hxf : x.fits) (hxg : x.good = true) (hx120 : x.size ≤ 120) (y : FB) (hy : M.fs[bkt x.key M.fs.length]? = some y) (l1 : List It) (hl1 : l1 = (S.its (first + bkt x.key M.fs.length)).filter (notKey x.key) ++ [x]) :
    Calls Tryz.prog 9 #[.pointer (some ⟨s, 0, none⟩), .agg #[.string (txt x.key), .string (txt x.value), .int .u32 x.flags, .int .i64 x.exp, .int .u64 x.ver]] W fun e W' => ∃ v, e = .returned (.tuple #[v, .int .i64 0]) ∧ Row W' W.heap.size v (l1.take (ovr l1)) ∧ ∃ F' S', Bk w0 W' d F' S' s L first ⟨M.a, M.cap, M.fs.set (bkt x.key M.fs.length) ⟨y.f, y.s, keyB y.l x⟩⟩ ∧ PutA S S' (first + bkt x.key M.fs.length) (l1.drop (ovr l1)) ∧ Keep (y.s :: F) W W' ∧ ∀ k ∈ F', k ∈ F ∨ W.heap.size ≤ k := by
  have hbx0 : Blk (W.alloc (.cells #[.string (txt x.key), .string (txt x.value), .int .u32 x.flags, .int .i64 x.exp, .int .u64 x.ver] 39)) W.heap.size (itCells x) 39 := Blk.new W _ 39
  have hbe : Below W.heap.size W (W.alloc (.cells #[.string (txt x.key), .string (txt x.value), .int .u32 x.flags, .int .i64 x.exp, .int .u64 x.ver] 39)) := (Below.refl _ _).alloc (Nat.le_refl _) _
  obtain ⟨hxk, hxv⟩ := good_sizes hxg
  have cG := hide (good_it x)
  rw [hxg] at cG
  have cZ := hide (size_it x (by omega) (by omega))
  obtain ⟨sz, hsz⟩ : ∃ sz, sz = x.size := ⟨_, rfl⟩
  rw [← hsz] at cZ
  have h120 : ¬ (120 : Int) < (sz : Int) := by omega
  obtain ⟨xb, hxb⟩ : ∃ N, N = W.heap.size := ⟨_, rfl⟩
  rw [← hxb] at hbx0
  have HNF : Hid (xb ∉ F ∧ xb ∉ M.foot s ∧ w0.heap.size ≤ xb) := ⟨by rw [hxb]; exact h.law.dev.new _ (Nat.le_refl _), fun hf => by have := h.st.lt xb hf; omega, by rw [hxb]; exact h.law.bel.size⟩
  have H := hide h
  have HL := hide hL
  have HS := hide hS
  have HFIT := hide hfit
  have HX := hide (show x.fits ∧ x.good = true ∧ x.size ≤ 120 ∧ x.key.length ≤ 250 ∧ x.value.length ≤ 1024 from ⟨hxf, hxg, hx120, hxk, hxv⟩)
  have HY := hide hy
  have hkn := (List.getElem?_eq_some_iff.1 hy).1
  obtain ⟨bk, hbk⟩ : ∃ bk, bk = bkt x.key M.fs.length := ⟨_, rfl⟩
  rw [← hbk] at hkn hl1 HY ⊢
  have HBK := hide hbk
  have HXB := hide hxb
  have HA := hide (h.below hbe)
  have KA := hide (show Below W.heap.size W (W.alloc (.cells #[.string (txt x.key), .string (txt x.value), .int .u32 x.flags, .int .i64 x.exp, .int .u64 x.ver] 39)) from hbe)
  obtain ⟨c, hc⟩ : ∃ c, S.cs[first + bk]? = some c := ⟨_, List.getElem?_eq_getElem (by omega)⟩
  have HC := hide hc
  have EI := hide (Dv.its_of hc)
  have hm4 : first + bk < 4096 := by have := h.law.dev.good.many; omega
  obtain ⟨xs, hxs⟩ : ∃ xs, xs = S.its (first + bk) := ⟨_, rfl⟩
  rw [← hxs] at hl1
  have HXG : Hid (total xs ≤ 384 ∧ ∀ z ∈ xs, z.fits ∧ z.good = true) := by rw [hxs]; exact Dv.its_all h.law.dev.good _
  have hxl : xs.length ≤ 12 := by rw [hxs]; exact its_len h.law.dev.good _
  have HXS := hide hxs
  have HL1 := hide hl1
  have HBX := hide hbx0
  have hkn' : Hid (0 < M.fs.length ∧ bk < M.fs.length ∧ M.fs.length ≤ 256) := ⟨by omega, hkn, hn2⟩
  have hbk256 : bk ≤ 256 := by omega
  clear h hL hS hfit hxf hxg hx120 hxk hxv hy hkn hl1 hbk hxb hc hxs hbx0 hbe hsz hn2
  go_enter Tryz.func9, Tryz.ntmps9
  go_wp2_with fail
  obtain ⟨wA, hwA⟩ : ∃ wA, wA = W.alloc (.cells #[.string (txt x.key), .string (txt x.value), .int .u32 x.flags, .int .i64 x.exp, .int .u64 x.ver] 39) := ⟨_, rfl⟩
  rw [← hwA] at HA KA HBX ⊢
  clear hwA
  rw [← HXB.out]
  refine (cG.out _).mono ?_
  rintro e w1 ⟨rfl, b1⟩
  have B1 := hide b1
  clear b1 cG
  have q0 := (HBX.out.same (B1.out.block xb HBX.out.lt)).cell (i := 0) rfl
  have q1 := (HBX.out.same (B1.out.block xb HBX.out.lt)).cell (i := 1) rfl
  have q2 := (HBX.out.same (B1.out.block xb HBX.out.lt)).cell (i := 2) rfl
  have q3 := (HBX.out.same (B1.out.block xb HBX.out.lt)).cell (i := 3) rfl
  have q4 := (HBX.out.same (B1.out.block xb HBX.out.lt)).cell (i := 4) rfl
  go_wp2_with fail
  refine (cZ.out _).mono ?_
  rintro e w2 ⟨rfl, b2⟩
  have B2 := hide (B1.out.trans (b2.mono B1.out.size))
  clear b2 cZ q0 q1 q2 q3 q4
  have X2 := hide (HBX.out.same (B2.out.block xb HBX.out.lt))
  have H2 := hide (HA.out.below B2.out)
  have q0 := X2.out.cell (i := 0) rfl
  have cB := hide (bucket_any H2.out.st x.key (by have := HX.out.2.2.2.1; unfold maxLen; omega) hkn'.out.1 (by have := hkn'.out.2.2; omega))
  rw [← HBK.out] at cB
  go_wp2_with fail
  refine cB.out.mono ?_
  rintro e w3 ⟨rfl, q3, rfl⟩
  have H3 := hide (H2.out.below (below_q2 w2 q3))
  have X3 := hide (X2.out.same (w' := w2.drewN q3) rfl)
  have cT := hide (list_ok H3.out HL.out HS.out.off bk c HC.out)
  clear cB q0
  go_wp2_with fail
  refine cT.out.mono ?_
  rintro e W4 ⟨v0, rfl, hr, hb4, k4⟩
  rw [← EI.out, ← HXS.out] at hr
  obtain ⟨B, hB⟩ : ∃ B, B = (w2.drewN q3).heap.size := ⟨_, rfl⟩
  rw [← hB] at hr
  have hBx : xb < B := by rw [hB]; exact X3.out.lt
  have hB4 : B ≤ W4.heap.size := by rw [hB]; exact k4.size
  have HR0 := hide hr
  have HV : Hid (∀ q, v0.ownBlock = some q → B ≤ q ∧ q < W4.heap.size) := fun q hq => hr.lt q hq
  obtain ⟨va, vc, hv0, _, _, _, _⟩ := hr.its (Oks.of_good HXG.out.2)
  have HV0 := hide hv0
  clear hv0
  have X4 := hide (X3.out.same (k4.block xb X3.out.lt HNF.out.1))
  have H4 := hide hb4
  have K4 : Hid (Keep F W W4) := ((Keep.of_below (F := F) KA.out).trans (Keep.of_below (F := []) B2.out) (by simp)).trans ((keep_q (F := F) w2 q3).trans k4 (fun z hz => .inl hz)) (fun z hz => .inl hz)
  have HO : Hid (Oks xs) := Oks.of_good HXG.out.2
  have HBW : Hid (W.heap.size ≤ B ∧ B ≤ W4.heap.size ∧ xb < B ∧ wA.heap.size ≤ B) := ⟨by rw [← HXB.out]; omega, hB4, hBx, by rw [hB]; exact B2.out.size⟩
  have XC : Hid (∀ w', Keep v0.ownBlock.toList W4 w' → OneIt w' xb 0 x) := fun w' hk => by
    have hb := X4.out.same (hk.block xb X4.out.lt (fun hq => by
      have := (HV.out xb (by simpa using hq)).1
      omega))
    exact ⟨hb.cell (i := 0) rfl, hb.cell (i := 1) rfl, hb.cell (i := 2) rfl, hb.cell (i := 3) rfl, hb.cell (i := 4) rfl⟩
  have AP : Hid (∀ (w' : World) (u : Value) (b : Nat), B ≤ w'.heap.size → Row w' B u (xs.filter (notKey x.key)) → Blk w' b (itCells x) 39 → ∃ v' w2, (Builtin.append_ #[45, 45] 45 #[u, .slice (some ⟨b, 0, none⟩) 1 1]).run Tryz.prog w' = .ok v' w2 ∧ Row w2 B v' (xs.filter (notKey x.key) ++ [x]) ∧ w'.grownBy w2 u.ownBlock) := fun w' u b hBw hu hb => by
    have hI : ItsAt w' (some ⟨b, 0, none⟩) [x].length [x] := its_blk (pad := []) (by simpa [itsCells] using hb) rfl (fun z hz => by simp at hz; subst hz; have := HX.out; exact ⟨this.1, by omega, by omega⟩)
    have hfl := List.length_filter_le (notKey x.key) xs
    obtain ⟨v', w2, h1, h2, h3, _⟩ := run_app (c := 1) hu hI (by simp; omega) hBw
    exact ⟨v', w2, h1 45, h2, h3⟩
  clear hr hb4 k4 cT hB hBx hB4
  go_wp2_with fail
  refine wp_region_ex (by kernel_rfl) (by kernel_rfl) (PJ W4 B v0 xs x xb) (PJ.start HR0.out) ?_ ?_
  · intro i o hi listed V w' ev hs hJ hfr hdir hin hout hold hcst hfn
    have hlt : i < 8 := by
      have := (Array.getElem?_eq_some_iff.1 hi).1
      simpa using this
    match i, hlt with
    | 0, _ =>
      simp only [List.getElem?_toArray, List.getElem?_cons_zero, List.getElem?_cons_succ, Option.some.injEq] at hi
      subst hi
      have gset : ∀ j, (listed.setIfInBounds 0 true).getD j false = if j = 0 then true else listed.getD j false := fun j => getD_set listed 0 j (by rw [hs]; decide)
      have h7 : listed.getD 7 false = false := by
        cases h : listed.getD 7 false with
        | false => rfl
        | true => have := (hJ.c7 h).2; rw [hfr] at this; cases this
      have e0 : ev (.tmp 7) = v0 := hold 7 7 (by kernel_rfl) h7 (show (7 : Nat) < 64 by decide)
      refine .inl ⟨v0, w', ?_, ?_⟩
      · simp [execOp, e0, hcst, go_sem]
      · refine ⟨hJ.keep, ?_, ?_, ?_, ?_, ?_, ?_, ?_, ?_, ?_, ?_, ?_⟩
        · intro _
          rw [setV_same]
        · intro h0
          rw [gset, if_neg (by decide)] at h0
          simp only [setV_other _ _ _ _ (show (1 : Nat) ≠ 0 by decide)]
          exact hJ.u1 h0
        · intro h0
          rw [gset, if_neg (by decide)] at h0
          simp only [setV_other _ _ _ _ (show (2 : Nat) ≠ 0 by decide)]
          exact hJ.u2 h0
        · intro h0
          rw [gset, if_neg (by decide)] at h0
          simp only [setV_other _ _ _ _ (show (4 : Nat) ≠ 0 by decide)]
          exact hJ.u4 h0
        · intro h0
          rw [gset, if_neg (by decide)] at h0
          exact hJ.r0 h0
        · intro h0 h1
          rw [gset, if_neg (by decide)] at h0
          rw [gset, if_neg (by decide)] at h1
          simp only [setV_other _ _ _ _ (show (3 : Nat) ≠ 0 by decide)]
          exact hJ.r3 h0 h1
        · intro h0 h1
          rw [gset, if_neg (by decide)] at h0
          rw [gset, if_neg (by decide)] at h1
          simp only [setV_other _ _ _ _ (show (5 : Nat) ≠ 0 by decide)]
          exact hJ.r5 h0 h1
        · intro h0
          rw [gset, if_neg (by decide)] at h0
          simp only [setV_other _ _ _ _ (show (6 : Nat) ≠ 0 by decide)]
          exact hJ.r6 h0
        · intro h0
          rw [gset, if_neg (by decide)] at h0
          simp only [setV_other _ _ _ _ (show (7 : Nat) ≠ 0 by decide), setV_other _ _ _ _ (show (6 : Nat) ≠ 0 by decide)]
          exact hJ.u7 h0
        · intro h0
          rw [gset, if_neg (by decide)] at h0
          simp only [gset]
          have := hJ.c6 h0
          simp [this]
        · intro h0
          rw [gset, if_neg (by decide)] at h0
          simp only [gset]
          have := hJ.c7 h0
          simp [this]
    | 1, _ =>
      simp only [List.getElem?_toArray, List.getElem?_cons_zero, List.getElem?_cons_succ, Option.some.injEq] at hi
      subst hi
      have gset : ∀ j, (listed.setIfInBounds 1 true).getD j false = if j = 1 then true else listed.getD j false := fun j => getD_set listed 1 j (by rw [hs]; decide)
      have e0 : ev (.tmp 3) = .pointer (some ⟨xb, 0, none⟩) := hout 3 (by kernel_rfl) (show (3 : Nat) < 64 by decide)
      refine .inl ⟨.pointer (some ⟨xb, 0, none⟩), w', ?_, ?_⟩
      · simp [execOp, e0, hcst, go_sem]
      · refine ⟨hJ.keep, ?_, ?_, ?_, ?_, ?_, ?_, ?_, ?_, ?_, ?_, ?_⟩
        · intro h0
          rw [gset, if_neg (by decide)] at h0
          simp only [setV_other _ _ _ _ (show (0 : Nat) ≠ 1 by decide)]
          exact hJ.u0 h0
        · intro _
          rw [setV_same]
        · intro h0
          rw [gset, if_neg (by decide)] at h0
          simp only [setV_other _ _ _ _ (show (2 : Nat) ≠ 1 by decide)]
          exact hJ.u2 h0
        · intro h0
          rw [gset, if_neg (by decide)] at h0
          simp only [setV_other _ _ _ _ (show (4 : Nat) ≠ 1 by decide)]
          exact hJ.u4 h0
        · intro h0
          rw [gset, if_neg (by decide)] at h0
          exact hJ.r0 h0
        · intro h0 h1
          rw [gset, if_neg (by decide)] at h0
          rw [gset, if_neg (by decide)] at h1
          simp only [setV_other _ _ _ _ (show (3 : Nat) ≠ 1 by decide)]
          exact hJ.r3 h0 h1
        · intro h0 h1
          rw [gset, if_neg (by decide)] at h0
          rw [gset, if_neg (by decide)] at h1
          simp only [setV_other _ _ _ _ (show (5 : Nat) ≠ 1 by decide)]
          exact hJ.r5 h0 h1
        · intro h0
          rw [gset, if_neg (by decide)] at h0
          simp only [setV_other _ _ _ _ (show (6 : Nat) ≠ 1 by decide)]
          exact hJ.r6 h0
        · intro h0
          rw [gset, if_neg (by decide)] at h0
          simp only [setV_other _ _ _ _ (show (7 : Nat) ≠ 1 by decide), setV_other _ _ _ _ (show (6 : Nat) ≠ 1 by decide)]
          exact hJ.u7 h0
        · intro h0
          rw [gset, if_neg (by decide)] at h0
          simp only [gset]
          have := hJ.c6 h0
          simp [this]
        · intro h0
          rw [gset, if_neg (by decide)] at h0
          simp only [gset]
          have := hJ.c7 h0
          simp [this]
    | 2, _ =>
      simp only [List.getElem?_toArray, List.getElem?_cons_zero, List.getElem?_cons_succ, Option.some.injEq] at hi
      subst hi
      have gset : ∀ j, (listed.setIfInBounds 2 true).getD j false = if j = 2 then true else listed.getD j false := fun j => getD_set listed 2 j (by rw [hs]; decide)
      have e0 : ev (.tmp 33) = .pointer (some ⟨xb, 0, none⟩) := (hin 33 1 ⟨1, .data⟩ (by kernel_rfl) (by simp) rfl rfl (show (33 : Nat) < 64 by decide)).trans (hJ.u1 (hdir 1 (by kernel_rfl)))
      have q0 := (XC.out w' hJ.keep).c0
      refine .inl ⟨.string (txt x.key), w', ?_, ?_⟩
      · simp [execOp, e0, q0, hcst, go_sem]
      · refine ⟨hJ.keep, ?_, ?_, ?_, ?_, ?_, ?_, ?_, ?_, ?_, ?_, ?_⟩
        · intro h0
          rw [gset, if_neg (by decide)] at h0
          simp only [setV_other _ _ _ _ (show (0 : Nat) ≠ 2 by decide)]
          exact hJ.u0 h0
        · intro h0
          rw [gset, if_neg (by decide)] at h0
          simp only [setV_other _ _ _ _ (show (1 : Nat) ≠ 2 by decide)]
          exact hJ.u1 h0
        · intro _
          rw [setV_same]
        · intro h0
          rw [gset, if_neg (by decide)] at h0
          simp only [setV_other _ _ _ _ (show (4 : Nat) ≠ 2 by decide)]
          exact hJ.u4 h0
        · intro h0
          rw [gset, if_neg (by decide)] at h0
          exact hJ.r0 h0
        · intro h0 h1
          rw [gset, if_neg (by decide)] at h0
          rw [gset, if_neg (by decide)] at h1
          simp only [setV_other _ _ _ _ (show (3 : Nat) ≠ 2 by decide)]
          exact hJ.r3 h0 h1
        · intro h0 h1
          rw [gset, if_neg (by decide)] at h0
          rw [gset, if_neg (by decide)] at h1
          simp only [setV_other _ _ _ _ (show (5 : Nat) ≠ 2 by decide)]
          exact hJ.r5 h0 h1
        · intro h0
          rw [gset, if_neg (by decide)] at h0
          simp only [setV_other _ _ _ _ (show (6 : Nat) ≠ 2 by decide)]
          exact hJ.r6 h0
        · intro h0
          rw [gset, if_neg (by decide)] at h0
          simp only [setV_other _ _ _ _ (show (7 : Nat) ≠ 2 by decide), setV_other _ _ _ _ (show (6 : Nat) ≠ 2 by decide)]
          exact hJ.u7 h0
        · intro h0
          rw [gset, if_neg (by decide)] at h0
          simp only [gset]
          have := hJ.c6 h0
          simp [this]
        · intro h0
          rw [gset, if_neg (by decide)] at h0
          simp only [gset]
          have := hJ.c7 h0
          simp [this]
    | 3, _ =>
      simp only [List.getElem?_toArray, List.getElem?_cons_zero, List.getElem?_cons_succ, Option.some.injEq] at hi
      subst hi
      have gset : ∀ j, (listed.setIfInBounds 3 true).getD j false = if j = 3 then true else listed.getD j false := fun j => getD_set listed 3 j (by rw [hs]; decide)
      have e0 : ev (.tmp 32) = v0 := (hin 32 0 ⟨0, .data⟩ (by kernel_rfl) (by simp) rfl rfl (show (32 : Nat) < 64 by decide)).trans (hJ.u0 (hdir 0 (by kernel_rfl)))
      have e1 : ev (.tmp 34) = .string (txt x.key) := (hin 34 2 ⟨2, .data⟩ (by kernel_rfl) (by simp) rfl rfl (show (34 : Nat) < 64 by decide)).trans (hJ.u2 (hdir 2 (by kernel_rfl)))
      have h6 : listed.getD 6 false = false := by
        cases h : listed.getD 6 false with
        | false => rfl
        | true => have := (hJ.c6 h).1; rw [hfr] at this; cases this
      refine .inr ⟨31, #[v0, .string (txt x.key)], ?_, ?_⟩
      · have ef := hfn 31
        simp [execOp, resolve, invoke, ef, hcst, e0, e1, Result.andThen]
        exact enter34 _ _
      · refine (wo_any B v0 xs x.key w' (hJ.r0 hfr) HO.out (by omega)).mono ?_
        rintro e w2 ⟨u, rfl, hru, hku, hub⟩
        refine ⟨u, rfl, ?_⟩
        refine ⟨hJ.keep.trans hku (fun q hq => .inl hq), ?_, ?_, ?_, ?_, ?_, ?_, ?_, ?_, ?_, ?_, ?_⟩
        · intro h0
          rw [gset, if_neg (by decide)] at h0
          simp only [setV_other _ _ _ _ (show (0 : Nat) ≠ 3 by decide)]
          exact hJ.u0 h0
        · intro h0
          rw [gset, if_neg (by decide)] at h0
          simp only [setV_other _ _ _ _ (show (1 : Nat) ≠ 3 by decide)]
          exact hJ.u1 h0
        · intro h0
          rw [gset, if_neg (by decide)] at h0
          simp only [setV_other _ _ _ _ (show (2 : Nat) ≠ 3 by decide)]
          exact hJ.u2 h0
        · intro h0
          rw [gset, if_neg (by decide)] at h0
          simp only [setV_other _ _ _ _ (show (4 : Nat) ≠ 3 by decide)]
          exact hJ.u4 h0
        · intro h0
          rw [gset, if_pos rfl] at h0
          cases h0
        · intro _ _
          rw [setV_same]
          exact ⟨hru, hub⟩
        · intro h0 h1
          rw [gset, if_neg (by decide)] at h0 h1
          rw [setV_other _ _ _ _ (by decide)]
          obtain ⟨b, hb1, hb2, hb3⟩ := hJ.r5 h0 h1
          exact ⟨b, hb1, hb2.same (hku.block b hb2.lt (fun hq => by have := HV.out b (by simpa using hq); omega)), hb3⟩
        · intro h0
          rw [gset, if_neg (by decide), h6] at h0
          cases h0
        · intro h0
          rw [gset, if_neg (by decide)] at h0
          simp only [setV_other _ _ _ _ (show (7 : Nat) ≠ 3 by decide), setV_other _ _ _ _ (show (6 : Nat) ≠ 3 by decide)]
          exact hJ.u7 h0
        · intro h0
          rw [gset, if_neg (by decide)] at h0
          simp only [gset]
          have := hJ.c6 h0
          simp [this]
        · intro h0
          rw [gset, if_neg (by decide)] at h0
          simp only [gset]
          have := hJ.c7 h0
          simp [this]
    | 4, _ =>
      simp only [List.getElem?_toArray, List.getElem?_cons_zero, List.getElem?_cons_succ, Option.some.injEq] at hi
      subst hi
      have gset : ∀ j, (listed.setIfInBounds 4 true).getD j false = if j = 4 then true else listed.getD j false := fun j => getD_set listed 4 j (by rw [hs]; decide)
      have e0 : ev (.tmp 3) = .pointer (some ⟨xb, 0, none⟩) := hout 3 (by kernel_rfl) (show (3 : Nat) < 64 by decide)
      obtain ⟨q0, q1, q2, q3, q4⟩ := (XC.out w' hJ.keep).vals
      refine .inl ⟨.agg #[.string (txt x.key), .string (txt x.value), .int .u32 x.flags, .int .i64 x.exp, .int .u64 x.ver], w', ?_, ?_⟩
      · simp [execOp, e0, q0, q1, q2, q3, q4, hcst, go_sem]
      · refine ⟨hJ.keep, ?_, ?_, ?_, ?_, ?_, ?_, ?_, ?_, ?_, ?_, ?_⟩
        · intro h0
          rw [gset, if_neg (by decide)] at h0
          simp only [setV_other _ _ _ _ (show (0 : Nat) ≠ 4 by decide)]
          exact hJ.u0 h0
        · intro h0
          rw [gset, if_neg (by decide)] at h0
          simp only [setV_other _ _ _ _ (show (1 : Nat) ≠ 4 by decide)]
          exact hJ.u1 h0
        · intro h0
          rw [gset, if_neg (by decide)] at h0
          simp only [setV_other _ _ _ _ (show (2 : Nat) ≠ 4 by decide)]
          exact hJ.u2 h0
        · intro _
          rw [setV_same]
        · intro h0
          rw [gset, if_neg (by decide)] at h0
          exact hJ.r0 h0
        · intro h0 h1
          rw [gset, if_neg (by decide)] at h0
          rw [gset, if_neg (by decide)] at h1
          simp only [setV_other _ _ _ _ (show (3 : Nat) ≠ 4 by decide)]
          exact hJ.r3 h0 h1
        · intro h0 h1
          rw [gset, if_neg (by decide)] at h0
          rw [gset, if_neg (by decide)] at h1
          simp only [setV_other _ _ _ _ (show (5 : Nat) ≠ 4 by decide)]
          exact hJ.r5 h0 h1
        · intro h0
          rw [gset, if_neg (by decide)] at h0
          simp only [setV_other _ _ _ _ (show (6 : Nat) ≠ 4 by decide)]
          exact hJ.r6 h0
        · intro h0
          rw [gset, if_neg (by decide)] at h0
          simp only [setV_other _ _ _ _ (show (7 : Nat) ≠ 4 by decide), setV_other _ _ _ _ (show (6 : Nat) ≠ 4 by decide)]
          exact hJ.u7 h0
        · intro h0
          rw [gset, if_neg (by decide)] at h0
          simp only [gset]
          have := hJ.c6 h0
          simp [this]
        · intro h0
          rw [gset, if_neg (by decide)] at h0
          simp only [gset]
          have := hJ.c7 h0
          simp [this]
    | 5, _ =>
      simp only [List.getElem?_toArray, List.getElem?_cons_zero, List.getElem?_cons_succ, Option.some.injEq] at hi
      subst hi
      have gset : ∀ j, (listed.setIfInBounds 5 true).getD j false = if j = 5 then true else listed.getD j false := fun j => getD_set listed 5 j (by rw [hs]; decide)
      have e0 : ev (.tmp 36) = .agg #[.string (txt x.key), .string (txt x.value), .int .u32 x.flags, .int .i64 x.exp, .int .u64 x.ver] := (hin 36 4 ⟨4, .data⟩ (by kernel_rfl) (by simp) rfl rfl (show (36 : Nat) < 64 by decide)).trans (hJ.u4 (hdir 4 (by kernel_rfl)))
      have h6 : listed.getD 6 false = false := by
        cases h : listed.getD 6 false with
        | false => rfl
        | true => have := (hJ.c6 h).2; rw [hfr] at this; cases this
      refine .inl ⟨.slice (some ⟨w'.heap.size, 0, none⟩) 1 1, w'.alloc (.cells (itCells x).toArray 39), ?_, ?_⟩
      · simp [execOp, e0, hcst, go_sem, itCells]
      · refine ⟨hJ.keep.alloc _, ?_, ?_, ?_, ?_, ?_, ?_, ?_, ?_, ?_, ?_, ?_⟩
        · intro h0
          rw [gset, if_neg (by decide)] at h0
          simp only [setV_other _ _ _ _ (show (0 : Nat) ≠ 5 by decide)]
          exact hJ.u0 h0
        · intro h0
          rw [gset, if_neg (by decide)] at h0
          simp only [setV_other _ _ _ _ (show (1 : Nat) ≠ 5 by decide)]
          exact hJ.u1 h0
        · intro h0
          rw [gset, if_neg (by decide)] at h0
          simp only [setV_other _ _ _ _ (show (2 : Nat) ≠ 5 by decide)]
          exact hJ.u2 h0
        · intro h0
          rw [gset, if_neg (by decide)] at h0
          simp only [setV_other _ _ _ _ (show (4 : Nat) ≠ 5 by decide)]
          exact hJ.u4 h0
        · intro h0
          rw [gset, if_neg (by decide)] at h0
          exact (hJ.r0 h0).below ((Below.refl _ _).alloc (Nat.le_refl _) _)
        · intro h0 h1
          rw [gset, if_neg (by decide)] at h0 h1
          rw [setV_other _ _ _ _ (by decide)]
          exact ⟨(hJ.r3 h0 h1).1.below ((Below.refl _ _).alloc (Nat.le_refl _) _), (hJ.r3 h0 h1).2⟩
        · intro _ _
          rw [setV_same]
          exact ⟨_, rfl, Blk.new w' (itCells x) 39, hJ.keep.size⟩
        · intro h0
          rw [gset, if_neg (by decide), h6] at h0
          cases h0
        · intro h0
          rw [gset, if_neg (by decide)] at h0
          simp only [setV_other _ _ _ _ (show (7 : Nat) ≠ 5 by decide), setV_other _ _ _ _ (show (6 : Nat) ≠ 5 by decide)]
          exact hJ.u7 h0
        · intro h0
          rw [gset, if_neg (by decide)] at h0
          simp only [gset]
          have := hJ.c6 h0
          simp [this]
        · intro h0
          rw [gset, if_neg (by decide)] at h0
          simp only [gset]
          have := hJ.c7 h0
          simp [this]
    | 6, _ =>
      simp only [List.getElem?_toArray, List.getElem?_cons_zero, List.getElem?_cons_succ, Option.some.injEq] at hi
      subst hi
      have gset : ∀ j, (listed.setIfInBounds 6 true).getD j false = if j = 6 then true else listed.getD j false := fun j => getD_set listed 6 j (by rw [hs]; decide)
      obtain ⟨hr3, hb3⟩ := hJ.r3 (hdir 3 (by kernel_rfl)) hfr
      obtain ⟨b, hb1, hb2, hb5⟩ := hJ.r5 (hdir 5 (by kernel_rfl)) hfr
      have e0 : ev (.tmp 35) = V 3 := hin 35 3 ⟨3, .data⟩ (by kernel_rfl) (by simp) rfl rfl (show (35 : Nat) < 64 by decide)
      have e1 : ev (.tmp 37) = .slice (some ⟨b, 0, none⟩) 1 1 := (hin 37 5 ⟨5, .data⟩ (by kernel_rfl) (by simp) rfl rfl (show (37 : Nat) < 64 by decide)).trans hb1
      obtain ⟨v', w2, hrun, hrow, hgr⟩ := AP.out w' (V 3) b (Nat.le_trans HBW.out.2.1 hJ.keep.size) hr3 hb2
      refine .inl ⟨v', w2, ?_, ?_⟩
      · unfold execOp
        simp only [resolve, invoke, builtin, Sem.run_bind, Sem.run_pure, Result.andThen_ok, List.map_toArray, List.map_cons, List.map_nil, e0, e1, hrun]
      · refine ⟨hJ.keep.trans ⟨hgr.os, hgr.tape, hgr.output, hgr.size, fun q hq hn => hgr.block q hq (fun e => hn (by rw [← hb3, ← e]; simp))⟩ (fun q hq => .inl hq), ?_, ?_, ?_, ?_, ?_, ?_, ?_, ?_, ?_, ?_, ?_⟩
        · intro h0
          rw [gset, if_neg (by decide)] at h0
          simp only [setV_other _ _ _ _ (show (0 : Nat) ≠ 6 by decide)]
          exact hJ.u0 h0
        · intro h0
          rw [gset, if_neg (by decide)] at h0
          simp only [setV_other _ _ _ _ (show (1 : Nat) ≠ 6 by decide)]
          exact hJ.u1 h0
        · intro h0
          rw [gset, if_neg (by decide)] at h0
          simp only [setV_other _ _ _ _ (show (2 : Nat) ≠ 6 by decide)]
          exact hJ.u2 h0
        · intro h0
          rw [gset, if_neg (by decide)] at h0
          simp only [setV_other _ _ _ _ (show (4 : Nat) ≠ 6 by decide)]
          exact hJ.u4 h0
        · intro h0
          rw [gset, if_neg (by decide), hdir 3 (by kernel_rfl)] at h0
          cases h0
        · intro _ h1
          rw [gset, if_pos rfl] at h1
          cases h1
        · intro _ h1
          rw [gset, if_pos rfl] at h1
          cases h1
        · intro _
          rw [setV_same]
          exact hrow
        · intro h0
          rw [gset, if_neg (by decide)] at h0
          have := (hJ.c7 h0).1
          rw [hfr] at this
          cases this
        · intro _
          simp only [gset]
          have a3 := hdir 3 (by kernel_rfl)
          have a5 := hdir 5 (by kernel_rfl)
          simp [a3, a5]
        · intro h0
          rw [gset, if_neg (by decide)] at h0
          simp only [gset]
          have := hJ.c7 h0
          simp [this]
    | 7, _ =>
      simp only [List.getElem?_toArray, List.getElem?_cons_zero, List.getElem?_cons_succ, Option.some.injEq] at hi
      subst hi
      have gset : ∀ j, (listed.setIfInBounds 7 true).getD j false = if j = 7 then true else listed.getD j false := fun j => getD_set listed 7 j (by rw [hs]; decide)
      have e0 : ev (.tmp 38) = V 6 := hin 38 6 ⟨6, .data⟩ (by kernel_rfl) (by simp) rfl rfl (show (38 : Nat) < 64 by decide)
      refine .inl ⟨V 6, w', ?_, ?_⟩
      · simp [execOp, e0, hcst, go_sem]
      · refine ⟨hJ.keep, ?_, ?_, ?_, ?_, ?_, ?_, ?_, ?_, ?_, ?_, ?_⟩
        · intro h0
          rw [gset, if_neg (by decide)] at h0
          simp only [setV_other _ _ _ _ (show (0 : Nat) ≠ 7 by decide)]
          exact hJ.u0 h0
        · intro h0
          rw [gset, if_neg (by decide)] at h0
          simp only [setV_other _ _ _ _ (show (1 : Nat) ≠ 7 by decide)]
          exact hJ.u1 h0
        · intro h0
          rw [gset, if_neg (by decide)] at h0
          simp only [setV_other _ _ _ _ (show (2 : Nat) ≠ 7 by decide)]
          exact hJ.u2 h0
        · intro h0
          rw [gset, if_neg (by decide)] at h0
          simp only [setV_other _ _ _ _ (show (4 : Nat) ≠ 7 by decide)]
          exact hJ.u4 h0
        · intro h0
          rw [gset, if_neg (by decide)] at h0
          exact hJ.r0 h0
        · intro h0 h1
          rw [gset, if_neg (by decide)] at h0
          rw [gset, if_neg (by decide)] at h1
          simp only [setV_other _ _ _ _ (show (3 : Nat) ≠ 7 by decide)]
          exact hJ.r3 h0 h1
        · intro h0 h1
          rw [gset, if_neg (by decide)] at h0
          rw [gset, if_neg (by decide)] at h1
          simp only [setV_other _ _ _ _ (show (5 : Nat) ≠ 7 by decide)]
          exact hJ.r5 h0 h1
        · intro h0
          rw [gset, if_neg (by decide)] at h0
          simp only [setV_other _ _ _ _ (show (6 : Nat) ≠ 7 by decide)]
          exact hJ.r6 h0
        · intro _
          rw [setV_same, setV_other _ _ _ _ (by decide)]
        · intro h0
          rw [gset, if_neg (by decide)] at h0
          simp only [gset]
          have := hJ.c6 h0
          simp [this]
        · intro _
          simp only [gset]
          have a6 := hdir 6 (by kernel_rfl)
          have a0' := hdir 0 (by kernel_rfl)
          simp [a6, a0']
  · intro V w7 hJ
    simp only [lexF, Act.put, List.setIfInBounds_toArray, List.set_cons_succ, List.set_cons_zero, List.getD_cons_succ, List.getD_cons_zero]
    have hall : ∀ j, j < 8 → (Array.replicate 8 true).getD j false = true := fun j hj => by simp only [Array.getD_eq_getD_getElem?, Array.getElem?_replicate, hj, if_true, Option.getD_some]
    have r6 := hJ.r6 (hall 6 (by decide))
    have u7 := hJ.u7 (hall 7 (by decide))
    rw [← HL1.out] at r6
    have K7 := hide hJ.keep
    have hl1l : 0 < l1.length ∧ l1.length ≤ 13 := by
      have := List.length_filter_le (notKey x.key) xs
      rw [HL1.out, List.length_append]; simp; omega
    have hsub : ∀ z ∈ l1, z.fits ∧ z.good = true := fun z hz => by
      rw [HL1.out] at hz
      rcases List.mem_append.1 hz with h1 | h1
      · exact HXG.out.2 z (List.mem_filter.1 h1).1
      · simp at h1; rw [h1]; exact ⟨HX.out.1, HX.out.2.1⟩
    have HSUB := hide hsub
    obtain ⟨g, cap, pad, hu, hgB, hgb, hmc, hcm, _⟩ : ∃ g cap pad, V 6 = .slice (some ⟨g, 0, none⟩) l1.length cap ∧ B ≤ g ∧ Blk w7 g (itsCells l1 ++ pad) 39 ∧ l1.length ≤ cap ∧ cap ≤ maxLen ∧ True := by
      rcases r6.form with ⟨_, h0⟩ | ⟨g, cap, pad, h1, h2, h3, h4, h5, _⟩
      · rw [h0] at hl1l; simp at hl1l
      · exact ⟨g, cap, pad, h1, h2, h3, h4, h5, trivial⟩
    have I7 := hide (its_blk hgb rfl (Oks.of_good hsub))
    obtain ⟨m, hm⟩ : ∃ m, m = l1.length := ⟨_, rfl⟩
    rw [← hm] at hu hmc I7 hl1l
    have HM := hide hm
    have htot : total l1 ≤ 1000 := by
      have h1 : total (xs.filter (notKey x.key)) ≤ total xs := total_filter _ _
      rw [HL1.out, total_append]; simp only [total]; have := HXG.out.1; have := HX.out.2.2.1; omega
    have cO := hide (over_any (some ⟨g, 0, none⟩) m cap l1 (by omega) (by omega) w7 I7.out)
    have hklt : ovr l1 < m := by
      rw [hm, HL1.out]
      have := ovr_lt (xs.filter (notKey x.key)) x (by have := HX.out.2.2.1; omega)
      rw [List.length_append]; simp; omega
    obtain ⟨k, hk⟩ : ∃ k, k = ovr l1 := ⟨_, rfl⟩
    rw [← hk] at cO hklt
    have HK := hide hk
    have HGB := hide (And.intro hgB hgb.lt)
    have hWs : ∀ q, q ∈ F ∨ q ∈ M.foot s → q < W.heap.size := fun q hq => by
      rcases hq with hq | hq
      · exact H.out.law.dev.lt q hq
      · exact H.out.st.lt q hq
    have HWS := hide hWs
    have H7 : Hid (Bk w0 w7 d F (S.readDo (first + bk : Nat)) s L first M) := H4.out.keep K7.out (fun q hq => by
      have hq' := (HV.out q (by simpa using hq)).1
      have hb := HBW.out
      refine ⟨fun hf => ?_, fun hf => ?_, ?_⟩
      · have := hWs q (.inl hf); omega
      · have := hWs q (.inr hf); omega
      · have := H.out.law.bel.size; omega)
    have KW7 : Hid (Keep F W w7) := K4.out.trans K7.out (fun q hq => .inr (by have hq' := (HV.out q (by simpa using hq)).1; have hb := HBW.out; omega))
    have X7 : Hid (Blk w7 xb (itCells x) 39) := X4.out.same (K7.out.block xb X4.out.lt (fun hq => by have := (HV.out xb (by simpa using hq)).1; have := HBW.out; omega))
    have ek : ∀ (z : Value), V 7 = z → V (0 + 1 + 1 + 1 + 1 + 1 + 1 + 1) = z := fun z hz => hz
    rw [ek _ (u7.trans hu)]
    have hkm : (k : Int) < (m : Int) := by omega
    have hkc : (cap = k) = False := eq_false (by omega)
    have hcap : cap ≤ 9223372036854775807 := by unfold maxLen at hcm; omega
    have HCAP := hide (And.intro hmc hcm)
    clear hJ hall r6 u7 hsub hu hgB hgb hcm hm hk hWs ek htot
    generalize V 0 = z0
    generalize V (0 + 1) = z1
    generalize V (0 + 1 + 1) = z2
    generalize V (0 + 1 + 1 + 1) = z3
    generalize V (0 + 1 + 1 + 1 + 1) = z4
    generalize V (0 + 1 + 1 + 1 + 1 + 1) = z5
    generalize V (0 + 1 + 1 + 1 + 1 + 1 + 1) = z6
    go_wp2_with fail
    refine cO.out.mono ?_
    rintro e w8 ⟨rfl, b8⟩
    have H8 := hide (H7.out.below b8)
    have I8 := hide (I7.out.below b8)
    have X8 := hide (X7.out.same (b8.block xb X7.out.lt))
    have KW8 := hide (KW7.out.trans (Keep.of_below (F := []) b8) (by simp))
    have hg8 : g < w8.heap.size := Nat.lt_of_lt_of_le HGB.out.2 b8.size
    clear b8 cO
    have cW := hide (write_any H8.out bk (by omega) (some ⟨g, k * 5, none⟩) (m - k) (cap - k) (l1.drop k) (by omega) (I8.out.drop k) (by
      rw [List.all_eq_true]
      intro z hz
      exact (HSUB.out z (List.mem_of_mem_drop hz)).2) (by rw [HK.out]; exact ovr_fit l1))
    have hlik : Like S (S.readDo (first + bk : Nat)) := Like.read _ _
    have hsw := armed_write (HS.out.like hlik) (first + bk) (by rw [hlik.cs]; have := HFIT.out; have := hkn'.out; omega) (pgB (l1.drop k)) (by rw [pgB_size _ (by rw [HK.out]; exact ovr_fit l1)]; exact Nat.le_refl _)
    rw [hsw.1] at cW
    have HSW : Hid (PutA S ((S.readDo (first + bk : Nat)).writeDo ((first + bk : Nat) : Int) (pgB (l1.drop k))) (first + bk) (l1.drop k)) := by
      rw [hsw.2]
      exact ⟨(by rw [hlik.cs]), (HS.out.like hlik).off, (by show (S.readDo (first + bk : Nat)).armed - 1 = _; rw [hlik.armed]), hlik.losses⟩
    clear hlik hsw
    go_wp2_with fail
    refine cW.out.mono ?_
    rintro e w9 ⟨rfl, F9, hb9, mv9⟩
    have H9 := hide hb9
    have M9 := hide mv9
    have X9 := hide (X8.out.same (mv9.keep.block xb X8.out.lt HNF.out.1))
    have hgF : Hid (g ∉ F ∧ g ≠ y.s) := ⟨fun hf => by have := HWS.out g (.inl hf); have := HBW.out; have := HGB.out.1; omega, fun e => by have := HWS.out y.s (.inr (SM.mem_f (List.mem_of_getElem? HY.out)).2); have := HBW.out; have := HGB.out.1; omega⟩
    have I9 := hide (I8.out.same mv9.keep.size (fun b o hab => by cases hab; exact mv9.keep.block g hg8 hgF.out.1))
    clear hb9 mv9 cW
    go_wp2_with fail
    obtain ⟨q, hq, hqc, hql⟩ := H9.out.st.at_ HY.out
    have hfl := H9.out.st.flt y (List.mem_of_getElem? HY.out)
    obtain ⟨ff, hff⟩ : ∃ ff, ff = y.f := ⟨_, rfl⟩
    obtain ⟨n, hn⟩ : ∃ n, n = M.fs.length := ⟨_, rfl⟩
    obtain ⟨fcap, hfcap⟩ : ∃ fcap, fcap = M.cap := ⟨_, rfl⟩
    have hbn : (bk : Int) < (n : Int) := by have := hkn'.out; omega
    obtain ⟨CC, hCC⟩ : ∃ CC : Bool → World → Prop, CC = fun f w' => match f with
        | false => w' = w9.drewN 1
        | true => Bl.FltIn w' y.f y.s (keyB y.l x) 3 ∧ Keep [y.s] w9 w' := ⟨_, rfl⟩
    have DR : Hid (CC false { w9 with drawn := w9.drawn + 1 }) := by show CC false _; rw [hCC]; rfl
    have cC : Hid (∀ w', CC false w' → Calls Tryz.prog 34 #[.pointer (some ⟨ff, 0, none⟩), .string (txt x.key)] w' fun e w' => e = .returned (.tuple #[]) ∧ CC true w') := fun w' hw => by
      rw [hCC] at hw ⊢
      simp only at hw
      subst hw
      rw [hff]
      refine (Bl.add_any y.f y.s 3 y.l (txt x.key) (by rw [txt_size]; have := HX.out.2.2.2.1; unfold maxLen; omega) (w9.drewN 1) (hfl.1.same rfl rfl)).mono ?_
      rintro e w2 ⟨rfl, h1, h2⟩
      rw [hfl.2] at h1
      exact ⟨rfl, h1, (keep_q w9 1).trans h2 (fun z hz => .inl hz)⟩
    have TOLD : Hid (∀ w', CC true w' → Bk w0 w' d F9 ((S.readDo (first + bk : Nat)).writeDo ((first + bk : Nat) : Int) (pgB (l1.drop k))) s L first ⟨M.a, M.cap, M.fs.set bk ⟨y.f, y.s, keyB y.l x⟩⟩ ∧ Keep [y.s] w9 w') := fun w' hw => by
      rw [hCC] at hw
      exact ⟨H9.out.told HY.out hw.1 (by rw [keyB_length]; exact hfl.2) hw.2, hw.2⟩
    have hxy : Hid (xb ≠ y.s) := fun e => HNF.out.2.1 (by rw [e]; exact (SM.mem_f (List.mem_of_getElem? HY.out)).2)
    have cells : Hid (∀ f w', CC f w' → w'.cell? ⟨s, 3, none⟩ = some (.slice (some ⟨q, 0, none⟩) n fcap) ∧ w'.cell? ⟨q, bk, none⟩ = some (.pointer (some ⟨ff, 0, none⟩)) ∧ w'.cell? ⟨xb, 0, none⟩ = some (.string (txt x.key))) := fun f w' hw => by
      rw [hff, hn, hfcap, ← hq]
      cases f with
      | false =>
        rw [hCC] at hw
        simp only at hw
        subst hw
        exact ⟨H9.out.st.box.cell (i := 3) rfl, hqc, X9.out.cell (i := 0) rfl⟩
      | true =>
        obtain ⟨t1, t2⟩ := TOLD.out w' hw
        obtain ⟨q', h1, h2, _⟩ := t1.st.at_ (k := bk) (x := ⟨y.f, y.s, keyB y.l x⟩) (by
          show (M.fs.set bk _)[bk]? = _
          rw [List.getElem?_set, if_pos rfl, if_pos hkn'.out.2.1])
        have hqq : q' = q := by
          have h1' : M.a = some ⟨q', 0, none⟩ := h1
          rw [hq] at h1'
          cases h1'
          rfl
        rw [hqq] at h2
        refine ⟨?_, h2, (X9.out.same (t2.block xb X9.out.lt (by simpa using hxy.out))).cell (i := 0) rfl⟩
        have := t1.st.box.cell (i := 3) rfl
        simpa using this
    clear hCC hqc hfl hff hn hfcap hq hql
    refine wp_region_turn (by kernel_rfl) (by kernel_rfl) (fun i => ([.pointer (some ⟨s, 0, none⟩), .pointer (some ⟨s, 0, none⟩), .pointer (some ⟨s, 3, none⟩), .slice (some ⟨q, 0, none⟩) n fcap, .int .i64 (bk : Int), .pointer (some ⟨q, bk, none⟩), .pointer (some ⟨ff, 0, none⟩), .pointer (some ⟨xb, 0, none⟩), .string (txt x.key), .tuple #[]] : List Value).getD i undef) 9 (by decide) (CC) (DR.out) ?_ ?_
    · intro i o hi f w' ev hc hz hin hout hcst hfn
      have hlt : i < 10 := by
        have := (Array.getElem?_eq_some_iff.1 hi).1
        simpa using this
      match i, hlt with
      | 0, _ =>
        simp only [List.getElem?_toArray, List.getElem?_cons_zero, List.getElem?_cons_succ, Option.some.injEq] at hi
        subst hi
        have e0 : ev (.tmp 0) = .pointer (some ⟨s, 0, none⟩) := hout 0 (by kernel_rfl) (show (0 : Nat) < 64 by decide)
        rw [if_neg (by decide)]
        refine .inl ⟨w', ?_, hc⟩
        show _ = Result.ok (Next.value (.pointer (some ⟨s, 0, none⟩))) w'
        simp [execOp, e0, hcst, go_sem]
      | 1, _ =>
        simp only [List.getElem?_toArray, List.getElem?_cons_zero, List.getElem?_cons_succ, Option.some.injEq] at hi
        subst hi
        have e0 : ev (.tmp 50) = .pointer (some ⟨s, 0, none⟩) := hin 50 0 ⟨0, .data⟩ (by kernel_rfl) (by simp) rfl rfl (show (50 : Nat) < 64 by decide)
        rw [if_neg (by decide)]
        refine .inl ⟨w', ?_, hc⟩
        show _ = Result.ok (Next.value (.pointer (some ⟨s, 0, none⟩))) w'
        simp [execOp, e0, hcst, go_sem]
      | 2, _ =>
        simp only [List.getElem?_toArray, List.getElem?_cons_zero, List.getElem?_cons_succ, Option.some.injEq] at hi
        subst hi
        have e0 : ev (.tmp 51) = .pointer (some ⟨s, 0, none⟩) := hin 51 1 ⟨1, .data⟩ (by kernel_rfl) (by simp) rfl rfl (show (51 : Nat) < 64 by decide)
        rw [if_neg (by decide)]
        refine .inl ⟨w', ?_, hc⟩
        show _ = Result.ok (Next.value (.pointer (some ⟨s, 3, none⟩))) w'
        simp [execOp, e0, hcst, go_sem]
      | 3, _ =>
        simp only [List.getElem?_toArray, List.getElem?_cons_zero, List.getElem?_cons_succ, Option.some.injEq] at hi
        subst hi
        have e0 : ev (.tmp 52) = .pointer (some ⟨s, 3, none⟩) := hin 52 2 ⟨2, .data⟩ (by kernel_rfl) (by simp) rfl rfl (show (52 : Nat) < 64 by decide)
        rw [if_neg (by decide)]
        refine .inl ⟨w', ?_, hc⟩
        show _ = Result.ok (Next.value (.slice (some ⟨q, 0, none⟩) n fcap)) w'
        have q1 := (cells.out f w' hc).1
        simp [execOp, e0, q1, hcst, go_sem]
      | 4, _ =>
        simp only [List.getElem?_toArray, List.getElem?_cons_zero, List.getElem?_cons_succ, Option.some.injEq] at hi
        subst hi
        have e0 : ev (.tmp 6) = .int .i64 (bk : Int) := hout 6 (by kernel_rfl) (show (6 : Nat) < 64 by decide)
        rw [if_neg (by decide)]
        refine .inl ⟨w', ?_, hc⟩
        show _ = Result.ok (Next.value (.int .i64 (bk : Int))) w'
        simp [execOp, e0, hcst, go_sem]
      | 5, _ =>
        simp only [List.getElem?_toArray, List.getElem?_cons_zero, List.getElem?_cons_succ, Option.some.injEq] at hi
        subst hi
        have e0 : ev (.tmp 53) = .slice (some ⟨q, 0, none⟩) n fcap := hin 53 3 ⟨3, .data⟩ (by kernel_rfl) (by simp) rfl rfl (show (53 : Nat) < 64 by decide)
        have e1 : ev (.tmp 54) = .int .i64 (bk : Int) := hin 54 4 ⟨4, .data⟩ (by kernel_rfl) (by simp) rfl rfl (show (54 : Nat) < 64 by decide)
        rw [if_neg (by decide)]
        refine .inl ⟨w', ?_, hc⟩
        show _ = Result.ok (Next.value (.pointer (some ⟨q, bk, none⟩))) w'
        simp [execOp, e0, e1, hcst, go_sem, hbn]
      | 6, _ =>
        simp only [List.getElem?_toArray, List.getElem?_cons_zero, List.getElem?_cons_succ, Option.some.injEq] at hi
        subst hi
        have e0 : ev (.tmp 55) = .pointer (some ⟨q, bk, none⟩) := hin 55 5 ⟨5, .data⟩ (by kernel_rfl) (by simp) rfl rfl (show (55 : Nat) < 64 by decide)
        rw [if_neg (by decide)]
        refine .inl ⟨w', ?_, hc⟩
        show _ = Result.ok (Next.value (.pointer (some ⟨ff, 0, none⟩))) w'
        have q1 := (cells.out f w' hc).2.1
        simp [execOp, e0, q1, hcst, go_sem]
      | 7, _ =>
        simp only [List.getElem?_toArray, List.getElem?_cons_zero, List.getElem?_cons_succ, Option.some.injEq] at hi
        subst hi
        have e0 : ev (.tmp 3) = .pointer (some ⟨xb, 0, none⟩) := hout 3 (by kernel_rfl) (show (3 : Nat) < 64 by decide)
        rw [if_neg (by decide)]
        refine .inl ⟨w', ?_, hc⟩
        show _ = Result.ok (Next.value (.pointer (some ⟨xb, 0, none⟩))) w'
        simp [execOp, e0, hcst, go_sem]
      | 8, _ =>
        simp only [List.getElem?_toArray, List.getElem?_cons_zero, List.getElem?_cons_succ, Option.some.injEq] at hi
        subst hi
        have e0 : ev (.tmp 57) = .pointer (some ⟨xb, 0, none⟩) := hin 57 7 ⟨7, .data⟩ (by kernel_rfl) (by simp) rfl rfl (show (57 : Nat) < 64 by decide)
        rw [if_neg (by decide)]
        refine .inl ⟨w', ?_, hc⟩
        show _ = Result.ok (Next.value (.string (txt x.key))) w'
        have q1 := (cells.out f w' hc).2.2
        simp [execOp, e0, q1, hcst, go_sem]
      | 9, _ =>
        simp only [List.getElem?_toArray, List.getElem?_cons_zero, List.getElem?_cons_succ, Option.some.injEq] at hi
        subst hi
        have e0 : ev (.tmp 56) = .pointer (some ⟨ff, 0, none⟩) := hin 56 6 ⟨6, .data⟩ (by kernel_rfl) (by simp) rfl rfl (show (56 : Nat) < 64 by decide)
        have e1 : ev (.tmp 58) = .string (txt x.key) := hin 58 8 ⟨8, .data⟩ (by kernel_rfl) (by simp) rfl rfl (show (58 : Nat) < 64 by decide)
        rw [if_pos rfl]
        refine .inr (.inr ⟨34, #[.pointer (some ⟨ff, 0, none⟩), .string (txt x.key)], ?_, ?_⟩)
        · have ef := hfn 34
          simp [execOp, resolve, invoke, ef, hcst, e0, e1, Result.andThen]
          exact enter37 _ _
        · rw [hz rfl] at hc
          refine (cC.out w' hc).mono ?_
          rintro e w2 ⟨rfl, h2⟩
          exact ⟨rfl, h2⟩
    · intro w7' hc
      simp only [lexF, Act.put, List.setIfInBounds_toArray, List.set_cons_succ, List.set_cons_zero, List.getD_cons_succ, List.getD_cons_zero]
      have T := hide (TOLD.out w7' hc)
      clear hc cC cells DR TOLD hbn
      have I10 := hide (I9.out.same T.out.2.size (fun b o hab => by cases hab; exact T.out.2.block g (Nat.lt_of_lt_of_le hg8 M9.out.keep.size) (by simpa using hgF.out.2)))
      have cCl := hide (clone_any g 0 k cap (l1.take k) (by rw [List.length_take, ← HM.out]; omega) (by omega) w7' (I10.out.take k (by omega)))
      go_wp2_with fail
      refine cCl.out.mono ?_
      rintro e w11 ⟨v, rfl, hrv, b11⟩
      have HRV := hide hrv
      have B11 := hide b11
      clear hrv b11 cCl
      go_wp2
      go_ret2
      have hk11 : Keep (y.s :: F) W w7' := ((KW8.out.mono (fun z hz => .inl (by simp [hz]))).trans (M9.out.keep.mono (fun z hz => .inl hz)) (fun z hz => .inl (by simp [hz]))).trans T.out.2 (fun z hz => by simp at hz; subst hz; exact .inl (by simp))
      refine ⟨v, rfl, ?_, F9, _, T.out.1.below B11.out, ?_, hk11.trans (Keep.of_below (F := []) B11.out) (by simp), fun z hz => ?_⟩
      · rw [← HK.out]
        exact HRV.out.mono (Nat.le_trans hk11.size (Nat.le_refl _))
      · rw [← HK.out]; exact HSW.out
      · rcases M9.out.foot z hz with h1 | h1
        · exact .inl h1
        · exact .inr (Nat.le_trans KW8.out.size h1)
end Go.Proofs.YtbccnfbombgdmaaGreat
