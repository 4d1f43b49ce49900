/- Put that is refused; Drop. -/
import Derived.Test.YtbccnfbombgdmaaBkC
set_option linter.unusedVariables false
set_option linter.unusedSimpArgs false
set_option maxRecDepth 8000
namespace Go.Proofs.Ytbccnfbombgdmaa
open Go.RowKit Go.Deep Math
variable {w0 W W' : World} {d s : Nat} {F F' : List Nat} {S S' : Dv} {L : Int} {first : Nat} {M : SM}

set_option maxHeartbeats 2000000 in
theorem put_bad (s : Nat) (x : It) (hbad : x.good = false ∨ 120 < x.size) (W : World) :
    Calls Try.prog 11 #[.pointer (some ⟨s, 0, none⟩), .agg #[.string (txt x.key), .string (txt x.value), .int .u32 x.flags, .int .i64 x.exp, .int .u64 x.ver]] W fun e W' => e = .returned (.tuple #[.slice none 0 0, .int .i64 1]) ∧ Below W.heap.size W W' := by
  have hbx0 : Hid (Blk (W.alloc (.cells #[.string (txt x.key), .string (txt x.value), .int .u32 x.flags, .int .i64 x.exp, .int .u64 x.ver] 36)) W.heap.size (itCells x) 36) := Blk.new W _ 36
  have hbe : Hid (Below W.heap.size W (W.alloc (.cells #[.string (txt x.key), .string (txt x.value), .int .u32 x.flags, .int .i64 x.exp, .int .u64 x.ver] 36))) := (Below.refl _ _).alloc (Nat.le_refl _) _
  have cG := hide (good_it x)
  cases hg : x.good with
  | false =>
    rw [hg] at cG
    clear hbad hg
    go_enter Try.func11, Try.ntmps11
    go_wp2_with fail
    refine (cG.out _).mono ?_
    rintro e w1 ⟨rfl, b1⟩
    have B1 := hide (hbe.out.trans (b1.mono hbe.out.size))
    clear b1
    go_wp2
    go_ret2
    exact ⟨rfl, B1.out⟩
  | true =>
    rw [hg] at cG hbad
    obtain ⟨hxk, hxv⟩ := good_sizes hg
    have cZ := hide (size_it x (by omega) (by omega))
    obtain ⟨sz, hsz⟩ : ∃ sz, sz = x.size := ⟨_, rfl⟩
    rw [← hsz] at cZ hbad
    have h120 : (120 : Int) < (sz : Int) := by
      rcases hbad with h | h
      · cases h
      · omega
    clear hbad hg hsz
    go_enter Try.func11, Try.ntmps11
    go_wp2_with fail
    refine (cG.out _).mono ?_
    rintro e w1 ⟨rfl, b1⟩
    have B1 := hide (hbe.out.trans (b1.mono hbe.out.size))
    have X1 := hide (hbx0.out.same (b1.block W.heap.size hbx0.out.lt))
    clear b1 cG
    have q0 := X1.out.cell (i := 0) rfl
    have q1 := X1.out.cell (i := 1) rfl
    have q2 := X1.out.cell (i := 2) rfl
    have q3 := X1.out.cell (i := 3) rfl
    have q4 := X1.out.cell (i := 4) rfl
    go_wp2_with fail
    refine (cZ.out _).mono ?_
    rintro e w2 ⟨rfl, b2⟩
    have B2 := hide (B1.out.trans (b2.mono B1.out.size))
    clear b2
    go_wp2
    go_ret2
    exact ⟨rfl, B2.out⟩

set_option maxHeartbeats 2000000 in
theorem put_done (h : Bk w0 W d F S s L first M) (hL : S.losses ≠ L) (hn1 : 0 < M.fs.length) (hn2 : M.fs.length ≤ 256) (x : It) (hxg : x.good = true) (hx120 : x.size ≤ 120) :
    Calls Try.prog 11 #[.pointer (some ⟨s, 0, none⟩), .agg #[.string (txt x.key), .string (txt x.value), .int .u32 x.flags, .int .i64 x.exp, .int .u64 x.ver]] W fun e W' => e = .returned (.tuple #[.slice none 0 0, .int .i64 4]) ∧ Below W.heap.size W W' := by
  have hbx0 : Hid (Blk (W.alloc (.cells #[.string (txt x.key), .string (txt x.value), .int .u32 x.flags, .int .i64 x.exp, .int .u64 x.ver] 36)) W.heap.size (itCells x) 36) := Blk.new W _ 36
  have hbe : Hid (Below W.heap.size W (W.alloc (.cells #[.string (txt x.key), .string (txt x.value), .int .u32 x.flags, .int .i64 x.exp, .int .u64 x.ver] 36))) := (Below.refl _ _).alloc (Nat.le_refl _) _
  have cG := hide (good_it x)
  rw [hxg] at cG
  obtain ⟨hxk, hxv⟩ := good_sizes hxg
  have cZ := hide (size_it x (by omega) (by omega))
  obtain ⟨sz, hsz⟩ : ∃ sz, sz = x.size := ⟨_, rfl⟩
  rw [← hsz] at cZ
  have h120 : ¬ (120 : Int) < (sz : Int) := by omega
  have H := hide h
  have HL := hide hL
  have HXK := hide hxk
  have HN := hide (And.intro hn1 hn2)
  have hb256 : Hid (bkt x.key M.fs.length < M.fs.length) := bkt_lt _ _ hn1
  clear h hL hxg hx120 hsz hxk hxv hn1 hn2
  go_enter Try.func11, Try.ntmps11
  go_wp2_with fail
  refine (cG.out _).mono ?_
  rintro e w1 ⟨rfl, b1⟩
  have B1 := hide (hbe.out.trans (b1.mono hbe.out.size))
  have X1 := hide (hbx0.out.same (b1.block W.heap.size hbx0.out.lt))
  clear b1 cG
  have q0 := X1.out.cell (i := 0) rfl
  have q1 := X1.out.cell (i := 1) rfl
  have q2 := X1.out.cell (i := 2) rfl
  have q3 := X1.out.cell (i := 3) rfl
  have q4 := X1.out.cell (i := 4) rfl
  go_wp2_with fail
  refine (cZ.out _).mono ?_
  rintro e w2 ⟨rfl, b2⟩
  have B2 := hide (B1.out.trans (b2.mono B1.out.size))
  have X2 := hide (X1.out.same (b2.block W.heap.size X1.out.lt))
  clear b2 q0 q1 q2 q3 q4 cZ
  have q0 := X2.out.cell (i := 0) rfl
  have H2 := hide (H.out.below B2.out)
  have cB := hide (bucket_any H2.out.st x.key (by have := HXK.out; unfold maxLen; omega) HN.out.1 (by have := HN.out.2; omega))
  obtain ⟨bk, hbk⟩ : ∃ bk, bk = bkt x.key M.fs.length := ⟨_, rfl⟩
  rw [← hbk] at cB hb256
  have hbk6 : bk ≤ 256 := by have := hb256.out; have := HN.out.2; omega
  clear hbk
  go_wp2_with fail
  refine cB.out.mono ?_
  rintro e w3 ⟨rfl, q3, rfl⟩
  have H3 := hide (H2.out.below (below_q2 w2 q3))
  have cT := hide (list_done H3.out HL.out (bk : Int))
  clear cB q0
  go_wp2_with fail
  refine cT.out.mono ?_
  rintro e w4 ⟨rfl, b4⟩
  have B4 := hide ((below_drew B2.out q3).trans (b4.mono B2.out.size))
  clear b4 cT
  go_wp2
  go_ret2
  exact ⟨rfl, B4.out⟩

set_option maxHeartbeats 2000000 in
theorem items_done (h : Bk w0 W d F S s L first M) (hL : S.losses ≠ L) (hn1 : 0 < M.fs.length) (hn2 : M.fs.length ≤ 256) :
    Calls Try.prog 18 #[.pointer (some ⟨s, 0, none⟩)] W fun e W' => e = .returned (.tuple #[.slice none 0 0, .int .i64 4]) ∧ Below W.heap.size W W' := by
  have c3 := h.st.box.cell (i := 3) rfl
  have cT := hide (list_done h hL 0)
  obtain ⟨n, hn⟩ : ∃ n, n = M.fs.length := ⟨_, rfl⟩
  rw [← hn] at c3 hn1 hn2
  clear h hL hn
  go_enter Try.func18, Try.ntmps18
  go_wp2_with fail
  go_loopg [4, 13] n (fun kx s4 s13 wr => s4 = .slice none 0 0 ∧ s13 = .int .i64 0 ∧ Hid (wr = W))
  case atStart => exact ⟨rfl, rfl, rfl⟩
  case round =>
    obtain ⟨rfl, rfl, I⟩ := hrel
    obtain rfl : wr = W := I.out
    have hlt2 : (0 : Int) < (n : Int) := by omega
    go_wp2_with fail
    refine cT.out.mono ?_
    rintro e w1 ⟨rfl, b1⟩
    have B1 := hide b1
    clear b1
    go_wp2
    go_ret2
    exact ⟨rfl, B1.out⟩

set_option maxHeartbeats 4000000 in
theorem drop_ok (h : Bk w0 W d F S s L first M) (hL : L = S.losses) (hS : Sure S) (hn1 : 0 < M.fs.length) (hn2 : M.fs.length ≤ 256) (hfit : first + M.fs.length ≤ S.cs.length) (key : List UInt8) (hk : key.length ≤ maxLen) (ys : List It) (hys : ys = (S.its (first + bkt key M.fs.length)).filter (notKey key)) :
    Calls Try.prog 12 #[.pointer (some ⟨s, 0, none⟩), .string (txt key)] W fun e W' =>
      (ys = S.its (first + bkt key M.fs.length) ∧ e = .returned (.int .i64 5) ∧ ∃ S', Bk w0 W' d F S' s L first M ∧ Like S S' ∧ Keep F W W') ∨
      (ys ≠ S.its (first + bkt key M.fs.length) ∧ e = .returned (.int .i64 0) ∧ ∃ F' S', Bk w0 W' d F' S' s L first M ∧ PutD S S' (first + bkt key M.fs.length) ys ∧ Keep F W W' ∧ ∀ k ∈ F', k ∈ F ∨ W.heap.size ≤ k) := by
  have cB := hide (bucket_any h.st key hk hn1 (by omega))
  have hbkl := bkt_lt key M.fs.length hn1
  obtain ⟨bk, hbk⟩ : ∃ bk, bk = bkt key M.fs.length := ⟨_, rfl⟩
  rw [← hbk] at cB hys hbkl ⊢
  have H := hide h
  have HL := hide hL
  have HS := hide hS
  have HFIT := hide (And.intro hfit hbkl)
  obtain ⟨c, hc⟩ : ∃ c, S.cs[first + bk]? = some c := ⟨_, List.getElem?_eq_getElem (by omega)⟩
  have HC := hide hc
  have EI := hide (Dv.its_of hc)
  have hm4 : first + bk < 4096 := by have := h.law.dev.good.many; omega
  obtain ⟨xs, hxs⟩ : ∃ xs, xs = S.its (first + bk) := ⟨_, rfl⟩
  rw [← hxs] at hys ⊢
  have HXG : Hid (total xs ≤ 384 ∧ ∀ z ∈ xs, z.fits ∧ z.good = true) := by rw [hxs]; exact Dv.its_all h.law.dev.good _
  have hxl : xs.length ≤ 12 := by rw [hxs]; exact its_len h.law.dev.good _
  have HXS := hide hxs
  have HYS := hide hys
  have HWS : Hid (∀ q, q ∈ F ∨ q ∈ M.foot s → q < W.heap.size) := fun q hq => by
    rcases hq with hq | hq
    · exact h.law.dev.lt q hq
    · exact h.st.lt q hq
  have hbk6 : bk ≤ 256 := by omega
  clear h hL hS hfit hk hys hbk hc hxs hbkl hn1
  go_enter Try.func12, Try.ntmps12
  go_wp2_with fail
  refine cB.out.mono ?_
  rintro e w3 ⟨rfl, q3, rfl⟩
  have H3 := hide (H.out.below (below_q2 W q3))
  have cT := hide (list_ok H3.out HL.out HS.out.off bk c HC.out)
  clear cB
  go_wp2_with fail
  refine cT.out.mono ?_
  rintro e W4 ⟨v0, rfl, hr, hb4, k4⟩
  rw [← EI.out, ← HXS.out] at hr
  have hr' : Row W4 W.heap.size v0 xs := hr
  have H4 := hide hb4
  have K4 : Hid (Keep F W W4) := (keep_q (F := F) W q3).trans k4 (fun z hz => .inl hz)
  have HV : Hid (∀ q, v0.ownBlock = some q → W.heap.size ≤ q ∧ q < W4.heap.size) := fun q hq => hr'.lt q hq
  have cW := hide (wo_any W.heap.size v0 xs key W4 hr' (Oks.of_good HXG.out.2) (by omega))
  obtain ⟨va, vc, rfl, _, _, _, _⟩ := hr.its (Oks.of_good HXG.out.2)
  rw [← HYS.out] at cW
  clear hr hb4 k4 cT hr'
  go_wp2_with fail
  refine cW.out.mono ?_
  rintro e w5 ⟨u, rfl, hru, hku, _⟩
  have hyl : ys.length ≤ xs.length := by rw [HYS.out]; exact List.length_filter_le _ _
  have HYG : Hid (∀ z ∈ ys, z.fits ∧ z.good = true) := fun z hz => by rw [HYS.out] at hz; exact HXG.out.2 z (List.mem_filter.1 hz).1
  obtain ⟨ua, uc, rfl, hI, _, _, _⟩ := hru.its (Oks.of_good HYG.out)
  have I5 := hide hI
  have H5 : Hid (Bk w0 w5 d F (S.readDo (first + bk : Nat)) s L first M) := H4.out.keep hku (fun q hq => by
    have hq' := (HV.out q (by simpa using hq)).1
    refine ⟨fun hf => ?_, fun hf => ?_, Nat.le_trans H.out.law.bel.size hq'⟩
    · have := HWS.out q (.inl hf); omega
    · have := HWS.out q (.inr hf); omega)
  have KW5 : Hid (Keep F W w5) := K4.out.trans hku (fun q hq => .inr (HV.out q (by simpa using hq)).1)
  have hlik : Hid (Like S (S.readDo (first + bk : Nat))) := Like.read _ _
  clear hru hku hI cW
  by_cases he : ys.length = xs.length
  · have hE : Hid (ys = xs) := by
      show _ = _
      rw [HYS.out] at he ⊢
      exact List.filter_eq_self.2 (List.length_filter_eq_length_iff.1 he)
    have he2 : (ys.length : Int) = (xs.length : Int) := by omega
    go_wp2
    go_ret
    exact .inl ⟨hE.out, rfl, _, H5.out, hlik.out, KW5.out⟩
  · have hE : Hid (ys ≠ xs) := fun e => he (by rw [e])
    have he2 : ¬ (ys.length : Int) = (xs.length : Int) := by omega
    have htot : total ys ≤ 384 := by rw [HYS.out]; exact Nat.le_trans (total_filter _ _) HXG.out.1
    have cX := hide (write_any H5.out bk (by omega) ua ys.length uc ys (by omega) I5.out (by
      rw [List.all_eq_true]
      intro z hz
      exact (HYG.out z hz).2) htot)
    have hsw := sure_write (HS.out.like hlik.out) (first + bk) (by rw [hlik.out.cs]; have := HFIT.out; omega) (pgB ys) (by rw [pgB_size _ htot]; exact Nat.le_refl _)
    rw [hsw.1] at cX
    have HSW : Hid (PutD S ((S.readDo (first + bk : Nat)).writeDo ((first + bk : Nat) : Int) (pgB ys)) (first + bk) ys) := by
      rw [hsw.2]
      exact ⟨by rw [hlik.out.cs], ⟨(HS.out.like hlik.out).off, (HS.out.like hlik.out).armed⟩, hlik.out.losses⟩
    obtain ⟨n1, hn1⟩ : ∃ n1, n1 = ys.length := ⟨_, rfl⟩
    obtain ⟨n2, hn2'⟩ : ∃ n2, n2 = xs.length := ⟨_, rfl⟩
    rw [← hn1, ← hn2'] at he2
    rw [← hn1] at cX
    rw [← hn1, ← hn2']
    clear hsw htot he hyl hn1 hn2'
    go_wp2_with fail
    refine cX.out.mono ?_
    rintro e w9 ⟨rfl, F9, hb9, mv9⟩
    have H9 := hide hb9
    have M9 := hide mv9
    clear hb9 mv9 cX
    go_wp2
    go_ret
    refine .inr ⟨hE.out, rfl, F9, _, H9.out, HSW.out, KW5.out.trans M9.out.keep (fun z hz => .inl hz), fun z hz => ?_⟩
    rcases M9.out.foot z hz with h1 | h1
    · exact .inl h1
    · exact .inr (Nat.le_trans KW5.out.size h1)
end Go.Proofs.Ytbccnfbombgdmaa
