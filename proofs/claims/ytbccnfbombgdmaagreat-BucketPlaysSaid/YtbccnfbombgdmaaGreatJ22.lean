/- Texts joined: BkD, BkE, BkF. -/
import Derived.Test.YtbccnfbombgdmaaGreatJ21
/- Put that is refused; Drop. -/
set_option linter.unusedVariables false
set_option linter.unusedSimpArgs false
set_option maxRecDepth 8000
namespace Go.Proofs.YtbccnfbombgdmaaGreat
open Go.RowKit Go.Deep Math
variable {w0 W W' : World} {d s : Nat} {F F' : List Nat} {S S' : Dv} {L : Int} {first : Nat} {M : SM}

set_option maxHeartbeats 2000000 in
theorem put_bad (s : Nat) (x : It) (hbad : x.good = false ∨ 120 < x.size) (W : World) :
    Calls Tryz.prog 9 #[.pointer (some ⟨s, 0, none⟩), .agg #[.string (txt x.key), .string (txt x.value), .int .u32 x.flags, .int .i64 x.exp, .int .u64 x.ver]] W fun e W' => e = .returned (.tuple #[.slice none 0 0, .int .i64 1]) ∧ Below W.heap.size W W' := by
  have hbx0 : Hid (Blk (W.alloc (.cells #[.string (txt x.key), .string (txt x.value), .int .u32 x.flags, .int .i64 x.exp, .int .u64 x.ver] 39)) W.heap.size (itCells x) 39) := Blk.new W _ 39
  have hbe : Hid (Below W.heap.size W (W.alloc (.cells #[.string (txt x.key), .string (txt x.value), .int .u32 x.flags, .int .i64 x.exp, .int .u64 x.ver] 39))) := (Below.refl _ _).alloc (Nat.le_refl _) _
  have cG := hide (good_it x)
  cases hg : x.good with
  | false =>
    rw [hg] at cG
    clear hbad hg
    go_enter Tryz.func9, Tryz.ntmps9
    go_wp2_with fail
    refine (cG.out _).mono ?_
    rintro e w1 ⟨rfl, b1⟩
    have B1 := hide (hbe.out.trans (b1.mono hbe.out.size))
    clear b1
    go_wp2
    go_ret2
    exact ⟨rfl, B1.out⟩
  | true =>
    rw [hg] at cG hbad
    obtain ⟨hxk, hxv⟩ := good_sizes hg
    have cZ := hide (size_it x (by omega) (by omega))
    obtain ⟨sz, hsz⟩ : ∃ sz, sz = x.size := ⟨_, rfl⟩
    rw [← hsz] at cZ hbad
    have h120 : (120 : Int) < (sz : Int) := by
      rcases hbad with h | h
      · cases h
      · omega
    clear hbad hg hsz
    go_enter Tryz.func9, Tryz.ntmps9
    go_wp2_with fail
    refine (cG.out _).mono ?_
    rintro e w1 ⟨rfl, b1⟩
    have B1 := hide (hbe.out.trans (b1.mono hbe.out.size))
    have X1 := hide (hbx0.out.same (b1.block W.heap.size hbx0.out.lt))
    clear b1 cG
    have q0 := X1.out.cell (i := 0) rfl
    have q1 := X1.out.cell (i := 1) rfl
    have q2 := X1.out.cell (i := 2) rfl
    have q3 := X1.out.cell (i := 3) rfl
    have q4 := X1.out.cell (i := 4) rfl
    go_wp2_with fail
    refine (cZ.out _).mono ?_
    rintro e w2 ⟨rfl, b2⟩
    have B2 := hide (B1.out.trans (b2.mono B1.out.size))
    clear b2
    go_wp2
    go_ret2
    exact ⟨rfl, B2.out⟩

set_option maxHeartbeats 2000000 in
theorem put_done (h : Bk w0 W d F S s L first M) (hL : S.losses ≠ L) (hn1 : 0 < M.fs.length) (hn2 : M.fs.length ≤ 256) (x : It) (hxg : x.good = true) (hx120 : x.size ≤ 120) :
    Calls Tryz.prog 9 #[.pointer (some ⟨s, 0, none⟩), .agg #[.string (txt x.key), .string (txt x.value), .int .u32 x.flags, .int .i64 x.exp, .int .u64 x.ver]] W fun e W' => e = .returned (.tuple #[.slice none 0 0, .int .i64 4]) ∧ Below W.heap.size W W' := by
  have hbx0 : Hid (Blk (W.alloc (.cells #[.string (txt x.key), .string (txt x.value), .int .u32 x.flags, .int .i64 x.exp, .int .u64 x.ver] 39)) W.heap.size (itCells x) 39) := Blk.new W _ 39
  have hbe : Hid (Below W.heap.size W (W.alloc (.cells #[.string (txt x.key), .string (txt x.value), .int .u32 x.flags, .int .i64 x.exp, .int .u64 x.ver] 39))) := (Below.refl _ _).alloc (Nat.le_refl _) _
  have cG := hide (good_it x)
  rw [hxg] at cG
  obtain ⟨hxk, hxv⟩ := good_sizes hxg
  have cZ := hide (size_it x (by omega) (by omega))
  obtain ⟨sz, hsz⟩ : ∃ sz, sz = x.size := ⟨_, rfl⟩
  rw [← hsz] at cZ
  have h120 : ¬ (120 : Int) < (sz : Int) := by omega
  have H := hide h
  have HL := hide hL
  have HXK := hide hxk
  have HN := hide (And.intro hn1 hn2)
  have hb256 : Hid (bkt x.key M.fs.length < M.fs.length) := bkt_lt _ _ hn1
  clear h hL hxg hx120 hsz hxk hxv hn1 hn2
  go_enter Tryz.func9, Tryz.ntmps9
  go_wp2_with fail
  refine (cG.out _).mono ?_
  rintro e w1 ⟨rfl, b1⟩
  have B1 := hide (hbe.out.trans (b1.mono hbe.out.size))
  have X1 := hide (hbx0.out.same (b1.block W.heap.size hbx0.out.lt))
  clear b1 cG
  have q0 := X1.out.cell (i := 0) rfl
  have q1 := X1.out.cell (i := 1) rfl
  have q2 := X1.out.cell (i := 2) rfl
  have q3 := X1.out.cell (i := 3) rfl
  have q4 := X1.out.cell (i := 4) rfl
  go_wp2_with fail
  refine (cZ.out _).mono ?_
  rintro e w2 ⟨rfl, b2⟩
  have B2 := hide (B1.out.trans (b2.mono B1.out.size))
  have X2 := hide (X1.out.same (b2.block W.heap.size X1.out.lt))
  clear b2 q0 q1 q2 q3 q4 cZ
  have q0 := X2.out.cell (i := 0) rfl
  have H2 := hide (H.out.below B2.out)
  have cB := hide (bucket_any H2.out.st x.key (by have := HXK.out; unfold maxLen; omega) HN.out.1 (by have := HN.out.2; omega))
  obtain ⟨bk, hbk⟩ : ∃ bk, bk = bkt x.key M.fs.length := ⟨_, rfl⟩
  rw [← hbk] at cB hb256
  have hbk6 : bk ≤ 256 := by have := hb256.out; have := HN.out.2; omega
  clear hbk
  go_wp2_with fail
  refine cB.out.mono ?_
  rintro e w3 ⟨rfl, q3, rfl⟩
  have H3 := hide (H2.out.below (below_q2 w2 q3))
  have cT := hide (list_done H3.out HL.out (bk : Int))
  clear cB q0
  go_wp2_with fail
  refine cT.out.mono ?_
  rintro e w4 ⟨rfl, b4⟩
  have B4 := hide ((below_drew B2.out q3).trans (b4.mono B2.out.size))
  clear b4 cT
  go_wp2
  go_ret2
  exact ⟨rfl, B4.out⟩

set_option maxHeartbeats 2000000 in
theorem items_done (h : Bk w0 W d F S s L first M) (hL : S.losses ≠ L) (hn1 : 0 < M.fs.length) (hn2 : M.fs.length ≤ 256) :
    Calls Tryz.prog 19 #[.pointer (some ⟨s, 0, none⟩)] W fun e W' => e = .returned (.tuple #[.slice none 0 0, .int .i64 4]) ∧ Below W.heap.size W W' := by
  have c3 := h.st.box.cell (i := 3) rfl
  have cT := hide (list_done h hL 0)
  obtain ⟨n, hn⟩ : ∃ n, n = M.fs.length := ⟨_, rfl⟩
  rw [← hn] at c3 hn1 hn2
  clear h hL hn
  go_enter Tryz.func19, Tryz.ntmps19
  go_wp2_with fail
  go_loopg [4, 13] n (fun kx s4 s13 wr => s4 = .slice none 0 0 ∧ s13 = .int .i64 0 ∧ Hid (wr = W))
  case atStart => exact ⟨rfl, rfl, rfl⟩
  case round =>
    obtain ⟨rfl, rfl, I⟩ := hrel
    obtain rfl : wr = W := I.out
    have hlt2 : (0 : Int) < (n : Int) := by omega
    go_wp2_with fail
    refine cT.out.mono ?_
    rintro e w1 ⟨rfl, b1⟩
    have B1 := hide b1
    clear b1
    go_wp2
    go_ret2
    exact ⟨rfl, B1.out⟩

set_option maxHeartbeats 4000000 in
theorem drop_ok (h : Bk w0 W d F S s L first M) (hL : L = S.losses) (hS : Sure S) (hn1 : 0 < M.fs.length) (hn2 : M.fs.length ≤ 256) (hfit : first + M.fs.length ≤ S.cs.length) (key : List UInt8) (hk : key.length ≤ maxLen) (ys : List It) (hys : ys = (S.its (first + bkt key M.fs.length)).filter (notKey key)) :
    Calls Tryz.prog 14 #[.pointer (some ⟨s, 0, none⟩), .string (txt key)] W fun e W' =>
      (ys = S.its (first + bkt key M.fs.length) ∧ e = .returned (.int .i64 5) ∧ ∃ S', Bk w0 W' d F S' s L first M ∧ Like S S' ∧ Keep F W W') ∨
      (ys ≠ S.its (first + bkt key M.fs.length) ∧ e = .returned (.int .i64 0) ∧ ∃ F' S', Bk w0 W' d F' S' s L first M ∧ PutD S S' (first + bkt key M.fs.length) ys ∧ Keep F W W' ∧ ∀ k ∈ F', k ∈ F ∨ W.heap.size ≤ k) := by
  have cB := hide (bucket_any h.st key hk hn1 (by omega))
  have hbkl := bkt_lt key M.fs.length hn1
  obtain ⟨bk, hbk⟩ : ∃ bk, bk = bkt key M.fs.length := ⟨_, rfl⟩
  rw [← hbk] at cB hys hbkl ⊢
  have H := hide h
  have HL := hide hL
  have HS := hide hS
  have HFIT := hide (And.intro hfit hbkl)
  obtain ⟨c, hc⟩ : ∃ c, S.cs[first + bk]? = some c := ⟨_, List.getElem?_eq_getElem (by omega)⟩
  have HC := hide hc
  have EI := hide (Dv.its_of hc)
  have hm4 : first + bk < 4096 := by have := h.law.dev.good.many; omega
  obtain ⟨xs, hxs⟩ : ∃ xs, xs = S.its (first + bk) := ⟨_, rfl⟩
  rw [← hxs] at hys ⊢
  have HXG : Hid (total xs ≤ 384 ∧ ∀ z ∈ xs, z.fits ∧ z.good = true) := by rw [hxs]; exact Dv.its_all h.law.dev.good _
  have hxl : xs.length ≤ 12 := by rw [hxs]; exact its_len h.law.dev.good _
  have HXS := hide hxs
  have HYS := hide hys
  have HWS : Hid (∀ q, q ∈ F ∨ q ∈ M.foot s → q < W.heap.size) := fun q hq => by
    rcases hq with hq | hq
    · exact h.law.dev.lt q hq
    · exact h.st.lt q hq
  have hbk6 : bk ≤ 256 := by omega
  clear h hL hS hfit hk hys hbk hc hxs hbkl hn1
  go_enter Tryz.func14, Tryz.ntmps14
  go_wp2_with fail
  refine cB.out.mono ?_
  rintro e w3 ⟨rfl, q3, rfl⟩
  have H3 := hide (H.out.below (below_q2 W q3))
  have cT := hide (list_ok H3.out HL.out HS.out.off bk c HC.out)
  clear cB
  go_wp2_with fail
  refine cT.out.mono ?_
  rintro e W4 ⟨v0, rfl, hr, hb4, k4⟩
  rw [← EI.out, ← HXS.out] at hr
  have hr' : Row W4 W.heap.size v0 xs := hr
  have H4 := hide hb4
  have K4 : Hid (Keep F W W4) := (keep_q (F := F) W q3).trans k4 (fun z hz => .inl hz)
  have HV : Hid (∀ q, v0.ownBlock = some q → W.heap.size ≤ q ∧ q < W4.heap.size) := fun q hq => hr'.lt q hq
  have cW := hide (wo_any W.heap.size v0 xs key W4 hr' (Oks.of_good HXG.out.2) (by omega))
  obtain ⟨va, vc, rfl, _, _, _, _⟩ := hr.its (Oks.of_good HXG.out.2)
  rw [← HYS.out] at cW
  clear hr hb4 k4 cT hr'
  go_wp2_with fail
  refine cW.out.mono ?_
  rintro e w5 ⟨u, rfl, hru, hku, _⟩
  have hyl : ys.length ≤ xs.length := by rw [HYS.out]; exact List.length_filter_le _ _
  have HYG : Hid (∀ z ∈ ys, z.fits ∧ z.good = true) := fun z hz => by rw [HYS.out] at hz; exact HXG.out.2 z (List.mem_filter.1 hz).1
  obtain ⟨ua, uc, rfl, hI, _, _, _⟩ := hru.its (Oks.of_good HYG.out)
  have I5 := hide hI
  have H5 : Hid (Bk w0 w5 d F (S.readDo (first + bk : Nat)) s L first M) := H4.out.keep hku (fun q hq => by
    have hq' := (HV.out q (by simpa using hq)).1
    refine ⟨fun hf => ?_, fun hf => ?_, Nat.le_trans H.out.law.bel.size hq'⟩
    · have := HWS.out q (.inl hf); omega
    · have := HWS.out q (.inr hf); omega)
  have KW5 : Hid (Keep F W w5) := K4.out.trans hku (fun q hq => .inr (HV.out q (by simpa using hq)).1)
  have hlik : Hid (Like S (S.readDo (first + bk : Nat))) := Like.read _ _
  clear hru hku hI cW
  by_cases he : ys.length = xs.length
  · have hE : Hid (ys = xs) := by
      show _ = _
      rw [HYS.out] at he ⊢
      exact List.filter_eq_self.2 (List.length_filter_eq_length_iff.1 he)
    have he2 : (ys.length : Int) = (xs.length : Int) := by omega
    go_wp2
    go_ret
    exact .inl ⟨hE.out, rfl, _, H5.out, hlik.out, KW5.out⟩
  · have hE : Hid (ys ≠ xs) := fun e => he (by rw [e])
    have he2 : ¬ (ys.length : Int) = (xs.length : Int) := by omega
    have htot : total ys ≤ 384 := by rw [HYS.out]; exact Nat.le_trans (total_filter _ _) HXG.out.1
    have cX := hide (write_any H5.out bk (by omega) ua ys.length uc ys (by omega) I5.out (by
      rw [List.all_eq_true]
      intro z hz
      exact (HYG.out z hz).2) htot)
    have hsw := sure_write (HS.out.like hlik.out) (first + bk) (by rw [hlik.out.cs]; have := HFIT.out; omega) (pgB ys) (by rw [pgB_size _ htot]; exact Nat.le_refl _)
    rw [hsw.1] at cX
    have HSW : Hid (PutD S ((S.readDo (first + bk : Nat)).writeDo ((first + bk : Nat) : Int) (pgB ys)) (first + bk) ys) := by
      rw [hsw.2]
      exact ⟨by rw [hlik.out.cs], ⟨(HS.out.like hlik.out).off, (HS.out.like hlik.out).armed⟩, hlik.out.losses⟩
    obtain ⟨n1, hn1⟩ : ∃ n1, n1 = ys.length := ⟨_, rfl⟩
    obtain ⟨n2, hn2'⟩ : ∃ n2, n2 = xs.length := ⟨_, rfl⟩
    rw [← hn1, ← hn2'] at he2
    rw [← hn1] at cX
    rw [← hn1, ← hn2']
    clear hsw htot he hyl hn1 hn2'
    go_wp2_with fail
    refine cX.out.mono ?_
    rintro e w9 ⟨rfl, F9, hb9, mv9⟩
    have H9 := hide hb9
    have M9 := hide mv9
    clear hb9 mv9 cX
    go_wp2
    go_ret
    refine .inr ⟨hE.out, rfl, F9, _, H9.out, HSW.out, KW5.out.trans M9.out.keep (fun z hz => .inl hz), fun z hz => ?_⟩
    rcases M9.out.foot z hz with h1 | h1
    · exact .inl h1
    · exact .inr (Nat.le_trans KW5.out.size h1)
end Go.Proofs.YtbccnfbombgdmaaGreat

/- A store as a law holds it: its lists. -/
set_option linter.unusedVariables false
set_option linter.unusedSimpArgs false
set_option maxRecDepth 8000
namespace Go.Proofs.YtbccnfbombgdmaaGreat
namespace Bl
theorem plc_lt {key : ByteArray} {n t : Nat} (hn : 0 < n) : ∀ i ∈ plc key n t, i < n := by
  intro i hi
  simp only [plc, upto, List.mem_map] at hi
  obtain ⟨k, _, rfl⟩ := hi
  exact pl_lt _ _ _ _ hn
theorem setB_getD : ∀ (ps : List Nat) (l : List Bool) (i : Nat), (setB l ps).getD i false = (l.getD i false || decide (i ∈ ps ∧ i < l.length))
  | [], l, i => by simp [setB]
  | p :: ps, l, i => by
    show (setB (l.set p true) ps).getD i false = _
    rw [setB_getD ps]
    simp only [List.length_set, List.getD_eq_getElem?_getD, List.getElem?_set, List.mem_cons]
    by_cases h : p = i
    · subst h
      by_cases h2 : p < l.length <;> simp [h2]
    · have h3 : ¬ i = p := fun e => h e.symm
      simp [h, h3]
end Bl
open Go.RowKit Go.Deep Math
variable {w0 W W' : World} {d s : Nat} {F F' : List Nat} {S S' : Dv} {L : Int} {first n : Nat} {M : SM} {f : Nat → List It} {bs : List (List Bool)} {G : List Nat}

def mayK (l : List Bool) (key : List UInt8) : Bool := Bl.mayB l (Bl.plc (txt key) 256 3)
theorem mayK_add {l : List Bool} (hl : l.length = 256) (x : It) : mayK (keyB l x) x.key = true := by
  unfold mayK keyB Bl.mayB
  rw [List.all_eq_true]
  intro i hi
  rw [Bl.setB_getD]
  have := Bl.plc_lt (by omega) i hi
  simp [hi]
  omega
theorem mayK_keep {l : List Bool} {key : List UInt8} (h : mayK l key = true) (x : It) : mayK (keyB l x) key = true := by
  unfold mayK keyB Bl.mayB at *
  rw [List.all_eq_true] at h ⊢
  intro i hi
  rw [Bl.setB_getD, h i hi]
  rfl
theorem mayK_fold (xs : List It) : ∀ (l : List Bool) (key : List UInt8), mayK l key = true → mayK (xs.foldl keyB l) key = true := by
  induction xs with
  | nil => intro l key h; exact h
  | cons x r ih => intro l key h; exact ih _ _ (mayK_keep h x)
theorem mayK_told : ∀ (xs : List It) (l : List Bool) (x : It), l.length = 256 → x ∈ xs → mayK (xs.foldl keyB l) x.key = true
  | [], l, x, _, hx => by simp at hx
  | z :: r, l, x, hl, hx => by
    rcases List.mem_cons.1 hx with rfl | hx
    · exact mayK_fold r _ _ (mayK_add hl _)
    · exact mayK_told r _ x (by rw [keyB_length]; exact hl) hx

/-- What is known of a store whose device's power is sure: what stands in each bucket, each filter's bits. -/
structure BuIn (w0 W : World) (d : Nat) (F : List Nat) (S : Dv) (s first n : Nat) (M : SM) (f : Nat → List It) (bs : List (List Bool)) : Prop where
  bk : Bk w0 W d F S s S.losses first M
  sure : Sure S
  len : M.fs.length = n
  n1 : 0 < n
  n2 : n ≤ 256
  fit : first + n ≤ S.cs.length
  its : ∀ k, k < n → S.its (first + k) = f k
  bits : M.fs.map (·.l) = bs
  told : ∀ k l x, bs[k]? = some l → x ∈ f k → mayK l x.key = true
def Bu (w0 W : World) (d s first n : Nat) (S : Dv) (f : Nat → List It) (bs : List (List Bool)) (G : List Nat) : Prop := ∃ F M, BuIn w0 W d F S s first n M f bs ∧ G = F ++ M.foot s
theorem BuIn.lt (h : BuIn w0 W d F S s first n M f bs) : ∀ q ∈ F ++ M.foot s, q < W.heap.size ∧ w0.heap.size ≤ q := fun q hq => by
  rcases List.mem_append.1 hq with h1 | h1
  · exact ⟨h.bk.law.dev.lt q h1, h.bk.law.low q h1⟩
  · exact ⟨h.bk.st.lt q h1, h.bk.new q h1⟩
theorem Bu.lt (h : Bu w0 W d s first n S f bs G) : ∀ q ∈ G, q < W.heap.size ∧ w0.heap.size ≤ q := by
  obtain ⟨F, M, h, rfl⟩ := h
  exact h.lt
theorem Bu.bel (h : Bu w0 W d s first n S f bs G) : Below w0.heap.size w0 W := by
  obtain ⟨F, M, h, rfl⟩ := h
  exact h.bk.law.bel
theorem Bu.below (h : Bu w0 W d s first n S f bs G) (b : Below W.heap.size W W') : Bu w0 W' d s first n S f bs G := by
  obtain ⟨F, M, h, rfl⟩ := h
  exact ⟨F, M, ⟨h.bk.below b, h.sure, h.len, h.n1, h.n2, h.fit, h.its, h.bits, h.told⟩, rfl⟩
theorem Bu.keep (h : Bu w0 W d s first n S f bs G) {H : List Nat} (k : Keep H W W') (hH : ∀ q ∈ H, q ∉ G ∧ w0.heap.size ≤ q) : Bu w0 W' d s first n S f bs G := by
  obtain ⟨F, M, h, rfl⟩ := h
  exact ⟨F, M, ⟨h.bk.keep k (fun q hq => ⟨fun hf => (hH q hq).1 (List.mem_append.2 (.inl hf)), fun hf => (hH q hq).1 (List.mem_append.2 (.inr hf)), (hH q hq).2⟩), h.sure, h.len, h.n1, h.n2, h.fit, h.its, h.bits, h.told⟩, rfl⟩
theorem moves_keep {F G : List Nat} (h : Keep F W W') (hs : ∀ x ∈ F, x ∈ G) : Moves G G W W' := Moves.of_keep (h.mono (fun x hx => .inl (hs x hx)))

theorem bu_open (h : Law w0 d F S W) (hS : Sure S) (first pages : Nat) (h1 : 1 ≤ pages) (h2 : pages ≤ 256) (h3 : first + pages ≤ S.cs.length) :
    Calls Tryz.prog 7 #[.pointer (some ⟨d, 0, none⟩), .int .i64 first, .int .i64 pages] W fun e W' => ∃ s S' G, e = .returned (.tuple #[.pointer (some ⟨s, 0, none⟩), .int .i64 0]) ∧
      Bu w0 W' d s first pages S' (fun k => S.its (first + k)) ((List.range pages).map (fun k => toldB (S.its (first + k)))) G ∧ Like S S' ∧ Moves F G W W' := by
  refine (open_ok h hS.off first pages h1 h2 h3).mono ?_
  rintro e W' ⟨s, M, S', rfl, hb, hl, hm, hk, hnew⟩
  refine ⟨s, S', F ++ M.foot s, rfl, ⟨F, M, ⟨by rw [hl.losses]; exact hb, hS.like hl, ?_, by omega, h2, by rw [hl.cs]; exact h3, fun k hk => hl.its _, hm, ?_⟩, rfl⟩, hl, hk, ?_⟩
  · have := congrArg List.length hm; simpa using this
  · intro k l x hkl hx
    rw [List.getElem?_map] at hkl
    cases hr : (List.range pages)[k]? with
    | none => rw [hr] at hkl; simp at hkl
    | some j =>
      have hj : j = k := by
        obtain ⟨a, b⟩ := List.getElem?_eq_some_iff.1 hr
        simpa using b.symm
      rw [hr] at hkl
      simp at hkl
      rw [← hkl, hj]
      exact mayK_told _ _ x (by simp) hx
  · intro q hq
    rcases List.mem_append.1 hq with h4 | h4
    · exact .inl h4
    · exact .inr (hnew q h4)

theorem its_put {k : Nat} {ys : List It} (hp : PutD S S' k ys) (hk : k < S.cs.length) (ht : total ys ≤ 384) (hg : ∀ x ∈ ys, x.fits ∧ x.good = true) (j : Nat) : S'.its j = if j = k then ys else S.its j := by
  have h1 := putAt_get S.cs k j (.whole (pgB ys))
  have e : ∀ T : Dv, T.its j = (((T.cs[j]?).map (·.now)).map Pg.its).getD [] := fun T => by
    unfold Dv.its
    cases T.cs[j]? <;> rfl
  rw [e, e, hp.cs, h1]
  by_cases h : j = k
  · rw [if_pos ⟨h, by omega⟩, if_pos h]
    simp [pgB_its ys ht hg]
  · rw [if_neg (fun h2 => h h2.1), if_neg h]
/-- What Put makes of the lists; what it leaves out. -/
def putL (n : Nat) (f : Nat → List It) (x : It) : List It := (f (bkt x.key n)).filter (notKey x.key) ++ [x]
def putF (n : Nat) (f : Nat → List It) (x : It) : Nat → List It := fun k => if k = bkt x.key n then (putL n f x).drop (ovr (putL n f x)) else f k
def outL (n : Nat) (f : Nat → List It) (x : It) : List It := (putL n f x).take (ovr (putL n f x))
theorem BuIn.f_all (h : BuIn w0 W d F S s first n M f bs) {k : Nat} (hk : k < n) : total (f k) ≤ 384 ∧ ∀ x ∈ f k, x.fits ∧ x.good = true := by
  rw [← h.its k hk]; exact Dv.its_all h.bk.law.dev.good _
theorem Bu.f_all (h : Bu w0 W d s first n S f bs G) {k : Nat} (hk : k < n) : total (f k) ≤ 384 ∧ ∀ x ∈ f k, x.fits ∧ x.good = true := by
  obtain ⟨F, M, h, rfl⟩ := h
  exact h.f_all hk

theorem bu_put (h : Bu w0 W d s first n S f bs G) (x : It) (hxf : x.fits) (hxg : x.good = true) (hx : x.size ≤ 120) :
    Calls Tryz.prog 9 #[.pointer (some ⟨s, 0, none⟩), .agg #[.string (txt x.key), .string (txt x.value), .int .u32 x.flags, .int .i64 x.exp, .int .u64 x.ver]] W fun e W' => ∃ v, e = .returned (.tuple #[v, .int .i64 0]) ∧ Row W' W.heap.size v (outL n f x) ∧ ∃ S' bs' G', Bu w0 W' d s first n S' (putF n f x) bs' G' ∧
      (∀ l, bs[bkt x.key n]? = some l → bs' = bs.set (bkt x.key n) (keyB l x)) ∧ Moves G G' W W' ∧ S'.losses = S.losses ∧ S'.cs.length = S.cs.length := by
  obtain ⟨F, M, h, rfl⟩ := h
  have hb := bkt_lt x.key n h.n1
  obtain ⟨y, hy⟩ : ∃ y, M.fs[bkt x.key n]? = some y := ⟨_, List.getElem?_eq_getElem (by rw [h.len]; exact hb)⟩
  have hy' : M.fs[bkt x.key M.fs.length]? = some y := by rw [h.len]; exact hy
  have hl1 : putL n f x = (S.its (first + bkt x.key M.fs.length)).filter (notKey x.key) ++ [x] := by rw [h.len, h.its _ hb]; rfl
  refine (put_ok h.bk rfl h.sure (by rw [h.len]; exact h.n2) (by rw [h.len]; exact h.fit) x hxf hxg hx y hy' (putL n f x) hl1).mono ?_
  rintro e W' ⟨v, rfl, hr, F', S', hb', hp, hk, hf⟩
  rw [h.len] at hb' hp
  have hbl : bs[bkt x.key n]? = some y.l := by rw [← h.bits, List.getElem?_map, hy]; rfl
  have hyl := (h.bk.st.flt y (List.mem_of_getElem? hy)).2
  have hgl : ∀ z ∈ putL n f x, z.fits ∧ z.good = true := fun z hz => by
    rcases List.mem_append.1 hz with h1 | h1
    · exact (h.f_all hb).2 z (List.mem_filter.1 h1).1
    · simp at h1; rw [h1]; exact ⟨hxf, hxg⟩
  have hits := its_put hp (by have := h.fit; omega) (ovr_fit _) (fun z hz => hgl z (List.mem_of_mem_drop hz))
  have hlen' : S'.cs.length = S.cs.length := by rw [hp.cs, putAt_length]
  refine ⟨v, rfl, hr, S', bs.set (bkt x.key n) (keyB y.l x), F' ++ SM.foot ⟨M.a, M.cap, M.fs.set (bkt x.key n) ⟨y.f, y.s, keyB y.l x⟩⟩ s, ⟨F', _, ⟨by rw [hp.losses]; exact hb', hp.sure, by simp [h.len], h.n1, h.n2, by rw [hlen']; exact h.fit, ?_, ?_, ?_⟩, rfl⟩, fun l hl => by rw [hbl] at hl; cases hl; rfl, ⟨?_, ?_⟩, hp.losses, hlen'⟩
  · intro k hkn
    rw [hits]
    unfold putF
    by_cases hk : k = bkt x.key n
    · rw [if_pos (by omega), if_pos hk]
    · rw [if_neg (by omega), if_neg hk, h.its k hkn]
  · rw [← h.bits]
    apply List.ext_getElem?
    intro i
    simp only [List.getElem?_map, List.getElem?_set, List.length_map]
    by_cases hi : bkt x.key n = i
    · subst hi; rw [if_pos rfl, if_pos rfl]; split <;> rfl
    · rw [if_neg hi, if_neg hi]
  · intro k l z hl hz
    rw [List.getElem?_set] at hl
    unfold putF at hz
    by_cases hk : bkt x.key n = k
    · rw [if_pos hk] at hl
      rw [if_pos hk.symm] at hz
      split at hl
      · simp at hl
        rw [← hl]
        have hz' := List.mem_of_mem_drop hz
        rcases List.mem_append.1 hz' with h1 | h1
        · exact mayK_keep (h.told _ y.l z hbl (List.mem_filter.1 h1).1) x
        · simp at h1; rw [h1]; exact mayK_add hyl x
      · cases hl
    · rw [if_neg hk] at hl
      rw [if_neg (fun e => hk e.symm)] at hz
      exact h.told k l z hl hz
  · refine hk.mono (fun z hz => .inl ?_)
    rcases List.mem_cons.1 hz with rfl | hz
    · exact List.mem_append.2 (.inr (SM.mem_f (List.mem_of_getElem? hy)).2)
    · exact List.mem_append.2 (.inl hz)
  · intro q hq
    rcases List.mem_append.1 hq with h1 | h1
    · rcases hf q h1 with h2 | h2
      · exact .inl (List.mem_append.2 (.inl h2))
      · exact .inr h2
    · refine .inl (List.mem_append.2 (.inr ?_))
      rcases SM.foot_inv h1 with rfl | ⟨a, ha, rfl⟩ | ⟨z, hz, hbz⟩
      · exact SM.mem_s
      · exact SM.mem_a ha
      · rcases List.mem_or_eq_of_mem_set hz with hz | rfl
        · rcases hbz with rfl | rfl
          · exact (SM.mem_f hz).1
          · exact (SM.mem_f hz).2
        · rcases hbz with rfl | rfl
          · exact (SM.mem_f (List.mem_of_getElem? hy)).1
          · exact (SM.mem_f (List.mem_of_getElem? hy)).2
/-- All, bucket by bucket. -/
def allF (n : Nat) (f : Nat → List It) : List It := (List.range n).flatMap f
theorem Bu.like (h : BuIn w0 W d F S s first n M f bs) (hb : Bk w0 W' d F S' s S.losses first M) (hl : Like S S') : BuIn w0 W' d F S' s first n M f bs :=
  ⟨by rw [hl.losses]; exact hb, h.sure.like hl, h.len, h.n1, h.n2, by rw [hl.cs]; exact h.fit, fun k hk => by rw [hl.its]; exact h.its k hk, h.bits, h.told⟩
theorem flat_congr {α β : Type} {l : List α} {p q : α → List β} (h : ∀ x ∈ l, p x = q x) : l.flatMap p = l.flatMap q := by
  induction l with
  | nil => rfl
  | cons x r ih => rw [List.flatMap_cons, List.flatMap_cons, h x (by simp), ih (fun y hy => h y (by simp [hy]))]
theorem bu_items (h : Bu w0 W d s first n S f bs G) :
    Calls Tryz.prog 19 #[.pointer (some ⟨s, 0, none⟩)] W fun e W' => ∃ v, e = .returned (.tuple #[v, .int .i64 0]) ∧ Row W' W.heap.size v (allF n f) ∧ ∃ S', Bu w0 W' d s first n S' f bs G ∧ Like S S' ∧ Moves G G W W' := by
  obtain ⟨F, M, h, rfl⟩ := h
  refine (items_ok h.bk rfl h.sure.off (by rw [h.len]; exact h.n2) (by rw [h.len]; exact h.fit)).mono ?_
  rintro e W' ⟨v, S', rfl, hr, hb, hl, hk⟩
  have e : S.all first M.fs.length = allF n f := by
    unfold Dv.all allF
    rw [h.len]
    exact flat_congr (fun k hk => h.its k (List.mem_range.1 hk))
  rw [e] at hr
  exact ⟨v, rfl, hr, S', ⟨F, M, Bu.like h hb hl, rfl⟩, hl, moves_keep hk (fun x hx => List.mem_append.2 (.inl hx))⟩
theorem bu_get (h : Bu w0 W d s first n S f bs G) (key : List UInt8) (hk : key.length ≤ maxLen) :
    Calls Tryz.prog 12 #[.pointer (some ⟨s, 0, none⟩), .string (txt key)] W fun e W' => e = .returned (getV ((f (bkt key n)).find? (isKey key))) ∧ ∃ S', Bu w0 W' d s first n S' f bs G ∧ Like S S' ∧ Moves G G W W' := by
  obtain ⟨F, M, h, rfl⟩ := h
  have hb := bkt_lt key n h.n1
  obtain ⟨y, hy⟩ : ∃ y, M.fs[bkt key n]? = some y := ⟨_, List.getElem?_eq_getElem (by rw [h.len]; exact hb)⟩
  have hbl : bs[bkt key n]? = some y.l := by rw [← h.bits, List.getElem?_map, hy]; rfl
  have ho : (f (bkt key n)).find? (isKey key) = if Bl.mayB y.l (Bl.plc (txt key) 256 3) = true then (S.its (first + bkt key M.fs.length)).find? (isKey key) else none := by
    rw [h.len, h.its _ hb]
    split
    · rfl
    · rename_i hm
      rw [List.find?_eq_none]
      intro z hz hzk
      have hzk' : z.key = key := by simpa [isKey] using hzk
      have := h.told _ y.l z hbl hz
      rw [hzk'] at this
      exact hm this
  refine (get_ok h.bk rfl h.sure.off key hk y (by rw [h.len]; exact hy) (by rw [h.len]; exact h.n2) (by rw [h.len]; exact h.fit) _ ho).mono ?_
  rintro e W' ⟨S', rfl, hb', hl, hk'⟩
  exact ⟨rfl, S', ⟨F, M, Bu.like h hb' hl, rfl⟩, hl, moves_keep hk' (fun x hx => List.mem_append.2 (.inl hx))⟩
theorem bu_may (h : Bu w0 W d s first n S f bs G) (key : List UInt8) (hk : key.length ≤ maxLen) (l : List Bool) (hl : bs[bkt key n]? = some l) :
    Calls Tryz.prog 16 #[.pointer (some ⟨s, 0, none⟩), .string (txt key)] W fun e W' => e = .returned (.bool (mayK l key)) ∧ Below W.heap.size W W' := by
  obtain ⟨F, M, h, rfl⟩ := h
  have hb := bkt_lt key n h.n1
  obtain ⟨y, hy⟩ : ∃ y, M.fs[bkt key n]? = some y := ⟨_, List.getElem?_eq_getElem (by rw [h.len]; exact hb)⟩
  have hbl : bs[bkt key n]? = some y.l := by rw [← h.bits, List.getElem?_map, hy]; rfl
  rw [hbl] at hl
  cases hl
  exact may_ok h.bk key hk y (by rw [h.len]; exact hy) (by have := h.n2; have := h.len; omega)
def dropF (n : Nat) (f : Nat → List It) (key : List UInt8) : Nat → List It := fun k => if k = bkt key n then (f k).filter (notKey key) else f k
open Classical in
theorem bu_drop (h : Bu w0 W d s first n S f bs G) (key : List UInt8) (hk : key.length ≤ maxLen) :
    Calls Tryz.prog 14 #[.pointer (some ⟨s, 0, none⟩), .string (txt key)] W fun e W' => e = .returned (.int .i64 (if (f (bkt key n)).filter (notKey key) = f (bkt key n) then 5 else 0)) ∧ ∃ S' G', Bu w0 W' d s first n S' (dropF n f key) bs G' ∧ Moves G G' W W' ∧ S'.losses = S.losses ∧ S'.cs.length = S.cs.length := by
  obtain ⟨F, M, h, rfl⟩ := h
  have hb := bkt_lt key n h.n1
  have hys : (f (bkt key n)).filter (notKey key) = (S.its (first + bkt key M.fs.length)).filter (notKey key) := by rw [h.len, h.its _ hb]
  refine (drop_ok h.bk rfl h.sure (by rw [h.len]; exact h.n1) (by rw [h.len]; exact h.n2) (by rw [h.len]; exact h.fit) key hk _ hys).mono ?_
  rw [h.len, h.its _ hb]
  rintro e W' (⟨he, rfl, S', hb', hl, hk'⟩ | ⟨he, rfl, F', S', hb', hp, hk', hf⟩)
  · have hd : dropF n f key = f := by
      funext k
      unfold dropF
      split
      · rename_i hk2; rw [hk2]; exact he
      · rfl
    rw [hd, if_pos he]
    exact ⟨rfl, S', F ++ M.foot s, ⟨F, M, Bu.like h hb' hl, rfl⟩, moves_keep hk' (fun x hx => List.mem_append.2 (.inl hx)), hl.losses, by rw [hl.cs]⟩
  · rw [if_neg he]
    have hgl : ∀ z ∈ (f (bkt key n)).filter (notKey key), z.fits ∧ z.good = true := fun z hz => (h.f_all hb).2 z (List.mem_filter.1 hz).1
    have hits := its_put hp (by have := h.fit; omega) (Nat.le_trans (total_filter _ _) (h.f_all hb).1) hgl
    have hlen' : S'.cs.length = S.cs.length := by rw [hp.cs, putAt_length]
    refine ⟨rfl, S', F' ++ M.foot s, ⟨F', M, ⟨by rw [hp.losses]; exact hb', hp.sure, h.len, h.n1, h.n2, by rw [hlen']; exact h.fit, ?_, h.bits, ?_⟩, rfl⟩, ⟨hk'.mono (fun z hz => .inl (List.mem_append.2 (.inl hz))), ?_⟩, hp.losses, hlen'⟩
    · intro k hkn
      rw [hits]
      unfold dropF
      by_cases hk2 : k = bkt key n
      · rw [if_pos (by omega), if_pos hk2, hk2]
      · rw [if_neg (by omega), if_neg hk2, h.its k hkn]
    · intro k l z hl hz
      unfold dropF at hz
      split at hz
      · exact h.told k l z hl (List.mem_filter.1 hz).1
      · exact h.told k l z hl hz
    · intro q hq
      rcases List.mem_append.1 hq with h1 | h1
      · rcases hf q h1 with h2 | h2
        · exact .inl (List.mem_append.2 (.inl h2))
        · exact .inr h2
      · exact .inl (List.mem_append.2 (.inr h1))
end Go.Proofs.YtbccnfbombgdmaaGreat

/- The items of the examples. -/
set_option linter.unusedVariables false
set_option linter.unusedSimpArgs false
set_option maxRecDepth 8000
namespace Go.Proofs.YtbccnfbombgdmaaGreat
open Go.RowKit Go.Deep Math
variable {w0 W W' : World} {d s : Nat} {F F' : List Nat} {S S' : Dv} {L : Int} {first n : Nat} {M : SM} {f : Nat → List It} {bs : List (List Bool)} {G : List Nat}

def exI (k : UInt8) (v : Nat) : It := ⟨[k], [118], 0, 0, v⟩
theorem exI_ok (k : UInt8) (v : Nat) (h1 : 0 < v) (h2 : v < 18446744073709551616) : (exI k v).fits ∧ (exI k v).good = true ∧ (exI k v).size ≤ 120 := by
  refine ⟨⟨by simp [exI], by simp [exI], by simp [exI], h2⟩, ?_, by simp [exI, It.size]⟩
  rw [It.good_iff]
  exact ⟨by simp [exI], by simp [exI], by simp [exI], h1⟩
set_option maxHeartbeats 1000000 in
theorem it_any (kb : ByteArray) (v : Nat) (w : World) : Calls Tryz.prog 22 #[.string kb, .int .u64 (v : Int)] w fun e w' => e = .returned (.agg #[.string kb, .string ⟨#[118]⟩, .int .u32 0, .int .i64 0, .int .u64 (v : Int)]) ∧ w' = w.alloc (.cells #[.string kb, .string ⟨#[118]⟩, .int .u32 0, .int .i64 0, .int .u64 (v : Int)] 39) := by
  go_enter Tryz.func22, Tryz.ntmps22
  go_wp2
  exact bodyPost_ret (v := .agg #[.string kb, .string ⟨#[118]⟩, .int .u32 0, .int .i64 0, .int .u64 (v : Int)]) (by simp [results, Tryz.results22, go_sem]) rfl ⟨rfl, rfl⟩
theorem bkt_one (key : List UInt8) : bkt key 1 = 0 := by
  have := bkt_lt key 1 (by omega)
  omega
theorem ovr_zero {xs : List It} (h : total xs ≤ 384) : ovr xs = 0 := by
  cases xs with
  | nil => rfl
  | cons x r => rw [ovr, if_neg (by omega)]
theorem zebra_no : mayK (keyB (keyB (keyB (List.replicate 256 false) (exI 97 1)) (exI 98 2)) (exI 97 3)) [122, 101, 98, 114, 97] = false := by decide +kernel
end Go.Proofs.YtbccnfbombgdmaaGreat
