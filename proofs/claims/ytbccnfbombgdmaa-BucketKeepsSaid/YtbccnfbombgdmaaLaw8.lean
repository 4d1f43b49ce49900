/- Joined texts: Cut8, Lst8, Apt8, Fst8, Kps8. -/
import Derived.Test.YtbccnfbombgdmaaAwake
import Derived.Test.YtbccnfbombgdmaaRRow
import Derived.ChangeSlices
import Derived.SizedLaws
import Derived.OpenShut
/- A power that goes; Put of any item; a store as it is behind a loss of power. -/
set_option linter.unusedVariables false
set_option linter.unusedSimpArgs false
set_option maxRecDepth 8000
namespace Go.Proofs.Ytbccnfbombgdmaa
open Go.RowKit Go.Deep Go.ChangeShapes Go.WideShapes Math

theorem wfi64' {z : Int} (h : (Lit.int .i64 z).wf = true) : -9223372036854775808 ≤ z ∧ z ≤ 9223372036854775807 := by
  have h1 : IntKind.i64.min = -9223372036854775808 := rfl
  have h2 : IntKind.i64.max = 9223372036854775807 := rfl
  simp [Lit.wf, h1, h2] at h
  omega
theorem u8_wf {z : Int} (h : (Lit.int .u8 z).wf = true) : 0 ≤ z ∧ z < 256 := by
  have h1 : IntKind.u8.min = 0 := rfl
  have h2 : IntKind.u8.max = 255 := rfl
  simp [Lit.wf, h1, h2] at h
  omega
theorem cells5 : Try.prog.cellsOf 5 = 1 := by kernel_rfl
theorem bytes5 : Try.prog.bytesOf 5 = 1 := by kernel_rfl
theorem bytes_open {H : Type} {enc : TypeId × Value → H} {W : World} {fuel : Nat} {a0 : Option Addr} {n0 c0 : Nat} {x : DataW H × List MemPlace} (h : DataW.trod enc Try.prog W 0 (fun _ => true) true fuel 37 [.slice a0 n0 c0] = some x)
    (hw : ∀ n ∈ x.1.weights Try.prog 37, n ≤ reachBytes) :
    ∃ l : List UInt8, BS W a0 n0 c0 l ∧ (a0 = none → l = []) ∧ n0 ≤ 140737488351232 := by
  rcases open_ints Try.underlying37 Try.underlying5 cells5 h with ⟨hcs, _⟩ | ⟨a, len, cap, zs, hcs, _, hl, hm, hz, hx, hcell, hwz⟩
  · simp at hcs
    obtain ⟨rfl, rfl, rfl⟩ := hcs
    exact ⟨[], BS.mk' rfl (Nat.le_refl _) (Reads.nil _ _), fun _ => rfl, Nat.zero_le _⟩
  · simp only [List.cons.injEq, Value.slice.injEq, and_true] at hcs
    obtain ⟨rfl, rfl, rfl⟩ := hcs
    have hz' : zs.length = c0 := by simpa using hz
    have hb : (zs.take n0).length + (zs.drop n0).length ≤ reachBytes := by
      have := hw (((lits (H := H) .u8 (zs.take n0)).length + (lits (H := H) .u8 (zs.drop n0)).length) * Try.prog.bytesOf 5) (by rw [hx]; simp [DataW.weights, Try.underlying37])
      rw [bytes5] at this
      simpa [lits] using this
    have hlen : ((zs.take n0).map (fun z => UInt8.ofNat z.toNat)).length = n0 := by simp; omega
    have e8 : ∀ j, j < n0 → (((zs.take n0).map (fun z => UInt8.ofNat z.toNat)).getD j 0).toNat = zs.getD j 0 := fun j hj => by
      have hmem : zs.getD j 0 ∈ zs := by rw [List.getD_eq_getElem?_getD, List.getElem?_eq_getElem (by omega)]; exact List.getElem_mem _
      have hb := u8_wf (hwz _ hmem)
      have e1 : ((zs.take n0).map (fun z => UInt8.ofNat z.toNat)).getD j 0 = UInt8.ofNat (zs.getD j 0).toNat := by
        simp [List.getD_eq_getElem?_getD, List.getElem?_eq_getElem (show j < zs.length by omega), List.getElem?_take_of_lt hj]
      rw [e1, UInt8.toNat_ofNat']
      have e2 : ((zs.getD j 0).toNat % 2 ^ 8 : Nat) = (zs.getD j 0).toNat := Nat.mod_eq_of_lt (by omega)
      rw [e2]
      omega
    refine ⟨(zs.take n0).map (fun z => UInt8.ofNat z.toNat), BS.mk' hlen.symm hl ⟨fun i hi => ?_, fun i => ?_⟩, (fun h => by cases h), ?_⟩
    · rw [ints_length, hlen] at hi
      have c0' := hcell 0 (by omega)
      have hspot : a.spot = none := by simpa [Addr.add] using World.cell?_spot c0'
      obtain ⟨b, off, sp⟩ := a
      simp only at hspot
      subst hspot
      refine ⟨b, off, rfl, ?_⟩
      have cj := hcell i (by omega)
      rw [Addr.add_lit] at cj
      rw [cj, ints_getD, e8 i hi]
    · rw [ints_getD]
      have := (((zs.take n0).map (fun z => UInt8.ofNat z.toNat)).getD i 0).toNat_lt
      omega
    · have e : reachBytes = 140737488351232 := by decide
      simp at hb
      omega
theorem crash_law {w0 W : World} {d : Nat} {F : List Nat} {S : Dv} (h : Law w0 d F S W) {a : Option Addr} {n cap : Nat} {l : List UInt8} (hb : BS w0 a n cap l) (hnil : a = none → l = []) (hn : n ≤ 140737488351232) :
    Calls Try.prog 20 #[.pointer (some ⟨d, 0, none⟩), .slice a n cap] W fun e W' => e = .returned (.tuple #[]) ∧ ∃ F', Law w0 d F' (S.crash l) W' ∧ Moves F F' W W' := by
  have hb' := hb.later h.bel
  have hex : ∃ bb, BSlice W a l bb ∧ (l ≠ [] → bb ∉ F) := by
    cases a with
    | none => exact ⟨0, .inl (hnil rfl), fun hl => absurd (hnil rfl) hl⟩
    | some x =>
      by_cases hl : l = []
      · exact ⟨0, .inl hl, fun h => absurd hl h⟩
      · have hpos : 0 < l.length := List.length_pos_iff.2 hl
        obtain ⟨b', o', ha, hlt, hc⟩ := hb.cell 0 (by have := hb.len; omega)
        cases ha
        exact ⟨b', hb'.slice, fun _ hf => by have := h.low _ hf; omega⟩
  obtain ⟨bb, h1, h2⟩ := hex
  refine (crash_at d F S a n cap bb l hb.len (by omega) W h1 h2 h.dev).mono ?_
  rintro e W' ⟨rfl, F', hd, m⟩
  exact ⟨rfl, F', h.move hd m, m⟩
theorem on_law {w0 W : World} {d : Nat} {F : List Nat} {S : Dv} (h : Law w0 d F S W) :
    Calls Try.prog 22 #[.pointer (some ⟨d, 0, none⟩)] W fun e W' => e = .returned (.tuple #[]) ∧ ∃ F', Law w0 d F' S.on W' ∧ Moves F F' W W' := by
  refine (on_at d F S W h.dev).mono ?_
  rintro e W' ⟨rfl, F', hd, m⟩
  exact ⟨rfl, F', h.move hd m, m⟩


theorem settle_id : ∀ (A : List Cl) (ps : List UInt8), (∀ c ∈ A, c.last = none) → settle A ps = A
  | [], ps, _ => rfl
  | c :: r, ps, h => by
    rw [settle, h c (by simp)]
    simp only
    rw [settle_id r ps (fun x hx => h x (by simp [hx]))]
theorem its_cs {S S' : Dv} (h : S'.cs = S.cs) (k : Nat) : S'.its k = S.its k := by unfold Dv.its; rw [h]
theorem its_flush {S S' : Dv} (h : S'.cs = S.cs.map Cl.flush) (k : Nat) : S'.its k = S.its k := by
  unfold Dv.its
  rw [h, List.getElem?_map]
  cases S.cs[k]? <;> rfl
theorem moves_app {F F' : List Nat} {W W' : World} (m : Moves F F' W W') (A : List Nat) : Moves (F ++ A) (F' ++ A) W W' :=
  ⟨m.keep.mono (fun k hk => .inl (List.mem_append.2 (.inl hk))), fun k hk => by
    rcases List.mem_append.1 hk with h | h
    · rcases m.foot k h with h1 | h1
      · exact .inl (List.mem_append.2 (.inl h1))
      · exact .inr h1
    · exact .inl (List.mem_append.2 (.inr h))⟩
variable {w0 W W' : World} {d s : Nat} {F F' : List Nat} {S S' : Dv} {L : Int} {first n : Nat} {M : SM} {f : Nat → List It} {bs : List (List Bool)} {G : List Nat}
theorem Row.sl {w : World} {base : Nat} {v : Value} {xs : List It} (h : Row w base v xs) : ∃ a c, v = .slice a xs.length c := by
  rcases h.form with ⟨rfl, rfl⟩ | ⟨g, cap, pad, rfl, _⟩
  · exact ⟨none, 0, rfl⟩
  · exact ⟨_, cap, rfl⟩
/-- Put of any item. -/
def PutEnd (w0 : World) (d s first n : Nat) (S : Dv) (f : Nat → List It) (bs : List (List Bool)) (G : List Nat) (x : It) (W W' : World) (va : Option Addr) (vn vc : Nat) (er : Int) : Prop :=
  ∃ S' f' bs' G', Bu w0 W' d s first n S' f' bs' G' ∧ Moves G G' W W' ∧ S'.losses = S.losses ∧ S'.cs.length = S.cs.length ∧
    ((er = 1 ∧ f' = f ∧ bs' = bs ∧ va = none ∧ vn = 0 ∧ vc = 0 ∧ (x.good = false ∨ 120 < x.size)) ∨ (er = 0 ∧ x.good = true ∧ x.size ≤ 120 ∧ f' = putF n f x ∧ (∀ l, bs[bkt x.key n]? = some l → bs' = bs.set (bkt x.key n) (keyB l x)) ∧ vn = (outL n f x).length ∧ Row W' W.heap.size (.slice va vn vc) (outL n f x)))
theorem bu_any (h : Bu w0 W d s first n S f bs G) (x : It) (hxf : x.fits) :
    Calls Try.prog 11 #[.pointer (some ⟨s, 0, none⟩), .agg #[.string (txt x.key), .string (txt x.value), .int .u32 x.flags, .int .i64 x.exp, .int .u64 x.ver]] W fun e W' => ∃ va vn vc er, e = .returned (.tuple #[.slice va vn vc, .int .i64 er]) ∧ PutEnd w0 d s first n S f bs G x W W' va vn vc er := by
  by_cases hok : x.good = true ∧ x.size ≤ 120
  · refine (bu_put h x hxf hok.1 hok.2).mono ?_
    rintro e W' ⟨v, rfl, hr, S', bs', G', hb, hbs, hm, hl, hc⟩
    obtain ⟨a, c, rfl⟩ := hr.sl
    exact ⟨a, _, c, 0, rfl, S', _, bs', G', hb, hm, hl, hc, .inr ⟨rfl, hok.1, hok.2, rfl, hbs, rfl, hr⟩⟩
  · have hbad : x.good = false ∨ 120 < x.size := by
      by_cases hg : x.good = true
      · exact .inr (by have : ¬ x.size ≤ 120 := fun h => hok ⟨hg, h⟩; omega)
      · exact .inl (by simpa using hg)
    refine (put_bad s x hbad W).mono ?_
    rintro e W' ⟨rfl, b⟩
    exact ⟨none, 0, 0, 1, rfl, S, f, bs, G, h.below b, Moves.of_keep (Keep.of_below b), rfl, rfl, .inl ⟨rfl, rfl, rfl, rfl, rfl, rfl, hbad⟩⟩

theorem bu_flush (h : Bu w0 W d s first n S f bs G) :
    Calls Try.prog 19 #[.pointer (some ⟨d, 0, none⟩)] W fun e W' => e = .returned (.int .i64 0) ∧ ∃ S' G', Bu w0 W' d s first n S' f bs G' ∧ Moves G G' W W' ∧ S'.losses = S.losses ∧ S'.cs.length = S.cs.length ∧ ∀ c ∈ S'.cs, c.last = none := by
  obtain ⟨F, M, h, rfl⟩ := h
  refine (flush_at d F S W h.bk.law.dev).mono ?_
  rintro e W' ⟨rfl, F', hd, m⟩
  have e1 : S.flushErr = 0 := by simp [Dv.flushErr, h.sure.gone]
  have e2 : S.flushDo = { S with cs := S.cs.map Cl.flush, fl := wrap64 (S.fl + 1) } := by
    unfold Dv.flushDo
    rw [h.sure.gone, h.sure.used]
    rfl
  rw [e2] at hd
  rw [e1]
  refine ⟨rfl, { S with cs := S.cs.map Cl.flush, fl := wrap64 (S.fl + 1) }, F' ++ M.foot s, ⟨F', M, ⟨h.bk.move hd m, ⟨h.sure.off, h.sure.armed⟩, h.len, h.n1, h.n2, ?_, ?_, h.bits, h.told⟩, rfl⟩, moves_app m _, rfl, ?_, ?_⟩
  · show first + n ≤ (S.cs.map Cl.flush).length
    rw [List.length_map]; exact h.fit
  · intro k hk
    rw [its_flush (S := S) rfl]
    exact h.its k hk
  · show (S.cs.map Cl.flush).length = _
    rw [List.length_map]
  · intro c hc
    have hc' : c ∈ S.cs.map Cl.flush := hc
    obtain ⟨c0, _, rfl⟩ := List.mem_map.1 hc'
    rfl

/-- A store whose device lost its power since it was opened; nothing was under way then. -/
structure GoneIn (w0 W : World) (d : Nat) (F : List Nat) (S : Dv) (s : Nat) (L : Int) (first n : Nat) (M : SM) (f : Nat → List It) : Prop where
  bk : Bk w0 W d F S s L first M
  loss : S.losses ≠ L
  len : M.fs.length = n
  n1 : 0 < n
  n2 : n ≤ 256
  fit : first + n ≤ S.cs.length
  its : ∀ k, k < n → S.its (first + k) = f k
  clean : ∀ c ∈ S.cs, c.last = none
def Gone (w0 W : World) (d s : Nat) (L : Int) (first n : Nat) (S : Dv) (f : Nat → List It) (G : List Nat) : Prop := ∃ F M, GoneIn w0 W d F S s L first n M f ∧ G = F ++ M.foot s
theorem Gone.below (h : Gone w0 W d s L first n S f G) (b : Below W.heap.size W W') : Gone w0 W' d s L first n S f G := by
  obtain ⟨F, M, h, rfl⟩ := h
  exact ⟨F, M, ⟨h.bk.below b, h.loss, h.len, h.n1, h.n2, h.fit, h.its, h.clean⟩, rfl⟩
theorem bu_crash (h : Bu w0 W d s first n S f bs G) (hc : ∀ c ∈ S.cs, c.last = none) (hl : S.losses = 0) {a : Option Addr} {m cap : Nat} {l : List UInt8} (hb : BS w0 a m cap l) (hnil : a = none → l = []) (hm : m ≤ 140737488351232) :
    Calls Try.prog 20 #[.pointer (some ⟨d, 0, none⟩), .slice a m cap] W fun e W' => e = .returned (.tuple #[]) ∧ ∃ S' G', Gone w0 W' d s 0 first n S' f G' ∧ Moves G G' W W' ∧ S'.losses = 1 := by
  obtain ⟨F, M, h, rfl⟩ := h
  refine (crash_law h.bk.law hb hnil hm).mono ?_
  rintro e W' ⟨rfl, F', hd, mv⟩
  have ecs : (S.crash l).cs = S.cs := settle_id _ _ hc
  have els : (S.crash l).losses = 1 := by show wrap64 (S.losses + 1) = 1; rw [hl]; decide +kernel
  have hbk := h.bk.move hd.dev mv
  rw [hl] at hbk
  refine ⟨rfl, S.crash l, F' ++ M.foot s, ⟨F', M, ⟨hbk, by rw [els]; decide, h.len, h.n1, h.n2, by rw [ecs]; exact h.fit, fun k hk => by rw [its_cs ecs]; exact h.its k hk, by rw [ecs]; exact hc⟩, rfl⟩, moves_app mv _, els⟩
theorem gone_on (h : Gone w0 W d s 0 first n S f G) (hl : S.losses = 1) :
    Calls Try.prog 22 #[.pointer (some ⟨d, 0, none⟩)] W fun e W' => e = .returned (.tuple #[]) ∧ ∃ S' G', Gone w0 W' d s 0 first n S' f G' ∧ Moves G G' W W' ∧ Sure S' := by
  obtain ⟨F, M, h, rfl⟩ := h
  refine (on_law h.bk.law).mono ?_
  rintro e W' ⟨rfl, F', hd, mv⟩
  have ecs : S.on.cs = S.cs := settle_id _ _ h.clean
  have els : S.on.losses = 2 := by show wrap64 (S.losses + 1) = 2; rw [hl]; decide +kernel
  exact ⟨rfl, S.on, F' ++ M.foot s, ⟨F', M, ⟨h.bk.move hd.dev mv, by rw [els]; decide, h.len, h.n1, h.n2, by rw [ecs]; exact h.fit, fun k hk => by rw [its_cs ecs]; exact h.its k hk, by rw [ecs]; exact h.clean⟩, rfl⟩, moves_app mv _, ⟨rfl, rfl⟩⟩
theorem gone_items (h : Gone w0 W d s L first n S f G) :
    Calls Try.prog 18 #[.pointer (some ⟨s, 0, none⟩)] W fun e W' => e = .returned (.tuple #[.slice none 0 0, .int .i64 4]) ∧ Below W.heap.size W W' := by
  obtain ⟨F, M, h, rfl⟩ := h
  exact items_done h.bk h.loss (by rw [h.len]; exact h.n1) (by rw [h.len]; exact h.n2)
theorem gone_put (h : Gone w0 W d s L first n S f G) (x : It) (hxg : x.good = true) (hx : x.size ≤ 120) :
    Calls Try.prog 11 #[.pointer (some ⟨s, 0, none⟩), .agg #[.string (txt x.key), .string (txt x.value), .int .u32 x.flags, .int .i64 x.exp, .int .u64 x.ver]] W fun e W' => e = .returned (.tuple #[.slice none 0 0, .int .i64 4]) ∧ Below W.heap.size W W' := by
  obtain ⟨F, M, h, rfl⟩ := h
  exact put_done h.bk h.loss (by rw [h.len]; exact h.n1) (by rw [h.len]; exact h.n2) x hxg hx
theorem all_congr {n : Nat} {f g : Nat → List It} (h : ∀ k, k < n → f k = g k) : allF n f = allF n g := flat_congr (fun k hk => h k (List.mem_range.1 hk))
theorem gone_open (h : Gone w0 W d s L first n S f G) (hS : Sure S) :
    Calls Try.prog 10 #[.pointer (some ⟨d, 0, none⟩), .int .i64 first, .int .i64 n] W fun e W' => ∃ t S' f' bs' G', e = .returned (.tuple #[.pointer (some ⟨t, 0, none⟩), .int .i64 0]) ∧ Bu w0 W' d t first n S' f' bs' G' ∧ allF n f' = allF n f ∧ ∀ base v xs, RowA G W base v xs → RowA G' W' base v xs := by
  obtain ⟨F, M, h, rfl⟩ := h
  refine (bu_open h.bk.law hS first n h.n1 h.n2 h.fit).mono ?_
  rintro e W' ⟨t, S', G', rfl, hb, hl, mv⟩
  refine ⟨t, S', _, _, G', rfl, hb, all_congr h.its, fun base v xs hr => RowA.move (G := F) ⟨hr.row, fun q hq hf => hr.off q hq (List.mem_append.2 (.inl hf))⟩ mv⟩
theorem Bu.oks (h : Bu w0 W d s first n S f bs G) : Oks (allF n f) ∧ total (allF n f) ≤ n * 384 := by
  have key : ∀ m, m ≤ n → Oks ((List.range m).flatMap f) ∧ total ((List.range m).flatMap f) ≤ m * 384 := by
    intro m
    induction m with
    | zero => intro _; exact ⟨fun x hx => by simp at hx, by simp [total]⟩
    | succ m ih =>
      intro hm
      obtain ⟨h1, h2⟩ := ih (by omega)
      obtain ⟨h3, h4⟩ := h.f_all (k := m) (by omega)
      rw [List.range_succ, List.flatMap_append, List.flatMap_cons, List.flatMap_nil, List.append_nil]
      refine ⟨fun x hx => ?_, ?_⟩
      · rcases List.mem_append.1 hx with hx | hx
        · exact h1 x hx
        · obtain ⟨hf, hg⟩ := h4 x hx
          rw [It.good_iff] at hg
          have := hg.2.1
          have := hg.2.2.1
          exact ⟨hf, by omega, by omega⟩
      · rw [total_append, Nat.succ_mul]; omega
  exact key n (Nat.le_refl _)
end Go.Proofs.Ytbccnfbombgdmaa

/- The laws' own functions over rows of items: without, others, total. -/
set_option linter.unusedVariables false
set_option linter.unusedSimpArgs false
set_option maxRecDepth 8000
namespace Go.Proofs.Ytbccnfbombgdmaa
open Go.RowKit Go.Deep Math

theorem app_one {w : World} {base : Nat} {v : Value} {xs : List It} (h : Row w base v xs) (x : It) (hx : Oks [x]) (hn : xs.length + 1 ≤ 1048576) (hb : base ≤ w.heap.size) :
    ∃ va vn vc w', (Builtin.append_ #[30, 30] 30 #[v, .slice (some ⟨w.heap.size, 0, none⟩) 1 1]).run Try.prog (w.alloc (.cells #[.string (txt x.key), .string (txt x.value), .int .u32 x.flags, .int .i64 x.exp, .int .u64 x.ver] 36)) = .ok (.slice va vn vc) w' ∧ vn = xs.length + 1 ∧ Row w' base (.slice va vn vc) (xs ++ [x]) ∧ Keep v.ownBlock.toList w w' := by
  have hbk : Blk (w.alloc (.cells #[.string (txt x.key), .string (txt x.value), .int .u32 x.flags, .int .i64 x.exp, .int .u64 x.ver] 36)) w.heap.size (itCells x) 36 := Blk.new w _ 36
  have hI : ItsAt (w.alloc (.cells #[.string (txt x.key), .string (txt x.value), .int .u32 x.flags, .int .i64 x.exp, .int .u64 x.ver] 36)) (some ⟨w.heap.size, 0, none⟩) [x].length [x] := its_blk (pad := []) (by simpa [itsCells] using hbk) rfl hx
  have b := (Below.refl w.heap.size w).alloc (Nat.le_refl _) (.cells #[.string (txt x.key), .string (txt x.value), .int .u32 x.flags, .int .i64 x.exp, .int .u64 x.ver] 36)
  obtain ⟨v', w2, h1, h2, h3, _⟩ := run_app (c := 1) (h.below b) hI (by simp; omega) (Nat.le_trans hb b.size)
  obtain ⟨va, vc, rfl⟩ := h2.sl
  refine ⟨va, _, vc, w2, h1 30, by simp, h2, ?_⟩
  have k1 : Keep v.ownBlock.toList w (w.alloc (.cells #[.string (txt x.key), .string (txt x.value), .int .u32 x.flags, .int .i64 x.exp, .int .u64 x.ver] 36)) := Keep.of_below b
  exact k1.trans ⟨h3.os, h3.tape, h3.output, h3.size, fun q hq hn => h3.block q hq (fun e => hn (by rw [← e]; simp))⟩ (fun q hq => .inl hq)
theorem row_keep_bel {w0 w w' : World} {v : Value} {xs : List It} (hr : Row w w0.heap.size v xs) (hb : Below w0.heap.size w0 w) (k : Keep v.ownBlock.toList w w') : Below w0.heap.size w0 w' :=
  hb.trans (k.below (fun q hq => (hr.lt q (by simpa using hq)).1) hb.size)

set_option maxHeartbeats 4000000 in
theorem without_any (a : Option Addr) (n cap : Nat) (xs : List It) (key : List UInt8) (hn : n ≤ 1000) (w : World) (h : ItsAt w a n xs) :
    Calls Try.prog 15 #[.slice a n cap, .string (txt key)] w fun e w' => ∃ va vn vc, e = .returned (.slice va vn vc) ∧ vn = (xs.filter (notKey key)).length ∧ Row w' w.heap.size (.slice va vn vc) (xs.filter (notKey key)) ∧ Below w.heap.size w w' := by
  have H := hide h
  have HL := hide h.len
  clear h
  go_enter Try.func15, Try.ntmps15
  go_wp2_with fail
  go_loopg [5, 6] n (fun kx s5 s6 wr => ∃ (i : Nat) (va : Option Addr) (vn vc : Nat), s5 = .slice va vn vc ∧ s6 = .int .i64 i ∧ i ≤ n ∧ n - i ≤ kx ∧ Hid (vn = ((xs.take i).filter (notKey key)).length ∧ Row wr w.heap.size (.slice va vn vc) ((xs.take i).filter (notKey key)) ∧ Below w.heap.size w wr))
  case atStart => exact ⟨0, none, 0, 0, rfl, rfl, Nat.zero_le _, by omega, rfl, Row.nil _ _, Below.refl _ _⟩
  case round =>
    obtain ⟨i, va, vn, vc, rfl, rfl, hin, hg, I⟩ := hrel
    by_cases hlt : i < n
    · have hlt2 : (i : Int) < (n : Int) := by omega
      obtain ⟨x, hx⟩ : ∃ x, xs[i]? = some x := ⟨_, List.getElem?_eq_getElem (by rw [← HL.out]; exact hlt)⟩
      obtain ⟨b, o, rfl, hb, hc⟩ := (H.out.below I.out.2.2).cell i x hx
      obtain ⟨c0, c1, c2, c3, c4⟩ := hc.vals
      have HT : Hid (xs.take (i + 1) = xs.take i ++ [x]) := by show _ = _; rw [List.take_add_one, hx]; rfl
      have HO : Hid (Oks [x]) := fun z hz => by simp at hz; rw [hz]; exact H.out.fits x (List.mem_of_getElem? hx)
      have he : ((txt x.key).toList == (txt key).toList) = decide (x.key = key) := by rw [txt_list, txt_list]; by_cases h : x.key = key <;> simp [h]
      clear hc hx hb
      by_cases hk : x.key = key
      · rw [decide_eq_true hk] at he
        have E : Hid ((xs.take (i + 1)).filter (notKey key) = (xs.take i).filter (notKey key)) := by show _ = _; rw [HT.out]; simp [notKey, hk]
        clear hk HT
        go_wp2
        go_roundg (n - (i + 1))
        case measure => omega
        case rel => exact ⟨i + 1, va, vn, vc, rfl, rfl, by omega, by omega, by rw [E.out]; exact I.out⟩
      · rw [decide_eq_false hk] at he
        have E : Hid ((xs.take (i + 1)).filter (notKey key) = (xs.take i).filter (notKey key) ++ [x]) := by show _ = _; rw [HT.out]; simp [notKey, hk]
        have hfl : ((xs.take i).filter (notKey key)).length ≤ 1000 := by
          have h1 := List.length_filter_le (notKey key) (xs.take i)
          have h2 : (xs.take i).length ≤ i := by rw [List.length_take]; omega
          omega
        obtain ⟨ua, un, uc, w2, hrun, hun, hrow, hkp⟩ := app_one I.out.2.1 x HO.out (by omega) I.out.2.2.size
        have HR := hide hrun
        have T : Hid (un = ((xs.take (i + 1)).filter (notKey key)).length ∧ Row w2 w.heap.size (.slice ua un uc) ((xs.take (i + 1)).filter (notKey key)) ∧ Below w.heap.size w w2) := by
          refine ⟨by rw [E.out, hun]; simp, by rw [E.out]; exact hrow, row_keep_bel I.out.2.1 I.out.2.2 hkp⟩
        clear hk HT hrun hun hrow hkp hfl
        go_wp2_with (at_builtin; refine Lib.wpList_append_run _ rfl _ _ _ _ rfl _ _ rfl rfl _ _ HR.out ?_)
        go_roundg (n - (i + 1))
        case measure => omega
        case rel => exact ⟨i + 1, ua, un, uc, rfl, rfl, by omega, by omega, T.out⟩
    · obtain rfl : i = n := by omega
      have hlt2 : ¬ (i : Int) < (i : Int) := by omega
      have I' := I.out
      rw [HL.out, List.take_length] at I'
      have II := hide I'
      clear I'
      go_wp2
      go_ret
      exact ⟨va, vn, vc, rfl, II.out⟩

/-- An item stands in another bucket than the one told. -/
def notAt (home : Int) (x : It) : Bool := decide (Bl.hashK (txt x.key) % 4 ≠ home)
set_option maxHeartbeats 4000000 in
theorem others_any (a : Option Addr) (n cap : Nat) (xs : List It) (home : Int) (hn : n ≤ 1000) (w : World) (h : ItsAt w a n xs) :
    Calls Try.prog 25 #[.slice a n cap, .int .u64 home] w fun e w' => ∃ va vn vc, e = .returned (.slice va vn vc) ∧ vn = (xs.filter (notAt home)).length ∧ Row w' w.heap.size (.slice va vn vc) (xs.filter (notAt home)) ∧ Below w.heap.size w w' := by
  have H := hide h
  have HL := hide h.len
  clear h
  go_enter Try.func25, Try.ntmps25
  go_wp2_with fail
  go_loopg [5, 6] n (fun kx s5 s6 wr => ∃ (i : Nat) (va : Option Addr) (vn vc : Nat), s5 = .slice va vn vc ∧ s6 = .int .i64 i ∧ i ≤ n ∧ n - i ≤ kx ∧ Hid (vn = ((xs.take i).filter (notAt home)).length ∧ Row wr w.heap.size (.slice va vn vc) ((xs.take i).filter (notAt home)) ∧ Below w.heap.size w wr))
  case atStart => exact ⟨0, none, 0, 0, rfl, rfl, Nat.zero_le _, by omega, rfl, Row.nil _ _, Below.refl _ _⟩
  case round =>
    obtain ⟨i, va, vn, vc, rfl, rfl, hin, hg, I⟩ := hrel
    by_cases hlt : i < n
    · have hlt2 : (i : Int) < (n : Int) := by omega
      obtain ⟨x, hx⟩ : ∃ x, xs[i]? = some x := ⟨_, List.getElem?_eq_getElem (by rw [← HL.out]; exact hlt)⟩
      obtain ⟨b, o, rfl, hb, hc⟩ := (H.out.below I.out.2.2).cell i x hx
      obtain ⟨c0, c1, c2, c3, c4⟩ := hc.vals
      have HT : Hid (xs.take (i + 1) = xs.take i ++ [x]) := by show _ = _; rw [List.take_add_one, hx]; rfl
      have HO : Hid (Oks [x]) := fun z hz => by simp at hz; rw [hz]; exact H.out.fits x (List.mem_of_getElem? hx)
      have cH : Hid (Calls Try.prog 24 #[.string (txt x.key)] wr fun e w' => e = .returned (.int .u64 (Bl.hashK (txt x.key))) ∧ w' = wr) := Bl.refHash_any (txt x.key) wr (by rw [txt_size]; have := (H.out.fits x (List.mem_of_getElem? hx)).2.1; unfold maxLen; omega)
      have hr := Bl.hashK_range (txt x.key)
      obtain ⟨K, hK⟩ : ∃ K, K = Bl.hashK (txt x.key) := ⟨_, rfl⟩
      rw [← hK] at cH hr
      have HK := hide hK
      have hr0 := hr.1
      have hr1 := hr.2
      clear hc hx hb hK hr
      go_wp2_with fail
      refine cH.out.mono ?_
      rintro e w9 ⟨rfl, hw9⟩
      obtain rfl : wr = w9 := hw9.symm
      clear hw9 cH
      by_cases hk : K % 4 = home
      · have hq : (K % 4 == home) = true := by simpa using hk
        have E : Hid ((xs.take (i + 1)).filter (notAt home) = (xs.take i).filter (notAt home)) := by show _ = _; rw [HT.out]; simp [notAt, ← HK.out, hk]
        clear hk HT
        go_wp2
        go_roundg (n - (i + 1))
        case measure => omega
        case rel => exact ⟨i + 1, va, vn, vc, rfl, rfl, by omega, by omega, by rw [E.out]; exact I.out⟩
      · have hq : (K % 4 == home) = false := by simpa using hk
        have E : Hid ((xs.take (i + 1)).filter (notAt home) = (xs.take i).filter (notAt home) ++ [x]) := by show _ = _; rw [HT.out]; simp [notAt, ← HK.out, hk]
        have hfl : ((xs.take i).filter (notAt home)).length ≤ 1000 := by
          have h1 := List.length_filter_le (notAt home) (xs.take i)
          have h2 : (xs.take i).length ≤ i := by rw [List.length_take]; omega
          omega
        obtain ⟨ua, un, uc, w2, hrun, hun, hrow, hkp⟩ := app_one I.out.2.1 x HO.out (by omega) I.out.2.2.size
        have HR := hide hrun
        have T : Hid (un = ((xs.take (i + 1)).filter (notAt home)).length ∧ Row w2 w.heap.size (.slice ua un uc) ((xs.take (i + 1)).filter (notAt home)) ∧ Below w.heap.size w w2) := by
          refine ⟨by rw [E.out, hun]; simp, by rw [E.out]; exact hrow, row_keep_bel I.out.2.1 I.out.2.2 hkp⟩
        clear hk HT hrun hun hrow hkp hfl
        go_wp2_with (at_builtin; refine Lib.wpList_append_run _ rfl _ _ _ _ rfl _ _ rfl rfl _ _ HR.out ?_)
        go_roundg (n - (i + 1))
        case measure => omega
        case rel => exact ⟨i + 1, ua, un, uc, rfl, rfl, by omega, by omega, T.out⟩
    · obtain rfl : i = n := by omega
      have hlt2 : ¬ (i : Int) < (i : Int) := by omega
      have I' := I.out
      rw [HL.out, List.take_length] at I'
      have II := hide I'
      clear I'
      go_wp2
      go_ret
      exact ⟨va, vn, vc, rfl, II.out⟩

set_option maxHeartbeats 4000000 in
theorem total_any (a : Option Addr) (n cap : Nat) (xs : List It) (hn : n ≤ 1000) (ht : total xs ≤ 1000000) (w : World) (h : ItsAt w a n xs) :
    Calls Try.prog 26 #[.slice a n cap] w fun e w' => e = .returned (.int .i64 (total xs : Nat)) ∧ Below w.heap.size w w' := by
  have H := hide h
  have HL := hide h.len
  have HTT := hide ht
  clear h ht
  go_enter Try.func26, Try.ntmps26
  go_wp2_with fail
  go_loopg [3, 4] n (fun kx s3 s4 wr => ∃ i m : Nat, s3 = .int .i64 m ∧ s4 = .int .i64 i ∧ i ≤ n ∧ n - i ≤ kx ∧ m ≤ 1000000 ∧ Hid (m = total (xs.take i) ∧ Below w.heap.size w wr))
  case atStart => exact ⟨0, 0, rfl, rfl, Nat.zero_le _, by omega, by omega, rfl, Below.refl _ _⟩
  case round =>
    obtain ⟨i, m, rfl, rfl, hin, hg, hm, I⟩ := hrel
    by_cases hlt : i < n
    · have hlt2 : (i : Int) < (n : Int) := by omega
      obtain ⟨x, hx⟩ : ∃ x, xs[i]? = some x := ⟨_, List.getElem?_eq_getElem (by rw [← HL.out]; exact hlt)⟩
      obtain ⟨b, o, rfl, hb, hc⟩ := (H.out.below I.out.2).cell i x hx
      obtain ⟨c0, c1, c2, c3, c4⟩ := hc.vals
      have hs := total_take_succ xs i x hx
      have hle := total_take_le xs (i + 1)
      have htt := HTT.out
      have hm0 := I.out.1
      have hsz : m + (32 + x.key.length + x.value.length) ≤ 1000000 := by unfold It.size at hs; omega
      have s0 := txt_size x.key
      have s1 := txt_size x.value
      obtain ⟨kl, hkl⟩ : ∃ kl, kl = x.key.length := ⟨_, rfl⟩
      obtain ⟨vl, hvl⟩ : ∃ vl, vl = x.value.length := ⟨_, rfl⟩
      rw [← hkl] at s0 hsz
      rw [← hvl] at s1 hsz
      have T : Hid (m + 32 + kl + vl = total (xs.take (i + 1))) := by show _ = _; rw [hs, hm0, hkl, hvl]; unfold It.size; omega
      clear hc hx hb hs hle htt hm0 hkl hvl
      go_wp2_with fail
      go_quiet (first | fail)
      go_wp2
      go_roundg (n - (i + 1))
      case measure => omega
      case rel => exact ⟨i + 1, m + 32 + kl + vl, by simp, rfl, by omega, by omega, by omega, T.out, I.out.2.trans ((below_q2 wr nq).mono I.out.2.size)⟩
    · obtain rfl : i = n := by omega
      have hlt2 : ¬ (i : Int) < (i : Int) := by omega
      have I' := I.out
      rw [HL.out, List.take_length] at I'
      have II := hide I'
      clear I'
      go_wp2
      go_ret
      exact ⟨by rw [II.out.1]; rfl, II.out.2⟩
end Go.Proofs.Ytbccnfbombgdmaa

/- Each item stands in its own bucket; what is done to one bucket leaves the others. -/
set_option linter.unusedVariables false
set_option linter.unusedSimpArgs false
set_option maxRecDepth 100000
namespace Go.Proofs.Ytbccnfbombgdmaa
open Go.RowKit Go.Deep Go.ChangeShapes Go.WideShapes Math

/-- An item as it comes in, with how long its key can be. -/
theorem item_open2 {H : Type} {enc : TypeId × Value → H} {W : World} {fuel : Nat} {cs : List Value} {x : DataW H × List MemPlace} (h : DataW.trod enc Try.prog W 0 (fun _ => true) true fuel 36 cs = some x) (hl : cs.length = 5) :
    ∃ t : It, (t.fits ∧ t.key.length ≤ maxLen) ∧ cs = itCells t := by
  obtain ⟨xs, k, hk, hxy, _, hxl, hf⟩ := DataW.trod_struct Try.underlying36 h
  match xs, hxl, cs, hl with
  | [y0, y1, y2, y3, y4], _, [v0, v1, v2, v3, v4], _ =>
    have g0 := hf 0 _ rfl
    have g1 := hf 1 _ rfl
    have g2 := hf 2 _ rfl
    have g3 := hf 3 _ rfl
    have g4 := hf 4 _ rfl
    simp at g0 g1 g2 g3 g4
    simp only [cells9, cells27, cells2, cells28] at g0 g1 g2 g3 g4
    simp only [List.take_succ_cons, List.take_zero] at g0 g1 g2 g3 g4
    obtain ⟨s0, hv0, _, hs0⟩ := DataW.trod_string Try.underlying9 g0
    obtain ⟨s1, hv1, _, _⟩ := DataW.trod_string Try.underlying9 g1
    obtain ⟨n2, hv2, _, w2⟩ := DataW.trod_int Try.underlying33 g2
    obtain ⟨n3, hv3, _, w3⟩ := DataW.trod_int Try.underlying2 g3
    obtain ⟨n4, hv4, _, w4⟩ := DataW.trod_int Try.underlying34 g4
    simp only [List.cons.injEq, and_true] at hv0 hv1 hv2 hv3 hv4
    subst hv0 hv1 hv2 hv3 hv4
    have q2 := wf_u32 w2
    have q3 := wf_i64 w3
    have q4 := wf_u64 w4
    have hk : s0.data.toList.length ≤ maxLen := by rw [Array.length_toList]; exact hs0
    refine ⟨⟨s0.data.toList, s1.data.toList, n2.toNat, n3, n4.toNat⟩, ⟨⟨by simp; omega, q3.1, q3.2, by simp; omega⟩, hk⟩, ?_⟩
    simp only [itCells, txt_data, List.cons.injEq, Value.int.injEq, true_and, and_true]
    exact ⟨by omega, by omega⟩
theorem item_param2 {H : Type} {enc : TypeId × Value → H} {W : World} {fuel : Nat} {cs : Array Value} {x : DataW H × List MemPlace} (h : DataW.trod enc Try.prog W 0 (fun _ => true) true fuel 36 (Value.agg cs).cells.toList = some x) (hl : cs.size = Try.prog.cellsOf 36) :
    ∃ t : It, (t.fits ∧ t.key.length ≤ maxLen) ∧ cs = (itCells t).toArray := by
  obtain ⟨t, h1, h2⟩ := item_open2 (cs := cs.toList) h (by rw [Array.length_toList, hl, cells30])
  exact ⟨t, h1, by rw [← h2, Array.toArray_toList]⟩

def Home (n : Nat) (f : Nat → List It) : Prop := ∀ k, k < n → ∀ x ∈ f k, bkt x.key n = k
variable {n : Nat} {f g : Nat → List It}
theorem Home.put (h : Home n f) (x : It) : Home n (putF n f x) := by
  intro k hk y hy
  unfold putF at hy
  split at hy
  · rename_i e
    rcases List.mem_append.1 (List.mem_of_mem_drop hy) with h1 | h1
    · rw [e]; exact h _ (by rw [← e]; exact hk) y (List.mem_filter.1 h1).1
    · simp at h1; rw [h1, e]
  · exact h k hk y hy
theorem Home.drop (h : Home n f) (key : List UInt8) : Home n (dropF n f key) := by
  intro k hk y hy
  unfold dropF at hy
  split at hy
  · exact h k hk y (List.mem_filter.1 hy).1
  · exact h k hk y hy
theorem bkt_mod (key : List UInt8) : Bl.hashK (txt key) % 4 = (bkt key 4 : Int) := by
  unfold bkt
  have := Int.emod_nonneg (Bl.hashK (txt key)) (show (4 : Int) ≠ 0 by omega)
  omega
theorem notAt_eq (key : List UInt8) (y : It) : notAt (Bl.hashK (txt key) % 4) y = decide (bkt y.key 4 ≠ bkt key 4) := by
  unfold notAt
  rw [bkt_mod, bkt_mod, decide_eq_decide]
  omega
theorem others_of (h : Home 4 f) (key : List UInt8) : (allF 4 f).filter (notAt (Bl.hashK (txt key) % 4)) = allF 4 (fun k => if k = bkt key 4 then [] else f k) := by
  unfold allF
  rw [List.filter_flatMap]
  apply flat_congr
  intro k hk
  have hk4 := List.mem_range.1 hk
  by_cases e : k = bkt key 4
  · rw [if_pos e, List.filter_eq_nil_iff]
    intro y hy
    rw [notAt_eq, h k hk4 y hy]
    simp [e]
  · rw [if_neg e, List.filter_eq_self]
    intro y hy
    rw [notAt_eq, h k hk4 y hy]
    simp [e]
theorem others_same (hf : Home 4 f) (hg : Home 4 g) (key : List UInt8) (h : ∀ k, k ≠ bkt key 4 → g k = f k) : (allF 4 g).filter (notAt (Bl.hashK (txt key) % 4)) = (allF 4 f).filter (notAt (Bl.hashK (txt key) % 4)) := by
  rw [others_of hf, others_of hg]
  apply flat_congr
  intro k _
  by_cases e : k = bkt key 4
  · rw [if_pos e, if_pos e]
  · rw [if_neg e, if_neg e, h k e]
theorem flat_le {α : Type} {l : List α} {p q : α → List It} (h : ∀ x ∈ l, (p x).length ≤ (q x).length) : (l.flatMap p).length ≤ (l.flatMap q).length := by
  induction l with
  | nil => simp
  | cons x r ih =>
    rw [List.flatMap_cons, List.flatMap_cons, List.length_append, List.length_append]
    have h1 := h x (by simp)
    have h2 := ih (fun y hy => h y (by simp [hy]))
    omega
theorem drop_le (key : List UInt8) : (allF n (dropF n f key)).length ≤ (allF n f).length := by
  apply flat_le
  intro k _
  unfold dropF
  split
  · exact List.length_filter_le _ _
  · exact Nat.le_refl _
theorem put_other (x : It) (k : Nat) (h : k ≠ bkt x.key n) : putF n f x k = f k := by unfold putF; rw [if_neg h]
theorem drop_other (key : List UInt8) (k : Nat) (h : k ≠ bkt key n) : dropF n f key k = f k := by unfold dropF; rw [if_neg h]
end Go.Proofs.Ytbccnfbombgdmaa

/- Rows of items lie apart from a store's blocks; what is left out comes first, and no more than must be. -/
set_option linter.unusedVariables false
set_option linter.unusedSimpArgs false
set_option maxRecDepth 8000
namespace Go.Proofs.Ytbccnfbombgdmaa
open Go.RowKit Go.Deep Math
variable {w0 W W' : World} {d s : Nat} {F F' : List Nat} {S S' : Dv} {L : Int} {first n : Nat} {M : SM} {f : Nat → List It} {bs : List (List Bool)} {G : List Nat}

theorem row_off (h : Bu w0 W d s first n S f bs G) {base : Nat} {v : Value} {xs : List It} (hr : Row W base v xs) : ∀ q, v.ownBlock = some q → q ∉ G := by
  obtain ⟨F, M, h, rfl⟩ := h
  intro q hq
  obtain ⟨cur, hh⟩ : ∃ cur, W.heap[q]? = some (.cells cur 36 (0, 0)) := by
    rcases hr.2 with ⟨rfl, _⟩ | ⟨g, cap, cur, rfl, _, hh, _⟩
    · simp [Value.ownBlock] at hq
    · simp [Value.ownBlock] at hq; subst hq; exact ⟨cur, hh⟩
  intro hf
  rcases List.mem_append.1 hf with hf | hf
  · have hd := h.bk.law.dev
    obtain ⟨p, pd, wa, wc, rfl, hd⟩ := hd
    simp only [foot, List.mem_cons] at hf
    rcases hf with rfl | rfl | hf
    · have := hd.dev; unfold Blk at this; rw [hh] at this; simp at this
    · have := hd.row; unfold Blk at this; rw [hh] at this; simp at this
    · cases wa with
      | none => simp at hf
      | some a =>
        simp at hf
        subst hf
        rcases hd.own.2 with ⟨h0, _⟩ | ⟨g, cap, cur2, hv, _, hh2, _⟩
        · simp at h0
        · simp only [Value.slice.injEq, Option.some.injEq] at hv
          rw [hv.1] at hh
          simp only at hh
          rw [hh] at hh2
          simp at hh2
  · rcases SM.foot_inv hf with rfl | ⟨a, ha, rfl⟩ | ⟨x, hx, rfl | rfl⟩
    · have := h.bk.st.box; unfold Blk at this; rw [hh] at this; simp at this
    · rcases h.bk.st.form with ⟨h1, _⟩ | ⟨q, cur2, h1, h2, _⟩
      · rw [h1] at ha; cases ha
      · rw [h1] at ha; cases ha
        rw [hh] at h2
        simp at h2
    · have := (h.bk.st.flt x hx).1.own; unfold Blk at this; rw [hh] at this; simp at this
    · have := (h.bk.st.flt x hx).1.row; unfold Blk at this; rw [hh] at this; simp at this
theorem RowA.of (h : Bu w0 W d s first n S f bs G) {base : Nat} {v : Value} {xs : List It} (hr : Row W base v xs) : RowA G W base v xs := ⟨hr, row_off h hr⟩

theorem ovr_last : ∀ xs : List It, 0 < ovr xs → ∃ y, xs[ovr xs - 1]? = some y ∧ 384 < total (xs.drop (ovr xs)) + y.size
  | [], h => by simp [ovr] at h
  | x :: r, h => by
    by_cases h1 : 384 < total (x :: r)
    · have e : ovr (x :: r) = ovr r + 1 := by rw [ovr, if_pos h1]
      rw [e]
      by_cases h2 : 0 < ovr r
      · obtain ⟨y, hy, ht⟩ := ovr_last r h2
        refine ⟨y, ?_, by simpa using ht⟩
        rw [show ovr r + 1 - 1 = (ovr r - 1) + 1 by omega]
        simpa using hy
      · have e0 : ovr r = 0 := by omega
        rw [e0]
        refine ⟨x, rfl, ?_⟩
        have : total (x :: r) = x.size + total r := rfl
        simp
        omega
    · rw [ovr, if_neg h1] at h
      omega
theorem allF_one (f : Nat → List It) : allF 1 f = f 0 := by simp [allF]
/-- What Put does to a store of one page. -/
structure OnePut (f : Nat → List It) (x : It) (fl : List It) (o : Nat) : Prop where
  hfl : fl = (f 0).filter (notKey x.key)
  ho : o ≤ fl.length
  out : outL 1 f x = fl.take o
  now : allF 1 (putF 1 f x) = fl.drop o ++ [x]
  last : 0 < o → ∃ y, fl[o - 1]? = some y ∧ 384 < total (fl.drop o ++ [x]) + y.size
theorem onePut (f : Nat → List It) (x : It) (hx : x.size ≤ 120) : ∃ fl o, OnePut f x fl o := by
  obtain ⟨fl, hfl⟩ : ∃ fl, fl = (f 0).filter (notKey x.key) := ⟨_, rfl⟩
  have e : putL 1 f x = fl ++ [x] := by unfold putL; rw [bkt_one, hfl]
  have ho : ovr (fl ++ [x]) ≤ fl.length := ovr_lt fl x (by omega)
  refine ⟨fl, ovr (fl ++ [x]), hfl, ho, ?_, ?_, fun h0 => ?_⟩
  · unfold outL
    rw [e, List.take_append_of_le_length ho]
  · rw [allF_one]
    unfold putF
    rw [bkt_one, if_pos rfl, e, List.drop_append_of_le_length ho]
  · obtain ⟨y, hy, ht⟩ := ovr_last _ h0
    rw [List.drop_append_of_le_length ho] at ht
    rw [List.getElem?_append_left (by omega)] at hy
    exact ⟨y, hy, ht⟩
end Go.Proofs.Ytbccnfbombgdmaa

/- What was put last, and not left out since: a list beside the store. -/
set_option linter.unusedVariables false
set_option linter.unusedSimpArgs false
set_option maxRecDepth 8000
namespace Go.Proofs.Ytbccnfbombgdmaa
open Go.RowKit Go.Deep Math

def keysOf (xs : List It) : List (List UInt8) := xs.map (·.key)
def clr (b : Nat) (f : Nat → List It) : Nat → List It := fun k => if k = b then [] else f k
theorem allF_succ (n : Nat) (f : Nat → List It) : allF (n + 1) f = allF n f ++ f n := by
  unfold allF
  rw [List.range_succ, List.flatMap_append, List.flatMap_cons, List.flatMap_nil, List.append_nil]
theorem all_split (b : Nat) (f : Nat → List It) : ∀ n, b < n → (allF n f).Perm (f b ++ allF n (clr b f))
  | 0, h => by omega
  | n + 1, h => by
    rw [allF_succ, allF_succ]
    by_cases e : b = n
    · subst e
      have h1 : allF b (clr b f) = allF b f := all_congr (fun k hk => by unfold clr; rw [if_neg (by omega)])
      have h2 : clr b f b = [] := by unfold clr; rw [if_pos rfl]
      rw [h1, h2, List.append_nil]
      exact List.perm_append_comm
    · have ih := all_split b f n (by omega)
      have h2 : clr b f n = f n := by unfold clr; rw [if_neg (fun h => e h.symm)]
      rw [h2, ← List.append_assoc]
      exact ih.append_right _
theorem mem_all {n : Nat} {f : Nat → List It} {y : It} (h : y ∈ allF n f) : ∃ k, k < n ∧ y ∈ f k := by
  unfold allF at h
  obtain ⟨k, hk, hy⟩ := List.mem_flatMap.1 h
  exact ⟨k, List.mem_range.1 hk, hy⟩
structure Inv (n : Nat) (f : Nat → List It) (cur : List It) : Prop where
  home : Home n f
  nd : (keysOf (allF n f)).Nodup
  perm : cur.Perm (allF n f)
theorem keepOut {fl rest cur : List It} (k : Nat) (y : It) (hk : fl[k]? = some y) (nd : (keysOf (fl ++ rest)).Nodup) (hp : cur.Perm (fl.drop k ++ rest)) :
    (cur.filter (notKey y.key)).Perm (fl.drop (k + 1) ++ rest) ∧ (cur.filter (notKey y.key)).length + 1 = cur.length := by
  obtain ⟨hl, he⟩ := List.getElem?_eq_some_iff.1 hk
  have e1 : fl.drop k = y :: fl.drop (k + 1) := by rw [← he]; exact List.drop_eq_getElem_cons hl
  have e2 : fl ++ rest = fl.take k ++ (y :: (fl.drop (k + 1) ++ rest)) := by
    rw [← List.cons_append, ← e1, ← List.append_assoc, List.take_append_drop]
  rw [e2] at nd
  unfold keysOf at nd
  rw [List.map_append, List.nodup_append] at nd
  have nd2 := nd.2.1
  rw [List.map_cons, List.nodup_cons] at nd2
  have e3 : (y :: (fl.drop (k + 1) ++ rest)).filter (notKey y.key) = fl.drop (k + 1) ++ rest := by
    rw [List.filter_cons, if_neg (by simp [notKey]), List.filter_eq_self]
    intro z hz
    have : z.key ≠ y.key := fun h => nd2.1 (List.mem_map.2 ⟨z, hz, h⟩)
    simp [notKey, this]
  rw [e1, List.cons_append] at hp
  have hf := hp.filter (notKey y.key)
  rw [e3] at hf
  refine ⟨hf, ?_⟩
  rw [hf.length_eq, hp.length_eq, List.length_cons]
/-- What Put does beside the list. -/
structure PutIs (n : Nat) (f : Nat → List It) (x : It) (cur fl rest : List It) (o : Nat) : Prop where
  ho : o ≤ fl.length
  out : outL n f x = fl.take o
  perm : (cur.filter (notKey x.key)).Perm (fl.drop 0 ++ rest)
  nd : (keysOf (fl ++ rest)).Nodup
  next : ∀ cur', cur'.Perm (fl.drop o ++ rest) → Inv n (putF n f x) (cur' ++ [x])
theorem Inv.put {n : Nat} {f : Nat → List It} {cur : List It} (h : Inv n f cur) (hn : 0 < n) (x : It) (hx : x.size ≤ 120) : ∃ fl rest o, PutIs n f x cur fl rest o := by
  obtain ⟨b, hb⟩ : ∃ b, b = bkt x.key n := ⟨_, rfl⟩
  have hbn : b < n := by rw [hb]; exact bkt_lt _ _ hn
  obtain ⟨fl, hfl⟩ : ∃ fl, fl = (f b).filter (notKey x.key) := ⟨_, rfl⟩
  obtain ⟨rest, hrest⟩ : ∃ rest, rest = allF n (clr b f) := ⟨_, rfl⟩
  have e : putL n f x = fl ++ [x] := by unfold putL; rw [← hb, hfl]
  have ho : ovr (fl ++ [x]) ≤ fl.length := ovr_lt fl x (by omega)
  have hsp := all_split b f n hbn
  rw [← hrest] at hsp
  have hrk : ∀ z ∈ rest, z.key ≠ x.key := fun z hz hzk => by
    rw [hrest] at hz
    obtain ⟨k, hk, hz⟩ := mem_all hz
    unfold clr at hz
    split at hz
    · simp at hz
    · rename_i hkb
      have := h.home k hk z hz
      rw [hzk, ← hb] at this
      exact hkb this.symm
  have hrf : rest.filter (notKey x.key) = rest := by
    rw [List.filter_eq_self]
    intro z hz
    simp [notKey, hrk z hz]
  have hnd0 : (keysOf (f b ++ rest)).Nodup := (hsp.map It.key).nodup_iff.1 h.nd
  have hsub : (keysOf (fl ++ rest)).Sublist (keysOf (f b ++ rest)) := by
    unfold keysOf
    apply List.Sublist.map
    rw [hfl]
    exact List.filter_sublist.append_right _
  have hnd : (keysOf (fl ++ rest)).Nodup := hnd0.sublist hsub
  have hp1 : (cur.filter (notKey x.key)).Perm (fl ++ rest) := by
    have := (h.perm.trans hsp).filter (notKey x.key)
    rw [List.filter_append, hrf, ← hfl] at this
    exact this
  have hxk : ∀ z ∈ fl ++ rest, z.key ≠ x.key := fun z hz => by
    rcases List.mem_append.1 hz with h1 | h1
    · rw [hfl] at h1
      simpa [notKey] using (List.mem_filter.1 h1).2
    · exact hrk z h1
  refine ⟨fl, rest, ovr (fl ++ [x]), ho, ?_, by simpa using hp1, hnd, fun cur' hc => ?_⟩
  · unfold outL
    rw [e, List.take_append_of_le_length ho]
  · have hsp2 := all_split b (putF n f x) n hbn
    have e1 : putF n f x b = fl.drop (ovr (fl ++ [x])) ++ [x] := by
      unfold putF
      rw [if_pos hb, e, List.drop_append_of_le_length ho]
    have e2 : allF n (clr b (putF n f x)) = rest := by
      rw [hrest]
      apply all_congr
      intro k hk
      unfold clr
      split
      · rfl
      · rename_i hkb
        rw [put_other x k (by rw [← hb]; exact hkb)]
    rw [e1, e2] at hsp2
    have hpp : (fl.drop (ovr (fl ++ [x])) ++ [x] ++ rest).Perm ((fl.drop (ovr (fl ++ [x])) ++ rest) ++ [x]) := by
      rw [List.append_assoc, List.append_assoc]
      exact List.Perm.append_left _ List.perm_append_comm
    refine ⟨h.home.put x, ?_, ?_⟩
    · have hn2 : (keysOf ((fl.drop (ovr (fl ++ [x])) ++ rest) ++ [x])).Nodup := by
        unfold keysOf
        rw [List.map_append, List.nodup_append]
        refine ⟨hnd.sublist ?_, by simp, ?_⟩
        · unfold keysOf
          exact List.Sublist.map _ ((List.drop_sublist _ _).append_right _)
        · intro a ha b' hb' hab
          simp at hb'
          obtain ⟨z, hz, rfl⟩ := List.mem_map.1 ha
          refine hxk z ?_ (hab.trans hb')
          rcases List.mem_append.1 hz with h1 | h1
          · exact List.mem_append.2 (.inl (List.mem_of_mem_drop h1))
          · exact List.mem_append.2 (.inr h1)
      exact ((hsp2.trans hpp).map It.key).nodup_iff.2 hn2
    · exact ((hc.append_right [x]).trans hpp.symm).trans hsp2.symm
theorem Inv.find {n : Nat} {f : Nat → List It} {cur : List It} (h : Inv n f cur) (y : It) (hy : y ∈ cur) : bkt y.key n < n ∧ y ∈ f (bkt y.key n) ∧ (f (bkt y.key n)).find? (isKey y.key) = some y := by
  have hya := h.perm.mem_iff.1 hy
  obtain ⟨k, hk, hyk⟩ := mem_all hya
  have hb := h.home k hk y hyk
  rw [hb]
  refine ⟨hk, hyk, ?_⟩
  have hsp := all_split k f n hk
  have hnd0 : (keysOf (f k ++ allF n (clr k f))).Nodup := (hsp.map It.key).nodup_iff.1 h.nd
  unfold keysOf at hnd0
  rw [List.map_append, List.nodup_append] at hnd0
  have hnd := hnd0.1
  generalize f k = l at hyk hnd
  induction l with
  | nil => simp at hyk
  | cons z r ih =>
    rw [List.map_cons, List.nodup_cons] at hnd
    by_cases e : z.key = y.key
    · have : z = y := by
        rcases List.mem_cons.1 hyk with h1 | h1
        · exact h1.symm
        · exact absurd (List.mem_map.2 ⟨y, h1, e.symm⟩) hnd.1
      rw [List.find?_cons_of_pos (by simp [isKey, e]), this]
    · rw [List.find?_cons_of_neg (by simp [isKey, e])]
      rcases List.mem_cons.1 hyk with h1 | h1
      · exact absurd (by rw [h1]) e
      · exact ih h1 hnd.2
variable {w0 W W' : World} {d s : Nat} {F F' : List Nat} {S S' : Dv} {L : Int} {first n : Nat} {M : SM} {f : Nat → List It} {bs : List (List Bool)} {G : List Nat}
theorem bu_told (h : Bu w0 W d s first n S f bs G) (y : It) (hk : y.key.length ≤ maxLen) (hy : y ∈ f (bkt y.key n)) :
    Calls Try.prog 17 #[.pointer (some ⟨s, 0, none⟩), .string (txt y.key)] W fun e W' => e = .returned (.bool true) ∧ Below W.heap.size W W' := by
  have h' := h
  obtain ⟨F, M, hb, rfl⟩ := h
  have hbn := bkt_lt y.key n hb.n1
  obtain ⟨l, hl⟩ : ∃ l, bs[bkt y.key n]? = some l := ⟨_, List.getElem?_eq_getElem (by rw [← hb.bits, List.length_map, hb.len]; exact hbn)⟩
  refine (bu_may h' y.key hk l hl).mono ?_
  rintro e W' ⟨rfl, b⟩
  exact ⟨by rw [hb.told _ l y hl hy], b⟩
end Go.Proofs.Ytbccnfbombgdmaa

