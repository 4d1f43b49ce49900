/- A power that goes; Put of any item; a store as it is behind a loss of power. -/
import Derived.Test.YtbccnfbombgdmaaAwake
import Derived.Test.YtbccnfbombgdmaaRRow
import Derived.ChangeSlices
import Derived.SizedLaws
import Derived.OpenShut
set_option linter.unusedVariables false
set_option linter.unusedSimpArgs false
set_option maxRecDepth 8000
namespace Go.Proofs.Ytbccnfbombgdmaa
open Go.RowKit Go.Deep Go.ChangeShapes Go.WideShapes Math

theorem wfi64' {z : Int} (h : (Lit.int .i64 z).wf = true) : -9223372036854775808 ≤ z ∧ z ≤ 9223372036854775807 := by
  have h1 : IntKind.i64.min = -9223372036854775808 := rfl
  have h2 : IntKind.i64.max = 9223372036854775807 := rfl
  simp [Lit.wf, h1, h2] at h
  omega
theorem u8_wf {z : Int} (h : (Lit.int .u8 z).wf = true) : 0 ≤ z ∧ z < 256 := by
  have h1 : IntKind.u8.min = 0 := rfl
  have h2 : IntKind.u8.max = 255 := rfl
  simp [Lit.wf, h1, h2] at h
  omega
theorem cells5 : Try.prog.cellsOf 5 = 1 := by kernel_rfl
theorem bytes5 : Try.prog.bytesOf 5 = 1 := by kernel_rfl
theorem bytes_open {H : Type} {enc : TypeId × Value → H} {W : World} {fuel : Nat} {a0 : Option Addr} {n0 c0 : Nat} {x : DataW H × List MemPlace} (h : DataW.trod enc Try.prog W 0 (fun _ => true) true fuel 37 [.slice a0 n0 c0] = some x)
    (hw : ∀ n ∈ x.1.weights Try.prog 37, n ≤ reachBytes) :
    ∃ l : List UInt8, BS W a0 n0 c0 l ∧ (a0 = none → l = []) ∧ n0 ≤ 140737488351232 := by
  rcases open_ints Try.underlying37 Try.underlying5 cells5 h with ⟨hcs, _⟩ | ⟨a, len, cap, zs, hcs, _, hl, hm, hz, hx, hcell, hwz⟩
  · simp at hcs
    obtain ⟨rfl, rfl, rfl⟩ := hcs
    exact ⟨[], BS.mk' rfl (Nat.le_refl _) (Reads.nil _ _), fun _ => rfl, Nat.zero_le _⟩
  · simp only [List.cons.injEq, Value.slice.injEq, and_true] at hcs
    obtain ⟨rfl, rfl, rfl⟩ := hcs
    have hz' : zs.length = c0 := by simpa using hz
    have hb : (zs.take n0).length + (zs.drop n0).length ≤ reachBytes := by
      have := hw (((lits (H := H) .u8 (zs.take n0)).length + (lits (H := H) .u8 (zs.drop n0)).length) * Try.prog.bytesOf 5) (by rw [hx]; simp [DataW.weights, Try.underlying37])
      rw [bytes5] at this
      simpa [lits] using this
    have hlen : ((zs.take n0).map (fun z => UInt8.ofNat z.toNat)).length = n0 := by simp; omega
    have e8 : ∀ j, j < n0 → (((zs.take n0).map (fun z => UInt8.ofNat z.toNat)).getD j 0).toNat = zs.getD j 0 := fun j hj => by
      have hmem : zs.getD j 0 ∈ zs := by rw [List.getD_eq_getElem?_getD, List.getElem?_eq_getElem (by omega)]; exact List.getElem_mem _
      have hb := u8_wf (hwz _ hmem)
      have e1 : ((zs.take n0).map (fun z => UInt8.ofNat z.toNat)).getD j 0 = UInt8.ofNat (zs.getD j 0).toNat := by
        simp [List.getD_eq_getElem?_getD, List.getElem?_eq_getElem (show j < zs.length by omega), List.getElem?_take_of_lt hj]
      rw [e1, UInt8.toNat_ofNat']
      have e2 : ((zs.getD j 0).toNat % 2 ^ 8 : Nat) = (zs.getD j 0).toNat := Nat.mod_eq_of_lt (by omega)
      rw [e2]
      omega
    refine ⟨(zs.take n0).map (fun z => UInt8.ofNat z.toNat), BS.mk' hlen.symm hl ⟨fun i hi => ?_, fun i => ?_⟩, (fun h => by cases h), ?_⟩
    · rw [ints_length, hlen] at hi
      have c0' := hcell 0 (by omega)
      have hspot : a.spot = none := by simpa [Addr.add] using World.cell?_spot c0'
      obtain ⟨b, off, sp⟩ := a
      simp only at hspot
      subst hspot
      refine ⟨b, off, rfl, ?_⟩
      have cj := hcell i (by omega)
      rw [Addr.add_lit] at cj
      rw [cj, ints_getD, e8 i hi]
    · rw [ints_getD]
      have := (((zs.take n0).map (fun z => UInt8.ofNat z.toNat)).getD i 0).toNat_lt
      omega
    · have e : reachBytes = 140737488351232 := by decide
      simp at hb
      omega
theorem crash_law {w0 W : World} {d : Nat} {F : List Nat} {S : Dv} (h : Law w0 d F S W) {a : Option Addr} {n cap : Nat} {l : List UInt8} (hb : BS w0 a n cap l) (hnil : a = none → l = []) (hn : n ≤ 140737488351232) :
    Calls Try.prog 20 #[.pointer (some ⟨d, 0, none⟩), .slice a n cap] W fun e W' => e = .returned (.tuple #[]) ∧ ∃ F', Law w0 d F' (S.crash l) W' ∧ Moves F F' W W' := by
  have hb' := hb.later h.bel
  have hex : ∃ bb, BSlice W a l bb ∧ (l ≠ [] → bb ∉ F) := by
    cases a with
    | none => exact ⟨0, .inl (hnil rfl), fun hl => absurd (hnil rfl) hl⟩
    | some x =>
      by_cases hl : l = []
      · exact ⟨0, .inl hl, fun h => absurd hl h⟩
      · have hpos : 0 < l.length := List.length_pos_iff.2 hl
        obtain ⟨b', o', ha, hlt, hc⟩ := hb.cell 0 (by have := hb.len; omega)
        cases ha
        exact ⟨b', hb'.slice, fun _ hf => by have := h.low _ hf; omega⟩
  obtain ⟨bb, h1, h2⟩ := hex
  refine (crash_at d F S a n cap bb l hb.len (by omega) W h1 h2 h.dev).mono ?_
  rintro e W' ⟨rfl, F', hd, m⟩
  exact ⟨rfl, F', h.move hd m, m⟩
theorem on_law {w0 W : World} {d : Nat} {F : List Nat} {S : Dv} (h : Law w0 d F S W) :
    Calls Try.prog 22 #[.pointer (some ⟨d, 0, none⟩)] W fun e W' => e = .returned (.tuple #[]) ∧ ∃ F', Law w0 d F' S.on W' ∧ Moves F F' W W' := by
  refine (on_at d F S W h.dev).mono ?_
  rintro e W' ⟨rfl, F', hd, m⟩
  exact ⟨rfl, F', h.move hd m, m⟩


theorem settle_id : ∀ (A : List Cl) (ps : List UInt8), (∀ c ∈ A, c.last = none) → settle A ps = A
  | [], ps, _ => rfl
  | c :: r, ps, h => by
    rw [settle, h c (by simp)]
    simp only
    rw [settle_id r ps (fun x hx => h x (by simp [hx]))]
theorem its_cs {S S' : Dv} (h : S'.cs = S.cs) (k : Nat) : S'.its k = S.its k := by unfold Dv.its; rw [h]
theorem its_flush {S S' : Dv} (h : S'.cs = S.cs.map Cl.flush) (k : Nat) : S'.its k = S.its k := by
  unfold Dv.its
  rw [h, List.getElem?_map]
  cases S.cs[k]? <;> rfl
theorem moves_app {F F' : List Nat} {W W' : World} (m : Moves F F' W W') (A : List Nat) : Moves (F ++ A) (F' ++ A) W W' :=
  ⟨m.keep.mono (fun k hk => .inl (List.mem_append.2 (.inl hk))), fun k hk => by
    rcases List.mem_append.1 hk with h | h
    · rcases m.foot k h with h1 | h1
      · exact .inl (List.mem_append.2 (.inl h1))
      · exact .inr h1
    · exact .inl (List.mem_append.2 (.inr h))⟩
variable {w0 W W' : World} {d s : Nat} {F F' : List Nat} {S S' : Dv} {L : Int} {first n : Nat} {M : SM} {f : Nat → List It} {bs : List (List Bool)} {G : List Nat}
theorem Row.sl {w : World} {base : Nat} {v : Value} {xs : List It} (h : Row w base v xs) : ∃ a c, v = .slice a xs.length c := by
  rcases h.form with ⟨rfl, rfl⟩ | ⟨g, cap, pad, rfl, _⟩
  · exact ⟨none, 0, rfl⟩
  · exact ⟨_, cap, rfl⟩
/-- Put of any item. -/
def PutEnd (w0 : World) (d s first n : Nat) (S : Dv) (f : Nat → List It) (bs : List (List Bool)) (G : List Nat) (x : It) (W W' : World) (va : Option Addr) (vn vc : Nat) (er : Int) : Prop :=
  ∃ S' f' bs' G', Bu w0 W' d s first n S' f' bs' G' ∧ Moves G G' W W' ∧ S'.losses = S.losses ∧ S'.cs.length = S.cs.length ∧
    ((er = 1 ∧ f' = f ∧ bs' = bs ∧ va = none ∧ vn = 0 ∧ vc = 0 ∧ (x.good = false ∨ 120 < x.size)) ∨ (er = 0 ∧ x.good = true ∧ x.size ≤ 120 ∧ f' = putF n f x ∧ (∀ l, bs[bkt x.key n]? = some l → bs' = bs.set (bkt x.key n) (keyB l x)) ∧ vn = (outL n f x).length ∧ Row W' W.heap.size (.slice va vn vc) (outL n f x)))
theorem bu_any (h : Bu w0 W d s first n S f bs G) (x : It) (hxf : x.fits) :
    Calls Try.prog 11 #[.pointer (some ⟨s, 0, none⟩), .agg #[.string (txt x.key), .string (txt x.value), .int .u32 x.flags, .int .i64 x.exp, .int .u64 x.ver]] W fun e W' => ∃ va vn vc er, e = .returned (.tuple #[.slice va vn vc, .int .i64 er]) ∧ PutEnd w0 d s first n S f bs G x W W' va vn vc er := by
  by_cases hok : x.good = true ∧ x.size ≤ 120
  · refine (bu_put h x hxf hok.1 hok.2).mono ?_
    rintro e W' ⟨v, rfl, hr, S', bs', G', hb, hbs, hm, hl, hc⟩
    obtain ⟨a, c, rfl⟩ := hr.sl
    exact ⟨a, _, c, 0, rfl, S', _, bs', G', hb, hm, hl, hc, .inr ⟨rfl, hok.1, hok.2, rfl, hbs, rfl, hr⟩⟩
  · have hbad : x.good = false ∨ 120 < x.size := by
      by_cases hg : x.good = true
      · exact .inr (by have : ¬ x.size ≤ 120 := fun h => hok ⟨hg, h⟩; omega)
      · exact .inl (by simpa using hg)
    refine (put_bad s x hbad W).mono ?_
    rintro e W' ⟨rfl, b⟩
    exact ⟨none, 0, 0, 1, rfl, S, f, bs, G, h.below b, Moves.of_keep (Keep.of_below b), rfl, rfl, .inl ⟨rfl, rfl, rfl, rfl, rfl, rfl, hbad⟩⟩

theorem bu_flush (h : Bu w0 W d s first n S f bs G) :
    Calls Try.prog 19 #[.pointer (some ⟨d, 0, none⟩)] W fun e W' => e = .returned (.int .i64 0) ∧ ∃ S' G', Bu w0 W' d s first n S' f bs G' ∧ Moves G G' W W' ∧ S'.losses = S.losses ∧ S'.cs.length = S.cs.length ∧ ∀ c ∈ S'.cs, c.last = none := by
  obtain ⟨F, M, h, rfl⟩ := h
  refine (flush_at d F S W h.bk.law.dev).mono ?_
  rintro e W' ⟨rfl, F', hd, m⟩
  have e1 : S.flushErr = 0 := by simp [Dv.flushErr, h.sure.gone]
  have e2 : S.flushDo = { S with cs := S.cs.map Cl.flush, fl := wrap64 (S.fl + 1) } := by
    unfold Dv.flushDo
    rw [h.sure.gone, h.sure.used]
    rfl
  rw [e2] at hd
  rw [e1]
  refine ⟨rfl, { S with cs := S.cs.map Cl.flush, fl := wrap64 (S.fl + 1) }, F' ++ M.foot s, ⟨F', M, ⟨h.bk.move hd m, ⟨h.sure.off, h.sure.armed⟩, h.len, h.n1, h.n2, ?_, ?_, h.bits, h.told⟩, rfl⟩, moves_app m _, rfl, ?_, ?_⟩
  · show first + n ≤ (S.cs.map Cl.flush).length
    rw [List.length_map]; exact h.fit
  · intro k hk
    rw [its_flush (S := S) rfl]
    exact h.its k hk
  · show (S.cs.map Cl.flush).length = _
    rw [List.length_map]
  · intro c hc
    have hc' : c ∈ S.cs.map Cl.flush := hc
    obtain ⟨c0, _, rfl⟩ := List.mem_map.1 hc'
    rfl

/-- A store whose device lost its power since it was opened; nothing was under way then. -/
structure GoneIn (w0 W : World) (d : Nat) (F : List Nat) (S : Dv) (s : Nat) (L : Int) (first n : Nat) (M : SM) (f : Nat → List It) : Prop where
  bk : Bk w0 W d F S s L first M
  loss : S.losses ≠ L
  len : M.fs.length = n
  n1 : 0 < n
  n2 : n ≤ 256
  fit : first + n ≤ S.cs.length
  its : ∀ k, k < n → S.its (first + k) = f k
  clean : ∀ c ∈ S.cs, c.last = none
def Gone (w0 W : World) (d s : Nat) (L : Int) (first n : Nat) (S : Dv) (f : Nat → List It) (G : List Nat) : Prop := ∃ F M, GoneIn w0 W d F S s L first n M f ∧ G = F ++ M.foot s
theorem Gone.below (h : Gone w0 W d s L first n S f G) (b : Below W.heap.size W W') : Gone w0 W' d s L first n S f G := by
  obtain ⟨F, M, h, rfl⟩ := h
  exact ⟨F, M, ⟨h.bk.below b, h.loss, h.len, h.n1, h.n2, h.fit, h.its, h.clean⟩, rfl⟩
theorem bu_crash (h : Bu w0 W d s first n S f bs G) (hc : ∀ c ∈ S.cs, c.last = none) (hl : S.losses = 0) {a : Option Addr} {m cap : Nat} {l : List UInt8} (hb : BS w0 a m cap l) (hnil : a = none → l = []) (hm : m ≤ 140737488351232) :
    Calls Try.prog 20 #[.pointer (some ⟨d, 0, none⟩), .slice a m cap] W fun e W' => e = .returned (.tuple #[]) ∧ ∃ S' G', Gone w0 W' d s 0 first n S' f G' ∧ Moves G G' W W' ∧ S'.losses = 1 := by
  obtain ⟨F, M, h, rfl⟩ := h
  refine (crash_law h.bk.law hb hnil hm).mono ?_
  rintro e W' ⟨rfl, F', hd, mv⟩
  have ecs : (S.crash l).cs = S.cs := settle_id _ _ hc
  have els : (S.crash l).losses = 1 := by show wrap64 (S.losses + 1) = 1; rw [hl]; decide +kernel
  have hbk := h.bk.move hd.dev mv
  rw [hl] at hbk
  refine ⟨rfl, S.crash l, F' ++ M.foot s, ⟨F', M, ⟨hbk, by rw [els]; decide, h.len, h.n1, h.n2, by rw [ecs]; exact h.fit, fun k hk => by rw [its_cs ecs]; exact h.its k hk, by rw [ecs]; exact hc⟩, rfl⟩, moves_app mv _, els⟩
theorem gone_on (h : Gone w0 W d s 0 first n S f G) (hl : S.losses = 1) :
    Calls Try.prog 22 #[.pointer (some ⟨d, 0, none⟩)] W fun e W' => e = .returned (.tuple #[]) ∧ ∃ S' G', Gone w0 W' d s 0 first n S' f G' ∧ Moves G G' W W' ∧ Sure S' := by
  obtain ⟨F, M, h, rfl⟩ := h
  refine (on_law h.bk.law).mono ?_
  rintro e W' ⟨rfl, F', hd, mv⟩
  have ecs : S.on.cs = S.cs := settle_id _ _ h.clean
  have els : S.on.losses = 2 := by show wrap64 (S.losses + 1) = 2; rw [hl]; decide +kernel
  exact ⟨rfl, S.on, F' ++ M.foot s, ⟨F', M, ⟨h.bk.move hd.dev mv, by rw [els]; decide, h.len, h.n1, h.n2, by rw [ecs]; exact h.fit, fun k hk => by rw [its_cs ecs]; exact h.its k hk, by rw [ecs]; exact h.clean⟩, rfl⟩, moves_app mv _, ⟨rfl, rfl⟩⟩
theorem gone_items (h : Gone w0 W d s L first n S f G) :
    Calls Try.prog 18 #[.pointer (some ⟨s, 0, none⟩)] W fun e W' => e = .returned (.tuple #[.slice none 0 0, .int .i64 4]) ∧ Below W.heap.size W W' := by
  obtain ⟨F, M, h, rfl⟩ := h
  exact items_done h.bk h.loss (by rw [h.len]; exact h.n1) (by rw [h.len]; exact h.n2)
theorem gone_put (h : Gone w0 W d s L first n S f G) (x : It) (hxg : x.good = true) (hx : x.size ≤ 120) :
    Calls Try.prog 11 #[.pointer (some ⟨s, 0, none⟩), .agg #[.string (txt x.key), .string (txt x.value), .int .u32 x.flags, .int .i64 x.exp, .int .u64 x.ver]] W fun e W' => e = .returned (.tuple #[.slice none 0 0, .int .i64 4]) ∧ Below W.heap.size W W' := by
  obtain ⟨F, M, h, rfl⟩ := h
  exact put_done h.bk h.loss (by rw [h.len]; exact h.n1) (by rw [h.len]; exact h.n2) x hxg hx
theorem all_congr {n : Nat} {f g : Nat → List It} (h : ∀ k, k < n → f k = g k) : allF n f = allF n g := flat_congr (fun k hk => h k (List.mem_range.1 hk))
theorem gone_open (h : Gone w0 W d s L first n S f G) (hS : Sure S) :
    Calls Try.prog 10 #[.pointer (some ⟨d, 0, none⟩), .int .i64 first, .int .i64 n] W fun e W' => ∃ t S' f' bs' G', e = .returned (.tuple #[.pointer (some ⟨t, 0, none⟩), .int .i64 0]) ∧ Bu w0 W' d t first n S' f' bs' G' ∧ allF n f' = allF n f ∧ ∀ base v xs, RowA G W base v xs → RowA G' W' base v xs := by
  obtain ⟨F, M, h, rfl⟩ := h
  refine (bu_open h.bk.law hS first n h.n1 h.n2 h.fit).mono ?_
  rintro e W' ⟨t, S', G', rfl, hb, hl, mv⟩
  refine ⟨t, S', _, _, G', rfl, hb, all_congr h.its, fun base v xs hr => RowA.move (G := F) ⟨hr.row, fun q hq hf => hr.off q hq (List.mem_append.2 (.inl hf))⟩ mv⟩
theorem Bu.oks (h : Bu w0 W d s first n S f bs G) : Oks (allF n f) ∧ total (allF n f) ≤ n * 384 := by
  have key : ∀ m, m ≤ n → Oks ((List.range m).flatMap f) ∧ total ((List.range m).flatMap f) ≤ m * 384 := by
    intro m
    induction m with
    | zero => intro _; exact ⟨fun x hx => by simp at hx, by simp [total]⟩
    | succ m ih =>
      intro hm
      obtain ⟨h1, h2⟩ := ih (by omega)
      obtain ⟨h3, h4⟩ := h.f_all (k := m) (by omega)
      rw [List.range_succ, List.flatMap_append, List.flatMap_cons, List.flatMap_nil, List.append_nil]
      refine ⟨fun x hx => ?_, ?_⟩
      · rcases List.mem_append.1 hx with hx | hx
        · exact h1 x hx
        · obtain ⟨hf, hg⟩ := h4 x hx
          rw [It.good_iff] at hg
          have := hg.2.1
          have := hg.2.2.1
          exact ⟨hf, by omega, by omega⟩
      · rw [total_append, Nat.succ_mul]; omega
  exact key n (Nat.le_refl _)
end Go.Proofs.Ytbccnfbombgdmaa
