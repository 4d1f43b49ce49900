/- Texts joined: Cut8, Gl8, Ref. -/
import Derived.Test.YtbccnfbombgdmaaGreatJ23
import Derived.Test.YtbccnfbombgdmaaGreatJ05
import Derived.ChangeSlices
import Derived.SizedLaws
import Derived.OpenShut
/- A power that goes; Put of any item; a store as it is behind a loss of power. -/
set_option linter.unusedVariables false
set_option linter.unusedSimpArgs false
set_option maxRecDepth 8000
namespace Go.Proofs.YtbccnfbombgdmaaGreat
open Go.RowKit Go.Deep Go.ChangeShapes Go.WideShapes Math

theorem wfi64' {z : Int} (h : (Lit.int .i64 z).wf = true) : -9223372036854775808 ≤ z ∧ z ≤ 9223372036854775807 := by
  have h1 : IntKind.i64.min = -9223372036854775808 := rfl
  have h2 : IntKind.i64.max = 9223372036854775807 := rfl
  simp [Lit.wf, h1, h2] at h
  omega
theorem u8_wf {z : Int} (h : (Lit.int .u8 z).wf = true) : 0 ≤ z ∧ z < 256 := by
  have h1 : IntKind.u8.min = 0 := rfl
  have h2 : IntKind.u8.max = 255 := rfl
  simp [Lit.wf, h1, h2] at h
  omega
theorem cells5 : Tryz.prog.cellsOf 5 = 1 := by kernel_rfl
theorem bytes5 : Tryz.prog.bytesOf 5 = 1 := by kernel_rfl
theorem bytes_open {H : Type} {enc : TypeId × Value → H} {W : World} {fuel : Nat} {a0 : Option Addr} {n0 c0 : Nat} {x : DataW H × List MemPlace} (h : DataW.trod enc Tryz.prog W 0 (fun _ => true) true fuel 40 [.slice a0 n0 c0] = some x)
    (hw : ∀ n ∈ x.1.weights Tryz.prog 40, n ≤ reachBytes) :
    ∃ l : List UInt8, BS W a0 n0 c0 l ∧ (a0 = none → l = []) ∧ n0 ≤ 140737488351232 := by
  rcases open_ints Tryz.underlying40 Tryz.underlying5 cells5 h with ⟨hcs, _⟩ | ⟨a, len, cap, zs, hcs, _, hl, hm, hz, hx, hcell, hwz⟩
  · simp at hcs
    obtain ⟨rfl, rfl, rfl⟩ := hcs
    exact ⟨[], BS.mk' rfl (Nat.le_refl _) (Reads.nil _ _), fun _ => rfl, Nat.zero_le _⟩
  · simp only [List.cons.injEq, Value.slice.injEq, and_true] at hcs
    obtain ⟨rfl, rfl, rfl⟩ := hcs
    have hz' : zs.length = c0 := by simpa using hz
    have hb : (zs.take n0).length + (zs.drop n0).length ≤ reachBytes := by
      have := hw (((lits (H := H) .u8 (zs.take n0)).length + (lits (H := H) .u8 (zs.drop n0)).length) * Tryz.prog.bytesOf 5) (by rw [hx]; simp [DataW.weights, Tryz.underlying40])
      rw [bytes5] at this
      simpa [lits] using this
    have hlen : ((zs.take n0).map (fun z => UInt8.ofNat z.toNat)).length = n0 := by simp; omega
    have e8 : ∀ j, j < n0 → (((zs.take n0).map (fun z => UInt8.ofNat z.toNat)).getD j 0).toNat = zs.getD j 0 := fun j hj => by
      have hmem : zs.getD j 0 ∈ zs := by rw [List.getD_eq_getElem?_getD, List.getElem?_eq_getElem (by omega)]; exact List.getElem_mem _
      have hb := u8_wf (hwz _ hmem)
      have e1 : ((zs.take n0).map (fun z => UInt8.ofNat z.toNat)).getD j 0 = UInt8.ofNat (zs.getD j 0).toNat := by
        simp [List.getD_eq_getElem?_getD, List.getElem?_eq_getElem (show j < zs.length by omega), List.getElem?_take_of_lt hj]
      rw [e1, UInt8.toNat_ofNat']
      have e2 : ((zs.getD j 0).toNat % 2 ^ 8 : Nat) = (zs.getD j 0).toNat := Nat.mod_eq_of_lt (by omega)
      rw [e2]
      omega
    refine ⟨(zs.take n0).map (fun z => UInt8.ofNat z.toNat), BS.mk' hlen.symm hl ⟨fun i hi => ?_, fun i => ?_⟩, (fun h => by cases h), ?_⟩
    · rw [ints_length, hlen] at hi
      have c0' := hcell 0 (by omega)
      have hspot : a.spot = none := by simpa [Addr.add] using World.cell?_spot c0'
      obtain ⟨b, off, sp⟩ := a
      simp only at hspot
      subst hspot
      refine ⟨b, off, rfl, ?_⟩
      have cj := hcell i (by omega)
      rw [Addr.add_lit] at cj
      rw [cj, ints_getD, e8 i hi]
    · rw [ints_getD]
      have := (((zs.take n0).map (fun z => UInt8.ofNat z.toNat)).getD i 0).toNat_lt
      omega
    · have e : reachBytes = 140737488351232 := by decide
      simp at hb
      omega
theorem crash_law {w0 W : World} {d : Nat} {F : List Nat} {S : Dv} (h : Law w0 d F S W) {a : Option Addr} {n cap : Nat} {l : List UInt8} (hb : BS w0 a n cap l) (hnil : a = none → l = []) (hn : n ≤ 140737488351232) :
    Calls Tryz.prog 53 #[.pointer (some ⟨d, 0, none⟩), .slice a n cap] W fun e W' => e = .returned (.tuple #[]) ∧ ∃ F', Law w0 d F' (S.crash l) W' ∧ Moves F F' W W' := by
  have hb' := hb.later h.bel
  have hex : ∃ bb, BSlice W a l bb ∧ (l ≠ [] → bb ∉ F) := by
    cases a with
    | none => exact ⟨0, .inl (hnil rfl), fun hl => absurd (hnil rfl) hl⟩
    | some x =>
      by_cases hl : l = []
      · exact ⟨0, .inl hl, fun h => absurd hl h⟩
      · have hpos : 0 < l.length := List.length_pos_iff.2 hl
        obtain ⟨b', o', ha, hlt, hc⟩ := hb.cell 0 (by have := hb.len; omega)
        cases ha
        exact ⟨b', hb'.slice, fun _ hf => by have := h.low _ hf; omega⟩
  obtain ⟨bb, h1, h2⟩ := hex
  refine (crash_at d F S a n cap bb l hb.len (by omega) W h1 h2 h.dev).mono ?_
  rintro e W' ⟨rfl, F', hd, m⟩
  exact ⟨rfl, F', h.move hd m, m⟩
theorem on_law {w0 W : World} {d : Nat} {F : List Nat} {S : Dv} (h : Law w0 d F S W) :
    Calls Tryz.prog 55 #[.pointer (some ⟨d, 0, none⟩)] W fun e W' => e = .returned (.tuple #[]) ∧ ∃ F', Law w0 d F' S.on W' ∧ Moves F F' W W' := by
  refine (on_at d F S W h.dev).mono ?_
  rintro e W' ⟨rfl, F', hd, m⟩
  exact ⟨rfl, F', h.move hd m, m⟩


theorem settle_id : ∀ (A : List Cl) (ps : List UInt8), (∀ c ∈ A, c.last = none) → settle A ps = A
  | [], ps, _ => rfl
  | c :: r, ps, h => by
    rw [settle, h c (by simp)]
    simp only
    rw [settle_id r ps (fun x hx => h x (by simp [hx]))]
theorem its_cs {S S' : Dv} (h : S'.cs = S.cs) (k : Nat) : S'.its k = S.its k := by unfold Dv.its; rw [h]
theorem its_flush {S S' : Dv} (h : S'.cs = S.cs.map Cl.flush) (k : Nat) : S'.its k = S.its k := by
  unfold Dv.its
  rw [h, List.getElem?_map]
  cases S.cs[k]? <;> rfl
theorem moves_app {F F' : List Nat} {W W' : World} (m : Moves F F' W W') (A : List Nat) : Moves (F ++ A) (F' ++ A) W W' :=
  ⟨m.keep.mono (fun k hk => .inl (List.mem_append.2 (.inl hk))), fun k hk => by
    rcases List.mem_append.1 hk with h | h
    · rcases m.foot k h with h1 | h1
      · exact .inl (List.mem_append.2 (.inl h1))
      · exact .inr h1
    · exact .inl (List.mem_append.2 (.inr h))⟩
variable {w0 W W' : World} {d s : Nat} {F F' : List Nat} {S S' : Dv} {L : Int} {first n : Nat} {M : SM} {f : Nat → List It} {bs : List (List Bool)} {G : List Nat}
theorem Row.sl {w : World} {base : Nat} {v : Value} {xs : List It} (h : Row w base v xs) : ∃ a c, v = .slice a xs.length c := by
  rcases h.form with ⟨rfl, rfl⟩ | ⟨g, cap, pad, rfl, _⟩
  · exact ⟨none, 0, rfl⟩
  · exact ⟨_, cap, rfl⟩
/-- Put of any item. -/
def PutEnd (w0 : World) (d s first n : Nat) (S : Dv) (f : Nat → List It) (bs : List (List Bool)) (G : List Nat) (x : It) (W W' : World) (va : Option Addr) (vn vc : Nat) (er : Int) : Prop :=
  ∃ S' f' bs' G', Bu w0 W' d s first n S' f' bs' G' ∧ Moves G G' W W' ∧ S'.losses = S.losses ∧ S'.cs.length = S.cs.length ∧
    ((er = 1 ∧ f' = f ∧ bs' = bs ∧ va = none ∧ vn = 0 ∧ vc = 0 ∧ (x.good = false ∨ 120 < x.size)) ∨ (er = 0 ∧ x.good = true ∧ x.size ≤ 120 ∧ f' = putF n f x ∧ (∀ l, bs[bkt x.key n]? = some l → bs' = bs.set (bkt x.key n) (keyB l x)) ∧ vn = (outL n f x).length ∧ Row W' W.heap.size (.slice va vn vc) (outL n f x)))
theorem bu_any (h : Bu w0 W d s first n S f bs G) (x : It) (hxf : x.fits) :
    Calls Tryz.prog 9 #[.pointer (some ⟨s, 0, none⟩), .agg #[.string (txt x.key), .string (txt x.value), .int .u32 x.flags, .int .i64 x.exp, .int .u64 x.ver]] W fun e W' => ∃ va vn vc er, e = .returned (.tuple #[.slice va vn vc, .int .i64 er]) ∧ PutEnd w0 d s first n S f bs G x W W' va vn vc er := by
  by_cases hok : x.good = true ∧ x.size ≤ 120
  · refine (bu_put h x hxf hok.1 hok.2).mono ?_
    rintro e W' ⟨v, rfl, hr, S', bs', G', hb, hbs, hm, hl, hc⟩
    obtain ⟨a, c, rfl⟩ := hr.sl
    exact ⟨a, _, c, 0, rfl, S', _, bs', G', hb, hm, hl, hc, .inr ⟨rfl, hok.1, hok.2, rfl, hbs, rfl, hr⟩⟩
  · have hbad : x.good = false ∨ 120 < x.size := by
      by_cases hg : x.good = true
      · exact .inr (by have : ¬ x.size ≤ 120 := fun h => hok ⟨hg, h⟩; omega)
      · exact .inl (by simpa using hg)
    refine (put_bad s x hbad W).mono ?_
    rintro e W' ⟨rfl, b⟩
    exact ⟨none, 0, 0, 1, rfl, S, f, bs, G, h.below b, Moves.of_keep (Keep.of_below b), rfl, rfl, .inl ⟨rfl, rfl, rfl, rfl, rfl, rfl, hbad⟩⟩

theorem bu_flush (h : Bu w0 W d s first n S f bs G) :
    Calls Tryz.prog 49 #[.pointer (some ⟨d, 0, none⟩)] W fun e W' => e = .returned (.int .i64 0) ∧ ∃ S' G', Bu w0 W' d s first n S' f bs G' ∧ Moves G G' W W' ∧ S'.losses = S.losses ∧ S'.cs.length = S.cs.length ∧ ∀ c ∈ S'.cs, c.last = none := by
  obtain ⟨F, M, h, rfl⟩ := h
  refine (flush_at d F S W h.bk.law.dev).mono ?_
  rintro e W' ⟨rfl, F', hd, m⟩
  have e1 : S.flushErr = 0 := by simp [Dv.flushErr, h.sure.gone]
  have e2 : S.flushDo = { S with cs := S.cs.map Cl.flush, fl := wrap64 (S.fl + 1) } := by
    unfold Dv.flushDo
    rw [h.sure.gone, h.sure.used]
    rfl
  rw [e2] at hd
  rw [e1]
  refine ⟨rfl, { S with cs := S.cs.map Cl.flush, fl := wrap64 (S.fl + 1) }, F' ++ M.foot s, ⟨F', M, ⟨h.bk.move hd m, ⟨h.sure.off, h.sure.armed⟩, h.len, h.n1, h.n2, ?_, ?_, h.bits, h.told⟩, rfl⟩, moves_app m _, rfl, ?_, ?_⟩
  · show first + n ≤ (S.cs.map Cl.flush).length
    rw [List.length_map]; exact h.fit
  · intro k hk
    rw [its_flush (S := S) rfl]
    exact h.its k hk
  · show (S.cs.map Cl.flush).length = _
    rw [List.length_map]
  · intro c hc
    have hc' : c ∈ S.cs.map Cl.flush := hc
    obtain ⟨c0, _, rfl⟩ := List.mem_map.1 hc'
    rfl

/-- A store whose device lost its power since it was opened; nothing was under way then. -/
structure GoneIn (w0 W : World) (d : Nat) (F : List Nat) (S : Dv) (s : Nat) (L : Int) (first n : Nat) (M : SM) (f : Nat → List It) : Prop where
  bk : Bk w0 W d F S s L first M
  loss : S.losses ≠ L
  len : M.fs.length = n
  n1 : 0 < n
  n2 : n ≤ 256
  fit : first + n ≤ S.cs.length
  its : ∀ k, k < n → S.its (first + k) = f k
  clean : ∀ c ∈ S.cs, c.last = none
def Gone (w0 W : World) (d s : Nat) (L : Int) (first n : Nat) (S : Dv) (f : Nat → List It) (G : List Nat) : Prop := ∃ F M, GoneIn w0 W d F S s L first n M f ∧ G = F ++ M.foot s
theorem Gone.below (h : Gone w0 W d s L first n S f G) (b : Below W.heap.size W W') : Gone w0 W' d s L first n S f G := by
  obtain ⟨F, M, h, rfl⟩ := h
  exact ⟨F, M, ⟨h.bk.below b, h.loss, h.len, h.n1, h.n2, h.fit, h.its, h.clean⟩, rfl⟩
theorem bu_crash (h : Bu w0 W d s first n S f bs G) (hc : ∀ c ∈ S.cs, c.last = none) (hl : S.losses = 0) {a : Option Addr} {m cap : Nat} {l : List UInt8} (hb : BS w0 a m cap l) (hnil : a = none → l = []) (hm : m ≤ 140737488351232) :
    Calls Tryz.prog 53 #[.pointer (some ⟨d, 0, none⟩), .slice a m cap] W fun e W' => e = .returned (.tuple #[]) ∧ ∃ S' G', Gone w0 W' d s 0 first n S' f G' ∧ Moves G G' W W' ∧ S'.losses = 1 := by
  obtain ⟨F, M, h, rfl⟩ := h
  refine (crash_law h.bk.law hb hnil hm).mono ?_
  rintro e W' ⟨rfl, F', hd, mv⟩
  have ecs : (S.crash l).cs = S.cs := settle_id _ _ hc
  have els : (S.crash l).losses = 1 := by show wrap64 (S.losses + 1) = 1; rw [hl]; decide +kernel
  have hbk := h.bk.move hd.dev mv
  rw [hl] at hbk
  refine ⟨rfl, S.crash l, F' ++ M.foot s, ⟨F', M, ⟨hbk, by rw [els]; decide, h.len, h.n1, h.n2, by rw [ecs]; exact h.fit, fun k hk => by rw [its_cs ecs]; exact h.its k hk, by rw [ecs]; exact hc⟩, rfl⟩, moves_app mv _, els⟩
theorem gone_on (h : Gone w0 W d s 0 first n S f G) (hl : S.losses = 1) :
    Calls Tryz.prog 55 #[.pointer (some ⟨d, 0, none⟩)] W fun e W' => e = .returned (.tuple #[]) ∧ ∃ S' G', Gone w0 W' d s 0 first n S' f G' ∧ Moves G G' W W' ∧ Sure S' := by
  obtain ⟨F, M, h, rfl⟩ := h
  refine (on_law h.bk.law).mono ?_
  rintro e W' ⟨rfl, F', hd, mv⟩
  have ecs : S.on.cs = S.cs := settle_id _ _ h.clean
  have els : S.on.losses = 2 := by show wrap64 (S.losses + 1) = 2; rw [hl]; decide +kernel
  exact ⟨rfl, S.on, F' ++ M.foot s, ⟨F', M, ⟨h.bk.move hd.dev mv, by rw [els]; decide, h.len, h.n1, h.n2, by rw [ecs]; exact h.fit, fun k hk => by rw [its_cs ecs]; exact h.its k hk, by rw [ecs]; exact h.clean⟩, rfl⟩, moves_app mv _, ⟨rfl, rfl⟩⟩
theorem gone_items (h : Gone w0 W d s L first n S f G) :
    Calls Tryz.prog 19 #[.pointer (some ⟨s, 0, none⟩)] W fun e W' => e = .returned (.tuple #[.slice none 0 0, .int .i64 4]) ∧ Below W.heap.size W W' := by
  obtain ⟨F, M, h, rfl⟩ := h
  exact items_done h.bk h.loss (by rw [h.len]; exact h.n1) (by rw [h.len]; exact h.n2)
theorem gone_put (h : Gone w0 W d s L first n S f G) (x : It) (hxg : x.good = true) (hx : x.size ≤ 120) :
    Calls Tryz.prog 9 #[.pointer (some ⟨s, 0, none⟩), .agg #[.string (txt x.key), .string (txt x.value), .int .u32 x.flags, .int .i64 x.exp, .int .u64 x.ver]] W fun e W' => e = .returned (.tuple #[.slice none 0 0, .int .i64 4]) ∧ Below W.heap.size W W' := by
  obtain ⟨F, M, h, rfl⟩ := h
  exact put_done h.bk h.loss (by rw [h.len]; exact h.n1) (by rw [h.len]; exact h.n2) x hxg hx
theorem all_congr {n : Nat} {f g : Nat → List It} (h : ∀ k, k < n → f k = g k) : allF n f = allF n g := flat_congr (fun k hk => h k (List.mem_range.1 hk))
theorem gone_open (h : Gone w0 W d s L first n S f G) (hS : Sure S) :
    Calls Tryz.prog 7 #[.pointer (some ⟨d, 0, none⟩), .int .i64 first, .int .i64 n] W fun e W' => ∃ t S' f' bs' G', e = .returned (.tuple #[.pointer (some ⟨t, 0, none⟩), .int .i64 0]) ∧ Bu w0 W' d t first n S' f' bs' G' ∧ allF n f' = allF n f ∧ ∀ base v xs, RowA G W base v xs → RowA G' W' base v xs := by
  obtain ⟨F, M, h, rfl⟩ := h
  refine (bu_open h.bk.law hS first n h.n1 h.n2 h.fit).mono ?_
  rintro e W' ⟨t, S', G', rfl, hb, hl, mv⟩
  refine ⟨t, S', _, _, G', rfl, hb, all_congr h.its, fun base v xs hr => RowA.move (G := F) ⟨hr.row, fun q hq hf => hr.off q hq (List.mem_append.2 (.inl hf))⟩ mv⟩
theorem Bu.oks (h : Bu w0 W d s first n S f bs G) : Oks (allF n f) ∧ total (allF n f) ≤ n * 384 := by
  have key : ∀ m, m ≤ n → Oks ((List.range m).flatMap f) ∧ total ((List.range m).flatMap f) ≤ m * 384 := by
    intro m
    induction m with
    | zero => intro _; exact ⟨fun x hx => by simp at hx, by simp [total]⟩
    | succ m ih =>
      intro hm
      obtain ⟨h1, h2⟩ := ih (by omega)
      obtain ⟨h3, h4⟩ := h.f_all (k := m) (by omega)
      rw [List.range_succ, List.flatMap_append, List.flatMap_cons, List.flatMap_nil, List.append_nil]
      refine ⟨fun x hx => ?_, ?_⟩
      · rcases List.mem_append.1 hx with hx | hx
        · exact h1 x hx
        · obtain ⟨hf, hg⟩ := h4 x hx
          rw [It.good_iff] at hg
          have := hg.2.1
          have := hg.2.2.1
          exact ⟨hf, by omega, by omega⟩
      · rw [total_append, Nat.succ_mul]; omega
  exact key n (Nat.le_refl _)
end Go.Proofs.YtbccnfbombgdmaaGreat

/- What the two devices beside one another want of the program's own: small calls of the footprint, blocks apart. -/
set_option linter.unusedVariables false
set_option linter.unusedSimpArgs false
set_option maxRecDepth 30000
namespace Go.Proofs.YtbccnfbombgdmaaGreat
open Go.RowKit Go.Deep

/-- The blocks G are there, and none of them is of F. -/
def ApartF (w : World) (F G : List Nat) : Prop := ∀ k ∈ G, k < w.heap.size ∧ k ∉ F

theorem Moves.apart {F F' G : List Nat} {w w' : World} (m : Moves F F' w w') (a : ApartF w F G) : ApartF w' F' G ∧ ∀ k ∈ G, w'.heap[k]? = w.heap[k]? := by
  refine ⟨fun k hk => ⟨Nat.lt_of_lt_of_le (a k hk).1 m.keep.size, fun hf => ?_⟩, fun k hk => m.keep.block k (a k hk).1 (a k hk).2⟩
  rcases m.foot k hf with h | h
  · exact (a k hk).2 h
  · have := (a k hk).1; omega
theorem ApartF.below {F G : List Nat} {w w' : World} (a : ApartF w F G) (b : Below w.heap.size w w') : ApartF w' F G ∧ ∀ k ∈ G, w'.heap[k]? = w.heap[k]? :=
  ⟨fun k hk => ⟨Nat.lt_of_lt_of_le (a k hk).1 b.size, (a k hk).2⟩, fun k hk => b.block k (a k hk).1⟩
theorem not_old {w : World} {d : Nat} {F : List Nat} {S : Dv} (h : DvAt w d F S) : w.heap.size ∉ F := fun hf => by have := h.lt _ hf; omega

/-- All is new from B on: what stood below B stands. -/
def Since (B : Nat) (w w' : World) (F : List Nat) : Prop := Below B w w' ∧ B ≤ w'.heap.size ∧ ∀ k ∈ F, B ≤ k
theorem Since.moves {B : Nat} {w a b : World} {F F' : List Nat} (h : Since B w a F) (m : Moves F F' a b) : Since B w b F' :=
  ⟨h.1.trans (m.keep.below h.2.2 h.2.1), Nat.le_trans h.2.1 m.keep.size, fun k hk => by
    rcases m.foot k hk with h1 | h1
    · exact h.2.2 k h1
    · exact Nat.le_trans h.2.1 h1⟩
theorem Since.keep {B : Nat} {w a b : World} {F : List Nat} (h : Since B w a F) (m : Keep F a b) : Since B w b F := h.moves (Moves.of_keep m)
theorem Since.below {B : Nat} {w a b : World} {F : List Nat} (h : Since B w a F) (m : Below a.heap.size a b) : Since B w b F :=
  ⟨h.1.trans (m.mono h.2.1), Nat.le_trans h.2.1 m.size, h.2.2⟩
theorem Since.alloc {B : Nat} {w a : World} {F : List Nat} (h : Since B w a F) (o : Obj) : Since B w (a.alloc o) F := h.below ((Below.refl _ _).alloc (Nat.le_refl _) o)

set_option maxHeartbeats 400000 in
theorem arm_any (d p : Nat) (pd : List Value) (wa : Option Addr) (wc : Nat) (S : Dv) (w : World) (h : DvIn w d p pd wa wc S) (k : Int) (hk : k ≤ 9223372036854775807) :
    Calls Tryz.prog 51 #[.pointer (some ⟨d, 0, none⟩), .int .i64 k] w fun e w' => e = .returned (.tuple #[]) ∧ DvIn w' d p pd wa wc (S.arm k) ∧ Keep [d] w w' := by
  have c2 := h.dev.cell (i := 2) rfl
  have f2 := h.dev.frozen 2
  have H : Hid (DvIn w d p pd wa wc S) := h
  have G : Hid _ := Dv.arm_good h.good k hk
  clear h
  obtain ⟨cs, armed, off, losses, wr, fl, rd, cr⟩ := S
  simp only at c2
  obtain ⟨q, hq⟩ : ∃ q : Int, q = max k 0 := ⟨_, rfl⟩
  have e : Hid ((k.toNat : Int) = q) := by show (k.toNat : Int) = q; omega
  have HQ := hide hq
  go_enter Tryz.func51, Tryz.ntmps51
  clear hq
  go_wp2
  go_end0
  rw [← HQ.out]
  have K : Keep [d] w (w.setCell ⟨d, 2, none⟩ (.int .i64 q)) := (Keep.refl [d] w).setCell (.inl (by simp)) _
  refine ⟨rfl, H.out.turn K ?_ rfl G.out, K⟩
  have := H.out.dev.set 2 (.int .i64 q)
  simp only [Dv.arm, dvCells, e.out]
  exact this
theorem arm_at (d : Nat) (F : List Nat) (S : Dv) (w : World) (h : DvAt w d F S) (k : Int) (hk : k ≤ 9223372036854775807) :
    Calls Tryz.prog 51 #[.pointer (some ⟨d, 0, none⟩), .int .i64 k] w fun e w' => e = .returned (.tuple #[]) ∧ DvAt w' d F (S.arm k) ∧ Keep F w w' := by
  obtain ⟨p, pd, wa, wc, rfl, h⟩ := h
  refine (arm_any d p pd wa wc S w h k hk).mono ?_
  rintro e w' ⟨rfl, h2, k2⟩
  exact ⟨rfl, ⟨p, pd, wa, wc, rfl, h2⟩, k2.mono (fun k hk => .inl (by simp at hk; simp [foot, hk]))⟩
theorem pages_atF (d : Nat) (F : List Nat) (S : Dv) (w : World) (h : DvAt w d F S) : Calls Tryz.prog 23 #[.pointer (some ⟨d, 0, none⟩)] w fun e w' => e = .returned (.int .i64 S.cs.length) ∧ w' = w := by
  obtain ⟨p, pd, wa, wc, rfl, h⟩ := h
  exact pages_any d p pd wa wc S w h
theorem losses_atF (d : Nat) (F : List Nat) (S : Dv) (w : World) (h : DvAt w d F S) : Calls Tryz.prog 24 #[.pointer (some ⟨d, 0, none⟩)] w fun e w' => e = .returned (.int .i64 S.losses) ∧ w' = w := by
  obtain ⟨p, pd, wa, wc, rfl, h⟩ := h
  exact losses_any d p pd wa wc S w h
set_option maxHeartbeats 400000 in
theorem power_atF (d : Nat) (F : List Nat) (S : Dv) (w : World) (h : DvAt w d F S) :
    Calls Tryz.prog 59 #[.pointer (some ⟨d, 0, none⟩)] w fun e w' => e = .returned (.bool (!S.off)) ∧ w' = w := by
  obtain ⟨p, pd, wa, wc, rfl, h⟩ := h
  have c3 := h.dev.cell (i := 3) rfl
  clear h
  cases hO : S.off with
  | true =>
    rw [hO] at c3
    go_enter Tryz.func59, Tryz.ntmps59
    go_wp2
    go_ret
    exact ⟨rfl, rfl⟩
  | false =>
    rw [hO] at c3
    go_enter Tryz.func59, Tryz.ntmps59
    go_wp2
    go_ret
    exact ⟨rfl, rfl⟩
set_option maxHeartbeats 400000 in
theorem erase_at (d : Nat) (F : List Nat) (S : Dv) (at0 : Int) (w : World) (h : DvAt w d F S) :
    Calls Tryz.prog 47 #[.pointer (some ⟨d, 0, none⟩), .int .i64 at0] w fun e w' => e = .returned (.int .i64 (S.putErr at0)) ∧
      ∃ F', DvAt w' d F' (S.putDo at0 .blank) ∧ Moves F F' w w' := by
  have cp := hide (put_at d F S at0 .blank (Nat.zero_le _) none 0 0 0 [] rfl rfl w (.inl rfl) (fun _ => rfl) (fun h => absurd rfl h) h)
  have ek : ((Pg.blank.kind : Nat) : Int) = 0 := rfl
  rw [ek] at cp
  clear h ek
  go_enter Tryz.func47, Tryz.ntmps47
  go_wp2_with (go_at_call 73; refine cp.out.mono ?_; rintro e w' ⟨rfl, F', h1, m1⟩)
  go_ret
  exact ⟨rfl, F', h1, m1⟩

theorem makeInts (m : Nat) (hm : m ≤ 4096) (W : World) : (Instr.makeSlice 121 (.int .i64 m) (.int .i64 m)).run Tryz.prog W = .ok (.slice (some ⟨W.heap.size, 0, none⟩) m m) (W.alloc (.cells (List.replicate m (Value.int .i64 0)).toArray 3)) := by
  have h := run_make_row' (P := Tryz.prog) 121 3 (.int .i64 0) 8 Tryz.underlying121 info3 rfl .i64 .i64 m (by omega) (by omega) W
  have e : madeCells #[Value.int .i64 0] m = (List.replicate m (Value.int .i64 0)).toArray := by
    apply Array.ext'
    rw [toList_madeCells_one]
  rw [e] at h
  exact h
end Go.Proofs.YtbccnfbombgdmaaGreat

/- The document's own device in memory, and the small calls on it. -/
set_option linter.unusedVariables false
set_option linter.unusedSimpArgs false
set_option maxRecDepth 30000
namespace Go.Proofs.YtbccnfbombgdmaaGreat
open Go.RowKit Go.Deep

/-- Where its rows lie, and what lies behind each. -/
structure RLoc where
  last : Nat
  now : Nat
  waits : Nat
  pl : List Value
  pn : List Value
  pw : List Value

def rpg (p : Pg) : List Value := [.int .i64 p.kind, .string p.read]
def rRow (l : List Pg) : List Value := l.flatMap rpg
def nows (cs : List Cl) : List Pg := cs.map (·.now)
def lasts (cs : List Cl) : List Pg := cs.map fun c => c.last.getD c.now
def wRow (cs : List Cl) : List Value := cs.map fun c => .bool c.last.isSome

def rCells (L : RLoc) (S : Dv) : List Value :=
  [.slice (some ⟨L.last, 0, none⟩) S.cs.length (S.cs.length + L.pl.length / 2), .slice (some ⟨L.now, 0, none⟩) S.cs.length (S.cs.length + L.pn.length / 2), .slice (some ⟨L.waits, 0, none⟩) S.cs.length (S.cs.length + L.pw.length),
   .bool S.off, .int .i64 S.armed, .int .i64 S.losses, .int .i64 S.wr, .int .i64 S.fl, .int .i64 S.rd, .int .i64 S.cr]

structure RfIn (w : World) (r : Nat) (L : RLoc) (S : Dv) : Prop where
  dev : Blk w r (rCells L S) 68
  last : Blk w L.last (rRow (lasts S.cs) ++ L.pl) 118
  now : Blk w L.now (rRow (nows S.cs) ++ L.pn) 118
  waits : Blk w L.waits (wRow S.cs ++ L.pw) 4
  apart : [r, L.last, L.now, L.waits].Nodup
  good : S.good

def rfoot (r : Nat) (L : RLoc) : List Nat := [r, L.last, L.now, L.waits]
def RfAt (w : World) (r : Nat) (G : List Nat) (S : Dv) : Prop := ∃ L, G = rfoot r L ∧ RfIn w r L S

theorem RfIn.ne {w : World} {r : Nat} {L : RLoc} {S : Dv} (h : RfIn w r L S) : r ≠ L.last ∧ r ≠ L.now ∧ r ≠ L.waits ∧ L.last ≠ L.now ∧ L.last ≠ L.waits ∧ L.now ≠ L.waits := by
  have := h.apart
  simp only [List.nodup_cons, List.mem_cons, List.not_mem_nil, or_false, not_or] at this
  exact ⟨this.1.1, this.1.2.1, this.1.2.2, this.2.1.1, this.2.1.2, this.2.2.1⟩

theorem RfIn.same {w w' : World} {r : Nat} {L : RLoc} {S : Dv} (h : RfIn w r L S) (hk : ∀ k ∈ rfoot r L, w'.heap[k]? = w.heap[k]?) : RfIn w' r L S :=
  ⟨h.dev.same (hk _ (by simp [rfoot])), h.last.same (hk _ (by simp [rfoot])), h.now.same (hk _ (by simp [rfoot])), h.waits.same (hk _ (by simp [rfoot])), h.apart, h.good⟩
theorem RfIn.lt {w : World} {r : Nat} {L : RLoc} {S : Dv} (h : RfIn w r L S) : ∀ k ∈ rfoot r L, k < w.heap.size := by
  intro k hk
  simp only [rfoot, List.mem_cons, List.not_mem_nil, or_false] at hk
  rcases hk with rfl | rfl | rfl | rfl
  · exact h.dev.lt
  · exact h.last.lt
  · exact h.now.lt
  · exact h.waits.lt
theorem RfAt.same {w w' : World} {r : Nat} {G : List Nat} {S : Dv} (h : RfAt w r G S) (hk : ∀ k ∈ G, w'.heap[k]? = w.heap[k]?) : RfAt w' r G S := by
  obtain ⟨L, rfl, h⟩ := h
  exact ⟨L, rfl, h.same hk⟩
theorem RfAt.lt {w : World} {r : Nat} {G : List Nat} {S : Dv} (h : RfAt w r G S) : ∀ k ∈ G, k < w.heap.size := by
  obtain ⟨L, rfl, h⟩ := h
  exact h.lt
theorem RfAt.below {w w' : World} {r : Nat} {G : List Nat} {S : Dv} (h : RfAt w r G S) (b : Below w.heap.size w w') : RfAt w' r G S := h.same (fun k hk => b.block k (h.lt k hk))

/-- A store into its own block alone. -/
theorem RfIn.turn {w w' : World} {r : Nat} {L : RLoc} {S S' : Dv} (h : RfIn w r L S) (hk : Keep [r] w w') (hb : Blk w' r (rCells L S') 68) (hcs : S'.cs = S.cs) (hg : S'.good) : RfIn w' r L S' := by
  obtain ⟨n1, n2, n3, _⟩ := h.ne
  exact ⟨hb, by rw [hcs]; exact h.last.same (hk.block _ h.last.lt (by simpa using Ne.symm n1)), by rw [hcs]; exact h.now.same (hk.block _ h.now.lt (by simpa using Ne.symm n2)),
    by rw [hcs]; exact h.waits.same (hk.block _ h.waits.lt (by simpa using Ne.symm n3)), h.apart, hg⟩

theorem Keep.to_rfoot {w w' : World} {r : Nat} {L : RLoc} (h : Keep [r] w w') : Keep (rfoot r L) w w' := h.mono (fun k hk => .inl (by simp at hk; simp [rfoot, hk]))

set_option maxHeartbeats 400000 in
theorem rgone_any (r : Nat) (L : RLoc) (S : Dv) (w : World) (h : RfIn w r L S) :
    Calls Tryz.prog 75 #[.pointer (some ⟨r, 0, none⟩)] w fun e w' => e = .returned (.bool S.gone) ∧ RfIn w' r L S.used ∧ Keep [r] w w' := by
  have c3 := h.dev.cell (i := 3) rfl
  have c4 := h.dev.cell (i := 4) rfl
  have c5 := h.dev.cell (i := 5) rfl
  have f3 := h.dev.frozen 3
  have f4 := h.dev.frozen 4
  have f5 := h.dev.frozen 5
  have H : Hid (RfIn w r L S) := h
  have G := hide (Dv.used_good h.good)
  have A := hide h.good.armed
  clear h
  obtain ⟨cs, armed, off, losses, wr, fl, rd, cr⟩ := S
  simp only at c3 c4 c5
  cases off
  · by_cases h0 : armed = 0
    · subst h0
      go_enter Tryz.func75, Tryz.ntmps75
      go_wp2
      go_ret
      exact ⟨rfl, H.out, Keep.refl _ _⟩
    · by_cases h1 : armed = 1
      · subst h1
        go_enter Tryz.func75, Tryz.ntmps75
        go_wp2
        go_ret
        have K : Keep [r] w (((w.setCell ⟨r, 4, none⟩ (.int .i64 0)).setCell ⟨r, 3, none⟩ (.bool true)).setCell ⟨r, 5, none⟩ (.int .i64 (wrap64 (losses + 1)))) :=
          (((Keep.refl [r] w).setCell (.inl (by simp)) _).setCell (.inl (by simp)) _).setCell (.inl (by simp)) _
        refine ⟨rfl, H.out.turn K ?_ rfl G.out, K⟩
        exact ((H.out.dev.set 4 _).set 3 _).set 5 _
      · have a1 : (armed : Int) - 1 = ((armed - 1 : Nat) : Int) := by omega
        have a2 : ¬ ((armed : Int) - 1 = 0) := by omega
        have a3 : (armed : Int) ≤ 9223372036854775807 := by have := A.out; simp only at this; omega
        have a4 : (0 : Int) < (armed : Int) := by omega
        have a5 : wrap64 ((armed : Int) - 1) = (armed : Int) - 1 := by unfold wrap64; omega
        have eg : Hid ((⟨cs, armed, false, losses, wr, fl, rd, cr⟩ : Dv).gone = false) := by simp [Hid, Dv.gone, h1]
        have eu : Hid ((⟨cs, armed, false, losses, wr, fl, rd, cr⟩ : Dv).used = ⟨cs, armed - 1, false, losses, wr, fl, rd, cr⟩) := by simp [Hid, Dv.used, h0, h1]
        have a1' := hide a1
        clear h0 h1 a1
        go_enter Tryz.func75, Tryz.ntmps75
        go_wp2
        go_ret
        rw [eu.out] at G
        rw [eg.out, eu.out]
        have K : Keep [r] w (w.setCell ⟨r, 4, none⟩ (.int .i64 ((armed : Int) - 1))) := (Keep.refl [r] w).setCell (.inl (by simp)) _
        refine ⟨rfl, H.out.turn K ?_ rfl G.out, K⟩
        rw [a1'.out]
        exact H.out.dev.set 4 _
  · go_enter Tryz.func75, Tryz.ntmps75
    go_wp2
    go_ret
    exact ⟨rfl, H.out, Keep.refl _ _⟩

set_option maxHeartbeats 400000 in
theorem rarm_any (r : Nat) (L : RLoc) (S : Dv) (w : World) (h : RfIn w r L S) (k : Int) (hk : k ≤ 9223372036854775807) :
    Calls Tryz.prog 52 #[.pointer (some ⟨r, 0, none⟩), .int .i64 k] w fun e w' => e = .returned (.tuple #[]) ∧ RfIn w' r L (S.arm k) ∧ Keep [r] w w' := by
  have c4 := h.dev.cell (i := 4) rfl
  have f4 := h.dev.frozen 4
  have H : Hid (RfIn w r L S) := h
  have G := hide (Dv.arm_good h.good k hk)
  clear h
  by_cases hk1 : k < 1
  · have e : Hid (k.toNat = 0) := by show k.toNat = 0; omega
    go_enter Tryz.func52, Tryz.ntmps52
    go_wp2
    go_end0
    have K : Keep [r] w ((w.setCell ⟨r, 4, none⟩ (.int .i64 k)).setCell ⟨r, 4, none⟩ (.int .i64 0)) := ((Keep.refl [r] w).setCell (.inl (by simp)) _).setCell (.inl (by simp)) _
    refine ⟨rfl, H.out.turn K ?_ rfl G.out, K⟩
    have := (H.out.dev.set 4 (.int .i64 k)).set 4 (.int .i64 0)
    simp only [Dv.arm, rCells, e.out]
    exact this
  · have e : Hid ((k.toNat : Int) = k) := by show (k.toNat : Int) = k; omega
    go_enter Tryz.func52, Tryz.ntmps52
    go_wp2
    go_end0
    have K : Keep [r] w (w.setCell ⟨r, 4, none⟩ (.int .i64 k)) := (Keep.refl [r] w).setCell (.inl (by simp)) _
    refine ⟨rfl, H.out.turn K ?_ rfl G.out, K⟩
    have := H.out.dev.set 4 (.int .i64 k)
    simp only [Dv.arm, rCells, e.out]
    exact this
end Go.Proofs.YtbccnfbombgdmaaGreat
