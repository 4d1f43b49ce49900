/- A power that goes while marks are added; what is there behind it. -/
import Derived.Test.YtghdkicijdfpcaaArgs
import Derived.Laws.AppendOwnNone
set_option linter.unusedVariables false
set_option linter.unusedSimpArgs false
set_option maxRecDepth 8000
namespace Go.Proofs.Ytghdkicijdfpcaa
open Go.RowKit Go.Deep Go.ChangeShapes Go.WideShapes Math

theorem u8_wf {z : Int} (h : (Lit.int .u8 z).wf = true) : 0 ≤ z ∧ z < 256 := by
  have h1 : IntKind.u8.min = 0 := rfl
  have h2 : IntKind.u8.max = 255 := rfl
  simp [Lit.wf, h1, h2] at h
  omega
theorem cells5 : Try.prog.cellsOf 5 = 1 := by kernel_rfl
theorem bytes5 : Try.prog.bytesOf 5 = 1 := by kernel_rfl
theorem bytes_open {H : Type} {enc : TypeId × Value → H} {W : World} {fuel : Nat} {a0 : Option Addr} {n0 c0 : Nat} {x : DataW H × List MemPlace} (h : DataW.trod enc Try.prog W 0 (fun _ => true) true fuel 41 [.slice a0 n0 c0] = some x)
    (hw : ∀ n ∈ x.1.weights Try.prog 41, n ≤ reachBytes) :
    ∃ l : List UInt8, BS W a0 n0 c0 l ∧ (a0 = none → l = []) ∧ n0 ≤ 140737488351232 := by
  rcases open_ints Try.underlying41 Try.underlying5 cells5 h with ⟨hcs, _⟩ | ⟨a, len, cap, zs, hcs, _, hl, hm, hz, hx, hcell, hwz⟩
  · simp at hcs
    obtain ⟨rfl, rfl, rfl⟩ := hcs
    exact ⟨[], BS.mk' rfl (Nat.le_refl _) (Reads.nil _ _), fun _ => rfl, Nat.zero_le _⟩
  · simp only [List.cons.injEq, Value.slice.injEq, and_true] at hcs
    obtain ⟨rfl, rfl, rfl⟩ := hcs
    have hz' : zs.length = c0 := by simpa using hz
    have hb : (zs.take n0).length + (zs.drop n0).length ≤ reachBytes := by
      have := hw (((lits (H := H) .u8 (zs.take n0)).length + (lits (H := H) .u8 (zs.drop n0)).length) * Try.prog.bytesOf 5) (by rw [hx]; simp [DataW.weights, Try.underlying41])
      rw [bytes5] at this
      simpa [lits] using this
    have hlen : ((zs.take n0).map (fun z => UInt8.ofNat z.toNat)).length = n0 := by simp; omega
    have e8 : ∀ j, j < n0 → (((zs.take n0).map (fun z => UInt8.ofNat z.toNat)).getD j 0).toNat = zs.getD j 0 := fun j hj => by
      have hmem : zs.getD j 0 ∈ zs := by rw [List.getD_eq_getElem?_getD, List.getElem?_eq_getElem (by omega)]; exact List.getElem_mem _
      have hb := u8_wf (hwz _ hmem)
      have e1 : ((zs.take n0).map (fun z => UInt8.ofNat z.toNat)).getD j 0 = UInt8.ofNat (zs.getD j 0).toNat := by
        simp [List.getD_eq_getElem?_getD, List.getElem?_eq_getElem (show j < zs.length by omega), List.getElem?_take_of_lt hj]
      rw [e1, UInt8.toNat_ofNat']
      have e2 : ((zs.getD j 0).toNat % 2 ^ 8 : Nat) = (zs.getD j 0).toNat := Nat.mod_eq_of_lt (by omega)
      rw [e2]
      omega
    refine ⟨(zs.take n0).map (fun z => UInt8.ofNat z.toNat), BS.mk' hlen.symm hl ⟨fun i hi => ?_, fun i => ?_⟩, (fun h => by cases h), ?_⟩
    · rw [ints_length, hlen] at hi
      have c0' := hcell 0 (by omega)
      have hspot : a.spot = none := by simpa [Addr.add] using World.cell?_spot c0'
      obtain ⟨b, off, sp⟩ := a
      simp only at hspot
      subst hspot
      refine ⟨b, off, rfl, ?_⟩
      have cj := hcell i (by omega)
      rw [Addr.add_lit] at cj
      rw [cj, ints_getD, e8 i hi]
    · rw [ints_getD]
      have := (((zs.take n0).map (fun z => UInt8.ofNat z.toNat)).getD i 0).toNat_lt
      omega
    · have e : reachBytes = 140737488351232 := by decide
      simp at hb
      omega
theorem arm_law {w0 W : World} {d : Nat} {F : List Nat} {S : Dv} (h : Law w0 d F S W) (k : Int) (hk : k ≤ 9223372036854775807) :
    Calls Try.prog 24 #[.pointer (some ⟨d, 0, none⟩), .int .i64 k] W fun e W' => e = .returned (.tuple #[]) ∧ Law w0 d F (S.arm k) W' ∧ Moves F F W W' := by
  have hd := h.dev
  obtain ⟨p, pd, wa, wc, rfl, hd⟩ := hd
  refine (arm_any d p pd wa wc S W hd k hk).mono ?_
  rintro e W' ⟨rfl, hd', hk'⟩
  have m : Moves (foot d p wa) (foot d p wa) W W' := Moves.of_keep (hk'.mono (fun k hk => .inl (by simp at hk; simp [foot, hk])))
  exact ⟨rfl, h.move ⟨p, pd, wa, wc, rfl, hd'⟩ m, m⟩
theorem crash_law {w0 W : World} {d : Nat} {F : List Nat} {S : Dv} (h : Law w0 d F S W) {a : Option Addr} {n cap : Nat} {l : List UInt8} (hb : BS w0 a n cap l) (hnil : a = none → l = []) (hn : n ≤ 140737488351232) :
    Calls Try.prog 25 #[.pointer (some ⟨d, 0, none⟩), .slice a n cap] W fun e W' => e = .returned (.tuple #[]) ∧ ∃ F', Law w0 d F' (S.crash l) W' ∧ Moves F F' W W' := by
  have hb' := hb.later h.bel
  have hex : ∃ bb, BSlice W a l bb ∧ (l ≠ [] → bb ∉ F) := by
    cases a with
    | none => exact ⟨0, .inl (hnil rfl), fun hl => absurd (hnil rfl) hl⟩
    | some x =>
      by_cases hl : l = []
      · exact ⟨0, .inl hl, fun h => absurd hl h⟩
      · have hpos : 0 < l.length := List.length_pos_iff.2 hl
        obtain ⟨b', o', ha, hlt, hc⟩ := hb.cell 0 (by have := hb.len; omega)
        cases ha
        exact ⟨b', hb'.slice, fun _ hf => by have := h.low _ hf; omega⟩
  obtain ⟨bb, h1, h2⟩ := hex
  refine (crash_at d F S a n cap bb l hb.len (by omega) W h1 h2 h.dev).mono ?_
  rintro e W' ⟨rfl, F', hd, m⟩
  exact ⟨rfl, F', h.move hd m, m⟩
theorem on_law {w0 W : World} {d : Nat} {F : List Nat} {S : Dv} (h : Law w0 d F S W) :
    Calls Try.prog 26 #[.pointer (some ⟨d, 0, none⟩)] W fun e W' => e = .returned (.tuple #[]) ∧ ∃ F', Law w0 d F' S.on W' ∧ Moves F F' W W' := by
  refine (on_at d F S W h.dev).mono ?_
  rintro e W' ⟨rfl, F', hd, m⟩
  exact ⟨rfl, F', h.move hd m, m⟩

/-! ### The pages behind a cut -/
def pgC (g : Nat) (xs : List Mk) : Cl := ⟨.whole (pgOf g xs), none⟩
theorem settle_clean : ∀ (A B : List Cl) (ps : List UInt8), (∀ c ∈ A, c.last = none) → settle (A ++ B) ps = A ++ settle B ps
  | [], B, ps, _ => rfl
  | c :: r, B, ps, h => by
    have hc := h c (by simp)
    rw [List.cons_append, settle, hc]
    simp only
    rw [settle_clean r B ps (fun x hx => h x (by simp [hx]))]
    rfl
/-- The first page, pages of marks, the rest. -/
def Laid (S : Dv) (g : Nat) (xss : List (List Mk)) (tail : List Cl) : Prop := ∃ c0 : Cl, c0.last = none ∧ S.cs = (c0 :: xss.map (pgC g)) ++ tail
theorem laid_clean {c0 : Cl} {g : Nat} {xss : List (List Mk)} (h : c0.last = none) : ∀ c ∈ c0 :: xss.map (pgC g), c.last = none := by
  intro c hc
  rcases List.mem_cons.1 hc with rfl | hc
  · exact h
  · obtain ⟨xs, _, rfl⟩ := List.mem_map.1 hc; rfl
theorem Laid.settle {S : Dv} {g : Nat} {xss : List (List Mk)} {tail : List Cl} (h : Laid S g xss tail) (ps : List UInt8) {S' : Dv} (e : S'.cs = settle S.cs ps) : Laid S' g xss (Go.Proofs.Ytghdkicijdfpcaa.settle tail ps) := by
  obtain ⟨c0, h0, hc⟩ := h
  exact ⟨c0, h0, by rw [e, hc, settle_clean _ _ _ (laid_clean h0)]⟩
theorem Laid.scan {S : Dv} {g : Nat} {xss : List (List Mk)} {tail : List Cl} (h : Laid S g xss tail) (p : Nat) (hp : xss.length ≤ p) (hg : g < 18446744073709551616) (hx : ∀ xs ∈ xss, xs.length ≤ 23 ∧ ∀ x ∈ xs, Mk.fits x) : ∃ r, scanP g (S.pgs 1 p) = xss ++ r := by
  obtain ⟨c0, h0, hc⟩ := h
  have e : S.pgs 1 p = (xss.map fun xs => Pg.whole (pgOf g xs)) ++ ((tail.map (·.now)).take (p - xss.length)) := by
    rw [pgs_pl]
    unfold Dv.pl
    rw [hc]
    simp only [List.map_append, List.map_cons, List.cons_append, List.drop_succ_cons, List.drop_zero, List.map_map]
    rw [List.take_append]
    have e1 : (List.map ((fun x => x.now) ∘ pgC g) xss) = xss.map fun xs => Pg.whole (pgOf g xs) := by apply List.map_congr_left; intro a _; rfl
    rw [e1, List.length_map, List.take_of_length_le (by rw [List.length_map]; exact hp)]
  refine ⟨scanP g ((tail.map (·.now)).take (p - xss.length)), ?_⟩
  rw [e]
  apply scan_append
  rw [List.map_map]
  apply List.map_congr_left
  intro xs hxs
  exact tk_page g xs hg (hx xs hxs).1 (hx xs hxs).2

structure Alive (S : Dv) (xss : List (List Mk)) : Prop where
  off : S.off = false
  losses : S.losses = 0
  laid : Laid S 7 xss (List.replicate (13 - xss.length) ⟨.blank, none⟩)
  le : xss.length ≤ 12
structure Dead (S : Dv) (xss : List (List Mk)) : Prop where
  off : S.off = true
  losses : S.losses = 1
  laid : ∃ tail, Laid S 7 xss tail ∧ tail.length = 13 - xss.length
  le : xss.length ≤ 12
theorem Alive.len {S : Dv} {xss : List (List Mk)} (h : Alive S xss) : S.cs.length = 14 := by
  obtain ⟨c0, _, hc⟩ := h.laid
  rw [hc]; have := h.le; simp; omega
theorem used_gone {S : Dv} (ho : S.off = false) (ha : S.armed = 1) : S.used = { S with armed := 0, off := true, losses := wrap64 (S.losses + 1) } := by
  unfold Dv.used; rw [if_neg (by rw [ho, ha]; simp), if_pos ha]
theorem used_more {S : Dv} (ho : S.off = false) (ha : S.armed ≠ 1) : S.used = { S with armed := S.armed - 1 } := by
  unfold Dv.used
  by_cases h0 : S.armed = 0
  · rw [if_pos (.inr h0)]
    cases S; simp at h0; simp [h0]
  · rw [if_neg (by rw [ho]; simp [h0]), if_neg ha]
theorem wrap1 : wrap64 (0 + 1) = 1 := by unfold wrap64; omega

/-- What an Add does to a device whose power may go. -/
theorem add_step {S : Dv} {xss : List (List Mk)} (h : Alive S xss) (hu : xss.length < 12) (xs : List Mk) (hx : xs.length ≤ 23) :
    (addEr S (1 + xss.length) (pgOf 7 xs) = 0 ∧ Alive (addDv S (1 + xss.length) (pgOf 7 xs)) (xss ++ [xs]) ∧ ∀ J : Jr, addJr J S (1 + xss.length) (pgOf 7 xs) xs = ({ J with used := J.used + 1 } : Jr).keeps xs) ∨
    (addEr S (1 + xss.length) (pgOf 7 xs) = 4 ∧ Dead (addDv S (1 + xss.length) (pgOf 7 xs)) xss ∧ ∀ J : Jr, (addJr J S (1 + xss.length) (pgOf 7 xs) xs).losses = J.losses) := by
  have hlen := h.len
  obtain ⟨c0, h0, hc⟩ := h.laid
  have hsz : ¬ 384 < (pgOf 7 xs).size := by rw [pgOf_size]; omega
  have hhas : S.has ((1 + xss.length : Nat) : Int) = true := has_nat (by rw [hlen]; omega)
  generalize hq : 1 + xss.length = q at hhas ⊢
  by_cases ha : S.armed = 1
  · right
    have hg : S.gone = true := by simp [Dv.gone, ha]
    have e1 : S.writeErr (q : Int) (pgOf 7 xs) = 4 := by simp [Dv.writeErr, hsz, Dv.putErr, hhas, hg]
    have e2 : S.writeDo (q : Int) (pgOf 7 xs) = S.used := by simp [Dv.writeDo, hsz, Dv.putDo, hhas, hg]
    have e3 := used_gone h.off ha
    refine ⟨?_, ?_, fun J => ?_⟩
    · unfold addEr; rw [e1]; rfl
    · unfold addDv; rw [e1, if_pos (by decide), e2, e3]
      refine ⟨rfl, ?_, ⟨List.replicate (13 - xss.length) ⟨.blank, none⟩, ⟨c0, h0, hc⟩, by simp⟩, h.le⟩
      show wrap64 (S.losses + 1) = 1
      rw [h.losses]; exact wrap1
    · unfold addJr; rw [e1, if_pos (by decide)]
  · have hg : S.gone = false := by simp [Dv.gone, h.off, ha]
    have e1 : S.writeErr (q : Int) (pgOf 7 xs) = 0 := by simp [Dv.writeErr, hsz, Dv.putErr, hhas, hg]
    have e2 : S.writeDo (q : Int) (pgOf 7 xs) = { S with armed := S.armed - 1, cs := putAt S.cs q (.whole (pgOf 7 xs)), wr := wrap64 (S.wr + 1) } := by
      simp [Dv.writeDo, hsz, Dv.putDo, hhas, hg, used_more h.off ha]
    have ep : putAt S.cs q (.whole (pgOf 7 xs)) = (c0 :: xss.map (pgC 7)) ++ (⟨.whole (pgOf 7 xs), some .blank⟩ :: List.replicate (12 - xss.length) ⟨.blank, none⟩) := by
      rw [hc, show 13 - xss.length = (12 - xss.length) + 1 by omega, List.replicate_succ]
      have hl : q = (c0 :: xss.map (pgC 7)).length := by simp; omega
      rw [hl, putAt_part]
      rfl
    generalize hS1 : S.writeDo (q : Int) (pgOf 7 xs) = S1 at e2
    have o1 : S1.off = false := by rw [e2]; exact h.off
    have l1 : S1.losses = 0 := by rw [e2]; exact h.losses
    have c1 : S1.cs = (c0 :: xss.map (pgC 7)) ++ (⟨.whole (pgOf 7 xs), some .blank⟩ :: List.replicate (12 - xss.length) ⟨.blank, none⟩) := by rw [e2]; exact ep
    by_cases ha1 : S1.armed = 1
    · right
      have hg1 : S1.gone = true := by simp [Dv.gone, ha1]
      have e3 : S1.flushErr = 4 := by simp [Dv.flushErr, hg1]
      have e4 : S1.flushDo = S1.used := by simp [Dv.flushDo, hg1]
      have e5 := used_gone o1 ha1
      refine ⟨?_, ?_, fun J => ?_⟩
      · unfold addEr; rw [e1, if_neg (by decide), hS1, e3]
      · unfold addDv; rw [e1, if_neg (by decide), hS1, e4, e5]
        refine ⟨rfl, ?_, ⟨_, ⟨c0, h0, c1⟩, by simp; omega⟩, h.le⟩
        show wrap64 (S1.losses + 1) = 1
        rw [l1]; exact wrap1
      · unfold addJr; rw [e1, if_neg (by decide), hS1, e3, if_pos (by decide)]
    · left
      have hg1 : S1.gone = false := by simp [Dv.gone, o1, ha1]
      have e3 : S1.flushErr = 0 := by simp [Dv.flushErr, hg1]
      have e4 : S1.flushDo = { S1 with armed := S1.armed - 1, cs := S1.cs.map Cl.flush, fl := wrap64 (S1.fl + 1) } := by simp [Dv.flushDo, hg1, used_more o1 ha1]
      refine ⟨?_, ?_, fun J => ?_⟩
      · unfold addEr; rw [e1, if_neg (by decide), hS1, e3]
      · unfold addDv; rw [e1, if_neg (by decide), hS1, e4]
        refine ⟨o1, l1, ⟨c0.flush, rfl, ?_⟩, by simp; omega⟩
        show S1.cs.map Cl.flush = _
        rw [c1]
        simp only [List.map_append, List.map_cons, List.map_map, List.map_replicate, List.length_append, List.length_cons, List.length_nil]
        have e6 : List.map (Cl.flush ∘ pgC 7) xss = xss.map (pgC 7) := by apply List.map_congr_left; intro a _; rfl
        rw [e6, show 13 - (xss.length + (0 + 1)) = 12 - xss.length by omega]
        simp [pgC, Cl.flush]
      · unfold addJr; rw [e1, if_neg (by decide), hS1, e3, if_neg (by decide)]

/-! ### What is gone behind it -/
theorem kM_ge : ∀ (xs : List Mk) (M : Nat → Option Nat) (k u : Nat), M k = some u → ∃ v, kM M xs k = some v ∧ u ≤ v
  | [], M, k, u, h => ⟨u, h, Nat.le_refl _⟩
  | x :: r, M, k, u, h => by
    have : ∃ v, (fun y => if y = x.1 then some (max ((M x.1).getD 0) x.2) else M y) k = some v ∧ u ≤ v := by
      by_cases e : k = x.1
      · subst e; exact ⟨max u x.2, by simp [h], by omega⟩
      · exact ⟨u, by simp [e, h], Nat.le_refl _⟩
    obtain ⟨v, hv, hle⟩ := this
    obtain ⟨v2, h2, hle2⟩ := kM_ge r (fun y => if y = x.1 then some (max ((M x.1).getD 0) x.2) else M y) k v hv
    exact ⟨v2, h2, by omega⟩
theorem kM_mem : ∀ (xs : List Mk) (M : Nat → Option Nat) (x : Mk), x ∈ xs → ∃ v, kM M xs x.1 = some v ∧ x.2 ≤ v
  | y :: r, M, x, h => by
    rcases List.mem_cons.1 h with rfl | h
    · obtain ⟨v, hv, hle⟩ := kM_ge r (fun z => if z = x.1 then some (max ((M x.1).getD 0) x.2) else M z) x.1 (max ((M x.1).getD 0) x.2) (by simp)
      exact ⟨v, hv, by omega⟩
    · exact kM_mem r _ x h
theorem gone_mem {J : Jr} {L : Int} {f p u g : Nat} {xs : List Mk} (h : J.is L f p u g (kM (fun _ => none) xs)) {x : Mk} (hx : x ∈ xs) : J.gone x.1 x.2 = true := by
  obtain ⟨v, hv, hle⟩ := kM_mem xs (fun _ => none) x hx
  rw [h.gone, hv]
  simp [hle]

/-! ### A row of one's own, apart from device and journal -/
theorem row_apart {W : World} {d : Nat} {F : List Nat} {S : Dv} {j m n base : Nat} {J : Jr} {v : Value} {k : Nat} {xs : List Value} (ho : W.ownsRow base 48 2 v k xs) (hd : DvAt W d F S) (hj : JrAt W j d m n J) : ∀ q, v.ownBlock = some q → q ∉ F ∧ q ≠ j ∧ q ≠ m := by
  intro q hq
  obtain ⟨cur, hh⟩ : ∃ cur, W.heap[q]? = some (.cells cur 48 (0, 0)) := by
    rcases ho.2 with ⟨rfl, _⟩ | ⟨g, cap, cur, rfl, _, hh, _⟩
    · simp [Value.ownBlock] at hq
    · simp [Value.ownBlock] at hq; subst hq; exact ⟨cur, hh⟩
  refine ⟨fun hf => ?_, fun e => ?_, fun e => ?_⟩
  · obtain ⟨p, pd, wa, wc, rfl, hd⟩ := hd
    simp only [foot, List.mem_cons] at hf
    rcases hf with rfl | rfl | hf
    · have := hd.dev; unfold Blk at this; rw [hh] at this; simp at this
    · have := hd.row; unfold Blk at this; rw [hh] at this; simp at this
    · cases wa with
      | none => simp at hf
      | some a =>
        simp at hf
        subst hf
        rcases hd.own.2 with ⟨h0, _⟩ | ⟨g, cap, cur2, hv, _, hh2, _⟩
        · simp at h0
        · simp only [Value.slice.injEq, Option.some.injEq] at hv
          rw [hv.1] at hh
          simp only at hh
          rw [hh] at hh2
          simp at hh2
  · subst e; have := hj.blk; unfold Blk at this; rw [hh] at this; simp at this
  · subst e
    obtain ⟨D, ⟨es, c, h1, _⟩, _⟩ := hj.map
    rw [hh] at h1
    cases h1
theorem mks_news {W : World} {b o len : Nat} {xs : List Mk} (h : MksAt W (some ⟨b, o, none⟩) len xs) : ∀ (t : Nat) (u : Value), (mkCells xs)[t]? = some u → W.cell? ((⟨b, o, none⟩ : Addr).add t) = some u := by
  intro t u ht
  have hl : t < xs.length * 2 := by have := (List.getElem?_eq_some_iff.1 ht).1; rwa [mkCells_length] at this
  obtain ⟨x, hx⟩ : ∃ x, xs[t / 2]? = some x := ⟨_, List.getElem?_eq_getElem (by omega)⟩
  obtain ⟨b', o', e, _, hc⟩ := h.cell (t / 2) x hx
  cases e
  obtain ⟨g0, g1⟩ := mkCells_get xs (t / 2) x hx
  rw [Addr.add_lit]
  by_cases he : t % 2 = 0
  · have e2 : t / 2 * 2 = t := by omega
    rw [e2] at g0
    rw [ht] at g0
    cases g0
    have := hc.c0
    rw [e2] at this
    exact this
  · have e2 : t / 2 * 2 + 1 = t := by omega
    rw [e2] at g1
    rw [ht] at g1
    cases g1
    have := hc.c1
    rw [show o + t / 2 * 2 + 1 = o + t by omega] at this
    exact this
theorem mkCells_append (xs ys : List Mk) : mkCells xs ++ mkCells ys = mkCells (xs ++ ys) := by simp [mkCells]
theorem mkCells_one (xs : List Mk) : ∀ u ∈ mkCells xs, u.oneCell' = true := by
  intro u hu
  obtain ⟨x, _, hx⟩ := List.mem_flatMap.1 hu
  simp at hx
  rcases hx with rfl | rfl <;> rfl
end Go.Proofs.Ytghdkicijdfpcaa
