/- Texts joined: Un0, Un1, Un2, Un3. -/
import Derived.Test.YtbccnfbombgdmaaGreatJ42
import Derived.Test.YtbccnfbombgdmaaGreatJ22
import Derived.Test.YtbccnfbombgdmaaGreatJ32
/- What a key's places tell: the program's bits and the document's keys. -/
set_option linter.unusedVariables false
set_option linter.unusedSimpArgs false
set_option maxRecDepth 8000
namespace Go.Proofs.YtbccnfbombgdmaaGreat
open Go.RowKit Go.Deep Math

def toldT (t : List (List UInt8)) : List Bool := t.foldl (fun l s => Bl.setB l (Bl.plc (txt s) 256 3)) (List.replicate 256 false)
theorem toldT_snoc (t : List (List UInt8)) (s : List UInt8) : toldT (t ++ [s]) = Bl.setB (toldT t) (Bl.plc (txt s) 256 3) := by simp [toldT]
theorem toldT_of (xs : List It) : toldT (xs.map It.key) = toldB xs := by
  unfold toldT toldB keyB
  rw [List.foldl_map]
theorem toldT_len (t : List (List UInt8)) : (toldT t).length = 256 := by
  unfold toldT
  have : ∀ (t : List (List UInt8)) (l : List Bool), (t.foldl (fun l s => Bl.setB l (Bl.plc (txt s) 256 3)) l).length = l.length := by
    intro t
    induction t with
    | nil => intro l; rfl
    | cons s r ih => intro l; rw [List.foldl_cons, ih, Bl.setB_length]
  rw [this, List.length_replicate]
theorem set_getD (l : List Bool) (i j : Nat) (hj : j < l.length) : (l.set j true).getD i false = (l.getD i false || decide (i = j)) := by
  simp only [List.getD_eq_getElem?_getD]
  by_cases h : j = i
  · subst h
    rw [List.getElem?_set_self hj]; simp
  · rw [List.getElem?_set_ne h]
    have : ¬ i = j := fun e => h e.symm
    simp [this]
theorem setB_getD (i : Nat) : ∀ (ps : List Nat) (l : List Bool), (∀ p ∈ ps, p < l.length) → (Bl.setB l ps).getD i false = (l.getD i false || ps.any fun p => decide (i = p))
  | [], l, _ => by simp [Bl.setB]
  | p :: ps, l, h => by
    have e : Bl.setB l (p :: ps) = Bl.setB (l.set p true) ps := rfl
    rw [e, setB_getD i ps _ (fun q hq => by rw [List.length_set]; exact h q (List.mem_cons_of_mem _ hq)), set_getD l i p (h p (by simp)), List.any_cons, Bool.or_assoc]
theorem toldT_getD (i : Nat) (t : List (List UInt8)) : (toldT t).getD i false = t.any fun s => (Bl.plc (txt s) 256 3).any fun p => decide (i = p) := by
  have key : ∀ (t : List (List UInt8)) (l : List Bool), l.length = 256 → (t.foldl (fun l s => Bl.setB l (Bl.plc (txt s) 256 3)) l).getD i false = (l.getD i false || t.any fun s => (Bl.plc (txt s) 256 3).any fun p => decide (i = p)) := by
    intro t
    induction t with
    | nil => intro l _; simp
    | cons s r ih =>
      intro l hl
      rw [List.foldl_cons, ih _ (by rw [Bl.setB_length]; exact hl), setB_getD i _ l (fun p hp => by rw [hl]; exact Bl.plc_lt (by decide) p hp), List.any_cons, Bool.or_assoc]
  unfold toldT
  rw [key t _ (by simp)]
  have e : ∀ n, (List.replicate n false).getD i false = false := fun n => by
    simp only [List.getD_eq_getElem?_getD, List.getElem?_replicate]; split <;> rfl
  rw [e 256, Bool.false_or]
theorem plc_three (key : List UInt8) : Bl.plc (txt key) 256 3 = [bitK key 0, bitK key 1, bitK key 2] := rfl
theorem may_same (t : List (List UInt8)) (key : List UInt8) : Bl.mayB (toldT t) (Bl.plc (txt key) 256 3) = mayR t key := by
  have h1 : ∀ (s : List UInt8) (k : Nat), ((Bl.plc (txt s) 256 3).any fun p => decide (bitK key k = p)) = hit1 s key k 3 := fun s k => by
    rw [plc_three]
    simp [hit1, List.range_succ, eq_comm, Bool.or_assoc]
  have h2 : ∀ k, (toldT t).getD (bitK key k) false = hitA t key k := fun k => by
    rw [toldT_getD]
    unfold hitA
    congr 1
    funext s
    exact h1 s k
  rw [plc_three]
  unfold Bl.mayB mayR
  simp only [List.all_cons, List.all_nil, Bool.and_true, h2, List.range_succ, List.range_zero, List.nil_append, List.cons_append, List.all_append]
end Go.Proofs.YtbccnfbombgdmaaGreat

/- The program's buckets over every state of the device, told by any device like it. -/
set_option linter.unusedVariables false
set_option linter.unusedSimpArgs false
set_option maxRecDepth 8000
namespace Go.Proofs.YtbccnfbombgdmaaGreat
open Go.RowKit Go.Deep Math
variable {w0 W W' : World} {d s : Nat} {F F' : List Nat} {S S' T : Dv} {L : Int} {first : Nat} {M : SM}

/-- The device is sure, at its last writing, or armed for more. -/
theorem on_cases (S : Dv) (h : S.off = false) : Sure S ∨ Last S ∨ Armed S := by
  rcases Nat.lt_trichotomy S.armed 1 with h1 | h1 | h1
  · exact .inl ⟨h, by omega⟩
  · exact .inr (.inl ⟨h, h1⟩)
  · exact .inr (.inr ⟨h, by omega⟩)
/-- What a page written does to a device, and to any device like it. -/
structure WrD (S S' : Dv) (k : Nat) (ys : List It) (er : Int) : Prop where
  doo : ∀ T, Like S T → Like S' (T.writeDo (k : Int) (pgB ys))
  err : ∀ T, Like S T → T.writeErr (k : Int) (pgB ys) = er
  len : S'.cs.length = S.cs.length
  live : (er = 0 ∧ S'.off = false ∧ S'.losses = S.losses) ∨ (er = 4 ∧ S'.off = true ∧ S'.losses = wrap64 (S.losses + 1))
theorem wrap64_succ (z : Int) : wrap64 (z + 1) ≠ z := by unfold wrap64; omega
theorem WrD.alive {k : Nat} {ys : List It} {er : Int} (h : WrD S S' k ys er) (hL : L = S.losses) : L = S'.losses → S'.off = false := fun h2 => by
  rcases h.live with ⟨_, h3, _⟩ | ⟨_, _, h3⟩
  · exact h3
  · exact absurd (by rw [← h3, ← h2, hL]) (wrap64_succ S.losses)
theorem PutD.wr {k : Nat} {ys : List It} (hS : Sure S) (hk : k < S.cs.length) (ht : total ys ≤ 384) (h : PutD S S' k ys) : WrD S S' k ys 0 := by
  have hsz : (pgB ys).size ≤ 384 := by rw [pgB_size ys ht]; omega
  refine ⟨fun T hT => ?_, fun T hT => ?_, by rw [h.cs, putAt_length], .inl ⟨rfl, h.sure.off, h.losses⟩⟩
  · have hw := (sure_write (hS.like hT) k (by rw [hT.cs]; exact hk) (pgB ys) hsz).2
    rw [hw]
    exact ⟨by show putAt T.cs _ _ = _; rw [hT.cs, h.cs], by show T.off = _; rw [hT.off, hS.off, h.sure.off], by show T.armed = _; rw [hT.armed, hS.armed, h.sure.armed], by show T.losses = _; rw [hT.losses, h.losses]⟩
  · exact (sure_write (hS.like hT) k (by rw [hT.cs]; exact hk) (pgB ys) hsz).1
theorem PutA.wr {k : Nat} {ys : List It} (hS : Armed S) (hk : k < S.cs.length) (ht : total ys ≤ 384) (h : PutA S S' k ys) : WrD S S' k ys 0 := by
  have hsz : (pgB ys).size ≤ 384 := by rw [pgB_size ys ht]; omega
  refine ⟨fun T hT => ?_, fun T hT => ?_, by rw [h.cs, putAt_length], .inl ⟨rfl, h.off, h.losses⟩⟩
  · have hw := (armed_write (hS.like hT) k (by rw [hT.cs]; exact hk) (pgB ys) hsz).2
    rw [hw]
    exact ⟨by show putAt T.cs _ _ = _; rw [hT.cs, h.cs], by show T.off = _; rw [hT.off, hS.off, h.off], by show T.armed - 1 = _; rw [hT.armed, h.armed], by show T.losses = _; rw [hT.losses, h.losses]⟩
  · exact (armed_write (hS.like hT) k (by rw [hT.cs]; exact hk) (pgB ys) hsz).1
theorem Lost.wr {k : Nat} {ys : List It} (hS : Last S) (hk : k < S.cs.length) (ht : total ys ≤ 384) (h : Lost S S') : WrD S S' k ys 4 := by
  have hsz : (pgB ys).size ≤ 384 := by rw [pgB_size ys ht]; omega
  refine ⟨fun T hT => ?_, fun T hT => ?_, by rw [h.cs], .inr ⟨rfl, h.off, h.losses⟩⟩
  · have hw := (last_write (hS.like hT) k (by rw [hT.cs]; exact hk) (pgB ys) hsz).2
    rw [hw]
    exact ⟨by show T.cs = _; rw [hT.cs, h.cs], by show true = _; rw [h.off], by show 0 = _; rw [h.armed], by show wrap64 (T.losses + 1) = _; rw [hT.losses, h.losses]⟩
  · exact (last_write (hS.like hT) k (by rw [hT.cs]; exact hk) (pgB ys) hsz).1

/-- Put while the store is not done. -/
theorem put_on (h : Bk w0 W d F S s L first M) (hL : L = S.losses) (ho : S.off = false) (hn2 : M.fs.length ≤ 256) (hfit : first + M.fs.length ≤ S.cs.length) (x : It) (hxf : x.fits) (hxg : x.good = true) (hx120 : x.size ≤ 120) (y : FB) (hy : M.fs[bkt x.key M.fs.length]? = some y) (l1 : List It) (hl1 : l1 = (S.its (first + bkt x.key M.fs.length)).filter (notKey x.key) ++ [x]) :
    Calls Tryz.prog 9 #[.pointer (some ⟨s, 0, none⟩), .agg #[.string (txt x.key), .string (txt x.value), .int .u32 x.flags, .int .i64 x.exp, .int .u64 x.ver]] W fun e W' => ∃ v er F' S' M', e = .returned (.tuple #[v, .int .i64 er]) ∧ WrD S S' (first + bkt x.key M.fs.length) (l1.drop (ovr l1)) er ∧ Bk w0 W' d F' S' s L first M' ∧ Keep (y.s :: F) W W' ∧ (∀ k ∈ F', k ∈ F ∨ W.heap.size ≤ k) ∧
      ((er = 0 ∧ Row W' W.heap.size v (l1.take (ovr l1)) ∧ M' = ⟨M.a, M.cap, M.fs.set (bkt x.key M.fs.length) ⟨y.f, y.s, keyB y.l x⟩⟩) ∨ (er = 4 ∧ v = .slice none 0 0 ∧ M' = M)) := by
  have hkl : bkt x.key M.fs.length < M.fs.length := (List.getElem?_eq_some_iff.1 hy).1
  have ht : total (l1.drop (ovr l1)) ≤ 384 := ovr_fit l1
  rcases on_cases S ho with hS | hS | hS
  · refine (put_ok h hL hS hn2 hfit x hxf hxg hx120 y hy l1 hl1).mono ?_
    rintro e W' ⟨v, rfl, h1, F', S', h2, h3, h4, h5⟩
    exact ⟨v, 0, F', S', _, rfl, h3.wr hS (by omega) ht, h2, h4, h5, .inl ⟨rfl, h1, rfl⟩⟩
  · refine (put_lost h hL hS hn2 hfit x hxf hxg hx120 y hy l1 hl1).mono ?_
    rintro e W' ⟨rfl, F', S', h2, h3, h4, h5⟩
    exact ⟨_, 4, F', S', M, rfl, h3.wr hS (by omega) ht, h2, h4.mono (fun q hq => .inl (List.mem_cons_of_mem _ hq)), h5, .inr ⟨rfl, rfl, rfl⟩⟩
  · refine (put_armed h hL hS hn2 hfit x hxf hxg hx120 y hy l1 hl1).mono ?_
    rintro e W' ⟨v, rfl, h1, F', S', h2, h3, h4, h5⟩
    exact ⟨v, 0, F', S', _, rfl, h3.wr hS (by omega) ht, h2, h4, h5, .inl ⟨rfl, h1, rfl⟩⟩

/-- Drop while the store is not done. -/
theorem drop_on (h : Bk w0 W d F S s L first M) (hL : L = S.losses) (ho : S.off = false) (hn1 : 0 < M.fs.length) (hn2 : M.fs.length ≤ 256) (hfit : first + M.fs.length ≤ S.cs.length) (key : List UInt8) (hk : key.length ≤ maxLen) (ys : List It) (hys : ys = (S.its (first + bkt key M.fs.length)).filter (notKey key)) :
    Calls Tryz.prog 14 #[.pointer (some ⟨s, 0, none⟩), .string (txt key)] W fun e W' => ∃ er F' S', e = .returned (.int .i64 er) ∧ Bk w0 W' d F' S' s L first M ∧ Keep F W W' ∧ (∀ k ∈ F', k ∈ F ∨ W.heap.size ≤ k) ∧
      ((ys = S.its (first + bkt key M.fs.length) ∧ er = 5 ∧ F' = F ∧ Like S S') ∨ (ys ≠ S.its (first + bkt key M.fs.length) ∧ WrD S S' (first + bkt key M.fs.length) ys er)) := by
  have hkl := bkt_lt key M.fs.length hn1
  have ht : total ys ≤ 384 := by rw [hys]; exact Nat.le_trans (total_filter _ _) (Dv.its_all h.law.dev.good _).1
  rcases on_cases S ho with hS | hS | hS
  · refine (drop_ok h hL hS hn1 hn2 hfit key hk ys hys).mono ?_
    rintro e W' (⟨h1, rfl, S', h2, h3, h4⟩ | ⟨h1, rfl, F', S', h2, h3, h4, h5⟩)
    · exact ⟨5, F, S', rfl, h2, h4, fun k hk => .inl hk, .inl ⟨h1, rfl, rfl, h3⟩⟩
    · exact ⟨0, F', S', rfl, h2, h4, h5, .inr ⟨h1, h3.wr hS (by omega) ht⟩⟩
  · refine (drop_lost h hL hS hn1 hn2 hfit key hk ys hys).mono ?_
    rintro e W' (⟨h1, rfl, S', h2, h3, h4⟩ | ⟨h1, rfl, F', S', h2, h3, h4, h5⟩)
    · exact ⟨5, F, S', rfl, h2, h4, fun k hk => .inl hk, .inl ⟨h1, rfl, rfl, h3⟩⟩
    · exact ⟨4, F', S', rfl, h2, h4, h5, .inr ⟨h1, h3.wr hS (by omega) ht⟩⟩
  · refine (drop_armed h hL hS hn1 hn2 hfit key hk ys hys).mono ?_
    rintro e W' (⟨h1, rfl, S', h2, h3, h4⟩ | ⟨h1, rfl, F', S', h2, h3, h4, h5⟩)
    · exact ⟨5, F, S', rfl, h2, h4, fun k hk => .inl hk, .inl ⟨h1, rfl, rfl, h3⟩⟩
    · exact ⟨0, F', S', rfl, h2, h4, h5, .inr ⟨h1, h3.wr hS (by omega) ht⟩⟩

/-- The keys that both sides were told. -/
def Told (M : SM) (td : List (List (List UInt8))) : Prop := M.fs.map (·.l) = td.map toldT
theorem Told.at {td : List (List (List UInt8))} (h : Told M td) {k : Nat} {y : FB} {t : List (List UInt8)} (hy : M.fs[k]? = some y) (ht : td[k]? = some t) : y.l = toldT t := by
  have e : (M.fs.map (·.l))[k]? = (td.map toldT)[k]? := by rw [h]
  rw [List.getElem?_map, List.getElem?_map, hy, ht] at e
  exact Option.some.inj e
theorem Told.len {td : List (List (List UInt8))} (h : Told M td) : M.fs.length = td.length := by
  have := congrArg List.length h
  simpa using this
theorem Told.put {td : List (List (List UInt8))} (h : Told M td) {k : Nat} {y : FB} {t : List (List UInt8)} (hy : M.fs[k]? = some y) (ht : td[k]? = some t) (x : It) : Told ⟨M.a, M.cap, M.fs.set k ⟨y.f, y.s, keyB y.l x⟩⟩ (td.set k (t ++ [x.key])) := by
  unfold Told
  rw [List.map_set, List.map_set, h, toldT_snoc, ← h.at hy ht]
  rfl
theorem Told.opened {S : Dv} {first n : Nat} (h : M.fs.map (·.l) = (List.range n).map (fun k => toldB (S.its (first + k)))) : Told M (tdO S first n) := by
  unfold Told tdO
  rw [h, List.map_map]
  congr 1
  funext k
  exact (toldT_of _).symm
theorem Told.may {td : List (List (List UInt8))} (h : Told M td) {k : Nat} {y : FB} {t : List (List UInt8)} (hy : M.fs[k]? = some y) (ht : td[k]? = some t) (key : List UInt8) : Bl.mayB y.l (Bl.plc (txt key) 256 3) = mayR t key := by
  rw [h.at hy ht, may_same]
end Go.Proofs.YtbccnfbombgdmaaGreat

/- Both sides at once: the program's buckets and the document's. -/
set_option linter.unusedVariables false
set_option linter.unusedSimpArgs false
set_option maxRecDepth 8000
namespace Go.Proofs.YtbccnfbombgdmaaGreat
open Go.RowKit Go.Deep Math

/-- Both stores, side by side. -/
structure Two (w0 W : World) (d : Nat) (F : List Nat) (S : Dv) (s : Nat) (L : Int) (first : Nat) (M : SM) (s' r : Nat) (G : List Nat) (T : Dv) (tv : Value) (vs : List Value) (td : List (List (List UInt8))) : Prop where
  p : Bk w0 W d F S s L first M
  q : BkR w0 W s' r G T first M.fs.length L tv vs td
  like : Like S T
  told : Told M td
  sep : ∀ b ∈ ftR s' G tv vs, b ∉ F ∧ b ∉ M.foot s
  live : L = S.losses → S.off = false
/-- Between the two calls: the program's side has done, the document's has not. -/
structure MidP (w0 W : World) (d : Nat) (F' : List Nat) (S S' : Dv) (s : Nat) (L : Int) (first : Nat) (M M' : SM) (s' r : Nat) (G : List Nat) (T : Dv) (tv : Value) (vs : List Value) (td : List (List (List UInt8))) (k : Nat) (ys : List It) (er : Int) : Prop where
  p : Bk w0 W d F' S' s L first M'
  q : BkR w0 W s' r G T first M.fs.length L tv vs td
  like : Like S T
  told : Told M td
  sep : ∀ b ∈ ftR s' G tv vs, b ∉ F' ∧ b ∉ M'.foot s
  wr : WrD S S' k ys er
  len : M'.fs.length = M.fs.length
section
variable {w0 W W' : World} {d s : Nat} {F F' : List Nat} {S S' T : Dv} {L : Int} {first : Nat} {M M' : SM} {s' r : Nat} {G : List Nat} {tv : Value} {vs : List Value} {td : List (List (List UInt8))} {k : Nat} {ys : List It} {er : Int}
theorem Two.below (h : Two w0 W d F S s L first M s' r G T tv vs td) (b : Below W.heap.size W W') : Two w0 W' d F S s L first M s' r G T tv vs td :=
  ⟨h.p.below b, h.q.below b, h.like, h.told, h.sep, h.live⟩
theorem MidP.below (h : MidP w0 W d F' S S' s L first M M' s' r G T tv vs td k ys er) (b : Below W.heap.size W W') : MidP w0 W' d F' S S' s L first M M' s' r G T tv vs td k ys er :=
  ⟨h.p.below b, h.q.below b, h.like, h.told, h.sep, h.wr, h.len⟩
/-- What the program's side writes leaves the document's. -/
theorem Two.left (h : Two w0 W d F S s L first M s' r G T tv vs td) {H : List Nat} (k : Keep H W W') (hH : ∀ b ∈ H, b ∈ F ∨ b ∈ M.foot s) : BkR w0 W' s' r G T first M.fs.length L tv vs td :=
  h.q.beside k (fun b hb => by
    rcases hH b hb with h1 | h1
    · exact ⟨h.p.law.low b h1, fun h2 => (h.sep b h2).1 h1⟩
    · exact ⟨h.p.new b h1, fun h2 => (h.sep b h2).2 h1⟩)
theorem SM.foot_set {M : SM} {s k : Nat} {y : FB} (hy : M.fs[k]? = some y) (l : List Bool) {b : Nat} (hb : b ∈ (⟨M.a, M.cap, M.fs.set k ⟨y.f, y.s, l⟩⟩ : SM).foot s) : b ∈ M.foot s := by
  rcases SM.foot_inv hb with rfl | ⟨a, ha, rfl⟩ | ⟨z, hz, h2⟩
  · exact SM.mem_s
  · exact SM.mem_a ha
  · rcases List.mem_or_eq_of_mem_set hz with h3 | h3
    · rcases h2 with rfl | rfl
      · exact (SM.mem_f h3).1
      · exact (SM.mem_f h3).2
    · subst h3
      have hm := List.mem_of_getElem? hy
      rcases h2 with rfl | rfl
      · exact (SM.mem_f hm).1
      · exact (SM.mem_f hm).2
theorem Two.put1 (h : Two w0 W d F S s L first M s' r G T tv vs td) (hL : L = S.losses) (ho : S.off = false) (x : It) (hxf : x.fits) (hxg : x.good = true) (hx120 : x.size ≤ 120) (l1 : List It) (hl1 : l1 = (S.its (first + bkt x.key M.fs.length)).filter (notKey x.key) ++ [x]) :
    Calls Tryz.prog 9 #[.pointer (some ⟨s, 0, none⟩), .agg #[.string (txt x.key), .string (txt x.value), .int .u32 x.flags, .int .i64 x.exp, .int .u64 x.ver]] W fun e W' => ∃ v er F' S' M', e = .returned (.tuple #[v, .int .i64 er]) ∧ (∀ q, q < W.heap.size → q ∉ F → q ∉ M.foot s → W'.heap[q]? = W.heap[q]?) ∧ MidP w0 W' d F' S S' s L first M M' s' r G T tv vs td (first + bkt x.key M.fs.length) (l1.drop (ovr l1)) er ∧
      ((er = 0 ∧ Row W' W.heap.size v (l1.take (ovr l1)) ∧ ∃ y, M.fs[bkt x.key M.fs.length]? = some y ∧ M' = ⟨M.a, M.cap, M.fs.set (bkt x.key M.fs.length) ⟨y.f, y.s, keyB y.l x⟩⟩) ∨ (er = 4 ∧ v = .slice none 0 0 ∧ M' = M)) := by
  have hlt := bkt_lt x.key M.fs.length h.q.n1
  obtain ⟨y, hy⟩ : ∃ y, M.fs[bkt x.key M.fs.length]? = some y := ⟨_, List.getElem?_eq_getElem hlt⟩
  refine (put_on h.p hL ho h.q.n2 (by have := h.q.fit; rw [h.like.cs] at this; exact this) x hxf hxg hx120 y hy l1 hl1).mono ?_
  rintro e W' ⟨v, er, F', S', M', rfl, h1, h2, h3, h4, h5⟩
  have hq := h.left h3 (fun b hb => by
    rcases List.mem_cons.1 hb with rfl | hb
    · exact .inr (SM.mem_f (List.mem_of_getElem? hy)).2
    · exact .inl hb)
  have hsep : (∀ b, b ∈ M'.foot s → b ∈ M.foot s) → ∀ b ∈ ftR s' G tv vs, b ∉ F' ∧ b ∉ M'.foot s := fun hm b hb => ⟨fun hf => by
    rcases h4 b hf with h6 | h6
    · exact (h.sep b hb).1 h6
    · have := h.q.lt b hb; omega, fun hf => (h.sep b hb).2 (hm b hf)⟩
  have hst : ∀ q, q < W.heap.size → q ∉ F → q ∉ M.foot s → W'.heap[q]? = W.heap[q]? := fun q hq h6 h7 => h3.block q hq (fun hm => by
    rcases List.mem_cons.1 hm with rfl | hm
    · exact h7 (SM.mem_f (List.mem_of_getElem? hy)).2
    · exact h6 hm)
  rcases h5 with ⟨rfl, h6, rfl⟩ | ⟨rfl, rfl, rfl⟩
  · exact ⟨v, 0, F', S', _, rfl, hst, ⟨h2, hq, h.like, h.told, hsep (fun b hb => SM.foot_set hy _ hb), h1, by simp⟩, .inl ⟨rfl, h6, y, hy, rfl⟩⟩
  · exact ⟨_, 4, F', S', _, rfl, hst, ⟨h2, hq, h.like, h.told, hsep (fun b hb => hb), h1, rfl⟩, .inr ⟨rfl, rfl, rfl⟩⟩
theorem MidP.put2 {x : It} {l1 : List It} (h : MidP w0 W d F' S S' s L first M M' s' r G T tv vs td (first + bkt x.key M.fs.length) (l1.drop (ovr l1)) er) (hL : L = S.losses) (ho : S.off = false) (hxf : x.fits) (hxg : x.good = true) (hx120 : x.size ≤ 120) (hl1 : l1 = (S.its (first + bkt x.key M.fs.length)).filter (notKey x.key) ++ [x])
    (hm : (er = 0 ∧ ∃ y, M.fs[bkt x.key M.fs.length]? = some y ∧ M' = ⟨M.a, M.cap, M.fs.set (bkt x.key M.fs.length) ⟨y.f, y.s, keyB y.l x⟩⟩) ∨ (er = 4 ∧ M' = M)) (c : Nat) (hc : ∀ t ∈ td, t.length ≤ c) (hc2 : c ≤ 100000) :
    Calls Tryz.prog 10 #[.pointer (some ⟨s', 0, none⟩), .agg #[.string (txt x.key), .string (txt x.value), .int .u32 x.flags, .int .i64 x.exp, .int .u64 x.ver]] W fun e W' => ∃ v T' vs' td', e = .returned (.tuple #[v, .int .i64 er]) ∧ Two w0 W' d F' S' s L first M' s' r G T' tv vs' td' ∧ (∀ t ∈ td', t.length ≤ c + 1) ∧ Keep (G ++ tdF tv vs) W W' ∧
      ((er = 0 ∧ Row W' W.heap.size v (l1.take (ovr l1))) ∨ (er = 4 ∧ v = .slice none 0 0)) := by
  have hlt := bkt_lt x.key M.fs.length h.q.n1
  obtain ⟨t, ht⟩ : ∃ t, td[bkt x.key M.fs.length]? = some t := ⟨_, List.getElem?_eq_getElem (by rw [h.q.len]; exact hlt)⟩
  refine (rput_ok h.q (by rw [h.like.losses]; exact hL.symm) (by rw [h.like.off]; exact ho) x hxf hxg hx120 t ht (Nat.le_trans (hc t (List.mem_of_getElem? ht)) hc2) l1 (by rw [h.like.its]; exact hl1)).mono ?_
  rintro e W' ⟨T2, hl2, hq1, hq2⟩
  have hST := h.like.trans hl2
  have hwe := h.wr.err T2 hST
  have hwd := h.wr.doo T2 hST
  rw [Int.natCast_add] at hwe hwd
  rw [hwe] at hq1 hq2
  have hFlt : ∀ b ∈ F', b < W.heap.size := fun b hb => h.p.law.dev.lt b hb
  have hMlt := h.p.st.lt
  rcases hm with ⟨rfl, y, hy, rfl⟩ | ⟨rfl, rfl⟩
  · obtain ⟨v, vs', rfl, h1, h2, h3, h4⟩ := hq2 rfl
    refine ⟨v, _, vs', _, rfl, ⟨h.p.keep h3 (fun b hb => ?_), ?_, hwd, h.told.put hy ht x, fun b hb => ?_, h.wr.alive hL⟩, fun t' ht' => ?_, h3, .inl ⟨rfl, h1⟩⟩
    · have hb' : b ∈ ftR s' G tv vs := by
        rcases List.mem_append.1 hb with h5 | h5 <;> simp [ftR, h5]
      refine ⟨(h.sep b hb').1, (h.sep b hb').2, ?_⟩
      rcases List.mem_append.1 hb with h5 | h5
      · exact h.q.newG b h5
      · exact (h.q.told.lt b h5).1
    · show BkR _ _ _ _ _ _ _ (M.fs.set _ _).length _ _ _ _
      rw [List.length_set]; exact h2
    · rcases List.mem_cons.1 hb with rfl | hb
      · exact h.sep b (by simp [ftR])
      · rcases List.mem_append.1 hb with h5 | h5
        · exact h.sep b (by simp [ftR, h5])
        · rcases h4 b h5 with h6 | h6
          · exact h.sep b (by simp [ftR, h6])
          · exact ⟨fun hf => by have := hFlt b hf; omega, fun hf => by have := hMlt b hf; omega⟩
    · rcases List.mem_or_eq_of_mem_set ht' with h5 | h5
      · have := hc t' h5; omega
      · rw [h5]
        have := hc t (List.mem_of_getElem? ht)
        simp; omega
  · obtain ⟨rfl, h1, h2⟩ := hq1 (by decide)
    refine ⟨_, _, vs, td, rfl, ⟨h.p.keep h2 (fun b hb => ?_), h1, hwd, h.told, h.sep, h.wr.alive hL⟩, fun t' ht' => by have := hc t' ht'; omega, h2.mono (fun b hb => .inl (List.mem_append.2 (.inl hb))), .inr ⟨rfl, rfl⟩⟩
    have hb' : b ∈ ftR s' G tv vs := by simp [ftR, hb]
    exact ⟨(h.sep b hb').1, (h.sep b hb').2, h.q.newG b hb⟩
end
end Go.Proofs.YtbccnfbombgdmaaGreat

/- Both sides at once: Drop, Get, May, Items. -/
set_option linter.unusedVariables false
set_option linter.unusedSimpArgs false
set_option maxRecDepth 8000
namespace Go.Proofs.YtbccnfbombgdmaaGreat
open Go.RowKit Go.Deep Math
variable {w0 W W' : World} {d s : Nat} {F F' : List Nat} {S S' T T' : Dv} {L : Int} {first : Nat} {M M' : SM} {s' r : Nat} {G : List Nat} {tv : Value} {vs : List Value} {td : List (List (List UInt8))} {k : Nat} {ys : List It} {er : Int}

theorem Like.symm (h : Like S S') : Like S' S := ⟨h.cs.symm, h.off.symm, h.armed.symm, h.losses.symm⟩
theorem Two.n2 (h : Two w0 W d F S s L first M s' r G T tv vs td) : M.fs.length ≤ 256 := h.q.n2
theorem Two.n1 (h : Two w0 W d F S s L first M s' r G T tv vs td) : 0 < M.fs.length := h.q.n1
theorem Two.fit (h : Two w0 W d F S s L first M s' r G T tv vs td) : first + M.fs.length ≤ S.cs.length := by have := h.q.fit; rw [h.like.cs] at this; exact this
/-- The program's side has only read. -/
theorem Two.read1 (h : Two w0 W d F S s L first M s' r G T tv vs td) (hp : Bk w0 W' d F S' s L first M) (hl : Like S S') (k : Keep F W W') : Two w0 W' d F S' s L first M s' r G T tv vs td :=
  ⟨hp, h.left k (fun b hb => .inl hb), hl.symm.trans h.like, h.told, h.sep, fun e => by rw [hl.off]; exact h.live (by rw [← hl.losses]; exact e)⟩
/-- What the document's side writes leaves the program's. -/
theorem Two.right (h : Two w0 W d F S s L first M s' r G T tv vs td) {H : List Nat} (k : Keep H W W') (hH : ∀ b ∈ H, b ∈ ftR s' G tv vs) : Bk w0 W' d F S s L first M :=
  h.p.keep k (fun b hb => ⟨(h.sep b (hH b hb)).1, (h.sep b (hH b hb)).2, by
    rcases List.mem_cons.1 (hH b hb) with rfl | h1
    · exact h.q.newS
    · rcases List.mem_append.1 h1 with h2 | h2
      · exact h.q.newG b h2
      · exact (h.q.told.lt b h2).1⟩)
theorem ftG {b : Nat} (hb : b ∈ G) : b ∈ ftR s' G tv vs := by simp [ftR, hb]
/-- The document's side has only read. -/
theorem Two.read2 (h : Two w0 W d F S s L first M s' r G T tv vs td) (hq : BkR w0 W' s' r G T' first M.fs.length L tv vs td) (hl : Like T T') (k : Keep G W W') : Two w0 W' d F S s L first M s' r G T' tv vs td :=
  ⟨h.right k (fun b hb => ftG hb), hq, h.like.trans hl, h.told, h.sep, h.live⟩

/-! ### Drop -/
/-- Between the two calls of Drop. -/
structure MidD (w0 W : World) (d : Nat) (F F' : List Nat) (S S' : Dv) (s : Nat) (L : Int) (first : Nat) (M : SM) (s' r : Nat) (G : List Nat) (T : Dv) (tv : Value) (vs : List Value) (td : List (List (List UInt8))) (k : Nat) (key : List UInt8) (er : Int) : Prop where
  p : Bk w0 W d F' S' s L first M
  q : BkR w0 W s' r G T first M.fs.length L tv vs td
  like : Like S T
  told : Told M td
  sep : ∀ b ∈ ftR s' G tv vs, b ∉ F' ∧ b ∉ M.foot s
  out : ((S.its k).filter (notKey key) = S.its k ∧ er = 5 ∧ Like S S') ∨ ((S.its k).filter (notKey key) ≠ S.its k ∧ WrD S S' k ((S.its k).filter (notKey key)) er)
theorem MidD.below {key : List UInt8} (h : MidD w0 W d F F' S S' s L first M s' r G T tv vs td k key er) (b : Below W.heap.size W W') : MidD w0 W' d F F' S S' s L first M s' r G T tv vs td k key er :=
  ⟨h.p.below b, h.q.below b, h.like, h.told, h.sep, h.out⟩
theorem Two.drop1 (h : Two w0 W d F S s L first M s' r G T tv vs td) (hL : L = S.losses) (key : List UInt8) (hk : key.length ≤ maxLen) :
    Calls Tryz.prog 14 #[.pointer (some ⟨s, 0, none⟩), .string (txt key)] W fun e W' => ∃ er F' S', e = .returned (.int .i64 er) ∧ (∀ q, q < W.heap.size → q ∉ F → W'.heap[q]? = W.heap[q]?) ∧ MidD w0 W' d F F' S S' s L first M s' r G T tv vs td (first + bkt key M.fs.length) key er := by
  refine (drop_on h.p hL (h.live hL) h.n1 h.n2 h.fit key hk _ rfl).mono ?_
  rintro e W' ⟨er, F', S', rfl, h1, h2, h3, h4⟩
  refine ⟨er, F', S', rfl, fun q hq hf => h2.block q hq hf, h1, h.left h2 (fun b hb => .inl hb), h.like, h.told, fun b hb => ⟨fun hf => ?_, (h.sep b hb).2⟩, ?_⟩
  · rcases h3 b hf with h6 | h6
    · exact (h.sep b hb).1 h6
    · have := h.q.lt b hb; omega
  · rcases h4 with ⟨h5, h6, _, h7⟩ | ⟨h5, h6⟩
    · exact .inl ⟨h5, h6, h7⟩
    · exact .inr ⟨h5, h6⟩
theorem MidD.drop2 {key : List UInt8} (h : MidD w0 W d F F' S S' s L first M s' r G T tv vs td (first + bkt key M.fs.length) key er) (hL : L = S.losses) (ho : S.off = false) (hk : key.length ≤ maxLen) :
    Calls Tryz.prog 15 #[.pointer (some ⟨s', 0, none⟩), .string (txt key)] W fun e W' => e = .returned (.int .i64 er) ∧ ∃ T', Two w0 W' d F' S' s L first M s' r G T' tv vs td ∧ Keep G W W' := by
  refine (rdrop_ok h.q (by rw [h.like.losses]; exact hL.symm) (by rw [h.like.off]; exact ho) key hk).mono ?_
  rintro e W' ⟨T2, hl2, hK, hq1, hq2⟩
  have hST := h.like.trans hl2
  rw [h.like.its] at hq1 hq2
  have hp : Bk w0 W' d F' S' s L first M := h.p.keep hK (fun b hb => ⟨(h.sep b (ftG hb)).1, (h.sep b (ftG hb)).2, h.q.newG b hb⟩)
  rcases h.out with ⟨h1, rfl, h3⟩ | ⟨h1, h2⟩
  · obtain ⟨rfl, h4⟩ := hq1 (by rw [h1])
    exact ⟨rfl, T2, ⟨hp, h4, h3.symm.trans hST, h.told, h.sep, fun _ => by rw [h3.off]; exact ho⟩, hK⟩
  · have hne : ((S.its (first + bkt key M.fs.length)).filter (notKey key)).length ≠ (S.its (first + bkt key M.fs.length)).length := fun e => h1 (List.filter_sublist.eq_of_length e)
    obtain ⟨rfl, h4⟩ := hq2 hne
    rw [h2.err T2 hST]
    exact ⟨rfl, _, ⟨hp, h4, h2.doo T2 hST, h.told, h.sep, h2.alive hL⟩, hK⟩

/-! ### Get -/
/-- What Get answers. -/
def AnsG (S : Dv) (L : Int) (k : Nat) (t : List (List UInt8)) (key : List UInt8) (o : Option It) (er : Int) : Prop :=
  (mayR t key = false ∧ o = none ∧ er = 5) ∨ (mayR t key = true ∧ S.losses ≠ L ∧ o = none ∧ er = 4) ∨
  (mayR t key = true ∧ S.losses = L ∧ o = (S.its k).find? (isKey key) ∧ (∀ x, o = some x → er = 0) ∧ (o = none → er = 5))
theorem AnsG.like {t : List (List UInt8)} {key : List UInt8} {o : Option It} (h : AnsG S L k t key o er) (hl : Like S S') : AnsG S' L k t key o er := by
  unfold AnsG
  rw [hl.losses, hl.its]
  exact h
theorem getV_f (o : Option It) (er : Int) (h : (∀ x, o = some x → er = 0) ∧ (o = none → er = 5)) : getV o = .tuple #[fV o, .int .i64 er] := by
  cases o with
  | none => rw [h.2 rfl]; rfl
  | some x => rw [h.1 x rfl]; rfl
theorem Two.get1 (h : Two w0 W d F S s L first M s' r G T tv vs td) (key : List UInt8) (hk : key.length ≤ maxLen) (t : List (List UInt8)) (ht : td[bkt key M.fs.length]? = some t) :
    Calls Tryz.prog 12 #[.pointer (some ⟨s, 0, none⟩), .string (txt key)] W fun e W' => ∃ o er S', e = .returned (.tuple #[fV o, .int .i64 er]) ∧ (∀ q, q < W.heap.size → q ∉ F → W'.heap[q]? = W.heap[q]?) ∧ AnsG S L (first + bkt key M.fs.length) t key o er ∧ Two w0 W' d F S' s L first M s' r G T tv vs td ∧ Like S S' := by
  obtain ⟨y, hy⟩ : ∃ y, M.fs[bkt key M.fs.length]? = some y := ⟨_, List.getElem?_eq_getElem (bkt_lt key M.fs.length h.n1)⟩
  have hmy := h.told.may hy ht key
  cases hm : mayR t key with
  | false =>
    refine (get_no h.p key hk y hy h.n2 (by rw [hmy]; exact hm)).mono ?_
    rintro e W' ⟨rfl, h1, h2⟩
    exact ⟨none, 5, S, rfl, fun q hq hf => h2.block q hq hf, .inl ⟨hm, rfl, rfl⟩, h.read1 h1 (Like.refl S) h2, Like.refl S⟩
  | true =>
    by_cases hL : S.losses = L
    · refine (get_ok h.p hL.symm (h.live hL.symm) key hk y hy h.n2 h.fit _ rfl).mono ?_
      rintro e W' ⟨S1, rfl, h1, h2, h3⟩
      rw [hmy, hm, if_pos rfl]
      have hA : ∃ er : Int, (∀ x, (S.its (first + bkt key M.fs.length)).find? (isKey key) = some x → er = 0) ∧ ((S.its (first + bkt key M.fs.length)).find? (isKey key) = none → er = 5) := by
        cases hf : (S.its (first + bkt key M.fs.length)).find? (isKey key) with
        | none => exact ⟨5, ⟨fun x h => (by cases h), fun _ => rfl⟩⟩
        | some x => exact ⟨0, ⟨fun _ _ => rfl, fun h => (by cases h)⟩⟩
      obtain ⟨er, hA⟩ := hA
      exact ⟨_, er, S1, by rw [getV_f _ er hA], fun q hq hf => h3.block q hq hf, .inr (.inr ⟨hm, hL, rfl, hA.1, hA.2⟩), h.read1 h1 h2 h3, h2⟩
    · refine (get_done h.p hL key hk y hy h.n2 (by rw [hmy]; exact hm)).mono ?_
      rintro e W' ⟨rfl, h1, h2⟩
      exact ⟨none, 4, S, rfl, fun q hq hf => h2.block q hq hf, .inr (.inl ⟨hm, hL, rfl, rfl⟩), h.read1 h1 (Like.refl S) h2, Like.refl S⟩
theorem Two.get2 (h : Two w0 W d F S s L first M s' r G T tv vs td) (key : List UInt8) (hk : key.length ≤ 1048000) (t : List (List UInt8)) (ht : td[bkt key M.fs.length]? = some t) (htl : t.length ≤ 100000) (o : Option It) (hA : AnsG S L (first + bkt key M.fs.length) t key o er) :
    Calls Tryz.prog 13 #[.pointer (some ⟨s', 0, none⟩), .string (txt key)] W fun e W' => e = .returned (.tuple #[fV o, .int .i64 er]) ∧ ∃ T', Two w0 W' d F S s L first M s' r G T' tv vs td ∧ Keep G W W' := by
  rcases hA with ⟨h1, rfl, rfl⟩ | ⟨h1, h2, rfl, rfl⟩ | ⟨h1, h2, h3, h4, h5⟩
  · refine (rget_no h.q key hk t ht htl h1).mono ?_
    rintro e W' ⟨rfl, T2, h6, h7, h8⟩
    exact ⟨rfl, T2, h.read2 h7 h6 h8, h8⟩
  · refine (rget_done h.q (by rw [h.like.losses]; exact h2) key hk t ht htl h1).mono ?_
    rintro e W' ⟨rfl, T2, h6, h7, h8⟩
    exact ⟨rfl, T2, h.read2 h7 h6 h8, h8⟩
  · refine (rget_ok h.q (by rw [h.like.losses]; exact h2) (by rw [h.like.off]; exact h.live h2.symm) key hk t ht htl h1 o (by rw [h.like.its]; exact h3) er ⟨h4, h5⟩).mono ?_
    rintro e W' ⟨rfl, T2, h6, h7, h8⟩
    exact ⟨rfl, T2, h.read2 h7 h6 h8, h8⟩

/-! ### May -/
theorem Two.may1 (h : Two w0 W d F S s L first M s' r G T tv vs td) (key : List UInt8) (hk : key.length ≤ maxLen) (t : List (List UInt8)) (ht : td[bkt key M.fs.length]? = some t) :
    Calls Tryz.prog 16 #[.pointer (some ⟨s, 0, none⟩), .string (txt key)] W fun e W' => e = .returned (.bool (mayR t key)) ∧ Below W.heap.size W W' := by
  obtain ⟨y, hy⟩ : ∃ y, M.fs[bkt key M.fs.length]? = some y := ⟨_, List.getElem?_eq_getElem (bkt_lt key M.fs.length h.n1)⟩
  have := may_ok h.p key hk y hy (by have := h.n2; omega)
  rw [h.told.may hy ht key] at this
  exact this
theorem Two.may2 (h : Two w0 W d F S s L first M s' r G T tv vs td) (key : List UInt8) (hk : key.length ≤ 1048000) (t : List (List UInt8)) (ht : td[bkt key M.fs.length]? = some t) (htl : t.length ≤ 100000) :
    Calls Tryz.prog 17 #[.pointer (some ⟨s', 0, none⟩), .string (txt key)] W fun e W' => e = .returned (.bool (mayR t key)) ∧ Below W.heap.size W W' := by
  refine (rmay_at h.q key hk t ht htl).mono ?_
  rintro e W' ⟨rfl, q, rfl⟩
  exact ⟨rfl, drewN_below _ _⟩

/-! ### Items -/
/-- What Items answers. -/
def AnsI (S : Dv) (L : Int) (first n : Nat) (base : Nat) (v : Value) (er : Int) (W : World) : Prop :=
  (S.losses ≠ L ∧ v = .slice none 0 0 ∧ er = 4) ∨ (S.losses = L ∧ er = 0 ∧ Row W base v (S.all first n))
theorem Two.items1 (h : Two w0 W d F S s L first M s' r G T tv vs td) :
    Calls Tryz.prog 19 #[.pointer (some ⟨s, 0, none⟩)] W fun e W' => ∃ v er S', e = .returned (.tuple #[v, .int .i64 er]) ∧ AnsI S L first M.fs.length W.heap.size v er W' ∧ Two w0 W' d F S' s L first M s' r G T tv vs td ∧ Like S S' := by
  by_cases hL : S.losses = L
  · refine (items_ok h.p hL.symm (h.live hL.symm) h.n2 h.fit).mono ?_
    rintro e W' ⟨v, S1, rfl, h1, h2, h3, h4⟩
    exact ⟨v, 0, S1, rfl, .inr ⟨hL, rfl, h1⟩, h.read1 h2 h3 h4, h3⟩
  · refine (items_done h.p hL h.n1 h.n2).mono ?_
    rintro e W' ⟨rfl, h1⟩
    exact ⟨_, 4, S, rfl, .inl ⟨hL, rfl, rfl⟩, h.below h1, Like.refl S⟩
theorem all_like (hl : Like S T) (first n : Nat) : T.all first n = S.all first n := by
  unfold Dv.all
  congr 1
  funext k
  exact hl.its _
theorem Two.items2 (h : Two w0 W d F S s L first M s' r G T tv vs td) :
    Calls Tryz.prog 20 #[.pointer (some ⟨s', 0, none⟩)] W fun e W' => ∃ v er T', e = .returned (.tuple #[v, .int .i64 er]) ∧ AnsI S L first M.fs.length W.heap.size v er W' ∧ Two w0 W' d F S s L first M s' r G T' tv vs td ∧ Keep G W W' := by
  by_cases hL : S.losses = L
  · refine (ritems_ok h.q (by rw [h.like.losses]; exact hL) (by rw [h.like.off]; exact h.live hL.symm)).mono ?_
    rintro e W' ⟨v, rfl, h1, T2, h2, h3, h4⟩
    rw [all_like h.like] at h1
    exact ⟨v, 0, T2, rfl, .inr ⟨hL, rfl, h1⟩, h.read2 h2 h3 h4, h4⟩
  · refine (ritems_done h.q (by rw [h.like.losses]; exact hL)).mono ?_
    rintro e W' ⟨rfl, h1⟩
    exact ⟨_, 4, T, rfl, .inl ⟨hL, rfl, rfl⟩, h.below h1, Keep.of_below h1⟩
end Go.Proofs.YtbccnfbombgdmaaGreat
