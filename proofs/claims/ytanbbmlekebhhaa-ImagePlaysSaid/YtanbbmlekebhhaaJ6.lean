/- The document's own device, records, Dump and Load beside the program's: texts joined. -/
import Derived.Test.YtanbbmlekebhhaaJ3
import Derived.Test.YtanbbmlekebhhaaBy9
import Derived.Test.YtanbbmlekebhhaaJ4
import Derived.Test.YtanbbmlekebhhaaAny
import Derived.Deep.Slices
import Derived.ChangeSlices
import Derived.SizedLaws
import Derived.Test.YtanbbmlekebhhaaJ5
import Derived.Deep.RegionWith
/- Slices of bytes that came in; a copy of one's own. -/
set_option linter.unusedVariables false
set_option linter.unusedSimpArgs false
namespace Go.Proofs.Ytanbbmlekebhhaa
open Go.RowKit Go.Deep

/-- A slice of bytes as it comes in. -/
def RowIs (w : World) (a : Option Addr) (len cap : Nat) (zs : List Int) : Prop :=
  (a = none ∧ len = 0 ∧ cap = 0 ∧ zs = []) ∨
  ∃ x, a = some x ∧ len ≤ cap ∧ cap ≤ maxLen ∧ zs.length = cap ∧ (∀ i, i < zs.length → w.cell? (x.add i) = some (.int .u8 (zs.getD i 0))) ∧ ∀ n ∈ zs, (Lit.int .u8 n).wf = true

theorem row_bytes {w : World} {a : Option Addr} {len cap : Nat} {zs : List Int} (h : RowIs w a len cap zs) :
    ∃ (l : List UInt8) (bb : Nat), l.length = len ∧ BSlice w a l bb ∧ (a = none → l = []) ∧ (l ≠ [] → bb < w.heap.size) := by
  rcases h with ⟨rfl, rfl, rfl, rfl⟩ | ⟨x, rfl, hlc, hm, hz, hc, hwf⟩
  · exact ⟨[], 0, rfl, .inl rfl, fun _ => rfl, fun h => absurd rfl h⟩
  · refine ⟨(zs.take len).map (fun z => UInt8.ofNat z.toNat), x.block, by simp; omega, ?_, (fun h => by cases h), ?_⟩
    · by_cases h0 : len = 0
      · exact .inl (by subst h0; simp)
      · have c0 := hc 0 (by omega)
        have hspot : x.spot = none := by simpa [Addr.add] using World.cell?_spot c0
        obtain ⟨b, off, sp⟩ := x
        simp only at hspot
        subst hspot
        refine .inr ⟨block_lt_of_cell (by simpa [Addr.add] using c0), off, rfl, fun j hj => ?_⟩
        have hjl : j < len := by simp at hj; omega
        have cj := hc j (by omega)
        rw [Addr.add_lit] at cj
        rw [cj]
        have hmem : zs.getD j 0 ∈ zs := by rw [List.getD_eq_getElem?_getD, List.getElem?_eq_getElem (by omega)]; exact List.getElem_mem _
        have hb := u8_wf (hwf _ hmem)
        have e1 : ((zs.take len).map (fun z => UInt8.ofNat z.toNat))[j] = UInt8.ofNat (zs.getD j 0).toNat := by
          simp [List.getD_eq_getElem?_getD, List.getElem?_eq_getElem (show j < zs.length by omega)]
        rw [e1, UInt8.toNat_ofNat']
        have e2 : ((zs.getD j 0).toNat % 2 ^ 8 : Nat) = (zs.getD j 0).toNat := Nat.mod_eq_of_lt (by omega)
        rw [e2]
        congr 2
        omega
    · intro hne
      have h0 : 0 < len := by
        rcases Nat.eq_zero_or_pos len with h | h
        · subst h; simp at hne
        · exact h
      have c0 := hc 0 (by omega)
      obtain ⟨b, off, sp⟩ := x
      exact block_lt_of_cell (by simpa [Addr.add] using c0)

/-- 'append([]byte{}, b...)'. -/
theorem append_bytes (w1 : World) (a : Option Addr) (l : List UInt8) (bb cap : Nat) (hb : BSlice w1 a l bb) (hnil : a = none → l = []) (hl : l.length ≤ 140737488355328) :
    ∃ g cap' w' pad, (Builtin.append_ #[39, 39] 39 #[.slice (some ⟨w1.heap.size, 0, none⟩) 0 0, .slice a l.length cap]).run Try.prog (w1.alloc (.cells #[] 5)) = .ok (.slice (some ⟨g, 0, none⟩) l.length cap') w' ∧
      w1.heap.size ≤ g ∧ Blk w' g (bCells l ++ pad) 5 ∧ Below w1.heap.size w1 w' := by
  obtain ⟨i0, hi0, hp0⟩ := Option.map_eq_some_iff.1 info5
  simp only [Prod.mk.injEq] at hp0
  obtain ⟨hz0, hz1, hz2⟩ := hp0
  have hown : (w1.alloc (.cells #[] 5)).ownsRow w1.heap.size 5 1 (.slice (some ⟨w1.heap.size, 0, none⟩) 0 0) 0 [] := World.ownsRow_made w1 #[] 0 (Nat.le_refl _) (Nat.zero_le _) (by simp)
  have fin : ∀ v' w', w'.ownsRow w1.heap.size 5 1 v' l.length (bCells l) → v' ≠ .slice none 0 0 → ∃ g cap' pad, v' = .slice (some ⟨g, 0, none⟩) l.length cap' ∧ w1.heap.size ≤ g ∧ Blk w' g (bCells l ++ pad) 5 := by
    intro v' w' ho hv
    rcases ho.2 with ⟨h, _⟩ | ⟨g, c', cur, hv2, hB, hh, _, _, _, ht⟩
    · exact absurd h hv
    · refine ⟨g, c', cur.toList.drop (l.length * 1), hv2, hB, ?_⟩
      unfold Blk
      rw [← ht, List.take_append_drop, Array.toArray_toList]
      exact hh
  cases a with
  | none =>
    have h0 := hnil rfl
    subst h0
    have hr : (Builtin.append_ #[39, 39] 39 #[.slice (some ⟨w1.heap.size, 0, none⟩) 0 0, .slice none 0 cap]).run Try.prog (w1.alloc (.cells #[] 5)) = .ok (.slice (some ⟨w1.heap.size, 0, none⟩) 0 0) (w1.alloc (.cells #[] 5)) := by
      have h := run_append_room_src (P := Try.prog) (w1.alloc (.cells #[] 5)) 39 39 39 5 i0 Try.underlying39 hi0 w1.heap.size 0 0 0 (.slice none 0 cap) 0 [] (Src.ofNil _ Try.underlying39 cap) (Nat.le_refl _) (fun j hj => by simp at hj) (fun j hj => by simp at hj)
      exact h
    exact ⟨w1.heap.size, 0, _, [], hr, Nat.le_refl _, Blk.new w1 [] 5, (Below.refl _ _).alloc (Nat.le_refl _) _⟩
  | some x =>
    have hcells : ∀ j u, (bCells l)[j]? = some u → (w1.alloc (.cells #[] 5)).cell? (x.add j) = some u := by
      intro j u hj
      have hjl : j < l.length := by have := (List.getElem?_eq_some_iff.1 hj).1; simpa [bCells] using this
      rcases hb with h | ⟨hb0, off, ha, hc⟩
      · subst h; simp at hjl
      · cases ha
        rw [Addr.add_lit]
        have : u = .int .u8 (l[j].toNat : Int) := by
          have e : (bCells l)[j]? = some (.int .u8 (l[j].toNat : Int)) := by simp [bCells, hjl]
          rw [e] at hj
          exact (Option.some.inj hj).symm
        rw [this]
        exact Lib.cell?_alloc_some _ (hc j hjl)
    obtain ⟨v', w', hr, ho, hg, hnl⟩ := run_append_own (P := Try.prog) (w1.alloc (.cells #[] 5)) w1.heap.size 39 39 5 i0 (.int .u8 0) 1 1 Try.underlying39 hi0 hz0 hz1 hz2 rfl (by decide) _ 0 [] hown x l.length cap (bCells l) (by simp [bCells]) hcells
      (fun u hu => by obtain ⟨_, _, rfl⟩ := List.mem_map.1 hu; rfl) (by unfold maxLen; omega) (by omega) (by rw [nblk_alloc]; omega)
    rw [Nat.zero_add, List.nil_append] at ho
    obtain ⟨g, c', pad, rfl, hgB, hblk⟩ := fin v' w' ho (fun h => by have := (hnl.1 h).1; simp at this)
    exact ⟨g, c', w', pad, hr, hgB, hblk, ((Below.refl _ w1).alloc (Nat.le_refl _) _).grown hg (by rw [nblk_alloc]; omega) (by intro k hk; simp [Value.ownBlock] at hk; omega)⟩

theorem blk_slice {w : World} {g cap : Nat} {l : List UInt8} {pad : List Value} (h : Blk w g (bCells l ++ pad) 5) : BSlice w (some ⟨g, 0, none⟩) l g := by
  refine .inr ⟨h.lt, 0, rfl, fun j hj => ?_⟩
  rw [Nat.zero_add]
  refine h.cell ?_
  rw [List.getElem?_append_left (by simpa [bCells] using hj)]
  simp [bCells, hj]
end Go.Proofs.Ytanbbmlekebhhaa

/- Single operations, run with whatever operands. -/
set_option linter.unusedVariables false
set_option linter.unusedSimpArgs false
namespace Go.Proofs.Ytanbbmlekebhhaa
open Go.RowKit Go.Deep

theorem pick_own {own : Nat → Option Nat} {V : Nat → Value} {listed : Array Bool} {t j : Nat} {v : Value} (h : own t = some j) (hl : listed.getD j false = true) : pickSlot own V listed t v = V j := by
  simp [pickSlot, h, hl]
theorem pick_none {own : Nat → Option Nat} {V : Nat → Value} {listed : Array Bool} {t : Nat} {v : Value} (h : own t = none) : pickSlot own V listed t v = v := by
  simp [pickSlot, h]

theorem x_move (ev : Operand → Value) (dst : Option Tmp) (x : Operand) (ty : TypeId) (pos : String) (after : Array Edge) (guard : Option (Nat × Bool)) (P : Program) (w : World) :
    (execOp ev { dst, op := .move x, type := ty, pos, after, guard }).run P w = .ok (.value (ev x)) w := by
  simp [execOp]
theorem x_assign (ev : Operand → Value) (dst : Option Tmp) (x : Operand) (ty : TypeId) (pos : String) (after : Array Edge) (guard : Option (Nat × Bool)) (P : Program) (w : World) :
    (execOp ev { dst, op := .assign x, type := ty, pos, after, guard }).run P w = .ok (.value (ev x)) w := by
  simp [execOp]
theorem x_field1 (ev : Operand → Value) (dst : Option Tmp) (ty : TypeId) (pos : String) (after : Array Edge) (guard : Option (Nat × Bool)) (w : World) (N : Nat) (h : ev (.tmp 5) = .pointer (some ⟨N, 0, none⟩)) :
    (execOp ev { dst, op := .fieldAddr 41 (.tmp 5) 1, type := ty, pos, after, guard }).run Try.prog w = .ok (.value (.pointer (some ⟨N, 1, none⟩))) w := by
  simp only [execOp, h]
  go_simp
theorem x_field2 (ev : Operand → Value) (dst : Option Tmp) (ty : TypeId) (pos : String) (after : Array Edge) (guard : Option (Nat × Bool)) (w : World) (N : Nat) (h : ev (.tmp 5) = .pointer (some ⟨N, 0, none⟩)) :
    (execOp ev { dst, op := .fieldAddr 41 (.tmp 5) 2, type := ty, pos, after, guard }).run Try.prog w = .ok (.value (.pointer (some ⟨N, 2, none⟩))) w := by
  simp only [execOp, h]
  go_simp
theorem x_load3 (ev : Operand → Value) (dst : Option Tmp) (x : Operand) (ty : TypeId) (pos : String) (after : Array Edge) (guard : Option (Nat × Bool)) (w : World) (b o : Nat) (k : Int) (h : ev x = .pointer (some ⟨b, o, none⟩)) (hc : w.cell? ⟨b, o, none⟩ = some (.int .i64 k)) :
    (execOp ev { dst, op := .load 3 x, type := ty, pos, after, guard }).run Try.prog w = .ok (.value (.int .i64 k)) w := by
  simp only [execOp, h]
  go_simp
theorem x_load29 (ev : Operand → Value) (dst : Option Tmp) (x : Operand) (ty : TypeId) (pos : String) (after : Array Edge) (guard : Option (Nat × Bool)) (w : World) (b o : Nat) (a : Option Addr) (n cap : Nat) (h : ev x = .pointer (some ⟨b, o, none⟩)) (hc : w.cell? ⟨b, o, none⟩ = some (.slice a n cap)) :
    (execOp ev { dst, op := .load 39 x, type := ty, pos, after, guard }).run Try.prog w = .ok (.value (.slice a n cap)) w := by
  simp only [execOp, h]
  go_simp
theorem x_build0 (ev : Operand → Value) (dst : Option Tmp) (ty : TypeId) (pos : String) (after : Array Edge) (guard : Option (Nat × Bool)) (w : World) :
    (execOp ev { dst, op := .buildSlice 39 0 #[], type := ty, pos, after, guard }).run Try.prog w = .ok (.value (.slice (some ⟨w.heap.size, 0, none⟩) 0 0)) (w.alloc (.cells #[] 5)) := by
  simp only [execOp]
  go_simp
theorem x_append (ev : Operand → Value) (dst : Option Tmp) (x y : Operand) (ty : TypeId) (pos : String) (after : Array Edge) (guard : Option (Nat × Bool)) (w w' : World) (u v r : Value) (hx : ev x = u) (hy : ev y = v) (hr : (Builtin.append_ #[39, 39] ty #[u, v]).run Try.prog w = .ok r w') :
    (execOp ev { dst, op := .call { callee := .builtin .append, args := #[x, y], argTypes := #[39, 39] }, type := ty, pos, after, guard }).run Try.prog w = .ok (.value r) w' := by
  simp [execOp, resolve, invoke, builtin, hx, hy, hr, Result.andThen]
theorem x_convert (ev : Operand → Value) (dst : Option Tmp) (x : Operand) (ty : TypeId) (pos : String) (after : Array Edge) (guard : Option (Nat × Bool)) (w : World) (u v : Value) (hx : ev x = u) (hr : (convert 39 9 u).run Try.prog w = .ok v w) :
    (execOp ev { dst, op := .convert 39 9 x, type := ty, pos, after, guard }).run Try.prog w = .ok (.value v) w := by
  simp [execOp, hx, hr, Result.andThen]
theorem x_eql (ev : Operand → Value) (dst : Option Tmp) (x y : Operand) (t2 ty : TypeId) (pos : String) (after : Array Edge) (guard : Option (Nat × Bool)) (w : World) (a b : Int) (hx : ev x = .int .i64 a) (hy : ev y = .int .i64 b) :
    (execOp ev { dst, op := .binOp .eql 24 x y t2, type := ty, pos, after, guard }).run Try.prog w = .ok (.value (.bool (a == b))) w := by
  simp only [execOp, hx, hy]
  go_simp
theorem x_call3 (ev : Operand → Value) (f : FuncId) (hfn : ev (.func f) = .func (.func f) #[] #[]) (dst : Option Tmp) (x y z : Operand) (ats : Array TypeId) (ty : TypeId) (pos : String) (after : Array Edge) (guard : Option (Nat × Bool)) (w : World) (a b c : Value) (hx : ev x = a) (hy : ev y = b) (hz : ev z = c) (P : Program) :
    (execOp ev { dst, op := .call { callee := .value (.func f), args := #[x, y, z], argTypes := ats }, type := ty, pos, after, guard }).run P w = (callFunc f #[a, b, c]).run P w := by
  simp [execOp, resolve, invoke, hfn, hx, hy, hz, Result.andThen]
  rfl
theorem enter12 (args : Array Value) (w : World) : (callFunc 26 args).run Try.prog w = .ok (.enter 26 args) w := by go_simp
theorem enter31 (args : Array Value) (w : World) : (callFunc 36 args).run Try.prog w = .ok (.enter 36 args) w := by go_simp
end Go.Proofs.Ytanbbmlekebhhaa

/- 'both': Write on the device and on the document's own, in whatever order their operands are taken. -/
set_option linter.unusedVariables false
set_option linter.unusedSimpArgs false
namespace Go.Proofs.Ytanbbmlekebhhaa
open Go.RowKit Go.Deep

/-- Both devices, apart from each other. -/
structure Pair (w : World) (d r : Nat) (F G : List Nat) (S T : Dv) : Prop where
  dev : DvAt w d F S
  ref : RfAt w r G T
  apart : Apart w F G

theorem Pair.below {w w' : World} {d r : Nat} {F G : List Nat} {S T : Dv} (h : Pair w d r F G S T) (b : Below w.heap.size w w') : Pair w' d r F G S T :=
  ⟨h.dev.below b, h.ref.below b, (h.apart.below b).1⟩
theorem Moves.left {F F' G : List Nat} {w w' : World} (m : Moves F F' w w') : Moves (F ++ G) (F' ++ G) w w' :=
  ⟨m.keep.mono (fun k hk => .inl (by simp [hk])), fun k hk => by
    rcases List.mem_append.1 hk with h | h
    · rcases m.foot k h with h1 | h1
      · exact .inl (by simp [h1])
      · exact .inr h1
    · exact .inl (by simp [h])⟩
theorem Moves.right {F G G' : List Nat} {w w' : World} (m : Moves G G' w w') : Moves (F ++ G) (F ++ G') w w' :=
  ⟨m.keep.mono (fun k hk => .inl (by simp [hk])), fun k hk => by
    rcases List.mem_append.1 hk with h | h
    · exact .inl (by simp [h])
    · rcases m.foot k h with h1 | h1
      · exact .inl (by simp [h1])
      · exact .inr h1⟩
theorem Apart.swap {w : World} {F G : List Nat} (a : Apart w F G) (hF : ∀ k ∈ F, k < w.heap.size) : Apart w G F := fun k hk => ⟨hF k hk, fun hg => (a k hg).2 hk⟩

/-- A step of the first alone. -/
theorem Pair.step1 {w w' : World} {d r : Nat} {F F' G : List Nat} {S S' T : Dv} (h : Pair w d r F G S T) (hd : DvAt w' d F' S') (m : Moves F F' w w') : Pair w' d r F' G S' T := by
  obtain ⟨a, hs⟩ := m.apart h.apart
  exact ⟨hd, h.ref.same hs, a⟩
/-- A step of the second alone. -/
theorem Pair.step2 {w w' : World} {d r : Nat} {F G G' : List Nat} {S T T' : Dv} (h : Pair w d r F G S T) (hr : RfAt w' r G' T') (m : Moves G G' w w') : Pair w' d r F G' S T' := by
  obtain ⟨a, hs⟩ := m.apart (h.apart.swap h.dev.lt)
  exact ⟨h.dev.same hs, hr, a.swap (fun k hk => hr.lt k hk)⟩

set_option maxHeartbeats 4000000 in
set_option maxRecDepth 100000 in
theorem both_write (d r : Nat) (F G : List Nat) (S T : Dv) (page : Int) (a : Option Addr) (n cap bb : Nat) (l : List UInt8) (hn : n = l.length) (hl : n ≤ 140737488355328) (w : World) (hP : Pair w d r F G S T)
    (hbs : BSlice w a l bb) (hnil : a = none → l = []) (hbF : l ≠ [] → bb ∉ F) (hbG : l ≠ [] → bb ∉ G) :
    Calls Try.prog 14 #[.pointer (some ⟨d, 0, none⟩), .pointer (some ⟨r, 0, none⟩), .agg #[.int .i64 0, .int .i64 page, .slice a n cap]] w fun e w' =>
      e = .returned (.bool (S.writeErr page ⟨l.toArray⟩ == T.writeErr page ⟨l.toArray⟩)) ∧ ∃ F', Pair w' d r F' G (S.writeDo page ⟨l.toArray⟩) (T.writeDo page ⟨l.toArray⟩) ∧ Moves (F ++ G) (F' ++ G) w w' := by
  obtain ⟨W0, hW0⟩ : ∃ W0, W0 = (w.alloc (.cells #[.int .i64 0, .int .i64 page, .slice a n cap] 41)).drew := ⟨_, rfl⟩
  have hs0 : W0.heap.size = w.heap.size + 1 := by rw [hW0]; exact nblk_alloc _ _
  have B0 : Below w.heap.size w W0 := by rw [hW0]; exact ((Below.refl _ _).alloc (Nat.le_refl _) _).drew
  have bx0 : Blk W0 w.heap.size [.int .i64 0, .int .i64 page, .slice a n cap] 41 := by rw [hW0]; exact Blk.new w _ 41
  have bs0 : BSlice W0 a l bb := hbs.same B0.size (fun h _ => B0.block bb h)
  obtain ⟨g, cap', WA, pad, hrA, hgA, hbA, hBA⟩ := append_bytes W0 a l bb cap bs0 hnil (by omega)
  rw [← hn] at hrA
  obtain ⟨Box, hBox⟩ : ∃ Box : World → Prop, Box = fun W => Blk W w.heap.size [.int .i64 0, .int .i64 page, .slice a n cap] 41 ∧ BSlice W a l bb := ⟨_, rfl⟩
  obtain ⟨P2, hP2⟩ : ∃ P2 : World → Prop, P2 = fun W => ∃ F', Pair W d r F' G (S.writeDo page ⟨l.toArray⟩) T ∧ Moves (F ++ G) (F' ++ G) w W ∧ Apart W F' [w.heap.size] ∧ (l ≠ [] → bb ∉ F') ∧ Box W := ⟨_, rfl⟩
  obtain ⟨P3, hP3⟩ : ∃ P3 : World → Prop, P3 = fun W => ∃ F', Pair W d r F' G (S.writeDo page ⟨l.toArray⟩) (T.writeDo page ⟨l.toArray⟩) ∧ Moves (F ++ G) (F' ++ G) w W ∧ Box W := ⟨_, rfl⟩
  obtain ⟨C, hC⟩ : ∃ C : Array Bool → World → Prop, C = fun listed W => (listed.getD 14 false = true → listed.getD 7 false = true) ∧ (listed.getD 7 false = true → listed.getD 6 false = true) ∧ (listed.getD 6 false = true → listed.getD 3 false = true) ∧
      (if listed.getD 14 false = true then P3 W else if listed.getD 7 false = true then P2 W else if listed.getD 6 false = true then W = WA else if listed.getD 3 false = true then W = W0.alloc (.cells #[] 5) else W = W0) := ⟨_, rfl⟩
  have hBelow : ∀ W, Below W0.heap.size W0 W → Box W := fun W hB => by
    rw [hBox]
    exact ⟨bx0.same (hB.block _ (by omega)), bs0.same hB.size (fun h _ => hB.block bb h)⟩
  have boxOf : ∀ listed W, C listed W → Box W := fun listed W hc => by
    rw [hC] at hc
    obtain ⟨_, _, _, hc⟩ := hc
    split at hc
    · rw [hP3] at hc; obtain ⟨_, _, _, h⟩ := hc; exact h
    · split at hc
      · rw [hP2] at hc; obtain ⟨_, _, _, _, _, h⟩ := hc; exact h
      · split at hc
        · subst hc; exact hBelow _ hBA
        · split at hc
          · subst hc; exact hBelow _ ((Below.refl _ _).alloc (Nat.le_refl _) _)
          · subst hc; exact hBelow _ (Below.refl _ _)
  have keepC : ∀ listed W i, i < listed.size → i ≠ 3 → i ≠ 6 → i ≠ 7 → i ≠ 14 → C listed W → C (listed.setIfInBounds i true) W := fun listed W i hi h3 h6 h7 h14 hc => by
    rw [hC] at hc ⊢
    simp only [getD_set _ _ _ hi, if_neg (Ne.symm h3), if_neg (Ne.symm h6), if_neg (Ne.symm h7), if_neg (Ne.symm h14)]
    exact hc
  have start : C (Array.replicate 17 false) W0 := by rw [hC]; simp
  have unlisted : ∀ (listed : Array Bool) (i : Nat), i < listed.size → listed.getD i true = false → listed.getD i false = false := fun listed i hi h => by
    simp only [Array.getD_eq_getD_getElem?, Array.getElem?_eq_getElem hi, Option.getD_some] at h ⊢
    exact h
  -- the two calls
  have hPA : Pair WA d r F G S T := (hP.below B0).below hBA
  have gF : g ∉ F := fun hf => by have := hP.dev.lt g hf; omega
  have callD : Calls Try.prog 26 #[.pointer (some ⟨d, 0, none⟩), .int .i64 page, .slice (some ⟨g, 0, none⟩) n cap'] WA fun e W => e = .returned (.int .i64 (S.writeErr page ⟨l.toArray⟩)) ∧ P2 W := by
    refine (write_at d F S page (some ⟨g, 0, none⟩) n cap' g l hn WA (blk_slice (cap := cap') hbA) (fun h => by cases h) (fun _ => gF) hPA.dev).mono ?_
    rintro e W ⟨rfl, F', hd', m'⟩
    refine ⟨rfl, ?_⟩
    rw [hP2]
    have hAB : Below w.heap.size w WA := B0.trans (hBA.mono (by omega))
    have apN := m'.apart (G := [w.heap.size]) (fun k hk => by
      simp at hk; subst hk
      exact ⟨by have := hBA.size; omega, fun hf => by have := hP.dev.lt _ hf; omega⟩)
    have boxA := hBelow WA hBA
    rw [hBox] at boxA
    have hbb : ∀ h : l ≠ [], bb ∉ F' ∧ (bb < WA.heap.size → W.heap[bb]? = WA.heap[bb]?) := fun h => by
      have hlt : bb < w.heap.size := by
        rcases hbs with h0 | ⟨h0, _⟩
        · exact absurd h0 h
        · exact h0
      have := m'.apart (G := [bb]) (fun k hk => by simp at hk; subst hk; exact ⟨by have := hAB.size; omega, hbF h⟩)
      exact ⟨(this.1 bb (by simp)).2, fun _ => this.2 bb (by simp)⟩
    refine ⟨F', hPA.step1 hd' m', ?_, apN.1, fun h => (hbb h).1, ?_⟩
    · exact ⟨(Keep.mono (F := []) ⟨hAB.os, hAB.tape, hAB.output, hAB.size, fun k hk _ => hAB.block k hk⟩ (fun k hk => by cases hk)).trans m'.left.keep (fun x hx => .inl hx), fun k hk => by
        rcases m'.left.foot k hk with h1 | h1
        · exact .inl h1
        · exact .inr (Nat.le_trans hAB.size h1)⟩
    · rw [hBox]
      exact ⟨boxA.1.same (apN.2 _ (by simp)), boxA.2.same m'.keep.size (fun h1 h2 => (hbb h2).2 h1)⟩
  have callR : ∀ W', P2 W' → Calls Try.prog 36 #[.pointer (some ⟨r, 0, none⟩), .int .i64 page, .string ⟨l.toArray⟩] W' fun e W => e = .returned (.int .i64 (T.writeErr page ⟨l.toArray⟩)) ∧ P3 W := fun W' h2 => by
    rw [hP2] at h2
    obtain ⟨F', hp', mv', ap', hb', hbx'⟩ := h2
    refine (rwrite_at r G T page ⟨l.toArray⟩ W' hp'.ref).mono ?_
    rintro e W ⟨rfl, hr', kr'⟩
    refine ⟨rfl, ?_⟩
    rw [hP3]
    have mr := Moves.of_keep kr'
    rw [hBox] at hbx'
    refine ⟨F', hp'.step2 hr' mr, mv'.trans mr.right, ?_⟩
    rw [hBox]
    refine ⟨hbx'.1.same (kr'.block _ hbx'.1.lt (fun hg => by have := hP.ref.lt _ hg; omega)), hbx'.2.same kr'.size (fun h1 h2 => kr'.block bb h1 (hbG h2))⟩
  obtain ⟨ea, hea⟩ : ∃ ea, ea = S.writeErr page ⟨l.toArray⟩ := ⟨_, rfl⟩
  obtain ⟨eb, heb⟩ : ∃ eb, eb = T.writeErr page ⟨l.toArray⟩ := ⟨_, rfl⟩
  rw [← hea] at callD
  rw [← heb] at callR
  have fin : ∀ W, C (Array.replicate 17 true) W → P3 W := fun W hc => by
    rw [hC] at hc
    simpa using hc.2.2.2
  refine Calls.mono (R := fun e w' => e = .returned (.bool (ea == eb)) ∧ P3 w') ?_ (by
    rintro e w' ⟨rfl, h3⟩
    rw [hP3] at h3
    obtain ⟨F', hp', mv', _⟩ := h3
    exact ⟨by rw [hea, heb], F', hp', mv'⟩)
  have ST := hide start
  have HC0 := hide hW0
  rw [hW0] at ST
  have boxOf2 : ∀ listed W, C listed W → Blk W w.heap.size [.int .i64 0, .int .i64 page, .slice a n cap] 41 ∧ BSlice W a l bb := fun listed W hc => by
    have := boxOf listed W hc
    rw [hBox] at this
    exact this
  have KC := hide keepC
  have BO := hide boxOf2
  have FI := hide fin
  have UL := hide unlisted
  have CD := hide callD
  have CR := hide callR
  have HRA := hide hrA
  have HCE := hide hC
  have HNN := hide hn
  have HNIL := hide hnil
  have HS0 := hide hs0
  clear keepC boxOf boxOf2 fin unlisted callD callR hrA hC start hBelow hBox hP2 hP3 bx0 bs0 hbA hBA hPA hgA gF hbs hbF hbG hP B0 hl hea heb hW0 hnil hs0 hn
  go_enter Try.func14, Try.ntmps14
  go_wp2_with fail
  have keepC := KC.out
  have boxOf := BO.out
  have unlisted := UL.out
  have callD := CD.out
  have callR := CR.out
  have hC := HCE.out
  have hrA := HRA.out
  have hn := HNN.out
  have hnil := HNIL.out
  have hs0 := HS0.out
  refine wp_region_slots (by kernel_rfl) (by kernel_rfl) (fun i => ([.pointer (some ⟨d, 0, none⟩), .pointer (some ⟨w.heap.size, 1, none⟩), .int .i64 page, .slice (some ⟨w.heap.size + 1, 0, none⟩) 0 0, .pointer (some ⟨w.heap.size, 2, none⟩), .slice a n cap,
    .slice (some ⟨g, 0, none⟩) n cap', .int .i64 ea, .pointer (some ⟨r, 0, none⟩), .pointer (some ⟨w.heap.size, 1, none⟩), .int .i64 page, .pointer (some ⟨w.heap.size, 2, none⟩), .slice a n cap, .string ⟨l.toArray⟩, .int .i64 eb, .bool (ea == eb), .bool (ea == eb)] : List Value).getD i undef) C ST.out ?_ ?_
  · intro i o hi listed w' ev hs hc hfree hdep hev hcv hfn
    have hs17 : listed.size = 17 := hs
    have bx := boxOf listed w' hc
    have hlt : i < 17 := by
      have := (Array.getElem?_eq_some_iff.1 hi).1
      simpa using this
    clear ST KC BO UL CD CR HCE HRA HNN HNIL HS0
    match i, hlt with
    | 0, _ =>
      simp only [List.getElem?_toArray, List.getElem?_cons_zero, List.getElem?_cons_succ, Option.some.injEq] at hi
      subst hi
      have e0 : ev (.tmp 0) = .pointer (some ⟨d, 0, none⟩) := ((hev 0 (show (0 : Nat) < 71 by decide)).trans (pick_none (by kernel_rfl)))
      exact .inl ⟨w', by rw [x_move, e0]; rfl, keepC listed w' 0 (by omega) (by decide) (by decide) (by decide) (by decide) hc⟩
    | 1, _ =>
      simp only [List.getElem?_toArray, List.getElem?_cons_zero, List.getElem?_cons_succ, Option.some.injEq] at hi
      subst hi
      have e0 : ev (.tmp 5) = .pointer (some ⟨w.heap.size, 0, none⟩) := ((hev 5 (show (5 : Nat) < 71 by decide)).trans (pick_none (by kernel_rfl)))
      exact .inl ⟨w', x_field1 _ _ _ _ _ _ _ _ e0, keepC listed w' 1 (by omega) (by decide) (by decide) (by decide) (by decide) hc⟩
    | 2, _ =>
      simp only [List.getElem?_toArray, List.getElem?_cons_zero, List.getElem?_cons_succ, Option.some.injEq] at hi
      subst hi
      have e0 : ev (.tmp 16) = .pointer (some ⟨w.heap.size, 1, none⟩) := ((hev 16 (show (16 : Nat) < 71 by decide)).trans (pick_own (by kernel_rfl) (hdep ⟨1, .data⟩ (by simp) rfl)))
      exact .inl ⟨w', x_load3 _ _ _ _ _ _ _ _ _ _ _ e0 (bx.1.cell (i := 1) rfl), keepC listed w' 2 (by omega) (by decide) (by decide) (by decide) (by decide) hc⟩
    | 3, _ =>
      simp only [List.getElem?_toArray, List.getElem?_cons_zero, List.getElem?_cons_succ, Option.some.injEq] at hi
      subst hi
      rw [hC] at hc
      obtain ⟨c1, c2, c3, hc⟩ := hc
      have n3 : listed.getD 3 false = false := unlisted listed 3 (by omega) hfree
      have n6 : ¬ listed.getD 6 false = true := fun h => by rw [c3 h] at n3; cases n3
      have n7 : ¬ listed.getD 7 false = true := fun h => n6 (c2 h)
      have n14 : ¬ listed.getD 14 false = true := fun h => n7 (c1 h)
      rw [if_neg n14, if_neg n7, if_neg n6, if_neg (by rw [n3]; decide)] at hc
      subst hc
      refine .inl ⟨_, by rw [x_build0, hs0]; rfl, ?_⟩
      rw [hC]
      simp only [getD_set _ _ _ (show 3 < listed.size by omega)]
      simp [n6, n7, n14]
    | 4, _ =>
      simp only [List.getElem?_toArray, List.getElem?_cons_zero, List.getElem?_cons_succ, Option.some.injEq] at hi
      subst hi
      have e0 : ev (.tmp 5) = .pointer (some ⟨w.heap.size, 0, none⟩) := ((hev 5 (show (5 : Nat) < 71 by decide)).trans (pick_none (by kernel_rfl)))
      exact .inl ⟨w', x_field2 _ _ _ _ _ _ _ _ e0, keepC listed w' 4 (by omega) (by decide) (by decide) (by decide) (by decide) hc⟩
    | 5, _ =>
      simp only [List.getElem?_toArray, List.getElem?_cons_zero, List.getElem?_cons_succ, Option.some.injEq] at hi
      subst hi
      have e0 : ev (.tmp 19) = .pointer (some ⟨w.heap.size, 2, none⟩) := ((hev 19 (show (19 : Nat) < 71 by decide)).trans (pick_own (by kernel_rfl) (hdep ⟨4, .data⟩ (by simp) rfl)))
      exact .inl ⟨w', x_load29 _ _ _ _ _ _ _ _ _ _ _ _ _ e0 (bx.1.cell (i := 2) rfl), keepC listed w' 5 (by omega) (by decide) (by decide) (by decide) (by decide) hc⟩
    | 6, _ =>
      simp only [List.getElem?_toArray, List.getElem?_cons_zero, List.getElem?_cons_succ, Option.some.injEq] at hi
      subst hi
      have l3 : listed.getD 3 false = true := hdep ⟨3, .data⟩ (by simp) rfl
      have e0 : ev (.tmp 18) = .slice (some ⟨w.heap.size + 1, 0, none⟩) 0 0 := ((hev 18 (show (18 : Nat) < 71 by decide)).trans (pick_own (by kernel_rfl) (hdep ⟨3, .data⟩ (by simp) rfl)))
      have e1 : ev (.tmp 20) = .slice a n cap := ((hev 20 (show (20 : Nat) < 71 by decide)).trans (pick_own (by kernel_rfl) (hdep ⟨5, .data⟩ (by simp) rfl)))
      rw [hC] at hc
      obtain ⟨c1, c2, c3, hc⟩ := hc
      have n6 : listed.getD 6 false = false := unlisted listed 6 (by omega) hfree
      have n7 : ¬ listed.getD 7 false = true := fun h => by rw [c2 h] at n6; cases n6
      have n14 : ¬ listed.getD 14 false = true := fun h => n7 (c1 h)
      rw [if_neg n14, if_neg n7, if_neg (by rw [n6]; decide), if_pos l3] at hc
      subst hc
      rw [hs0] at hrA
      refine .inl ⟨WA, x_append _ _ _ _ _ _ _ _ _ _ _ _ _ e0 e1 hrA, ?_⟩
      rw [hC]
      simp only [getD_set _ _ _ (show 6 < listed.size by omega)]
      simp [l3, n7, n14]
    | 7, _ =>
      simp only [List.getElem?_toArray, List.getElem?_cons_zero, List.getElem?_cons_succ, Option.some.injEq] at hi
      subst hi
      have l6 : listed.getD 6 false = true := hdep ⟨6, .data⟩ (by simp) rfl
      have e0 : ev (.tmp 15) = .pointer (some ⟨d, 0, none⟩) := ((hev 15 (show (15 : Nat) < 71 by decide)).trans (pick_own (by kernel_rfl) (hdep ⟨0, .data⟩ (by simp) rfl)))
      have e1 : ev (.tmp 17) = .int .i64 page := ((hev 17 (show (17 : Nat) < 71 by decide)).trans (pick_own (by kernel_rfl) (hdep ⟨2, .data⟩ (by simp) rfl)))
      have e2 : ev (.tmp 21) = .slice (some ⟨g, 0, none⟩) n cap' := ((hev 21 (show (21 : Nat) < 71 by decide)).trans (pick_own (by kernel_rfl) (hdep ⟨6, .data⟩ (by simp) rfl)))
      rw [hC] at hc
      obtain ⟨c1, c2, c3, hc⟩ := hc
      have n7 : listed.getD 7 false = false := unlisted listed 7 (by omega) hfree
      have n14 : ¬ listed.getD 14 false = true := fun h => by rw [c1 h] at n7; cases n7
      rw [if_neg n14, if_neg (by rw [n7]; decide), if_pos l6] at hc
      subst hc
      refine .inr (.inr ⟨26, _, (x_call3 ev 26 (hfn 26) _ _ _ _ _ _ _ _ _ _ _ _ _ e0 e1 e2 _).trans (enter12 _ _), ?_⟩)
      refine callD.mono ?_
      rintro e W ⟨rfl, hw2⟩
      refine ⟨rfl, ?_⟩
      rw [hC]
      simp only [getD_set _ _ _ (show 7 < listed.size by omega)]
      simp only [n14, l6, c3 l6]
      simpa using hw2
    | 8, _ =>
      simp only [List.getElem?_toArray, List.getElem?_cons_zero, List.getElem?_cons_succ, Option.some.injEq] at hi
      subst hi
      have e0 : ev (.tmp 1) = .pointer (some ⟨r, 0, none⟩) := ((hev 1 (show (1 : Nat) < 71 by decide)).trans (pick_none (by kernel_rfl)))
      exact .inl ⟨w', by rw [x_move, e0]; rfl, keepC listed w' 8 (by omega) (by decide) (by decide) (by decide) (by decide) hc⟩
    | 9, _ =>
      simp only [List.getElem?_toArray, List.getElem?_cons_zero, List.getElem?_cons_succ, Option.some.injEq] at hi
      subst hi
      have e0 : ev (.tmp 5) = .pointer (some ⟨w.heap.size, 0, none⟩) := ((hev 5 (show (5 : Nat) < 71 by decide)).trans (pick_none (by kernel_rfl)))
      exact .inl ⟨w', x_field1 _ _ _ _ _ _ _ _ e0, keepC listed w' 9 (by omega) (by decide) (by decide) (by decide) (by decide) hc⟩
    | 10, _ =>
      simp only [List.getElem?_toArray, List.getElem?_cons_zero, List.getElem?_cons_succ, Option.some.injEq] at hi
      subst hi
      have e0 : ev (.tmp 24) = .pointer (some ⟨w.heap.size, 1, none⟩) := ((hev 24 (show (24 : Nat) < 71 by decide)).trans (pick_own (by kernel_rfl) (hdep ⟨9, .data⟩ (by simp) rfl)))
      exact .inl ⟨w', x_load3 _ _ _ _ _ _ _ _ _ _ _ e0 (bx.1.cell (i := 1) rfl), keepC listed w' 10 (by omega) (by decide) (by decide) (by decide) (by decide) hc⟩
    | 11, _ =>
      simp only [List.getElem?_toArray, List.getElem?_cons_zero, List.getElem?_cons_succ, Option.some.injEq] at hi
      subst hi
      have e0 : ev (.tmp 5) = .pointer (some ⟨w.heap.size, 0, none⟩) := ((hev 5 (show (5 : Nat) < 71 by decide)).trans (pick_none (by kernel_rfl)))
      exact .inl ⟨w', x_field2 _ _ _ _ _ _ _ _ e0, keepC listed w' 11 (by omega) (by decide) (by decide) (by decide) (by decide) hc⟩
    | 12, _ =>
      simp only [List.getElem?_toArray, List.getElem?_cons_zero, List.getElem?_cons_succ, Option.some.injEq] at hi
      subst hi
      have e0 : ev (.tmp 26) = .pointer (some ⟨w.heap.size, 2, none⟩) := ((hev 26 (show (26 : Nat) < 71 by decide)).trans (pick_own (by kernel_rfl) (hdep ⟨11, .data⟩ (by simp) rfl)))
      exact .inl ⟨w', x_load29 _ _ _ _ _ _ _ _ _ _ _ _ _ e0 (bx.1.cell (i := 2) rfl), keepC listed w' 12 (by omega) (by decide) (by decide) (by decide) (by decide) hc⟩
    | 13, _ =>
      simp only [List.getElem?_toArray, List.getElem?_cons_zero, List.getElem?_cons_succ, Option.some.injEq] at hi
      subst hi
      have e0 : ev (.tmp 27) = .slice a n cap := ((hev 27 (show (27 : Nat) < 71 by decide)).trans (pick_own (by kernel_rfl) (hdep ⟨12, .data⟩ (by simp) rfl)))
      exact .inl ⟨w', x_convert _ _ _ _ _ _ _ _ _ _ e0 (by rw [hn]; exact str_any bx.2 hnil cap), keepC listed w' 13 (by omega) (by decide) (by decide) (by decide) (by decide) hc⟩
    | 14, _ =>
      simp only [List.getElem?_toArray, List.getElem?_cons_zero, List.getElem?_cons_succ, Option.some.injEq] at hi
      subst hi
      have l7 : listed.getD 7 false = true := hdep ⟨7, .chain⟩ (by simp) rfl
      have e0 : ev (.tmp 23) = .pointer (some ⟨r, 0, none⟩) := ((hev 23 (show (23 : Nat) < 71 by decide)).trans (pick_own (by kernel_rfl) (hdep ⟨8, .data⟩ (by simp) rfl)))
      have e1 : ev (.tmp 25) = .int .i64 page := ((hev 25 (show (25 : Nat) < 71 by decide)).trans (pick_own (by kernel_rfl) (hdep ⟨10, .data⟩ (by simp) rfl)))
      have e2 : ev (.tmp 28) = .string ⟨l.toArray⟩ := ((hev 28 (show (28 : Nat) < 71 by decide)).trans (pick_own (by kernel_rfl) (hdep ⟨13, .data⟩ (by simp) rfl)))
      rw [hC] at hc
      obtain ⟨c1, c2, c3, hc⟩ := hc
      have n14 : listed.getD 14 false = false := unlisted listed 14 (by omega) hfree
      rw [if_neg (by rw [n14]; decide), if_pos l7] at hc
      refine .inr (.inr ⟨36, _, (x_call3 ev 36 (hfn 36) _ _ _ _ _ _ _ _ _ _ _ _ _ e0 e1 e2 _).trans (enter31 _ _), ?_⟩)
      refine (callR w' hc).mono ?_
      rintro e W ⟨rfl, hw3⟩
      refine ⟨rfl, ?_⟩
      rw [hC]
      simp only [getD_set _ _ _ (show 14 < listed.size by omega)]
      simp only [l7, c2 l7, c3 (c2 l7)]
      simpa using hw3
    | 15, _ =>
      simp only [List.getElem?_toArray, List.getElem?_cons_zero, List.getElem?_cons_succ, Option.some.injEq] at hi
      subst hi
      have e0 : ev (.tmp 22) = .int .i64 ea := ((hev 22 (show (22 : Nat) < 71 by decide)).trans (pick_own (by kernel_rfl) (hdep ⟨7, .data⟩ (by simp) rfl)))
      have e1 : ev (.tmp 29) = .int .i64 eb := ((hev 29 (show (29 : Nat) < 71 by decide)).trans (pick_own (by kernel_rfl) (hdep ⟨14, .data⟩ (by simp) rfl)))
      exact .inl ⟨w', x_eql _ _ _ _ _ _ _ _ _ _ _ _ e0 e1, keepC listed w' 15 (by omega) (by decide) (by decide) (by decide) (by decide) hc⟩
    | 16, _ =>
      simp only [List.getElem?_toArray, List.getElem?_cons_zero, List.getElem?_cons_succ, Option.some.injEq] at hi
      subst hi
      have e0 : ev (.tmp 30) = .bool (ea == eb) := ((hev 30 (show (30 : Nat) < 71 by decide)).trans (pick_own (by kernel_rfl) (hdep ⟨15, .data⟩ (by simp) rfl)))
      exact .inl ⟨w', by rw [x_assign, e0]; rfl, keepC listed w' 16 (by omega) (by decide) (by decide) (by decide) (by decide) hc⟩
  · intro w' fr hc' hdf hev
    have h3 := FI.out w' hc'
    have e6 : fr.eval (.tmp 6) = .bool (ea == eb) := (hev 6 (show (6 : Nat) < 71 by decide)).trans (pick_own (j := 16) (by kernel_rfl) (by kernel_rfl))
    have ed : fr.defers = [] := hdf
    clear ST KC BO UL CD CR HCE HRA HNN HNIL HS0 keepC boxOf unlisted callD callR hC hrA hn hnil hs0 hc' FI hev hdf
    have H3 := hide h3
    clear h3
    have e7 : fr.tmps.getD 6 undef = .bool (ea == eb) := e6
    go_wp2
    exact bodyPost_ret_by ((results_tmp (t := 6) Try.results14 fr.tmps _ _).trans (by rw [e7])) ed ⟨rfl, H3.out⟩
end Go.Proofs.Ytanbbmlekebhhaa

/- A list of calls as it comes in: a row of structs, each with a slice of bytes of its own. -/
set_option linter.unusedVariables false
set_option linter.unusedSimpArgs false
set_option maxRecDepth 20000
namespace Go.Proofs.Ytanbbmlekebhhaa
open Go.RowKit Go.Deep Go.ChangeShapes Go.WideShapes

/-- A call: which, the page, the bytes and where they lie. -/
structure ActI where
  op : Int
  page : Int
  a : Option Addr
  cap : Nat
  bb : Nat
  l : List UInt8

structure OneAct (w : World) (b o : Nat) (t : ActI) : Prop where
  c0 : w.cell? ⟨b, o, none⟩ = some (.int .i64 t.op)
  c1 : w.cell? ⟨b, o + 1, none⟩ = some (.int .i64 t.page)
  c2 : w.cell? ⟨b, o + 2, none⟩ = some (.slice t.a t.l.length t.cap)
  bytes : BSlice w t.a t.l t.bb
  nil : t.a = none → t.l = []
  small : t.l.length ≤ 140737488351232
  page : t.page ≤ 9223372036854775807

/-- The list of calls. -/
def ActsAt (w : World) (a : Option Addr) (len : Nat) (ts : List ActI) : Prop :=
  ts.length = len ∧ (ts = [] ∨ ∃ b o, a = some ⟨b, o, none⟩ ∧ b < w.heap.size ∧ ∀ i t, ts[i]? = some t → OneAct w b (o + i * 3) t)

theorem OneAct.same {w w' : World} {b o : Nat} {t : ActI} (h : OneAct w b o t) (hs : w.heap.size ≤ w'.heap.size) (e : ∀ k, k < w.heap.size → w'.heap[k]? = w.heap[k]?) : OneAct w' b o t := by
  have lt : b < w.heap.size := block_lt_of_cell h.c0
  refine ⟨?_, ?_, ?_, h.bytes.same hs (fun hb _ => e _ hb), h.nil, h.small, h.page⟩
  · rw [World.cell?_of_block (a := ⟨b, o, none⟩) (e b lt)]; exact h.c0
  · rw [World.cell?_of_block (a := ⟨b, o + 1, none⟩) (e b lt)]; exact h.c1
  · rw [World.cell?_of_block (a := ⟨b, o + 2, none⟩) (e b lt)]; exact h.c2

theorem ActsAt.same {w w' : World} {a : Option Addr} {len : Nat} {ts : List ActI} (h : ActsAt w a len ts) (hs : w.heap.size ≤ w'.heap.size) (e : ∀ k, k < w.heap.size → w'.heap[k]? = w.heap[k]?) : ActsAt w' a len ts := by
  refine ⟨h.1, ?_⟩
  rcases h.2 with h0 | ⟨b, o, ha, hb, hc⟩
  · exact .inl h0
  · exact .inr ⟨b, o, ha, Nat.lt_of_lt_of_le hb hs, fun i t ht => (hc i t ht).same hs e⟩

theorem i64_wf {z : Int} (h : (Lit.int .i64 z).wf = true) : z ≤ 9223372036854775807 := by
  have h2 : IntKind.i64.max = 9223372036854775807 := rfl
  simp [Lit.wf, h2] at h
  exact h.2

theorem cells36 : Try.prog.cellsOf 41 = 3 := by kernel_rfl
theorem cells3 : Try.prog.cellsOf 3 = 1 := by kernel_rfl
theorem cells29 : Try.prog.cellsOf 39 = 1 := by kernel_rfl
/-- One slice of bytes, by its cells. -/
theorem bytes_open3 {H : Type} {enc : TypeId × Value → H} {W : World} {fuel : Nat} {cs : List Value} {x : DataW H × List MemPlace} (h : DataW.trod enc Try.prog W 0 (fun _ => true) true fuel 39 cs = some x)
    (hw : ∀ n ∈ x.1.weights Try.prog 39, n ≤ reachBytes) :
    ∃ (a : Option Addr) (cap bb : Nat) (l : List UInt8), cs = [.slice a l.length cap] ∧ BSlice W a l bb ∧ (a = none → l = []) ∧ l.length ≤ 140737488351232 := by
  rcases open_ints Try.underlying39 Try.underlying5 cells5 h with ⟨rfl, _⟩ | ⟨a, len, cap, zs, rfl, _, hl, hm, hz, hx, hcell, hwz⟩
  · exact ⟨none, 0, 0, [], rfl, .inl rfl, fun _ => rfl, Nat.zero_le _⟩
  · have hz' : zs.length = cap := by simpa using hz
    have row : RowIs W (some a) len cap zs := .inr ⟨a, rfl, hl, hm, hz', hcell, hwz⟩
    obtain ⟨l, bb, h1, h2, h3, _⟩ := row_bytes row
    have hb : (zs.take len).length + (zs.drop len).length ≤ reachBytes := by
      have := hw (((lits (H := H) .u8 (zs.take len)).length + (lits (H := H) .u8 (zs.drop len)).length) * Try.prog.bytesOf 5) (by rw [hx]; simp [DataW.weights, Try.underlying39])
      rw [bytes5] at this
      simpa [lits] using this
    refine ⟨some a, cap, bb, l, by rw [h1], h2, h3, ?_⟩
    rw [h1]
    have e : reachBytes = 140737488351232 := by decide
    simp at hb
    omega

theorem weights_all {H : Type} {P : Program} {e : TypeId} : ∀ {ds : List (DataW H)} {d : DataW H}, d ∈ ds → ∀ n ∈ d.weights P e, n ∈ DataW.weightsAll P e ds
  | d0 :: r, d, hd, n, hn => by
    simp only [DataW.weightsAll, List.mem_append]
    rcases List.mem_cons.1 hd with rfl | hd
    · exact .inl hn
    · exact .inr (weights_all hd n hn)

set_option maxHeartbeats 400000 in
theorem acts_open {H : Type} {enc : TypeId × Value → H} {W : World} {fuel : Nat} {a0 : Option Addr} {len0 cap0 : Nat} {x : DataW H × List MemPlace} (h : DataW.trod enc Try.prog W 0 (fun _ => true) true fuel 36 [.slice a0 len0 cap0] = some x)
    (hw : ∀ n ∈ x.1.weights Try.prog 36, n ≤ reachBytes) : ∃ ts, ActsAt W a0 len0 ts := by
  rcases open_slice Try.underlying36 h with ⟨hcs, _⟩ | ⟨a, len, cap, m, n, D, Pl, hcs, _, hl, hm, hmm, hx, hel⟩
  · simp at hcs
    obtain ⟨rfl, rfl, rfl⟩ := hcs
    exact ⟨[], rfl, .inl rfl⟩
  · simp only [List.cons.injEq, Value.slice.injEq, and_true] at hcs
    obtain ⟨rfl, rfl, rfl⟩ := hcs
    have hmc : m = cap0 := by simpa using hmm
    by_cases h0 : len0 = 0
    · subst h0; exact ⟨[], rfl, .inl rfl⟩
    have hspot : a.spot = none := by
      obtain ⟨cs', h1, h2⟩ := hel 0 (by omega)
      rw [cells36] at h1
      obtain ⟨_, hlen, hcell⟩ := World.cells?_some h1
      match cs', hlen with
      | [v0, v1, v2], _ =>
        have e0 := hcell 0 (by omega)
        have := World.cell?_spot (v := v0) (by simpa using e0)
        simpa [Addr.add] using this
    have each : ∀ i, i < len0 → ∃ t : ActI, ∃ o, a = ⟨a.block, o, none⟩ ∧ OneAct W a.block (o + i * 3) t := by
      intro i hi
      obtain ⟨cs', h1, h2⟩ := hel i (by omega)
      rw [cells36] at h1
      obtain ⟨_, hlen, hcell⟩ := World.cells?_some h1
      have hwi : ∀ k ∈ (D i).weights Try.prog 41, k ≤ reachBytes := fun k hk => by
        refine hw k ?_
        rw [hx]
        simp only [DataW.weights, Try.underlying36, List.mem_cons, List.mem_append]
        refine .inr (.inl (weights_all (d := D i) ?_ k hk))
        exact List.mem_map.2 ⟨i, List.mem_range.2 hi, rfl⟩
      obtain ⟨xs, k, hk, hxy, _, hxl, hf⟩ := DataW.trod_struct Try.underlying41 h2
      match xs, hxl, cs', hlen with
      | [y0, y1, y2], _, [v0, v1, v2], _ =>
        have g0 := hf 0 _ rfl
        have g1 := hf 1 _ rfl
        have g2 := hf 2 _ rfl
        simp at g0 g1 g2
        simp only [cells3, cells29] at g0 g1 g2
        simp only [List.take_succ_cons, List.take_zero] at g0 g1 g2
        simp only [Prod.mk.injEq] at hxy
        have e0 := hcell 0 (by omega)
        have e1 := hcell 1 (by omega)
        have e2 := hcell 2 (by omega)
        rw [add_add] at e0 e1 e2
        obtain ⟨n0, hv0, _, _⟩ := DataW.trod_int Try.underlying3 g0
        obtain ⟨n1, hv1, _, hwf⟩ := DataW.trod_int Try.underlying3 g1
        obtain ⟨ba, bc, bb, l, hv2, b1, b2, b3⟩ := bytes_open3 g2 (fun k hk => by
          refine hwi k ?_
          rw [hxy.1]
          simp only [DataW.weights, Try.underlying41]
          simp [DataW.weightsEach, hk])
        simp only [List.cons.injEq, and_true] at hv0 hv1 hv2
        subst hv0 hv1 hv2
        obtain ⟨b, off, sp⟩ := a
        simp only at hspot
        subst hspot
        rw [Addr.add_lit] at e0 e1 e2
        have e0' : W.cell? ⟨b, off + i * 3, none⟩ = some (.int .i64 n0) := by simpa using e0
        have e1' : W.cell? ⟨b, off + (i * 3 + 1), none⟩ = some (.int .i64 n1) := by simpa using e1
        have e2' : W.cell? ⟨b, off + (i * 3 + 2), none⟩ = some (.slice ba l.length bc) := by simpa using e2
        refine ⟨⟨n0, n1, ba, bc, bb, l⟩, off, rfl, e0', ?_, ?_, b1, b2, b3, i64_wf hwf⟩
        · rw [show off + i * 3 + 1 = off + (i * 3 + 1) by omega]; exact e1'
        · rw [show off + i * 3 + 2 = off + (i * 3 + 2) by omega]; exact e2'
    · obtain ⟨_, o, ha, _⟩ := each 0 (by omega)
      have each2 : ∀ i, i < len0 → ∃ t : ActI, OneAct W a.block (o + i * 3) t := fun i hi => by
        obtain ⟨t, o', ha', ht⟩ := each i hi
        have : o' = o := by rw [ha'] at ha; simpa using ha
        subst this
        exact ⟨t, ht⟩
      obtain ⟨T, hT⟩ := choose_lt (⟨0, 0, none, 0, 0, []⟩ : ActI) each2
      refine ⟨(List.range len0).map T, by simp, .inr ⟨a.block, o, by rw [← ha], block_lt_of_cell (a := ⟨a.block, o + 0 * 3, none⟩) (hT 0 (by omega)).c0, fun i t ht => ?_⟩⟩
      have hi : i < len0 := by have := (List.getElem?_eq_some_iff.1 ht).1; simpa using this
      have : t = T i := by
        rw [List.getElem?_map, List.getElem?_range hi] at ht
        simpa using ht.symm
      rw [this]
      exact hT i hi
end Go.Proofs.Ytanbbmlekebhhaa

/- 'both': each call on the device and on the document's own. -/
set_option linter.unusedVariables false
set_option linter.unusedSimpArgs false
set_option maxRecDepth 30000
namespace Go.Proofs.Ytanbbmlekebhhaa
open Go.RowKit Go.Deep

/-- What a call of the list does to a device. -/
def Dv.act (S : Dv) (t : ActI) : Dv :=
  if t.op = 0 then S.writeDo t.page ⟨t.l.toArray⟩ else if t.op = 1 then S.putDo t.page .blank else if t.op = 2 then S.flushDo else if t.op = 3 then S.arm t.page else if t.op = 4 then S.crash t.l else S.on
/-- Are the answers alike? -/
def bothOk (S T : Dv) (t : ActI) : Bool :=
  if t.op = 0 then S.writeErr t.page ⟨t.l.toArray⟩ == T.writeErr t.page ⟨t.l.toArray⟩ else if t.op = 1 then S.putErr t.page == T.putErr t.page else if t.op = 2 then S.flushErr == T.flushErr else true
theorem bothOk_same (S : Dv) (t : ActI) : bothOk S S t = true := by unfold bothOk; split <;> (try split) <;> (try split) <;> simp

/-- On the way: both devices, and the call's own box. -/
structure Mid (w W : World) (N : Nat) (box : List Value) (d r : Nat) (F G F' G' : List Nat) (S T : Dv) : Prop where
  pair : Pair W d r F' G' S T
  blk : Blk W N box 41
  nf : N ∉ F'
  ng : N ∉ G'
  mv : Moves (F ++ G) (F' ++ G') w W

theorem Mid.dev {w W W' : World} {N : Nat} {box : List Value} {d r : Nat} {F G F' G' F2 : List Nat} {S T S' : Dv} (h : Mid w W N box d r F G F' G' S T) (hd : DvAt W' d F2 S') (m : Moves F' F2 W W') : Mid w W' N box d r F G F2 G' S' T :=
  ⟨h.pair.step1 hd m, h.blk.same (m.keep.block N h.blk.lt h.nf), fun hk => by rcases m.foot N hk with h1 | h1; exact h.nf h1; exact absurd h.blk.lt (by omega), h.ng, h.mv.trans m.left⟩
theorem Mid.ref {w W W' : World} {N : Nat} {box : List Value} {d r : Nat} {F G F' G' G2 : List Nat} {S T T' : Dv} (h : Mid w W N box d r F G F' G' S T) (hd : RfAt W' r G2 T') (m : Moves G' G2 W W') : Mid w W' N box d r F G F' G2 S T' :=
  ⟨h.pair.step2 hd m, h.blk.same (m.keep.block N h.blk.lt h.ng), h.nf, fun hk => by rcases m.foot N hk with h1 | h1; exact h.ng h1; exact absurd h.blk.lt (by omega), h.mv.trans m.right⟩
theorem Mid.below {w W W' : World} {N : Nat} {box : List Value} {d r : Nat} {F G F' G' : List Nat} {S T : Dv} (h : Mid w W N box d r F G F' G' S T) (b : Below W.heap.size W W') : Mid w W' N box d r F G F' G' S T :=
  ⟨h.pair.below b, h.blk.same (b.block N h.blk.lt), h.nf, h.ng, h.mv.trans (Moves.of_keep (Keep.of_below b))⟩
theorem Mid.start {w : World} {d r : Nat} {F G : List Nat} {S T : Dv} (h : Pair w d r F G S T) (box : List Value) : Mid w (w.alloc (.cells box.toArray 41)) w.heap.size box d r F G F G S T :=
  ⟨h.below ((Below.refl _ _).alloc (Nat.le_refl _) _), Blk.new w _ 41, not_old h.dev, fun hf => by have := h.ref.lt _ hf; omega, Moves.of_keep ((Keep.refl _ _).alloc _)⟩
theorem Mid.bytes {w W : World} {N : Nat} {box : List Value} {d r : Nat} {F G F' G' : List Nat} {S T : Dv} (h : Mid w W N box d r F G F' G' S T) {a : Option Addr} {l : List UInt8} {bb : Nat} (hb : BSlice w a l bb) (hF : l ≠ [] → bb ∉ F) (hG : l ≠ [] → bb ∉ G) : BSlice W a l bb ∧ (l ≠ [] → bb ∉ F') ∧ (l ≠ [] → bb ∉ G') := by
  have lt : l ≠ [] → bb < w.heap.size := fun h => by rcases hb with h0 | ⟨h0, _⟩; exact absurd h0 h; exact h0
  have no : l ≠ [] → bb ∉ F' ++ G' := fun hl hk => by
    rcases h.mv.foot bb hk with h1 | h1
    · rcases List.mem_append.1 h1 with h2 | h2
      · exact hF hl h2
      · exact hG hl h2
    · exact absurd (lt hl) (by omega)
  exact ⟨hb.same h.mv.keep.size (fun h1 h2 => h.mv.keep.block bb h1 (fun hk => by rcases List.mem_append.1 hk with h3 | h3; exact hF h2 h3; exact hG h2 h3)), fun hl hk => no hl (by simp [hk]), fun hl hk => no hl (by simp [hk])⟩

/-- The device's call, wherever the two stand. -/
def CallD (w : World) (N : Nat) (box : List Value) (d r : Nat) (F G : List Nat) (S S' T : Dv) (f : Nat) (args : Array Value) (v : Value) : Prop :=
  ∀ W, Mid w W N box d r F G F G S T → Calls Try.prog f args W fun e W' => e = .returned v ∧ ∃ F', Mid w W' N box d r F G F' G S' T
def CallR (w : World) (N : Nat) (box : List Value) (d r : Nat) (F G : List Nat) (S T T' : Dv) (f : Nat) (args : Array Value) (v : Value) : Prop :=
  ∀ W F', Mid w W N box d r F G F' G S T → Calls Try.prog f args W fun e W' => e = .returned v ∧ ∃ G', Mid w W' N box d r F G F' G' S T'

set_option maxHeartbeats 1000000 in
theorem both_erase (d r : Nat) (F G : List Nat) (S T : Dv) (page : Int) (sl : Value) (hsl : ∃ a n c, sl = .slice a n c) (w : World) (hP : Pair w d r F G S T) :
    Calls Try.prog 14 #[.pointer (some ⟨d, 0, none⟩), .pointer (some ⟨r, 0, none⟩), .agg #[.int .i64 1, .int .i64 page, sl]] w fun e w' =>
      e = .returned (.bool (S.putErr page == T.putErr page)) ∧ ∃ F' G', Pair w' d r F' G' (S.putDo page .blank) (T.putDo page .blank) ∧ Moves (F ++ G) (F' ++ G') w w' := by
  obtain ⟨a, n, c, rfl⟩ := hsl
  have M0 := hide (Mid.start hP [.int .i64 1, .int .i64 page, .slice a n c])
  have cD : Hid (CallD w w.heap.size [.int .i64 1, .int .i64 page, .slice a n c] d r F G S (S.putDo page .blank) T 25 #[.pointer (some ⟨d, 0, none⟩), .int .i64 page] (.int .i64 (S.putErr page))) := fun W m =>
    (erase_at d F S page W m.pair.dev).mono (by rintro e W' ⟨rfl, F', h1, m1⟩; exact ⟨rfl, F', m.dev h1 m1⟩)
  have cR : Hid (CallR w w.heap.size [.int .i64 1, .int .i64 page, .slice a n c] d r F G (S.putDo page .blank) T (T.putDo page .blank) 37 #[.pointer (some ⟨r, 0, none⟩), .int .i64 page] (.int .i64 (T.putErr page))) := fun W F' m =>
    (rerase_at r G T page W m.pair.ref).mono (by rintro e W' ⟨rfl, h1, k1⟩; exact ⟨rfl, G, m.ref h1 (Moves.of_keep k1)⟩)
  obtain ⟨ea, hea⟩ : ∃ ea, ea = S.putErr page := ⟨_, rfl⟩
  obtain ⟨eb, heb⟩ : ∃ eb, eb = T.putErr page := ⟨_, rfl⟩
  rw [← hea] at cD
  rw [← heb] at cR
  rw [← hea, ← heb]
  clear hea heb hP
  go_enter Try.func14, Try.ntmps14
  go_wp2_with fail
  have x1 := M0.out.blk.cell (i := 1) rfl
  go_region_with (first
    | (go_at_call 25; refine (cD.out _ (M0.out.below (Below.refl _ _).drew)).mono ?_; rintro e w1 ⟨rfl, F', m1⟩; have M1 := hide m1; have y1 := m1.blk.cell (i := 1) rfl; clear m1)
    | (go_at_call 37; refine (cR.out _ _ M1.out).mono ?_; rintro e w2 ⟨rfl, G', m2⟩; have M2 := hide m2; have z1 := m2.blk.cell (i := 1) rfl; clear m2))
  all_goals go_wp2
  all_goals (go_ret; exact ⟨rfl, _, _, M2.out.pair, M2.out.mv⟩)

set_option maxHeartbeats 1000000 in
theorem both_flush (d r : Nat) (F G : List Nat) (S T : Dv) (page : Int) (sl : Value) (hsl : ∃ a n c, sl = .slice a n c) (w : World) (hP : Pair w d r F G S T) :
    Calls Try.prog 14 #[.pointer (some ⟨d, 0, none⟩), .pointer (some ⟨r, 0, none⟩), .agg #[.int .i64 2, .int .i64 page, sl]] w fun e w' =>
      e = .returned (.bool (S.flushErr == T.flushErr)) ∧ ∃ F' G', Pair w' d r F' G' S.flushDo T.flushDo ∧ Moves (F ++ G) (F' ++ G') w w' := by
  obtain ⟨a, n, c, rfl⟩ := hsl
  have M0 := hide (Mid.start hP [.int .i64 2, .int .i64 page, .slice a n c])
  have cD : Hid (CallD w w.heap.size [.int .i64 2, .int .i64 page, .slice a n c] d r F G S S.flushDo T 38 #[.pointer (some ⟨d, 0, none⟩)] (.int .i64 S.flushErr)) := fun W m =>
    (flush_at d F S W m.pair.dev).mono (by rintro e W' ⟨rfl, F', h1, m1⟩; exact ⟨rfl, F', m.dev h1 m1⟩)
  have cR : Hid (CallR w w.heap.size [.int .i64 2, .int .i64 page, .slice a n c] d r F G S.flushDo T T.flushDo 39 #[.pointer (some ⟨r, 0, none⟩)] (.int .i64 T.flushErr)) := fun W F' m =>
    (rflush_at r G T W m.pair.ref).mono (by rintro e W' ⟨rfl, G', h1, m1⟩; exact ⟨rfl, G', m.ref h1 m1⟩)
  obtain ⟨ea, hea⟩ : ∃ ea, ea = S.flushErr := ⟨_, rfl⟩
  obtain ⟨eb, heb⟩ : ∃ eb, eb = T.flushErr := ⟨_, rfl⟩
  rw [← hea] at cD
  rw [← heb] at cR
  rw [← hea, ← heb]
  clear hea heb hP
  go_enter Try.func14, Try.ntmps14
  go_wp2_with fail
  refine (cD.out _ M0.out).mono ?_
  rintro e w1 ⟨rfl, F', m1⟩
  have M1 := hide m1
  clear m1
  go_wp2_with fail
  refine (cR.out _ _ M1.out).mono ?_
  rintro e w2 ⟨rfl, G', m2⟩
  have M2 := hide m2
  clear m2
  go_wp2
  go_ret
  exact ⟨rfl, _, _, M2.out.pair, M2.out.mv⟩

set_option maxHeartbeats 1000000 in
theorem both_arm (d r : Nat) (F G : List Nat) (S T : Dv) (page : Int) (hpg : page ≤ 9223372036854775807) (sl : Value) (hsl : ∃ a n c, sl = .slice a n c) (w : World) (hP : Pair w d r F G S T) :
    Calls Try.prog 14 #[.pointer (some ⟨d, 0, none⟩), .pointer (some ⟨r, 0, none⟩), .agg #[.int .i64 3, .int .i64 page, sl]] w fun e w' =>
      e = .returned (.bool true) ∧ ∃ F' G', Pair w' d r F' G' (S.arm page) (T.arm page) ∧ Moves (F ++ G) (F' ++ G') w w' := by
  obtain ⟨a, n, c, rfl⟩ := hsl
  have M0 := hide (Mid.start hP [.int .i64 3, .int .i64 page, .slice a n c])
  have cD : Hid (CallD w w.heap.size [.int .i64 3, .int .i64 page, .slice a n c] d r F G S (S.arm page) T 21 #[.pointer (some ⟨d, 0, none⟩), .int .i64 page] (.tuple #[])) := fun W m =>
    (arm_at d F S W m.pair.dev page hpg).mono (by rintro e W' ⟨rfl, h1, k1⟩; exact ⟨rfl, F, m.dev h1 (Moves.of_keep k1)⟩)
  have cR : Hid (CallR w w.heap.size [.int .i64 3, .int .i64 page, .slice a n c] d r F G (S.arm page) T (T.arm page) 40 #[.pointer (some ⟨r, 0, none⟩), .int .i64 page] (.tuple #[])) := fun W F' m => by
    obtain ⟨L, rfl, h⟩ := m.pair.ref
    exact (rarm_any r L T W h page hpg).mono (by rintro e W' ⟨rfl, h1, k1⟩; exact ⟨rfl, _, m.ref ⟨L, rfl, h1⟩ (Moves.of_keep k1.to_rfoot)⟩)
  clear hP hpg
  have x1 := M0.out.blk.cell (i := 1) rfl
  go_enter Try.func14, Try.ntmps14
  go_wp2_with fail
  refine (cD.out _ M0.out).mono ?_
  rintro e w1 ⟨rfl, F', m1⟩
  have M1 := hide m1
  have y1 := m1.blk.cell (i := 1) rfl
  have ylt := m1.blk.lt
  clear m1
  go_wp2_with fail
  refine (cR.out _ _ M1.out).mono ?_
  rintro e w2 ⟨rfl, G', m2⟩
  have M2 := hide m2
  clear m2
  go_wp2
  go_ret
  exact ⟨rfl, _, _, M2.out.pair, M2.out.mv⟩

set_option maxHeartbeats 1000000 in
theorem both_crash (d r : Nat) (F G : List Nat) (S T : Dv) (page : Int) (a : Option Addr) (n cap bb : Nat) (l : List UInt8) (hn : n = l.length) (hl : n ≤ 140737488355328) (w : World) (hP : Pair w d r F G S T)
    (hbs : BSlice w a l bb) (hnil : a = none → l = []) (hbF : l ≠ [] → bb ∉ F) (hbG : l ≠ [] → bb ∉ G) :
    Calls Try.prog 14 #[.pointer (some ⟨d, 0, none⟩), .pointer (some ⟨r, 0, none⟩), .agg #[.int .i64 4, .int .i64 page, .slice a n cap]] w fun e w' =>
      e = .returned (.bool true) ∧ ∃ F' G', Pair w' d r F' G' (S.crash l) (T.crash l) ∧ Moves (F ++ G) (F' ++ G') w w' := by
  have m0 := Mid.start hP [.int .i64 4, .int .i64 page, .slice a n cap]
  obtain ⟨W0, hW0⟩ : ∃ W0, W0 = w.alloc (.cells #[.int .i64 4, .int .i64 page, .slice a n cap] 41) := ⟨_, rfl⟩
  have hs0 : W0.heap.size = w.heap.size + 1 := by rw [hW0]; exact nblk_alloc _ _
  have m0' : Mid w W0 w.heap.size [.int .i64 4, .int .i64 page, .slice a n cap] d r F G F G S T := by rw [hW0]; exact m0
  have hb0 := m0'.bytes hbs hbF hbG
  obtain ⟨g, cap', WA, pad, hrA, hgA, hbA, hBA⟩ := append_bytes W0 a l bb cap hb0.1 hnil (by omega)
  rw [← hn] at hrA
  have mA := m0'.below hBA
  have gF : g ∉ F := fun hf => by have := hP.dev.lt g hf; omega
  have cD : Calls Try.prog 22 #[.pointer (some ⟨d, 0, none⟩), .slice (some ⟨g, 0, none⟩) n cap'] WA fun e W' => e = .returned (.tuple #[]) ∧ ∃ F', Mid w W' w.heap.size [.int .i64 4, .int .i64 page, .slice a n cap] d r F G F' G (S.crash l) T :=
    (crash_at d F S (some ⟨g, 0, none⟩) n cap' g l hn (by omega) WA (blk_slice (cap := cap') hbA) (fun _ => gF) mA.pair.dev).mono (by rintro e W' ⟨rfl, F', h1, m1⟩; exact ⟨rfl, F', mA.dev h1 m1⟩)
  have cR : Hid (CallR w w.heap.size [.int .i64 4, .int .i64 page, .slice a n cap] d r F G (S.crash l) T (T.crash l) 41 #[.pointer (some ⟨r, 0, none⟩), .slice a n cap] (.tuple #[])) := fun W F' m => by
    obtain ⟨b1, b2, b3⟩ := m.bytes hbs hbF hbG
    exact (rcrash_at r G T a n cap bb l hn (by omega) W b1 b3 m.pair.ref).mono (by rintro e W' ⟨rfl, G', h1, m1⟩; exact ⟨rfl, G', m.ref h1 m1⟩)
  have CD := hide cD
  rw [hs0, hW0] at hrA
  have HRA := hide hrA
  have HW0 := hide hW0
  have x2 := m0.blk.cell (i := 2) rfl
  have HS0 := hide hs0
  clear cD hrA hW0 m0 m0' hb0 mA hgA hbA hBA hbs hbF hbG hnil hP gF hn hl hs0
  go_enter Try.func14, Try.ntmps14
  go_wp2_with (at_builtin; refine Lib.wpList_append_run _ rfl _ _ _ _ rfl _ _ rfl rfl _ _ HRA.out ?_)
  refine CD.out.mono ?_
  rintro e w1 ⟨rfl, F', m1⟩
  have M1 := hide m1
  have y2 := m1.blk.cell (i := 2) rfl
  have ylt := m1.blk.lt
  clear m1
  go_wp2_with fail
  refine (cR.out _ _ M1.out).mono ?_
  rintro e w2 ⟨rfl, G', m2⟩
  have M2 := hide m2
  clear m2
  go_wp2
  go_ret
  exact ⟨rfl, _, _, M2.out.pair, M2.out.mv⟩

set_option maxHeartbeats 1000000 in
theorem both_on (d r : Nat) (F G : List Nat) (S T : Dv) (op page : Int) (h0 : op ≠ 0) (h1 : op ≠ 1) (h2 : op ≠ 2) (h3 : op ≠ 3) (h4 : op ≠ 4) (sl : Value) (hsl : ∃ a n c, sl = .slice a n c) (w : World) (hP : Pair w d r F G S T) :
    Calls Try.prog 14 #[.pointer (some ⟨d, 0, none⟩), .pointer (some ⟨r, 0, none⟩), .agg #[.int .i64 op, .int .i64 page, sl]] w fun e w' =>
      e = .returned (.bool true) ∧ ∃ F' G', Pair w' d r F' G' S.on T.on ∧ Moves (F ++ G) (F' ++ G') w w' := by
  obtain ⟨a, n, c, rfl⟩ := hsl
  have M0 := hide (Mid.start hP [.int .i64 op, .int .i64 page, .slice a n c])
  have cD : Hid (CallD w w.heap.size [.int .i64 op, .int .i64 page, .slice a n c] d r F G S S.on T 23 #[.pointer (some ⟨d, 0, none⟩)] (.tuple #[])) := fun W m =>
    (on_at d F S W m.pair.dev).mono (by rintro e W' ⟨rfl, F', h1, m1⟩; exact ⟨rfl, F', m.dev h1 m1⟩)
  have cR : Hid (CallR w w.heap.size [.int .i64 op, .int .i64 page, .slice a n c] d r F G S.on T T.on 42 #[.pointer (some ⟨r, 0, none⟩)] (.tuple #[])) := fun W F' m =>
    (ron_at r G T W m.pair.ref).mono (by rintro e W' ⟨rfl, G', h1, m1⟩; exact ⟨rfl, G', m.ref h1 m1⟩)
  clear hP
  go_enter Try.func14, Try.ntmps14
  go_wp2_with fail
  refine (cD.out _ M0.out).mono ?_
  rintro e w1 ⟨rfl, F', m1⟩
  have M1 := hide m1
  clear m1
  go_wp2_with fail
  refine (cR.out _ _ M1.out).mono ?_
  rintro e w2 ⟨rfl, G', m2⟩
  have M2 := hide m2
  clear m2
  go_wp2
  go_ret
  exact ⟨rfl, _, _, M2.out.pair, M2.out.mv⟩

theorem both_any (d r : Nat) (F G : List Nat) (S T : Dv) (t : ActI) (w : World) (hP : Pair w d r F G S T) (hbs : BSlice w t.a t.l t.bb) (hnil : t.a = none → t.l = []) (hs : t.l.length ≤ 140737488351232) (hpg : t.page ≤ 9223372036854775807)
    (hbF : t.l ≠ [] → t.bb ∉ F) (hbG : t.l ≠ [] → t.bb ∉ G) :
    Calls Try.prog 14 #[.pointer (some ⟨d, 0, none⟩), .pointer (some ⟨r, 0, none⟩), .agg #[.int .i64 t.op, .int .i64 t.page, .slice t.a t.l.length t.cap]] w fun e w' =>
      e = .returned (.bool (bothOk S T t)) ∧ ∃ F' G', Pair w' d r F' G' (S.act t) (T.act t) ∧ Moves (F ++ G) (F' ++ G') w w' := by
  unfold bothOk Dv.act
  by_cases h0 : t.op = 0
  · rw [if_pos h0, if_pos h0, if_pos h0, h0]
    refine (both_write d r F G S T t.page t.a t.l.length t.cap t.bb t.l rfl (by omega) w hP hbs hnil hbF hbG).mono ?_
    rintro e w' ⟨rfl, F', h1, m1⟩
    exact ⟨rfl, F', G, h1, m1⟩
  rw [if_neg h0, if_neg h0, if_neg h0]
  by_cases h1 : t.op = 1
  · rw [if_pos h1, if_pos h1, if_pos h1, h1]
    exact both_erase d r F G S T t.page _ ⟨_, _, _, rfl⟩ w hP
  rw [if_neg h1, if_neg h1, if_neg h1]
  by_cases h2 : t.op = 2
  · rw [if_pos h2, if_pos h2, if_pos h2, h2]
    exact both_flush d r F G S T t.page _ ⟨_, _, _, rfl⟩ w hP
  rw [if_neg h2, if_neg h2, if_neg h2]
  by_cases h3 : t.op = 3
  · rw [if_pos h3, if_pos h3, h3]
    exact both_arm d r F G S T t.page hpg _ ⟨_, _, _, rfl⟩ w hP
  rw [if_neg h3, if_neg h3]
  by_cases h4 : t.op = 4
  · rw [if_pos h4, if_pos h4, h4]
    exact both_crash d r F G S T t.page t.a t.l.length t.cap t.bb t.l rfl (by omega) w hP hbs hnil hbF hbG
  rw [if_neg h4, if_neg h4]
  exact both_on d r F G S T t.op t.page h0 h1 h2 h3 h4 _ ⟨_, _, _, rfl⟩ w hP
end Go.Proofs.Ytanbbmlekebhhaa
