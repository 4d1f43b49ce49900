/- Texts joined: Both, Alike. -/
import Derived.Test.YtbccnfbombgdmaaGreatJ26
import Derived.Test.YtbccnfbombgdmaaGreatJ28
import Derived.Deep.RegionWith
import Derived.Test.YtbccnfbombgdmaaGreatJ27
/- 'both': each call on the device and on the document's own. -/
set_option linter.unusedVariables false
set_option linter.unusedSimpArgs false
set_option maxRecDepth 30000
namespace Go.Proofs.YtbccnfbombgdmaaGreat
open Go.RowKit Go.Deep

/-- What a call of the list does to a device. -/
def Dv.act (S : Dv) (t : ActI) : Dv :=
  if t.op = 0 then S.writeDo t.page ⟨t.l.toArray⟩ else if t.op = 1 then S.putDo t.page .blank else if t.op = 2 then S.flushDo else if t.op = 3 then S.arm t.page else if t.op = 4 then S.crash t.l else S.on
/-- Are the answers alike? -/
def bothOk (S T : Dv) (t : ActI) : Bool :=
  if t.op = 0 then S.writeErr t.page ⟨t.l.toArray⟩ == T.writeErr t.page ⟨t.l.toArray⟩ else if t.op = 1 then S.putErr t.page == T.putErr t.page else if t.op = 2 then S.flushErr == T.flushErr else true
theorem bothOk_same (S : Dv) (t : ActI) : bothOk S S t = true := by unfold bothOk; split <;> (try split) <;> (try split) <;> simp

/-- On the way: both devices, and the call's own box. -/
structure Mid (w W : World) (N : Nat) (box : List Value) (d r : Nat) (F G F' G' : List Nat) (S T : Dv) : Prop where
  pair : Pair W d r F' G' S T
  blk : Blk W N box 42
  nf : N ∉ F'
  ng : N ∉ G'
  mv : Moves (F ++ G) (F' ++ G') w W

theorem Mid.dev {w W W' : World} {N : Nat} {box : List Value} {d r : Nat} {F G F' G' F2 : List Nat} {S T S' : Dv} (h : Mid w W N box d r F G F' G' S T) (hd : DvAt W' d F2 S') (m : Moves F' F2 W W') : Mid w W' N box d r F G F2 G' S' T :=
  ⟨h.pair.step1 hd m, h.blk.same (m.keep.block N h.blk.lt h.nf), fun hk => by rcases m.foot N hk with h1 | h1; exact h.nf h1; exact absurd h.blk.lt (by omega), h.ng, h.mv.trans m.left⟩
theorem Mid.ref {w W W' : World} {N : Nat} {box : List Value} {d r : Nat} {F G F' G' G2 : List Nat} {S T T' : Dv} (h : Mid w W N box d r F G F' G' S T) (hd : RfAt W' r G2 T') (m : Moves G' G2 W W') : Mid w W' N box d r F G F' G2 S T' :=
  ⟨h.pair.step2 hd m, h.blk.same (m.keep.block N h.blk.lt h.ng), h.nf, fun hk => by rcases m.foot N hk with h1 | h1; exact h.ng h1; exact absurd h.blk.lt (by omega), h.mv.trans m.right⟩
theorem Mid.below {w W W' : World} {N : Nat} {box : List Value} {d r : Nat} {F G F' G' : List Nat} {S T : Dv} (h : Mid w W N box d r F G F' G' S T) (b : Below W.heap.size W W') : Mid w W' N box d r F G F' G' S T :=
  ⟨h.pair.below b, h.blk.same (b.block N h.blk.lt), h.nf, h.ng, h.mv.trans (Moves.of_keep (Keep.of_below b))⟩
theorem Mid.start {w : World} {d r : Nat} {F G : List Nat} {S T : Dv} (h : Pair w d r F G S T) (box : List Value) : Mid w (w.alloc (.cells box.toArray 42)) w.heap.size box d r F G F G S T :=
  ⟨h.below ((Below.refl _ _).alloc (Nat.le_refl _) _), Blk.new w _ 42, not_old h.dev, fun hf => by have := h.ref.lt _ hf; omega, Moves.of_keep ((Keep.refl _ _).alloc _)⟩
theorem Mid.bytes {w W : World} {N : Nat} {box : List Value} {d r : Nat} {F G F' G' : List Nat} {S T : Dv} (h : Mid w W N box d r F G F' G' S T) {a : Option Addr} {l : List UInt8} {bb : Nat} (hb : BSlice w a l bb) (hF : l ≠ [] → bb ∉ F) (hG : l ≠ [] → bb ∉ G) : BSlice W a l bb ∧ (l ≠ [] → bb ∉ F') ∧ (l ≠ [] → bb ∉ G') := by
  have lt : l ≠ [] → bb < w.heap.size := fun h => by rcases hb with h0 | ⟨h0, _⟩; exact absurd h0 h; exact h0
  have no : l ≠ [] → bb ∉ F' ++ G' := fun hl hk => by
    rcases h.mv.foot bb hk with h1 | h1
    · rcases List.mem_append.1 h1 with h2 | h2
      · exact hF hl h2
      · exact hG hl h2
    · exact absurd (lt hl) (by omega)
  exact ⟨hb.same h.mv.keep.size (fun h1 h2 => h.mv.keep.block bb h1 (fun hk => by rcases List.mem_append.1 hk with h3 | h3; exact hF h2 h3; exact hG h2 h3)), fun hl hk => no hl (by simp [hk]), fun hl hk => no hl (by simp [hk])⟩

/-- The device's call, wherever the two stand. -/
def CallD (w : World) (N : Nat) (box : List Value) (d r : Nat) (F G : List Nat) (S S' T : Dv) (f : Nat) (args : Array Value) (v : Value) : Prop :=
  ∀ W, Mid w W N box d r F G F G S T → Calls Tryz.prog f args W fun e W' => e = .returned v ∧ ∃ F', Mid w W' N box d r F G F' G S' T
def CallR (w : World) (N : Nat) (box : List Value) (d r : Nat) (F G : List Nat) (S T T' : Dv) (f : Nat) (args : Array Value) (v : Value) : Prop :=
  ∀ W F', Mid w W N box d r F G F' G S T → Calls Tryz.prog f args W fun e W' => e = .returned v ∧ ∃ G', Mid w W' N box d r F G F' G' S T'

set_option maxHeartbeats 1000000 in
theorem both_erase (d r : Nat) (F G : List Nat) (S T : Dv) (page : Int) (sl : Value) (hsl : ∃ a n c, sl = .slice a n c) (w : World) (hP : Pair w d r F G S T) :
    Calls Tryz.prog 18 #[.pointer (some ⟨d, 0, none⟩), .pointer (some ⟨r, 0, none⟩), .agg #[.int .i64 1, .int .i64 page, sl]] w fun e w' =>
      e = .returned (.bool (S.putErr page == T.putErr page)) ∧ ∃ F' G', Pair w' d r F' G' (S.putDo page .blank) (T.putDo page .blank) ∧ Moves (F ++ G) (F' ++ G') w w' := by
  obtain ⟨a, n, c, rfl⟩ := hsl
  have M0 := hide (Mid.start hP [.int .i64 1, .int .i64 page, .slice a n c])
  have cD : Hid (CallD w w.heap.size [.int .i64 1, .int .i64 page, .slice a n c] d r F G S (S.putDo page .blank) T 47 #[.pointer (some ⟨d, 0, none⟩), .int .i64 page] (.int .i64 (S.putErr page))) := fun W m =>
    (erase_at d F S page W m.pair.dev).mono (by rintro e W' ⟨rfl, F', h1, m1⟩; exact ⟨rfl, F', m.dev h1 m1⟩)
  have cR : Hid (CallR w w.heap.size [.int .i64 1, .int .i64 page, .slice a n c] d r F G (S.putDo page .blank) T (T.putDo page .blank) 48 #[.pointer (some ⟨r, 0, none⟩), .int .i64 page] (.int .i64 (T.putErr page))) := fun W F' m =>
    (rerase_at r G T page W m.pair.ref).mono (by rintro e W' ⟨rfl, h1, k1⟩; exact ⟨rfl, G, m.ref h1 (Moves.of_keep k1)⟩)
  obtain ⟨ea, hea⟩ : ∃ ea, ea = S.putErr page := ⟨_, rfl⟩
  obtain ⟨eb, heb⟩ : ∃ eb, eb = T.putErr page := ⟨_, rfl⟩
  rw [← hea] at cD
  rw [← heb] at cR
  rw [← hea, ← heb]
  clear hea heb hP
  go_enter Tryz.func18, Tryz.ntmps18
  go_wp2_with fail
  have x1 := M0.out.blk.cell (i := 1) rfl
  go_region_with (first
    | (go_at_call 47; refine (cD.out _ (M0.out.below (Below.refl _ _).drew)).mono ?_; rintro e w1 ⟨rfl, F', m1⟩; have M1 := hide m1; have y1 := m1.blk.cell (i := 1) rfl; clear m1)
    | (go_at_call 48; refine (cR.out _ _ M1.out).mono ?_; rintro e w2 ⟨rfl, G', m2⟩; have M2 := hide m2; have z1 := m2.blk.cell (i := 1) rfl; clear m2))
  all_goals go_wp2
  all_goals (go_ret; exact ⟨rfl, _, _, M2.out.pair, M2.out.mv⟩)

set_option maxHeartbeats 1000000 in
theorem both_flush (d r : Nat) (F G : List Nat) (S T : Dv) (page : Int) (sl : Value) (hsl : ∃ a n c, sl = .slice a n c) (w : World) (hP : Pair w d r F G S T) :
    Calls Tryz.prog 18 #[.pointer (some ⟨d, 0, none⟩), .pointer (some ⟨r, 0, none⟩), .agg #[.int .i64 2, .int .i64 page, sl]] w fun e w' =>
      e = .returned (.bool (S.flushErr == T.flushErr)) ∧ ∃ F' G', Pair w' d r F' G' S.flushDo T.flushDo ∧ Moves (F ++ G) (F' ++ G') w w' := by
  obtain ⟨a, n, c, rfl⟩ := hsl
  have M0 := hide (Mid.start hP [.int .i64 2, .int .i64 page, .slice a n c])
  have cD : Hid (CallD w w.heap.size [.int .i64 2, .int .i64 page, .slice a n c] d r F G S S.flushDo T 49 #[.pointer (some ⟨d, 0, none⟩)] (.int .i64 S.flushErr)) := fun W m =>
    (flush_at d F S W m.pair.dev).mono (by rintro e W' ⟨rfl, F', h1, m1⟩; exact ⟨rfl, F', m.dev h1 m1⟩)
  have cR : Hid (CallR w w.heap.size [.int .i64 2, .int .i64 page, .slice a n c] d r F G S.flushDo T T.flushDo 50 #[.pointer (some ⟨r, 0, none⟩)] (.int .i64 T.flushErr)) := fun W F' m =>
    (rflush_at r G T W m.pair.ref).mono (by rintro e W' ⟨rfl, G', h1, m1⟩; exact ⟨rfl, G', m.ref h1 m1⟩)
  obtain ⟨ea, hea⟩ : ∃ ea, ea = S.flushErr := ⟨_, rfl⟩
  obtain ⟨eb, heb⟩ : ∃ eb, eb = T.flushErr := ⟨_, rfl⟩
  rw [← hea] at cD
  rw [← heb] at cR
  rw [← hea, ← heb]
  clear hea heb hP
  go_enter Tryz.func18, Tryz.ntmps18
  go_wp2_with fail
  refine (cD.out _ M0.out).mono ?_
  rintro e w1 ⟨rfl, F', m1⟩
  have M1 := hide m1
  clear m1
  go_wp2_with fail
  refine (cR.out _ _ M1.out).mono ?_
  rintro e w2 ⟨rfl, G', m2⟩
  have M2 := hide m2
  clear m2
  go_wp2
  go_ret
  exact ⟨rfl, _, _, M2.out.pair, M2.out.mv⟩

set_option maxHeartbeats 1000000 in
theorem both_arm (d r : Nat) (F G : List Nat) (S T : Dv) (page : Int) (hpg : page ≤ 9223372036854775807) (sl : Value) (hsl : ∃ a n c, sl = .slice a n c) (w : World) (hP : Pair w d r F G S T) :
    Calls Tryz.prog 18 #[.pointer (some ⟨d, 0, none⟩), .pointer (some ⟨r, 0, none⟩), .agg #[.int .i64 3, .int .i64 page, sl]] w fun e w' =>
      e = .returned (.bool true) ∧ ∃ F' G', Pair w' d r F' G' (S.arm page) (T.arm page) ∧ Moves (F ++ G) (F' ++ G') w w' := by
  obtain ⟨a, n, c, rfl⟩ := hsl
  have M0 := hide (Mid.start hP [.int .i64 3, .int .i64 page, .slice a n c])
  have cD : Hid (CallD w w.heap.size [.int .i64 3, .int .i64 page, .slice a n c] d r F G S (S.arm page) T 51 #[.pointer (some ⟨d, 0, none⟩), .int .i64 page] (.tuple #[])) := fun W m =>
    (arm_at d F S W m.pair.dev page hpg).mono (by rintro e W' ⟨rfl, h1, k1⟩; exact ⟨rfl, F, m.dev h1 (Moves.of_keep k1)⟩)
  have cR : Hid (CallR w w.heap.size [.int .i64 3, .int .i64 page, .slice a n c] d r F G (S.arm page) T (T.arm page) 52 #[.pointer (some ⟨r, 0, none⟩), .int .i64 page] (.tuple #[])) := fun W F' m => by
    obtain ⟨L, rfl, h⟩ := m.pair.ref
    exact (rarm_any r L T W h page hpg).mono (by rintro e W' ⟨rfl, h1, k1⟩; exact ⟨rfl, _, m.ref ⟨L, rfl, h1⟩ (Moves.of_keep k1.to_rfoot)⟩)
  clear hP hpg
  have x1 := M0.out.blk.cell (i := 1) rfl
  go_enter Tryz.func18, Tryz.ntmps18
  go_wp2_with fail
  refine (cD.out _ M0.out).mono ?_
  rintro e w1 ⟨rfl, F', m1⟩
  have M1 := hide m1
  have y1 := m1.blk.cell (i := 1) rfl
  have ylt := m1.blk.lt
  clear m1
  go_wp2_with fail
  refine (cR.out _ _ M1.out).mono ?_
  rintro e w2 ⟨rfl, G', m2⟩
  have M2 := hide m2
  clear m2
  go_wp2
  go_ret
  exact ⟨rfl, _, _, M2.out.pair, M2.out.mv⟩

set_option maxHeartbeats 1000000 in
theorem both_crash (d r : Nat) (F G : List Nat) (S T : Dv) (page : Int) (a : Option Addr) (n cap bb : Nat) (l : List UInt8) (hn : n = l.length) (hl : n ≤ 140737488355328) (w : World) (hP : Pair w d r F G S T)
    (hbs : BSlice w a l bb) (hnil : a = none → l = []) (hbF : l ≠ [] → bb ∉ F) (hbG : l ≠ [] → bb ∉ G) :
    Calls Tryz.prog 18 #[.pointer (some ⟨d, 0, none⟩), .pointer (some ⟨r, 0, none⟩), .agg #[.int .i64 4, .int .i64 page, .slice a n cap]] w fun e w' =>
      e = .returned (.bool true) ∧ ∃ F' G', Pair w' d r F' G' (S.crash l) (T.crash l) ∧ Moves (F ++ G) (F' ++ G') w w' := by
  have m0 := Mid.start hP [.int .i64 4, .int .i64 page, .slice a n cap]
  obtain ⟨W0, hW0⟩ : ∃ W0, W0 = w.alloc (.cells #[.int .i64 4, .int .i64 page, .slice a n cap] 42) := ⟨_, rfl⟩
  have hs0 : W0.heap.size = w.heap.size + 1 := by rw [hW0]; exact nblk_alloc _ _
  have m0' : Mid w W0 w.heap.size [.int .i64 4, .int .i64 page, .slice a n cap] d r F G F G S T := by rw [hW0]; exact m0
  have hb0 := m0'.bytes hbs hbF hbG
  obtain ⟨g, cap', WA, pad, hrA, hgA, hbA, hBA⟩ := append_bytes W0 a l bb cap hb0.1 hnil (by omega)
  rw [← hn] at hrA
  have mA := m0'.below hBA
  have gF : g ∉ F := fun hf => by have := hP.dev.lt g hf; omega
  have cD : Calls Tryz.prog 53 #[.pointer (some ⟨d, 0, none⟩), .slice (some ⟨g, 0, none⟩) n cap'] WA fun e W' => e = .returned (.tuple #[]) ∧ ∃ F', Mid w W' w.heap.size [.int .i64 4, .int .i64 page, .slice a n cap] d r F G F' G (S.crash l) T :=
    (crash_at d F S (some ⟨g, 0, none⟩) n cap' g l hn (by omega) WA (blk_slice (cap := cap') hbA) (fun _ => gF) mA.pair.dev).mono (by rintro e W' ⟨rfl, F', h1, m1⟩; exact ⟨rfl, F', mA.dev h1 m1⟩)
  have cR : Hid (CallR w w.heap.size [.int .i64 4, .int .i64 page, .slice a n cap] d r F G (S.crash l) T (T.crash l) 54 #[.pointer (some ⟨r, 0, none⟩), .slice a n cap] (.tuple #[])) := fun W F' m => by
    obtain ⟨b1, b2, b3⟩ := m.bytes hbs hbF hbG
    exact (rcrash_at r G T a n cap bb l hn (by omega) W b1 b3 m.pair.ref).mono (by rintro e W' ⟨rfl, G', h1, m1⟩; exact ⟨rfl, G', m.ref h1 m1⟩)
  have CD := hide cD
  rw [hs0, hW0] at hrA
  have HRA := hide hrA
  have HW0 := hide hW0
  have x2 := m0.blk.cell (i := 2) rfl
  have HS0 := hide hs0
  clear cD hrA hW0 m0 m0' hb0 mA hgA hbA hBA hbs hbF hbG hnil hP gF hn hl hs0
  go_enter Tryz.func18, Tryz.ntmps18
  go_wp2_with (at_builtin; refine Lib.wpList_append_run _ rfl _ _ _ _ rfl _ _ rfl rfl _ _ HRA.out ?_)
  refine CD.out.mono ?_
  rintro e w1 ⟨rfl, F', m1⟩
  have M1 := hide m1
  have y2 := m1.blk.cell (i := 2) rfl
  have ylt := m1.blk.lt
  clear m1
  go_wp2_with fail
  refine (cR.out _ _ M1.out).mono ?_
  rintro e w2 ⟨rfl, G', m2⟩
  have M2 := hide m2
  clear m2
  go_wp2
  go_ret
  exact ⟨rfl, _, _, M2.out.pair, M2.out.mv⟩

set_option maxHeartbeats 1000000 in
theorem both_on (d r : Nat) (F G : List Nat) (S T : Dv) (op page : Int) (h0 : op ≠ 0) (h1 : op ≠ 1) (h2 : op ≠ 2) (h3 : op ≠ 3) (h4 : op ≠ 4) (sl : Value) (hsl : ∃ a n c, sl = .slice a n c) (w : World) (hP : Pair w d r F G S T) :
    Calls Tryz.prog 18 #[.pointer (some ⟨d, 0, none⟩), .pointer (some ⟨r, 0, none⟩), .agg #[.int .i64 op, .int .i64 page, sl]] w fun e w' =>
      e = .returned (.bool true) ∧ ∃ F' G', Pair w' d r F' G' S.on T.on ∧ Moves (F ++ G) (F' ++ G') w w' := by
  obtain ⟨a, n, c, rfl⟩ := hsl
  have M0 := hide (Mid.start hP [.int .i64 op, .int .i64 page, .slice a n c])
  have cD : Hid (CallD w w.heap.size [.int .i64 op, .int .i64 page, .slice a n c] d r F G S S.on T 55 #[.pointer (some ⟨d, 0, none⟩)] (.tuple #[])) := fun W m =>
    (on_at d F S W m.pair.dev).mono (by rintro e W' ⟨rfl, F', h1, m1⟩; exact ⟨rfl, F', m.dev h1 m1⟩)
  have cR : Hid (CallR w w.heap.size [.int .i64 op, .int .i64 page, .slice a n c] d r F G S.on T T.on 56 #[.pointer (some ⟨r, 0, none⟩)] (.tuple #[])) := fun W F' m =>
    (ron_at r G T W m.pair.ref).mono (by rintro e W' ⟨rfl, G', h1, m1⟩; exact ⟨rfl, G', m.ref h1 m1⟩)
  clear hP
  go_enter Tryz.func18, Tryz.ntmps18
  go_wp2_with fail
  refine (cD.out _ M0.out).mono ?_
  rintro e w1 ⟨rfl, F', m1⟩
  have M1 := hide m1
  clear m1
  go_wp2_with fail
  refine (cR.out _ _ M1.out).mono ?_
  rintro e w2 ⟨rfl, G', m2⟩
  have M2 := hide m2
  clear m2
  go_wp2
  go_ret
  exact ⟨rfl, _, _, M2.out.pair, M2.out.mv⟩

theorem both_any (d r : Nat) (F G : List Nat) (S T : Dv) (t : ActI) (w : World) (hP : Pair w d r F G S T) (hbs : BSlice w t.a t.l t.bb) (hnil : t.a = none → t.l = []) (hs : t.l.length ≤ 140737488351232) (hpg : t.page ≤ 9223372036854775807)
    (hbF : t.l ≠ [] → t.bb ∉ F) (hbG : t.l ≠ [] → t.bb ∉ G) :
    Calls Tryz.prog 18 #[.pointer (some ⟨d, 0, none⟩), .pointer (some ⟨r, 0, none⟩), .agg #[.int .i64 t.op, .int .i64 t.page, .slice t.a t.l.length t.cap]] w fun e w' =>
      e = .returned (.bool (bothOk S T t)) ∧ ∃ F' G', Pair w' d r F' G' (S.act t) (T.act t) ∧ Moves (F ++ G) (F' ++ G') w w' := by
  unfold bothOk Dv.act
  by_cases h0 : t.op = 0
  · rw [if_pos h0, if_pos h0, if_pos h0, h0]
    refine (both_write d r F G S T t.page t.a t.l.length t.cap t.bb t.l rfl (by omega) w hP hbs hnil hbF hbG).mono ?_
    rintro e w' ⟨rfl, F', h1, m1⟩
    exact ⟨rfl, F', G, h1, m1⟩
  rw [if_neg h0, if_neg h0, if_neg h0]
  by_cases h1 : t.op = 1
  · rw [if_pos h1, if_pos h1, if_pos h1, h1]
    exact both_erase d r F G S T t.page _ ⟨_, _, _, rfl⟩ w hP
  rw [if_neg h1, if_neg h1, if_neg h1]
  by_cases h2 : t.op = 2
  · rw [if_pos h2, if_pos h2, if_pos h2, h2]
    exact both_flush d r F G S T t.page _ ⟨_, _, _, rfl⟩ w hP
  rw [if_neg h2, if_neg h2, if_neg h2]
  by_cases h3 : t.op = 3
  · rw [if_pos h3, if_pos h3, h3]
    exact both_arm d r F G S T t.page hpg _ ⟨_, _, _, rfl⟩ w hP
  rw [if_neg h3, if_neg h3]
  by_cases h4 : t.op = 4
  · rw [if_pos h4, if_pos h4, h4]
    exact both_crash d r F G S T t.page t.a t.l.length t.cap t.bb t.l rfl (by omega) w hP hbs hnil hbF hbG
  rw [if_neg h4, if_neg h4]
  exact both_on d r F G S T t.op t.page h0 h1 h2 h3 h4 _ ⟨_, _, _, rfl⟩ w hP
end Go.Proofs.YtbccnfbombgdmaaGreat

/- 'alike': both devices read the same. -/
set_option linter.unusedVariables false
set_option linter.unusedSimpArgs false
set_option maxRecDepth 30000
namespace Go.Proofs.YtbccnfbombgdmaaGreat
open Go.RowKit Go.Deep

/-- The first k pages are read. -/
def Dv.readN (S : Dv) : Nat → Dv
  | 0 => S
  | k + 1 => (S.readN k).readDo k

theorem Dv.readDo_rd (S : Dv) (p : Int) : ∃ x, S.readDo p = { S with rd := x } := by
  unfold Dv.readDo
  split
  · exact ⟨S.rd, rfl⟩
  · split
    · exact ⟨S.rd, rfl⟩
    · exact ⟨_, rfl⟩
theorem Dv.readN_rd (S : Dv) : ∀ k, ∃ x, S.readN k = { S with rd := x }
  | 0 => ⟨S.rd, rfl⟩
  | k + 1 => by
    obtain ⟨x, hx⟩ := Dv.readN_rd S k
    obtain ⟨y, hy⟩ := Dv.readDo_rd (S.readN k) k
    exact ⟨y, by show (S.readN k).readDo k = _; rw [hy, hx]⟩

set_option maxHeartbeats 1000000 in
theorem alike_at (d r : Nat) (F G : List Nat) (S : Dv) (w : World) (hP : Pair w d r F G S S) :
    Calls Tryz.prog 21 #[.pointer (some ⟨d, 0, none⟩), .pointer (some ⟨r, 0, none⟩)] w fun e w' => e = .returned (.bool true) ∧ Pair w' d r F G (S.readN S.cs.length) (S.readN S.cs.length) ∧ Moves (F ++ G) (F ++ G) w w' := by
  obtain ⟨n, hn⟩ : ∃ n, n = S.cs.length := ⟨_, rfl⟩
  have hnl : n ≤ 4096 := by rw [hn]; exact hP.dev.good.many
  have HN := hide hn
  have P0 := hide hP
  rw [← hn]
  clear hn hP
  go_enter Tryz.func21, Tryz.ntmps21
  go_wp2_with fail
  go_loopg [5] n (fun kx s5 wr => ∃ k : Nat, s5 = .int .i64 k ∧ k ≤ n ∧ n - k ≤ kx ∧ Hid (Pair wr d r F G (S.readN k) (S.readN k) ∧ Moves (F ++ G) (F ++ G) w wr))
  case atStart => exact ⟨0, rfl, Nat.zero_le _, by omega, P0.out, Moves.refl _ _⟩
  case round =>
    obtain ⟨k, rfl, hkn, hg, I⟩ := hrel
    have hlen : (S.readN k).cs.length = n := by
      obtain ⟨x, hx⟩ := S.readN_rd k
      rw [hx, HN.out]
    have cp := pages_atF d F (S.readN k) wr I.out.1.dev
    rw [hlen] at cp
    have CP := hide cp
    clear cp hlen
    by_cases hlt : k < n
    · have hlt2 : (k : Int) < (n : Int) := by omega
      go_wp2_with (go_at_call 23; refine CP.out.mono ?_; rintro e w0 ⟨rfl, hw0⟩; obtain rfl : wr = w0 := hw0.symm)
      refine (read_at d F (S.readN k) k _ I.out.1.dev).mono ?_
      rintro e w1 ⟨v, rfl, hr, h1, k1⟩
      have p1 := I.out.1.step1 h1 (Moves.of_keep k1)
      obtain ⟨t, ht⟩ : ∃ t, t = (S.readN k).readText k := ⟨_, rfl⟩
      obtain ⟨er, her⟩ : ∃ er, er = (S.readN k).readErr k := ⟨_, rfl⟩
      rw [← ht, ← her] at hr
      rw [← her]
      have vs : ∃ a m c, v = .slice a m c ∧ ∀ W : World, Keep G w1 W → (convert 40 9 (.slice a m c)).run Tryz.prog W = .ok (.string t) W := by
        rcases hr with ⟨_, rfl, rfl⟩ | ⟨_, hsz, b, hb, rfl, hblk⟩
        · exact ⟨none, 0, 0, rfl, fun W _ => str_any (w := W) (a := none) (l := []) (b := 0) (.inl rfl) (fun _ => rfl) 0⟩
        · refine ⟨_, _, _, rfl, fun W hK => ?_⟩
          have hbG : b ∉ G := fun hf => by have := I.out.1.ref.lt b hf; omega
          have hb2 := hblk.same (hK.block b hblk.lt hbG)
          have h := str_any (w := W) (blk_slice (cap := 0) (pad := []) (by rw [List.append_nil]; exact hb2)) (fun h => by cases h) 384
          have hl : t.data.toList.length = 384 := by rw [Array.length_toList]; exact hsz
          rw [hl] at h
          rw [h]
      obtain ⟨a, m, c, rfl, hcv⟩ := vs
      have R1 := hide (rread_at r G (S.readN k) k w1 p1.ref)
      rw [← ht, ← her] at R1
      have P1 := hide p1
      have M1 := hide (I.out.2.trans (Moves.of_keep k1).left)
      have CV := hide hcv
      clear hr h1 k1 p1 hcv ht her
      go_wp2_with fail
      refine R1.out.mono ?_
      rintro e w2 ⟨rfl, h2, k2⟩
      have P2 := hide (P1.out.step2 h2 (Moves.of_keep k2))
      have M2 := hide (M1.out.trans (Moves.of_keep k2).right)
      have cv := CV.out w2 k2
      clear h2 k2
      go_wp2
      go_roundg (n - (k + 1))
      case measure => omega
      case rel => exact ⟨k + 1, rfl, by omega, by omega, P2.out, M2.out⟩
    · obtain rfl : k = n := by omega
      have hlt2 : ¬ (k : Int) < (k : Int) := by omega
      have cl := hide (fun W (h : W.heap = wr.heap) => losses_atF d F (S.readN k) W (I.out.1.dev.same (fun _ _ => by rw [h])))
      have cw := hide (fun W (h : W.heap = wr.heap) => power_atF d F (S.readN k) W (I.out.1.dev.same (fun _ _ => by rw [h])))
      obtain ⟨L, hL, hR⟩ := I.out.1.ref
      have c3 := hR.dev.cell (i := 3) rfl
      have c5 := hR.dev.cell (i := 5) rfl
      have hrr := hR.dev.lt
      clear hL hR
      generalize (S.readN k).losses = lo at cl c5
      generalize (S.readN k).off = of at cw c3
      cases of
      all_goals (
        simp only [Bool.not_false, Bool.not_true] at cw
        go_wp2_with (go_at_call 23; refine CP.out.mono ?_; rintro e w0 ⟨rfl, hw0⟩; obtain rfl : wr = w0 := hw0.symm)
        go_quiet (first
          | (go_at_call 24; refine Calls.quiet_of_same (cl.out _ ?_); rfl)
          | (go_at_call 59; refine Calls.quiet_of_same (cw.out _ ?_); rfl))
        go_wp2
        go_ret
        exact ⟨rfl, ⟨I.out.1.dev.same (fun _ _ => rfl), I.out.1.ref.same (fun _ _ => rfl), fun k hk => I.out.1.apart k hk⟩, ⟨I.out.2.keep.os, I.out.2.keep.tape, I.out.2.keep.output, I.out.2.keep.size, I.out.2.keep.block⟩, I.out.2.foot⟩)
end Go.Proofs.YtbccnfbombgdmaaGreat
