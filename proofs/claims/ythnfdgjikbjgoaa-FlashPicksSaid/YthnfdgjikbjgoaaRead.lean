/- Read, Waiting. -/
import Derived.Test.YthnfdgjikbjgoaaSettle
import Derived.Lib.LazyBuf
set_option linter.unusedVariables false
set_option linter.unusedSimpArgs false
namespace Go.Proofs.Ythnfdgjikbjgoaa
open Go.RowKit Go.Deep

def bCells (l : List UInt8) : List Value := l.map fun x => Value.int .u8 (x.toNat : Int)

theorem alloc_sets (V : World) (t : TypeId) : ∀ (vs A M B : List Value), M.length = vs.length → (V.alloc (.cells (A ++ M ++ B).toArray t)).setCells V.heap.size A.length vs = V.alloc (.cells (A ++ vs ++ B).toArray t)
  | [], A, [], B, _ => rfl
  | v :: r, A, m :: M, B, hl => by
    rw [World.setCells, World.setCell_alloc_at _ _ _ _ _ rfl]
    have ih := alloc_sets V t r (A ++ [v]) M B (by simpa using hl)
    have e : (A ++ m :: M ++ B).toArray.setIfInBounds A.length v = (A ++ [v] ++ M ++ B).toArray := by
      apply Array.ext'
      simp
    rw [e]
    have hl2 : (A ++ [v]).length = A.length + 1 := by simp
    rw [hl2] at ih
    rw [ih]
    simp

theorem info5 : (Try.prog.info? 5).map (fun i => (i.zero, i.size, i.bytes)) = some (some (.int .u8 0), 1, 1) := by kernel_rfl
theorem info3 : (Try.prog.info? 3).map (fun i => (i.zero, i.size, i.bytes)) = some (some (.int .i64 0), 1, 8) := by kernel_rfl

theorem make384 (W : World) : (Instr.makeSlice 29 (.int .i64 384) (.int .i64 384)).run Try.prog W = .ok (.slice (some ⟨W.heap.size, 0, none⟩) 384 384) (W.alloc (.cells (List.replicate 384 (Value.int .u8 0)).toArray 5)) := by
  have h := run_make_row' (P := Try.prog) 29 5 (.int .u8 0) 1 Try.underlying29 info5 rfl .i64 .i64 384 (by decide) (by decide) W
  have e : madeCells #[Value.int .u8 0] 384 = (List.replicate 384 (Value.int .u8 0)).toArray := by
    apply Array.ext'
    rw [toList_madeCells_one]
  rw [e] at h
  exact h

theorem full_data (t : ByteArray) : (full t).data.toList = t.data.toList ++ List.replicate (384 - t.size) 0 := by
  simp [full, zeros, ByteArray.data_append]

theorem copy384 (V : World) (N : Nat) (hN : N = V.heap.size) (t : ByteArray) (ht : t.size ≤ 384) (ty : TypeId) :
    (Builtin.copy_ #[29, 9] ty #[.slice (some ⟨N, 0, none⟩) 384 384, .string t]).run Try.prog (V.alloc (.cells (List.replicate 384 (Value.int .u8 0)).toArray 5)) = .ok (goInt t.size) (V.alloc (.cells (bCells (full t).data.toList).toArray 5)) := by
  subst hN
  have hb : Blk (V.alloc (.cells (List.replicate 384 (Value.int .u8 0)).toArray 5)) V.heap.size (List.replicate 384 (Value.int .u8 0)) 5 := Blk.new _ _ _
  obtain ⟨i0, hi0, hp0⟩ := Option.map_eq_some_iff.1 info5
  simp only [Prod.mk.injEq] at hp0
  have h := Go.run_copy_string (P := Try.prog) (V.alloc (.cells (List.replicate 384 (Value.int .u8 0)).toArray 5)) 29 9 ty 5 V.heap.size 0 384 384 t Try.underlying29 (fun w => by simp [sizeOf, typeInfo, hi0, hp0.2.1]) ht
    (fun j hj => by rw [hb.cell (i := 0 + j) (v := .int .u8 0) (by rw [List.getElem?_replicate, if_pos (by omega)])]; rfl) (fun j hj => hb.frozen _)
  rw [h]
  have hsz : t.data.toList.length = t.size := by rw [Array.length_toList]; rfl
  have := alloc_sets V 5 (t.data.toList.map fun x => Value.int .u8 (x.toNat : Int)) [] (List.replicate t.size (.int .u8 0)) (List.replicate (384 - t.size) (.int .u8 0)) (by simp [hsz])
  rw [List.nil_append, List.nil_append, List.replicate_append_replicate, show t.size + (384 - t.size) = 384 by omega] at this
  rw [List.length_nil] at this
  rw [this]
  congr 4
  rw [full_data]
  simp [bCells]

def Dv.readErr (S : Dv) (at0 : Int) : Int := if S.has at0 = false then 1 else if S.off = true then 4 else match S.cs[at0.toNat]? with | some c => c.now.err | none => 0
def Dv.readText (S : Dv) (at0 : Int) : ByteArray := if S.has at0 = false then ⟨#[]⟩ else if S.off = true then ⟨#[]⟩ else match S.cs[at0.toNat]? with | some c => c.now.read | none => ⟨#[]⟩
def Dv.readDo (S : Dv) (at0 : Int) : Dv := if S.has at0 = false then S else if S.off = true then S else { S with rd := wrap64 (S.rd + 1) }

/-- What Read hands back: nothing beside an error; else a page of the call's own. -/
def ReadsAs (w w' : World) (v : Value) (err : Int) (text : ByteArray) : Prop :=
  (err ≠ 0 ∧ v = .slice none 0 0 ∧ text = ⟨#[]⟩) ∨ (err = 0 ∧ text.size = 384 ∧ ∃ b, w.heap.size ≤ b ∧ v = .slice (some ⟨b, 0, none⟩) 384 384 ∧ Blk w' b (bCells text.data.toList) 5)

theorem full_size (t : ByteArray) (h : t.size ≤ 384) : (full t).size = 384 := by
  have : (full t).data.toList.length = 384 := by
    rw [full_data]; simp
    have : t.data.size = t.size := rfl
    omega
  rw [Array.length_toList] at this
  exact this

set_option maxHeartbeats 1000000 in
theorem read_any (d p : Nat) (pd : List Value) (wa : Option Addr) (wc : Nat) (S : Dv) (at0 : Int) (w : World) (h : DvIn w d p pd wa wc S) :
    Calls Try.prog 25 #[.pointer (some ⟨d, 0, none⟩), .int .i64 at0] w fun e w' => ∃ v, e = .returned (.tuple #[v, .int .i64 (S.readErr at0)]) ∧ ReadsAs w w' v (S.readErr at0) (S.readText at0) ∧
      DvIn w' d p pd wa wc (S.readDo at0) ∧ Keep [d] w w' := by
  have ch := hide (has_any d p pd wa wc S w h at0)
  cases hh : S.has at0 with
  | false =>
    rw [hh] at ch
    have E1 : Hid (S.readErr at0 = 1) := by simp [Hid, Dv.readErr, hh]
    have E2 : Hid (S.readText at0 = ⟨#[]⟩) := by simp [Hid, Dv.readText, hh]
    have E3 : Hid (S.readDo at0 = S) := by simp [Hid, Dv.readDo, hh]
    have H := hide h
    clear h hh
    go_enter Try.func25, Try.ntmps25
    go_wp2_with (go_at_call 39; refine ch.out.mono ?_; rintro e w' ⟨rfl, rfl⟩)
    go_ret2
    exact ⟨_, by rw [E1.out]; rfl, .inl ⟨by rw [E1.out]; decide, rfl, E2.out⟩, by rw [E3.out]; exact H.out, Keep.refl _ _⟩
  | true =>
    rw [hh] at ch
    have c3 := h.dev.cell (i := 3) rfl
    cases ho : S.off with
    | true =>
      rw [ho] at c3
      have E1 : Hid (S.readErr at0 = 4) := by simp [Hid, Dv.readErr, hh, ho]
      have E2 : Hid (S.readText at0 = ⟨#[]⟩) := by simp [Hid, Dv.readText, hh, ho]
      have E3 : Hid (S.readDo at0 = S) := by simp [Hid, Dv.readDo, hh, ho]
      have H := hide h
      clear h hh ho
      go_enter Try.func25, Try.ntmps25
      go_wp2_with (go_at_call 39; refine ch.out.mono ?_; rintro e w' ⟨rfl, rfl⟩)
      go_ret2
      exact ⟨_, by rw [E1.out]; rfl, .inl ⟨by rw [E1.out]; decide, rfl, E2.out⟩, by rw [E3.out]; exact H.out, Keep.refl _ _⟩
    | false =>
      rw [ho] at c3
      obtain ⟨A, c, B, hcs, hat⟩ := Dv.has_part hh
      have hget : S.cs[at0.toNat]? = some c := by rw [hcs, hat]; simp
      have E1 : Hid (S.readErr at0 = c.now.err) := by simp [Hid, Dv.readErr, hh, ho, hget]
      have E2 : Hid (S.readText at0 = c.now.read) := by simp [Hid, Dv.readText, hh, ho, hget]
      have E3 : Hid (S.readDo at0 = { S with rd := wrap64 (S.rd + 1) }) := by simp [Hid, Dv.readDo, hh, ho]
      have hlt : (A.length : Int) < (S.cs.length : Int) := by rw [hcs]; simp; omega
      have c0 := h.dev.cell (i := 0) rfl
      have c7 := h.dev.cell (i := 7) rfl
      have f7 := h.dev.frozen 7
      have r0 := h.row.cell (i := A.length * 2 + 0) (v := .int .u8 c.now.kind) (by rw [hcs]; exact flat_getP (fun c : Cl => pgCells c.now) 2 (fun _ => rfl) A c B pd 0 (by decide))
      have r1 := h.row.cell (i := A.length * 2 + 1) (v := .string c.now.text) (by rw [hcs]; exact flat_getP (fun c : Cl => pgCells c.now) 2 (fun _ => rfl) A c B pd 1 (by decide))
      rw [Nat.add_zero] at r0
      have hdp := h.dp
      have hpd := Ne.symm h.dp
      have hpw := h.row.lt
      have hdw := h.dev.lt
      have hfit : c.now.fits := (h.good.fits c (by rw [hcs]; simp)).1
      have K : Keep [d] w (w.setCell ⟨d, 7, none⟩ (.int .i64 (wrap64 (S.rd + 1)))) := (Keep.refl [d] w).setCell (.inl (by simp)) _
      have D : DvIn (w.setCell ⟨d, 7, none⟩ (.int .i64 (wrap64 (S.rd + 1)))) d p pd wa wc { S with rd := wrap64 (S.rd + 1) } := h.turn K (h.dev.set 7 _) rfl ⟨h.good.many, h.good.armed, h.good.fits⟩
      have HK := hide K
      have HD := hide D
      have F := hide hfit
      subst hat
      clear h hh ho hget hcs K D hfit
      obtain ⟨now, last⟩ := c
      simp only at r0 r1 E1 E2 F
      cases now using Pg.elim3 with
      | blank =>
        simp only [Pg.kind, Pg.text] at r0 r1
        go_enter Try.func25, Try.ntmps25
        go_wp2_with (go_at_call 39; refine ch.out.mono ?_; rintro e w' ⟨rfl, rfl⟩)
        go_ret2
        refine ⟨_, by rw [E1.out]; rfl, .inl ⟨by rw [E1.out]; decide, rfl, E2.out⟩, ?_, HK.out.alloc _⟩
        rw [E3.out]
        exact HD.out.same (fun k hk => blk_alloc_lt _ _ _ (HD.out.lt k hk))
      | torn =>
        simp only [Pg.kind, Pg.text] at r0 r1
        go_enter Try.func25, Try.ntmps25
        go_wp2_with (go_at_call 39; refine ch.out.mono ?_; rintro e w' ⟨rfl, rfl⟩)
        go_ret2
        refine ⟨_, by rw [E1.out]; rfl, .inl ⟨by rw [E1.out]; decide, rfl, E2.out⟩, ?_, HK.out.alloc _⟩
        rw [E3.out]
        exact HD.out.same (fun k hk => blk_alloc_lt _ _ _ (HD.out.lt k hk))
      | whole b =>
        simp only [Pg.kind, Pg.text] at r0 r1
        have hm := make384
        have hcp : ∀ (V : World) (N : Nat) (ty : TypeId), N = V.heap.size → (Builtin.copy_ #[29, 9] ty #[.slice (some ⟨N, 0, none⟩) 384 384, .string b]).run Try.prog (V.alloc (.cells (List.replicate 384 (Value.int .u8 0)).toArray 5)) =
          .ok (goInt b.size) (V.alloc (.cells (bCells (full b).data.toList).toArray 5)) := fun V N ty hN => copy384 V N hN b F.out ty
        generalize hZ : (List.replicate 384 (Value.int .u8 0)).toArray = Z at hm hcp
        have HR : Hid ((full b).size = 384) := full_size b F.out
        clear hZ
        have E2' : Hid (S.readText ↑A.length = full b) := E2.out
        clear E2
        generalize hZ2 : full b = fb at hcp HR E2'
        clear hZ2
        generalize hZ3 : (bCells fb.data.toList).toArray = Z3 at hcp
        have HZ3 := hide hZ3
        clear hZ3
        go_enter Try.func25, Try.ntmps25
        go_wp2_with (go_at_call 39; refine ch.out.mono ?_; rintro e w' ⟨rfl, rfl⟩)
        go_ret2
        have KA := HK.out.alloc (.cells #[.int .u8 1, .string b] 71)
        refine ⟨_, by rw [E1.out]; rfl, .inr ⟨E1.out, by rw [E2'.out]; exact HR.out, w'.heap.size + 1, by omega, rfl, ?_⟩, ?_, KA.alloc _⟩
        · rw [E2'.out]
          unfold Blk
          rw [HZ3.out]
          have := blk_alloc_new (((w'.setCell ⟨d, 7, none⟩ (.int .i64 (wrap64 (S.rd + 1)))).alloc (.cells #[.int .u8 1, .string b] 71))) (.cells Z3 5)
          rw [nblk_alloc, nblk_setCell] at this
          exact this
        · rw [E3.out]
          refine HD.out.same (fun k hk => ?_)
          have hl := HD.out.lt k hk
          rw [blk_alloc_lt _ _ _ (by rw [nblk_alloc]; omega), blk_alloc_lt _ _ _ hl]

theorem read_at (d : Nat) (F : List Nat) (S : Dv) (at0 : Int) (w : World) (h : DvAt w d F S) :
    Calls Try.prog 25 #[.pointer (some ⟨d, 0, none⟩), .int .i64 at0] w fun e w' => ∃ v, e = .returned (.tuple #[v, .int .i64 (S.readErr at0)]) ∧ ReadsAs w w' v (S.readErr at0) (S.readText at0) ∧
      DvAt w' d F (S.readDo at0) ∧ Keep F w w' := by
  obtain ⟨p, pd, wa, wc, rfl, h⟩ := h
  refine (read_any d p pd wa wc S at0 w h).mono ?_
  rintro e w' ⟨v, rfl, hr, h2, k2⟩
  exact ⟨v, rfl, hr, ⟨p, pd, wa, wc, rfl, h2⟩, k2.mono (fun k hk => .inl (by simp at hk; simp [foot, hk]))⟩

def wtNums (l : List (Nat × Pg)) : List Value := l.map fun x => Value.int .i64 (x.1 : Int)

theorem makeInts (m : Nat) (hm : m ≤ 4096) (W : World) : (Instr.makeSlice 39 (.int .i64 m) (.int .i64 m)).run Try.prog W = .ok (.slice (some ⟨W.heap.size, 0, none⟩) m m) (W.alloc (.cells (List.replicate m (Value.int .i64 0)).toArray 3)) := by
  have h := run_make_row' (P := Try.prog) 39 3 (.int .i64 0) 8 Try.underlying39 info3 rfl .i64 .i64 m (by omega) (by omega) W
  have e : madeCells #[Value.int .i64 0] m = (List.replicate m (Value.int .i64 0)).toArray := by
    apply Array.ext'
    rw [toList_madeCells_one]
  rw [e] at h
  exact h

set_option maxHeartbeats 1000000 in
theorem waiting_any (d p : Nat) (pd : List Value) (wa : Option Addr) (wc : Nat) (S : Dv) (w : World) (h : DvIn w d p pd wa wc S) :
    Calls Try.prog 19 #[.pointer (some ⟨d, 0, none⟩)] w fun e w' => e = .returned (.slice (some ⟨w.heap.size, 0, none⟩) (wl 0 S.cs).length (wl 0 S.cs).length) ∧ Blk w' w.heap.size (wtNums (wl 0 S.cs)) 3 ∧ Below w.heap.size w w' := by
  obtain ⟨m, hm⟩ : ∃ m, m = (wl 0 S.cs).length := ⟨_, rfl⟩
  have hml : m ≤ 4096 := by rw [hm]; exact Nat.le_trans (wl_length _ _) h.good.many
  have c1 := h.dev.cell (i := 1) rfl
  rw [← hm] at c1 ⊢
  have hdw := h.dev.lt
  have hmk := makeInts m hml
  generalize hZ : (List.replicate m (Value.int .i64 0)).toArray = Z at hmk
  have HZ := hide hZ
  have H := hide h
  have HM := hide hm
  clear h hm hZ
  have cells : Hid (∀ (wr : World) (k : Nat), Below w.heap.size w wr → k < m → ∃ (g : Nat) (x : Nat × Pg), wa = some ⟨g, 0, none⟩ ∧ g < w.heap.size ∧ (wl 0 S.cs)[k]? = some x ∧
      wr.cell? ⟨g, k * 3, none⟩ = some (.int .i64 x.1) ∧ wr.cell? ⟨g, k * 3 + 1, none⟩ = some (.int .u8 x.2.kind) ∧ wr.cell? ⟨g, k * 3 + 2, none⟩ = some (.string x.2.text)) := by
    intro wr k hB hk
    obtain ⟨L1, x, L2, hL, hL1⟩ := part_at (wl 0 S.cs) k (by rw [← HM.out]; exact hk)
    rcases own_form H.out.own with ⟨_, h0, _⟩ | ⟨g, pad, hwa, hb, _⟩
    · have := HM.out; omega
    · have cell : ∀ j (hj : j < 3) v, (wtCells x)[j]? = some v → wr.cell? ⟨g, k * 3 + j, none⟩ = some v := fun j hj v hv => by
        rw [hB.cell (p := ⟨g, k * 3 + j, none⟩) hb.lt]
        refine hb.cell ?_
        have := flat_get wtCells 3 (fun _ => rfl) L1 x L2 j hj
        rw [hv, hL1] at this
        change (wtRow (L1 ++ x :: L2))[k * 3 + j]? = some v at this
        rw [hL, List.getElem?_append_left (List.getElem?_eq_some_iff.1 this).1]
        exact this
      exact ⟨g, x, hwa, hb.lt, by rw [hL, ← hL1]; simp, cell 0 (by decide) _ rfl, cell 1 (by decide) _ rfl, cell 2 (by decide) _ rfl⟩
  go_enter Try.func19, Try.ntmps19
  go_wp2
  go_loopg [17] m (fun kx s17 wr => ∃ k : Nat, s17 = .int .i64 k ∧ k ≤ m ∧ m - k ≤ kx ∧ Hid (Below w.heap.size w wr ∧ Blk wr w.heap.size (wtNums ((wl 0 S.cs).take k) ++ List.replicate (m - k) (.int .i64 0)) 3))
  case atStart =>
    refine ⟨0, rfl, Nat.zero_le _, by omega, (Below.refl _ _).alloc (Nat.le_refl _) _, ?_⟩
    show Blk _ _ ([] ++ List.replicate m _) 3
    rw [List.nil_append]
    unfold Blk
    rw [HZ.out]
    exact blk_alloc_new _ _
  case round =>
    obtain ⟨k, rfl, hkm, hg, I⟩ := hrel
    by_cases hlt : k < m
    · obtain ⟨g, x, rfl, hgw, hx, q0, q1, q2⟩ := cells.out wr k I.out.1 hlt
      have B := I.out.2
      have ht : (wtNums ((wl 0 S.cs).take k)).length = k := by simp [wtNums]; have := HM.out; omega
      have e1 : List.replicate (m - k) (Value.int .i64 0) = .int .i64 0 :: List.replicate (m - (k + 1)) (.int .i64 0) := by rw [show m - k = (m - (k + 1)) + 1 by omega, List.replicate_succ]
      rw [e1] at B
      have r0 := B.cell (i := k) (v := .int .i64 0) (by rw [List.getElem?_append_right (by omega), ht, Nat.sub_self]; rfl)
      have g0 := B.frozen k
      have hgr : g < wr.heap.size := Nat.lt_of_lt_of_le hgw I.out.1.size
      have hnr := B.lt
      have B2 := B.set k (.int .i64 x.1)
      rw [set_append_len _ _ _ _ _ ht.symm] at B2
      have e2 : wtNums ((wl 0 S.cs).take k) ++ Value.int .i64 x.1 :: List.replicate (m - (k + 1)) (.int .i64 0) = wtNums ((wl 0 S.cs).take (k + 1)) ++ List.replicate (m - (k + 1)) (.int .i64 0) := by
        rw [List.take_add_one, hx]
        simp [wtNums]
      rw [e2] at B2
      have HB2 := hide B2
      clear hx B B2 e1 e2 ht
      go_wp2
      go_roundg (m - (k + 1))
      case measure => omega
      case rel => exact ⟨k + 1, rfl, by omega, by omega, (I.out.1.setCell (Nat.le_refl _) _).alloc (by rw [nblk_setCell]; exact I.out.1.size) _, HB2.out.alloc _⟩
    · obtain rfl : k = m := by omega
      go_wp2
      go_ret
      refine ⟨rfl, ?_, I.out.1⟩
      have := I.out.2
      rw [Nat.sub_self, List.replicate_zero, List.append_nil, HM.out, List.take_length] at this
      exact this
end Go.Proofs.Ythnfdgjikbjgoaa
