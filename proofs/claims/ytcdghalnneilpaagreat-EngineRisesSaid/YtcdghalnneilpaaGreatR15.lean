/- Joined texts. -/
import Derived.Test.YtcdghalnneilpaaGreatR12
import Derived.Test.YtcdghalnneilpaaGreatR14
set_option linter.unusedVariables false
set_option linter.unusedSimpArgs false
set_option maxRecDepth 8000
set_option maxHeartbeats 8000000
namespace Go.Proofs.YtcdghalnneilpaaGreat
open Go.RowKit Go.Deep Math
theorem size_of {ops : Array Oper} {a0 : Act} {n : Nat} (h : ((List.range ops.size).all fun i => match (ops[i]?).bind (·.dst) with | some t => decide (t < n) | none => true) = true) (hn : a0.tmps.size = n) : ∀ (i : Nat) (o : Oper) (t : Nat), ops[i]? = some o -> o.dst = some t -> t < a0.tmps.size := fun i o t ho hd => by
 have hi : i < ops.size := (Array.getElem?_eq_some_iff.1 ho).1
 have := List.all_eq_true.1 h i (List.mem_range.2 hi)
 rw [ho] at this
 simp only [Option.bind_some, hd, decide_eq_true_eq] at this
 rw [hn]
 exact this
theorem app_bytes {w : World} {base : Nat} {v : Value} {n : Nat} {xs ys : List UInt8} (h : w.ownsRow base 5 1 v n (bCells xs)) {b o m c : Nat} (hs : BS w (some ⟨b, o, none⟩) m c ys) (hn : n + m <= 1048576) (hb : base <= w.heap.size) :
  ∃ va vc w', (∀ ty, (Builtin.append_ #[40, 40] ty #[v, .slice (some ⟨b, o, none⟩) m c]).run Tryz.prog w = .ok (.slice va (n + m) vc) w') /\
   w'.ownsRow base 5 1 (.slice va (n + m) vc) (n + m) (bCells (xs ++ ys)) /\ Keep (own v) w w' /\ (∀ q ∈ own (.slice va (n + m) vc), q ∈ own v \/ w.heap.size <= q) := by
 obtain ⟨i0, hi0, hp0⟩ := Option.map_eq_some_iff.1 info5
 simp only [Prod.mk.injEq] at hp0
 have hnews : ∀ j u, (bCells ys)[j]? = some u -> w.cell? ((⟨b, o, none⟩ : Addr).add j) = some u := fun j u hu => by
  have hj : j < m := by have := (List.getElem?_eq_some_iff.1 hu).1; rw [bCells_length, <- hs.len] at this; exact this
  obtain ⟨b', o', he, _, hc⟩ := hs.cell j hj
  cases he
  rw [Addr.add_lit, hc, <- hu]
  have hj2 : j < ys.length := by rw [<- hs.len]; exact hj
  simp [bCells, List.getD_eq_getElem?_getD, List.getElem?_eq_getElem hj2]
 obtain ⟨v', w', hrun, ho, hg, hnil, hblk⟩ := run_append_own_at (P := Tryz.prog) w base 40 0 5 i0 _ 1 1 Tryz.underlying40 hi0 hp0.1 hp0.2.1 hp0.2.2 rfl (by decide) v n (bCells xs) h ⟨b, o, none⟩ m c (bCells ys) (by rw [bCells_length, hs.len, Nat.mul_one]) hnews (bCells_one ys) (by unfold maxLen; omega) (by omega) hb
 obtain ⟨va, vc, rfl⟩ := own_slice ho
 refine ⟨va, vc, w', fun ty => hrun, by rw [bCells_append]; exact ho, (Keep.refl _ w).grown hg (fun q hq => .inl (mem_own.2 hq)), fun q hq => ?_⟩
 rcases hblk with h2 | h2
 ·exact .inl (mem_own.2 (h2 ▸ mem_own.1 hq))
 ·have := mem_own.1 hq
  rw [h2] at this
  exact .inr (Nat.le_of_eq (Option.some.inj this))
structure Fp where
 g : Nat
 l : List UInt8
def fpCells (p : Fp) : List Value := [.int .u8 (fmPlace p.l), .int .u64 (fmNum p.l), .slice (some ⟨p.g, 16, none⟩) (fmLen p.l) 368]
def fpRow (ps : List Fp) : List Value := ps.flatMap fpCells
theorem fpRow_length (ps : List Fp) : (fpRow ps).length = ps.length * 3 := flat_length fpCells 3 (fun _ => rfl) ps
structure FpAt (w : World) (p : Fp) : Prop where
 blk : Blk w p.g (bCells p.l) 5
 all : p.l.length = 384
 form : isForm p.l = true
theorem blk_bs {w : World} {g : Nat} {l : List UInt8} (h : Blk w g (bCells l) 5) (hl : l.length = 384) : BS w (some ⟨g, 0, none⟩) 384 384 l := by
 refine buf_bs ?_ hl.symm (Nat.le_refl _)
 unfold Buf
 rw [show zc 0 = [] from rfl, List.append_nil]
 exact h
theorem FpAt.bs {w : World} {p : Fp} (h : FpAt w p) : BS w (some ⟨p.g, 0, none⟩) 384 384 p.l := blk_bs h.blk h.all
theorem FpAt.same {w w' : World} {p : Fp} (h : FpAt w p) (e : w'.heap[p.g]? = w.heap[p.g]?) : FpAt w' p := ⟨h.blk.same e, h.all, h.form⟩
theorem FpAt.glt {w : World} {p : Fp} (h : FpAt w p) : p.g < w.heap.size := h.blk.lt
theorem FpAt.below {w w' : World} {p : Fp} (h : FpAt w p) (b : Below w.heap.size w w') : FpAt w' p := h.same (b.block _ h.glt)
theorem FpAt.len {w : World} {p : Fp} (h : FpAt w p) : fmLen p.l <= 368 := by
 have := h.form
 simp only [isForm, Bool.and_eq_true, decide_eq_true_eq] at this
 exact this.2.2
def fmPart (l : List UInt8) : List UInt8 := sl l 16 (16 + fmLen l)
theorem FpAt.part {w : World} {p : Fp} (h : FpAt w p) : BS w (some ⟨p.g, 16, none⟩) (fmLen p.l) 368 (fmPart p.l) := by
 have := h.len
 exact h.bs.sub 16 (16 + fmLen p.l) 16 (fmLen p.l) 368 rfl (by omega) (by omega) (by omega) (by omega)
theorem fp_cell {w : World} {base : Nat} {v : Value} {n : Nat} {ps : List Fp} (h : w.ownsRow base 259 3 v n (fpRow ps)) {i : Nat} {p : Fp} (hp : ps[i]? = some p) : ∃ g c, v = .slice (some ⟨g, 0, none⟩) n c /\ w.cell? ⟨g, i * 3, none⟩ = some (.int .u8 (fmPlace p.l)) /\ w.cell? ⟨g, i * 3 + 1, none⟩ = some (.int .u64 (fmNum p.l)) /\ w.cell? ⟨g, i * 3 + 2, none⟩ = some (.slice (some ⟨p.g, 16, none⟩) (fmLen p.l) 368) /\ g < w.heap.size := by
 have hi : i < ps.length := (List.getElem?_eq_some_iff.1 hp).1
 have hn : n = ps.length := by have := h.1; rw [fpRow_length] at this; omega
 rcases h.2 with ⟨_, h0⟩ | ⟨g, cap, cur, rfl, hb, hh, hc, hm, hs, htk⟩
 ·omega
 ·obtain ⟨A, B, e, hA⟩ : ∃ A B, ps = A ++ p :: B /\ A.length = i := by
   obtain ⟨hi, he⟩ := List.getElem?_eq_some_iff.1 hp
   refine ⟨ps.take i, ps.drop (i + 1), ?_, by simp; omega⟩
   rw [<- he, <- List.drop_eq_getElem_cons hi, List.take_append_drop]
  have key : ∀ j v, j < 3 -> (fpCells p)[j]? = some v -> w.cell? ⟨g, i * 3 + j, none⟩ = some v := fun j v hj hv => by
   have h1 : (cur.toList.take (n * 3))[i * 3 + j]? = some v := by
    rw [htk, e, <- hA, <- hv]
    exact flat_get fpCells 3 (fun _ => rfl) A p B j hj
   rw [List.getElem?_take] at h1
   split at h1
   ·simp [World.cell?, hh, <- Array.getElem?_toList, h1]
   ·cases h1
  exact ⟨g, cap, rfl, key 0 _ (by omega) rfl, key 1 _ (by omega) rfl, key 2 _ (by omega) rfl, (Array.getElem?_eq_some_iff.1 hh).1⟩
def run9 (n : Nat) : Nat -> List (List UInt8) -> Bool
 | _, [] => true
 | i, l :: r => decide (fmPlace l = i) && (decide (fmNum l = n) && run9 n (i + 1) r)
def headNum (ls : List (List UInt8)) : Nat := fmNum (ls.headD [])
def isWhole (ls : List (List UInt8)) : Bool := decide (4 <= ls.length) && (decide (headNum ls ≠ 0) && run9 (headNum ls) 0 ls)
def content (ls : List (List UInt8)) : List UInt8 := ls.flatMap fmPart
theorem run9_snoc (n : Nat) : ∀ (ls : List (List UInt8)) (i : Nat) (l : List UInt8), run9 n i (ls ++ [l]) = (run9 n i ls && (decide (fmPlace l = i + ls.length) && decide (fmNum l = n)))
 | [], i, l => by simp [run9]
 | a :: r, i, l => by
  rw [List.cons_append, run9, run9, run9_snoc n r (i + 1) l]
  simp only [List.length_cons, show i + 1 + r.length = i + (r.length + 1) by omega, Bool.and_assoc]
theorem run9_false (n : Nat) (ls : List (List UInt8)) (k : Nat) (i : Nat) (h : run9 n i (ls.take k) = false) : run9 n i ls = false := by
 induction ls generalizing k i with
 | nil => simp [run9] at h
 | cons a r ih =>
  cases k with
  | zero => simp [run9] at h
  | succ k =>
   rw [List.take_succ_cons, run9] at h
   rw [run9]
   cases h1 : decide (fmPlace a = i) with
   | false => rfl
   | true =>
    cases h2 : decide (fmNum a = n) with
    | false => rfl
    | true =>
     rw [h1, h2] at h
     simp only [Bool.true_and] at h ⊢
     exact ih k (i + 1) h
def fpLs (ps : List Fp) : List (List UInt8) := ps.map Fp.l
def WholePost (w : World) (ls : List (List UInt8)) (e : Ending) (w' : World) : Prop := Below w.heap.size w w' /\
 ((isWhole ls = false /\ e = .returned (.tuple #[.slice none 0 0, .bool false])) \/
  (isWhole ls = true /\ ∃ va vn vc, e = .returned (.tuple #[.slice va vn vc, .bool true]) /\ vn = (content ls).length /\ w'.ownsRow w.heap.size 5 1 (.slice va vn vc) vn (bCells (content ls))))
theorem content_snoc (ls : List (List UInt8)) (l : List UInt8) : content (ls ++ [l]) = content ls ++ fmPart l := by simp [content]
theorem content_le {w : World} : ∀ (ps : List Fp), (∀ p ∈ ps, FpAt w p) -> (content (fpLs ps)).length <= 368 * ps.length
 | [], _ => by simp [content, fpLs]
 | p :: r, h => by
  have h1 := content_le r (fun q hq => h q (by simp [hq]))
  have h2 := (h p (by simp)).part.len
  have h3 := (h p (by simp)).len
  have e : content (fpLs (p :: r)) = fmPart p.l ++ content (fpLs r) := by simp [content, fpLs]
  rw [e, List.length_append, <- h2, List.length_cons]
  omega
theorem whole_any (a : Option Addr) (n c : Nat) (ps : List Fp) (w : World) (hrow : w.ownsRow 0 259 3 (.slice a n c) n (fpRow ps)) (hps : ∀ p ∈ ps, FpAt w p) (hn4 : n <= 4) :
  Calls Tryz.prog 186 #[.slice a n c] w (WholePost w (fpLs ps)) := by
 have hn : n = ps.length := by have := hrow.1; rw [fpRow_length] at this; omega
 have HN := hide hn
 have HR := hide hrow
 have HP := hide hps
 have HLN : Hid ((fpLs ps).length = ps.length) := by show _ = _; simp [fpLs]
 by_cases h4 : n < 4
 ·have E : Hid (isWhole (fpLs ps) = false) := by
   show _ = _
   have : ¬ 4 <= (fpLs ps).length := by rw [HLN.out]; omega
   simp only [isWhole, decide_eq_false this, Bool.false_and]
  have h4i : (n : Int) < 4 := by omega
  clear hn hrow hps h4
  go_enter Tryz.func186, Tryz.ntmps186
  go_wp2
  go_ret2
  exact ⟨Below.refl _ _, .inl ⟨E.out, rfl⟩⟩
 ·obtain ⟨p0, hp0⟩ : ∃ p0, ps[0]? = some p0 := ⟨_, List.getElem?_eq_getElem (by omega)⟩
  obtain ⟨g, c', hv, k0, k1, k2, hgl⟩ := fp_cell hrow hp0
  simp only [Value.slice.injEq, true_and] at hv
  obtain ⟨rfl, rfl⟩ := hv
  rw [Nat.zero_mul, Nat.zero_add] at k1
  have HH : Hid (headNum (fpLs ps) = fmNum p0.l) := by
   show _ = _
   cases ps with
   | nil => simp at hp0
   | cons x r => simp at hp0; subst hp0; rfl
  by_cases h0 : fmNum p0.l = 0
  ·have E : Hid (isWhole (fpLs ps) = false) := by
    show _ = _
    have : ¬ headNum (fpLs ps) ≠ 0 := by rw [HH.out, h0]; simp
    simp only [isWhole, decide_eq_false this, Bool.false_and, Bool.and_false]
   rw [h0] at k1
   have h4i : ¬ (n : Int) < 4 := by omega
   clear hn hrow hps h4 hp0 k0 k2 h0 HH
   go_enter Tryz.func186, Tryz.ntmps186
   go_wp2
   go_ret2
   exact ⟨Below.refl _ _, .inl ⟨E.out, rfl⟩⟩
  ·have h4i : ¬ (n : Int) < 4 := by omega
   have h0i : ¬ ((fmNum p0.l : Nat) : Int) = 0 := by omega
   have HK1 := hide k1
   have H0 := hide h0
   have HGL := hide hgl
   have H4 := hide h4
   clear hn hrow hps hp0 k0 k2 h0 hgl h4
   generalize hx0 : fmNum p0.l = x0 at *
   have HX0 := hide hx0
   clear hx0
   go_enter Tryz.func186, Tryz.ntmps186
   go_wp2_with fail
   go_loopg [4, 19] n (fun kx s4 s19 wr => ∃ (i : Nat) (va : Option Addr) (vn vc : Nat), s4 = .slice va vn vc /\ s19 = .int .i64 i /\ i <= n /\ n - i <= kx /\ Hid (run9 x0 0 ((fpLs ps).take i) = true /\ vn = (content ((fpLs ps).take i)).length /\ wr.ownsRow w.heap.size 5 1 (.slice va vn vc) vn (bCells (content ((fpLs ps).take i))) /\ Below w.heap.size w wr))
   case atStart => exact ⟨0, none, 0, 0, rfl, rfl, Nat.zero_le _, by omega, rfl, rfl, World.ownsRow_nil _ _ _ _, Below.refl _ _⟩
   case round =>
    obtain ⟨i, va, vn, vc, rfl, rfl, hin, hg, I⟩ := hrel
    by_cases hlt : i < n
    ·have hlt2 : (i : Int) < (n : Int) := by omega
     obtain ⟨p, hp⟩ : ∃ p, ps[i]? = some p := ⟨_, List.getElem?_eq_getElem (by rw [<- HN.out]; exact hlt)⟩
     have hb := I.out.2.2.2
     obtain ⟨g', c'', hv, k0, k1, k2, hgl⟩ := fp_cell (rown_below HR.out hb) hp
     simp only [Value.slice.injEq, true_and, Option.some.injEq, Addr.mk.injEq, and_true] at hv
     obtain ⟨rfl, rfl⟩ := hv
     have hFP := (HP.out p (List.mem_of_getElem? hp)).below hb
     have ET : Hid ((fpLs ps).take (i + 1) = (fpLs ps).take i ++ [p.l]) := by
      show _ = _
      rw [List.take_add_one]
      have : (fpLs ps)[i]? = some p.l := by simp [fpLs, hp]
      rw [this]; rfl
     have hlen : ((fpLs ps).take i).length = i := by rw [List.length_take, HLN.out, <- HN.out]; omega
     have ER : Hid (run9 x0 0 ((fpLs ps).take (i + 1)) = (decide (fmPlace p.l = i) && decide (fmNum p.l = x0))) := by
      show _ = _
      rw [ET.out, run9_snoc, I.out.1, hlen]
      simp
     have kk1 : ∀ o, ((wr.alloc o).drew).cell? ⟨g, 1, none⟩ = some (.int .u64 (x0 : Int)) := fun o => by
      have hz := ((hb.trans (((Below.refl wr.heap.size wr).alloc (Nat.le_refl _) o).mono hb.size)).cell (p := ⟨g, 1, none⟩) HGL.out).trans HK1.out
      exact hz
     have hP : fmPlace p.l < 256 := (p.l.getD 2 0).toNat_lt
     have hps := hFP.part
     have hpl := hFP.len
     have hcl := content_le (w := w) (ps.take i) (fun q hq => HP.out q (List.mem_of_mem_take hq))
     have etk : fpLs (ps.take i) = (fpLs ps).take i := by simp [fpLs, List.map_take]
     rw [etk] at hcl
     have hi4 : (ps.take i).length <= 4 := by rw [List.length_take]; omega
     have hvn : vn <= 1472 := by rw [I.out.2.1]; omega
     obtain ⟨pg, pl⟩ := p
     simp only at k0 k1 k2 hps hpl ET ER hP
     have hbA := hb.trans (((Below.refl wr.heap.size wr).alloc (Nat.le_refl _) (.cells #[.int .u8 ((fmPlace pl : Nat) : Int), .int .u64 ((fmNum pl : Nat) : Int), .slice (some ⟨pg, 16, none⟩) (fmLen pl) 368] 259)).mono hb.size)
     have hownA : ((wr.alloc (.cells #[.int .u8 ((fmPlace pl : Nat) : Int), .int .u64 ((fmNum pl : Nat) : Int), .slice (some ⟨pg, 16, none⟩) (fmLen pl) 368] 259)).drew).ownsRow w.heap.size 5 1 (.slice va vn vc) vn (bCells (content ((fpLs ps).take i))) := rown_below I.out.2.2.1 (((Below.refl wr.heap.size wr).alloc (Nat.le_refl _) _).drew)
     have hpsA : BS ((wr.alloc (.cells #[.int .u8 ((fmPlace pl : Nat) : Int), .int .u64 ((fmNum pl : Nat) : Int), .slice (some ⟨pg, 16, none⟩) (fmLen pl) 368] 259)).drew) (some ⟨pg, 16, none⟩) (fmLen pl) 368 (fmPart pl) := hps.later (((Below.refl wr.heap.size wr).alloc (Nat.le_refl _) _).drew)
     obtain ⟨ua, uc, w2, hrun, hrow2, hkp, hblk⟩ := app_bytes hownA hpsA (by omega) hbA.size
     have HRUN := hide hrun
     have TT : Hid (vn + fmLen pl = (content ((fpLs ps).take (i + 1))).length /\ w2.ownsRow w.heap.size 5 1 (.slice ua (vn + fmLen pl) uc) (vn + fmLen pl) (bCells (content ((fpLs ps).take (i + 1)))) /\ Below w.heap.size w w2) := by
      rw [ET.out, content_snoc]
      refine ⟨by rw [List.length_append, <- I.out.2.1, <- hps.len], hrow2, hbA.drew.trans (hkp.below (fun q hq => ?_) hbA.size)⟩
      rcases I.out.2.2.1.2 with ⟨h1, _⟩ | ⟨g1, cap, cur, h1, h2, _⟩
      ·rw [h1] at hq; simp [own, Value.ownBlock] at hq
      ·rw [h1] at hq; simp [own, Value.ownBlock] at hq; subst hq; exact h2
     have HBA := hide hbA
     clear hFP hps hpl hcl etk hi4 hvn hownA hpsA hrun hrow2 hkp hblk hbA hb hp hlen
     generalize hpp : fmPlace pl = pp at *
     generalize hnn : fmNum pl = nn at *
     generalize hll : fmLen pl = ll at *
     clear hpp hnn hll
     have kk := kk1 (.cells #[.int .u8 (pp : Int), .int .u64 (nn : Int), .slice (some ⟨pg, 16, none⟩) ll 368] 259)
     have KK := hide kk1
     clear kk1
     by_cases q1 : pp = i
     ·subst q1
      by_cases q2 : nn = x0
      ·subst q2
       have ER2 : Hid (run9 nn 0 ((fpLs ps).take (pp + 1)) = true) := by show _ = _; rw [ER.out]; simp
       clear ER
       go_wp2_with fail
       go_region
       all_goals go_wp2_with (at_builtin; refine Lib.wpList_append_run _ rfl _ _ _ _ rfl _ _ rfl rfl _ _ (HRUN.out _) ?_)
       all_goals go_roundg (n - (pp + 1))
       all_goals first
        | omega
        | exact ⟨pp + 1, ua, _, uc, rfl, rfl, by omega, by omega, ER2.out, TT.out⟩
      ·have q2i : ¬ ((nn : Int) = (x0 : Int)) := by omega
       have E : Hid (isWhole (fpLs ps) = false) := by
        show _ = _
        have h1 : run9 x0 0 ((fpLs ps).take (pp + 1)) = false := by rw [ER.out]; simp [q2]
        have h2 := run9_false x0 (fpLs ps) (pp + 1) 0 h1
        simp only [isWhole, HH.out, h2, Bool.and_false]
       clear ER q2 TT HRUN
       go_wp2_with fail
       go_region
       all_goals go_wp2
       all_goals go_ret2
       all_goals exact ⟨HBA.out.drew, .inl ⟨E.out, rfl⟩⟩
     ·have q1w : (IntKind.i64.wrap (pp : Int) != (i : Int)) = true := by
       have : IntKind.i64.wrap (pp : Int) = (pp : Int) := by rw [IntKind.wrap_i64]; omega
       rw [this, bne_iff_ne]
       omega
      have E : Hid (isWhole (fpLs ps) = false) := by
       show _ = _
       have h1 : run9 x0 0 ((fpLs ps).take (i + 1)) = false := by rw [ER.out]; simp [q1]
       have h2 := run9_false x0 (fpLs ps) (i + 1) 0 h1
       simp only [isWhole, HH.out, h2, Bool.and_false]
      clear ER q1 TT HRUN
      go_wp2_with fail
      have kb0 : ((wr.alloc (.cells #[.int .u8 (pp : Int), .int .u64 (nn : Int), .slice (some ⟨pg, 16, none⟩) ll 368] 259)).drew).cell? ⟨wr.heap.size, 0, none⟩ = some (.int .u8 (pp : Int)) := (Blk.new wr [.int .u8 (pp : Int), .int .u64 (nn : Int), .slice (some ⟨pg, 16, none⟩) ll 368] 259).cell (i := 0) rfl
      refine wp_region_guard (by kernel_rfl) (by kernel_rfl) (fun jx => ([.pointer (some ⟨wr.heap.size, 0, none⟩), .int .u8 (pp : Int), .int .i64 (IntKind.i64.wrap (pp : Int)), .int .i64 (i : Int), .bool true, .bool true, undef, undef, undef, undef, undef, undef, undef, .bool true] : List Value).getD jx undef) (fun w' => w' = (wr.alloc (.cells #[.int .u8 (pp : Int), .int .u64 (nn : Int), .slice (some ⟨pg, 16, none⟩) ll 368] 259)).drew) (size_of (n := 44) (by kernel_rfl) rfl) (rfl) ?_ ?_
      ·intro jx ox hi w' ev hc hin hout hcst hfn
       have hltx : jx < 14 := by
        have := (Array.getElem?_eq_some_iff.1 hi).1
        simpa using this
       match jx, hltx with
       | 0, _ =>
        cases hi
        rw [if_pos (by first | rfl | simp [wantV])]
        have e0 : ev (.tmp 6) = .pointer (some ⟨wr.heap.size, 0, none⟩) := hout 6
        refine .inl ⟨w', ?_, hc⟩
        simp [execOp, e0, hcst, go_sem]
       | 1, _ =>
        cases hi
        rw [if_pos (by first | rfl | simp [wantV])]
        have e0 : ev (.tmp 24) = .pointer (some ⟨wr.heap.size, 0, none⟩) := hin 24 0 ⟨0, .data⟩
        refine .inl ⟨w', ?_, hc⟩
        show _ = Result.ok (Next.value (.int .u8 (pp : Int))) w'
        rw [hc]
        simp [execOp, e0, hcst, go_sem, kb0]
       | 2, _ =>
        cases hi
        rw [if_pos (by first | rfl | simp [wantV])]
        have e0 : ev (.tmp 25) = .int .u8 (pp : Int) := hin 25 1 ⟨1, .data⟩
        refine .inl ⟨w', ?_, hc⟩
        simp [execOp, e0, hcst, go_sem]
       | 3, _ =>
        cases hi
        rw [if_pos (by first | rfl | simp [wantV])]
        have e0 : ev (.tmp 5) = .int .i64 (i : Int) := hout 5
        refine .inl ⟨w', ?_, hc⟩
        simp [execOp, e0, hcst, go_sem]
       | 4, _ =>
        cases hi
        rw [if_pos (by first | rfl | simp [wantV])]
        have e0 : ev (.tmp 26) = .int .i64 (IntKind.i64.wrap (pp : Int)) := hin 26 2 ⟨2, .data⟩
        have e1 : ev (.tmp 27) = .int .i64 (i : Int) := hin 27 3 ⟨3, .data⟩
        refine .inl ⟨w', ?_, hc⟩
        simp [execOp, e0, e1, hcst, go_sem, q1w]
       | 5, _ =>
        cases hi
        rw [if_pos (by first | rfl | simp [wantV])]
        have e0 : ev (.tmp 28) = .bool true := hin 28 4 ⟨4, .data⟩
        refine .inl ⟨w', ?_, hc⟩
        simp [execOp, e0, hcst, go_sem]
       | 6, _ =>
        cases hi
        rw [if_neg (by first | (simp [wantV]; done) | (simp [wantV]; rfl))]
        rfl
       | 7, _ =>
        cases hi
        rw [if_neg (by first | (simp [wantV]; done) | (simp [wantV]; rfl))]
        rfl
       | 8, _ =>
        cases hi
        rw [if_neg (by first | (simp [wantV]; done) | (simp [wantV]; rfl))]
        rfl
       | 9, _ =>
        cases hi
        rw [if_neg (by first | (simp [wantV]; done) | (simp [wantV]; rfl))]
        rfl
       | 10, _ =>
        cases hi
        rw [if_neg (by first | (simp [wantV]; done) | (simp [wantV]; rfl))]
        rfl
       | 11, _ =>
        cases hi
        rw [if_neg (by first | (simp [wantV]; done) | (simp [wantV]; rfl))]
        rfl
       | 12, _ =>
        cases hi
        rw [if_neg (by first | (simp [wantV]; done) | (simp [wantV]; rfl))]
        rfl
       | 13, _ =>
        cases hi
        rw [if_pos (by first | rfl | simp [wantV])]
        have e0 : ev (.tmp 29) = .bool true := hin 29 5 ⟨5, .data⟩
        have e1 : ev (.tmp 36) = undef := hin 36 12 ⟨12, .data⟩
        refine .inl ⟨w', ?_, hc⟩
        simp [execOp, e0, e1, hcst, go_sem]
      ·intro w7 hc
       simp only [lexF, Act.put, List.setIfInBounds_toArray, List.set_cons_succ, List.set_cons_zero, List.getD_cons_succ, List.getD_cons_zero]
       subst hc
       go_wp2
       go_ret2
       exact ⟨HBA.out.drew, .inl ⟨E.out, rfl⟩⟩
    ·obtain rfl : i = n := by omega
     have hlt3 : ¬ (i : Int) < (i : Int) := by omega
     have I' := I.out
     rw [HN.out, <- HLN.out, List.take_length] at I'
     have E : Hid (isWhole (fpLs ps) = true) := by
      show _ = _
      have h1 : 4 <= (fpLs ps).length := by rw [HLN.out, <- HN.out]; have := H4.out; omega
      have h2 : x0 ≠ 0 := H0.out
      simp only [isWhole, decide_eq_true h1, HH.out, I'.1, decide_eq_true h2, Bool.and_self]
     have II := hide I'
     clear I'
     go_wp2
     go_ret2
     exact ⟨II.out.2.2.2, .inr ⟨E.out, va, vn, vc, rfl, II.out.2.1, II.out.2.2.1⟩⟩
structure Like (S S' : Dv) : Prop where
 cs : S'.cs = S.cs
 armed : S'.armed = S.armed
 off : S'.off = S.off
 losses : S'.losses = S.losses
theorem Like.refl (S : Dv) : Like S S := ⟨rfl, rfl, rfl, rfl⟩
theorem Like.trans {a b c : Dv} (h : Like a b) (k : Like b c) : Like a c := ⟨k.cs.trans h.cs, k.armed.trans h.armed, k.off.trans h.off, k.losses.trans h.losses⟩
theorem like_read (S : Dv) (k : Int) : Like S (S.readDo k) := by
 unfold Dv.readDo
 split
 ·exact Like.refl S
 ·split
  ·exact Like.refl S
  ·exact ⟨rfl, rfl, rfl, rfl⟩
def pgText : Pg -> Option (List UInt8)
 | ⟨some (some b)⟩ => some (full b).data.toList
 | _ => none
def fmPg (p : Pg) : Option (List UInt8) := (pgText p).bind fun l => if isForm l = true then some l else none
def fmAt (cs : List Cl) (k : Nat) : Option (List UInt8) := (cs[k]?).bind fun c => fmPg c.now
def forms (cs : List Cl) (base : Nat) : Nat -> List (List UInt8)
 | 0 => []
 | k + 1 => forms cs base k ++ (fmAt cs (base + k)).toList
def maxNum (n : Nat) (ls : List (List UInt8)) : Nat := ls.foldl (fun m l => max m (fmNum l)) n
def cnt (cs : List Cl) (base : Nat) : Option (Nat × List It) :=
 if isWhole (forms cs base 4) = true then (lst (content (forms cs base 4))).map fun xs => (headNum (forms cs base 4), xs) else none
theorem forms_len (cs : List Cl) (base : Nat) : ∀ k, (forms cs base k).length <= k
 | 0 => by simp [forms]
 | k + 1 => by
  have := forms_len cs base k
  rw [forms, List.length_append]
  cases fmAt cs (base + k) <;> simp <;> omega
theorem maxNum_snoc (n : Nat) (ls : List (List UInt8)) (l : List UInt8) : maxNum n (ls ++ [l]) = max (maxNum n ls) (fmNum l) := by simp [maxNum]
theorem read_page {d : Nat} {F : List Nat} {S : Dv} {k : Nat} {c : Cl} (hk : S.cs[k]? = some c) (hoff : S.off = false) :
  ∃ (rv : Nat -> Value) (er : Int), (∀ w, DvAt w d F S -> Calls Tryz.prog 99 #[.pointer (some ⟨d, 0, none⟩), .int .i64 (k : Nat)] w fun e w' => e = .returned (.tuple #[rv w.heap.size, .int .i64 er]) /\ DvAt w' d F (S.readDo (k : Nat)) /\ Keep F w w' /\
    (∀ l, pgText c.now = some l -> Blk w' (w.heap.size + 1) (bCells l) 5 /\ l.length = 384)) /\
   ((er ≠ 0 /\ (∀ n, rv n = .slice none 0 0) /\ pgText c.now = none) \/ (er = 0 /\ (∀ n, rv n = .slice (some ⟨n + 1, 0, none⟩) 384 384) /\ ∃ l, pgText c.now = some l)) := by
 rcases hp : c.now with ⟨_ | _ | b⟩
 ·refine ⟨fun _ => .slice none 0 0, 5, fun w h => (read_bare hk hoff hp (e0 := 5) rfl (by omega) w h).mono ?_, .inl ⟨by omega, fun _ => rfl, rfl⟩⟩
  rintro e w2 ⟨rfl, h2, k2⟩
  exact ⟨rfl, h2, k2, fun l hl => by cases hl⟩
 ·refine ⟨fun _ => .slice none 0 0, 6, fun w h => (read_bare hk hoff hp (e0 := 6) rfl (by omega) w h).mono ?_, .inl ⟨by omega, fun _ => rfl, rfl⟩⟩
  rintro e w2 ⟨rfl, h2, k2⟩
  exact ⟨rfl, h2, k2, fun l hl => by cases hl⟩
 ·obtain ⟨e1, e2⟩ := read_facts hk hoff
  rw [hp] at e1 e2
  refine ⟨fun n => .slice (some ⟨n + 1, 0, none⟩) 384 384, 0, fun w h => (read_at d F S k w h).mono ?_, .inr ⟨rfl, fun _ => rfl, _, rfl⟩⟩
  rintro r w1 ⟨v, rfl, hr, hd1, kp1⟩
  rw [e1, e2] at hr
  rw [e1]
  rcases hr with ⟨h0, _⟩ | ⟨_, hsz, g, rfl, rfl, hb⟩
  ·exact absurd rfl h0
  ·refine ⟨rfl, hd1, kp1, fun l hl => ?_⟩
   cases hl
   exact ⟨hb, by rw [Array.length_toList]; exact hsz⟩
structure Rd1 (w wr : World) (l d m : Nat) (v5 v6 v7 : Value) (T : Lg) (S : Dv) (F : List Nat) (base i : Nat) (pv : Value) (n : Nat) (fps : List Fp) : Prop where
 dev : ∃ S', Like S S' /\ DvAt wr d F S'
 lg : LgIn wr l d m v5 v6 v7 { T with num := maxNum T.num (forms S.cs base i) }
 keep : Keep (l :: F) w wr
 ls : fpLs fps = forms S.cs base i
 len : n = fps.length
 row : wr.ownsRow w.heap.size 259 3 pv n (fpRow fps)
 at' : ∀ p ∈ fps, FpAt wr p /\ w.heap.size <= p.g
section
variable {w wr : World} {l d m : Nat} {v5 v6 v7 : Value} {T : Lg} {S : Dv} {F : List Nat} {base i n : Nat} {pv : Value} {fps : List Fp}
theorem Rd1.dv (h : Rd1 w wr l d m v5 v6 v7 T S F base i pv n fps) (hF : ∀ k ∈ F, k < w.heap.size) {w1 : World} {S1 : Dv} (hl : Like S S1) (hd : DvAt w1 d F S1) (k : Keep F wr w1) : Rd1 w w1 l d m v5 v6 v7 T S F base i pv n fps := by
 obtain ⟨S', _, hS'⟩ := h.dev
 have hs := h.keep.size
 refine ⟨⟨S1, hl, hd⟩, h.lg.dev hS' k, h.keep.trans k (fun x hx => .inl (by simp [hx])), h.ls, h.len, own_same h.row (fun q hq => ?_), fun p hp => ⟨(h.at' p hp).1.same ?_, (h.at' p hp).2⟩⟩
 ·obtain ⟨c, hc⟩ := own_ty h.row hq
  have hq0 : w.heap.size <= q := by
   rcases h.row.2 with ⟨h1, _⟩ | ⟨g1, cap, cur, h1, h2, _⟩
   ·rw [h1] at hq; cases hq
   ·rw [h1] at hq; simp [Value.ownBlock] at hq; subst hq; exact h2
  exact k.block q (Array.getElem?_eq_some_iff.1 hc).1 (fun hf => by have := hF q hf; omega)
 ·have h1 := h.at' p hp
  exact k.block p.g h1.1.glt (fun hf => by have := hF p.g hf; omega)
theorem Rd1.below (h : Rd1 w wr l d m v5 v6 v7 T S F base i pv n fps) (hF : ∀ k ∈ F, k < w.heap.size) {w1 : World} (b : Below wr.heap.size wr w1) : Rd1 w w1 l d m v5 v6 v7 T S F base i pv n fps := by
 obtain ⟨S', h1, h2⟩ := h.dev
 exact h.dv hF h1 (h2.below b) (Keep.of_below b)
theorem Rd1.skip (h : Rd1 w wr l d m v5 v6 v7 T S F base i pv n fps) (hp : fmAt S.cs (base + i) = Option.none) : Rd1 w wr l d m v5 v6 v7 T S F base (i + 1) pv n fps := by
 have e : forms S.cs base (i + 1) = forms S.cs base i := by rw [forms, hp]; simp
 refine ⟨h.dev, by rw [e]; exact h.lg, h.keep, by rw [e]; exact h.ls, h.len, h.row, h.at'⟩
end
theorem enter38 (args : Array Value) (w : World) : (callFunc 174 args).run Tryz.prog w = .ok (.enter 174 args) w := enters_of Tryz.func174 (by kernel_rfl) rfl args w
theorem enter37 (args : Array Value) (w : World) : (callFunc 99 args).run Tryz.prog w = .ok (.enter 99 args) w := enters_of Tryz.func99 (by kernel_rfl) rfl args w
end Go.Proofs.YtcdghalnneilpaaGreat
