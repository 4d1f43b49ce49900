/- Joined texts: Dc3, Dc4. -/
import Derived.Test.YtdkiegkgnimapabDoorDc2
/- drop, giver. -/
set_option linter.unusedVariables false
set_option linter.unusedSimpArgs false
set_option maxRecDepth 8000
namespace Go.Proofs.YtdkiegkgnimapabDoor
open Go.RowKit Go.Deep Drm Go.Shelf
open Sgg (I64 SM)
open Sgm (ids addS tchS rmvS evi eviS)
open Slb (Pg SlIn tkC tkE tkL frE frL ofI takI)
open Tbl (TM txt hsh)
open Tab (Tb fnd)
section
variable {w0 W W' : World} {c : Nat} {d : Dm} {i : Int}
theorem Drm.Iv.i64 (h : Iv d) (hi : i ∈ nums d.it) : I64 i := by
  obtain ⟨n, rfl, _, h3⟩ := h.num hi
  unfold I64
  omega
theorem Drm.Iv.ofI (h : Iv d) (hi : i ∈ nums d.it) : ofI d.pg i = (Drm.cls i d : Int) := by
  unfold Slb.ofI
  rw [if_pos ((h.bit i).2 hi)]
  exact (h.cls hi).2
/-- A cache from which one is gone: what is left in memory says so. -/
theorem DL.out {a : Ad} {k : Nat} {s' : Sgm.St} {o : Ou} {F : List Nat} (hI : Iv d) (hI2 : Iv (outD k s' i d)) (hg : Tab.Good hsh a.tb) (ho : (i, o) ∈ d.it) (t1 : ∀ k, fnd k a.tb.all = kfd k d.it) (t2 : a.tb.all.length = d.it.length)
    (m : ML w0 c (a.tab (a.tb.delT hsh o.x.k) F) (frL d.pg i) (updS d.sg k s') (d.it.length - 1) (updO (fun i => lok i d.it) i none) W') : DL w0 c (outD k s' i d) W' := by
  have hi : i ∈ nums d.it := List.mem_map.2 ⟨_, ho, rfl⟩
  have e1 : frL d.pg i = Slb.clr d.pg i.toNat := by unfold Slb.frL; rw [if_pos ((hI.bit i).2 hi)]
  have e2 := outN_len hI.nd hi
  have e3 : updO (fun i => lok i d.it) i none = fun j => lok j (outN i d.it) := by
    funext j
    rw [lok_outN]
    unfold updO
    split <;> rfl
  rw [e1, e3, show d.it.length - 1 = (outN i d.it).length by omega] at m
  refine ⟨⟨_, m, fun key => ?_, ?_⟩, hI2⟩
  · show fnd key (a.tb.delT hsh o.x.k).all = kfd key (outN i d.it)
    rw [hg.fnd_delT, kfd_outN hI.kn hI.nd ho, t1]
  · show (a.tb.delT hsh o.x.k).all.length = (outN i d.it).length
    have h1 := hg.len_delT o.x.k
    have h2 : kfd o.x.k d.it = some i := (kfd_some hI.kn).2 ⟨o, ho, rfl⟩
    rw [t1, h2] at h1
    simp at h1
    omega
set_option maxHeartbeats 1000000 in
theorem drop_d (h : DL w0 c d W) (hi : i ∈ nums d.it) : Calls Tryd.prog 27 #[.pointer (some ⟨c, 0, none⟩), .int .i64 i] W fun e W' => e = .returned (.tuple #[]) ∧ DL w0 c (dropD i d) W' ∧ OffD W W' := by
  obtain ⟨a, m, t1, t2⟩ := h.ml
  have hI := h.iv
  have hi64 := hI.i64 hi
  have hn := h.sgl (hI.cls hi).1
  have hf := h.few
  obtain ⟨o, ho⟩ : ∃ o, lok i d.it = some o := Option.isSome_iff_exists.1 (lok_isSome.2 hi)
  have hm := (lok_some hI.nd).1 ho
  have hok := hI.ok _ hm
  have c1 := hide (segOf_p m hI.good hi64.2 (hI.cls hi).1 (hI.ofI hi))
  have HE : Hid (∀ W1, Below W.heap.size W W1 → Calls Tryd.prog 50 #[.pointer (some ⟨a.g (Drm.cls i d), 0, none⟩), .int .i64 i] W1 fun e W' => e = .returned (.bool ((d.sg (Drm.cls i d)).has i)) ∧ ∃ F', ML w0 c (a.seg (Drm.cls i d) F') d.pg (updS d.sg (Drm.cls i d) (rmvS i (d.sg (Drm.cls i d)))) d.it.length (fun i => lok i d.it) W' ∧ OffD W1 W') := fun W1 b => srmv_p (hI.cls hi).1 (m.on b) hi64 (by omega)
  have HF : Hid (∀ F' W2, ML w0 c (a.seg (Drm.cls i d) F') d.pg (updS d.sg (Drm.cls i d) (rmvS i (d.sg (Drm.cls i d)))) d.it.length (fun i => lok i d.it) W2 → Calls Tryd.prog 40 #[.pointer (some ⟨c, 0, none⟩), .int .i64 i] W2 fun e W' => e = .returned (ouV o) ∧ DL w0 c (dropD i d) W' ∧ OffD W2 W') := fun F' W2 m2 => by
    refine (free_q m2 hI.good hi64 ho (by have := hok.2.1; show o.x.k.length ≤ _; simp only at this; omega) (by show a.tb.all.length ≤ _; omega)).mono ?_
    rintro e W' ⟨rfl, F2, m3, o3⟩
    exact ⟨rfl, DL.out (a := a.seg (Drm.cls i d) F') hI (hI.drop hi) m.mx.tm.good hm t1 t2 m3, o3⟩
  generalize a.g (Drm.cls i d) = agk at *
  generalize (d.sg (Drm.cls i d)).has i = bb at *
  clear m t1 t2 hI hi64 hn hf ho hm hok h
  go_enter Tryd.func27, Tryd.ntmps27
  go_wp2_with fail
  refine c1.out.mono ?_
  rintro e W1 ⟨rfl, b1⟩
  have c2 := hide (HE.out W1 b1)
  have O1 := hide (OffD.below b1)
  clear c1 b1 HE
  go_wp2_with fail
  refine c2.out.mono ?_
  rintro e W2 ⟨rfl, F', m2, o2⟩
  have c3 := hide (HF.out F' W2 m2)
  have O2 := hide (O1.out.trans o2)
  unfold ouV at c3
  clear c2 m2 o2 HF O1
  go_wp2_with fail
  refine c3.out.mono ?_
  rintro e W3 ⟨rfl, m3, o3⟩
  have HD := hide (And.intro m3 (O2.out.trans o3))
  clear m3 o3 c3
  go_wp2
  go_end0
  exact ⟨rfl, HD.out⟩
theorem giv_hit {cl : Nat} (h : 0 < (d.sg cl).all.length) : giv cl d = cl := by unfold giv; rw [if_pos h]
theorem giv_miss {cl : Nat} (h : ¬ 0 < (d.sg cl).all.length) : giv cl d = mostF d.sg 6 := by unfold giv; rw [if_neg h]
theorem ret_pp {a b : Nat} (h : a = b) : Ending.returned (.pointer (some ⟨a, 0, none⟩)) = .returned (.pointer (some ⟨b, 0, none⟩)) := by rw [h]
set_option maxHeartbeats 1000000 in
theorem giver_d {a : Ad} {n : Nat} {M : Int → Option Ou} (m : ML w0 c a d.pg d.sg n M W) {cl : Nat} (hcl : cl < 6) (hs : ∀ k, k < 6 → (d.sg k).all.length ≤ 100000) :
    Calls Tryd.prog 38 #[.pointer (some ⟨c, 0, none⟩), .int .i64 (cl : Int)] W fun e W' => e = .returned (.pointer (some ⟨a.g (giv cl d), 0, none⟩)) ∧ W' = W := by
  have c2 := m.c2
  have r0 := m.r (k := 0) (by decide)
  have rc := m.r hcl
  have HR : Hid (∀ r, r < 6 → W.cell? ⟨a.b, r, none⟩ = some (.pointer (some ⟨a.g r, 0, none⟩))) := fun r hr => m.r hr
  have HC : Hid (∀ k, k < 6 → Calls Tryd.prog 59 #[.pointer (some ⟨a.g k, 0, none⟩)] W fun e W' => e = .returned (.int .i64 ((d.sg k).all.length : Int)) ∧ W' = W) := fun k hk => slen_p hk m
  have hc6 : (cl : Int) < 6 := by omega
  have cc := hide (HC.out cl hcl)
  by_cases h0 : 0 < (d.sg cl).all.length
  · rw [giv_hit h0]
    generalize (d.sg cl).all.length = z at *
    have h0' : (0 : Int) < (z : Int) := by omega
    clear m HR HC hs r0 h0
    go_enter Tryd.func38, Tryd.ntmps38
    go_wp2_with fail
    refine cc.out.mono ?_
    rintro e wx ⟨rfl, hx⟩
    obtain rfl : W = wx := hx.symm
    clear hx cc
    go_wp2
    go_ret
    exact ⟨rfl, rfl⟩
  · rw [giv_miss h0]
    generalize (d.sg cl).all.length = z at *
    obtain rfl : z = 0 := by omega
    have HS := hide hs
    clear m hs h0
    go_enter Tryd.func38, Tryd.ntmps38
    go_wp2_with fail
    refine cc.out.mono ?_
    rintro e wx ⟨rfl, hx⟩
    obtain rfl : W = wx := hx.symm
    clear hx cc
    go_wp2
    go_loopg [5, 7, 35] 6 (fun kx s5 s7 s35 wr => ∃ (r : Nat), s35 = .int .i64 (r : Int) ∧ s5 = .pointer (some ⟨a.g (mostF d.sg r), 0, none⟩) ∧ wr = W ∧ Hid (r ≤ 6 ∧ 6 - r ≤ kx))
    case atStart => exact ⟨0, rfl, rfl, rfl, by decide, by decide⟩
    case round =>
      obtain ⟨r, rfl, rfl, rfl, I⟩ := hrel
      by_cases hlt : r < 6
      · have hlt2 : (r : Int) < 6 := by omega
        have rr := HR.out r hlt
        have ca := hide (HC.out r hlt)
        have hmq : mostF d.sg r < 6 := by
          cases r with
          | zero => simp [mostF]
          | succ r => have := mostF_lt d.sg r; omega
        have cb := hide (HC.out (mostF d.sg r) hmq)
        have HM : Hid (mostF d.sg (r + 1) = if (d.sg (mostF d.sg r)).all.length < (d.sg r).all.length then r else mostF d.sg r) := rfl
        generalize (d.sg (mostF d.sg r)).all.length = y at *
        generalize (d.sg r).all.length = x at *
        obtain ⟨gm, hgm⟩ : ∃ gm, gm = a.g (mostF d.sg r) := ⟨_, rfl⟩
        rw [← hgm] at cb ⊢
        have HGM := hide hgm
        clear hgm
        have HRL := hide hlt
        clear hlt hmq
        go_wp2_with fail
        refine ca.out.mono ?_
        rintro e wx ⟨rfl, hx⟩
        obtain rfl : wr = wx := hx.symm
        clear hx ca
        go_wp2_with fail
        refine cb.out.mono ?_
        rintro e wx ⟨rfl, hx⟩
        obtain rfl : wr = wx := hx.symm
        clear hx cb
        by_cases hxy : y < x
        · have hxy2 : (y : Int) < (x : Int) := by omega
          rw [if_pos hxy] at HM
          clear hxy
          go_wp2
          go_roundg (6 - (r + 1))
          case measure => have := I.out; have := HRL.out; omega
          case rel => exact ⟨r + 1, rfl, by rw [HM.out], rfl, by have := HRL.out; omega, Nat.le_refl _⟩
        · have hxy2 : ¬ (y : Int) < (x : Int) := by omega
          rw [if_neg hxy] at HM
          clear hxy
          go_wp2
          go_roundg (6 - (r + 1))
          case measure => have := I.out; have := HRL.out; omega
          case rel => exact ⟨r + 1, rfl, by rw [HM.out, HGM.out], rfl, by have := HRL.out; omega, Nat.le_refl _⟩
      · have hlt2 : ¬ (r : Int) < 6 := by omega
        obtain rfl : r = 6 := by have := I.out.1; omega
        go_wp2
        go_ret
        exact ⟨rfl, rfl⟩
end
end Go.Proofs.YtdkiegkgnimapabDoor

/- room: a chunk is taken, others are let go for it. -/
set_option linter.unusedVariables false
set_option linter.unusedSimpArgs false
set_option maxRecDepth 8000
namespace Go.Proofs.YtdkiegkgnimapabDoor
open Go.RowKit Go.Deep Drm Go.Shelf
open Sgg (I64 SM)
open Sgm (ids addS tchS rmvS evi eviS)
open Slb (Pg SlIn tkC tkE tkL frE frL ofI takI)
open Tbl (TM txt hsh)
open Tab (Tb fnd)

theorem info42 : (Tryd.prog.info? 40).map (fun i => (i.zero, i.size, i.bytes)) = some (some (.agg #[.string ⟨#[]⟩, .string ⟨#[]⟩, .int .u32 0, .int .i64 0, .int .u64 0, .bool false]), 6, 64) := by kernel_rfl
/-- Rows of what is let go, or told. -/
def ouK : Kd Ou := ⟨27, 40, 6, ouL, fun _ => rfl, Tryd.underlying27, .agg #[.string ⟨#[]⟩, .string ⟨#[]⟩, .int .u32 0, .int .i64 0, .int .u64 0, .bool false], 64, info42, by decide, by decide, fun x u hu => by simp [ouL] at hu; rcases hu with rfl | rfl | rfl | rfl | rfl | rfl <;> rfl, rfl⟩
section
variable {w0 W W' : World} {c : Nat} {d : Dm} {i : Int}
/-- A row of another type turned beside a cache. -/
theorem ML.row {α : Type} {K : Kd α} {B : Nat} {v : Value} {xs : List α} {a : Ad} {pg : List Pg} {sg : Nat → Sgm.St} {n : Nat} {M : Int → Option Ou} (h : ML w0 c a pg sg n M W) (g : GR K B v xs W) (h1 : ours K.tE = false) (hB : w0.heap.size ≤ B) (k : Keep (ownB v) W W') : ML w0 c a pg sg n M W' :=
  h.beside k (fun x hx => ⟨Nat.le_trans hB (g.lt x hx).1, by obtain ⟨q, hq⟩ := g.ty x hx; exact ⟨q, _, hq, h1⟩⟩)
theorem DL.row {α : Type} {K : Kd α} {B : Nat} {v : Value} {xs : List α} (h : DL w0 c d W) (g : GR K B v xs W) (h1 : ours K.tE = false) (hB : w0.heap.size ≤ B) (k : Keep (ownB v) W W') : DL w0 c d W' := by
  obtain ⟨a, m, t1, t2⟩ := h.ml
  exact ⟨⟨a, m.row g h1 hB k, t1, t2⟩, h.iv⟩
/-- What was there ahead of a row that is newer stays when the row is turned. -/
theorem OffD.row {W0 : World} (h : OffD W0 W) {G : List Nat} (hG : ∀ x ∈ G, W0.heap.size ≤ x) (k : Keep G W W') : OffD W0 W' := ⟨Nat.le_trans h.1 k.size, fun b q t hq ht => by
  have hb := (Array.getElem?_eq_some_iff.1 hq).1
  exact (k.block b (Nat.lt_of_lt_of_le hb h.1) (fun hm => by have := hG b hm; omega)).trans (h.2 b q t hq ht)⟩
/-- What room leaves: a chunk of the class is taken, those that are let go are out. -/
def RoomP (w0 : World) (c cl : Nat) (d : Dm) (W : World) (v : Value) (W' : World) : Prop := (∃ a, ML w0 c a (tkL cl (room cl d).1.pg) (room cl d).1.sg (room cl d).1.it.length (fun i => lok i (room cl d).1.it) W' ∧ (∀ k, fnd k a.tb.all = kfd k (room cl d).1.it) ∧ a.tb.all.length = (room cl d).1.it.length) ∧
  GR ouK W.heap.size v (room cl d).2 W' ∧ OffD W W'
def RoomQ (w0 : World) (c cl : Nat) (d : Dm) (W : World) (e : Ending) (W' : World) : Prop := ∃ va n vc, e = .returned (.tuple #[.int .i64 (tkC cl (room cl d).1.pg : Int), .slice va n vc]) ∧ RoomP w0 c cl d W (.slice va n vc) W'
/-- One more is let go. -/
def EvP (w0 : World) (c : Nat) (D : Dm) (k : Nat) (o : Ou) (i : Int) (W : World) (e : Ending) (W' : World) : Prop := e = .returned (ouV o) ∧ DL w0 c (evD k i D) W' ∧ OffD W W'
set_option maxHeartbeats 4000000 in
theorem room_d (h : DL w0 c d W) {cl : Nat} (hcl : cl < 6) : Calls Tryd.prog 22 #[.pointer (some ⟨c, 0, none⟩), .int .i64 (cl : Int)] W (RoomQ w0 c cl d W) := by
  have HH := hide h
  have HW := hide h.bel.size
  obtain ⟨N, hN⟩ : ∃ N, N = d.it.length := ⟨_, rfl⟩
  have HN := hide hN
  have HF := hide h.few
  clear hN h
  go_enter Tryd.func22, Tryd.ntmps22
  go_wp2
  go_loopg [6, 7, 8, 9, 10] N (fun kx s6 s7 s8 s9 s10 wr => ∃ (D : Dm) (G : List Ou) (va : Option Addr) (n vc : Nat), s6 = .slice va n vc ∧ Hid (DL w0 c D wr ∧ GR ouK W.heap.size (.slice va n vc) G wr ∧ n = G.length ∧ G.length + D.it.length = N ∧ room cl d = ((room cl D).1, G ++ (room cl D).2) ∧ D.it.length ≤ kx ∧ OffD W wr))
  case atStart => exact ⟨d, [], none, 0, 0, rfl, HH.out, GR.nil _ _ _, rfl, by rw [HN.out]; simp, rfl, by rw [HN.out]; exact Nat.le_refl _, OffD.refl _⟩
  case round =>
    obtain ⟨D, G, va, n, vc, rfl, I⟩ := hrel
    obtain ⟨a, m, t1, t2⟩ := I.out.1.ml
    have hI := I.out.1.iv
    have c0 := m.c0
    have cT := hide (take_p m hI.good hcl)
    obtain ⟨te, hte⟩ : ∃ te, te = tkE cl D.pg := ⟨_, rfl⟩
    obtain ⟨tc, htc⟩ : ∃ tc, tc = tkC cl D.pg := ⟨_, rfl⟩
    rw [← hte, ← htc] at cT
    by_cases h0 : tkE cl D.pg = 0
    · obtain rfl : te = 0 := hte.trans h0
      have hrm := room_stop h0
      have HE : Hid (∀ wr' : World, ML w0 c a (tkL cl D.pg) D.sg D.it.length (fun i => lok i D.it) wr' ∧ OffD wr wr' → RoomQ w0 c cl d W (.returned (.tuple #[.int .i64 (tc : Int), .slice va n vc])) wr') := fun wr' hm => by
        have h1 := I.out.2.2.2.2.1
        rw [hrm, List.append_nil] at h1
        refine ⟨va, n, vc, ?_, ⟨a, ?_, ?_, ?_⟩, ?_, ?_⟩
        · rw [h1, htc]
        · rw [h1]; exact hm.1
        · rw [h1]; exact t1
        · rw [h1]; exact t2
        · rw [h1]; exact I.out.2.1.offD hm.2 rfl
        · exact I.out.2.2.2.2.2.2.trans hm.2
      clear m t1 t2 hI hte htc h0 hrm I HH HN HF
      go_wp2_with fail
      refine cT.out.mono ?_
      rintro e W1 ⟨rfl, m1⟩
      have HE1 := hide (HE.out W1 m1)
      clear cT m1 HE c0
      go_wp2
      exact bodyPost_ret (v := .tuple #[.int .i64 (tc : Int), .slice va n vc]) (by simp [results, Tryd.results22, go_sem]) rfl HE1.out
    · have hpn : Slb.pfor cl D.pg = none := by
        cases hp : Slb.pfor cl D.pg with
        | none => rfl
        | some q =>
          obtain ⟨p, hpa, _⟩ := Slb.pfor_ok hcl hI.good hp
          exact absurd (Slb.tk_some hp hpa).2.1 h0
      obtain ⟨-, e7, eL⟩ := Slb.tk_none hpn
      obtain rfl : te = 7 := hte.trans e7
      rw [eL] at cT
      obtain ⟨j, hj⟩ := hI.giver hcl h0
      have hk6 := giv_lt hcl D
      obtain ⟨hI2, hjm⟩ := hI.evict hk6 hj
      obtain ⟨o, ho⟩ : ∃ o, lok j D.it = some o := Option.isSome_iff_exists.1 (lok_isSome.2 hjm)
      have hom := (lok_some hI.nd).1 ho
      have hok := hI.ok _ hom
      have hj64 := hI.i64 hjm
      have hstep := room_step hI hcl h0 hj ho
      have hlen := outN_len hI.nd hjm
      have hfew := I.out.1.few
      have hsg : ∀ k, k < 6 → (D.sg k).all.length ≤ 100000 := fun k hk => Nat.le_trans (I.out.1.sgl hk) (by decide)
      have HG : Hid (∀ W1, ML w0 c a D.pg D.sg D.it.length (fun i => lok i D.it) W1 → Calls Tryd.prog 38 #[.pointer (some ⟨c, 0, none⟩), .int .i64 (cl : Int)] W1 fun e W' => e = .returned (.pointer (some ⟨a.g (giv cl D), 0, none⟩)) ∧ W' = W1) := fun W1 m1 => giver_d m1 hcl hsg
      have HV : Hid (∀ W1, ML w0 c a D.pg D.sg D.it.length (fun i => lok i D.it) W1 → Calls Tryd.prog 39 #[.pointer (some ⟨a.g (giv cl D), 0, none⟩)] W1 fun e W' => e = .returned (.tuple #[.int .i64 j, .bool true]) ∧ ∃ F', ML w0 c (a.seg (giv cl D) F') D.pg (updS D.sg (giv cl D) (eviS (D.sg (giv cl D)))) D.it.length (fun i => lok i D.it) W' ∧ OffD W1 W') := fun W1 m1 => by
        have := sevi_p hk6 m1 (hsg _ hk6)
        rw [hj] at this
        exact this
      have HF2 : Hid (∀ F' W2, ML w0 c (a.seg (giv cl D) F') D.pg (updS D.sg (giv cl D) (eviS (D.sg (giv cl D)))) D.it.length (fun i => lok i D.it) W2 → Calls Tryd.prog 40 #[.pointer (some ⟨c, 0, none⟩), .int .i64 j] W2 (EvP w0 c D (giv cl D) o j W2)) := fun F' W2 m2 => by
        refine (free_q m2 hI.good hj64 ho (by have := hok.2.1; show o.x.k.length ≤ _; simp only at this; omega) (by show a.tb.all.length ≤ _; omega)).mono ?_
        rintro e W' ⟨rfl, F2, m3, o3⟩
        exact ⟨rfl, DL.out (a := a.seg (giv cl D) F') hI hI2 m.mx.tm.good hom t1 t2 m3, o3⟩
      have HRM : Hid (room cl d = ((room cl (evD (giv cl D) j D)).1, (G ++ [o]) ++ (room cl (evD (giv cl D) j D)).2)) := by
        show room cl d = _
        rw [I.out.2.2.2.2.1, hstep]
        simp
      have HEL : Hid ((evD (giv cl D) j D).it.length + 1 = D.it.length) := hlen
      clear m t1 t2 hI hte htc h0 hpn e7 eL hj hk6 hI2 hjm ho hom hok hj64 hstep hlen hfew hsg
      generalize a.g (giv cl D) = agk at *
      obtain ⟨D2, hD2⟩ : ∃ D2, D2 = evD (giv cl D) j D := ⟨_, rfl⟩
      rw [← hD2] at HRM HEL
      have HD2 := hide hD2
      clear hD2
      go_wp2_with fail
      refine cT.out.mono ?_
      rintro e W1 ⟨rfl, m1, o1⟩
      have cG := hide (HG.out W1 m1)
      have cV := hide (HV.out W1 m1)
      have O1 := hide o1
      clear cT m1 HG HV c0 o1
      go_wp2_with fail
      refine cG.out.mono ?_
      rintro e wx ⟨rfl, hx⟩
      obtain rfl : W1 = wx := hx.symm
      clear hx cG
      go_wp2_with fail
      refine cV.out.mono ?_
      rintro e W2 ⟨rfl, F', m2, o2⟩
      have cF := hide (HF2.out F' W2 m2)
      have O2 := hide (O1.out.trans o2)
      clear cV m2 o2 HF2 O1
      go_wp2_with fail
      refine cF.out.mono ?_
      rintro e W3 ⟨rfl, m3, o3⟩
      have O3 := O2.out.trans o3
      have g3 := I.out.2.1.offD O3 rfl
      have hl := I.out.2.2.1
      have hbz : W.heap.size ≤ W3.heap.size := Nat.le_trans I.out.2.2.2.2.2.2.1 O3.1
      obtain ⟨va2, vc2, W4, hrun, hS, hK, hO⟩ := snoc_g g3 hbz o (by have := I.out.2.2.2.1; have := HN.out; have := HF.out; omega)
      rw [← hl] at hrun hS hO
      have HS : Hid (DL w0 c D2 W4 ∧ GR ouK W.heap.size (.slice va2 (n + 1) vc2) (G ++ [o]) W4 ∧ n + 1 = (G ++ [o]).length ∧ (G ++ [o]).length + D2.it.length = N ∧ room cl d = ((room cl D2).1, (G ++ [o]) ++ (room cl D2).2) ∧ D2.it.length ≤ D2.it.length ∧ OffD W W4) := by
        refine ⟨?_, hS, by simp [hl], ?_, HRM.out, Nat.le_refl _, (I.out.2.2.2.2.2.2.trans O3).row (fun q hq => (g3.lt q hq).1) hK⟩
        · rw [HD2.out]
          exact m3.row g3 rfl HW.out hK
        · have := I.out.2.2.2.1
          have := HEL.out
          simp
          omega
      have HR : Hid (∀ ty, (Builtin.append_ #[27, 27] ty #[.slice va n vc, .slice (some ⟨W3.heap.size, 0, none⟩) 1 1]).run Tryd.prog (W3.alloc (.cells #[.string (txt o.x.k), .string (txt o.x.v), .int .u32 o.x.fl, .int .i64 o.x.ex, .int .u64 o.x.ve, .bool o.c] 40)) = .ok (.slice va2 (n + 1) vc2) W4) := hrun
      have HKX := hide I.out.2.2.2.2.2.1
      unfold ouV
      generalize txt o.x.k = tk at *
      generalize txt o.x.v = tv at *
      clear cF m3 o3 O3 g3 hl hbz hrun hS hK hO I O2
      go_wp2_with (at_builtin; refine Lib.wpList_append_run _ rfl _ _ _ _ rfl _ _ rfl rfl _ _ (HR.out _) ?_)
      go_roundg (D2.it.length)
      case measure => have := HKX.out; have := HEL.out; omega
      case rel => exact ⟨D2, G ++ [o], va2, n + 1, vc2, rfl, HS.out⟩
end
end Go.Proofs.YtdkiegkgnimapabDoor

