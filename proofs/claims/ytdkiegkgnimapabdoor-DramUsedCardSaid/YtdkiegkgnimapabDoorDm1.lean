/- What a cache holds, and what each of its calls makes of it; nothing here speaks of memory. -/
import Derived.Test.YtdkiegkgnimapabDoorZl
import Derived.Test.YtdkiegkgnimapabDoorTMath
import Derived.Test.YtdkiegkgnimapabDoorZs
set_option linter.unusedVariables false
set_option linter.unusedSimpArgs false
namespace Go.Proofs.YtdkiegkgnimapabDoor.Drm
open Sgm (St0 ids addS tchS rmvS evi eviS)
open Slb (Pg tkC tkE tkL clr clsAt takI bitAt tot)
open Math

structure It where
  k : List UInt8
  v : List UInt8
  fl : Int
  ex : Int
  ve : Int
structure Ou where
  x : It
  c : Bool
abbrev Hd := Int × Ou
structure Dm where
  pg : List Pg
  sg : Nat → Sgm.St
  it : List Hd
def nums (l : List Hd) : List Int := l.map Prod.fst
def kys (l : List Hd) : List (List UInt8) := l.map fun e => e.2.x.k
def lok (i : Int) (l : List Hd) : Option Ou := (l.find? fun e => decide (e.1 = i)).map Prod.snd
def kfd (k : List UInt8) (l : List Hd) : Option Int := (l.find? fun e => decide (e.2.x.k = k)).map Prod.fst
def outN (i : Int) (l : List Hd) : List Hd := l.filter fun e => decide (e.1 ≠ i)
def updS (g : Nat → Sgm.St) (k : Nat) (s : Sgm.St) : Nat → Sgm.St := fun j => if j = k then s else g j
theorem updS_same (g : Nat → Sgm.St) (k : Nat) (s : Sgm.St) : updS g k s k = s := by simp [updS]
theorem updS_other (g : Nat → Sgm.St) {k j : Nat} (s : Sgm.St) (h : j ≠ k) : updS g k s j = g j := by simp [updS, h]

/-! ### The list of what is held -/
theorem lok_some {l : List Hd} (hn : (nums l).Nodup) {i : Int} {o : Ou} : lok i l = some o ↔ (i, o) ∈ l := by
  induction l with
  | nil => simp [lok]
  | cons e r ih =>
    unfold nums at hn
    rw [List.map_cons, List.nodup_cons] at hn
    have ih := ih hn.2
    unfold lok at ih ⊢
    rw [List.find?_cons]
    by_cases h : e.1 = i
    · rw [decide_eq_true h]
      simp only [Option.map_some, Option.some.injEq, List.mem_cons]
      constructor
      · rintro rfl; exact .inl (by rw [← h])
      · rintro (h2 | h2)
        · rw [← h2]
        · exact absurd (List.mem_map.2 ⟨(i, o), h2, h.symm⟩) hn.1
    · rw [decide_eq_false h]
      simp only [ih, List.mem_cons]
      constructor
      · exact .inr
      · rintro (h2 | h2)
        · exact absurd (by rw [← h2]) h
        · exact h2
theorem lok_none {l : List Hd} {i : Int} : lok i l = none ↔ i ∉ nums l := by
  unfold lok nums
  simp only [Option.map_eq_none_iff, List.find?_eq_none, decide_eq_true_eq, List.mem_map, not_exists, not_and]
theorem lok_isSome {l : List Hd} {i : Int} : (lok i l).isSome = true ↔ i ∈ nums l := by
  rw [Option.isSome_iff_ne_none, ne_eq, lok_none, Classical.not_not]
theorem kfd_some {l : List Hd} (hn : (kys l).Nodup) {k : List UInt8} {i : Int} : kfd k l = some i ↔ ∃ o, (i, o) ∈ l ∧ o.x.k = k := by
  induction l with
  | nil => simp [kfd]
  | cons e r ih =>
    unfold kys at hn
    rw [List.map_cons, List.nodup_cons] at hn
    have ih := ih hn.2
    unfold kfd at ih ⊢
    rw [List.find?_cons]
    by_cases h : e.2.x.k = k
    · rw [decide_eq_true h]
      simp only [Option.map_some, Option.some.injEq, List.mem_cons]
      constructor
      · rintro rfl; exact ⟨e.2, .inl rfl, h⟩
      · rintro ⟨o, h2 | h2, h3⟩
        · rw [← h2]
        · exact absurd (List.mem_map.2 ⟨(i, o), h2, by rw [h3, h]⟩) hn.1
    · rw [decide_eq_false h]
      simp only [ih, List.mem_cons]
      constructor
      · rintro ⟨o, h2, h3⟩; exact ⟨o, .inr h2, h3⟩
      · rintro ⟨o, h2 | h2, h3⟩
        · exact absurd (by rw [← h2]; exact h3) h
        · exact ⟨o, h2, h3⟩
theorem kfd_none {l : List Hd} {k : List UInt8} : kfd k l = none ↔ k ∉ kys l := by
  unfold kfd kys
  simp only [Option.map_eq_none_iff, List.find?_eq_none, decide_eq_true_eq, List.mem_map, not_exists, not_and]
theorem mem_outN {i : Int} {l : List Hd} {e : Hd} : e ∈ outN i l ↔ e ∈ l ∧ e.1 ≠ i := by simp [outN]
theorem nums_outN {i j : Int} {l : List Hd} : j ∈ nums (outN i l) ↔ j ∈ nums l ∧ j ≠ i := by
  simp only [nums, List.mem_map, mem_outN]
  constructor
  · rintro ⟨e, ⟨h1, h2⟩, rfl⟩; exact ⟨⟨e, h1, rfl⟩, h2⟩
  · rintro ⟨⟨e, h1, rfl⟩, h2⟩; exact ⟨e, ⟨h1, h2⟩, rfl⟩
theorem outN_sub (i : Int) (l : List Hd) : (outN i l).Sublist l := List.filter_sublist
theorem nums_nd {i : Int} {l : List Hd} (h : (nums l).Nodup) : (nums (outN i l)).Nodup := h.sublist ((outN_sub i l).map _)
theorem kys_nd {i : Int} {l : List Hd} (h : (kys l).Nodup) : (kys (outN i l)).Nodup := h.sublist ((outN_sub i l).map _)
theorem outN_len {i : Int} {l : List Hd} (hn : (nums l).Nodup) (hi : i ∈ nums l) : (outN i l).length + 1 = l.length := by
  induction l with
  | nil => simp [nums] at hi
  | cons e r ih =>
    unfold nums at hn hi
    rw [List.map_cons, List.nodup_cons] at hn
    unfold outN
    rw [List.filter_cons]
    by_cases h : e.1 = i
    · have : ∀ x ∈ r, decide (x.1 ≠ i) = true := fun x hx => by
        rw [decide_eq_true_eq]
        intro e2
        exact hn.1 (List.mem_map.2 ⟨x, hx, by rw [e2, h]⟩)
      rw [List.filter_eq_self.2 this]
      simp [h]
    · have h2 : i ∈ nums r := by
        rw [List.map_cons, List.mem_cons] at hi
        exact hi.resolve_left (fun e2 => h e2.symm)
      have := ih hn.2 h2
      unfold outN at this
      simp [h]
      simpa using this
/-- Behind the loss of a number its key is gone, and no other. -/
theorem kfd_outN {l : List Hd} (hk : (kys l).Nodup) (hn : (nums l).Nodup) {i : Int} {o : Ou} (h : (i, o) ∈ l) (k : List UInt8) : kfd k (outN i l) = if k = o.x.k then none else kfd k l := by
  by_cases e : k = o.x.k
  · rw [if_pos e, kfd_none]
    intro hm
    obtain ⟨x, hx, hxk⟩ := List.mem_map.1 hm
    obtain ⟨h1, h2⟩ := mem_outN.1 hx
    have a1 := (kfd_some hk (k := k) (i := x.1)).2 ⟨x.2, h1, hxk⟩
    have a2 := (kfd_some hk (k := k) (i := i)).2 ⟨o, h, e.symm⟩
    rw [a1] at a2
    exact h2 (Option.some.inj a2)
  · rw [if_neg e]
    cases hf : kfd k l with
    | none =>
      rw [kfd_none] at hf ⊢
      intro hm
      obtain ⟨x, hx, hxk⟩ := List.mem_map.1 hm
      exact hf (List.mem_map.2 ⟨x, (mem_outN.1 hx).1, hxk⟩)
    | some j =>
      obtain ⟨o', h1, h2⟩ := (kfd_some hk).1 hf
      refine (kfd_some (kys_nd hk)).2 ⟨o', mem_outN.2 ⟨h1, fun e2 => e ?_⟩, h2⟩
      simp only at e2
      subst e2
      have a1 := (lok_some hn).2 h1
      have a2 := (lok_some hn).2 h
      rw [a1] at a2
      rw [← h2, Option.some.inj a2]
theorem lok_outN {l : List Hd} {i j : Int} : lok j (outN i l) = if j = i then none else lok j l := by
  by_cases e : j = i
  · rw [if_pos e, lok_none, nums_outN]
    exact fun h => h.2 e
  · rw [if_neg e]
    unfold lok outN
    rw [List.find?_filter]
    congr 2
    funext x
    by_cases h : x.1 = j
    · simp [h, e]
    · simp [h]
theorem lok_snoc {l : List Hd} {i j : Int} {o : Ou} (h : i ∉ nums l) : lok j (l ++ [(i, o)]) = if j = i then some o else lok j l := by
  unfold lok
  rw [List.find?_append]
  by_cases e : j = i
  · subst e
    have : lok j l = none := lok_none.2 h
    unfold lok at this
    rw [Option.map_eq_none_iff] at this
    rw [this, if_pos rfl]
    simp
  · have : ¬ i = j := fun x => e x.symm
    rw [if_neg e]
    simp [this]
theorem kfd_snoc {l : List Hd} {i : Int} {o : Ou} {k : List UInt8} (h : o.x.k ∉ kys l) : kfd k (l ++ [(i, o)]) = if k = o.x.k then some i else kfd k l := by
  unfold kfd
  rw [List.find?_append]
  by_cases e : k = o.x.k
  · subst e
    have : kfd o.x.k l = none := kfd_none.2 h
    unfold kfd at this
    rw [Option.map_eq_none_iff] at this
    rw [this, if_pos rfl]
    simp
  · have : ¬ o.x.k = k := fun x => e x.symm
    rw [if_neg e]
    simp [this]

/-! ### Pages: what a chunk's class is behind Take and Free -/
theorem cls_clr (l : List Pg) (n m : Nat) : clsAt (clr l n) m = clsAt l m := by
  unfold clr
  split
  · rename_i p hp
    unfold clsAt
    by_cases e : n / 64 = m / 64
    · rw [← e, List.getElem?_set_self (List.getElem?_eq_some_iff.1 hp).1, hp]
    · rw [List.getElem?_set_ne e]
  · rfl
theorem cls_take {cl : Nat} (hcl : cl < 6) {l : List Pg} (hg : Slb.Good l) (he : tkE cl l = 0) : clsAt (tkL cl l) (tkC cl l) = (cl : Int) ∧ ∀ m, bitAt l m = true → clsAt (tkL cl l) m = clsAt l m := by
  cases hp : Slb.pfor cl l with
  | none => rw [(Slb.tk_none hp).2.1] at he; omega
  | some a =>
    obtain ⟨p, hpa, h64, _, _, hz, _⟩ := Slb.pfor_ok hcl hg hp
    obtain ⟨e1, _, e3⟩ := Slb.tk_some hp hpa
    have ha := (List.getElem?_eq_some_iff.1 hpa).1
    have d1 : (64 * a + lz 64 p.t) / 64 = a := by omega
    unfold Slb.tkn at e3
    refine ⟨?_, fun m hm => ?_⟩
    · rw [e1, e3]
      unfold clsAt
      rw [d1, List.getElem?_set_self ha]
    · rw [e3]
      unfold clsAt
      by_cases e : a = m / 64
      · rw [← e, List.getElem?_set_self ha, hpa]
        rcases hz with hz | hz
        · unfold bitAt at hm
          rw [← e, hpa] at hm
          simp only [hz, Nat.zero_testBit] at hm
          cases hm
        · exact hz.symm
      · rw [List.getElem?_set_ne e]
theorem cls_ok {l : List Pg} (hg : Slb.Good l) {m : Nat} (hm : bitAt l m = true) : ∃ c : Nat, c < 6 ∧ clsAt l m = (c : Int) := by
  unfold bitAt at hm
  unfold clsAt
  cases h : l[m / 64]? with
  | none => rw [h] at hm; cases hm
  | some p =>
    rw [h] at hm
    rcases hg.at h with ⟨_, h0⟩ | ⟨c, h6, hc, _⟩
    · simp [h0] at hm
    · exact ⟨c, h6, hc⟩

/-! ### What stands at all times -/
def It.ok (x : It) : Prop := 1 ≤ x.k.length ∧ x.k.length ≤ 250 ∧ x.v.length ≤ 1024 ∧ (0 ≤ x.fl ∧ x.fl ≤ 4294967295) ∧ (-9223372036854775808 ≤ x.ex ∧ x.ex ≤ 9223372036854775807) ∧ (0 < x.ve ∧ x.ve ≤ 18446744073709551615)
structure Iv (d : Dm) : Prop where
  good : Slb.Good d.pg
  len : 1 ≤ d.pg.length ∧ d.pg.length ≤ 1024
  nd : (nums d.it).Nodup
  kn : (kys d.it).Nodup
  bit : ∀ i, takI d.pg i = true ↔ i ∈ nums d.it
  tot : d.it.length = tot d.pg
  seg : ∀ k, k < 6 → ∀ i, i ∈ ids (d.sg k).all ↔ i ∈ nums d.it ∧ clsAt d.pg i.toNat = (k : Int)
  snd : ∀ k, k < 6 → (d.sg k).Nd
  ok : ∀ e ∈ d.it, e.2.x.ok
theorem nat_of {l : List Pg} {i : Int} (h : takI l i = true) : ∃ n : Nat, i = (n : Int) ∧ bitAt l n = true ∧ n < 64 * l.length := by
  obtain ⟨n, rfl, hn⟩ := Slb.takI_pos h
  refine ⟨n, rfl, hn, ?_⟩
  unfold bitAt at hn
  cases hp : l[n / 64]? with
  | none => rw [hp] at hn; cases hn
  | some p =>
    have := (List.getElem?_eq_some_iff.1 hp).1
    omega
section
variable {d : Dm}
theorem Iv.num (h : Iv d) {i : Int} (hi : i ∈ nums d.it) : ∃ n : Nat, i = (n : Int) ∧ bitAt d.pg n = true ∧ n < 65536 := by
  obtain ⟨n, h1, h2, h3⟩ := nat_of ((h.bit i).2 hi)
  have := h.len.2
  exact ⟨n, h1, h2, by omega⟩
def cls (i : Int) (d : Dm) : Nat := (clsAt d.pg i.toNat).toNat
theorem Iv.cls (h : Iv d) {i : Int} (hi : i ∈ nums d.it) : cls i d < 6 ∧ clsAt d.pg i.toNat = (Drm.cls i d : Int) := by
  obtain ⟨n, rfl, hb, _⟩ := h.num hi
  obtain ⟨c, h6, hc⟩ := cls_ok h.good hb
  unfold Drm.cls
  rw [Int.toNat_natCast, hc]
  exact ⟨by omega, by omega⟩
theorem Iv.mem (h : Iv d) {i : Int} (hi : i ∈ nums d.it) : i ∈ ids (d.sg (Drm.cls i d)).all := ((h.seg _ (h.cls hi).1 i).2 ⟨hi, (h.cls hi).2⟩)
/-- Number i is let go: its class's list is s' then. -/
def outD (k : Nat) (s' : Sgm.St) (i : Int) (d : Dm) : Dm := ⟨clr d.pg i.toNat, updS d.sg k s', outN i d.it⟩
theorem Iv.out (h : Iv d) {k : Nat} (hk : k < 6) {i : Int} (hi : i ∈ ids (d.sg k).all) {s' : Sgm.St} (hs : s'.Nd) (hm : ∀ j, j ∈ ids s'.all ↔ j ∈ ids (d.sg k).all ∧ j ≠ i) : Iv (outD k s' i d) := by
  have hin := ((h.seg k hk i).1 hi).1
  have hcl := ((h.seg k hk i).1 hi).2
  obtain ⟨n, rfl, hb, _⟩ := h.num hin
  obtain ⟨b2, b3⟩ := Slb.clr_bits hb
  rw [Int.toNat_natCast] at hcl
  refine ⟨Slb.clr_good h.good _, by rw [show (outD k s' n d).pg = clr d.pg n from rfl, Slb.clr_len]; exact h.len, nums_nd h.nd, kys_nd h.kn, fun i => ?_, ?_, fun j hj i => ?_, fun j hj => ?_, fun e he => h.ok e (mem_outN.1 he).1⟩
  · show takI (clr d.pg n) i = true ↔ i ∈ nums (outN n d.it)
    rw [nums_outN, ← h.bit]
    unfold takI
    rw [b2]
    simp only [Bool.and_eq_true, decide_eq_true_eq]
    constructor
    · rintro ⟨h1, h2, h3⟩; exact ⟨⟨h1, h2⟩, by omega⟩
    · rintro ⟨⟨h1, h2⟩, h3⟩; exact ⟨h1, h2, by omega⟩
  · show (outN n d.it).length = Slb.tot (clr d.pg n)
    have := outN_len h.nd hin
    have := h.tot
    omega
  · show i ∈ ids (updS d.sg k s' j).all ↔ i ∈ nums (outN n d.it) ∧ clsAt (clr d.pg n) i.toNat = (j : Int)
    rw [cls_clr, nums_outN]
    by_cases e : j = k
    · subst e
      rw [updS_same, hm, h.seg j hj]
      constructor
      · rintro ⟨⟨h1, h2⟩, h3⟩; exact ⟨⟨h1, h3⟩, h2⟩
      · rintro ⟨⟨h1, h3⟩, h2⟩; exact ⟨⟨h1, h2⟩, h3⟩
    · rw [updS_other _ _ e, h.seg j hj]
      constructor
      · rintro ⟨h1, h2⟩
        refine ⟨⟨h1, fun e2 => e ?_⟩, h2⟩
        subst e2
        rw [Int.toNat_natCast] at h2
        omega
      · rintro ⟨⟨h1, _⟩, h2⟩; exact ⟨h1, h2⟩
  · show (updS d.sg k s' j).Nd
    by_cases e : j = k
    · subst e; rw [updS_same]; exact hs
    · rw [updS_other _ _ e]; exact h.snd j hj
def dropD (i : Int) (d : Dm) : Dm := outD (cls i d) (rmvS i (d.sg (cls i d))) i d
theorem rmv_mem {s : Sgm.St} {i j : Int} : j ∈ ids (rmvS i s).all ↔ j ∈ ids s.all ∧ j ≠ i := by rw [Sgm.rmv_ids]; simp
theorem Iv.drop (h : Iv d) {i : Int} (hi : i ∈ nums d.it) : Iv (dropD i d) := h.out (h.cls hi).1 (h.mem hi) (Sgm.rmv_nd (h.snd _ (h.cls hi).1)) (fun j => rmv_mem)
def evD (k : Nat) (i : Int) (d : Dm) : Dm := outD k (eviS (d.sg k)) i d
theorem evi_mem2 {s : Sgm.St} (hn : s.Nd) {i j : Int} (h : evi s = some i) : j ∈ ids (eviS s).all ↔ j ∈ ids s.all ∧ j ≠ i := by
  have hp := Sgm.eviS_perm hn h
  have h2 : (i :: ids (eviS s).all).Nodup := hp.nodup_iff.1 hn
  rw [List.nodup_cons] at h2
  rw [hp.mem_iff, List.mem_cons]
  constructor
  · intro hj; exact ⟨.inr hj, fun e => h2.1 (e ▸ hj)⟩
  · rintro ⟨h3 | h3, h4⟩
    · exact absurd h3 h4
    · exact h3
theorem Iv.evict (h : Iv d) {k : Nat} (hk : k < 6) {i : Int} (hi : evi (d.sg k) = some i) : Iv (evD k i d) ∧ i ∈ nums d.it := by
  have hm := Sgm.evi_mem hi
  exact ⟨h.out hk hm (Sgm.eviS_nd (h.snd k hk)) (fun j => evi_mem2 (h.snd k hk) hi), ((h.seg k hk i).1 hm).1⟩
/-- A new one stands in the chunk that Take gives. -/
def addD (cl : Nat) (o : Ou) (d : Dm) : Dm := ⟨tkL cl d.pg, updS d.sg cl (addS (tkC cl d.pg : Int) (d.sg cl)), d.it ++ [((tkC cl d.pg : Int), o)]⟩
theorem Iv.fresh (h : Iv d) {cl : Nat} (hcl : cl < 6) (he : tkE cl d.pg = 0) : (tkC cl d.pg : Int) ∉ nums d.it ∧ (d.sg cl).has (tkC cl d.pg : Int) = false ∧ tkC cl d.pg < 65536 := by
  obtain ⟨b1, _, _, b4⟩ := Slb.take_bits hcl h.good he
  have h1 : (tkC cl d.pg : Int) ∉ nums d.it := fun hm => by
    have := (h.bit _).2 hm
    rw [Slb.takI_nat, b1] at this
    cases this
  refine ⟨h1, ?_, by have := h.len.2; omega⟩
  unfold Sgm.St.has
  rw [decide_eq_false]
  intro hm
  exact h1 ((h.seg cl hcl _).1 hm).1
theorem Iv.add (h : Iv d) {cl : Nat} (hcl : cl < 6) (he : tkE cl d.pg = 0) {o : Ou} (hk : o.x.k ∉ kys d.it) (ho : o.x.ok) : Iv (addD cl o d) := by
  obtain ⟨b1, b2, b3, b4⟩ := Slb.take_bits hcl h.good he
  obtain ⟨f1, f2, f3⟩ := h.fresh hcl he
  obtain ⟨c1, c2⟩ := cls_take hcl h.good he
  have hmem : ∀ i, i ∈ nums (addD cl o d).it ↔ i ∈ nums d.it ∨ i = (tkC cl d.pg : Int) := fun i => by simp [addD, nums]
  refine ⟨Slb.tkL_good hcl h.good, by rw [show (addD cl o d).pg = tkL cl d.pg from rfl, Slb.tkL_len]; exact h.len, ?_, ?_, fun i => ?_, ?_, fun j hj i => ?_, fun j hj => ?_, fun e he => ?_⟩
  · show (nums (d.it ++ [((tkC cl d.pg : Int), o)])).Nodup
    unfold nums
    rw [List.map_append, List.nodup_append]
    refine ⟨h.nd, by simp, fun a ha b hb => ?_⟩
    simp at hb
    subst hb
    exact fun e => f1 (e ▸ ha)
  · show (kys (d.it ++ [((tkC cl d.pg : Int), o)])).Nodup
    unfold kys
    rw [List.map_append, List.nodup_append]
    refine ⟨h.kn, by simp, fun a ha b hb => ?_⟩
    simp at hb
    subst hb
    exact fun e => hk (e ▸ ha)
  · rw [hmem, ← h.bit]
    show takI (tkL cl d.pg) i = true ↔ _
    unfold takI
    rw [b2]
    simp only [Bool.and_eq_true, Bool.or_eq_true, decide_eq_true_eq]
    constructor
    · rintro ⟨h1, h2 | h2⟩
      · exact .inl ⟨h1, h2⟩
      · exact .inr (by omega)
    · rintro (⟨h1, h2⟩ | rfl)
      · exact ⟨h1, .inl h2⟩
      · exact ⟨by omega, .inr (by simp)⟩
  · show (d.it ++ [((tkC cl d.pg : Int), o)]).length = Slb.tot (tkL cl d.pg)
    rw [b3, List.length_append, h.tot]
    rfl
  · rw [hmem]
    show i ∈ ids (updS d.sg cl (addS (tkC cl d.pg : Int) (d.sg cl)) j).all ↔ _ ∧ clsAt (tkL cl d.pg) i.toNat = (j : Int)
    by_cases e : j = cl
    · subst e
      rw [updS_same, (Sgm.add_perm f2).mem_iff, List.mem_cons, h.seg j hj]
      constructor
      · rintro (rfl | ⟨h1, h2⟩)
        · exact ⟨.inr rfl, by rw [Int.toNat_natCast]; exact c1⟩
        · obtain ⟨n, rfl, hb, _⟩ := h.num h1
          rw [Int.toNat_natCast] at h2 ⊢
          exact ⟨.inl h1, by rw [c2 n hb]; exact h2⟩
      · rintro ⟨h1 | rfl, h2⟩
        · obtain ⟨n, rfl, hb, _⟩ := h.num h1
          rw [Int.toNat_natCast] at h2 ⊢
          rw [c2 n hb] at h2
          exact .inr ⟨h1, h2⟩
        · exact .inl rfl
    · rw [updS_other _ _ e, h.seg j hj]
      constructor
      · rintro ⟨h1, h2⟩
        obtain ⟨n, rfl, hb, _⟩ := h.num h1
        rw [Int.toNat_natCast] at h2 ⊢
        exact ⟨.inl h1, by rw [c2 n hb]; exact h2⟩
      · rintro ⟨h1 | rfl, h2⟩
        · obtain ⟨n, rfl, hb, _⟩ := h.num h1
          rw [Int.toNat_natCast] at h2 ⊢
          rw [c2 n hb] at h2
          exact ⟨h1, h2⟩
        · rw [Int.toNat_natCast, c1] at h2
          omega
  · show (updS d.sg cl (addS (tkC cl d.pg : Int) (d.sg cl)) j).Nd
    by_cases e : j = cl
    · subst e; rw [updS_same]; exact Sgm.add_nd (h.snd j hj)
    · rw [updS_other _ _ e]; exact h.snd j hj
  · rcases List.mem_append.1 he with h1 | h1
    · exact h.ok e h1
    · simp at h1; subst h1; exact ho

/-! ### Who lets one go -/
def mostF (sg : Nat → Sgm.St) : Nat → Nat
  | 0 => 0
  | n + 1 => if (sg (mostF sg n)).all.length < (sg n).all.length then n else mostF sg n
theorem mostF_lt (sg : Nat → Sgm.St) : ∀ n, mostF sg (n + 1) ≤ n
  | 0 => by simp [mostF]
  | n + 1 => by
    have := mostF_lt sg n
    rw [mostF]
    split <;> omega
theorem mostF_max (sg : Nat → Sgm.St) : ∀ n k, k < n → (sg k).all.length ≤ (sg (mostF sg n)).all.length
  | 0, k, hk => by omega
  | n + 1, k, hk => by
    rw [mostF]
    by_cases e : k = n
    · subst e
      split <;> omega
    · have := mostF_max sg n k (by omega)
      split <;> omega
def giv (cl : Nat) (d : Dm) : Nat := if 0 < (d.sg cl).all.length then cl else mostF d.sg 6
theorem giv_lt {cl : Nat} (hcl : cl < 6) (d : Dm) : giv cl d < 6 := by
  have : mostF d.sg 6 ≤ 5 := mostF_lt d.sg 5
  unfold giv
  split <;> omega
/-- Where no chunk is to be had there is one to let go. -/
theorem Iv.giver (h : Iv d) {cl : Nat} (hcl : cl < 6) (he : tkE cl d.pg ≠ 0) : ∃ i, evi (d.sg (giv cl d)) = some i := by
  cases hv : evi (d.sg (giv cl d)) with
  | some i => exact ⟨i, rfl⟩
  | none =>
    exfalso
    rw [Sgm.evi_none] at hv
    have hz : ∀ k, k < 6 → (d.sg k).all.length = 0 := fun k hk => by
      unfold giv at hv
      split at hv
      · omega
      · have := mostF_max d.sg 6 k hk
        omega
    have hn : Slb.pfor cl d.pg = none := by
      cases hp : Slb.pfor cl d.pg with
      | none => rfl
      | some a =>
        obtain ⟨p, hpa, _⟩ := Slb.pfor_ok hcl h.good hp
        exact absurd (Slb.tk_some hp hpa).2.1 he
    have ht := Slb.full_tot h.good.fit hn
    have h7 := h.len.1
    have h8 := h.tot
    cases hl : d.it with
    | nil => rw [hl] at h8; simp at h8; omega
    | cons e r =>
      have hm : e.1 ∈ nums d.it := by rw [hl]; simp [nums]
      have h1 := h.mem hm
      have h2 := hz _ (h.cls hm).1
      rw [List.length_eq_zero_iff] at h2
      rw [h2] at h1
      simp [ids] at h1
def roomF : Nat → Nat → Dm → Dm × List Ou
  | 0, cl, d => (d, [])
  | n + 1, cl, d => if tkE cl d.pg = 0 then (d, []) else match evi (d.sg (giv cl d)) with
    | none => (d, [])
    | some i => ((roomF n cl (evD (giv cl d) i d)).1, (lok i d.it).getD ⟨⟨[], [], 0, 0, 0⟩, false⟩ :: (roomF n cl (evD (giv cl d) i d)).2)
def room (cl : Nat) (d : Dm) : Dm × List Ou := roomF d.it.length cl d
theorem room_stop {cl : Nat} (h : tkE cl d.pg = 0) : room cl d = (d, []) := by
  unfold room
  cases d.it.length with
  | zero => rfl
  | succ n => rw [roomF, if_pos h]
theorem room_step (h : Iv d) {cl : Nat} (hcl : cl < 6) (he : tkE cl d.pg ≠ 0) {i : Int} (hi : evi (d.sg (giv cl d)) = some i) {o : Ou} (ho : lok i d.it = some o) :
    room cl d = ((room cl (evD (giv cl d) i d)).1, o :: (room cl (evD (giv cl d) i d)).2) := by
  have hm := (h.evict (giv_lt hcl d) hi).2
  have hl := outN_len h.nd hm
  unfold room
  rw [← hl, roomF, if_neg he, hi]
  simp only [ho, Option.getD_some]
  rfl
theorem room_ind {cl : Nat} (hcl : cl < 6) (R : Dm → List Ou → Prop) (hstep : ∀ d i o, Iv d → tkE cl d.pg ≠ 0 → evi (d.sg (giv cl d)) = some i → lok i d.it = some o → ∀ g, R (evD (giv cl d) i d) g → R d (o :: g))
    (hstop : ∀ d, Iv d → tkE cl d.pg = 0 → R d []) : ∀ n d, d.it.length ≤ n → Iv d → R d (room cl d).2
  | n, d, hn, h => by
    by_cases he : tkE cl d.pg = 0
    · rw [room_stop he]; exact hstop d h he
    · obtain ⟨i, hi⟩ := h.giver hcl he
      obtain ⟨h2, hm⟩ := h.evict (giv_lt hcl d) hi
      have hl := outN_len h.nd hm
      obtain ⟨o, ho⟩ : ∃ o, lok i d.it = some o := Option.isSome_iff_exists.1 (lok_isSome.2 hm)
      rw [room_step h hcl he hi ho]
      match n with
      | 0 => omega
      | n + 1 =>
        have hl2 : (evD (giv cl d) i d).it.length = (outN i d.it).length := rfl
        exact hstep d i o h he hi ho _ (room_ind hcl R hstep hstop n _ (by omega) h2)
theorem room_iv {cl : Nat} (hcl : cl < 6) : ∀ n d, d.it.length ≤ n → Iv d → Iv (room cl d).1 ∧ tkE cl (room cl d).1.pg = 0 ∧ (room cl d).1.pg.length = d.pg.length ∧ (room cl d).1.it.Sublist d.it
  | n, d, hn, h => by
    by_cases he : tkE cl d.pg = 0
    · rw [room_stop he]; exact ⟨h, he, rfl, List.Sublist.refl _⟩
    · obtain ⟨i, hi⟩ := h.giver hcl he
      obtain ⟨h2, hm⟩ := h.evict (giv_lt hcl d) hi
      have hl := outN_len h.nd hm
      obtain ⟨o, ho⟩ : ∃ o, lok i d.it = some o := Option.isSome_iff_exists.1 (lok_isSome.2 hm)
      rw [room_step h hcl he hi ho]
      match n with
      | 0 => omega
      | n + 1 =>
        have hl2 : (evD (giv cl d) i d).it.length = (outN i d.it).length := rfl
        obtain ⟨a1, a2, a3, a4⟩ := room_iv hcl n (evD (giv cl d) i d) (by omega) h2
        refine ⟨a1, a2, a3.trans (Slb.clr_len _ _), a4.trans (outN_sub i d.it)⟩
def delD (k : List UInt8) (d : Dm) : Dm := match kfd k d.it with
  | some i => dropD i d
  | none => d
theorem delD_some {k : List UInt8} {i : Int} (h : kfd k d.it = some i) : delD k d = dropD i d := by unfold delD; rw [h]
theorem delD_none {k : List UInt8} (h : kfd k d.it = none) : delD k d = d := by unfold delD; rw [h]
theorem Iv.key (h : Iv d) {k : List UInt8} {i : Int} (hk : kfd k d.it = some i) : ∃ o, (i, o) ∈ d.it ∧ o.x.k = k ∧ lok i d.it = some o ∧ i ∈ nums d.it := by
  obtain ⟨o, h1, h2⟩ := (kfd_some h.kn).1 hk
  exact ⟨o, h1, h2, (lok_some h.nd).2 h1, List.mem_map.2 ⟨_, h1, rfl⟩⟩
theorem Iv.del (h : Iv d) (k : List UInt8) : Iv (delD k d) ∧ k ∉ kys (delD k d).it ∧ (delD k d).it.Sublist d.it ∧ (delD k d).pg.length = d.pg.length := by
  cases hk : kfd k d.it with
  | none => rw [delD_none hk]; exact ⟨h, kfd_none.1 hk, List.Sublist.refl _, rfl⟩
  | some i =>
    obtain ⟨o, h1, h2, h3, h4⟩ := h.key hk
    rw [delD_some hk]
    refine ⟨h.drop h4, ?_, outN_sub i d.it, Slb.clr_len _ _⟩
    have := kfd_outN h.kn h.nd h1 k
    rw [if_pos h2.symm] at this
    exact kfd_none.1 this
def putD (cl : Nat) (o : Ou) (d : Dm) : Dm := addD cl o (room cl (delD o.x.k d)).1
def putG (cl : Nat) (o : Ou) (d : Dm) : List Ou := (room cl (delD o.x.k d)).2
theorem Iv.put (h : Iv d) {cl : Nat} (hcl : cl < 6) {o : Ou} (ho : o.x.ok) : Iv (putD cl o d) ∧ (putD cl o d).pg.length = d.pg.length := by
  obtain ⟨h1, h2, _, h4⟩ := h.del o.x.k
  obtain ⟨r1, r2, r3, r4⟩ := room_iv hcl _ _ (Nat.le_refl _) h1
  refine ⟨r1.add hcl r2 (fun hm => h2 ((r4.map _).subset hm)) ho, ?_⟩
  show (tkL cl _).length = _
  rw [Slb.tkL_len, r3, h4]
end
/-- A new cache. -/
def new0 (n : Nat) : Dm := ⟨List.replicate n Slb.blank, fun _ => St0, []⟩
theorem Iv.new (n : Nat) (h1 : 1 ≤ n) (h2 : n ≤ 1024) : Iv (new0 n) := by
  refine ⟨Slb.blank_good n, by simp [new0, h1, h2], by simp [new0, nums], by simp [new0, kys], fun i => ?_, (Slb.tot_rep n).symm, fun k hk i => ?_, fun k hk => ?_, fun e he => by simp [new0] at he⟩
  · constructor
    · intro hi
      obtain ⟨m, rfl, hb, _⟩ := nat_of hi
      unfold bitAt new0 at hb
      cases hp : (List.replicate n Slb.blank)[m / 64]? with
      | none => simp only [Slb.blank] at hp hb; rw [hp] at hb; cases hb
      | some p =>
        have : p = Slb.blank := List.eq_of_mem_replicate (List.mem_of_getElem? hp)
        simp only [Slb.blank] at hp hb this
        rw [hp] at hb
        simp [this] at hb
    · intro hi; simp [new0, nums] at hi
  · simp [new0, nums, St0, Sgm.St.all, ids]
  · simp [new0, St0, Sgm.St.Nd, Sgm.St.all, ids]
end Go.Proofs.YtdkiegkgnimapabDoor.Drm
