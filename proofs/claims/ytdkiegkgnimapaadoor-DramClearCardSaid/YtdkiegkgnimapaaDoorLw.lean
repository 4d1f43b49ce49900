/- What the laws ask of a cache. -/
import Derived.Test.YtdkiegkgnimapaaDoorAr
set_option linter.unusedVariables false
set_option linter.unusedSimpArgs false
set_option maxRecDepth 8000
namespace Go.Proofs.YtdkiegkgnimapaaDoor
open Go.RowKit Go.Deep Drm
open Tbl (txt)
theorem ok_of {x : It} (h : x.raw) (hm : mayBe x.k.length x.v.length x.ve.toNat = true) : x.ok := by
  unfold mayBe at hm
  simp only [Bool.and_eq_true, decide_eq_true_eq] at hm
  obtain ⟨⟨⟨h1, h2⟩, h3⟩, h4⟩ := hm
  obtain ⟨_, _, h5, h6, h7⟩ := h
  exact ⟨h1, h2, h3, h5, h6, by omega⟩
/-- What stands behind a Put. -/
theorem put_it {d : Dm} (h : Iv d) {cl : Nat} (hcl : cl < 6) {o : Ou} (ho : o.x.ok) : ∃ i, kfd o.x.k (putD cl o d).it = some i ∧ lok i (putD cl o d).it = some o := by
  obtain ⟨h1, h2, _, h4⟩ := h.del o.x.k
  obtain ⟨r1, r2, r3, r4⟩ := room_iv hcl _ _ (Nat.le_refl _) h1
  have hk : o.x.k ∉ kys (room cl (delD o.x.k d)).1.it := fun hm => h2 ((r4.map _).subset hm)
  have hf := (r1.fresh hcl r2).1
  refine ⟨(Slb.tkC cl (room cl (delD o.x.k d)).1.pg : Int), ?_, ?_⟩
  · show kfd o.x.k ((room cl (delD o.x.k d)).1.it ++ [_]) = _
    rw [kfd_snoc hk, if_pos rfl]
  · show lok _ ((room cl (delD o.x.k d)).1.it ++ [_]) = _
    rw [lok_snoc hf, if_pos rfl]
theorem drop_kfd {d : Dm} (h : Iv d) {k : List UInt8} {i : Int} (hk : kfd k d.it = some i) : kfd k (dropD i d).it = none := by
  have := (h.del k).2.1
  rw [delD_some hk] at this
  exact kfd_none.2 this
/-- With fewer than pages there is room for any. -/
theorem tk_few {d : Dm} (h : Iv d) {cl : Nat} (hcl : cl < 6) (hl : d.it.length < d.pg.length) : Slb.tkE cl d.pg = 0 := by
  cases hp : Slb.pfor cl d.pg with
  | none =>
    have := Slb.full_tot h.good.fit hp
    have := h.tot
    omega
  | some a =>
    obtain ⟨p, hpa, _⟩ := Slb.pfor_ok hcl h.good hp
    exact (Slb.tk_some hp hpa).2.1
theorem del_len {d : Dm} (h : Iv d) (k : List UInt8) : (delD k d).it.length + (if (kfd k d.it).isSome then 1 else 0) = d.it.length := by
  cases hk : kfd k d.it with
  | none => rw [delD_none hk]; rfl
  | some i =>
    rw [delD_some hk]
    exact outN_len h.nd (h.key hk).choose_spec.2.2.2
/-- A Put where there is room: none is let go. -/
theorem put_few {d : Dm} (h : Iv d) {cl : Nat} (hcl : cl < 6) (o : Ou) (hl : (delD o.x.k d).it.length < d.pg.length) : putG cl o d = [] ∧ (putD cl o d).it.length = (delD o.x.k d).it.length + 1 := by
  obtain ⟨h1, h2, _, h4⟩ := h.del o.x.k
  have ht := tk_few h1 hcl (by rw [h4]; exact hl)
  constructor
  · unfold putG
    rw [room_stop ht]
  · unfold putD
    rw [room_stop ht]
    simp [addD]
theorem eq_q (kb vb : ByteArray) (f e n : Int) (W : World) : (binOp .eql 33 (.agg #[.string kb, .string vb, .int .u32 f, .int .i64 e, .int .u64 n]) (.agg #[.string kb, .string vb, .int .u32 f, .int .i64 e, .int .u64 n])).run Tryd.prog W = .ok (.bool true) W := by
  have := run_eql_it ⟨kb.data.toList, vb.data.toList, f, e, n⟩ ⟨kb.data.toList, vb.data.toList, f, e, n⟩ W
  rw [eqI_refl] at this
  unfold itV at this
  simp only [txt_of] at this
  exact this
theorem nq_q (kb vb : ByteArray) (f e n : Int) (W : World) : (binOp .neq 33 (.agg #[.string kb, .string vb, .int .u32 f, .int .i64 e, .int .u64 n]) (.agg #[.string kb, .string vb, .int .u32 f, .int .i64 e, .int .u64 n])).run Tryd.prog W = .ok (.bool false) W := by
  have := run_neq_it ⟨kb.data.toList, vb.data.toList, f, e, n⟩ ⟨kb.data.toList, vb.data.toList, f, e, n⟩ W
  rw [eqI_refl] at this
  unfold itV at this
  simp only [txt_of] at this
  exact this
theorem txt_nil : txt [] = ⟨#[]⟩ := rfl
def L9 (op : Int) (k v : ByteArray) (f e n : Int) (c : Bool) (y : ByteArray) (now : Int) : List Value := [.int .i64 op, .string k, .string v, .int .u32 f, .int .i64 e, .int .u64 n, .bool c, .string y, .int .i64 now]
theorem act_cells {w : World} {g : Nat} {op : Int} {k v : ByteArray} {f e n : Int} {c : Bool} {y : ByteArray} {now : Int} {t : TypeId} (h : Blk w g (L9 op k v f e n c y now) t) :
    w.cell? ⟨g, 0, none⟩ = some (.int .i64 op) ∧ w.cell? ⟨g, 1, none⟩ = some (.string k) ∧ w.cell? ⟨g, 2, none⟩ = some (.string v) ∧ w.cell? ⟨g, 3, none⟩ = some (.int .u32 f) ∧ w.cell? ⟨g, 4, none⟩ = some (.int .i64 e) ∧ w.cell? ⟨g, 5, none⟩ = some (.int .u64 n) ∧ w.cell? ⟨g, 7, none⟩ = some (.string y) :=
  ⟨h.cell rfl, h.cell rfl, h.cell rfl, h.cell rfl, h.cell rfl, h.cell rfl, h.cell rfl⟩
end Go.Proofs.YtdkiegkgnimapaaDoor
