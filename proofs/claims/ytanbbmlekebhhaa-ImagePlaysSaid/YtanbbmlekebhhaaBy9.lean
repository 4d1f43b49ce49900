/- A slice of bytes that comes in. -/
import Derived.Test.YtanbbmlekebhhaaRRow
import Derived.Test.YtanbbmlekebhhaaRMem
import Derived.ChangeSlices
import Derived.SizedLaws
import Derived.OpenShut
set_option linter.unusedVariables false
set_option linter.unusedSimpArgs false
set_option maxRecDepth 8000
namespace Go.Proofs.Ytanbbmlekebhhaa
open Go.RowKit Go.Deep Go.ChangeShapes Go.WideShapes Math
theorem u8_wf {z : Int} (h : (Lit.int .u8 z).wf = true) : 0 ≤ z ∧ z < 256 := by
  have h1 : IntKind.u8.min = 0 := rfl
  have h2 : IntKind.u8.max = 255 := rfl
  simp [Lit.wf, h1, h2] at h
  omega
theorem cells5 : Try.prog.cellsOf 5 = 1 := by kernel_rfl
theorem bytes5 : Try.prog.bytesOf 5 = 1 := by kernel_rfl
theorem bytes_open {H : Type} {enc : TypeId × Value → H} {W : World} {fuel : Nat} {a0 : Option Addr} {n0 c0 : Nat} {x : DataW H × List MemPlace} (h : DataW.trod enc Try.prog W 0 (fun _ => true) true fuel 39 [.slice a0 n0 c0] = some x)
    (hw : ∀ n ∈ x.1.weights Try.prog 39, n ≤ reachBytes) :
    ∃ l : List UInt8, BS W a0 n0 c0 l ∧ (a0 = none → l = []) ∧ n0 ≤ 140737488351232 := by
  rcases open_ints Try.underlying39 Try.underlying5 cells5 h with ⟨hcs, _⟩ | ⟨a, len, cap, zs, hcs, _, hl, hm, hz, hx, hcell, hwz⟩
  · simp at hcs
    obtain ⟨rfl, rfl, rfl⟩ := hcs
    exact ⟨[], BS.mk' rfl (Nat.le_refl _) (Reads.nil _ _), fun _ => rfl, Nat.zero_le _⟩
  · simp only [List.cons.injEq, Value.slice.injEq, and_true] at hcs
    obtain ⟨rfl, rfl, rfl⟩ := hcs
    have hz' : zs.length = c0 := by simpa using hz
    have hb : (zs.take n0).length + (zs.drop n0).length ≤ reachBytes := by
      have := hw (((lits (H := H) .u8 (zs.take n0)).length + (lits (H := H) .u8 (zs.drop n0)).length) * Try.prog.bytesOf 5) (by rw [hx]; simp [DataW.weights, Try.underlying39])
      rw [bytes5] at this
      simpa [lits] using this
    have hlen : ((zs.take n0).map (fun z => UInt8.ofNat z.toNat)).length = n0 := by simp; omega
    have e8 : ∀ j, j < n0 → (((zs.take n0).map (fun z => UInt8.ofNat z.toNat)).getD j 0).toNat = zs.getD j 0 := fun j hj => by
      have hmem : zs.getD j 0 ∈ zs := by rw [List.getD_eq_getElem?_getD, List.getElem?_eq_getElem (by omega)]; exact List.getElem_mem _
      have hb := u8_wf (hwz _ hmem)
      have e1 : ((zs.take n0).map (fun z => UInt8.ofNat z.toNat)).getD j 0 = UInt8.ofNat (zs.getD j 0).toNat := by
        simp [List.getD_eq_getElem?_getD, List.getElem?_eq_getElem (show j < zs.length by omega), List.getElem?_take_of_lt hj]
      rw [e1, UInt8.toNat_ofNat']
      have e2 : ((zs.getD j 0).toNat % 2 ^ 8 : Nat) = (zs.getD j 0).toNat := Nat.mod_eq_of_lt (by omega)
      rw [e2]
      omega
    refine ⟨(zs.take n0).map (fun z => UInt8.ofNat z.toNat), BS.mk' hlen.symm hl ⟨fun i hi => ?_, fun i => ?_⟩, (fun h => by cases h), ?_⟩
    · rw [ints_length, hlen] at hi
      have c0' := hcell 0 (by omega)
      have hspot : a.spot = none := by simpa [Addr.add] using World.cell?_spot c0'
      obtain ⟨b, off, sp⟩ := a
      simp only at hspot
      subst hspot
      refine ⟨b, off, rfl, ?_⟩
      have cj := hcell i (by omega)
      rw [Addr.add_lit] at cj
      rw [cj, ints_getD, e8 i hi]
    · rw [ints_getD]
      have := (((zs.take n0).map (fun z => UInt8.ofNat z.toNat)).getD i 0).toNat_lt
      omega
    · have e : reachBytes = 140737488351232 := by decide
      simp at hb
      omega
end Go.Proofs.Ytanbbmlekebhhaa
