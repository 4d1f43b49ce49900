/- What follows of a table's keys: how many buckets, what is sorted. No program is named here. -/
import Derived.Test.YtkjfildnemgbiaaMath
import Derived.Sort.KeysCollected
set_option linter.unusedVariables false
set_option linter.unusedSimpArgs false
namespace Go.Proofs.Ytkjfildnemgbiaa.Tab
variable {H : List UInt8 → Nat} {t : Tb}
theorem grow_shape : (t.full = true ∧ t.grow.nw.length = 2 * t.nw.length ∧ t.grow.od.length = t.nw.length) ∨ (t.full = false ∧ t.grow.nw.length = t.nw.length ∧ t.grow.od.length = t.od.length) := by
  unfold Tb.grow
  cases h : t.full with
  | true => exact .inl ⟨rfl, by simp, by simp⟩
  | false => exact .inr ⟨rfl, by simp, by simp⟩
/-- How many buckets there are behind a Set. -/
def grows (t : Tb) (fresh : Bool) (len : Nat) : Bool := fresh && decide (3 * t.nw.length < 2 * len) && decide (t.od.length - 1 = 0) && decide (t.nw.length < 65536)
theorem Good.shape (g : Good H t) (k : List UInt8) (v : Int) :
    (grows t (t.isNew H k) (t.setT H k v).all.length = true ∧ (t.setT H k v).nw.length = 2 * t.nw.length ∧ (t.setT H k v).od.length = t.nw.length) ∨
    (grows t (t.isNew H k) (t.setT H k v).all.length = false ∧ (t.setT H k v).nw.length = t.nw.length ∧ (t.setT H k v).od.length = t.od.length - 1) := by
  have hl := g.len_setT k v
  have hm := mv_len (t := t) (H := H)
  unfold grows
  cases h : t.isNew H k with
  | false =>
    refine .inr ⟨by simp, ?_⟩
    have e : t.setT H k v = (t.mv H).put H k (setV k v ((t.mv H).chn H k)) := by unfold Tb.setT; rw [h]; rfl
    rw [e]
    have := put_len (t := t.mv H) (H := H) k (setV k v ((t.mv H).chn H k))
    rw [this.1, this.2, hm.1, hm.2]
    exact ⟨rfl, rfl⟩
  | true =>
    rw [h] at hl
    simp only [if_true] at hl
    have e : t.setT H k v = ((t.mv H).put H k ((k, v) :: (t.mv H).chn H k)).grow := by unfold Tb.setT; rw [h]; rfl
    have hp := put_len (t := t.mv H) (H := H) k ((k, v) :: (t.mv H).chn H k)
    have ha : ((t.mv H).put H k ((k, v) :: (t.mv H).chn H k)).all.length = t.all.length + 1 := by
      rw [(g.mv.all_put_new v).length_eq, List.length_cons, g.len_mv]
    rw [hl]
    rw [e]
    have hf : ((t.mv H).put H k ((k, v) :: (t.mv H).chn H k)).full = (true && decide (3 * t.nw.length < 2 * (t.all.length + 1)) && decide (t.od.length - 1 = 0) && decide (t.nw.length < 65536)) := by
      unfold Tb.full
      rw [ha, hp.1, hp.2, hm.1, hm.2]
      simp
    rcases grow_shape (t := (t.mv H).put H k ((k, v) :: (t.mv H).chn H k)) with ⟨h1, h2, h3⟩ | ⟨h1, h2, h3⟩
    · refine .inl ⟨by rw [← hf]; exact h1, ?_, ?_⟩
      · rw [h2, hp.1, hm.1]
      · rw [h3, hp.1, hm.1]
    · refine .inr ⟨by rw [← hf]; exact h1, ?_, ?_⟩
      · rw [h2, hp.1, hm.1]
      · rw [h3, hp.2, hm.2]
theorem delT_len (k : List UInt8) : (t.delT H k).nw.length = t.nw.length ∧ (t.delT H k).od.length = t.od.length - 1 := by
  unfold Tb.delT
  have hm := mv_len (t := t) (H := H)
  have := put_len (t := t.mv H) (H := H) k (outV k ((t.mv H).chn H k))
  rw [this.1, this.2, hm.1, hm.2]
  exact ⟨rfl, rfl⟩
end Go.Proofs.Ytkjfildnemgbiaa.Tab
