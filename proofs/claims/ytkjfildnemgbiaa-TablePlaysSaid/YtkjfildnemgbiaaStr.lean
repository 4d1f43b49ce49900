/- Rows of texts of the call's own; the keys of a chain. -/
import Derived.Test.YtkjfildnemgbiaaTb8
import Derived.Maps.AppendAt
import Derived.Sort.OwnSorted
import Derived.Lib.AppendZeros
set_option linter.unusedVariables false
set_option linter.unusedSimpArgs false
set_option maxRecDepth 8000
namespace Go.Proofs.Ytkjfildnemgbiaa
open Go.RowKit Go.Deep Go.Shelf Math Tab Go.Sort

def ownB (v : Value) : List Nat := v.ownBlock.toList
theorem mem_own {v : Value} {q : Nat} : q ∈ ownB v ↔ v.ownBlock = some q := by simp [ownB, Option.mem_toList]
theorem own_same {w w' : World} {base : Nat} {e : TypeId} {size : Nat} {v : Value} {n : Nat} {xs : List Value} (h : w.ownsRow base e size v n xs) (k : ∀ q, v.ownBlock = some q → w'.heap[q]? = w.heap[q]?) : w'.ownsRow base e size v n xs := by
  refine ⟨h.1, ?_⟩
  rcases h.2 with h2 | ⟨g, cap, cur, hv, hg, hh, r⟩
  · exact .inl h2
  · exact .inr ⟨g, cap, cur, hv, hg, by rw [k g (by rw [hv]; rfl)]; exact hh, r⟩
theorem own_ty {w : World} {base : Nat} {e : TypeId} {size : Nat} {v : Value} {n : Nat} {xs : List Value} (h : w.ownsRow base e size v n xs) {q : Nat} (hq : v.ownBlock = some q) : base ≤ q ∧ ∃ c : Array Value, w.heap[q]? = some (.cells c e (0, 0)) := by
  rcases h.2 with ⟨h2, _⟩ | ⟨g, cap, cur, hv, hg, hh, r⟩
  · rw [h2] at hq; cases hq
  · rw [hv] at hq
    simp [Value.ownBlock] at hq
    subst hq
    exact ⟨hg, cur, hh⟩
theorem Blk.not_ty {w : World} {b : Nat} {L : List Value} {t : TypeId} (h : Blk w b L t) {q : Nat} {c : Array Value} {t' : TypeId} (hq : w.heap[q]? = some (.cells c t' (0, 0))) (ht : t ≠ t') : b ≠ q := fun e => by
  subst e
  unfold Blk at h
  rw [h] at hq
  simp at hq
  exact ht hq.2
/-- A row of texts that lies above B. -/
structure SR (B : Nat) (v : Value) (ss : List (List UInt8)) (W : World) : Prop where
  row : W.ownsRow B 9 1 v ss.length (ss.map encStr)
theorem SR.nil (B : Nat) (W : World) : SR B (.slice none 0 0) [] W := ⟨⟨rfl, .inl ⟨rfl, rfl⟩⟩⟩
theorem SR.below {B : Nat} {W W' : World} {v : Value} {ss : List (List UInt8)} (h : SR B v ss W) (b : Below W.heap.size W W') : SR B v ss W' :=
  ⟨own_same h.row (fun q hq => by obtain ⟨_, c, hc⟩ := own_ty h.row hq; exact b.block q (Array.getElem?_eq_some_iff.1 hc).1)⟩
theorem SR.same {B : Nat} {W W' : World} {v : Value} {ss : List (List UInt8)} (h : SR B v ss W) (b : W'.heap = W.heap) : SR B v ss W' :=
  ⟨own_same h.row (fun q hq => by rw [b])⟩
theorem SR.slice {B : Nat} {W : World} {v : Value} {ss : List (List UInt8)} (h : SR B v ss W) : ∃ a c, v = .slice a ss.length c := by
  rcases h.row.2 with ⟨h1, h0⟩ | ⟨g, cap, cur, hv, _⟩
  · exact ⟨none, 0, by rw [h1, h0]⟩
  · exact ⟨_, _, hv⟩
theorem SR.cell {B : Nat} {W : World} {v : Value} {ss : List (List UInt8)} (h : SR B v ss W) {i : Nat} {x : List UInt8} (hx : ss[i]? = some x) : ∃ g c, v = .slice (some ⟨g, 0, none⟩) ss.length c ∧ W.cell? ⟨g, i, none⟩ = some (.string (txt x)) ∧ g < W.heap.size ∧ ss.length ≤ c := by
  have hi := (List.getElem?_eq_some_iff.1 hx).1
  rcases h.row.2 with ⟨_, h0⟩ | ⟨g, cap, cur, hv, _, hh, hnc, _, _, htk⟩
  · omega
  · refine ⟨g, cap, hv, ?_, (Array.getElem?_eq_some_iff.1 hh).1, hnc⟩
    have e1 : (ss.map encStr)[i]? = some (.string (txt x)) := by simp [hx]; rfl
    rw [← htk, List.getElem?_take] at e1
    split at e1
    · rw [Array.getElem?_toList] at e1
      simp [World.cell?, hh, e1]
    · cases e1
theorem info9 : (Try.prog.info? 9).map (fun i => (i.zero, i.size, i.bytes)) = some (some (.string ⟨#[]⟩), 1, 16) := by kernel_rfl
/-- One more text at the end. -/
theorem app_str {B : Nat} {W : World} {v : Value} {ss : List (List UInt8)} (h : SR B v ss W) (hb : B ≤ W.heap.size) (x : List UInt8) (hn : ss.length + 1 ≤ 1048576) :
    ∃ va vc w', (∀ ty, (Builtin.append_ #[29, 29] ty #[v, .slice (some ⟨W.heap.size, 0, none⟩) 1 1]).run Try.prog (W.alloc (.cells #[.string (txt x)] 9)) = .ok (.slice va (ss.length + 1) vc) w') ∧
      SR B (.slice va (ss.length + 1) vc) (ss ++ [x]) w' ∧ Keep (ownB v) W w' ∧ (∀ q ∈ ownB (.slice va (ss.length + 1) vc), q ∈ ownB v ∨ W.heap.size ≤ q) := by
  obtain ⟨i0, hi, hi2⟩ := Option.map_eq_some_iff.1 info9
  simp only [Prod.mk.injEq] at hi2
  have b := (Below.refl W.heap.size W).alloc (Nat.le_refl _) (.cells #[.string (txt x)] 9)
  have hown := (h.below b).row
  have hnews : ∀ j u, ([.string (txt x)] : List Value)[j]? = some u → (W.alloc (.cells #[.string (txt x)] 9)).cell? ((⟨W.heap.size, 0, none⟩ : Addr).add j) = some u := fun j u hu => by
    rw [Addr.add_lit, Nat.zero_add]
    exact (Blk.new W [.string (txt x)] 9).cell hu
  obtain ⟨v', w', hrun, ho, hg, hnil, hblk⟩ := run_append_own_at (P := Try.prog) (W.alloc (.cells #[.string (txt x)] 9)) B 29 0 9 i0 _ 1 16 Try.underlying29 hi hi2.1 hi2.2.1 hi2.2.2 rfl (by decide) v ss.length (ss.map encStr) hown ⟨W.heap.size, 0, none⟩ 1 1 [.string (txt x)] rfl hnews (fun u hu => by simp at hu; subst hu; rfl) (by unfold maxLen; omega) (by omega) (Nat.le_trans hb b.size)
  have hform : ∃ va vc, v' = .slice va (ss.length + 1) vc := by
    rcases ho.2 with ⟨_, h0⟩ | ⟨g, cap, cur, hv, _⟩
    · omega
    · exact ⟨_, _, hv⟩
  obtain ⟨va, vc, rfl⟩ := hform
  refine ⟨va, vc, w', fun ty => hrun, ⟨?_⟩, (Keep.of_below (F := ownB v) b).grown hg (fun q hq => .inl (mem_own.2 hq)), fun q hq => ?_⟩
  · rw [List.map_append, List.length_append]
    exact ho
  · rcases hblk with h2 | h2
    · exact .inl (mem_own.2 (h2 ▸ mem_own.1 hq))
    · have := mem_own.1 hq
      rw [h2] at this
      have := Option.some.inj this
      have hs := b.size
      exact .inr (by omega)
section
variable {w w' : World} {f nb ob mo : Nat} {nw od : List (List En)} {cnt : Nat} {key : List UInt8}
theorem Chain.off {B : Nat} {v : Value} {ss : List (List UInt8)} (h : SR B v ss w) (k : Keep (ownB v) w w') {l : List En} (hC : Chain w l) : Chain w' l := hC.same (fun e he => by
  obtain ⟨q, hq, _⟩ := hC.at e he
  exact k.block e.b hq.lt (fun hm => by obtain ⟨_, c, hc⟩ := own_ty h.row (mem_own.1 hm); exact hq.not_ty hc (by decide) rfl))
set_option maxHeartbeats 2000000 in
theorem addKeys_any (B c o : Nat) (es : List En) (v : Value) (ss : List (List UInt8)) (w : World) (hc : w.cell? ⟨c, o, none⟩ = some (hd es)) (hC : Chain w es) (R : SR B v ss w) (hb : B ≤ w.heap.size) (hn : ss.length + es.length ≤ 1048576) :
    Calls Try.prog 29 #[.pointer (some ⟨c, o, none⟩), v] w fun e w' => ∃ va vc, e = .returned (.slice va (ss.length + es.length) vc) ∧ SR B (.slice va (ss.length + es.length) vc) (ss ++ es.map En.k) w' ∧ Keep (ownB v) w w' ∧ (∀ q ∈ ownB (.slice va (ss.length + es.length) vc), q ∈ ownB v ∨ w.heap.size ≤ q) ∧ (v ≠ .slice none 0 0 → Value.slice va (ss.length + es.length) vc ≠ .slice none 0 0) := by
  have HC := hide hC
  have HR := hide R
  obtain ⟨q, hq⟩ := hd_ptr es
  rw [hq] at hc
  have HQ := hide hq
  obtain ⟨a0, c0, hv⟩ := R.slice
  have HV := hide hv
  clear hq hC R
  go_enter Try.func29, Try.ntmps29
  go_wp2
  go_loopg [1, 5] es.length (fun kx s1 s5 wr => ∃ (A r : List En) (va : Option Addr) (n vc : Nat), s5 = hd r ∧ s1 = .slice va n vc ∧ Hid (n = ss.length + A.length ∧ es = A ++ r ∧ r.length ≤ kx ∧ Chain wr r ∧ SR B (.slice va n vc) (ss ++ A.map En.k) wr ∧ Keep (ownB v) w wr ∧ (∀ q ∈ ownB (.slice va n vc), q ∈ ownB v ∨ w.heap.size ≤ q) ∧ (v ≠ .slice none 0 0 → Value.slice va n vc ≠ .slice none 0 0)))
  case atStart =>
    refine ⟨[], es, a0, ss.length, c0, HQ.out.symm, HV.out, rfl, rfl, Nat.le_refl _, HC.out, ?_, Keep.refl _ _, fun q hq => .inl ?_, fun hv => by rw [← HV.out]; exact hv⟩
    · have := HR.out; rw [HV.out] at this; simpa using this
    · rw [HV.out]; exact hq
  case round =>
    obtain ⟨A, r, va, n, vc, rfl, rfl, I⟩ := hrel
    cases r with
    | nil =>
      simp only [hd_nil]
      go_wp2
      go_ret
      obtain ⟨i1, i2, i3, i4, i5, i6, i7, i8⟩ := I.out
      rw [List.append_nil] at i2
      subst i2 i1
      exact ⟨va, vc, rfl, i5, i6, i7, i8⟩
    | cons e r =>
      simp only [hd_cons]
      have k0 := I.out.2.2.2.1.1.cell (i := 0) rfl
      have k2 := I.out.2.2.2.1.1.cell (i := 2) rfl
      obtain ⟨q2, hq2⟩ := hd_ptr r
      rw [hq2] at k2
      have HQ2 := hide hq2
      have hl : n = (ss ++ A.map En.k).length := by rw [I.out.1]; simp
      have hnl : n + 1 ≤ 1048576 := by have h1 := I.out.1; have h2 := I.out.2.1; rw [h2] at hn; simp only [List.length_append, List.length_cons] at hn; omega
      have hbr : B ≤ wr.heap.size := Nat.le_trans hb I.out.2.2.2.2.2.1.size
      obtain ⟨va', vc', w2, hrun, hS, hK, hO⟩ := app_str I.out.2.2.2.2.1 hbr e.k (by rw [← hl]; exact hnl)
      rw [← hl] at hrun hS hO
      have hC2 := I.out.2.2.2.1.off I.out.2.2.2.2.1 hK
      have j2 := hC2.1.cell (i := 2) rfl
      rw [hq2] at j2
      have HS : Hid (n + 1 = ss.length + (A ++ [e]).length ∧ es = (A ++ [e]) ++ r ∧ r.length ≤ r.length ∧ Chain w2 r ∧ SR B (.slice va' (n + 1) vc') (ss ++ (A ++ [e]).map En.k) w2 ∧ Keep (ownB v) w w2 ∧ (∀ q ∈ ownB (.slice va' (n + 1) vc'), q ∈ ownB v ∨ w.heap.size ≤ q) ∧ (v ≠ .slice none 0 0 → Value.slice va' (n + 1) vc' ≠ .slice none 0 0)) := by
        have h7 := I.out.2.2.2.2.2.2.1
        refine ⟨by rw [I.out.1]; simp; omega, by rw [I.out.2.1]; simp, Nat.le_refl _, hC2.2.2, by simpa using hS, I.out.2.2.2.2.2.1.trans hK h7, fun q hq => ?_, fun _ => by simp⟩
        rcases hO q hq with h1 | h1
        · exact h7 q h1
        · exact .inr (Nat.le_trans I.out.2.2.2.2.2.1.size h1)
      have HL : Hid (r.length + 1 ≤ _) := I.out.2.2.1
      have HR := hide hrun
      clear hq2 hl hbr hS hK hO hC2 I hrun
      generalize txt e.k = tk at *
      go_wp2_with (at_builtin; refine Lib.wpList_append_run _ rfl _ _ _ _ rfl _ _ rfl rfl _ _ (HR.out _) ?_)
      go_roundg r.length
      case measure => have := HL.out; omega
      case rel => exact ⟨A ++ [e], r, va', n + 1, vc', HQ2.out.symm, rfl, HS.out⟩
end
end Go.Proofs.Ytkjfildnemgbiaa
