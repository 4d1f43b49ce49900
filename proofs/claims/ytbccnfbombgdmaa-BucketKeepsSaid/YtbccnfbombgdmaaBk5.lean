/- A filter is made of a page. -/
import Derived.Test.YtbccnfbombgdmaaBk4
set_option linter.unusedVariables false
set_option linter.unusedSimpArgs false
set_option maxRecDepth 8000
namespace Go.Proofs.Ytbccnfbombgdmaa
open Go.RowKit Go.Deep Math
variable {w0 W W' : World} {d s : Nat} {F F' : List Nat} {S S' : Dv} {L : Int} {first : Nat} {M : SM}

theorem OneIt.same {w w' : World} {b o : Nat} {x : It} (h : OneIt w b o x) (e : w'.heap[b]? = w.heap[b]?) : OneIt w' b o x := by
  have k : ∀ j, w'.cell? ⟨b, j, none⟩ = w.cell? ⟨b, j, none⟩ := fun j => World.cell?_of_block (a := ⟨b, j, none⟩) e
  exact ⟨(k _).trans h.c0, (k _).trans h.c1, (k _).trans h.c2, (k _).trans h.c3, (k _).trans h.c4⟩
theorem ItsAt.same {w w' : World} {a : Option Addr} {len : Nat} {xs : List It} (h : ItsAt w a len xs) (hs : w.heap.size ≤ w'.heap.size) (k : ∀ b o, a = some ⟨b, o, none⟩ → w'.heap[b]? = w.heap[b]?) : ItsAt w' a len xs :=
  ⟨h.len, h.fits, fun i x hx => by
    obtain ⟨b, o, ha, hb, hc⟩ := h.cell i x hx
    exact ⟨b, o, ha, Nat.lt_of_lt_of_le hb hs, hc.same (k b o ha)⟩⟩
theorem Oks.of_good {xs : List It} (h : ∀ x ∈ xs, x.fits ∧ x.good = true) : Oks xs := fun x hx => by
  have := good_sizes (h x hx).2
  exact ⟨(h x hx).1, by omega, by omega⟩
/-- The bits of a list's keys. -/
def keyB (l : List Bool) (x : It) : List Bool := Bl.setB l (Bl.plc (txt x.key) 256 3)
def toldB (xs : List It) : List Bool := xs.foldl keyB (List.replicate 256 false)
theorem keyB_length (l : List Bool) (x : It) : (keyB l x).length = l.length := Bl.setB_length _ _
theorem toldB_snoc (xs : List It) (x : It) : toldB (xs ++ [x]) = keyB (toldB xs) x := by simp [toldB]
theorem foldB_length (xs : List It) : ∀ l : List Bool, (xs.foldl keyB l).length = l.length := by
  induction xs with
  | nil => intro l; rfl
  | cons x r ih => intro l; rw [List.foldl_cons, ih, keyB_length]
theorem toldB_length (xs : List It) : (toldB xs).length = 256 := by unfold toldB; rw [foldB_length, List.length_replicate]

set_option maxHeartbeats 2000000 in
theorem filter_ok (h : Bk w0 W d F S s L first M) (hL : L = S.losses) (hoff : S.off = false) (at0 : Nat) (c : Cl) (hk : S.cs[first + at0]? = some c) (hcf : c.now.fits) :
    Calls Try.prog 29 #[.pointer (some ⟨s, 0, none⟩), .int .i64 at0] W fun e W' => e = .returned (.tuple #[.pointer (some ⟨W.heap.size + 1, 0, none⟩), .int .i64 0]) ∧
      Bl.FltIn W' (W.heap.size + 1) W.heap.size (toldB c.now.its) 3 ∧ Bk w0 W' d F (S.readDo (first + at0 : Nat)) s L first M ∧ Keep F W W' := by
  have cN := hide (Bl.new_ok 256 3 W (by omega) (by omega) (by omega) (by omega))
  obtain ⟨N, hN⟩ : ∃ N, N = W.heap.size := ⟨_, rfl⟩
  rw [← hN] at cN ⊢
  have H := hide h
  have HL := hide hL
  have HO := hide hoff
  have HK := hide hk
  have HC := hide (Pg.its_all c.now hcf)
  have HNN := hide hN
  obtain ⟨xs, hxs⟩ : ∃ xs, xs = c.now.its := ⟨_, rfl⟩
  rw [← hxs] at HC ⊢
  have HXS := hide hxs
  have hxl : xs.length ≤ 100 := by have h1 := HC.out.1; have h2 := total_len xs; omega
  clear h hL hoff hk hcf hN hxs
  go_enter Try.func29, Try.ntmps29
  go_wp2_with fail
  refine cN.out.mono ?_
  rintro e w1 ⟨rfl, hf, b1⟩
  rw [HNN.out] at b1
  have H1 := hide (H.out.below b1)
  have F1 := hide hf
  have B1 := hide b1
  have cT := hide (list_ok H1.out HL.out HO.out at0 c HK.out)
  clear hf b1 cN
  go_wp2_with fail
  refine cT.out.mono ?_
  rintro e w2 ⟨v, rfl, hr, hb2, k2⟩
  rw [← HXS.out] at hr
  have hNF : N ∉ F ∧ N + 1 ∉ F := ⟨by rw [HNN.out]; exact H.out.law.dev.new _ (Nat.le_refl _), by rw [HNN.out]; exact H.out.law.dev.new _ (by omega)⟩
  have F2 := hide (F1.out.keep k2 hNF.2 hNF.1)
  have H2 := hide hb2
  have K2 := hide k2
  obtain ⟨a, cap, rfl, hI, hq, _, _⟩ := hr.its (Oks.of_good HC.out.2)
  have hw1 : N < w1.heap.size := F1.out.row.lt
  have HQ : Hid (∀ b o, a = some ⟨b, o, none⟩ → b ≠ N) := fun b o hab => by
    have := (hr.lt b (by rw [hab]; rfl)).1
    omega
  have HI := hide hI
  obtain ⟨n, hn⟩ : ∃ n, n = xs.length := ⟨_, rfl⟩
  rw [← hn] at HI hxl ⊢
  have HN2 := hide hn
  clear hr hb2 k2 cT hI hq hn
  go_wp2_with fail
  go_loopg [26] n (fun kx s26 wr => ∃ i : Nat, s26 = .int .i64 i ∧ i ≤ n ∧ n - i ≤ kx ∧ Hid (Bl.FltIn wr (N + 1) N (toldB (xs.take i)) 3 ∧ Keep [N] w2 wr))
  case atStart => exact ⟨0, rfl, Nat.zero_le _, by omega, F2.out, Keep.refl _ _⟩
  case round =>
    obtain ⟨i, rfl, hin, hg, I⟩ := hrel
    by_cases hlt : i < n
    · have hlt2 : (i : Int) < (n : Int) := by omega
      obtain ⟨x, hx⟩ : ∃ x, xs[i]? = some x := ⟨_, List.getElem?_eq_getElem (by rw [← HN2.out]; exact hlt)⟩
      have IW := HI.out.same I.out.2.size (fun b o hab => I.out.2.block b (by
        obtain ⟨b', o', ha', hb', _⟩ := HI.out.cell i x hx
        rw [hab] at ha'
        cases ha'
        exact hb') (by simpa using HQ.out b o hab))
      obtain ⟨b, o, rfl, hb, hc⟩ := IW.cell i x hx
      obtain ⟨c0, c1, c2, c3, c4⟩ := hc.vals
      have hxg := good_sizes (HC.out.2 x (List.mem_of_getElem? hx)).2
      have cA := hide (fun (V : World) (hV : Bl.FltIn V (N + 1) N (toldB (xs.take i)) 3) => Bl.add_any (N + 1) N 3 (toldB (xs.take i)) (txt x.key) (by rw [txt_size]; unfold maxLen; omega) V hV)
      rw [toldB_length] at cA
      have TT : Hid (toldB (xs.take (i + 1)) = Bl.setB (toldB (xs.take i)) (Bl.plc (txt x.key) 256 3)) := by
        show _ = _
        rw [List.take_add_one, hx]
        exact toldB_snoc _ _
      clear hc hx IW hxg
      go_wp2_with fail
      refine (cA.out _ (I.out.1.alloc _)).mono ?_
      rintro e w3 ⟨rfl, hf3, k3⟩
      have F3 := hide hf3
      have K3 := hide ((I.out.2.alloc (.cells #[.string (txt x.key), .string (txt x.value), .int .u32 x.flags, .int .i64 x.exp, .int .u64 x.ver] 36)).trans k3 (fun q hq => .inl hq))
      clear hf3 k3 cA
      go_wp2
      go_roundg (n - (i + 1))
      case measure => omega
      case rel => exact ⟨i + 1, rfl, by omega, by omega, by rw [TT.out]; exact F3.out, K3.out⟩
    · obtain rfl : i = n := by omega
      have hlt2 : ¬ (i : Int) < (i : Int) := by omega
      have I' := I.out
      rw [HN2.out, List.take_length] at I'
      have II := hide I'
      have NS : Hid (N ∉ M.foot s ∧ w0.heap.size ≤ N) := ⟨fun hf => by have := H.out.st.lt N hf; have := HNN.out; omega, by rw [HNN.out]; exact H.out.law.bel.size⟩
      have HNF := hide hNF
      clear I' hNF
      go_wp2
      go_ret2
      refine ⟨rfl, II.out.1, H2.out.keep II.out.2 (fun b hb => by simp at hb; subst hb; exact ⟨HNF.out.1, NS.out⟩), ?_⟩
      have k0 : Keep F W w1 := Keep.of_below B1.out
      exact (k0.trans K2.out (fun q hq => .inl hq)).trans II.out.2 (fun q hq => by simp at hq; subst hq; exact .inr (by have := HNN.out; omega))
end Go.Proofs.Ytbccnfbombgdmaa
