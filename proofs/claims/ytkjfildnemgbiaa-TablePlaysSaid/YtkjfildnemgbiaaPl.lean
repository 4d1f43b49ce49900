/- Both tables side by side, with a call in its box. -/
import Derived.Test.YtkjfildnemgbiaaRfE
import Derived.Test.YtkjfildnemgbiaaAwake
set_option linter.unusedVariables false
set_option linter.unusedSimpArgs false
set_option maxRecDepth 8000
namespace Go.Proofs.Ytkjfildnemgbiaa
open Go.RowKit Go.Deep Go.Shelf Math Tab Go.Sort

structure Two (w : World) (f r : Nat) (t u : Tb) (N : Nat) (op v : Int) (k : List UInt8) (W : World) : Prop where
  tl : TL w f t W
  rl : RL w r u W
  bx : Blk W N [.int .i64 op, .int .i64 v, .string (txt k)] 36
section
variable {w W W' : World} {f r N : Nat} {t u : Tb} {op v : Int} {k : List UInt8}
theorem TM.box {F F' : List Nat} {L : List Value} (T : TM f t F W) (M : Moves F F' W W') (h : Blk W N L 36) : Blk W' N L 36 := h.same (M.keep.block N h.lt (fun hm => by
  obtain ⟨X, hX⟩ := T.ty N hm
  rcases hX with hX | hX | hX
  · exact h.ty_ne hX (by decide) rfl
  · exact h.ty_ne hX (by decide) rfl
  · exact h.ty_ne hX (by decide) rfl))
theorem Two.on (h : Two w f r t u N op v k W) (b : Below W.heap.size W W') : Two w f r t u N op v k W' := ⟨h.tl.on b, h.rl.on b, h.bx.same (b.block N h.bx.lt)⟩
theorem two_set (h : Two w f r t u N op v k W) (hk : k.length ≤ 281474976710656) (hc : t.all.length ≤ 100000) :
    Calls Try.prog 15 #[.pointer (some ⟨f, 0, none⟩), .string (txt k), .int .i64 v] W fun e W' => e = .returned (.bool (t.isNew hsh k)) ∧ Two w f r (t.setT hsh k v) u N op v k W' := by
  obtain ⟨F, T, hF⟩ := h.tl.tm
  refine (set_any T k hk v hc).mono ?_
  rintro e W' ⟨rfl, F', T', M⟩
  exact ⟨rfl, h.tl.moves hF T' M, h.rl.moves T M, T.box M h.bx⟩
theorem two_del (h : Two w f r t u N op v k W) (hk : k.length ≤ 281474976710656) (hc : t.all.length ≤ 100000) :
    Calls Try.prog 17 #[.pointer (some ⟨f, 0, none⟩), .string (txt k)] W fun e W' => e = .returned (.bool (fnd k t.all).isSome) ∧ Two w f r (t.delT hsh k) u N op v k W' := by
  obtain ⟨F, T, hF⟩ := h.tl.tm
  refine (delete_any T k (by unfold maxLen; omega) hc).mono ?_
  rintro e W' ⟨rfl, F', T', M⟩
  exact ⟨rfl, h.tl.moves hF T' M, h.rl.moves T M, T.box M h.bx⟩
theorem two_rset (h : Two w f r t u N op v k W) (g : Tab.Good hsh u) (hk : k.length ≤ maxLen) (hc : u.all.length ≤ 900) :
    Calls Try.prog 16 #[.pointer (some ⟨r, 0, none⟩), .string (txt k), .int .i64 v] W fun e W' => e = .returned (.bool (u.isNew hsh k)) ∧ Two w f r t (u.setT hsh k v) N op v k W' := by
  refine (rset_l h.rl g k hk v hc).mono ?_
  rintro e W' ⟨rfl, z, O⟩
  exact ⟨rfl, h.tl.offR O, z, h.bx.same (O.typ N _ 36 h.bx (by decide) (by decide) (by decide) (by decide))⟩
theorem two_rdel (h : Two w f r t u N op v k W) (g : Tab.Good hsh u) (hc : u.all.length ≤ 900) :
    Calls Try.prog 18 #[.pointer (some ⟨r, 0, none⟩), .string (txt k)] W fun e W' => e = .returned (.bool (fnd k u.all).isSome) ∧ Two w f r t (u.delT hsh k) N op v k W' := by
  refine (rdel_l h.rl g k hc).mono ?_
  rintro e W' ⟨rfl, z, O⟩
  exact ⟨rfl, h.tl.offR O, z, h.bx.same (O.typ N _ 36 h.bx (by decide) (by decide) (by decide) (by decide))⟩
theorem two_get (h : Two w f r t u N op v k W) (hk : k.length ≤ 281474976710656) :
    Calls Try.prog 11 #[.pointer (some ⟨f, 0, none⟩), .string (txt k)] W fun e W' => e = .returned (.tuple #[.int .i64 ((fnd k t.all).getD 0), .bool (fnd k t.all).isSome]) ∧ Two w f r t u N op v k W' := by
  obtain ⟨F, T, hF⟩ := h.tl.tm
  refine (get_tm T k (by unfold maxLen; omega)).mono ?_
  rintro e W' ⟨rfl, q, rfl⟩
  exact ⟨rfl, h.on ⟨rfl, rfl, rfl, Nat.le_refl _, fun _ _ => rfl⟩⟩
/-- What the law reads of the document's table. -/
theorem RL.heads (h : RL w r t W) : ∃ nb ka kc, W.cell? ⟨r, 0, none⟩ = some (.slice (some ⟨nb, 0, none⟩) t.nw.length t.nw.length) ∧ W.cell? ⟨r, 3, none⟩ = some (.slice ka t.all.length kc) ∧
    ∀ i, i < t.nw.length → ∃ va vc, W.cell? ⟨nb, i, none⟩ = some (.slice va (chK t (i : Int)).length vc) ∧ SR w.heap.size (.slice va (chK t (i : Int)).length vc) (chK t (i : Int)) W := by
  obtain ⟨nx, nw, od, ks, vs, ⟨⟨nb, ob, vN, vO, kv, vv, h1⟩, _⟩, S, hk⟩ := h.ex
  have hl : nw.length = t.nw.length := by rw [S.n]; simp
  obtain ⟨ka, kc, hkv⟩ := h1.kk.slice
  have c0 := h1.own.cell (i := 0) rfl
  have c3 := h1.own.cell (i := 3) rfl
  rw [hl] at c0
  rw [hkv, S.len] at c3
  refine ⟨nb, ka, kc, c0, c3, fun i hi => ?_⟩
  have hg : nw[i]? = some (chK t (i : Int)) := by
    rw [S.n, List.getElem?_map]
    unfold chK
    rw [if_pos (by omega), Int.toNat_natCast]
    simp [List.getD, hi]
  obtain ⟨v, hv, hS, _⟩ := h1.eN i _ hg
  obtain ⟨va, vc, rfl⟩ := hS.slice
  exact ⟨va, vc, h1.rN.cell hv, hS⟩
theorem rsorted_l (h : RL w r t W) (hc : t.all.length ≤ 900) : Calls Try.prog 25 #[.pointer (some ⟨r, 0, none⟩)] W fun e W' => ∃ va vc, e = .returned (.slice va t.all.length vc) ∧ SR W.heap.size (.slice va t.all.length vc) (sortK (keysOf t.all)) W' ∧ Below W.heap.size W W' := by
  obtain ⟨nx, nw, od, ks, vs, ⟨⟨nb, ob, vN, vO, kv, vv, h1⟩, _⟩, S, hk⟩ := h.ex
  refine (rsorted_any h1 (by rw [S.len]; omega)).mono ?_
  rintro e W' ⟨va, m, vc, rfl, hm, hS, b⟩
  rw [S.len] at hm
  subst hm
  rw [sortK_perm S.keys] at hS
  exact ⟨va, vc, rfl, hS, b⟩
theorem texts_same {B1 B2 : Nat} {a1 a2 : Option Addr} {n c1 c2 : Nat} {xs : List (List UInt8)} (g1 : SR B1 (.slice a1 n c1) xs W) (g2 : SR B2 (.slice a2 n c2) xs W) (hn : n = xs.length) (h9 : xs.length ≤ 100000) :
    Calls Try.prog 24 #[.slice a1 n c1, .slice a2 n c2] W fun e W' => e = .returned (.bool true) ∧ ∃ q, W' = W.drewN q := by
  subst hn
  refine (texts_any a1 a2 c1 c2 xs xs W g1.rd g2.rd (by omega)).mono ?_
  rintro e W' ⟨rfl, q, rfl⟩
  exact ⟨by simp, q, rfl⟩
end
end Go.Proofs.Ytkjfildnemgbiaa
