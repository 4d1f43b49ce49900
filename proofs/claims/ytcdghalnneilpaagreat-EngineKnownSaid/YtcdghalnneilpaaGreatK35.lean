/- Joined texts. -/
import Derived.Test.YtcdghalnneilpaaGreatK34
set_option linter.unusedVariables false
set_option linter.unusedSimpArgs false
set_option maxRecDepth 8000
set_option maxHeartbeats 8000000
namespace Go.Proofs.YtcdghalnneilpaaGreat
open Go.RowKit Go.Deep Math
def gSm : Geo := ⟨2, 3, 1, 0⟩
theorem small_any (w : World) : Calls Tryz.prog 12 #[] w fun e w' => e = .returned gSm.val /\ Below w.heap.size w w' := by
 go_enter Tryz.func12, Tryz.ntmps12
 go_wp2
 exact bodyPost_ret (v := gSm.val) (by simp [results, Tryz.results12, go_sem, gSm, Geo.val]) rfl ⟨rfl, (Below.refl _ _).alloc (Nat.le_refl _) _⟩
theorem zero_fits : Sb.zero.fits := ⟨by decide, by decide, by decide, by decide, by decide, by decide, by decide⟩
section
variable {w0 w w' : World} {d : Nat} {F : List Nat}
theorem open_fresh {n : Nat} (hn : 11 <= n) (hL : Law w0 d F (Dv.fresh n) w) :
  Calls Tryz.prog 11 #[.pointer (some ⟨d, 0, none⟩), gSm.val] w fun e w' => ∃ x, e = .returned (.tuple #[.pointer (some ⟨x, 0, none⟩), .agg #[.int .u64 0, .int .u64 0, .int .u64 0, .int .u64 0, .int .u64 0, .bool false, .int .i64 0], .int .i64 0]) /\
   ∃ p m nj q S G l ml v5 T, EnAt w0 w' x d ⟨0, ⟨1, 1, 0, 0, 0, false, 0⟩, 0⟩ p m nj ⟨0, 2, 2, 0, 0, fun _ => none⟩ q 4 3 S (fun _ => []) (List.replicate 3 (toldB [])) G l ml v5 (.slice none 0 0) (.slice none 0 0) T /\
    (T.regs = [] /\ T.opn = [] /\ T.num = 0 /\ T.losses = 0 /\ T.first = 7 /\ T.regions = 1) /\ OpT (Dv.fresh n) 7 1 T /\ nj <= 46 /\ (∀ k, T.has k = none) /\ S.lastSeq = 1 /\ S.losses = 0 /\ S.cs.length = n /\ Keep F w w' /\ ∀ k, (k = x \/ k = p \/ k = m \/ k ∈ G \/ k ∈ lblocks l ml v5 (.slice none 0 0) (.slice none 0 0) T) -> k ∈ F \/ w.heap.size <= k := by
 have hlen : (Dv.fresh n).cs.length = n := by simp [Dv.fresh]
 have hq : (Dv.fresh n).lastSeq ≠ 18446744073709551615 := by rw [fresh_lastSeq n (by omega)]; decide
 refine (eopen_en (gj := 2) (gb := 3) (gr := 1) (gi := 0) hL (Sure.fresh n) (by omega) (by omega) (by omega) (by omega) (by omega) (by omega) (by omega) (by rw [hlen]; omega) 5 (.inr rfl) (fresh_loadV n (by omega)) hq zero_fits).mono ?_
 rintro e w' ⟨x, rfl, p, m, nj, q, S1, G, l, ml, v5, T, hE, hnn, hT, hlk, hk, hfo⟩
 have hl1 : S1.lastSeq = 0 := by rw [lastSeq_like hlk, fresh_lastSeq n (by omega)]
 have hc1 : S1.cs.length = n := by rw [hlk.cs, hlen]
 obtain ⟨_, s2, s3, s4, _⟩ := sure_store ((Sure.fresh n).like hlk) (by omega) (by rw [hl1]; decide) Sb.zero.opened
 have hE' : EnAt w0 w' x d ⟨0, ⟨1, 1, 0, 0, 0, false, 0⟩, 0⟩ p m nj ⟨0, 2, 2, 0, 0, fun _ => none⟩ q 4 3 (S1.storeDo Sb.zero.opened) (fun _ => []) (List.replicate 3 (toldB [])) G l ml v5 (.slice none 0 0) (.slice none 0 0) T := by
  have e1 : (Dv.fresh n).nextB Sb.zero.opened = ⟨1, 1, 0, 0, 0, false, 0⟩ := by
   unfold Dv.nextB
   rw [fresh_lastSeq n (by omega)]
   rfl
  rw [fresh_openJ, fresh_opF, fresh_opB, e1] at hE
  exact hE
 refine ⟨x, rfl, p, m, nj, q, S1.storeDo Sb.zero.opened, G, l, ml, v5, T, hE', fresh_T hT, hT, by omega, ?_, ?_, ?_, by rw [s4, hc1], hk, hfo⟩
 ·intro k
  have ha : T.all = [] := by unfold Lg.all; rw [(fresh_T hT).1, (fresh_T hT).2.1]; rfl
  rw [hT.has, ha]
  rfl
 ·rw [lastSeq_store ((Sure.fresh n).like hlk) (by omega) (by rw [hl1]; decide) _ (opened_fits zero_fits), hl1]
 ·rw [s3, hlk.losses]; rfl
end
def yA : It := ⟨[97], [49], 0, 0, 1⟩
def fA : Nat -> List It := fun k => if k = bkt [97] 3 then [yA] else []
def bsA : List (List Bool) := (List.replicate 3 (toldB [])).set (bkt [97] 3) (keyB (toldB []) yA)
theorem putF_A : putF 3 (fun _ => []) yA = fA := by
 funext k
 unfold putF fA
 have e : putL 3 (fun _ => []) yA = [yA] := rfl
 have e2 : ovr [yA] = 0 := by decide
 rw [e, e2]
 rfl
theorem bsA_at : bsA[bkt [97] 3]? = some (keyB (toldB []) yA) := by
 unfold bsA
 rw [List.getElem?_set_self (by simpa using bkt_lt [97] 3 (by omega))]
theorem fA_find : (fA (bkt [97] 3)).find? (isKey [97]) = some yA := by
 unfold fA
 rw [if_pos rfl]
 rfl
section
variable {w0 w w' : World} {x d p m nj q : Nat} {J : Jr} {S : Dv} {f : Nat -> List It} {bs : List (List Bool)} {G : List Nat} {l ml : Nat} {v5 v6 v7 : Value} {T : Lg}
theorem aw_version (h : EnAt w0 w x d ⟨0, ⟨1, 1, 0, 0, 0, false, 0⟩, 0⟩ p m nj J q 4 3 S f bs G l ml v5 v6 v7 T) (hs : S.lastSeq = 1) (hl : S.losses = 0) (hc : 11 <= S.cs.length) :
  Calls Tryz.prog 23 #[.pointer (some ⟨x, 0, none⟩)] w fun e w' => e = .returned (.tuple #[.int .u64 1, .int .i64 0]) /\ ∃ S' G', EnAt w0 w' x d ⟨0, ⟨2, 1, 64, 0, 0, false, 0⟩, 1⟩ p m nj J q 4 3 S' f bs G' l ml v5 v6 v7 T /\ S'.lastSeq = 2 /\ S'.losses = 0 /\ S'.cs.length = S.cs.length /\ (∀ j, 2 <= j -> S'.pg j = S.pg j) /\ Keep (x :: G) w w' /\ ∀ k ∈ G', k ∈ G \/ w.heap.size <= k := by
 have hf : (⟨1, 1, 0, 0, 0, false, 0⟩ : Sb).fits := ⟨by decide, by decide, by decide, by decide, by decide, by decide, by decide⟩
 obtain ⟨F, M, hu, _⟩ := h.bu
 have hS := hu.sure
 refine (version_eno h hl (by omega) (by rw [hs]; decide) hf (by decide) rfl).mono ?_
 rintro e w' ⟨rfl, G', hE, hk, hfo⟩
 obtain ⟨_, s2, s3, s4, s5⟩ := sure_store hS (by omega) (by rw [hs]; decide) (Sb.more ⟨1, 1, 0, 0, 0, false, 0⟩)
 have e1 : S.nextB (Sb.more ⟨1, 1, 0, 0, 0, false, 0⟩) = ⟨2, 1, 64, 0, 0, false, 0⟩ := by
  unfold Dv.nextB
  rw [hs]
  rfl
 refine ⟨rfl, S.storeDo (Sb.more ⟨1, 1, 0, 0, 0, false, 0⟩), G', ?_, ?_, by rw [s3, hl], s4, fun j hj => ?_, hk, hfo⟩
 ·rw [<- e1]; exact hE
 ·rw [lastSeq_store hS (by omega) (by rw [hs]; decide) _ (Sb.more_fits hf), hs]
 ·rw [s5, if_neg (by omega)]
theorem aw_put {b : Sb} {la : Nat} (h : EnAt w0 w x d ⟨0, b, la⟩ p m nj J q 4 3 S (fun _ => []) (List.replicate 3 (toldB [])) G l ml v5 v6 v7 T) :
  Calls Tryz.prog 13 #[.pointer (some ⟨x, 0, none⟩), .agg #[.string (txt [97]), .string (txt [49]), .int .u32 0, .int .i64 0, .int .u64 1]] w fun e w' => e = .returned (.int .i64 0) /\ ∃ S' G', EnAt w0 w' x d ⟨0, b, la⟩ p m nj J q 4 3 S' fA bsA G' l ml v5 v6 v7 (T.drop [97]) /\ S'.lastSeq = S.lastSeq /\ S'.losses = S.losses /\ Dv.far 4 3 S S' /\ EnMv G (lblocks l ml v5 v6 v7 T) G' (lblocks l ml v5 v6 v7 (T.drop [97])) w w' := by
 refine (eput_sm h yA ⟨by decide, by decide, by decide, by decide⟩ (by decide) (by decide)).mono ?_
 rintro e w' ⟨rfl, S', bs', G', hE, hb, hl, hf, hm⟩
 have hbs : bs' = bsA := hb (toldB []) (by
  rw [List.getElem?_replicate, if_pos (bkt_lt _ 3 (by omega))])
 rw [putF_A, hbs] at hE
 exact ⟨rfl, S', G', hE, lastSeq_far hf (by omega), hl, hf, hm⟩
end
section
variable {w0 w w' : World} {x d p m nj q : Nat} {J : Jr} {S : Dv} {f : Nat -> List It} {bs : List (List Bool)} {G : List Nat} {l ml : Nat} {v5 v6 v7 : Value} {T : Lg}
theorem aw_get {E : En} (hb : E.b.hor = 0) (h : EnAt w0 w x d E p m nj J q 4 3 S fA bsA G l ml v5 v6 v7 T) (hT : T.has [97] = none) (g : Bool) (hJ : J.gone (hsh [97]) 1 = g) :
  Calls Tryz.prog 14 #[.pointer (some ⟨x, 0, none⟩), .string (txt [97])] w fun e w' => e = .returned (getV (if g then none else some yA)) /\ ∃ S', EnAt w0 w' x d E p m nj J q 4 3 S' fA bsA G l ml v5 v6 v7 T /\ LikeB S S' /\ Moves G G w w' := by
 refine (get_any h [97] (by decide) (by decide) (some yA) none fA_find (.inl ⟨hT, rfl⟩) (by decide) (by decide)).mono ?_
 rintro e w' ⟨rfl, r⟩
 refine ⟨?_, r⟩
 have e1 : fndI ((some yA).getD It.zero) ((none : Option It).getD It.zero) = yA := rfl
 have e2 : E.counts J yA = !g := by
  unfold En.counts
  rw [hb]
  show (decide (0 < 1) && !J.gone (hsh [97]) 1) = !g
  rw [hJ]
  rfl
 unfold En.gets
 rw [e1, e2]
 cases g <;> rfl
theorem toldB_len : (toldB []).length = 256 := by
 unfold toldB
 rw [List.foldl_nil, List.length_replicate]
theorem mayK_A : mayK ((bsA[bkt [97] 3]?).getD []) [97] = true := by
 have h := mayK_add toldB_len yA
 have e : yA.key = [97] := rfl
 rw [bsA_at, Option.getD_some]
 rw [e] at h
 exact h
theorem aw_may {E : En} (h : EnAt w0 w x d E p m nj J q 4 3 S fA bsA G l ml v5 v6 v7 T) :
  Calls Tryz.prog 32 #[.pointer (some ⟨x, 0, none⟩), .string (txt [97])] w fun e w' => e = .returned (.bool true) /\ Below w.heap.size w w' := by
 refine (mayE_any h [97] (by decide)).mono ?_
 rintro e w' ⟨rfl, b⟩
 rw [mayK_A, Bool.true_or]
 exact ⟨rfl, b⟩
theorem mayF_A (T : Lg) : mayF bsA 3 T [97] = true := by
 unfold mayF
 rw [mayK_A, Bool.true_or]
theorem marks_A (T : Lg) : mksTo (mayF bsA 3 T) 1 [[97]] 1 = [(hsh [97], 1)] := by
 unfold mksTo
 have e : cntK [[97]] 0 [97] = 0 := rfl
 show mksTo _ 1 [[97]] 0 ++ (if cntK [[97]] 0 [97] = 0 /\ mayF bsA 3 T [97] = true then [(hsh [97], 1)] else []) = _
 rw [if_pos ⟨e, mayF_A T⟩]
 rfl
end
theorem allF_A : allF 3 fA = [yA] := by
 have hb := bkt_lt [97] 3 (by omega)
 unfold allF fA
 generalize bkt [97] 3 = k at hb ⊢
 match k, hb with
 | 0, _ => rfl
 | 1, _ => rfl
 | 2, _ => rfl
theorem Row.lenOf {w : World} {base : Nat} {va : Option Addr} {vn vc : Nat} {xs : List It} (h : Row w base (.slice va vn vc) xs) : vn = xs.length := by
 rcases h.2 with ⟨hv, h0⟩ | ⟨g, cap, cur, hv, _⟩
 ·cases hv; exact h0.symm
 ·cases hv; rfl
section
variable {w0 w w' : World} {x d p m nj q : Nat} {J : Jr} {S : Dv} {f : Nat -> List It} {bs : List (List Bool)} {G : List Nat} {l ml : Nat} {v5 v6 v7 : Value} {T : Lg}
theorem aw_items {E : En} (hb : E.b.hor = 0) (h : EnAt w0 w x d E p m nj J q 4 3 S fA bsA G l ml v5 v6 v7 T) (hT : ∀ k, T.has k = none) (hall : T.all = []) (hregs : T.regs = []) (hJ : J.gone (hsh [97]) 1 = false) :
  Calls Tryz.prog 39 #[.pointer (some ⟨x, 0, none⟩)] w fun e w' => ∃ va vc, e = .returned (.slice va 1 vc) /\ ∃ S', EnAt w0 w' x d E p m nj J q 4 3 S' fA bsA G l ml v5 v6 v7 T /\ LikeB S S' /\ Moves G G w w' := by
 refine (items_en h (fun _ => none) (fun k => .inl ⟨hT k, rfl⟩) (by rw [hall]; simp) (by rw [hregs]; simp) (by rw [allF_A]; simp)).mono ?_
 rintro e w' ⟨va, vn, vc, rfl, hr, r⟩
 have e2 : E.counts J yA = true := by
  unfold En.counts
  rw [hb]
  show (decide (0 < 1) && !J.gone (hsh [97]) 1) = true
  rw [hJ]
  rfl
 have e3 : E.itS J 3 fA (fun _ => none) yA = true := by
  unfold En.itS En.getK En.gets
  have e4 : (fA (bkt yA.key 3)).find? (isKey yA.key) = some yA := fA_find
  have e5 : fndI ((some yA).getD It.zero) ((none : Option It).getD It.zero) = yA := rfl
  rw [e4, e5, if_pos e2]
  rfl
 have e6 : T.items = [] := by unfold Lg.items; rw [hall]; rfl
 have hl := hr.lenOf
 rw [allF_A, e6, List.filter_cons_of_pos e3] at hl
 have hl : vn = 1 := hl
 subst hl
 exact ⟨va, vc, rfl, r⟩
end
def J0 : Jr := ⟨0, 2, 2, 0, 0, fun _ => none⟩
def JA : Jr := J0.addL [[(hsh [97], 1)]]
theorem JA_gone : JA.gone (hsh [97]) 1 = true := by
 unfold JA Jr.gone Jr.addL
 generalize hsh [97] = k
 simp [Jr.keeps, Jr.keep, J0]
section
variable {w0 w w' : World} {x d p m nj q : Nat} {S : Dv} {G : List Nat} {l ml : Nat} {v5 v6 v7 : Value} {T : Lg}
theorem aw_remove (h : EnAt w0 w x d ⟨0, ⟨2, 1, 64, 0, 0, false, 0⟩, 1⟩ p m nj J0 q 4 3 S fA bsA G l ml v5 v6 v7 T) (a : Option Addr) (kc : Nat) (hkc : 1 <= kc) (hk : KeysAt w a [[97]]) (hs : S.lastSeq = 2) (hl : S.losses = 0) (hc : 11 <= S.cs.length) (hn : nj < 800000) :
  Calls Tryz.prog 16 #[.pointer (some ⟨x, 0, none⟩), .slice a 1 kc] w fun e w' => e = .returned (.int .i64 0) /\ ∃ S' G' n', EnAt w0 w' x d ⟨0, ⟨2, 1, 64, 0, 0, false, 0⟩, 1⟩ p m n' JA q 4 3 S' fA bsA G' l ml v5 v6 v7 T /\ S'.lastSeq = 2 /\ S'.losses = 0 /\ S'.cs.length = S.cs.length /\ Keep (p :: m :: G) w w' /\ ∀ k ∈ G', k ∈ G \/ w.heap.size <= k := by
 have hf : (⟨2, 1, 64, 0, 0, false, 0⟩ : Sb).fits := ⟨by decide, by decide, by decide, by decide, by decide, by decide, by decide⟩
 refine (remove_calm h a 1 kc [[97]] hk rfl hkc (by omega) (by show 1 < _; omega) [(hsh [97], 1)] (marks_A T).symm 2 2 0 ⟨rfl, rfl, rfl, by omega, by omega⟩ (by omega) (by omega) (by decide) hl hl hn (by rw [hs]; decide) hf).mono ?_
 rintro e w' ⟨rfl, (⟨_, S', G', n', hE, _, hcs, hlo, hkp, hfo⟩ | ⟨hbad, _⟩)⟩
 ·refine ⟨rfl, S', G', n', hE, ?_, hlo.trans hl, ?_, hkp, hfo⟩
  ·rw [lastSeq_csL hcs (by omega), hs]
  ·rw [hcs, csL_length]
 ·exact absurd hbad (by decide)
end
section
variable {w0 w w' : World} {x d p m nj q : Nat} {J : Jr} {S : Dv} {f : Nat -> List It} {bs : List (List Bool)} {G : List Nat} {l ml : Nat} {v5 v6 v7 : Value} {T : Lg}
theorem aw_wipe (h : EnAt w0 w x d ⟨0, ⟨2, 1, 64, 0, 0, false, 0⟩, 1⟩ p m nj J q 4 3 S f bs G l ml v5 v6 v7 T) (hs : S.lastSeq = 2) (hl : S.losses = 0) (hc : 11 <= S.cs.length) :
  Calls Tryz.prog 28 #[.pointer (some ⟨x, 0, none⟩)] w fun e w' => e = .returned (.int .i64 0) /\ ∃ S' G' m' n', EnAt w0 w' x d ⟨0, ⟨3, 1, 64, 1, 1, false, 0⟩, 1⟩ p m' n' (J.begun 1) q 4 3 S' f bs G' l ml v5 v6 v7 T /\ S'.lastSeq = 3 /\ S'.losses = 0 /\ S'.cs.length = S.cs.length /\ Keep (x :: p :: G) w w' /\ (∀ k ∈ G', k ∈ G \/ w.heap.size <= k) /\ (m' = m \/ w.heap.size <= m') := by
 have hf : (⟨2, 1, 64, 0, 0, false, 0⟩ : Sb).fits := ⟨by decide, by decide, by decide, by decide, by decide, by decide, by decide⟩
 have hf2 : (⟨2, 1, 64, 1, 1, false, 0⟩ : Sb).fits := ⟨by decide, by decide, by decide, by decide, by decide, by decide, by decide⟩
 obtain ⟨F, M, hu, _⟩ := h.bu
 have hS := hu.sure
 have e0 : En.wiped ⟨0, ⟨2, 1, 64, 0, 0, false, 0⟩, 1⟩ = ⟨2, 1, 64, 1, 1, false, 0⟩ := rfl
 refine (wipe_en h hl (by omega) (by rw [hs]; decide) hf (by show 1 < _; omega)).mono ?_
 rintro e w' ⟨rfl, G', m', n', hE, hk, hfo, hm⟩
 rw [e0] at hE
 obtain ⟨_, s2, s3, s4, s5⟩ := sure_store hS (by omega) (by rw [hs]; decide) ⟨2, 1, 64, 1, 1, false, 0⟩
 have e1 : S.nextB ⟨2, 1, 64, 1, 1, false, 0⟩ = ⟨3, 1, 64, 1, 1, false, 0⟩ := by
  unfold Dv.nextB
  rw [hs]
  rfl
 refine ⟨rfl, _, G', m', n', ?_, ?_, by rw [s3, hl], s4, hk, hfo, hm⟩
 ·rw [<- e1]; exact hE
 ·rw [lastSeq_store hS (by omega) (by rw [hs]; decide) _ hf2, hs]
theorem aw_set (h : EnAt w0 w x d ⟨0, ⟨3, 1, 64, 1, 1, false, 0⟩, 1⟩ p m nj J q 4 3 S f bs G l ml v5 v6 v7 T) (hs : S.lastSeq = 3) (hl : S.losses = 0) (hc : 11 <= S.cs.length) :
  Calls Tryz.prog 35 #[.pointer (some ⟨x, 0, none⟩), (⟨3, 1, 64, 1, 1, false, 5⟩ : Sb).val] w fun e w' => e = .returned (.int .i64 0) /\ ∃ S' G', EnAt w0 w' x d ⟨0, ⟨4, 1, 64, 1, 1, false, 5⟩, 1⟩ p m nj J q 4 3 S' f bs G' l ml v5 v6 v7 T /\ Keep (x :: G) w w' /\ ∀ k ∈ G', k ∈ G \/ w.heap.size <= k := by
 have hf : (⟨3, 1, 64, 1, 1, false, 5⟩ : Sb).fits := ⟨by decide, by decide, by decide, by decide, by decide, by decide, by decide⟩
 refine (set_en h hl (by omega) (by rw [hs]; decide) _ hf).mono ?_
 rintro e w' ⟨rfl, G', hE, hk, hfo⟩
 have e1 : S.nextB ⟨3, 1, 64, 1, 1, false, 5⟩ = ⟨4, 1, 64, 1, 1, false, 5⟩ := by
  unfold Dv.nextB
  rw [hs]
  rfl
 refine ⟨rfl, S.storeDo ⟨3, 1, 64, 1, 1, false, 5⟩, G', ?_, hk, hfo⟩
 rw [<- e1]; exact hE
end
def ftE (x p m : Nat) (G L : List Nat) (k : Nat) : Prop := k = x \/ k = p \/ k = m \/ k ∈ G \/ k ∈ L
theorem ft_g {x p m N q : Nat} {G G' L : List Nat} (hn : ∀ k ∈ G', k ∈ G \/ N <= k) (hq : ftE x p m G' L q) : ftE x p m G L q \/ N <= q := by
 rcases hq with h | h | h | h | h
 ·exact .inl (.inl h)
 ·exact .inl (.inr (.inl h))
 ·exact .inl (.inr (.inr (.inl h)))
 ·rcases hn q h with h | h
  ·exact .inl (.inr (.inr (.inr (.inl h))))
  ·exact .inr h
 ·exact .inl (.inr (.inr (.inr (.inr h))))
theorem ft_m {x p m q : Nat} {G G' L L' : List Nat} {w w' : World} (hm : EnMv G L G' L' w w') (hq : ftE x p m G' L' q) : ftE x p m G L q \/ w.heap.size <= q := by
 rcases hq with h | h | h | h
 ·exact .inl (.inl h)
 ·exact .inl (.inr (.inl h))
 ·exact .inl (.inr (.inr (.inl h)))
 ·rcases hm.new q h with h | h
  ·exact .inl (.inr (.inr (.inr h)))
  ·exact .inr h
theorem ft_a {x p m q : Nat} {G L : List Nat} (hq : q ∈ L ++ G) : ftE x p m G L q := by
 rcases List.mem_append.1 hq with h | h
 ·exact .inr (.inr (.inr (.inr h)))
 ·exact .inr (.inr (.inr (.inl h)))
theorem ft_x {x p m q : Nat} {G L : List Nat} (hq : q ∈ x :: G) : ftE x p m G L q := by
 rcases List.mem_cons.1 hq with h | h
 ·exact .inl h
 ·exact .inr (.inr (.inr (.inl h)))
def Pin (B : List Nat) (w w' : World) : Prop := w.heap.size <= w'.heap.size /\ ∀ k ∈ B, k < w.heap.size /\ w'.heap[k]? = w.heap[k]?
theorem Pin.blk {B : List Nat} {w w' : World} (h : Pin B w w') {b : Nat} {l : List Value} {t : TypeId} (hb : Blk w b l t) (hm : b ∈ B) : Blk w' b l t := hb.same (h.2 b hm).2
structure EgIn (w0 w : World) (x d : Nat) (B : List Nat) (E : En) (J : Jr) (gj first n : Nat) (S : Dv) (f : Nat -> List It) (bs : List (List Bool)) (T : Lg) (p m nj q : Nat) (G : List Nat) (l ml : Nat) (v5 v6 v7 : Value) : Prop where
 at_ : EnAt w0 w x d E p m nj J q first n S f bs G l ml v5 v6 v7 T
 few : nj <= gj
 off : ∀ k ∈ B, k < w.heap.size /\ ¬ ftE x p m G (lblocks l ml v5 v6 v7 T) k
def Eg (w0 w : World) (x d : Nat) (B : List Nat) (E : En) (J : Jr) (gj first n : Nat) (S : Dv) (f : Nat -> List It) (bs : List (List Bool)) (T : Lg) : Prop :=
 ∃ p m nj q G l ml v5 v6 v7, EgIn w0 w x d B E J gj first n S f bs T p m nj q G l ml v5 v6 v7
section
variable {w0 w w' : World} {x d : Nat} {B : List Nat} {E : En} {J : Jr} {gj first n : Nat} {S : Dv} {f : Nat -> List It} {bs : List (List Bool)} {T : Lg}
theorem Eg.bel (h : Eg w0 w x d B E J gj first n S f bs T) : Below w0.heap.size w0 w := by
 obtain ⟨p, m, nj, q, G, l, ml, v5, v6, v7, h⟩ := h
 exact h.at_.bu.bel
theorem Eg.below (h : Eg w0 w x d B E J gj first n S f bs T) (b : Below w.heap.size w w') : Eg w0 w' x d B E J gj first n S f bs T := by
 obtain ⟨p, m, nj, q, G, l, ml, v5, v6, v7, h⟩ := h
 exact ⟨p, m, nj, q, G, l, ml, v5, v6, v7, h.at_.below b, h.few, fun k hk => ⟨Nat.lt_of_lt_of_le (h.off k hk).1 b.size, (h.off k hk).2⟩⟩
theorem Pin.of_below (h : Eg w0 w x d B E J gj first n S f bs T) (b : Below w.heap.size w w') : Pin B w w' := by
 obtain ⟨p, m, nj, q, G, l, ml, v5, v6, v7, h⟩ := h
 exact ⟨b.size, fun k hk => ⟨(h.off k hk).1, b.block k (h.off k hk).1⟩⟩
theorem Eg.pin (h : Eg w0 w x d B E J gj first n S f bs T) (b : Below w.heap.size w w') (k : Nat) (hk : w.heap.size <= k) (hk2 : k < w'.heap.size) : Eg w0 w' x d (k :: B) E J gj first n S f bs T := by
 obtain ⟨p, m, nj, q, G, l, ml, v5, v6, v7, h⟩ := h
 refine ⟨p, m, nj, q, G, l, ml, v5, v6, v7, h.at_.below b, h.few, fun j hj => ?_⟩
 rcases List.mem_cons.1 hj with rfl | hj
 ·exact ⟨hk2, fun hf => by have := h.at_.lt j hf; omega⟩
 ·exact ⟨Nat.lt_of_lt_of_le (h.off j hj).1 b.size, (h.off j hj).2⟩
end
section
variable {w w' : World} {B : List Nat}
theorem pin_of {P Q : Nat -> Prop} {H : List Nat} (hB : ∀ k ∈ B, k < w.heap.size /\ ¬ P k) (hk : Keep H w w') (hH : ∀ q ∈ H, P q \/ w.heap.size <= q) (hn : ∀ q, Q q -> P q \/ w.heap.size <= q) : (∀ k ∈ B, k < w'.heap.size /\ ¬ Q k) /\ Pin B w w' := by
 refine ⟨fun k hb => ⟨Nat.lt_of_lt_of_le (hB k hb).1 hk.size, fun hq => ?_⟩, hk.size, fun k hb => ⟨(hB k hb).1, hk.block k (hB k hb).1 (fun hm => ?_)⟩⟩
 ·rcases hn k hq with h1 | h1
  ·exact (hB k hb).2 h1
  ·have := (hB k hb).1; omega
 ·rcases hH k hm with h1 | h1
  ·exact (hB k hb).2 h1
  ·have := (hB k hb).1; omega
end
section
variable {w0 w w' : World} {x d gj : Nat} {B : List Nat} {J : Jr} {S : Dv} {f : Nat -> List It} {bs : List (List Bool)} {T : Lg}
theorem aw_block {E : En} {first n : Nat} (h : Eg w0 w x d B E J gj first n S f bs T) : Calls Tryz.prog 34 #[.pointer (some ⟨x, 0, none⟩)] w fun e w' => e = .returned E.b.val /\ Eg w0 w' x d B E J gj first n S f bs T /\ Pin B w w' := by
 have h0 := h
 obtain ⟨p, m, nj, q, G, l, ml, v5, v6, v7, h⟩ := h
 refine (block_any h.at_.box).mono ?_
 rintro e w' ⟨rfl, b⟩
 exact ⟨rfl, h0.below b, Pin.of_below h0 b⟩
theorem eg_version (h : Eg w0 w x d B ⟨0, ⟨1, 1, 0, 0, 0, false, 0⟩, 0⟩ J gj 4 3 S f bs T) (hs : S.lastSeq = 1) (hl : S.losses = 0) (hc : 11 <= S.cs.length) :
  Calls Tryz.prog 23 #[.pointer (some ⟨x, 0, none⟩)] w fun e w' => e = .returned (.tuple #[.int .u64 1, .int .i64 0]) /\ ∃ S', Eg w0 w' x d B ⟨0, ⟨2, 1, 64, 0, 0, false, 0⟩, 1⟩ J gj 4 3 S' f bs T /\ S'.lastSeq = 2 /\ S'.losses = 0 /\ 11 <= S'.cs.length /\ Pin B w w' := by
 obtain ⟨p, m, nj, q, G, l, ml, v5, v6, v7, h⟩ := h
 refine (aw_version h.at_ hs hl hc).mono ?_
 rintro e w' ⟨rfl, S', G', hE, h1, h2, h3, _, hk, hn⟩
 obtain ⟨o1, o2⟩ := pin_of (P := ftE x p m G (lblocks l ml v5 v6 v7 T)) (Q := ftE x p m G' (lblocks l ml v5 v6 v7 T)) h.off hk (fun _ hq => .inl (ft_x hq)) (fun _ hq => ft_g hn hq)
 exact ⟨rfl, S', ⟨p, m, nj, q, G', l, ml, v5, v6, v7, hE, h.few, o1⟩, h1, h2, by omega, o2⟩
theorem eg_put {b : Sb} {la : Nat} (h : Eg w0 w x d B ⟨0, b, la⟩ J gj 4 3 S (fun _ => []) (List.replicate 3 (toldB [])) T) :
  Calls Tryz.prog 13 #[.pointer (some ⟨x, 0, none⟩), .agg #[.string (txt [97]), .string (txt [49]), .int .u32 0, .int .i64 0, .int .u64 1]] w fun e w' => e = .returned (.int .i64 0) /\ ∃ S', Eg w0 w' x d B ⟨0, b, la⟩ J gj 4 3 S' fA bsA (T.drop [97]) /\ S'.lastSeq = S.lastSeq /\ S'.losses = S.losses /\ S'.cs.length = S.cs.length /\ Pin B w w' := by
 obtain ⟨p, m, nj, q, G, l, ml, v5, v6, v7, h⟩ := h
 refine (aw_put h.at_).mono ?_
 rintro e w' ⟨rfl, S', G', hE, h1, h2, h3, hm⟩
 obtain ⟨o1, o2⟩ := pin_of (P := ftE x p m G (lblocks l ml v5 v6 v7 T)) (Q := ftE x p m G' (lblocks l ml v5 v6 v7 (T.drop [97]))) h.off hm.keep (fun _ hq => .inl (ft_a hq)) (fun _ hq => ft_m hm hq)
 exact ⟨rfl, S', ⟨p, m, nj, q, G', l, ml, v5, v6, v7, hE, h.few, o1⟩, h1, h2, h3.len, o2⟩
theorem eg_moves {E : En} {first n : Nat} {p m nj q : Nat} {G : List Nat} {l ml : Nat} {v5 v6 v7 : Value} (h : EgIn w0 w x d B E J gj first n S f bs T p m nj q G l ml v5 v6 v7) (k : Moves G G w w') : (∀ k ∈ B, k < w'.heap.size /\ ¬ ftE x p m G (lblocks l ml v5 v6 v7 T) k) /\ Pin B w w' :=
 pin_of h.off k.keep (fun q hq => .inl (.inr (.inr (.inr (.inl hq))))) (fun q hq => .inl hq)
theorem eg_get {E : En} (hb : E.b.hor = 0) (h : Eg w0 w x d B E J gj 4 3 S fA bsA T) (hT : T.has [97] = none) (g : Bool) (hJ : J.gone (hsh [97]) 1 = g) :
  Calls Tryz.prog 14 #[.pointer (some ⟨x, 0, none⟩), .string (txt [97])] w fun e w' => e = .returned (getV (if g then none else some yA)) /\ ∃ S', Eg w0 w' x d B E J gj 4 3 S' fA bsA T /\ LikeB S S' /\ Pin B w w' := by
 obtain ⟨p, m, nj, q, G, l, ml, v5, v6, v7, h⟩ := h
 refine (aw_get hb h.at_ hT g hJ).mono ?_
 rintro e w' ⟨rfl, S', hE, hk, hm⟩
 exact ⟨rfl, S', ⟨p, m, nj, q, G, l, ml, v5, v6, v7, hE, h.few, (eg_moves h hm).1⟩, hk, (eg_moves h hm).2⟩
theorem eg_may {E : En} (h : Eg w0 w x d B E J gj 4 3 S fA bsA T) :
  Calls Tryz.prog 32 #[.pointer (some ⟨x, 0, none⟩), .string (txt [97])] w fun e w' => e = .returned (.bool true) /\ Eg w0 w' x d B E J gj 4 3 S fA bsA T /\ Pin B w w' := by
 have h0 := h
 obtain ⟨p, m, nj, q, G, l, ml, v5, v6, v7, h⟩ := h
 refine (aw_may h.at_).mono ?_
 rintro e w' ⟨rfl, b⟩
 exact ⟨rfl, h0.below b, Pin.of_below h0 b⟩
theorem eg_items {E : En} (hb : E.b.hor = 0) (h : Eg w0 w x d B E J gj 4 3 S fA bsA T) (hT : ∀ k, T.has k = none) (hall : T.all = []) (hregs : T.regs = []) (hJ : J.gone (hsh [97]) 1 = false) :
  Calls Tryz.prog 39 #[.pointer (some ⟨x, 0, none⟩)] w fun e w' => ∃ va vc, e = .returned (.slice va 1 vc) /\ ∃ S', Eg w0 w' x d B E J gj 4 3 S' fA bsA T /\ LikeB S S' /\ Pin B w w' := by
 obtain ⟨p, m, nj, q, G, l, ml, v5, v6, v7, h⟩ := h
 refine (aw_items hb h.at_ hT hall hregs hJ).mono ?_
 rintro e w' ⟨va, vc, rfl, S', hE, hk, hm⟩
 exact ⟨va, vc, rfl, S', ⟨p, m, nj, q, G, l, ml, v5, v6, v7, hE, h.few, (eg_moves h hm).1⟩, hk, (eg_moves h hm).2⟩
theorem eg_remove (h : Eg w0 w x d B ⟨0, ⟨2, 1, 64, 0, 0, false, 0⟩, 1⟩ J0 gj 4 3 S fA bsA T) (hgj : gj < 800000) (a : Option Addr) (kc : Nat) (hkc : 1 <= kc) (hk : KeysAt w a [[97]]) (hs : S.lastSeq = 2) (hl : S.losses = 0) (hc : 11 <= S.cs.length) :
  Calls Tryz.prog 16 #[.pointer (some ⟨x, 0, none⟩), .slice a 1 kc] w fun e w' => e = .returned (.int .i64 0) /\ ∃ S' N, Eg w0 w' x d B ⟨0, ⟨2, 1, 64, 0, 0, false, 0⟩, 1⟩ JA N 4 3 S' fA bsA T /\ S'.lastSeq = 2 /\ S'.losses = 0 /\ 11 <= S'.cs.length /\ Pin B w w' := by
 obtain ⟨p, m, nj, q, G, l, ml, v5, v6, v7, h⟩ := h
 refine (aw_remove h.at_ a kc hkc hk hs hl hc (by have := h.few; omega)).mono ?_
 rintro e w' ⟨rfl, S', G', n', hE, h1, h2, h3, hkp, hn⟩
 obtain ⟨o1, o2⟩ := pin_of (P := ftE x p m G (lblocks l ml v5 v6 v7 T)) (Q := ftE x p m G' (lblocks l ml v5 v6 v7 T)) h.off hkp (fun q hq => .inl (by
  rcases List.mem_cons.1 hq with h | hq
  ·exact .inr (.inl h)
  rcases List.mem_cons.1 hq with h | hq
  ·exact .inr (.inr (.inl h))
  ·exact .inr (.inr (.inr (.inl hq))))) (fun _ hq => ft_g hn hq)
 exact ⟨rfl, S', n', ⟨p, m, n', q, G', l, ml, v5, v6, v7, hE, Nat.le_refl _, o1⟩, h1, h2, by omega, o2⟩
theorem eg_wipe (h : Eg w0 w x d B ⟨0, ⟨2, 1, 64, 0, 0, false, 0⟩, 1⟩ J gj 4 3 S f bs T) (hs : S.lastSeq = 2) (hl : S.losses = 0) (hc : 11 <= S.cs.length) :
  Calls Tryz.prog 28 #[.pointer (some ⟨x, 0, none⟩)] w fun e w' => e = .returned (.int .i64 0) /\ ∃ S' N, Eg w0 w' x d B ⟨0, ⟨3, 1, 64, 1, 1, false, 0⟩, 1⟩ (J.begun 1) N 4 3 S' f bs T /\ S'.lastSeq = 3 /\ S'.losses = 0 /\ 11 <= S'.cs.length /\ Pin B w w' := by
 obtain ⟨p, m, nj, q, G, l, ml, v5, v6, v7, h⟩ := h
 refine (aw_wipe h.at_ hs hl hc).mono ?_
 rintro e w' ⟨rfl, S', G', m', n', hE, h1, h2, h3, hkp, hn, hm⟩
 obtain ⟨o1, o2⟩ := pin_of (P := ftE x p m G (lblocks l ml v5 v6 v7 T)) (Q := ftE x p m' G' (lblocks l ml v5 v6 v7 T)) h.off hkp (fun q hq => .inl (by
  rcases List.mem_cons.1 hq with h | hq
  ·exact .inl h
  rcases List.mem_cons.1 hq with h | hq
  ·exact .inr (.inl h)
  ·exact .inr (.inr (.inr (.inl hq))))) (fun q hq => by
  rcases hq with h | h | h | h | h
  ·exact .inl (.inl h)
  ·exact .inl (.inr (.inl h))
  ·rcases hm with h2 | h2
   ·exact .inl (.inr (.inr (.inl (h.trans h2))))
   ·exact .inr (by omega)
  ·rcases hn q h with h | h
   ·exact .inl (.inr (.inr (.inr (.inl h))))
   ·exact .inr h
  ·exact .inl (.inr (.inr (.inr (.inr h)))))
 exact ⟨rfl, S', n', ⟨p, m', n', q, G', l, ml, v5, v6, v7, hE, Nat.le_refl _, o1⟩, h1, h2, by omega, o2⟩
theorem eg_set (h : Eg w0 w x d B ⟨0, ⟨3, 1, 64, 1, 1, false, 0⟩, 1⟩ J gj 4 3 S f bs T) (hs : S.lastSeq = 3) (hl : S.losses = 0) (hc : 11 <= S.cs.length) :
  Calls Tryz.prog 35 #[.pointer (some ⟨x, 0, none⟩), .agg #[.int .u64 3, .int .u64 1, .int .u64 64, .int .u64 1, .int .u64 1, .bool false, .int .i64 5]] w fun e w' => e = .returned (.int .i64 0) /\ ∃ S', Eg w0 w' x d B ⟨0, ⟨4, 1, 64, 1, 1, false, 5⟩, 1⟩ J gj 4 3 S' f bs T /\ Pin B w w' := by
 obtain ⟨p, m, nj, q, G, l, ml, v5, v6, v7, h⟩ := h
 refine (aw_set h.at_ hs hl hc).mono ?_
 rintro e w' ⟨rfl, S', G', hE, hk, hn⟩
 obtain ⟨o1, o2⟩ := pin_of (P := ftE x p m G (lblocks l ml v5 v6 v7 T)) (Q := ftE x p m G' (lblocks l ml v5 v6 v7 T)) h.off hk (fun _ hq => .inl (ft_x hq)) (fun _ hq => ft_g hn hq)
 exact ⟨rfl, S', ⟨p, m, nj, q, G', l, ml, v5, v6, v7, hE, h.few, o1⟩, o2⟩
theorem eg_settle {E : En} (h : Eg w0 w x d B E J gj 4 3 S f bs T) (hl : S.losses = E.losses) (ho : T.opn = []) :
  Calls Tryz.prog 30 #[.pointer (some ⟨x, 0, none⟩)] w fun e w' => e = .returned (.int .i64 0) /\ ∃ S', Eg w0 w' x d B E J gj 4 3 S' f bs T /\ S'.lastSeq = S.lastSeq /\ S'.losses = S.losses /\ S'.cs.length = S.cs.length /\ Pin B w w' := by
 obtain ⟨p, m, nj, q, G, l, ml, v5, v6, v7, h⟩ := h
 refine (settle_idle h.at_ hl ho).mono ?_
 rintro e w' ⟨rfl, S1, S2, G', v5', v6', v7', T', hE, hm, ⟨rfl, rfl⟩, h2, h3, _⟩
 obtain ⟨o1, o2⟩ := pin_of (P := ftE x p m G (lblocks l ml v5 v6 v7 T')) (Q := ftE x p m G' (lblocks l ml v5' v6' v7' T')) h.off hm.keep (fun _ hq => .inl (ft_a hq)) (fun _ hq => ft_m hm hq)
 exact ⟨rfl, S2, ⟨p, m, nj, q, G', l, ml, v5', v6', v7', hE, h.few, o1⟩, lastSeq_far h3 (by omega), h2, h3.len, o2⟩
end
section
variable {w0 w w' : World} {d : Nat} {F B : List Nat}
theorem eg_open {n : Nat} (hn : 11 <= n) (hL : Law w0 d F (Dv.fresh n) w) (hB : ∀ k ∈ B, k < w.heap.size /\ k ∉ F) :
  Calls Tryz.prog 11 #[.pointer (some ⟨d, 0, none⟩), gSm.val] w fun e w' => ∃ x, e = .returned (.tuple #[.pointer (some ⟨x, 0, none⟩), .agg #[.int .u64 0, .int .u64 0, .int .u64 0, .int .u64 0, .int .u64 0, .bool false, .int .i64 0], .int .i64 0]) /\
   ∃ S T, Eg w0 w' x d B ⟨0, ⟨1, 1, 0, 0, 0, false, 0⟩, 0⟩ J0 46 4 3 S (fun _ => []) (List.replicate 3 (toldB [])) T /\ T.regs = [] /\ T.opn = [] /\ (∀ k, T.has k = none) /\ S.lastSeq = 1 /\ S.losses = 0 /\ S.cs.length = n /\ Pin B w w' := by
 refine (open_fresh hn hL).mono ?_
 rintro e w' ⟨x, rfl, p, m, nj, q, S, G, l, ml, v5, T, hE, hT, _, hn, hh, h1, h2, h3, hk, hf⟩
 obtain ⟨o1, o2⟩ := pin_of (P := fun k => k ∈ F) (Q := ftE x p m G (lblocks l ml v5 (.slice none 0 0) (.slice none 0 0) T)) hB hk (fun q hq => .inl hq) hf
 exact ⟨x, rfl, S, T, ⟨p, m, nj, q, G, l, ml, v5, _, _, hE, hn, o1⟩, hT.1, hT.2.1, hh, h1, h2, h3, o2⟩
end
theorem bk_al {X w : World} {o : Obj} (h : X = w.alloc o) {b : Nat} {l : List Value} {t : TypeId} (hb : Blk w b l t) : Blk X b l t := by rw [h]; exact hb.same (blk_alloc_lt _ _ _ hb.lt)
theorem like_lastSeq {S S' : Dv} (h : LikeB S S') : S'.lastSeq = S.lastSeq := lastSeq_like ⟨h.cs, h.off, h.armed, h.losses⟩
theorem bsm_any (w : World) : Calls Tryz.prog 19 #[gSm.val] w fun e w' => e = .returned (.bool true) /\ Below w.heap.size w w' := by
 have h := egood_any gSm w
 rwa [show gSm.good = true by decide] at h
theorem psm_any (w : World) : Calls Tryz.prog 15 #[gSm.val] w fun e w' => e = .returned (.int .i64 11) /\ Below w.heap.size w w' := by
 have h := epages_any gSm w
 rwa [show gSm.pages = 11 by decide] at h
theorem awake_any (w : World) : Calls Tryz.prog 9 #[] w fun e w' => e = .returned (.bool true) /\ Below w.heap.size w w' := by
 have cN := hide (new_law (Below.refl w.heap.size w) 12 (by omega) (by omega))
 go_enter Tryz.func9, Tryz.ntmps9
 go_wp2_with fail
 refine cN.out.mono ?_
 rintro e w1 ⟨d, F1, rfl, L1, _⟩
 have cS := hide (small_any w1)
 have HL1 := hide L1
 clear cN L1
 go_wp2_with fail
 refine cS.out.mono ?_
 rintro e w2 ⟨rfl, b2⟩
 have cO := hide (eg_open (B := []) (n := 12) (by omega) (HL1.out.below b2) (by simp))
 clear cS b2 HL1
 go_wp2_with fail
 refine cO.out.mono ?_
 rintro e w3 ⟨x, rfl, S3, T, E3, hr, ho, hh, hs, hl, hc, _⟩
 have HE := hide E3
 have HT := hide (And.intro hr (And.intro ho hh))
 have HS := hide (And.intro hs (And.intro hl hc))
 clear cO E3 hr ho hh hs hl hc
 go_wp2_with fail
 obtain ⟨q4, hq4⟩ : ∃ q, q = w3.heap.size := ⟨_, rfl⟩
 obtain ⟨X4, hX4⟩ : ∃ X, X = w3.alloc (.cells #[.int .u64 0, .int .u64 0, .int .u64 0, .int .u64 0, .int .u64 0, .bool false, .int .i64 0] 30) := ⟨_, rfl⟩
 have b4 : Blk X4 q4 [.int .u64 0, .int .u64 0, .int .u64 0, .int .u64 0, .int .u64 0, .bool false, .int .i64 0] 30 := by rw [hX4, hq4]; exact Blk.new w3 [.int .u64 0, .int .u64 0, .int .u64 0, .int .u64 0, .int .u64 0, .bool false, .int .i64 0] 30
 have E4 := HE.out.pin (w' := X4) (by rw [hX4]; exact (Below.refl _ _).alloc (Nat.le_refl _) _) q4 (by omega) (by rw [hX4, nblk_alloc]; omega)
 have lq4 : w.heap.size <= q4 := by rw [hq4]; exact HE.out.bel.size
 have cV := hide (eg_version E4 HS.out.1 HS.out.2.1 (by rw [HS.out.2.2]; omega))
 rw [<- hX4, <- hq4]
 have HB4 := hide b4
 have HQ4 := hide lq4
 clear hX4 hq4 E4 b4 lq4
 refine cV.out.mono ?_
 rintro e w4 ⟨rfl, S4, E4, hs, hl, hc, P4⟩
 have B4 := hide (P4.blk HB4.out (by simp))
 have HE4 := hide E4
 have HS4 := hide (And.intro hs (And.intro hl hc))
 clear cV P4 HB4 E4 hs hl hc HE HS
 go_wp2_with fail
 obtain ⟨q8, hq8⟩ : ∃ q, q = w4.heap.size := ⟨_, rfl⟩
 obtain ⟨X5, hX5⟩ : ∃ X, X = w4.alloc (.cells #[.string ⟨#[97]⟩, .string ⟨#[49]⟩, .int .u32 0, .int .i64 0, .int .u64 1] 39) := ⟨_, rfl⟩
 have b8 : Blk X5 q8 [.string ⟨#[97]⟩, .string ⟨#[49]⟩, .int .u32 0, .int .i64 0, .int .u64 1] 39 := by rw [hX5, hq8]; exact Blk.new w4 [.string ⟨#[97]⟩, .string ⟨#[49]⟩, .int .u32 0, .int .i64 0, .int .u64 1] 39
 have E5 := HE4.out.pin (w' := X5) (by rw [hX5]; exact (Below.refl _ _).alloc (Nat.le_refl _) _) q8 (by omega) (by rw [hX5, nblk_alloc]; omega)
 have lq8 : w.heap.size <= q8 := by rw [hq8]; exact HE4.out.bel.size
 have cP := hide (eg_put E5)
 have B5 := hide (bk_al hX5 B4.out)
 rw [<- hX5, <- hq8]
 have HB8 := hide b8
 have HQ8 := hide lq8
 clear hX5 hq8 E5 b8 lq8 B4 HE4
 refine cP.out.mono ?_
 rintro e w5 ⟨rfl, S5, E5, hs, hl, hc, P5⟩
 have B4 := hide (P5.blk B5.out (by simp))
 have B8 := hide (P5.blk HB8.out (by simp))
 have hd : ∀ k, (T.drop [97]).has k = none := fun k => by
  show updK T.has [97] none k = none
  unfold updK
  split
  ·rfl
  ·exact HT.out.2.2 k
 have cG := eg_get (g := false) rfl E5 (hd _) rfl
 rw [show getV (if false = true then none else some yA) = .tuple #[.agg #[.string ⟨#[97]⟩, .string ⟨#[49]⟩, .int .u32 0, .int .i64 0, .int .u64 1], .int .i64 0] from rfl] at cG
 have CG := hide cG
 have HS5 := hide (And.intro (hs.trans HS4.out.1) (And.intro (hl.trans HS4.out.2.1) (show 11 <= S5.cs.length by rw [hc]; exact HS4.out.2.2)))
 have HD := hide hd
 clear cP P5 B5 HB8 E5 hs hl hc HS4 hd cG
 go_wp2_with fail
 refine CG.out.mono ?_
 rintro e w6 ⟨rfl, S6, E6, hk, P6⟩
 have C4 := hide (P6.blk B4.out (by simp))
 have C8 := hide (P6.blk B8.out (by simp))
 have HS6 := hide (And.intro ((like_lastSeq hk).trans HS5.out.1) (And.intro (hk.losses.trans HS5.out.2.1) (show 11 <= S6.cs.length by rw [hk.cs]; exact HS5.out.2.2)))
 have HE6 := hide E6
 clear CG P6 B4 B8 E6 hk HS5
 go_wp2_with fail
 obtain ⟨q10, hq10⟩ : ∃ q, q = w6.heap.size := ⟨_, rfl⟩
 obtain ⟨X7, hX7⟩ : ∃ X, X = w6.alloc (.cells #[.string ⟨#[97]⟩, .string ⟨#[49]⟩, .int .u32 0, .int .i64 0, .int .u64 1] 39) := ⟨_, rfl⟩
 have b10 : Blk X7 q10 [.string ⟨#[97]⟩, .string ⟨#[49]⟩, .int .u32 0, .int .i64 0, .int .u64 1] 39 := by rw [hX7, hq10]; exact Blk.new w6 [.string ⟨#[97]⟩, .string ⟨#[49]⟩, .int .u32 0, .int .i64 0, .int .u64 1] 39
 have E7 := HE6.out.pin (w' := X7) (by rw [hX7]; exact (Below.refl _ _).alloc (Nat.le_refl _) _) q10 (by omega) (by rw [hX7, nblk_alloc]; omega)
 have lq10 : w.heap.size <= q10 := by rw [hq10]; exact HE6.out.bel.size
 have cM := hide (eg_may E7)
 have D4 := hide (bk_al hX7 C4.out)
 have D8 := hide (bk_al hX7 C8.out)
 rw [<- hX7, <- hq10]
 have HB10 := hide b10
 have HQ10 := hide lq10
 clear hX7 hq10 E7 b10 lq10 C4 C8 HE6
 refine cM.out.mono ?_
 rintro e w7 ⟨rfl, E7, P7⟩
 have C4 := hide (P7.blk D4.out (by simp))
 have C8 := hide (P7.blk D8.out (by simp))
 have C10 := hide (P7.blk HB10.out (by simp))
 have cI := hide (eg_items rfl E7 HD.out (show T.regs.flatMap Rg.ths ++ T.opn = [] by rw [HT.out.1, HT.out.2.1]; rfl) HT.out.1 rfl)
 clear cM P7 D4 D8 HB10 E7
 go_wp2_with fail
 refine cI.out.mono ?_
 rintro e w8 ⟨va, vc, rfl, S8, E8, hk, P8⟩
 have D4 := hide (P8.blk C4.out (by simp))
 have D8 := hide (P8.blk C8.out (by simp))
 have D10 := hide (P8.blk C10.out (by simp))
 have HS8 := hide (And.intro ((like_lastSeq hk).trans HS6.out.1) (And.intro (hk.losses.trans HS6.out.2.1) (show 11 <= S8.cs.length by rw [hk.cs]; exact HS6.out.2.2)))
 have HE8 := hide E8
 clear cI P8 C4 C8 C10 E8 hk HS6
 go_wp2_with fail
 obtain ⟨qk, hqk⟩ : ∃ q, q = w8.heap.size := ⟨_, rfl⟩
 obtain ⟨X9, hX9⟩ : ∃ X, X = w8.alloc (.cells #[.string ⟨#[97]⟩] 9) := ⟨_, rfl⟩
 have bk : Blk X9 qk [.string ⟨#[97]⟩] 9 := by rw [hX9, hqk]; exact Blk.new w8 [.string ⟨#[97]⟩] 9
 have E9 := HE8.out.below (w' := X9) (by rw [hX9]; exact (Below.refl _ _).alloc (Nat.le_refl _) _)
 have hka : KeysAt X9 (some ⟨qk, 0, none⟩) [[97]] := ⟨fun k hk => by simp only [List.mem_singleton] at hk; subst hk; decide, fun i k hk => by
  match i, hk with
  | 0, hk => cases hk; exact ⟨qk, 0, rfl, bk.lt, bk.cell rfl⟩⟩
 have cR := hide (eg_remove E9 (by omega) (some ⟨qk, 0, none⟩) 1 (by omega) hka HS8.out.1 HS8.out.2.1 HS8.out.2.2)
 have C4 := hide (bk_al hX9 D4.out)
 have C8 := hide (bk_al hX9 D8.out)
 have C10 := hide (bk_al hX9 D10.out)
 rw [<- hX9, <- hqk]
 clear hX9 hqk bk E9 hka D4 D8 D10 HE8
 refine cR.out.mono ?_
 rintro e w9 ⟨rfl, S9, N9, E9, hs, hl, hc, P9⟩
 have D4 := hide (P9.blk C4.out (by simp))
 have D8 := hide (P9.blk C8.out (by simp))
 have D10 := hide (P9.blk C10.out (by simp))
 have cG := eg_get (g := true) rfl E9 (HD.out _) JA_gone
 rw [show getV (if true = true then none else some yA) = .tuple #[.agg #[.string ⟨#[]⟩, .string ⟨#[]⟩, .int .u32 0, .int .i64 0, .int .u64 0], .int .i64 5] from rfl] at cG
 have CG := hide cG
 have HS9 := hide (And.intro hs (And.intro hl hc))
 clear cR P9 C4 C8 C10 E9 hs hl hc cG HS8
 go_wp2_with fail
 refine CG.out.mono ?_
 rintro e w10 ⟨rfl, S10, E10, hk, P10⟩
 have C4 := hide (P10.blk D4.out (by simp))
 have C8 := hide (P10.blk D8.out (by simp))
 have C10 := hide (P10.blk D10.out (by simp))
 have HS10 := hide (And.intro ((like_lastSeq hk).trans HS9.out.1) (And.intro (hk.losses.trans HS9.out.2.1) (show 11 <= S10.cs.length by rw [hk.cs]; exact HS9.out.2.2)))
 have HE10 := hide E10
 clear CG P10 D4 D8 D10 E10 hk HS9
 go_wp2_with fail
 obtain ⟨q15, hq15⟩ : ∃ q, q = w10.heap.size := ⟨_, rfl⟩
 obtain ⟨X11, hX11⟩ : ∃ X, X = w10.alloc (.cells #[.string ⟨#[]⟩, .string ⟨#[]⟩, .int .u32 0, .int .i64 0, .int .u64 0] 39) := ⟨_, rfl⟩
 have b15 : Blk X11 q15 [.string ⟨#[]⟩, .string ⟨#[]⟩, .int .u32 0, .int .i64 0, .int .u64 0] 39 := by rw [hX11, hq15]; exact Blk.new w10 [.string ⟨#[]⟩, .string ⟨#[]⟩, .int .u32 0, .int .i64 0, .int .u64 0] 39
 have E11 := HE10.out.pin (w' := X11) (by rw [hX11]; exact (Below.refl _ _).alloc (Nat.le_refl _) _) q15 (by omega) (by rw [hX11, nblk_alloc]; omega)
 have lq15 : w.heap.size <= q15 := by rw [hq15]; exact HE10.out.bel.size
 have cT := hide (eg_settle E11 (show S10.losses = 0 from HS10.out.2.1) HT.out.2.1)
 have D4 := hide (bk_al hX11 C4.out)
 have D8 := hide (bk_al hX11 C8.out)
 have D10 := hide (bk_al hX11 C10.out)
 rw [<- hX11, <- hq15]
 clear hX11 hq15 E11 b15 lq15 C4 C8 C10 HE10
 refine cT.out.mono ?_
 rintro e w11 ⟨rfl, S11, E11, hs, hl, hc, P11⟩
 have C4 := hide (P11.blk D4.out (by simp))
 have C8 := hide (P11.blk D8.out (by simp))
 have C10 := hide (P11.blk D10.out (by simp))
 have cW := hide (eg_wipe E11 (hs.trans HS10.out.1) (hl.trans HS10.out.2.1) (by rw [hc]; exact HS10.out.2.2))
 clear cT P11 D4 D8 D10 E11 hs hl hc HS10
 go_wp2_with fail
 refine cW.out.mono ?_
 rintro e w12 ⟨rfl, S12, N12, E12, hs, hl, hc, P12⟩
 have D4 := hide (P12.blk C4.out (by simp))
 have D8 := hide (P12.blk C8.out (by simp))
 have D10 := hide (P12.blk C10.out (by simp))
 have cB := hide (aw_block E12)
 have HS12 := hide (And.intro hs (And.intro hl hc))
 clear cW P12 C4 C8 C10 E12 hs hl hc
 go_wp2_with fail
 refine cB.out.mono ?_
 rintro e w13 ⟨rfl, E13, P13⟩
 have C4 := hide (P13.blk D4.out (by simp))
 have C8 := hide (P13.blk D8.out (by simp))
 have C10 := hide (P13.blk D10.out (by simp))
 have HE13 := hide E13
 clear cB P13 D4 D8 D10 E13
 rw [show Sb.val (En.b ⟨0, ⟨3, 1, 64, 1, 1, false, 0⟩, 1⟩) = .agg #[.int .u64 3, .int .u64 1, .int .u64 64, .int .u64 1, .int .u64 1, .bool false, .int .i64 0] from rfl]
 obtain ⟨q19, hq19⟩ : ∃ q, q = w13.heap.size := ⟨_, rfl⟩
 obtain ⟨X14, hX14⟩ : ∃ X, X = w13.alloc (.cells #[.int .u64 3, .int .u64 1, .int .u64 64, .int .u64 1, .int .u64 1, .bool false, .int .i64 5] 30) := ⟨_, rfl⟩
 have b19 : Blk X14 q19 [.int .u64 3, .int .u64 1, .int .u64 64, .int .u64 1, .int .u64 1, .bool false, .int .i64 5] 30 := by rw [hX14, hq19]; exact Blk.new w13 [.int .u64 3, .int .u64 1, .int .u64 64, .int .u64 1, .int .u64 1, .bool false, .int .i64 5] 30
 have E14 := HE13.out.pin (w' := X14) (by rw [hX14]; exact (Below.refl _ _).alloc (Nat.le_refl _) _) q19 (by omega) (by rw [hX14, nblk_alloc]; omega)
 have lq19 : w.heap.size <= q19 := by rw [hq19]; exact HE13.out.bel.size
 have D4 := bk_al hX14 C4.out
 have k4_0 := D4.cell (i := 0) rfl
 have k4_1 := D4.cell (i := 1) rfl
 have k4_2 := D4.cell (i := 2) rfl
 have k4_3 := D4.cell (i := 3) rfl
 have k4_4 := D4.cell (i := 4) rfl
 have k4_5 := D4.cell (i := 5) rfl
 have k4_6 := D4.cell (i := 6) rfl
 rw [hX14] at k4_0 k4_1 k4_2 k4_3 k4_4 k4_5 k4_6
 clear D4
 have D8 := bk_al hX14 C8.out
 have k8_0 := D8.cell (i := 0) rfl
 have k8_1 := D8.cell (i := 1) rfl
 have k8_2 := D8.cell (i := 2) rfl
 have k8_3 := D8.cell (i := 3) rfl
 have k8_4 := D8.cell (i := 4) rfl
 rw [hX14] at k8_0 k8_1 k8_2 k8_3 k8_4
 clear D8
 have D10 := bk_al hX14 C10.out
 have k10_0 := D10.cell (i := 0) rfl
 have k10_1 := D10.cell (i := 1) rfl
 have k10_2 := D10.cell (i := 2) rfl
 have k10_3 := D10.cell (i := 3) rfl
 have k10_4 := D10.cell (i := 4) rfl
 rw [hX14] at k10_0 k10_1 k10_2 k10_3 k10_4
 clear D10
 have cB0 := aw_block E14
 rw [show Sb.val (En.b ⟨0, ⟨3, 1, 64, 1, 1, false, 0⟩, 1⟩) = .agg #[.int .u64 3, .int .u64 1, .int .u64 64, .int .u64 1, .int .u64 1, .bool false, .int .i64 0] from rfl] at cB0
 have cB := hide cB0
 have HB19 := hide b19
 have HX := hide hX14
 have HQ := hide hq19
 clear cB0 E14 b19 lq19 hX14 hq19 C4 C8 C10 HE13
 go_wp2_with fail
 rw [<- HX.out, <- HQ.out]
 refine cB.out.mono ?_
 rintro e w14 ⟨rfl, E14, P14⟩
 have C19 := hide (P14.blk HB19.out (by simp))
 have cC0 := aw_block E14
 rw [show Sb.val (En.b ⟨0, ⟨3, 1, 64, 1, 1, false, 0⟩, 1⟩) = .agg #[.int .u64 3, .int .u64 1, .int .u64 64, .int .u64 1, .int .u64 1, .bool false, .int .i64 0] from rfl] at cC0
 have cC := hide cC0
 have ff : (Instr.field 30 (.agg #[.int .u64 3, .int .u64 1, .int .u64 64, .int .u64 1, .int .u64 1, .bool false, .int .i64 0]) 1).run Tryz.prog w14 = .ok (.int .u64 1) w14 := by rfl
 clear cB cC0 P14 E14 HB19 k4_0 k4_1 k4_2 k4_3 k4_4 k4_5 k4_6 k8_0 k8_1 k8_2 k8_3 k8_4 k10_0 k10_1 k10_2 k10_3 k10_4
 go_wp2_with fail
 refine cC.out.mono ?_
 rintro e w15 ⟨rfl, E15, P15⟩
 have D19 := hide (P15.blk C19.out (by simp))
 have HE15 := hide E15
 have cS := hide (small_any w15)
 clear ff cC P15 E15 C19
 have ff : (Instr.field 30 (.agg #[.int .u64 3, .int .u64 1, .int .u64 64, .int .u64 1, .int .u64 1, .bool false, .int .i64 0]) 2).run Tryz.prog w15 = .ok (.int .u64 64) w15 := by rfl
 go_wp2_with fail
 refine cS.out.mono ?_
 rintro e w16 ⟨rfl, b16⟩
 have cG := hide (bsm_any w16)
 have HE16 := hide (HE15.out.below b16)
 have C19 := hide (D19.out.same (b16.block _ D19.out.lt))
 clear ff cS b16 HE15 D19
 go_wp2_with fail
 refine cG.out.mono ?_
 rintro e w17 ⟨rfl, b17⟩
 have cS := hide (small_any w17)
 have HE17 := hide (HE16.out.below b17)
 have D19 := hide (C19.out.same (b17.block _ C19.out.lt))
 clear cG b17 HE16 C19
 go_wp2_with fail
 refine cS.out.mono ?_
 rintro e w18 ⟨rfl, b18⟩
 have cG := hide (psm_any w18)
 have HE18 := hide (HE17.out.below b18)
 have C19 := hide (D19.out.same (b18.block _ D19.out.lt))
 clear cS b18 HE17 D19
 go_wp2_with fail
 refine cG.out.mono ?_
 rintro e w19 ⟨rfl, b19⟩
 have E19 := HE18.out.below b19
 have D19 := C19.out.same (b19.block _ C19.out.lt)
 have k0 := D19.cell (i := 0) rfl
 have k1 := D19.cell (i := 1) rfl
 have k2 := D19.cell (i := 2) rfl
 have k3 := D19.cell (i := 3) rfl
 have k4 := D19.cell (i := 4) rfl
 have k5 := D19.cell (i := 5) rfl
 have k6 := D19.cell (i := 6) rfl
 have cT := hide (eg_set E19 HS12.out.1 HS12.out.2.1 HS12.out.2.2)
 clear cG b19 HE18 C19 E19 D19
 go_wp2_with fail
 refine cT.out.mono ?_
 rintro e w20 ⟨rfl, S20, E20, P20⟩
 have cB0 := aw_block E20
 rw [show Sb.val (En.b ⟨0, ⟨4, 1, 64, 1, 1, false, 5⟩, 1⟩) = .agg #[.int .u64 4, .int .u64 1, .int .u64 64, .int .u64 1, .int .u64 1, .bool false, .int .i64 5] from rfl] at cB0
 have cB := hide cB0
 clear cT P20 E20 cB0 k0 k1 k2 k3 k4 k5 k6
 go_wp2_with fail
 refine cB.out.mono ?_
 rintro e w21 ⟨rfl, E21, P21⟩
 have HE21 := hide E21
 have ff : (Instr.field 30 (.agg #[.int .u64 4, .int .u64 1, .int .u64 64, .int .u64 1, .int .u64 1, .bool false, .int .i64 5]) 6).run Tryz.prog w21 = .ok (.int .i64 5) w21 := by rfl
 clear cB E21 P21
 go_wp2
 go_ret
 exact ⟨rfl, HE21.out.bel⟩
end Go.Proofs.YtcdghalnneilpaaGreat
