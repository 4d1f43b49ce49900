/- Joined texts. -/
import Derived.Test.YtcdghalnneilpaaGreatR49
set_option linter.unusedVariables false
set_option linter.unusedSimpArgs false
set_option maxRecDepth 8000
set_option maxHeartbeats 8000000
namespace Go.Proofs.YtcdghalnneilpaaGreat
open Go.RowKit Go.Deep Math
theorem allF_A : allF 3 fA = [yA] := by
 have hb := bkt_lt [97] 3 (by omega)
 unfold allF fA
 generalize bkt [97] 3 = k at hb ⊢
 match k, hb with
 | 0, _ => rfl
 | 1, _ => rfl
 | 2, _ => rfl
theorem Row.lenOf {w : World} {base : Nat} {va : Option Addr} {vn vc : Nat} {xs : List It} (h : Row w base (.slice va vn vc) xs) : vn = xs.length := by
 rcases h.2 with ⟨hv, h0⟩ | ⟨g, cap, cur, hv, _⟩
 ·cases hv; exact h0.symm
 ·cases hv; rfl
section
variable {w0 w w' : World} {x d p m nj q : Nat} {J : Jr} {S : Dv} {f : Nat -> List It} {bs : List (List Bool)} {G : List Nat} {l ml : Nat} {v5 v6 v7 : Value} {T : Lg}
theorem aw_items {E : En} (hb : E.b.hor = 0) (h : EnAt w0 w x d E p m nj J q 4 3 S fA bsA G l ml v5 v6 v7 T) (hT : ∀ k, T.has k = none) (hall : T.all = []) (hregs : T.regs = []) (hJ : J.gone (hsh [97]) 1 = false) :
  Calls Tryz.prog 39 #[.pointer (some ⟨x, 0, none⟩)] w fun e w' => ∃ va vc, e = .returned (.slice va 1 vc) /\ ∃ S', EnAt w0 w' x d E p m nj J q 4 3 S' fA bsA G l ml v5 v6 v7 T /\ LikeB S S' /\ Moves G G w w' := by
 refine (items_en h (fun _ => none) (fun k => .inl ⟨hT k, rfl⟩) (by rw [hall]; simp) (by rw [hregs]; simp) (by rw [allF_A]; simp)).mono ?_
 rintro e w' ⟨va, vn, vc, rfl, hr, r⟩
 have e2 : E.counts J yA = true := by
  unfold En.counts
  rw [hb]
  show (decide (0 < 1) && !J.gone (hsh [97]) 1) = true
  rw [hJ]
  rfl
 have e3 : E.itS J 3 fA (fun _ => none) yA = true := by
  unfold En.itS En.getK En.gets
  have e4 : (fA (bkt yA.key 3)).find? (isKey yA.key) = some yA := fA_find
  have e5 : fndI ((some yA).getD It.zero) ((none : Option It).getD It.zero) = yA := rfl
  rw [e4, e5, if_pos e2]
  rfl
 have e6 : T.items = [] := by unfold Lg.items; rw [hall]; rfl
 have hl := hr.lenOf
 rw [allF_A, e6, List.filter_cons_of_pos e3] at hl
 have hl : vn = 1 := hl
 subst hl
 exact ⟨va, vc, rfl, r⟩
end
def J0 : Jr := ⟨0, 2, 2, 0, 0, fun _ => none⟩
def JA : Jr := J0.addL [[(hsh [97], 1)]]
theorem JA_gone : JA.gone (hsh [97]) 1 = true := by
 unfold JA Jr.gone Jr.addL
 generalize hsh [97] = k
 simp [Jr.keeps, Jr.keep, J0]
section
variable {w0 w w' : World} {x d p m nj q : Nat} {S : Dv} {G : List Nat} {l ml : Nat} {v5 v6 v7 : Value} {T : Lg}
theorem aw_remove (h : EnAt w0 w x d ⟨0, ⟨2, 1, 64, 0, 0, false, 0⟩, 1⟩ p m nj J0 q 4 3 S fA bsA G l ml v5 v6 v7 T) (a : Option Addr) (kc : Nat) (hkc : 1 <= kc) (hk : KeysAt w a [[97]]) (hs : S.lastSeq = 2) (hl : S.losses = 0) (hc : 11 <= S.cs.length) (hn : nj < 800000) :
  Calls Tryz.prog 16 #[.pointer (some ⟨x, 0, none⟩), .slice a 1 kc] w fun e w' => e = .returned (.int .i64 0) /\ ∃ S' G' n', EnAt w0 w' x d ⟨0, ⟨2, 1, 64, 0, 0, false, 0⟩, 1⟩ p m n' JA q 4 3 S' fA bsA G' l ml v5 v6 v7 T /\ S'.lastSeq = 2 /\ S'.losses = 0 /\ S'.cs.length = S.cs.length /\ Keep (p :: m :: G) w w' /\ ∀ k ∈ G', k ∈ G \/ w.heap.size <= k := by
 have hf : (⟨2, 1, 64, 0, 0, false, 0⟩ : Sb).fits := ⟨by decide, by decide, by decide, by decide, by decide, by decide, by decide⟩
 refine (remove_calm h a 1 kc [[97]] hk rfl hkc (by omega) (by show 1 < _; omega) [(hsh [97], 1)] (marks_A T).symm 2 2 0 ⟨rfl, rfl, rfl, by omega, by omega⟩ (by omega) (by omega) (by decide) hl hl hn (by rw [hs]; decide) hf).mono ?_
 rintro e w' ⟨rfl, (⟨_, S', G', n', hE, _, hcs, hlo, hkp, hfo⟩ | ⟨hbad, _⟩)⟩
 ·refine ⟨rfl, S', G', n', hE, ?_, hlo.trans hl, ?_, hkp, hfo⟩
  ·rw [lastSeq_csL hcs (by omega), hs]
  ·rw [hcs, csL_length]
 ·exact absurd hbad (by decide)
end
section
variable {w0 w w' : World} {x d p m nj q : Nat} {J : Jr} {S : Dv} {f : Nat -> List It} {bs : List (List Bool)} {G : List Nat} {l ml : Nat} {v5 v6 v7 : Value} {T : Lg}
theorem aw_wipe (h : EnAt w0 w x d ⟨0, ⟨2, 1, 64, 0, 0, false, 0⟩, 1⟩ p m nj J q 4 3 S f bs G l ml v5 v6 v7 T) (hs : S.lastSeq = 2) (hl : S.losses = 0) (hc : 11 <= S.cs.length) :
  Calls Tryz.prog 28 #[.pointer (some ⟨x, 0, none⟩)] w fun e w' => e = .returned (.int .i64 0) /\ ∃ S' G' m' n', EnAt w0 w' x d ⟨0, ⟨3, 1, 64, 1, 1, false, 0⟩, 1⟩ p m' n' (J.begun 1) q 4 3 S' f bs G' l ml v5 v6 v7 T /\ S'.lastSeq = 3 /\ S'.losses = 0 /\ S'.cs.length = S.cs.length /\ Keep (x :: p :: G) w w' /\ (∀ k ∈ G', k ∈ G \/ w.heap.size <= k) /\ (m' = m \/ w.heap.size <= m') := by
 have hf : (⟨2, 1, 64, 0, 0, false, 0⟩ : Sb).fits := ⟨by decide, by decide, by decide, by decide, by decide, by decide, by decide⟩
 have hf2 : (⟨2, 1, 64, 1, 1, false, 0⟩ : Sb).fits := ⟨by decide, by decide, by decide, by decide, by decide, by decide, by decide⟩
 obtain ⟨F, M, hu, _⟩ := h.bu
 have hS := hu.sure
 have e0 : En.wiped ⟨0, ⟨2, 1, 64, 0, 0, false, 0⟩, 1⟩ = ⟨2, 1, 64, 1, 1, false, 0⟩ := rfl
 refine (wipe_en h hl (by omega) (by rw [hs]; decide) hf (by show 1 < _; omega)).mono ?_
 rintro e w' ⟨rfl, G', m', n', hE, hk, hfo, hm⟩
 rw [e0] at hE
 obtain ⟨_, s2, s3, s4, s5⟩ := sure_store hS (by omega) (by rw [hs]; decide) ⟨2, 1, 64, 1, 1, false, 0⟩
 have e1 : S.nextB ⟨2, 1, 64, 1, 1, false, 0⟩ = ⟨3, 1, 64, 1, 1, false, 0⟩ := by
  unfold Dv.nextB
  rw [hs]
  rfl
 refine ⟨rfl, _, G', m', n', ?_, ?_, by rw [s3, hl], s4, hk, hfo, hm⟩
 ·rw [<- e1]; exact hE
 ·rw [lastSeq_store hS (by omega) (by rw [hs]; decide) _ hf2, hs]
theorem aw_set (h : EnAt w0 w x d ⟨0, ⟨3, 1, 64, 1, 1, false, 0⟩, 1⟩ p m nj J q 4 3 S f bs G l ml v5 v6 v7 T) (hs : S.lastSeq = 3) (hl : S.losses = 0) (hc : 11 <= S.cs.length) :
  Calls Tryz.prog 35 #[.pointer (some ⟨x, 0, none⟩), (⟨3, 1, 64, 1, 1, false, 5⟩ : Sb).val] w fun e w' => e = .returned (.int .i64 0) /\ ∃ S' G', EnAt w0 w' x d ⟨0, ⟨4, 1, 64, 1, 1, false, 5⟩, 1⟩ p m nj J q 4 3 S' f bs G' l ml v5 v6 v7 T /\ Keep (x :: G) w w' /\ ∀ k ∈ G', k ∈ G \/ w.heap.size <= k := by
 have hf : (⟨3, 1, 64, 1, 1, false, 5⟩ : Sb).fits := ⟨by decide, by decide, by decide, by decide, by decide, by decide, by decide⟩
 refine (set_en h hl (by omega) (by rw [hs]; decide) _ hf).mono ?_
 rintro e w' ⟨rfl, G', hE, hk, hfo⟩
 have e1 : S.nextB ⟨3, 1, 64, 1, 1, false, 5⟩ = ⟨4, 1, 64, 1, 1, false, 5⟩ := by
  unfold Dv.nextB
  rw [hs]
  rfl
 refine ⟨rfl, S.storeDo ⟨3, 1, 64, 1, 1, false, 5⟩, G', ?_, hk, hfo⟩
 rw [<- e1]; exact hE
end
def ftE (x p m : Nat) (G L : List Nat) (k : Nat) : Prop := k = x \/ k = p \/ k = m \/ k ∈ G \/ k ∈ L
theorem ft_g {x p m N q : Nat} {G G' L : List Nat} (hn : ∀ k ∈ G', k ∈ G \/ N <= k) (hq : ftE x p m G' L q) : ftE x p m G L q \/ N <= q := by
 rcases hq with h | h | h | h | h
 ·exact .inl (.inl h)
 ·exact .inl (.inr (.inl h))
 ·exact .inl (.inr (.inr (.inl h)))
 ·rcases hn q h with h | h
  ·exact .inl (.inr (.inr (.inr (.inl h))))
  ·exact .inr h
 ·exact .inl (.inr (.inr (.inr (.inr h))))
theorem ft_m {x p m q : Nat} {G G' L L' : List Nat} {w w' : World} (hm : EnMv G L G' L' w w') (hq : ftE x p m G' L' q) : ftE x p m G L q \/ w.heap.size <= q := by
 rcases hq with h | h | h | h
 ·exact .inl (.inl h)
 ·exact .inl (.inr (.inl h))
 ·exact .inl (.inr (.inr (.inl h)))
 ·rcases hm.new q h with h | h
  ·exact .inl (.inr (.inr (.inr h)))
  ·exact .inr h
theorem ft_a {x p m q : Nat} {G L : List Nat} (hq : q ∈ L ++ G) : ftE x p m G L q := by
 rcases List.mem_append.1 hq with h | h
 ·exact .inr (.inr (.inr (.inr h)))
 ·exact .inr (.inr (.inr (.inl h)))
theorem ft_x {x p m q : Nat} {G L : List Nat} (hq : q ∈ x :: G) : ftE x p m G L q := by
 rcases List.mem_cons.1 hq with h | h
 ·exact .inl h
 ·exact .inr (.inr (.inr (.inl h)))
def Pin (B : List Nat) (w w' : World) : Prop := w.heap.size <= w'.heap.size /\ ∀ k ∈ B, k < w.heap.size /\ w'.heap[k]? = w.heap[k]?
theorem Pin.blk {B : List Nat} {w w' : World} (h : Pin B w w') {b : Nat} {l : List Value} {t : TypeId} (hb : Blk w b l t) (hm : b ∈ B) : Blk w' b l t := hb.same (h.2 b hm).2
structure EgIn (w0 w : World) (x d : Nat) (B : List Nat) (E : En) (J : Jr) (gj first n : Nat) (S : Dv) (f : Nat -> List It) (bs : List (List Bool)) (T : Lg) (p m nj q : Nat) (G : List Nat) (l ml : Nat) (v5 v6 v7 : Value) : Prop where
 at_ : EnAt w0 w x d E p m nj J q first n S f bs G l ml v5 v6 v7 T
 few : nj <= gj
 off : ∀ k ∈ B, k < w.heap.size /\ ¬ ftE x p m G (lblocks l ml v5 v6 v7 T) k
def Eg (w0 w : World) (x d : Nat) (B : List Nat) (E : En) (J : Jr) (gj first n : Nat) (S : Dv) (f : Nat -> List It) (bs : List (List Bool)) (T : Lg) : Prop :=
 ∃ p m nj q G l ml v5 v6 v7, EgIn w0 w x d B E J gj first n S f bs T p m nj q G l ml v5 v6 v7
section
variable {w0 w w' : World} {x d : Nat} {B : List Nat} {E : En} {J : Jr} {gj first n : Nat} {S : Dv} {f : Nat -> List It} {bs : List (List Bool)} {T : Lg}
theorem Eg.bel (h : Eg w0 w x d B E J gj first n S f bs T) : Below w0.heap.size w0 w := by
 obtain ⟨p, m, nj, q, G, l, ml, v5, v6, v7, h⟩ := h
 exact h.at_.bu.bel
theorem Eg.below (h : Eg w0 w x d B E J gj first n S f bs T) (b : Below w.heap.size w w') : Eg w0 w' x d B E J gj first n S f bs T := by
 obtain ⟨p, m, nj, q, G, l, ml, v5, v6, v7, h⟩ := h
 exact ⟨p, m, nj, q, G, l, ml, v5, v6, v7, h.at_.below b, h.few, fun k hk => ⟨Nat.lt_of_lt_of_le (h.off k hk).1 b.size, (h.off k hk).2⟩⟩
theorem Pin.of_below (h : Eg w0 w x d B E J gj first n S f bs T) (b : Below w.heap.size w w') : Pin B w w' := by
 obtain ⟨p, m, nj, q, G, l, ml, v5, v6, v7, h⟩ := h
 exact ⟨b.size, fun k hk => ⟨(h.off k hk).1, b.block k (h.off k hk).1⟩⟩
theorem Eg.pin (h : Eg w0 w x d B E J gj first n S f bs T) (b : Below w.heap.size w w') (k : Nat) (hk : w.heap.size <= k) (hk2 : k < w'.heap.size) : Eg w0 w' x d (k :: B) E J gj first n S f bs T := by
 obtain ⟨p, m, nj, q, G, l, ml, v5, v6, v7, h⟩ := h
 refine ⟨p, m, nj, q, G, l, ml, v5, v6, v7, h.at_.below b, h.few, fun j hj => ?_⟩
 rcases List.mem_cons.1 hj with rfl | hj
 ·exact ⟨hk2, fun hf => by have := h.at_.lt j hf; omega⟩
 ·exact ⟨Nat.lt_of_lt_of_le (h.off j hj).1 b.size, (h.off j hj).2⟩
end
section
variable {w w' : World} {B : List Nat}
theorem pin_of {P Q : Nat -> Prop} {H : List Nat} (hB : ∀ k ∈ B, k < w.heap.size /\ ¬ P k) (hk : Keep H w w') (hH : ∀ q ∈ H, P q \/ w.heap.size <= q) (hn : ∀ q, Q q -> P q \/ w.heap.size <= q) : (∀ k ∈ B, k < w'.heap.size /\ ¬ Q k) /\ Pin B w w' := by
 refine ⟨fun k hb => ⟨Nat.lt_of_lt_of_le (hB k hb).1 hk.size, fun hq => ?_⟩, hk.size, fun k hb => ⟨(hB k hb).1, hk.block k (hB k hb).1 (fun hm => ?_)⟩⟩
 ·rcases hn k hq with h1 | h1
  ·exact (hB k hb).2 h1
  ·have := (hB k hb).1; omega
 ·rcases hH k hm with h1 | h1
  ·exact (hB k hb).2 h1
  ·have := (hB k hb).1; omega
end
section
variable {w0 w w' : World} {x d gj : Nat} {B : List Nat} {J : Jr} {S : Dv} {f : Nat -> List It} {bs : List (List Bool)} {T : Lg}
theorem aw_block {E : En} {first n : Nat} (h : Eg w0 w x d B E J gj first n S f bs T) : Calls Tryz.prog 34 #[.pointer (some ⟨x, 0, none⟩)] w fun e w' => e = .returned E.b.val /\ Eg w0 w' x d B E J gj first n S f bs T /\ Pin B w w' := by
 have h0 := h
 obtain ⟨p, m, nj, q, G, l, ml, v5, v6, v7, h⟩ := h
 refine (block_any h.at_.box).mono ?_
 rintro e w' ⟨rfl, b⟩
 exact ⟨rfl, h0.below b, Pin.of_below h0 b⟩
theorem eg_version (h : Eg w0 w x d B ⟨0, ⟨1, 1, 0, 0, 0, false, 0⟩, 0⟩ J gj 4 3 S f bs T) (hs : S.lastSeq = 1) (hl : S.losses = 0) (hc : 11 <= S.cs.length) :
  Calls Tryz.prog 23 #[.pointer (some ⟨x, 0, none⟩)] w fun e w' => e = .returned (.tuple #[.int .u64 1, .int .i64 0]) /\ ∃ S', Eg w0 w' x d B ⟨0, ⟨2, 1, 64, 0, 0, false, 0⟩, 1⟩ J gj 4 3 S' f bs T /\ S'.lastSeq = 2 /\ S'.losses = 0 /\ 11 <= S'.cs.length /\ Pin B w w' := by
 obtain ⟨p, m, nj, q, G, l, ml, v5, v6, v7, h⟩ := h
 refine (aw_version h.at_ hs hl hc).mono ?_
 rintro e w' ⟨rfl, S', G', hE, h1, h2, h3, _, hk, hn⟩
 obtain ⟨o1, o2⟩ := pin_of (P := ftE x p m G (lblocks l ml v5 v6 v7 T)) (Q := ftE x p m G' (lblocks l ml v5 v6 v7 T)) h.off hk (fun _ hq => .inl (ft_x hq)) (fun _ hq => ft_g hn hq)
 exact ⟨rfl, S', ⟨p, m, nj, q, G', l, ml, v5, v6, v7, hE, h.few, o1⟩, h1, h2, by omega, o2⟩
theorem eg_put {b : Sb} {la : Nat} (h : Eg w0 w x d B ⟨0, b, la⟩ J gj 4 3 S (fun _ => []) (List.replicate 3 (toldB [])) T) :
  Calls Tryz.prog 13 #[.pointer (some ⟨x, 0, none⟩), .agg #[.string (txt [97]), .string (txt [49]), .int .u32 0, .int .i64 0, .int .u64 1]] w fun e w' => e = .returned (.int .i64 0) /\ ∃ S', Eg w0 w' x d B ⟨0, b, la⟩ J gj 4 3 S' fA bsA (T.drop [97]) /\ S'.lastSeq = S.lastSeq /\ S'.losses = S.losses /\ S'.cs.length = S.cs.length /\ Pin B w w' := by
 obtain ⟨p, m, nj, q, G, l, ml, v5, v6, v7, h⟩ := h
 refine (aw_put h.at_).mono ?_
 rintro e w' ⟨rfl, S', G', hE, h1, h2, h3, hm⟩
 obtain ⟨o1, o2⟩ := pin_of (P := ftE x p m G (lblocks l ml v5 v6 v7 T)) (Q := ftE x p m G' (lblocks l ml v5 v6 v7 (T.drop [97]))) h.off hm.keep (fun _ hq => .inl (ft_a hq)) (fun _ hq => ft_m hm hq)
 exact ⟨rfl, S', ⟨p, m, nj, q, G', l, ml, v5, v6, v7, hE, h.few, o1⟩, h1, h2, h3.len, o2⟩
theorem eg_moves {E : En} {first n : Nat} {p m nj q : Nat} {G : List Nat} {l ml : Nat} {v5 v6 v7 : Value} (h : EgIn w0 w x d B E J gj first n S f bs T p m nj q G l ml v5 v6 v7) (k : Moves G G w w') : (∀ k ∈ B, k < w'.heap.size /\ ¬ ftE x p m G (lblocks l ml v5 v6 v7 T) k) /\ Pin B w w' :=
 pin_of h.off k.keep (fun q hq => .inl (.inr (.inr (.inr (.inl hq))))) (fun q hq => .inl hq)
theorem eg_get {E : En} (hb : E.b.hor = 0) (h : Eg w0 w x d B E J gj 4 3 S fA bsA T) (hT : T.has [97] = none) (g : Bool) (hJ : J.gone (hsh [97]) 1 = g) :
  Calls Tryz.prog 14 #[.pointer (some ⟨x, 0, none⟩), .string (txt [97])] w fun e w' => e = .returned (getV (if g then none else some yA)) /\ ∃ S', Eg w0 w' x d B E J gj 4 3 S' fA bsA T /\ LikeB S S' /\ Pin B w w' := by
 obtain ⟨p, m, nj, q, G, l, ml, v5, v6, v7, h⟩ := h
 refine (aw_get hb h.at_ hT g hJ).mono ?_
 rintro e w' ⟨rfl, S', hE, hk, hm⟩
 exact ⟨rfl, S', ⟨p, m, nj, q, G, l, ml, v5, v6, v7, hE, h.few, (eg_moves h hm).1⟩, hk, (eg_moves h hm).2⟩
theorem eg_may {E : En} (h : Eg w0 w x d B E J gj 4 3 S fA bsA T) :
  Calls Tryz.prog 32 #[.pointer (some ⟨x, 0, none⟩), .string (txt [97])] w fun e w' => e = .returned (.bool true) /\ Eg w0 w' x d B E J gj 4 3 S fA bsA T /\ Pin B w w' := by
 have h0 := h
 obtain ⟨p, m, nj, q, G, l, ml, v5, v6, v7, h⟩ := h
 refine (aw_may h.at_).mono ?_
 rintro e w' ⟨rfl, b⟩
 exact ⟨rfl, h0.below b, Pin.of_below h0 b⟩
theorem eg_items {E : En} (hb : E.b.hor = 0) (h : Eg w0 w x d B E J gj 4 3 S fA bsA T) (hT : ∀ k, T.has k = none) (hall : T.all = []) (hregs : T.regs = []) (hJ : J.gone (hsh [97]) 1 = false) :
  Calls Tryz.prog 39 #[.pointer (some ⟨x, 0, none⟩)] w fun e w' => ∃ va vc, e = .returned (.slice va 1 vc) /\ ∃ S', Eg w0 w' x d B E J gj 4 3 S' fA bsA T /\ LikeB S S' /\ Pin B w w' := by
 obtain ⟨p, m, nj, q, G, l, ml, v5, v6, v7, h⟩ := h
 refine (aw_items hb h.at_ hT hall hregs hJ).mono ?_
 rintro e w' ⟨va, vc, rfl, S', hE, hk, hm⟩
 exact ⟨va, vc, rfl, S', ⟨p, m, nj, q, G, l, ml, v5, v6, v7, hE, h.few, (eg_moves h hm).1⟩, hk, (eg_moves h hm).2⟩
theorem eg_remove (h : Eg w0 w x d B ⟨0, ⟨2, 1, 64, 0, 0, false, 0⟩, 1⟩ J0 gj 4 3 S fA bsA T) (hgj : gj < 800000) (a : Option Addr) (kc : Nat) (hkc : 1 <= kc) (hk : KeysAt w a [[97]]) (hs : S.lastSeq = 2) (hl : S.losses = 0) (hc : 11 <= S.cs.length) :
  Calls Tryz.prog 16 #[.pointer (some ⟨x, 0, none⟩), .slice a 1 kc] w fun e w' => e = .returned (.int .i64 0) /\ ∃ S' N, Eg w0 w' x d B ⟨0, ⟨2, 1, 64, 0, 0, false, 0⟩, 1⟩ JA N 4 3 S' fA bsA T /\ S'.lastSeq = 2 /\ S'.losses = 0 /\ 11 <= S'.cs.length /\ Pin B w w' := by
 obtain ⟨p, m, nj, q, G, l, ml, v5, v6, v7, h⟩ := h
 refine (aw_remove h.at_ a kc hkc hk hs hl hc (by have := h.few; omega)).mono ?_
 rintro e w' ⟨rfl, S', G', n', hE, h1, h2, h3, hkp, hn⟩
 obtain ⟨o1, o2⟩ := pin_of (P := ftE x p m G (lblocks l ml v5 v6 v7 T)) (Q := ftE x p m G' (lblocks l ml v5 v6 v7 T)) h.off hkp (fun q hq => .inl (by
  rcases List.mem_cons.1 hq with h | hq
  ·exact .inr (.inl h)
  rcases List.mem_cons.1 hq with h | hq
  ·exact .inr (.inr (.inl h))
  ·exact .inr (.inr (.inr (.inl hq))))) (fun _ hq => ft_g hn hq)
 exact ⟨rfl, S', n', ⟨p, m, n', q, G', l, ml, v5, v6, v7, hE, Nat.le_refl _, o1⟩, h1, h2, by omega, o2⟩
theorem eg_wipe (h : Eg w0 w x d B ⟨0, ⟨2, 1, 64, 0, 0, false, 0⟩, 1⟩ J gj 4 3 S f bs T) (hs : S.lastSeq = 2) (hl : S.losses = 0) (hc : 11 <= S.cs.length) :
  Calls Tryz.prog 28 #[.pointer (some ⟨x, 0, none⟩)] w fun e w' => e = .returned (.int .i64 0) /\ ∃ S' N, Eg w0 w' x d B ⟨0, ⟨3, 1, 64, 1, 1, false, 0⟩, 1⟩ (J.begun 1) N 4 3 S' f bs T /\ S'.lastSeq = 3 /\ S'.losses = 0 /\ 11 <= S'.cs.length /\ Pin B w w' := by
 obtain ⟨p, m, nj, q, G, l, ml, v5, v6, v7, h⟩ := h
 refine (aw_wipe h.at_ hs hl hc).mono ?_
 rintro e w' ⟨rfl, S', G', m', n', hE, h1, h2, h3, hkp, hn, hm⟩
 obtain ⟨o1, o2⟩ := pin_of (P := ftE x p m G (lblocks l ml v5 v6 v7 T)) (Q := ftE x p m' G' (lblocks l ml v5 v6 v7 T)) h.off hkp (fun q hq => .inl (by
  rcases List.mem_cons.1 hq with h | hq
  ·exact .inl h
  rcases List.mem_cons.1 hq with h | hq
  ·exact .inr (.inl h)
  ·exact .inr (.inr (.inr (.inl hq))))) (fun q hq => by
  rcases hq with h | h | h | h | h
  ·exact .inl (.inl h)
  ·exact .inl (.inr (.inl h))
  ·rcases hm with h2 | h2
   ·exact .inl (.inr (.inr (.inl (h.trans h2))))
   ·exact .inr (by omega)
  ·rcases hn q h with h | h
   ·exact .inl (.inr (.inr (.inr (.inl h))))
   ·exact .inr h
  ·exact .inl (.inr (.inr (.inr (.inr h)))))
 exact ⟨rfl, S', n', ⟨p, m', n', q, G', l, ml, v5, v6, v7, hE, Nat.le_refl _, o1⟩, h1, h2, by omega, o2⟩
theorem eg_set (h : Eg w0 w x d B ⟨0, ⟨3, 1, 64, 1, 1, false, 0⟩, 1⟩ J gj 4 3 S f bs T) (hs : S.lastSeq = 3) (hl : S.losses = 0) (hc : 11 <= S.cs.length) :
  Calls Tryz.prog 35 #[.pointer (some ⟨x, 0, none⟩), .agg #[.int .u64 3, .int .u64 1, .int .u64 64, .int .u64 1, .int .u64 1, .bool false, .int .i64 5]] w fun e w' => e = .returned (.int .i64 0) /\ ∃ S', Eg w0 w' x d B ⟨0, ⟨4, 1, 64, 1, 1, false, 5⟩, 1⟩ J gj 4 3 S' f bs T /\ Pin B w w' := by
 obtain ⟨p, m, nj, q, G, l, ml, v5, v6, v7, h⟩ := h
 refine (aw_set h.at_ hs hl hc).mono ?_
 rintro e w' ⟨rfl, S', G', hE, hk, hn⟩
 obtain ⟨o1, o2⟩ := pin_of (P := ftE x p m G (lblocks l ml v5 v6 v7 T)) (Q := ftE x p m G' (lblocks l ml v5 v6 v7 T)) h.off hk (fun _ hq => .inl (ft_x hq)) (fun _ hq => ft_g hn hq)
 exact ⟨rfl, S', ⟨p, m, nj, q, G', l, ml, v5, v6, v7, hE, h.few, o1⟩, o2⟩
theorem eg_settle {E : En} (h : Eg w0 w x d B E J gj 4 3 S f bs T) (hl : S.losses = E.losses) (ho : T.opn = []) :
  Calls Tryz.prog 30 #[.pointer (some ⟨x, 0, none⟩)] w fun e w' => e = .returned (.int .i64 0) /\ ∃ S', Eg w0 w' x d B E J gj 4 3 S' f bs T /\ S'.lastSeq = S.lastSeq /\ S'.losses = S.losses /\ S'.cs.length = S.cs.length /\ Pin B w w' := by
 obtain ⟨p, m, nj, q, G, l, ml, v5, v6, v7, h⟩ := h
 refine (settle_idle h.at_ hl ho).mono ?_
 rintro e w' ⟨rfl, S1, S2, G', v5', v6', v7', T', hE, hm, ⟨rfl, rfl⟩, h2, h3, _⟩
 obtain ⟨o1, o2⟩ := pin_of (P := ftE x p m G (lblocks l ml v5 v6 v7 T')) (Q := ftE x p m G' (lblocks l ml v5' v6' v7' T')) h.off hm.keep (fun _ hq => .inl (ft_a hq)) (fun _ hq => ft_m hm hq)
 exact ⟨rfl, S2, ⟨p, m, nj, q, G', l, ml, v5', v6', v7', hE, h.few, o1⟩, lastSeq_far h3 (by omega), h2, h3.len, o2⟩
end
section
variable {w0 w w' : World} {d : Nat} {F B : List Nat}
theorem eg_open {n : Nat} (hn : 11 <= n) (hL : Law w0 d F (Dv.fresh n) w) (hB : ∀ k ∈ B, k < w.heap.size /\ k ∉ F) :
  Calls Tryz.prog 11 #[.pointer (some ⟨d, 0, none⟩), gSm.val] w fun e w' => ∃ x, e = .returned (.tuple #[.pointer (some ⟨x, 0, none⟩), .agg #[.int .u64 0, .int .u64 0, .int .u64 0, .int .u64 0, .int .u64 0, .bool false, .int .i64 0], .int .i64 0]) /\
   ∃ S T, Eg w0 w' x d B ⟨0, ⟨1, 1, 0, 0, 0, false, 0⟩, 0⟩ J0 46 4 3 S (fun _ => []) (List.replicate 3 (toldB [])) T /\ T.regs = [] /\ T.opn = [] /\ (∀ k, T.has k = none) /\ S.lastSeq = 1 /\ S.losses = 0 /\ S.cs.length = n /\ Pin B w w' := by
 refine (open_fresh hn hL).mono ?_
 rintro e w' ⟨x, rfl, p, m, nj, q, S, G, l, ml, v5, T, hE, hT, _, hn, hh, h1, h2, h3, hk, hf⟩
 obtain ⟨o1, o2⟩ := pin_of (P := fun k => k ∈ F) (Q := ftE x p m G (lblocks l ml v5 (.slice none 0 0) (.slice none 0 0) T)) hB hk (fun q hq => .inl hq) hf
 exact ⟨x, rfl, S, T, ⟨p, m, nj, q, G, l, ml, v5, _, _, hE, hn, o1⟩, hT.1, hT.2.1, hh, h1, h2, h3, o2⟩
end
end Go.Proofs.YtcdghalnneilpaaGreat
