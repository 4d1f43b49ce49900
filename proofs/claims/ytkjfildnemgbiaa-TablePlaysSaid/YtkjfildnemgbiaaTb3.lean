/- One chain of a table turned; an entry pushed. -/
import Derived.Test.YtkjfildnemgbiaaTb2
set_option linter.unusedVariables false
set_option linter.unusedSimpArgs false
set_option maxRecDepth 8000
namespace Go.Proofs.Ytkjfildnemgbiaa
open Go.RowKit Go.Deep Math Tab

theorem Blk.ty_ne {w : World} {b b' : Nat} {L L' : List Value} {t t' : TypeId} (h : Blk w b L t) (h' : Blk w b' L' t') (ht : t ≠ t') : b ≠ b' := fun e => by
  subst e
  unfold Blk at h h'
  rw [h] at h'
  simp at h'
  exact ht h'.2
theorem split_set {α : Type} {l : List α} {i : Nat} {c : α} (h : l[i]? = some c) : ∃ A B, l = A ++ c :: B ∧ ∀ d, l.set i d = A ++ d :: B := by
  obtain ⟨A, B, e, hl⟩ := split_at h
  subst e
  exact ⟨A, B, rfl, fun d => set_split hl⟩
section
variable {w w' : World} {f nb ob mo : Nat} {nw od : List (List En)} {cnt : Nat} {key : List UInt8}
def chE (nw od : List (List En)) (key : List UInt8) : List En := if (tb nw od).isOld hsh key then od.getD ((tb nw od).oi hsh key) [] else nw.getD ((tb nw od).ni hsh key) []
def putNw (nw od : List (List En)) (key : List UInt8) (c : List En) : List (List En) := if (tb nw od).isOld hsh key then nw else nw.set ((tb nw od).ni hsh key) c
def putOd (nw od : List (List En)) (key : List UInt8) (c : List En) : List (List En) := if (tb nw od).isOld hsh key then od.set ((tb nw od).oi hsh key) c else od
theorem map_getD {l : List (List En)} {i : Nat} : (l.getD i []).map kv = (kvs l).getD i [] := by
  simp only [kvs, List.getD, List.getElem?_map]
  cases l[i]? <;> simp
theorem chE_kv : (chE nw od key).map kv = (tb nw od).chn hsh key := by
  unfold chE Tb.chn
  split <;> exact map_getD
theorem put_kv (c : List En) : tb (putNw nw od key c) (putOd nw od key c) = (tb nw od).put hsh key (c.map kv) := by
  unfold putNw putOd Tb.put
  split
  · simp [tb, kvs]
  · simp [tb, kvs]
theorem putNw_len (c : List En) : (putNw nw od key c).length = nw.length := by unfold putNw; split <;> simp
theorem putOd_len (c : List En) : (putOd nw od key c).length = od.length := by unfold putOd; split <;> simp
theorem Fits.oi_lt (g : Fits nw od mo) (h : (tb nw od).isOld hsh key = true) : (tb nw od).oi hsh key < od.length := by
  obtain ⟨h1, h2⟩ := isOld_iff.1 h
  rw [show (tb nw od).od.length = od.length from kvs_len od] at h1
  obtain ⟨e1, e2⟩ := g.half h1
  unfold Tb.oi
  rw [e1, e2] at *
  have := Nat.mod_lt (hsh key) (show 0 < mo + od.length by omega)
  omega
theorem Fits.ni_lt (g : Fits nw od mo) : (tb nw od).ni hsh key < nw.length := by
  show hsh key % (kvs nw).length < _
  rw [kvs_len]
  exact Nat.mod_lt _ g.n1
theorem Fits.put (g : Fits nw od mo) (c : List En) : Fits (putNw nw od key c) (putOd nw od key c) mo :=
  ⟨by rw [putNw_len]; exact g.n1, by rw [putNw_len]; exact g.n9, by rw [putNw_len, putOd_len]; exact g.o2⟩
/-- The chains ahead, the key's own, those behind. -/
theorem Fits.split (g : Fits nw od mo) (key : List UInt8) : ∃ A B, od ++ nw = A ++ chE nw od key :: B ∧ ∀ c, putOd nw od key c ++ putNw nw od key c = A ++ c :: B := by
  unfold chE putOd putNw
  cases h : (tb nw od).isOld hsh key with
  | true =>
    simp only [if_true]
    obtain ⟨A, B, e, es⟩ := split_set (getD_some (g.oi_lt h))
    exact ⟨A, B ++ nw, by rw [← List.cons_append, ← List.append_assoc, ← e], fun c => by rw [es, List.append_assoc]; rfl⟩
  | false =>
    simp only [Bool.false_eq_true, if_false]
    obtain ⟨A, B, e, es⟩ := split_set (getD_some (g.ni_lt (key := key)))
    exact ⟨od ++ A, B, by rw [List.append_assoc, ← e], fun c => by rw [es, List.append_assoc]⟩
def rowL (mo : Nat) (nw od : List (List En)) (key : List UInt8) : List Value := if (tb nw od).isOld hsh key then List.replicate mo (.pointer none) ++ od.map hd else nw.map hd
theorem TbIn.loc (h : TbIn w f nb ob mo nw od cnt) (g : Fits nw od mo) (key : List UInt8) : Blk w (locB nb ob mo nw od key) (rowL mo nw od key) 60 ∧ w.cell? ⟨locB nb ob mo nw od key, locO mo nw od key, none⟩ = some (hd (chE nw od key)) ∧ Chain w (chE nw od key) := by
  obtain ⟨A, B, e, _⟩ := g.split key
  refine ⟨?_, ?_, h.ch _ (by rw [e]; simp)⟩
  · unfold locB rowL
    cases ho : (tb nw od).isOld hsh key with
    | true => exact h.rO (by have := g.oi_lt ho; omega)
    | false => exact h.rN
  · unfold locB locO chE
    cases ho : (tb nw od).isOld hsh key with
    | true => exact h.cO (getD_some (g.oi_lt ho))
    | false => exact h.cN (getD_some g.ni_lt)
theorem mid_perm (A B : List (List En)) (c : List En) : (A ++ c :: B).flatten.Perm (c ++ (A.flatten ++ B.flatten)) := by
  rw [List.flatten_append, List.flatten_cons]
  exact List.perm_append_comm_assoc ..
/-- One chain is another one then; all else stays. -/
theorem TbIn.put (h : TbIn w f nb ob mo nw od cnt) (g : Fits nw od mo) (key : List UInt8) (c : List En) (hrow : Blk w' (locB nb ob mo nw od key) ((rowL mo nw od key).set (locO mo nw od key) (hd c)) 60)
    (hf : w'.heap[f]? = w.heap[f]?) (hN : nb ≠ locB nb ob mo nw od key → w'.heap[nb]? = w.heap[nb]?) (hO : 0 < od.length → ob ≠ locB nb ob mo nw od key → w'.heap[ob]? = w.heap[ob]?)
    (hother : ∀ b ∈ (od ++ nw).flatten.map En.b, b ∉ (chE nw od key).map En.b → w'.heap[b]? = w.heap[b]?) (hch : Chain w' c)
    (hnd : (c.map En.b).Nodup) (hin : ∀ e ∈ c, e.b ∈ (chE nw od key).map En.b ∨ e.b ∉ (od ++ nw).flatten.map En.b) :
    TbIn w' f nb ob mo (putNw nw od key c) (putOd nw od key c) cnt := by
  obtain ⟨A, B, e, e'⟩ := g.split key
  have nd := h.nd
  rw [e] at nd
  have p1 := (mid_perm A B (chE nw od key)).map En.b
  have nd1 := p1.nodup_iff.1 nd
  rw [List.map_append, List.nodup_append] at nd1
  refine ⟨?_, ?_, ?_, by rw [putOd_len]; exact h.ne, ?_, ?_⟩
  · rw [putNw_len, putOd_len]; exact h.own.same hf
  · unfold putNw
    cases ho : (tb nw od).isOld hsh key with
    | true =>
      have h0 : 0 < od.length := by have := g.oi_lt ho; omega
      exact h.rN.same (hN (by unfold locB; rw [ho]; exact h.ne h0))
    | false =>
      unfold locB locO rowL at hrow
      rw [ho] at hrow
      simp only [Bool.false_eq_true, if_false] at hrow ⊢
      rw [List.map_set]
      exact hrow
  · rw [putOd_len]
    intro h0
    unfold putOd
    cases ho : (tb nw od).isOld hsh key with
    | true =>
      unfold locB locO rowL at hrow
      rw [ho] at hrow
      simp only [if_true] at hrow ⊢
      rw [List.set_append_right _ _ (by simp)] at hrow
      simp only [List.length_replicate, Nat.add_sub_cancel_left] at hrow
      rw [List.map_set]
      exact hrow
    | false => exact (h.rO h0).same (hO h0 (by unfold locB; rw [ho]; exact (h.ne h0).symm))
  · intro d hd
    rw [e'] at hd
    have key2 : d ∈ A ∨ d ∈ B → Chain w' d := fun hd2 => by
      refine (h.ch d (by rw [e]; rcases hd2 with x | x <;> simp [x])).same (fun x hx => ?_)
      have hx2 : x.b ∈ (A.flatten ++ B.flatten).map En.b := List.mem_map.2 ⟨x, by
        rcases hd2 with y | y
        · exact List.mem_append_left _ (List.mem_flatten.2 ⟨d, y, hx⟩)
        · exact List.mem_append_right _ (List.mem_flatten.2 ⟨d, y, hx⟩), rfl⟩
      refine hother _ (by rw [e]; exact p1.mem_iff.2 (by rw [List.map_append]; exact List.mem_append_right _ hx2)) (fun y => nd1.2.2 _ y _ hx2 rfl)
    rcases List.mem_append.1 hd with hd | hd
    · exact key2 (.inl hd)
    · rcases List.mem_cons.1 hd with rfl | hd
      · exact hch
      · exact key2 (.inr hd)
  · rw [e']
    refine ((mid_perm A B c).map En.b).nodup_iff.2 ?_
    rw [List.map_append, List.nodup_append]
    refine ⟨hnd, nd1.2.1, fun x hx y hy hxy => ?_⟩
    subst hxy
    obtain ⟨z, hz, rfl⟩ := List.mem_map.1 hx
    rcases hin z hz with h1 | h1
    · exact nd1.2.2 _ h1 _ hy rfl
    · rw [e] at h1
      exact h1 (p1.mem_iff.2 (by rw [List.map_append]; exact List.mem_append_right _ hy))
theorem TbIn.ent (h : TbIn w f nb ob mo nw od cnt) {b : Nat} (hb : b ∈ (od ++ nw).flatten.map En.b) : ∃ L, Blk w b L 58 := by
  obtain ⟨e, he, rfl⟩ := List.mem_map.1 hb
  obtain ⟨c, hc, hce⟩ := List.mem_flatten.1 he
  obtain ⟨q, hq, _⟩ := (h.ch c hc).at e hce
  exact ⟨_, hq⟩
theorem chE_sub (g : Fits nw od mo) {b : Nat} (hb : b ∈ (chE nw od key).map En.b) : b ∈ (od ++ nw).flatten.map En.b := by
  obtain ⟨A, B, e, _⟩ := g.split key
  rw [e]
  refine ((mid_perm A B _).map En.b).mem_iff.2 ?_
  rw [List.map_append]
  exact List.mem_append_left _ hb
theorem chE_nd (h : TbIn w f nb ob mo nw od cnt) (g : Fits nw od mo) (key : List UInt8) : ((chE nw od key).map En.b).Nodup := by
  obtain ⟨A, B, e, _⟩ := g.split key
  have nd := h.nd
  rw [e] at nd
  have nd1 := ((mid_perm A B (chE nw od key)).map En.b).nodup_iff.1 nd
  rw [List.map_append, List.nodup_append] at nd1
  exact nd1.1
/-- An entry goes to the head of its chain. -/
theorem push_tb (h : TbIn w f nb ob mo nw od cnt) (g : Fits nw od mo) (x : En) {q0 : Value} (hb : Blk w x.b [.string (txt x.k), .int .i64 x.v, q0] 58) (hx : x.k.length ≤ maxLen) (hfree : x.b ∉ (od ++ nw).flatten.map En.b) :
    Calls Try.prog 32 #[.pointer (some ⟨locB nb ob mo nw od x.k, locO mo nw od x.k, none⟩), .pointer (some ⟨x.b, 0, none⟩)] w fun e w' => e = .returned (.tuple #[]) ∧
      TbIn w' f nb ob mo (putNw nw od x.k (x :: chE nw od x.k)) (putOd nw od x.k (x :: chE nw od x.k)) cnt ∧ Keep [locB nb ob mo nw od x.k, x.b] w w' := by
  obtain ⟨l1, l2, l3⟩ := h.loc g x.k
  obtain ⟨q, hq⟩ := hd_ptr (chE nw od x.k)
  rw [hq] at l2
  have hne := l1.ty_ne hb (by decide)
  have hp := h
  refine (push_any _ _ x.b q (txt x.k) x.v q0 w l2 (l1.frozen _) hb hne).mono ?_
  rintro e w' ⟨rfl, rfl⟩
  have hfb := h.own.ty_ne hb (by decide)
  have hfl := h.own.ty_ne l1 (by decide)
  have hnx := h.rN.ty_ne hb (by decide)
  have hox : 0 < od.length → ob ≠ x.b := fun h0 => (h.rO h0).ty_ne hb (by decide)
  have oth : ∀ b, b ≠ locB nb ob mo nw od x.k → b ≠ x.b → ((w.setCell ⟨x.b, 2, none⟩ (.pointer q)).setCell ⟨locB nb ob mo nw od x.k, locO mo nw od x.k, none⟩ (.pointer (some ⟨x.b, 0, none⟩))).heap[b]? = w.heap[b]? := fun b h1 h2 => by
    rw [blk_setCell_other _ _ _ _ h1, blk_setCell_other _ _ _ _ h2]
  have ent : ∀ b ∈ (od ++ nw).flatten.map En.b, b ≠ locB nb ob mo nw od x.k ∧ b ≠ x.b := fun b hb2 => by
    obtain ⟨L, hL⟩ := h.ent hb2
    exact ⟨hL.ty_ne l1 (by decide), fun e => hfree (e ▸ hb2)⟩
  refine ⟨rfl, h.put g x.k _ ?_ (oth f hfl hfb) (fun h1 => oth nb h1 hnx) (fun h0 h1 => oth ob h1 (hox h0)) (fun b hb2 _ => oth b (ent b hb2).1 (ent b hb2).2) ?_ ?_ ?_, ?_⟩
  · exact (l1.other (a := ⟨x.b, 2, none⟩) hne _).set _ _
  · refine ⟨?_, hx, l3.same (fun e he => ?_)⟩
    · have h1 := (hb.set 2 (.pointer q)).other (a := ⟨locB nb ob mo nw od x.k, locO mo nw od x.k, none⟩) hne.symm (.pointer (some ⟨x.b, 0, none⟩))
      rw [hq]
      exact h1
    · have := ent e.b (chE_sub g (List.mem_map.2 ⟨e, he, rfl⟩))
      exact oth _ this.1 this.2
  · rw [List.map_cons, List.nodup_cons]
    exact ⟨fun hm => hfree (chE_sub g hm), chE_nd h g x.k⟩
  · intro e he
    rcases List.mem_cons.1 he with rfl | he
    · exact .inr hfree
    · exact .inl (List.mem_map.2 ⟨e, he, rfl⟩)
  · exact ((Keep.refl _ w).setCell (.inl (by simp)) _).setCell (.inl (by simp)) _
end
end Go.Proofs.Ytkjfildnemgbiaa
