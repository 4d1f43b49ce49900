/- A key found, its number turned, a key taken out; Get. -/
import Derived.Test.YtdkiegkgnimapabDoorZc
import Derived.Test.YtdkiegkgnimapabDoorTShelf
set_option linter.unusedVariables false
set_option linter.unusedSimpArgs false
set_option maxRecDepth 8000
namespace Go.Proofs.YtdkiegkgnimapabDoor.Tbl
open Go.RowKit Go.Deep Math Tab

theorem fndP_cases (key : List UInt8) (l : List En) : (fndP key l = none ∧ (∀ x ∈ l, x.k ≠ key) ∧ fnd key (l.map kv) = none) ∨ ∃ A e B, l = A ++ e :: B ∧ e.k = key ∧ (∀ x ∈ A, x.k ≠ key) ∧ fndP key l = some ⟨e.b, 0, none⟩ ∧ fnd key (l.map kv) = some e.v := by
  induction l with
  | nil => exact .inl ⟨rfl, (fun x hx => by cases hx), rfl⟩
  | cons a l ih =>
    rw [List.map_cons, fnd_cons]
    by_cases h : a.k = key
    · refine .inr ⟨[], a, l, rfl, h, (fun x hx => by cases hx), fndP_eq h, ?_⟩
      rw [if_pos (show (kv a).1 = key from h)]; rfl
    · rw [if_neg (show ¬ (kv a).1 = key from h), fndP_ne h]
      rcases ih with ⟨h1, h2, h3⟩ | ⟨A, e, B, h1, h2, h3, h4, h5⟩
      · refine .inl ⟨h1, fun x hx => ?_, h3⟩
        rcases List.mem_cons.1 hx with rfl | hx
        · exact h
        · exact h2 x hx
      · refine .inr ⟨a :: A, e, B, by rw [h1]; rfl, h2, fun x hx => ?_, h4, h5⟩
        rcases List.mem_cons.1 hx with rfl | hx
        · exact h
        · exact h3 x hx
theorem Chain.mid {w : World} {A B : List En} {e : En} (h : Chain w (A ++ e :: B)) : Blk w e.b [.string (txt e.k), .int .i64 e.v, hd B] 107 := (Chain.app (l := A) h).1
theorem hd_app (A B B' : List En) (h : A ≠ [] ∨ hd B = hd B') : hd (A ++ B) = hd (A ++ B') := by
  cases A with
  | nil => rcases h with h | h; exact absurd rfl h; exact h
  | cons x A => rfl
/-- A number turned in its entry. -/
theorem Chain.setv {w : World} {A B : List En} {e : En} {v : Int} (h : Chain w (A ++ e :: B)) (hn : ((A ++ e :: B).map En.b).Nodup) : Chain (w.setCell ⟨e.b, 1, none⟩ (.int .i64 v)) (A ++ ⟨e.b, e.k, v⟩ :: B) := by
  induction A with
  | nil =>
    rw [List.nil_append, List.map_cons, List.nodup_cons] at hn
    refine ⟨h.1.set 1 (.int .i64 v), h.2.1, h.2.2.same (fun x hx => blk_setCell_other _ _ _ _ (fun e1 => hn.1 (List.mem_map.2 ⟨x, hx, e1⟩)))⟩
  | cons a A ih =>
    rw [List.cons_append, List.map_cons, List.nodup_cons] at hn
    refine ⟨?_, h.2.1, ih h.2.2 hn.2⟩
    have h1 := h.1.other (a := ⟨e.b, 1, none⟩) (fun e1 => hn.1 (List.mem_map.2 ⟨e, by simp, e1.symm⟩)) (.int .i64 v)
    have h2 : hd (A ++ (⟨e.b, e.k, v⟩ : En) :: B) = hd (A ++ e :: B) := hd_app A _ _ (.inr rfl)
    show Blk _ a.b [.string (txt a.k), .int .i64 a.v, hd (A ++ (⟨e.b, e.k, v⟩ : En) :: B)] 107
    rw [h2]
    exact h1
theorem pa_mem (c o : Nat) (A : List En) (x : En) : (pa c o (x :: A)).1 ∈ (x :: A).map En.b := by
  induction A generalizing c o x with
  | nil => exact List.mem_cons_self ..
  | cons y A ih => exact List.mem_cons_of_mem _ (ih x.b 2 y)
/-- An entry taken out of the middle of a chain. -/
theorem Chain.cut {w : World} {A B : List En} {x e : En} {c o : Nat} (h : Chain w (x :: A ++ e :: B)) (hn : ((x :: A ++ e :: B).map En.b).Nodup) : Chain (w.setCell ⟨(pa c o (x :: A)).1, (pa c o (x :: A)).2, none⟩ (hd B)) (x :: A ++ B) := by
  induction A generalizing c o x with
  | nil =>
    rw [show ([x] : List En) ++ e :: B = x :: e :: B from rfl, List.map_cons, List.nodup_cons] at hn
    refine ⟨h.1.set 2 (hd B), h.2.1, h.2.2.2.2.same (fun y hy => blk_setCell_other _ _ _ _ (fun e1 => hn.1 ?_))⟩
    exact List.mem_map.2 ⟨y, List.mem_cons_of_mem _ hy, e1⟩
  | cons y A ih =>
    rw [List.cons_append, List.map_cons, List.nodup_cons] at hn
    refine ⟨?_, h.2.1, ih (c := x.b) (o := 2) h.2.2 hn.2⟩
    refine h.1.other (a := ⟨(pa x.b 2 (y :: A)).1, (pa x.b 2 (y :: A)).2, none⟩) (fun e1 => hn.1 ?_) (hd B)
    have e2 : x.b = (pa x.b 2 (y :: A)).1 := e1
    have := pa_mem x.b 2 A y
    rw [← e2] at this
    rw [List.map_append]
    exact List.mem_append_left _ this
section
variable {w w' : World} {f nb ob mo : Nat} {nw od : List (List En)} {cnt : Nat} {key : List UInt8}
theorem row_cell (h : Blk w (locB nb ob mo nw od key) (rowL mo nw od key) 120) {v : Value} (hc : w.cell? ⟨locB nb ob mo nw od key, locO mo nw od key, none⟩ = some v) : (rowL mo nw od key).set (locO mo nw od key) v = rowL mo nw od key := by
  unfold Blk at h
  rw [World.cell?, h] at hc
  simp at hc
  obtain ⟨h1, h2⟩ := List.getElem?_eq_some_iff.1 hc
  rw [← h2]
  exact List.set_getElem_self h1
/-- A key's number turned. -/
theorem TbIn.setv (h : TbIn w f nb ob mo nw od cnt) (g : Fits nw od mo) {A B : List En} {e : En} (hs : chE nw od key = A ++ e :: B) (v : Int) :
    TbIn (w.setCell ⟨e.b, 1, none⟩ (.int .i64 v)) f nb ob mo (putNw nw od key (A ++ ⟨e.b, e.k, v⟩ :: B)) (putOd nw od key (A ++ ⟨e.b, e.k, v⟩ :: B)) cnt := by
  obtain ⟨l1, l2, l3⟩ := h.loc g key
  have hm : e.b ∈ (chE nw od key).map En.b := by rw [hs]; simp
  have hn := chE_nd h g key
  rw [hs] at l3 hn
  have he := l3.mid
  have hbs : (A ++ (⟨e.b, e.k, v⟩ : En) :: B).map En.b = (chE nw od key).map En.b := by rw [hs]; simp
  have oth : ∀ b, b ≠ e.b → (w.setCell ⟨e.b, 1, none⟩ (.int .i64 v)).heap[b]? = w.heap[b]? := fun b hb => blk_setCell_other _ _ _ _ hb
  refine h.put g key _ ?_ (oth f (h.own.ty_ne he (by decide))) (fun _ => oth nb (h.rN.ty_ne he (by decide))) (fun h0 _ => oth ob ((h.rO h0).ty_ne he (by decide))) (fun b _ hb => oth b (fun e1 => hb (e1 ▸ hm))) (l3.setv hn) ?_ ?_
  · have e1 : hd (A ++ (⟨e.b, e.k, v⟩ : En) :: B) = hd (chE nw od key) := by rw [hs]; exact hd_app A _ _ (.inr rfl)
    rw [e1, row_cell l1 l2]
    exact l1.other (a := ⟨e.b, 1, none⟩) (l1.ty_ne he (by decide)) _
  · rw [hbs, hs]; exact hn
  · intro x hx
    refine .inl ?_
    rw [← hbs]
    exact List.mem_map.2 ⟨x, hx, rfl⟩
/-- A key taken out. -/
theorem TbIn.cut (h : TbIn w f nb ob mo nw od cnt) (g : Fits nw od mo) {A B : List En} {e : En} (hs : chE nw od key = A ++ e :: B) :
    TbIn (w.setCell ⟨(pa (locB nb ob mo nw od key) (locO mo nw od key) A).1, (pa (locB nb ob mo nw od key) (locO mo nw od key) A).2, none⟩ (hd B)) f nb ob mo (putNw nw od key (A ++ B)) (putOd nw od key (A ++ B)) cnt ∧
      ((pa (locB nb ob mo nw od key) (locO mo nw od key) A).1 = locB nb ob mo nw od key ∨ (pa (locB nb ob mo nw od key) (locO mo nw od key) A).1 ∈ (chE nw od key).map En.b) := by
  obtain ⟨l1, l2, l3⟩ := h.loc g key
  have hn := chE_nd h g key
  have hsub : ∀ x ∈ A ++ B, x.b ∈ (chE nw od key).map En.b := fun x hx => by
    rw [hs]
    refine List.mem_map.2 ⟨x, ?_, rfl⟩
    rcases List.mem_append.1 hx with h1 | h1 <;> simp [h1]
  have hnd : ((A ++ B).map En.b).Nodup := by
    rw [hs] at hn
    refine List.Nodup.sublist ?_ hn
    exact ((List.Sublist.refl A).append (List.sublist_cons_self e B)).map _
  cases A with
  | nil =>
    refine ⟨?_, .inl rfl⟩
    rw [hs] at l3
    have oth : ∀ b, b ≠ locB nb ob mo nw od key → (w.setCell ⟨locB nb ob mo nw od key, locO mo nw od key, none⟩ (hd B)).heap[b]? = w.heap[b]? := fun b hb => blk_setCell_other _ _ _ _ hb
    refine h.put g key _ (l1.set _ _) (oth f (h.own.ty_ne l1 (by decide))) (fun h1 => oth nb h1) (fun _ h1 => oth ob h1) (fun b hb _ => ?_) ?_ hnd (fun x hx => .inl (hsub x hx))
    · obtain ⟨L, hL⟩ := h.ent hb
      exact oth b (hL.ty_ne l1 (by decide))
    · refine l3.2.2.same (fun x hx => oth _ ?_)
      obtain ⟨q, hq, _⟩ := l3.2.2.at x hx
      exact hq.ty_ne l1 (by decide)
  | cons x A =>
    have hm := pa_mem (locB nb ob mo nw od key) (locO mo nw od key) A x
    have hm2 : (pa (locB nb ob mo nw od key) (locO mo nw od key) (x :: A)).1 ∈ (chE nw od key).map En.b := by
      rw [hs, List.map_append]; exact List.mem_append_left _ hm
    refine ⟨?_, .inr hm2⟩
    obtain ⟨L, hL⟩ := h.ent (chE_sub g hm2)
    rw [hs] at l3 hn
    have hcut := Chain.cut (c := locB nb ob mo nw od key) (o := locO mo nw od key) l3 hn
    obtain ⟨p, hp⟩ : ∃ p, p = pa (locB nb ob mo nw od key) (locO mo nw od key) (x :: A) := ⟨_, rfl⟩
    rw [← hp] at hcut hm2 hL ⊢
    have oth : ∀ b, b ≠ p.1 → (w.setCell ⟨p.1, p.2, none⟩ (hd B)).heap[b]? = w.heap[b]? := fun b hb => blk_setCell_other _ _ _ _ hb
    refine h.put g key _ ?_ (oth f (h.own.ty_ne hL (by decide))) (fun _ => oth nb (h.rN.ty_ne hL (by decide))) (fun h0 _ => oth ob ((h.rO h0).ty_ne hL (by decide))) (fun b _ hb => oth b (fun e1 => hb (e1 ▸ hm2))) hcut hnd (fun y hy => .inl (hsub y hy))
    have e1 : hd (x :: A ++ B) = hd (chE nw od key) := by rw [hs]; rfl
    rw [e1, row_cell l1 l2]
    exact l1.other (a := ⟨p.1, p.2, none⟩) (l1.ty_ne hL (by decide)) _

set_option maxHeartbeats 400000 in
theorem clone_any (s : ByteArray) (w : World) (hlim : s.size ≤ 281474976710656) : Calls Tryd.prog 41 #[.string s] w fun e w' => e = .returned (.string s) ∧ Below w.heap.size w w' := by
  have cC := hide (Tryd.stringslite_Clone s w hlim)
  go_enter Tryd.func41, Tryd.ntmps41
  go_wp2_with fail
  refine cC.out.mono ?_
  rintro e w' ⟨rfl, B⟩
  have HB := hide B
  clear B
  go_wp2
  go_ret
  exact ⟨rfl, HB.out⟩

/-! ### Get -/
theorem TbIn.drewN (h : TbIn w f nb ob mo nw od cnt) (q : Nat) : TbIn (w.drewN q) f nb ob mo nw od cnt := h.same (fun _ _ => rfl)
def optI (r : Option Int) : Value := .tuple #[.int .i64 (r.getD 0), .bool r.isSome]
set_option maxHeartbeats 1000000 in
theorem get_any (h : TbIn w f nb ob mo nw od cnt) (g : Fits nw od mo) (key : List UInt8) (hk : key.length ≤ maxLen) :
    Calls Tryd.prog 26 #[.pointer (some ⟨f, 0, none⟩), .string (txt key)] w fun e w' => e = .returned (optI (fnd key ((chE nw od key).map kv))) ∧ ∃ q, w' = w.drewN q := by
  have cC := hide (chainOf_any h g key hk)
  have cF : Hid (∀ q, Calls Tryd.prog 44 #[.pointer (some ⟨locB nb ob mo nw od key, locO mo nw od key, none⟩), .string (txt key)] (w.drewN q) fun e w' => e = .returned (.pointer (fndP key (chE nw od key))) ∧ w' = w.drewN q) := fun q => by
    obtain ⟨_, l2, l3⟩ := (h.drewN q).loc g key
    exact find_any _ _ _ key _ l2 l3
  obtain ⟨_, _, l3⟩ := h.loc g key
  generalize locB nb ob mo nw od key = c at *
  generalize locO mo nw od key = o at *
  unfold optI
  rcases fndP_cases key (chE nw od key) with ⟨h1, h2, h3⟩ | ⟨A, e, B, h1, h2, h3, h4, h5⟩
  · rw [h1] at cF
    rw [h3]
    clear h1 h2 h3 h g l3 hk
    go_enter Tryd.func26, Tryd.ntmps26
    go_wp2_with fail
    refine cC.out.mono ?_
    rintro e W1 ⟨rfl, q, hW⟩
    have cF' := hide (cF.out q)
    rw [← hW] at cF'
    have HW := hide hW
    clear hW cC cF
    go_wp2_with fail
    refine cF'.out.mono ?_
    rintro e W2 ⟨rfl, h2⟩
    obtain rfl : W1 = W2 := h2.symm
    clear h2 cF'
    go_wp2
    go_ret2
    exact ⟨rfl, q, HW.out⟩
  · rw [h4] at cF
    rw [h5]
    rw [h1] at l3
    have c1 : w.cell? ⟨e.b, 1, none⟩ = some (.int .i64 e.v) := l3.mid.cell rfl
    clear h1 h2 h3 h4 h5 h g l3 hk
    go_enter Tryd.func26, Tryd.ntmps26
    go_wp2_with fail
    refine cC.out.mono ?_
    rintro e W1 ⟨rfl, q, hW⟩
    have cF' := hide (cF.out q)
    have c1' : (w.drewN q).cell? _ = _ := c1
    rw [← hW] at cF' c1'
    have HW := hide hW
    clear hW cC cF c1
    go_wp2_with fail
    refine cF'.out.mono ?_
    rintro e W2 ⟨rfl, h2⟩
    obtain rfl : W1 = W2 := h2.symm
    clear h2 cF'
    go_wp2
    go_ret2
    exact ⟨rfl, q, HW.out⟩
end
end Go.Proofs.YtdkiegkgnimapabDoor.Tbl
