/- Texts joined: Rk6. -/
import Derived.Test.YtbccnfbombgdmaaGreatJ38
/- The document's own Get. -/
set_option linter.unusedVariables false
set_option linter.unusedSimpArgs false
set_option maxRecDepth 8000
namespace Go.Proofs.YtbccnfbombgdmaaGreat
open Go.RowKit Go.Deep Math

theorem enter39R (args : Array Value) (w : World) : (callFunc 39 args).run Tryz.prog w = .ok (.enter 39 args) w := enters_of Tryz.func39 (by kernel_rfl) rfl args w
def z5 : List Value := [.string ⟨#[]⟩, .string ⟨#[]⟩, .int .u32 0, .int .i64 0, .int .u64 0]
theorem cells5R {w : World} {N : Nat} {p0 p1 p2 p3 p4 : Value} (h : Blk w N [p0, p1, p2, p3, p4] 39) :
    w.cell? ⟨N, 0, none⟩ = some p0 ∧ w.cell? ⟨N, 1, none⟩ = some p1 ∧ w.cell? ⟨N, 2, none⟩ = some p2 ∧ w.cell? ⟨N, 3, none⟩ = some p3 ∧ w.cell? ⟨N, 4, none⟩ = some p4 ∧
    w.frozen? ⟨N, 0, none⟩ = false ∧ w.frozen? ⟨N, 1, none⟩ = false ∧ w.frozen? ⟨N, 2, none⟩ = false ∧ w.frozen? ⟨N, 3, none⟩ = false ∧ w.frozen? ⟨N, 4, none⟩ = false :=
  ⟨h.cell rfl, h.cell rfl, h.cell rfl, h.cell rfl, h.cell rfl, h.frozen 0, h.frozen 1, h.frozen 2, h.frozen 3, h.frozen 4⟩
def put5R (w : World) (N : Nat) (p0 p1 p2 p3 p4 : Value) : World := ((((w.setCell ⟨N, 0, none⟩ p0).setCell ⟨N, 1, none⟩ p1).setCell ⟨N, 2, none⟩ p2).setCell ⟨N, 3, none⟩ p3).setCell ⟨N, 4, none⟩ p4
theorem put5R_keep {F : List Nat} {a w : World} {N : Nat} (h : Keep F a w) (hN : N ∈ F ∨ a.heap.size ≤ N) (p0 p1 p2 p3 p4 : Value) : Keep F a (put5R w N p0 p1 p2 p3 p4) :=
  ((((h.setCell hN _).setCell hN _).setCell hN _).setCell hN _).setCell hN _
section
variable {w0 W W' : World} {s r : Nat} {G : List Nat} {S S' : Dv} {first n : Nat} {lo : Int} {tv : Value} {vs : List Value} {td : List (List (List UInt8))}
theorem rmay_at (h : BkR w0 W s r G S first n lo tv vs td) (key : List UInt8) (hk : key.length ≤ 1048000) (t : List (List UInt8)) (ht : td[bkt key n]? = some t) (htl : t.length ≤ 100000) :
    Calls Tryz.prog 17 #[.pointer (some ⟨s, 0, none⟩), .string (txt key)] W fun e W' => e = .returned (.bool (mayR t key)) ∧ ∃ q, W' = W.drewN q :=
  rmay_any s r first n tv lo key hk h.n1 (by have := h.n2; omega) W h.box w0.heap.size vs td h.told h.len t ht (fun x hx => h.sml t (List.mem_of_getElem? ht) x hx) htl
/-- A box of the call's own, laid behind all: what is written there leaves the rest. -/
theorem BkR.box5 {W1 : World} (h : BkR w0 W1 s r G S first n lo tv vs td) {N : Nat} (hN : N ∉ ftR s G tv vs) (h0 : w0.heap.size ≤ N) (p0 p1 p2 p3 p4 : Value) : BkR w0 (put5R W1 N p0 p1 p2 p3 p4) s r G S first n lo tv vs td :=
  h.beside (put5R_keep (Keep.refl [N] W1) (.inl (by simp)) p0 p1 p2 p3 p4) (fun q hq => by simp only [List.mem_singleton] at hq; subst hq; exact ⟨h0, hN⟩)
def GetQ (w0 : World) (s r : Nat) (G : List Nat) (S : Dv) (first n : Nat) (lo : Int) (tv : Value) (vs : List Value) (td : List (List (List UInt8))) (W : World) (v : Value) (er : Int) (e : Ending) (W' : World) : Prop :=
  e = .returned (.tuple #[v, .int .i64 er]) ∧ ∃ S2, Like S S2 ∧ BkR w0 W' s r G S2 first n lo tv vs td ∧ Keep G W W'
def zV : Value := .agg #[.string ⟨#[]⟩, .string ⟨#[]⟩, .int .u32 0, .int .i64 0, .int .u64 0]
set_option maxHeartbeats 2000000 in
theorem rget_no (h : BkR w0 W s r G S first n lo tv vs td) (key : List UInt8) (hk : key.length ≤ 1048000) (t : List (List UInt8)) (ht : td[bkt key n]? = some t) (htl : t.length ≤ 100000) (hm : mayR t key = false) :
    Calls Tryz.prog 13 #[.pointer (some ⟨s, 0, none⟩), .string (txt key)] W (GetQ w0 s r G S first n lo tv vs td W zV 5) := by
  have hbx : Blk (W.alloc (.cells #[.string ⟨#[]⟩, .string ⟨#[]⟩, .int .u32 0, .int .i64 0, .int .u64 0] 39)) W.heap.size z5 39 := Blk.new W _ 39
  have hbe : Below W.heap.size W (W.alloc (.cells #[.string ⟨#[]⟩, .string ⟨#[]⟩, .int .u32 0, .int .i64 0, .int .u64 0] 39)) := (Below.refl _ _).alloc (Nat.le_refl _) _
  have cM := hide (rmay_at (h.below hbe) key hk t ht htl)
  rw [hm] at cM
  have HNF : Hid (W.heap.size ∉ ftR s G tv vs) := fun hf => by have := h.lt _ hf; omega
  have HN0 : Hid (w0.heap.size ≤ W.heap.size) := h.bel.size
  have HB := hide (h.below hbe)
  have HBX := hide hbx
  have HBE := hide hbe
  unfold GetQ
  generalize txt key = tk at *
  clear h hbx hbe hm hk ht htl
  go_enter Tryz.func13, Tryz.ntmps13
  go_wp2_with fail
  refine cM.out.mono ?_
  rintro e w1 ⟨rfl, q, hq⟩
  have HQ := hide hq
  have hN1 : Blk w1 W.heap.size z5 39 := by rw [hq]; exact HBX.out.same rfl
  obtain ⟨y0, y1, y2, y3, y4, f0, f1, f2, f3, f4⟩ := cells5R hN1
  clear hq hN1 cM
  go_wp2_with fail
  refine bodyPost_ret (v := .tuple #[.agg #[.string ⟨#[]⟩, .string ⟨#[]⟩, .int .u32 0, .int .i64 0, .int .u64 0], .int .i64 5]) (by simp [results, Tryz.results13, go_sem, *]) rfl ?_
  have hB1 : BkR w0 w1 s r G S first n lo tv vs td := by rw [HQ.out]; exact HB.out.below (drewN_below _ q)
  have hK1 : Keep G W w1 := by rw [HQ.out]; exact (Keep.of_below HBE.out).trans (Keep.of_below (F := G) (drewN_below _ q)) (fun x hx => .inl hx)
  exact ⟨rfl, S, Like.refl S, hB1.box5 HNF.out HN0.out _ _ _ _ _, put5R_keep hK1 (.inr (Nat.le_refl _)) _ _ _ _ _⟩
set_option maxHeartbeats 2000000 in
theorem rget_done (h : BkR w0 W s r G S first n lo tv vs td) (hL : S.losses ≠ lo) (key : List UInt8) (hk : key.length ≤ 1048000) (t : List (List UInt8)) (ht : td[bkt key n]? = some t) (htl : t.length ≤ 100000) (hm : mayR t key = true) :
    Calls Tryz.prog 13 #[.pointer (some ⟨s, 0, none⟩), .string (txt key)] W (GetQ w0 s r G S first n lo tv vs td W zV 4) := by
  have hbx : Blk (W.alloc (.cells #[.string ⟨#[]⟩, .string ⟨#[]⟩, .int .u32 0, .int .i64 0, .int .u64 0] 39)) W.heap.size z5 39 := Blk.new W _ 39
  have hbe : Below W.heap.size W (W.alloc (.cells #[.string ⟨#[]⟩, .string ⟨#[]⟩, .int .u32 0, .int .i64 0, .int .u64 0] 39)) := (Below.refl _ _).alloc (Nat.le_refl _) _
  have cM := hide (rmay_at (h.below hbe) key (by omega) t ht htl)
  rw [hm] at cM
  have HNF : Hid (W.heap.size ∉ ftR s G tv vs) := fun hf => by have := h.lt _ hf; omega
  have HN0 : Hid (w0.heap.size ≤ W.heap.size) := h.bel.size
  have cD := hide (fun (V : World) (hV : BkR w0 V s r G S first n lo tv vs td) => rdone_at hV)
  have hne : (S.losses != lo) = true := by simpa using hL
  rw [hne] at cD
  have HB := hide (h.below hbe)
  have HBX := hide hbx
  have HBE := hide hbe
  unfold GetQ
  generalize txt key = tk at *
  clear h hbx hbe hm hk ht htl hne hL
  go_enter Tryz.func13, Tryz.ntmps13
  go_wp2_with fail
  refine cM.out.mono ?_
  rintro e w1 ⟨rfl, q, hq⟩
  have HB1 : Hid (BkR w0 w1 s r G S first n lo tv vs td) := by show BkR _ _ _ _ _ _ _ _ _ _ _ _; rw [hq]; exact HB.out.below (drewN_below _ q)
  have HQ := hide hq
  clear hq cM
  go_wp2_with fail
  refine (cD.out w1 HB1.out).mono ?_
  rintro e w2 ⟨rfl, q2, hq2⟩
  have HQ2 := hide hq2
  have hN1 : Blk w2 W.heap.size z5 39 := by rw [hq2, HQ.out]; exact HBX.out.same rfl
  obtain ⟨y0, y1, y2, y3, y4, f0, f1, f2, f3, f4⟩ := cells5R hN1
  clear hq2 hN1 cD
  go_wp2_with fail
  refine bodyPost_ret (v := .tuple #[.agg #[.string ⟨#[]⟩, .string ⟨#[]⟩, .int .u32 0, .int .i64 0, .int .u64 0], .int .i64 4]) (by simp [results, Tryz.results13, go_sem, *]) rfl ?_
  have hB2 : BkR w0 w2 s r G S first n lo tv vs td := by rw [HQ2.out]; exact HB1.out.below (drewN_below _ q2)
  have hK2 : Keep G W w2 := by
    rw [HQ2.out, HQ.out]
    exact ((Keep.of_below HBE.out).trans (Keep.of_below (F := G) (drewN_below _ q)) (fun x hx => .inl hx)).trans (Keep.of_below (F := G) (drewN_below _ q2)) (fun x hx => .inl hx)
  exact ⟨rfl, S, Like.refl S, hB2.box5 HNF.out HN0.out _ _ _ _ _, put5R_keep hK2 (.inr (Nat.le_refl _)) _ _ _ _ _⟩
def fV (o : Option It) : Value := match o with
  | some x => .agg #[.string (txt x.key), .string (txt x.value), .int .u32 x.flags, .int .i64 x.exp, .int .u64 x.ver]
  | none => zV
theorem find_at {xs : List It} {key : List UInt8} {i : Nat} {x : It} (hx : xs[i]? = some x) (hn : (xs.take i).find? (isKey key) = none) : (x.key = key → xs.find? (isKey key) = some x) ∧ (x.key ≠ key → (xs.take (i + 1)).find? (isKey key) = none) := by
  have hi := (List.getElem?_eq_some_iff.1 hx).1
  refine ⟨fun h => ?_, fun h => ?_⟩
  · have e := List.take_append_drop i xs
    rw [← e, List.find?_append, hn, List.drop_eq_getElem_cons hi, (List.getElem?_eq_some_iff.1 hx).2, List.find?_cons]
    simp [isKey, h]
  · rw [List.take_add_one, hx, List.find?_append, hn]
    simp [isKey, h]
set_option maxHeartbeats 4000000 in
theorem rget_ok (h : BkR w0 W s r G S first n lo tv vs td) (hL : S.losses = lo) (ho : S.off = false) (key : List UInt8) (hk : key.length ≤ 1048000) (t : List (List UInt8)) (ht : td[bkt key n]? = some t) (htl : t.length ≤ 100000) (hm : mayR t key = true) (o : Option It) (hf : o = (S.its (first + bkt key n)).find? (isKey key)) (er : Int) (her : (∀ x, o = some x → er = 0) ∧ (o = none → er = 5)) :
    Calls Tryz.prog 13 #[.pointer (some ⟨s, 0, none⟩), .string (txt key)] W (GetQ w0 s r G S first n lo tv vs td W (fV o) er) := by
  have hbx : Blk (W.alloc (.cells #[.string ⟨#[]⟩, .string ⟨#[]⟩, .int .u32 0, .int .i64 0, .int .u64 0] 39)) W.heap.size z5 39 := Blk.new W _ 39
  have hbe : Below W.heap.size W (W.alloc (.cells #[.string ⟨#[]⟩, .string ⟨#[]⟩, .int .u32 0, .int .i64 0, .int .u64 0] 39)) := (Below.refl _ _).alloc (Nat.le_refl _) _
  have cM := hide (rmay_at (h.below hbe) key (by omega) t ht htl)
  rw [hm] at cM
  have HNF : Hid (W.heap.size ∉ ftR s G tv vs) := fun hf => by have := h.lt _ hf; omega
  have HN0 : Hid (w0.heap.size ≤ W.heap.size) := h.bel.size
  have cD := hide (fun (V : World) (hV : BkR w0 V s r G S first n lo tv vs td) => rdone_at hV)
  have hne : (S.losses != lo) = false := by simpa using hL
  rw [hne] at cD
  obtain ⟨b, hb⟩ : ∃ b, b = bkt key n := ⟨_, rfl⟩
  have hbn : b < n := by rw [hb]; exact bkt_lt key n h.n1
  have hn2 := h.n2
  have hff : first ≤ 4096 := by have := h.fit; have := h.good.many; omega
  have cO := hide (fun (V : World) (hV : BkR w0 V s r G S first n lo tv vs td) => rof_at hV key (by unfold maxLen; omega))
  have cL := hide (fun (V : World) (hV : RfAt V r G S) => rlist_any r G S (first + b) (by have := h.fit; omega) ho V hV)
  have hfb : ((first + b : Nat) : Int) = (first : Int) + (b : Int) := by omega
  have hfi : (first : Int) + (b : Int) ≤ 8192 := by omega
  have hwr : IntKind.i64.wrap ((first : Int) + (b : Int)) = (first : Int) + (b : Int) := by rw [IntKind.wrap_i64]; omega
  rw [← hb] at cO hf
  rw [hfb] at cL
  have HWR := hide hwr
  have hil := its_len h.good (first + b)
  have hoks := its_oks h.good (first + b)
  have HF := hide hf
  have HB := hide (h.below hbe)
  have HBX := hide hbx
  have HBE := hide hbe
  have heq : ∀ x : It, ((txt x.key).toList == (txt key).toList) = decide (x.key = key) := fun x => by rw [txt_list, txt_list]; by_cases h : x.key = key <;> simp [h]
  have HER := hide her
  have HEQ := hide heq
  unfold GetQ
  obtain ⟨tk, htk⟩ : ∃ tk, tk = txt key := ⟨_, rfl⟩
  rw [← htk] at cM cO HEQ ⊢
  clear h hbx hbe hm hk ht htl hne hL hb hwr hf heq htk her
  go_enter Tryz.func13, Tryz.ntmps13
  go_wp2_with fail
  refine cM.out.mono ?_
  rintro e w0' ⟨rfl, q, hq⟩
  have HB1 : Hid (BkR w0 w0' s r G S first n lo tv vs td) := by show BkR _ _ _ _ _ _ _ _ _ _ _ _; rw [hq]; exact HB.out.below (drewN_below _ q)
  have HQ := hide hq
  clear hq cM
  go_wp2_with fail
  refine (cD.out w0' HB1.out).mono ?_
  rintro e w1 ⟨rfl, q2, hq2⟩
  have HB2 : Hid (BkR w0 w1 s r G S first n lo tv vs td) := by show BkR _ _ _ _ _ _ _ _ _ _ _ _; rw [hq2]; exact HB1.out.below (drewN_below _ q2)
  have HN1 : Hid (Blk w1 W.heap.size z5 39) := by show Blk _ _ _ _; rw [hq2, HQ.out]; exact HBX.out.same rfl
  have HK1 : Hid (Keep G W w1) := by
    show Keep _ _ _
    rw [hq2, HQ.out]
    exact ((Keep.of_below HBE.out).trans (Keep.of_below (F := G) (drewN_below _ q)) (fun x hx => .inl hx)).trans (Keep.of_below (F := G) (drewN_below _ q2)) (fun x hx => .inl hx)
  clear hq2 cD HB HBX HBE HQ HB1
  go_wp2_with fail
  obtain ⟨CI, hCI⟩ : ∃ CI : List Value → World → Prop, CI = fun us W' => match us with
    | [] => W' = w1.drew
    | [u] => u = .int .i64 (b : Int) ∧ ∃ q, W' = w1.drewN q
    | [u, v] => u = .int .i64 (b : Int) ∧ Row W' w1.heap.size v (S.its (first + b)) ∧ ∃ S2, RfAt W' r G S2 ∧ Like S S2 ∧ Keep G w1 W'
    | [u, v, x] => u = .int .i64 (b : Int) ∧ x = v ∧ Row W' w1.heap.size v (S.its (first + b)) ∧ ∃ S2, RfAt W' r G S2 ∧ Like S S2 ∧ Keep G w1 W'
    | _ => False := ⟨_, rfl⟩
  have HI0 : Hid (CI [] { w1 with drawn := w1.drawn + 1 }) := by show CI [] _; rw [hCI]; rfl
  have HBX : Hid (∀ us w', CI us w' → Blk w' s (bxR r first n tv lo) 78) := fun us w' h => by
    rw [hCI] at h
    match us, h with
    | [], h => have h : w' = w1.drew := h; rw [h]; exact HB2.out.drew.box
    | [u], h => obtain ⟨_, q, h⟩ := h; rw [h]; exact (HB2.out.below (drewN_below _ q)).box
    | [u, v], h => obtain ⟨_, _, S2, h2, h3, h4⟩ := h; exact (HB2.out.read h2 (by rw [h3.cs]) h4).box
    | [u, v, x], h => obtain ⟨_, _, _, S2, h2, h3, h4⟩ := h; exact (HB2.out.read h2 (by rw [h3.cs]) h4).box
  have HU0 : Hid (∀ us w', CI us w' → 0 < us.length → us.getD 0 undef = .int .i64 (b : Int)) := fun us w' h hl => by
    rw [hCI] at h
    match us, h with
    | [u], h => exact h.1
    | [u, v], h => exact h.1
    | [u, v, x], h => exact h.1
  have HOL : Hid (∀ w', CI [] w' → Calls Tryz.prog 39 #[.pointer (some ⟨s, 0, none⟩), .string tk] w' fun e w2 => ∃ v, e = .returned v ∧ CI ([] ++ [v]) w2) := fun w' h => by
    rw [hCI] at h ⊢
    have h : w' = w1.drew := h
    subst h
    refine (cO.out _ HB2.out.drew).mono ?_
    rintro e w2 ⟨rfl, q, rfl⟩
    exact ⟨_, rfl, rfl, 1 + q, by show (w1.drewN 1).drewN q = _; rw [World.drewN_drewN]⟩
  have HCL : Hid (∀ u w', CI [u] w' → Calls Tryz.prog 26 #[.pointer (some ⟨r, 0, none⟩), .int .i64 ((first : Int) + (b : Int))] w' fun e w2 => ∃ v, e = .returned v ∧ CI ([u] ++ [v]) w2) := fun u w' h => by
    rw [hCI] at h ⊢
    obtain ⟨rfl, q, rfl⟩ := h
    refine (cL.out _ (HB2.out.below (drewN_below _ q)).dev).mono ?_
    rintro e w2 ⟨u, S2, rfl, h1, h2, h3, h4⟩
    exact ⟨u, rfl, rfl, h1, S2, h2, h3, (Keep.of_below (drewN_below w1 q)).trans h4 (fun x hx => .inl hx)⟩
  have HFI : Hid (∀ u v w', CI [u, v] w' → CI ([u, v] ++ [v]) w') := fun u v w' h => by
    rw [hCI] at h ⊢
    exact ⟨h.1, rfl, h.2⟩
  have HEND : Hid (∀ us w', us.length = 3 → CI us w' → ∃ a c, us = [.int .i64 (b : Int), .slice a (S.its (first + b)).length c, .slice a (S.its (first + b)).length c] ∧ Row w' w1.heap.size (.slice a (S.its (first + b)).length c) (S.its (first + b)) ∧ ∃ S2, RfAt w' r G S2 ∧ Like S S2 ∧ Keep G w1 w') := fun us w' hl h => by
    match us, hl with
    | [u, v, x], _ =>
      rw [hCI] at h
      obtain ⟨rfl, rfl, h1, h⟩ := h
      obtain ⟨a, c, rfl⟩ := h1.sl
      exact ⟨a, c, rfl, h1, h⟩
  clear hCI
  refine wp_region_lin (by kernel_rfl) (by kernel_rfl) (fun jx => ([.pointer (some ⟨s, 0, none⟩), .pointer (some ⟨s, 0, none⟩), .pointer (some ⟨s, 0, none⟩), .pointer (some ⟨r, 0, none⟩), .pointer (some ⟨s, 0, none⟩), .pointer (some ⟨s, 0, none⟩), .pointer (some ⟨s, 1, none⟩), .int .i64 (first : Int), .pointer (some ⟨s, 0, none⟩), .string tk, undef, .int .i64 ((first : Int) + (b : Int)), undef, undef] : List Value).getD jx undef) [10, 12, 13] (by kernel_rfl) (by decide) (by decide) (CI) (HI0.out) ?_ ?_
  · intro jx ox hi us w' ev hc hul hbef haft hin hout hold hcst hfn
    have hltx : jx < 14 := by
      have := (Array.getElem?_eq_some_iff.1 hi).1
      simpa using this
    match jx, hltx with
    | 0, _ =>
      simp only [List.getElem?_toArray, List.getElem?_cons_zero, List.getElem?_cons_succ, Option.some.injEq] at hi
      subst hi
      have ha2 : us.length ≤ 2 := haft 2 13 rfl (by kernel_rfl)
      have e0 : ev (.tmp 0) = .pointer (some ⟨s, 0, none⟩) := hout 0 (by kernel_rfl) (show (0 : Nat) < 47 by decide)
      refine ⟨fun mx hmx => absurd hmx (by simp [zpos]), fun _ => ?_⟩
      simp [execOp, e0, hcst, go_sem]
    | 1, _ =>
      simp only [List.getElem?_toArray, List.getElem?_cons_zero, List.getElem?_cons_succ, Option.some.injEq] at hi
      subst hi
      have ha2 : us.length ≤ 2 := haft 2 13 rfl (by kernel_rfl)
      have e0 : ev (.tmp 16) = .pointer (some ⟨s, 0, none⟩) := hin 16 0 ⟨0, .data⟩ (by kernel_rfl) (by simp) rfl rfl (show (16 : Nat) < 47 by decide)
      refine ⟨fun mx hmx => absurd hmx (by simp [zpos]), fun _ => ?_⟩
      simp [execOp, e0, hcst, go_sem]
    | 2, _ =>
      simp only [List.getElem?_toArray, List.getElem?_cons_zero, List.getElem?_cons_succ, Option.some.injEq] at hi
      subst hi
      have ha2 : us.length ≤ 2 := haft 2 13 rfl (by kernel_rfl)
      have e0 : ev (.tmp 17) = .pointer (some ⟨s, 0, none⟩) := hin 17 1 ⟨1, .data⟩ (by kernel_rfl) (by simp) rfl rfl (show (17 : Nat) < 47 by decide)
      refine ⟨fun mx hmx => absurd hmx (by simp [zpos]), fun _ => ?_⟩
      simp [execOp, e0, hcst, go_sem]
    | 3, _ =>
      simp only [List.getElem?_toArray, List.getElem?_cons_zero, List.getElem?_cons_succ, Option.some.injEq] at hi
      subst hi
      have ha1 : us.length ≤ 1 := haft 1 12 rfl (by kernel_rfl)
      have ha2 : us.length ≤ 2 := haft 2 13 rfl (by kernel_rfl)
      have e0 : ev (.tmp 18) = .pointer (some ⟨s, 0, none⟩) := hin 18 2 ⟨2, .data⟩ (by kernel_rfl) (by simp) rfl rfl (show (18 : Nat) < 47 by decide)
      refine ⟨fun mx hmx => absurd hmx (by simp [zpos]), fun _ => ?_⟩
      have q := (HBX.out us w' hc).cell (i := 0) rfl
      simp [execOp, e0, hcst, go_sem, q, bxR]
    | 4, _ =>
      simp only [List.getElem?_toArray, List.getElem?_cons_zero, List.getElem?_cons_succ, Option.some.injEq] at hi
      subst hi
      have ha2 : us.length ≤ 2 := haft 2 13 rfl (by kernel_rfl)
      have e0 : ev (.tmp 0) = .pointer (some ⟨s, 0, none⟩) := hout 0 (by kernel_rfl) (show (0 : Nat) < 47 by decide)
      refine ⟨fun mx hmx => absurd hmx (by simp [zpos]), fun _ => ?_⟩
      simp [execOp, e0, hcst, go_sem]
    | 5, _ =>
      simp only [List.getElem?_toArray, List.getElem?_cons_zero, List.getElem?_cons_succ, Option.some.injEq] at hi
      subst hi
      have ha2 : us.length ≤ 2 := haft 2 13 rfl (by kernel_rfl)
      have e0 : ev (.tmp 20) = .pointer (some ⟨s, 0, none⟩) := hin 20 4 ⟨4, .data⟩ (by kernel_rfl) (by simp) rfl rfl (show (20 : Nat) < 47 by decide)
      refine ⟨fun mx hmx => absurd hmx (by simp [zpos]), fun _ => ?_⟩
      simp [execOp, e0, hcst, go_sem]
    | 6, _ =>
      simp only [List.getElem?_toArray, List.getElem?_cons_zero, List.getElem?_cons_succ, Option.some.injEq] at hi
      subst hi
      have ha2 : us.length ≤ 2 := haft 2 13 rfl (by kernel_rfl)
      have e0 : ev (.tmp 21) = .pointer (some ⟨s, 0, none⟩) := hin 21 5 ⟨5, .data⟩ (by kernel_rfl) (by simp) rfl rfl (show (21 : Nat) < 47 by decide)
      refine ⟨fun mx hmx => absurd hmx (by simp [zpos]), fun _ => ?_⟩
      simp [execOp, e0, hcst, go_sem]
    | 7, _ =>
      simp only [List.getElem?_toArray, List.getElem?_cons_zero, List.getElem?_cons_succ, Option.some.injEq] at hi
      subst hi
      have ha2 : us.length ≤ 2 := haft 2 13 rfl (by kernel_rfl)
      have e0 : ev (.tmp 22) = .pointer (some ⟨s, 1, none⟩) := hin 22 6 ⟨6, .data⟩ (by kernel_rfl) (by simp) rfl rfl (show (22 : Nat) < 47 by decide)
      refine ⟨fun mx hmx => absurd hmx (by simp [zpos]), fun _ => ?_⟩
      have q := (HBX.out us w' hc).cell (i := 1) rfl
      simp [execOp, e0, hcst, go_sem, q, bxR]
    | 8, _ =>
      simp only [List.getElem?_toArray, List.getElem?_cons_zero, List.getElem?_cons_succ, Option.some.injEq] at hi
      subst hi
      have ha0 : us.length ≤ 0 := haft 0 10 rfl (by kernel_rfl)
      have ha2 : us.length ≤ 2 := haft 2 13 rfl (by kernel_rfl)
      have e0 : ev (.tmp 0) = .pointer (some ⟨s, 0, none⟩) := hout 0 (by kernel_rfl) (show (0 : Nat) < 47 by decide)
      refine ⟨fun mx hmx => absurd hmx (by simp [zpos]), fun _ => ?_⟩
      simp [execOp, e0, hcst, go_sem]
    | 9, _ =>
      simp only [List.getElem?_toArray, List.getElem?_cons_zero, List.getElem?_cons_succ, Option.some.injEq] at hi
      subst hi
      have ha0 : us.length ≤ 0 := haft 0 10 rfl (by kernel_rfl)
      have ha2 : us.length ≤ 2 := haft 2 13 rfl (by kernel_rfl)
      have e0 : ev (.tmp 1) = .string tk := hout 1 (by kernel_rfl) (show (1 : Nat) < 47 by decide)
      refine ⟨fun mx hmx => absurd hmx (by simp [zpos]), fun _ => ?_⟩
      simp [execOp, e0, hcst, go_sem]
    | 10, _ =>
      simp only [List.getElem?_toArray, List.getElem?_cons_zero, List.getElem?_cons_succ, Option.some.injEq] at hi
      subst hi
      have ha1 : us.length ≤ 1 := haft 1 12 rfl (by kernel_rfl)
      have ha2 : us.length ≤ 2 := haft 2 13 rfl (by kernel_rfl)
      have e0 : ev (.tmp 24) = .pointer (some ⟨s, 0, none⟩) := hin 24 8 ⟨8, .data⟩ (by kernel_rfl) (by simp) rfl rfl (show (24 : Nat) < 47 by decide)
      have e1 : ev (.tmp 25) = .string tk := hin 25 9 ⟨9, .data⟩ (by kernel_rfl) (by simp) rfl rfl (show (25 : Nat) < 47 by decide)
      refine ⟨fun mx hmx hus => ?_, fun hno => absurd hno (by decide)⟩
      obtain rfl : 0 = mx := Option.some.inj hmx
      have h0 : us = [] := List.eq_nil_of_length_eq_zero hus
      subst h0
      refine .inr ⟨39, #[.pointer (some ⟨s, 0, none⟩), .string tk], ?_, HOL.out w' hc⟩
      have ef := hfn 39
      simp [execOp, resolve, invoke, ef, hcst, e0, e1, Result.andThen]
      exact enter39R _ _
    | 11, _ =>
      simp only [List.getElem?_toArray, List.getElem?_cons_zero, List.getElem?_cons_succ, Option.some.injEq] at hi
      subst hi
      have hb0 : 0 < us.length := hbef 0 10 rfl (by kernel_rfl)
      have ha1 : us.length ≤ 1 := haft 1 12 rfl (by kernel_rfl)
      have ha2 : us.length ≤ 2 := haft 2 13 rfl (by kernel_rfl)
      have e0 : ev (.tmp 23) = .int .i64 (first : Int) := hin 23 7 ⟨7, .data⟩ (by kernel_rfl) (by simp) rfl rfl (show (23 : Nat) < 47 by decide)
      have e1 : ev (.tmp 26) = us.getD 0 undef := hin 26 10 ⟨10, .data⟩ (by kernel_rfl) (by simp) rfl rfl (show (26 : Nat) < 47 by decide)
      refine ⟨fun mx hmx => absurd hmx (by simp [zpos]), fun _ => ?_⟩
      have q0 := HU0.out us w' hc hb0
      rw [q0] at e1
      have q := HWR.out
      simp [execOp, e0, e1, hcst, go_sem, q]
    | 12, _ =>
      simp only [List.getElem?_toArray, List.getElem?_cons_zero, List.getElem?_cons_succ, Option.some.injEq] at hi
      subst hi
      have hb0 : 0 < us.length := hbef 0 10 rfl (by kernel_rfl)
      have ha2 : us.length ≤ 2 := haft 2 13 rfl (by kernel_rfl)
      have e0 : ev (.tmp 19) = .pointer (some ⟨r, 0, none⟩) := hin 19 3 ⟨3, .data⟩ (by kernel_rfl) (by simp) rfl rfl (show (19 : Nat) < 47 by decide)
      have e1 : ev (.tmp 27) = .int .i64 ((first : Int) + (b : Int)) := hin 27 11 ⟨11, .data⟩ (by kernel_rfl) (by simp) rfl rfl (show (27 : Nat) < 47 by decide)
      refine ⟨fun mx hmx hus => ?_, fun hno => absurd hno (by decide)⟩
      obtain rfl : 1 = mx := Option.some.inj hmx
      obtain ⟨u, rfl⟩ := List.length_eq_one_iff.1 hus
      refine .inr ⟨26, #[.pointer (some ⟨r, 0, none⟩), .int .i64 ((first : Int) + (b : Int))], ?_, HCL.out u w' hc⟩
      have ef := hfn 26
      simp [execOp, resolve, invoke, ef, hcst, e0, e1, Result.andThen]
      exact enter26 _ _
    | 13, _ =>
      simp only [List.getElem?_toArray, List.getElem?_cons_zero, List.getElem?_cons_succ, Option.some.injEq] at hi
      subst hi
      have hb0 : 0 < us.length := hbef 0 10 rfl (by kernel_rfl)
      have hb1 : 1 < us.length := hbef 1 12 rfl (by kernel_rfl)
      have e0 : ev (.tmp 28) = us.getD 1 undef := hin 28 12 ⟨12, .data⟩ (by kernel_rfl) (by simp) rfl rfl (show (28 : Nat) < 47 by decide)
      refine ⟨fun mx hmx hus => ?_, fun hno => absurd hno (by decide)⟩
      obtain rfl : 2 = mx := Option.some.inj hmx
      obtain ⟨u, v, rfl⟩ := two_of hus
      refine .inl ⟨v, w', ?_, HFI.out u v w' hc⟩
      simp only [List.getD_cons_succ, List.getD_cons_zero] at e0
      simp [execOp, e0, hcst, go_sem]
  · intro us w7 husl hc
    obtain ⟨a, c, rfl, h1, S2, h2, h3, h4⟩ := HEND.out us w7 husl hc
    rw [lexF_same (V' := fun jx => ([.pointer (some ⟨s, 0, none⟩), .pointer (some ⟨s, 0, none⟩), .pointer (some ⟨s, 0, none⟩), .pointer (some ⟨r, 0, none⟩), .pointer (some ⟨s, 0, none⟩), .pointer (some ⟨s, 0, none⟩), .pointer (some ⟨s, 1, none⟩), .int .i64 (first : Int), .pointer (some ⟨s, 0, none⟩), .string tk, (.int .i64 (b : Int)), .int .i64 ((first : Int) + (b : Int)), (.slice a (S.its (first + b)).length c), (.slice a (S.its (first + b)).length c)] : List Value).getD jx undef) _ 0 _ (fun jx _ hj => by
      have hlt : jx < 14 := by simpa using hj
      match jx, hlt with
      | 0, _ => rfl
      | 1, _ => rfl
      | 2, _ => rfl
      | 3, _ => rfl
      | 4, _ => rfl
      | 5, _ => rfl
      | 6, _ => rfl
      | 7, _ => rfl
      | 8, _ => rfl
      | 9, _ => rfl
      | 10, _ => rfl
      | 11, _ => rfl
      | 12, _ => rfl
      | 13, _ => rfl)]
    simp only [lexF, Act.put, List.setIfInBounds_toArray, List.set_cons_succ, List.set_cons_zero, List.getD_cons_succ, List.getD_cons_zero]
    have HB7 := hide (HB2.out.read h2 (by rw [h3.cs]) h4)
    obtain ⟨a', c', hav, _, hia⟩ := h1.raw hoks
    simp only [Value.slice.injEq] at hav
    obtain ⟨rfl, _, rfl⟩ := hav
    have K7 := hide (HK1.out.trans h4 (fun x hx => .inl hx))
    have L7 := hide h3
    have hN7 : Blk w7 W.heap.size z5 39 := HN1.out.same (h4.block _ HN1.out.lt (fun hg => HNF.out (by simp [ftR, hg])))
    obtain ⟨y0, y1, y2, y3, y4, f0, f1, f2, f3, f4⟩ := cells5R hN7
    have HI := hide hia
    obtain ⟨xl, hxl⟩ : ∃ xl, xl = (S.its (first + b)).length := ⟨_, rfl⟩
    have HXL := hide hxl
    rw [← hxl] at hil ⊢
    have hNl := hN7.lt
    clear h1 h2 h3 h4 hc hia HEND HFI HCL HBX hoks hN7 hxl HOL HU0 HI0 cO cL
    go_wp2_with fail
    go_loopg [7] xl (fun kx s7 wr => ∃ i : Nat, s7 = .int .i64 i ∧ i ≤ xl ∧ xl - i ≤ kx ∧ Hid (wr = w7 ∧ ((S.its (first + b)).take i).find? (isKey key) = none))
    case atStart => exact ⟨0, rfl, Nat.zero_le _, by omega, rfl, by simp⟩
    case round =>
      obtain ⟨i, rfl, hin, hix, J⟩ := hrel
      obtain rfl : w7 = wr := J.out.1.symm
      have J2 := hide J.out.2
      clear J
      by_cases hlt : i < xl
      · have hlt2 : (i : Int) < (xl : Int) := by omega
        obtain ⟨x, hx⟩ : ∃ x, (S.its (first + b))[i]? = some x := ⟨_, List.getElem?_eq_getElem (by rw [← HXL.out]; exact hlt)⟩
        obtain ⟨bb, oo, rfl, hbb, hcc⟩ := HI.out.cell i x hx
        obtain ⟨c0, c1, c2, c3, c4⟩ := hcc.vals
        obtain ⟨fa, fb⟩ := find_at hx J2.out
        have he := HEQ.out x
        by_cases hkx : x.key = key
        · have E : Hid (o = some x) := by show _ = _; rw [HF.out]; exact fa hkx
          rw [decide_eq_true hkx] at he
          clear fa fb hx hkx hcc
          obtain ⟨tx, htx⟩ : ∃ tx, tx = txt x.key := ⟨_, rfl⟩
          obtain ⟨tw, htw⟩ : ∃ tw, tw = txt x.value := ⟨_, rfl⟩
          rw [← htx] at c0 he
          rw [← htw] at c1
          have HTX := hide htx
          have HTW := hide htw
          clear htx htw
          go_wp2_with fail
          refine bodyPost_ret (v := .tuple #[.agg #[.string tx, .string tw, .int .u32 x.flags, .int .i64 x.exp, .int .u64 x.ver], .int .i64 0]) (by simp [results, Tryz.results13, go_sem, *]) rfl ?_
          rw [HER.out.1 _ E.out, E.out]
          exact ⟨by rw [HTX.out, HTW.out]; rfl, S2, L7.out, HB7.out.box5 HNF.out HN0.out _ _ _ _ _, put5R_keep K7.out (.inr (Nat.le_refl _)) _ _ _ _ _⟩
        · have E := hide (fb hkx)
          rw [decide_eq_false hkx] at he
          clear fa fb hx hkx hcc
          generalize txt x.key = tx at *
          go_wp2_with fail
          go_roundg (xl - (i + 1))
          case measure => omega
          case rel => exact ⟨i + 1, rfl, by omega, by omega, rfl, E.out⟩
      · obtain rfl : i = xl := by omega
        have hlt2 : ¬ (i : Int) < (i : Int) := by omega
        have E : Hid (o = none) := by show _ = _; rw [HF.out]; have := J2.out; rw [HXL.out, List.take_length] at this; exact this
        go_wp2_with fail
        refine bodyPost_ret (v := .tuple #[.agg #[.string ⟨#[]⟩, .string ⟨#[]⟩, .int .u32 0, .int .i64 0, .int .u64 0], .int .i64 5]) (by simp [results, Tryz.results13, go_sem, *]) rfl ?_
        rw [HER.out.2 E.out, E.out]
        exact ⟨rfl, S2, L7.out, HB7.out.box5 HNF.out HN0.out _ _ _ _ _, put5R_keep K7.out (.inr (Nat.le_refl _)) _ _ _ _ _⟩
end
end Go.Proofs.YtbccnfbombgdmaaGreat
