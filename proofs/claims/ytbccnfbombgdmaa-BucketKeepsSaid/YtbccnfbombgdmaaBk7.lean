/- May. -/
import Derived.Test.YtbccnfbombgdmaaBk6
set_option linter.unusedVariables false
set_option linter.unusedSimpArgs false
set_option maxRecDepth 8000
namespace Go.Proofs.Ytbccnfbombgdmaa
open Go.RowKit Go.Deep Math
variable {w0 W W' : World} {d s : Nat} {F F' : List Nat} {S S' : Dv} {L : Int} {first : Nat} {M : SM}

theorem StIn.at_ (h : StIn W s d L first M) {k : Nat} {x : FB} (hx : M.fs[k]? = some x) : ∃ q, M.a = some ⟨q, 0, none⟩ ∧ W.cell? ⟨q, k, none⟩ = some (.pointer (some ⟨x.f, 0, none⟩)) ∧ q < W.heap.size := by
  rcases h.form with ⟨_, h1⟩ | ⟨q, cur, h1, h2, h3, h4⟩
  · rw [h1] at hx; simp at hx
  · refine ⟨q, h1, ?_, (Array.getElem?_eq_some_iff.1 h2).1⟩
    have hk : k < M.fs.length := (List.getElem?_eq_some_iff.1 hx).1
    have e := congrArg (fun l => l[k]?) h4
    simp only [List.getElem?_take, SM.ptrs, List.getElem?_map, hx, if_pos hk, Array.getElem?_toList, Option.map_some] at e
    simp [World.cell?, h2, e]
theorem below_drew {B : Nat} {A V : World} (h : Below B A V) (q : Nat) : Below B A (V.drewN q) := ⟨h.os, h.tape, h.output, h.size, h.block⟩
theorem enter32 (args : Array Value) (w : World) : (callFunc 32 args).run Try.prog w = .ok (.enter 32 args) w := enters_of Try.func32 (by kernel_rfl) rfl args w
theorem enter39 (args : Array Value) (w : World) : (callFunc 39 args).run Try.prog w = .ok (.enter 39 args) w := enters_of Try.func39 (by kernel_rfl) rfl args w
set_option maxHeartbeats 2000000 in
theorem may_ok (h : Bk w0 W d F S s L first M) (key : List UInt8) (hk : key.length ≤ maxLen) (x : FB) (hx : M.fs[bkt key M.fs.length]? = some x) (hn2 : M.fs.length ≤ 1000) :
    Calls Try.prog 17 #[.pointer (some ⟨s, 0, none⟩), .string (txt key)] W fun e W' => e = .returned (.bool (Bl.mayB x.l (Bl.plc (txt key) 256 3))) ∧ Below W.heap.size W W' := by
  obtain ⟨q, hq, hqc, hql⟩ := h.st.at_ hx
  have hkn := (List.getElem?_eq_some_iff.1 hx).1
  have hfl := h.st.flt x (List.mem_of_getElem? hx)
  obtain ⟨res, hres⟩ : ∃ r, r = Bl.mayB x.l (Bl.plc (txt key) 256 3) := ⟨_, rfl⟩
  obtain ⟨xf, hxf⟩ : ∃ xf, xf = x.f := ⟨_, rfl⟩
  rw [← hres]
  have cM0 : Hid (∀ V, Below W.heap.size W V → Calls Try.prog 39 #[.pointer (some ⟨xf, 0, none⟩), .string (txt key)] V fun e w' => e = .returned (.bool res) ∧ Below V.heap.size V w') := fun V hV => by
    have := Bl.may_any x.f x.s 3 x.l (txt key) (by rw [txt_size]; exact hk) V (hfl.1.below hV)
    rw [hfl.2, ← hres, ← hxf] at this
    exact this
  have cB0 : Hid (∀ V, Below W.heap.size W V → Calls Try.prog 32 #[.pointer (some ⟨s, 0, none⟩), .string (txt key)] V fun e w' => e = .returned (.int .i64 (bkt key M.fs.length : Nat)) ∧ ∃ q, w' = V.drewN q) := fun V hV => bucket_any (h.below hV).st key hk (by omega) hn2
  have cl : Hid (∀ V, Below W.heap.size W V → V.cell? ⟨s, 3, none⟩ = some (.slice M.a M.fs.length M.cap) ∧ V.cell? ⟨q, bkt key M.fs.length, none⟩ = some (.pointer (some ⟨xf, 0, none⟩))) := fun V hV => by
    refine ⟨(h.below hV).st.box.cell (i := 3) rfl, ?_⟩
    rw [hxf, ← hqc]
    exact hV.cell (p := ⟨q, _, none⟩) hql
  obtain ⟨bk, hbk⟩ : ∃ bk, bk = bkt key M.fs.length := ⟨_, rfl⟩
  obtain ⟨n, hn⟩ : ∃ n, n = M.fs.length := ⟨_, rfl⟩
  obtain ⟨cap, hcap⟩ : ∃ cap, cap = M.cap := ⟨_, rfl⟩
  rw [← hbk] at cB0 cl hkn
  rw [hq, ← hn, ← hcap] at cl
  rw [← hn] at hkn hn2
  have hbn : (bk : Int) < (n : Int) := by omega
  clear h hx hfl hk hqc hres hxf hbk hn hcap hq
  go_enter Try.func17, Try.ntmps17
  go_wp2_with fail
  obtain ⟨CC, hCC⟩ : ∃ CC : Bool → World → Prop, CC = fun f w' => match f with
      | false => ∃ q, w' = W.drewN q
      | true => Below W.heap.size W w' := ⟨_, rfl⟩
  have CB : Hid (∀ f w', CC f w' → Below W.heap.size W w') := fun f w' hw => by
    rw [hCC] at hw
    cases f with
    | false => obtain ⟨q, rfl⟩ := hw; exact below_q2 W q
    | true => exact hw
  have DR : Hid (CC false { W with drawn := W.drawn + 1 }) := by show CC false _; rw [hCC]; exact ⟨1, rfl⟩
  have cB : Hid (∀ f w', CC f w' → Calls Try.prog 32 #[.pointer (some ⟨s, 0, none⟩), .string (txt key)] w' fun e w' => e = .returned (.int .i64 (bk : Int)) ∧ CC f w') := fun f w' hw => by
    refine (cB0.out w' (CB.out f w' hw)).mono ?_
    rintro e w2 ⟨rfl, q2, rfl⟩
    refine ⟨rfl, ?_⟩
    rw [hCC] at hw ⊢
    cases f with
    | false => obtain ⟨q, rfl⟩ := hw; exact ⟨q + q2, by rw [World.drewN_drewN]⟩
    | true => exact below_drew hw q2
  have cM : Hid (∀ w', CC false w' → Calls Try.prog 39 #[.pointer (some ⟨xf, 0, none⟩), .string (txt key)] w' fun e w' => e = .returned (.bool res) ∧ CC true w') := fun w' hw => by
    have hb := CB.out false w' hw
    refine (cM0.out w' hb).mono ?_
    rintro e w2 ⟨rfl, h2⟩
    refine ⟨rfl, ?_⟩
    rw [hCC]
    exact hb.trans (h2.mono hb.size)
  have cells : Hid (∀ f w', CC f w' → w'.cell? ⟨s, 3, none⟩ = some (.slice (some ⟨q, 0, none⟩) n cap) ∧ w'.cell? ⟨q, bk, none⟩ = some (.pointer (some ⟨xf, 0, none⟩))) := fun f w' hw => cl.out w' (CB.out f w' hw)
  clear hCC cB0 cM0 cl
  refine wp_region_turn (by kernel_rfl) (by kernel_rfl) (fun i => ([.pointer (some ⟨s, 0, none⟩), .pointer (some ⟨s, 0, none⟩), .pointer (some ⟨s, 3, none⟩), .slice (some ⟨q, 0, none⟩) n cap, .pointer (some ⟨s, 0, none⟩), .string (txt key), .int .i64 (bk : Int), .pointer (some ⟨q, bk, none⟩), .pointer (some ⟨xf, 0, none⟩), .string (txt key), .bool res, .bool res] : List Value).getD i undef) 10 (by decide) (CC) (DR.out) ?_ ?_
  · intro i o hi f w' ev hc hz hin hout hcst hfn
    have hlt : i < 12 := by
      have := (Array.getElem?_eq_some_iff.1 hi).1
      simpa using this
    match i, hlt with
    | 0, _ =>
      simp only [List.getElem?_toArray, List.getElem?_cons_zero, List.getElem?_cons_succ, Option.some.injEq] at hi
      subst hi
      have e0 : ev (.tmp 0) = .pointer (some ⟨s, 0, none⟩) := hout 0 (by kernel_rfl) (show (0 : Nat) < 16 by decide)
      rw [if_neg (by decide)]
      refine .inl ⟨w', ?_, hc⟩
      show _ = Result.ok (Next.value (.pointer (some ⟨s, 0, none⟩))) w'
      simp [execOp, e0, hcst, go_sem]
    | 1, _ =>
      simp only [List.getElem?_toArray, List.getElem?_cons_zero, List.getElem?_cons_succ, Option.some.injEq] at hi
      subst hi
      have e0 : ev (.tmp 5) = .pointer (some ⟨s, 0, none⟩) := hin 5 0 ⟨0, .data⟩ (by kernel_rfl) (by simp) rfl rfl (show (5 : Nat) < 16 by decide)
      rw [if_neg (by decide)]
      refine .inl ⟨w', ?_, hc⟩
      show _ = Result.ok (Next.value (.pointer (some ⟨s, 0, none⟩))) w'
      simp [execOp, e0, hcst, go_sem]
    | 2, _ =>
      simp only [List.getElem?_toArray, List.getElem?_cons_zero, List.getElem?_cons_succ, Option.some.injEq] at hi
      subst hi
      have e0 : ev (.tmp 6) = .pointer (some ⟨s, 0, none⟩) := hin 6 1 ⟨1, .data⟩ (by kernel_rfl) (by simp) rfl rfl (show (6 : Nat) < 16 by decide)
      rw [if_neg (by decide)]
      refine .inl ⟨w', ?_, hc⟩
      show _ = Result.ok (Next.value (.pointer (some ⟨s, 3, none⟩))) w'
      simp [execOp, e0, hcst, go_sem]
    | 3, _ =>
      simp only [List.getElem?_toArray, List.getElem?_cons_zero, List.getElem?_cons_succ, Option.some.injEq] at hi
      subst hi
      have e0 : ev (.tmp 7) = .pointer (some ⟨s, 3, none⟩) := hin 7 2 ⟨2, .data⟩ (by kernel_rfl) (by simp) rfl rfl (show (7 : Nat) < 16 by decide)
      rw [if_neg (by decide)]
      refine .inl ⟨w', ?_, hc⟩
      show _ = Result.ok (Next.value (.slice (some ⟨q, 0, none⟩) n cap)) w'
      have q1 := (cells.out f w' hc).1
      simp [execOp, e0, q1, hcst, go_sem]
    | 4, _ =>
      simp only [List.getElem?_toArray, List.getElem?_cons_zero, List.getElem?_cons_succ, Option.some.injEq] at hi
      subst hi
      have e0 : ev (.tmp 0) = .pointer (some ⟨s, 0, none⟩) := hout 0 (by kernel_rfl) (show (0 : Nat) < 16 by decide)
      rw [if_neg (by decide)]
      refine .inl ⟨w', ?_, hc⟩
      show _ = Result.ok (Next.value (.pointer (some ⟨s, 0, none⟩))) w'
      simp [execOp, e0, hcst, go_sem]
    | 5, _ =>
      simp only [List.getElem?_toArray, List.getElem?_cons_zero, List.getElem?_cons_succ, Option.some.injEq] at hi
      subst hi
      have e0 : ev (.tmp 1) = .string (txt key) := hout 1 (by kernel_rfl) (show (1 : Nat) < 16 by decide)
      rw [if_neg (by decide)]
      refine .inl ⟨w', ?_, hc⟩
      show _ = Result.ok (Next.value (.string (txt key))) w'
      simp [execOp, e0, hcst, go_sem]
    | 6, _ =>
      simp only [List.getElem?_toArray, List.getElem?_cons_zero, List.getElem?_cons_succ, Option.some.injEq] at hi
      subst hi
      have e0 : ev (.tmp 9) = .pointer (some ⟨s, 0, none⟩) := hin 9 4 ⟨4, .data⟩ (by kernel_rfl) (by simp) rfl rfl (show (9 : Nat) < 16 by decide)
      have e1 : ev (.tmp 10) = .string (txt key) := hin 10 5 ⟨5, .data⟩ (by kernel_rfl) (by simp) rfl rfl (show (10 : Nat) < 16 by decide)
      rw [if_neg (by decide)]
      refine .inr (.inr ⟨32, #[.pointer (some ⟨s, 0, none⟩), .string (txt key)], ?_, ?_⟩)
      · have ef := hfn 32
        simp [execOp, resolve, invoke, ef, hcst, e0, e1, Result.andThen]
        exact enter32 _ _
      · refine (cB.out f w' hc).mono ?_
        rintro e w2 ⟨rfl, h2⟩
        exact ⟨rfl, h2⟩
    | 7, _ =>
      simp only [List.getElem?_toArray, List.getElem?_cons_zero, List.getElem?_cons_succ, Option.some.injEq] at hi
      subst hi
      have e0 : ev (.tmp 8) = .slice (some ⟨q, 0, none⟩) n cap := hin 8 3 ⟨3, .data⟩ (by kernel_rfl) (by simp) rfl rfl (show (8 : Nat) < 16 by decide)
      have e1 : ev (.tmp 11) = .int .i64 (bk : Int) := hin 11 6 ⟨6, .data⟩ (by kernel_rfl) (by simp) rfl rfl (show (11 : Nat) < 16 by decide)
      rw [if_neg (by decide)]
      refine .inl ⟨w', ?_, hc⟩
      show _ = Result.ok (Next.value (.pointer (some ⟨q, bk, none⟩))) w'
      simp [execOp, e0, e1, hcst, go_sem, hbn]
    | 8, _ =>
      simp only [List.getElem?_toArray, List.getElem?_cons_zero, List.getElem?_cons_succ, Option.some.injEq] at hi
      subst hi
      have e0 : ev (.tmp 12) = .pointer (some ⟨q, bk, none⟩) := hin 12 7 ⟨7, .data⟩ (by kernel_rfl) (by simp) rfl rfl (show (12 : Nat) < 16 by decide)
      rw [if_neg (by decide)]
      refine .inl ⟨w', ?_, hc⟩
      show _ = Result.ok (Next.value (.pointer (some ⟨xf, 0, none⟩))) w'
      have q1 := (cells.out f w' hc).2
      simp [execOp, e0, q1, hcst, go_sem]
    | 9, _ =>
      simp only [List.getElem?_toArray, List.getElem?_cons_zero, List.getElem?_cons_succ, Option.some.injEq] at hi
      subst hi
      have e0 : ev (.tmp 1) = .string (txt key) := hout 1 (by kernel_rfl) (show (1 : Nat) < 16 by decide)
      rw [if_neg (by decide)]
      refine .inl ⟨w', ?_, hc⟩
      show _ = Result.ok (Next.value (.string (txt key))) w'
      simp [execOp, e0, hcst, go_sem]
    | 10, _ =>
      simp only [List.getElem?_toArray, List.getElem?_cons_zero, List.getElem?_cons_succ, Option.some.injEq] at hi
      subst hi
      have e0 : ev (.tmp 13) = .pointer (some ⟨xf, 0, none⟩) := hin 13 8 ⟨8, .data⟩ (by kernel_rfl) (by simp) rfl rfl (show (13 : Nat) < 16 by decide)
      have e1 : ev (.tmp 14) = .string (txt key) := hin 14 9 ⟨9, .data⟩ (by kernel_rfl) (by simp) rfl rfl (show (14 : Nat) < 16 by decide)
      rw [if_pos rfl]
      refine .inr (.inr ⟨39, #[.pointer (some ⟨xf, 0, none⟩), .string (txt key)], ?_, ?_⟩)
      · have ef := hfn 39
        simp [execOp, resolve, invoke, ef, hcst, e0, e1, Result.andThen]
        exact enter39 _ _
      · rw [hz rfl] at hc
        refine (cM.out w' hc).mono ?_
        rintro e w2 ⟨rfl, h2⟩
        exact ⟨rfl, h2⟩
    | 11, _ =>
      simp only [List.getElem?_toArray, List.getElem?_cons_zero, List.getElem?_cons_succ, Option.some.injEq] at hi
      subst hi
      have e0 : ev (.tmp 15) = .bool res := hin 15 10 ⟨10, .data⟩ (by kernel_rfl) (by simp) rfl rfl (show (15 : Nat) < 16 by decide)
      rw [if_neg (by decide)]
      refine .inl ⟨w', ?_, hc⟩
      show _ = Result.ok (Next.value (.bool res)) w'
      simp [execOp, e0, hcst, go_sem]
  · intro w7 hc
    simp only [lexF, Act.put, List.setIfInBounds_toArray, List.set_cons_succ, List.set_cons_zero, List.getD_cons_succ, List.getD_cons_zero]
    have T := hide (CB.out true w7 hc)
    clear hc cB cM cells DR CB hbn
    go_wp2
    go_ret
    exact ⟨rfl, T.out⟩
end Go.Proofs.Ytbccnfbombgdmaa
