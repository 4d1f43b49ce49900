/- Pages there and back; a device whose power is sure; the journal's calls as a law holds them. -/
import Derived.Test.YtghdkicijdfpcaaAdd
import Derived.Test.YtghdkicijdfpcaaMarks
set_option linter.unusedVariables false
set_option linter.unusedSimpArgs false
set_option maxRecDepth 8000
namespace Go.Proofs.Ytghdkicijdfpcaa
open Go.RowKit Go.Deep Math

/-! ### Pages -/
theorem rdM_enc : ∀ (xs : List Mk) (Z : List UInt8), (∀ x ∈ xs, Mk.fits x) → rdM xs.length (encM xs ++ Z) = xs
  | [], Z, _ => rfl
  | x :: r, Z, h => by
    have hx := h x (by simp)
    have e : (256 : Nat) ^ 8 = 18446744073709551616 := by decide
    rw [List.length_cons, rdM, encM_cons]
    have e1 : low x.1 8 ++ (low x.2 8 ++ encM r) ++ Z = low x.1 8 ++ (low x.2 8 ++ (encM r ++ Z)) := by simp
    rw [e1, sl_first _ _ 8 (by rw [low_length]), sl_mid (low x.1 8) (low x.2 8) (encM r ++ Z) 8 16 (by rw [low_length]) (by rw [low_length])]
    rw [up_low 8 x.1 (by rw [e]; exact hx.1), up_low 8 x.2 (by rw [e]; exact hx.2)]
    have e2 : (low x.1 8 ++ (low x.2 8 ++ (encM r ++ Z))).drop 16 = encM r ++ Z := by
      rw [← List.append_assoc]
      exact List.drop_left' (by rw [List.length_append, low_length, low_length])
    rw [e2, rdM_enc r Z (fun y hy => h y (by simp [hy]))]
theorem pgOf_size (gen : Nat) (xs : List Mk) : (pgOf gen xs).size = 16 + 16 * xs.length := by
  unfold pgOf
  show (pageB gen xs).toArray.size = _
  rw [List.size_toArray, pageB_length]
theorem pgOf_full (gen : Nat) (xs : List Mk) : ∃ Z, (full (pgOf gen xs)).data.toList = mk4 ++ (low xs.length 4 ++ (low gen 8 ++ (encM xs ++ Z))) := by
  refine ⟨List.replicate (384 - (pgOf gen xs).size) 0, ?_⟩
  rw [full_data]
  unfold pgOf pageB headB
  simp
theorem tk_page (gen : Nat) (xs : List Mk) (hg : gen < 18446744073709551616) (hx : xs.length ≤ 23) (hf : ∀ x ∈ xs, Mk.fits x) : Pg.tk gen (.whole (pgOf gen xs)) = some xs := by
  obtain ⟨Z, hZ⟩ := pgOf_full gen xs
  have e8 : (256 : Nat) ^ 8 = 18446744073709551616 := by decide
  have e4 : (256 : Nat) ^ 4 = 4294967296 := by decide
  have hm : mk4.length = 4 := rfl
  have a1 : sl (mk4 ++ (low xs.length 4 ++ (low gen 8 ++ (encM xs ++ Z)))) 0 4 = mk4 := sl_first _ _ 4 rfl
  have a2 : sl (mk4 ++ (low xs.length 4 ++ (low gen 8 ++ (encM xs ++ Z)))) 4 8 = low xs.length 4 := sl_mid mk4 _ _ 4 8 rfl (by rw [low_length])
  have a3 : sl (mk4 ++ (low xs.length 4 ++ (low gen 8 ++ (encM xs ++ Z)))) 8 16 = low gen 8 := by
    rw [← List.append_assoc]
    exact sl_mid (mk4 ++ low xs.length 4) _ _ 8 16 (by rw [List.length_append, low_length, hm]) (by rw [low_length])
  have a4 : (mk4 ++ (low xs.length 4 ++ (low gen 8 ++ (encM xs ++ Z)))).drop 16 = encM xs ++ Z := by
    rw [← List.append_assoc, ← List.append_assoc]
    exact List.drop_left' (by rw [List.length_append, List.length_append, low_length, low_length, hm])
  show tkM gen (full (pgOf gen xs)).data.toList = some xs
  unfold tkM
  rw [hZ, a1, a2, a3, a4, up_low 4 _ (by rw [e4]; omega), up_low 8 _ (by rw [e8]; exact hg), if_pos ⟨rfl, hx, rfl⟩, rdM_enc xs Z hf]
theorem tk_other (gen g' : Nat) (xs : List Mk) (hg : gen < 18446744073709551616) (hne : gen ≠ g') : Pg.tk g' (.whole (pgOf gen xs)) = none := by
  obtain ⟨Z, hZ⟩ := pgOf_full gen xs
  have e8 : (256 : Nat) ^ 8 = 18446744073709551616 := by decide
  have hm : mk4.length = 4 := rfl
  have a3 : sl (mk4 ++ (low xs.length 4 ++ (low gen 8 ++ (encM xs ++ Z)))) 8 16 = low gen 8 := by
    rw [← List.append_assoc]
    exact sl_mid (mk4 ++ low xs.length 4) _ _ 8 16 (by rw [List.length_append, low_length, hm]) (by rw [low_length])
  show tkM g' (full (pgOf gen xs)).data.toList = none
  unfold tkM
  rw [hZ, a3, up_low 8 _ (by rw [e8]; exact hg), if_neg (fun h => hne h.2.2)]

/-! ### A device's pages -/
def Dv.pl (S : Dv) : List Pg := S.cs.map (·.now)
theorem pl_length (S : Dv) : S.pl.length = S.cs.length := by simp [Dv.pl]
theorem pgs_pl (S : Dv) (f p : Nat) : S.pgs f p = (S.pl.drop f).take p := by simp [Dv.pgs, Dv.pl, List.map_take, List.map_drop]
theorem like_pl {S S' : Dv} (h : S.like S') : S'.pl = S.pl := by unfold Dv.pl; rw [h.cs]
theorem putAt_pl : ∀ (cs : List Cl) (i : Nat) (p : Pg), (putAt cs i p).map (·.now) = (cs.map (·.now)).set i p
  | [], i, p => by simp [putAt]
  | c :: r, 0, p => by simp [putAt, Cl.put]
  | c :: r, i + 1, p => by simp [putAt, putAt_pl r i p]
theorem flush_pl (cs : List Cl) : (cs.map Cl.flush).map (·.now) = cs.map (·.now) := by simp [Cl.flush, Function.comp_def]
/-- The power is on, and nothing is armed. -/
structure Sure (S : Dv) : Prop where
  off : S.off = false
  armed : S.armed = 0
theorem Sure.like {S S' : Dv} (h : Sure S) (k : S.like S') : Sure S' := ⟨k.off.trans h.off, k.armed.trans h.armed⟩
theorem Sure.gone {S : Dv} (h : Sure S) : S.gone = false := by simp [Dv.gone, h.off, h.armed]
theorem Sure.used {S : Dv} (h : Sure S) : S.used = S := by simp [Dv.used, h.armed]
theorem Sure.fresh (n : Nat) : Sure (Dv.fresh n) := ⟨rfl, rfl⟩
theorem fresh_pl (n : Nat) : (Dv.fresh n).pl = List.replicate n .blank := by simp [Dv.pl, Dv.fresh]
theorem sure_write {S : Dv} (h : Sure S) (q : Nat) (hq : q < S.cs.length) (pg : ByteArray) (hp : pg.size ≤ 384) :
    S.writeErr (q : Int) pg = 0 ∧ S.writeDo (q : Int) pg = { S with cs := putAt S.cs q (.whole pg), wr := wrap64 (S.wr + 1) } := by
  have h1 : ¬ 384 < pg.size := by omega
  constructor
  · simp [Dv.writeErr, Dv.putErr, h1, has_nat hq, h.gone]
  · simp [Dv.writeDo, Dv.putDo, h1, has_nat hq, h.gone, h.used]
theorem sure_flush {S : Dv} (h : Sure S) : S.flushErr = 0 ∧ S.flushDo = { S with cs := S.cs.map Cl.flush, fl := wrap64 (S.fl + 1) } := by
  simp [Dv.flushErr, Dv.flushDo, h.gone, h.used]
/-- What a sure Add leaves on the device. -/
structure Added (S S' : Dv) (q : Nat) (pg : ByteArray) : Prop where
  sure : Sure S'
  pl : S'.pl = S.pl.set q (.whole pg)
  losses : S'.losses = S.losses
  clean : ∀ c ∈ S'.cs, c.last = none
theorem sure_add {S : Dv} (h : Sure S) (J : Jr) (q : Nat) (hq : q < S.cs.length) (pg : ByteArray) (hp : pg.size ≤ 384) (xs : List Mk) :
    addEr S q pg = 0 ∧ addJr J S q pg xs = ({ J with used := J.used + 1 } : Jr).keeps xs ∧ Added S (addDv S q pg) q pg := by
  obtain ⟨e1, e2⟩ := sure_write h q hq pg hp
  have h2 : Sure (S.writeDo (q : Int) pg) := by rw [e2]; exact ⟨h.off, h.armed⟩
  obtain ⟨e3, e4⟩ := sure_flush h2
  refine ⟨?_, ?_, ?_⟩
  · unfold addEr; rw [e1, e3]; rfl
  · unfold addJr; rw [e1, e3]; rfl
  · have e5 : addDv S q pg = (S.writeDo (q : Int) pg).flushDo := by unfold addDv; rw [e1]; rfl
    rw [e5, e4, e2]
    refine ⟨⟨h.off, h.armed⟩, ?_, rfl, fun c hc => ?_⟩
    · show ((putAt S.cs q (.whole pg)).map Cl.flush).map (·.now) = _
      rw [flush_pl, putAt_pl]; rfl
    · obtain ⟨c0, _, rfl⟩ := List.mem_map.1 hc
      rfl

/-! ### Scans -/
theorem scan_append {g : Nat} : ∀ (A B : List Pg) (xss : List (List Mk)), A.map (Pg.tk g) = xss.map some → scanP g (A ++ B) = xss ++ scanP g B
  | [], B, xss, h => by cases xss with | nil => rfl | cons x r => simp at h
  | p :: r, B, xss, h => by
    cases xss with
    | nil => simp at h
    | cons x xs =>
      simp only [List.map_cons, List.cons.injEq] at h
      rw [List.cons_append, scanP, h.1]
      simp only
      rw [scan_append r B xs h.2]
      rfl
theorem scan_none {g : Nat} (p : Pg) (r : List Pg) (h : p.tk g = none) : scanP g (p :: r) = [] := by simp [scanP, h]
theorem scan_blank (g n : Nat) : scanP g (List.replicate n .blank) = [] := by
  cases n with
  | zero => rfl
  | succ n => rw [List.replicate_succ]; exact scan_none _ _ rfl
theorem openJ_vals (S : Dv) (f p g : Nat) : (openJ S f p g).losses = S.losses ∧ (openJ S f p g).first = (f : Int) ∧ (openJ S f p g).pages = (p : Int) ∧ (openJ S f p g).used = ((scanP g (S.pgs f p)).length : Nat) ∧ (openJ S f p g).gen = g ∧
    (openJ S f p g).M = kM (fun _ => none) (scanP g (S.pgs f p)).flatten := by
  unfold openJ Jr.upTo
  rw [List.take_length]
  have s := keeps_same (scanP g (S.pgs f p)).flatten ⟨S.losses, f, p, 0, g, fun _ => none⟩
  exact ⟨s.1, s.2.1, s.2.2.1, rfl, s.2.2.2.2, keeps_M _ _⟩

/-! ### The calls, as a law holds them -/
structure JH (w0 W : World) (d : Nat) (F : List Nat) (j m n : Nat) (J : Jr) : Prop where
  jr : JrAt W j d m n J
  nj : j ∉ F
  nm : m ∉ F
  lj : w0.heap.size ≤ j
  lm : w0.heap.size ≤ m
theorem JH.move {w0 W W' : World} {d : Nat} {F F' : List Nat} {j m n : Nat} {J : Jr} (h : JH w0 W d F j m n J) {G : List Nat} (k : Keep G W W') (hj : j ∉ G) (hm : m ∉ G) (hF : ∀ x ∈ F', x ∈ F ∨ W.heap.size ≤ x) : JH w0 W' d F' j m n J :=
  ⟨h.jr.keep k hj hm, fun hf => by rcases hF j hf with h1 | h1; exact h.nj h1; have := h.jr.blk.lt; omega, fun hf => by rcases hF m hf with h1 | h1; exact h.nm h1; have := h.jr.mlt; omega, h.lj, h.lm⟩
theorem JH.below {w0 W W' : World} {d : Nat} {F : List Nat} {j m n : Nat} {J : Jr} (h : JH w0 W d F j m n J) (b : Below W.heap.size W W') : JH w0 W' d F j m n J := ⟨h.jr.below b, h.nj, h.nm, h.lj, h.lm⟩
theorem JH.jd {w0 W : World} {d : Nat} {F : List Nat} {S : Dv} {j m n : Nat} {J : Jr} (h : JH w0 W d F j m n J) (l : Law w0 d F S W) : JD W j d m n F J S := ⟨h.jr, l.dev, h.nj, h.nm⟩

theorem open_l {w0 W : World} {d : Nat} {F : List Nat} {S : Dv} (h : Law w0 d F S W) (first pages gen : Nat) (h1 : 1 ≤ pages) (h2 : first + pages ≤ S.cs.length) (hoff : S.off = false) (hgen : gen < 18446744073709551616) :
    Calls Try.prog 11 #[.pointer (some ⟨d, 0, none⟩), .int .i64 (first : Nat), .int .i64 (pages : Nat), .int .u64 gen] W fun e W' => ∃ j m n S', e = .returned (.tuple #[.pointer (some ⟨j, 0, none⟩), .int .i64 0]) ∧
      Law w0 d F S' W' ∧ S.like S' ∧ JH w0 W' d F j m n (openJ S first pages gen) ∧ n ≤ 23 * pages ∧ W.heap.size ≤ j ∧ W.heap.size ≤ m ∧ Keep F W W' := by
  refine (open_ok d F S first pages gen h1 h2 hoff hgen W h.dev).mono ?_
  rintro e W' ⟨j, m, n, S', rfl, hd, hl, kp, hj, hm, hn⟩
  have hs := h.bel.size
  exact ⟨j, m, n, S', rfl, h.move hd.dev (Moves.of_keep kp), hl, ⟨hd.jr, hd.nj, hd.nm, by omega, by omega⟩, hn, hj, hm, kp⟩
theorem add_l {w0 W : World} {d : Nat} {F : List Nat} {S : Dv} {j m n : Nat} {J : Jr} (h : Law w0 d F S W) (hj : JH w0 W d F j m n J) {f p u : Nat} (ho : J.ok S f p u) (hu : u < p) (hgen : J.gen < 18446744073709551616) {a : Option Addr} {len : Nat} (cap : Nat) {xs : List Mk} (hx : MkIn W j m F a len xs)
    (h1 : 1 ≤ len) (h23 : len ≤ 23) (hl : S.losses = J.losses) (hn : n < 900000) :
    Calls Try.prog 12 #[.pointer (some ⟨j, 0, none⟩), .slice a len cap] W fun e W' => e = .returned (.int .i64 (addEr S (f + u) (pgOf J.gen xs))) ∧ ∃ F' n', Law w0 d F' (addDv S (f + u) (pgOf J.gen xs)) W' ∧ JH w0 W' d F' j m n' (addJr J S (f + u) (pgOf J.gen xs) xs) ∧ n' ≤ n + len ∧ Keep (j :: m :: F) W W' ∧ (∀ x ∈ F', x ∈ F ∨ W.heap.size ≤ x) := by
  refine (add_go j d m n F J S f p u ho hu hgen a len cap xs h1 h23 hl hn W hx (hj.jd h)).mono ?_
  rintro e W' ⟨rfl, F', n', hd, kp, hF, hn'⟩
  have hs := h.bel.size
  refine ⟨rfl, F', n', ⟨hd.dev, fun k hk => ?_, h.bel.trans (kp.below (fun k hk => ?_) hs)⟩, ⟨hd.jr, hd.nj, hd.nm, hj.lj, hj.lm⟩, hn', kp, hF⟩
  · rcases hF k hk with h3 | h3
    · exact h.low k h3
    · omega
  · rcases List.mem_cons.1 hk with rfl | hk
    · exact hj.lj
    · rcases List.mem_cons.1 hk with rfl | hk
      · exact hj.lm
      · exact h.low k hk
/-- An Add that does nothing but answer. -/
theorem add_idle {w0 W : World} {d : Nat} {F : List Nat} {S : Dv} {j m n : Nat} {J : Jr} (h : Law w0 d F S W) (hj : JH w0 W d F j m n J) {er : Int} {args : Array Value} (c : Calls Try.prog 12 args W (AddPostM W j d m n F 0 er J S)) :
    Calls Try.prog 12 args W fun e W' => e = .returned (.int .i64 er) ∧ ∃ F' n', Law w0 d F' S W' ∧ JH w0 W' d F' j m n' J ∧ n' ≤ n ∧ Keep (j :: m :: F) W W' ∧ (∀ x ∈ F', x ∈ F ∨ W.heap.size ≤ x) := by
  refine c.mono ?_
  rintro e W' ⟨rfl, F', n', hd, kp, hF, hn'⟩
  have hs := h.bel.size
  refine ⟨rfl, F', n', ⟨hd.dev, fun k hk => ?_, h.bel.trans (kp.below (fun k hk => ?_) hs)⟩, ⟨hd.jr, hd.nj, hd.nm, hj.lj, hj.lm⟩, hn', kp, hF⟩
  · rcases hF k hk with h3 | h3
    · exact h.low k h3
    · omega
  · rcases List.mem_cons.1 hk with rfl | hk
    · exact hj.lj
    · rcases List.mem_cons.1 hk with rfl | hk
      · exact hj.lm
      · exact h.low k hk
theorem begin_l {w0 W : World} {d : Nat} {F : List Nat} {S : Dv} {j m n : Nat} {J : Jr} (h : Law w0 d F S W) (hj : JH w0 W d F j m n J) (g : Nat) :
    Calls Try.prog 18 #[.pointer (some ⟨j, 0, none⟩), .int .u64 g] W fun e W' => e = .returned (.tuple #[]) ∧ ∃ m', Law w0 d F S W' ∧ JH w0 W' d F j m' 0 { J with used := 0, gen := g, M := fun _ => none } ∧ W.heap.size ≤ m' ∧ Keep [j] W W' := by
  refine (begin_any j d m n J g W hj.jr).mono ?_
  rintro e W' ⟨rfl, m', h1, h2, h3⟩
  have hs := h.bel.size
  refine ⟨rfl, m', ⟨h.dev.same (fun k hk => h3.block k (h.dev.lt k hk) (by simp; intro e; exact hj.nj (e ▸ hk))), h.low, h.bel.trans (h3.below (by simpa using hj.lj) hs)⟩, ⟨h1, hj.nj, h.dev.new m' h2, hj.lj, by omega⟩, h2, h3⟩
theorem room_l {w0 W : World} {d : Nat} {F : List Nat} {j m n : Nat} {J : Jr} (hj : JH w0 W d F j m n J) {p u : Nat} (hp : J.pages = (p : Int)) (hu : J.used = (u : Int)) (hup : u ≤ p) (hp4 : p ≤ 5000) :
    Calls Try.prog 13 #[.pointer (some ⟨j, 0, none⟩)] W fun e W' => e = .returned (.int .i64 ((p - u : Nat) : Int)) ∧ Below W.heap.size W W' := by
  have := room_any j d m n J W hj.jr
  rw [hp, hu] at this
  have e : wrap64 ((p : Int) - (u : Int)) = ((p - u : Nat) : Int) := by unfold wrap64; omega
  rw [e] at this
  exact this
theorem gone_l {w0 W : World} {d : Nat} {F : List Nat} {j m n : Nat} {J : Jr} (hj : JH w0 W d F j m n J) (k v : Nat) (hk : k < 18446744073709551616) :
    Calls Try.prog 22 #[.pointer (some ⟨j, 0, none⟩), .int .u64 k, .int .u64 v] W fun e W' => e = .returned (.bool (J.gone k v)) ∧ W' = W := gone_any' j d m n J k v hk W hj.jr

/-! ### Maps of few keys -/
theorem kM_append (M : Nat → Option Nat) (xs ys : List Mk) : kM M (xs ++ ys) = kM (kM M xs) ys := by simp [kM, List.foldl_append]
theorem kM_one (k v : Nat) : kM (fun _ => none) [(k, v)] = fun y => if y = k then some v else none := by
  funext y; simp [kM]
/-- The keys of a map all are k. -/
def OneKey (M : Nat → Option Nat) (k : Nat) : Prop := ∀ y, (M y).isSome = true → y = k
theorem one_len {M : Nat → Option Nat} {D : DataW Unit} (hM : MapIs D M) {k : Nat} (h1 : OneKey M k) : ∀ ss : List Nat, ss.Nodup → (∀ x, x ∈ ss ↔ Maps.has D (u64L x) = true) → ss.length ≤ 1 := by
  intro ss hnd hmem
  have hk : ∀ x ∈ ss, x = k := fun x hx => by
    have h2 := (hmem x).1 hx
    obtain ⟨L, hL1, hL2, hL3⟩ := hM.list
    rw [hL1, Maps.has_eq, List.any_eq_true] at h2
    obtain ⟨p, hp, hs⟩ := h2
    obtain ⟨y, hy, rfl⟩ := List.mem_map.1 hp
    have hs' : (u64L y.1).sameKey (u64L x) = true := hs
    rw [same_u64] at hs'
    have e : y.1 = x := by simpa using hs'
    have h3 := (hL3 y).1 hy
    rw [e] at h3
    exact h1 x (by rw [h3]; rfl)
  have := nodup_len ss [k] hnd (fun x hx => by simp [hk x hx])
  simpa using this
/-- Marks of a journal of at most one key. -/
theorem marks_one {w0 W : World} {d : Nat} {F : List Nat} {j m n : Nat} {J : Jr} (hj : JH w0 W d F j m n J) (hn : n ≤ 1000000) {k : Nat} (h1 : OneKey J.M k) :
    Calls Try.prog 14 #[.pointer (some ⟨j, 0, none⟩)] W (MarksPost J.M W) :=
  marks_by j d m n J hn W hj.jr (fun D0 W' Bm hM hB hc hown => sorted_small Bm m n D0 hn (one_len hM h1) W' hB hc hown)
theorem told_none {M : Nat → Option Nat} {ys : List Mk} (h : Told M ys) (hM : ∀ y, M y = none) : ys = [] := by
  cases ys with
  | nil => rfl
  | cons x r => have := (h.mem x).1 (by simp); rw [hM] at this; cases this
theorem told_one {M : Nat → Option Nat} {ys : List Mk} (h : Told M ys) {k v : Nat} (hM : ∀ y, M y = if y = k then some v else none) : ys = [(k, v)] := by
  have hk : ∀ x ∈ ys, x = (k, v) := fun x hx => by
    have := (h.mem x).1 hx
    rw [hM] at this
    obtain ⟨a, b⟩ := x
    simp only at this
    split at this
    · rename_i e; cases this; rw [e]
    · cases this
  have hmem : (k, v) ∈ ys := (h.mem (k, v)).2 (by rw [hM]; simp)
  match ys, h, hk, hmem with
  | [x], _, hk, _ => rw [hk x (by simp)]
  | x :: y :: r, h, hk, _ =>
    have e1 := hk x (by simp)
    have e2 := hk y (by simp)
    have := h.rise
    rw [e1, e2] at this
    simp at this
/-- A row of marks just built. -/
theorem MkIn.built {w0 W : World} {d : Nat} {F : List Nat} {S : Dv} {j m n : Nat} {J : Jr} (h : Law w0 d F S W) (hj : JH w0 W d F j m n J) (k v : Nat) (hk : k < 18446744073709551616) (hv : v < 18446744073709551616) :
    MkIn (W.alloc (.cells #[.int .u64 (k : Int), .int .u64 (v : Int)] 48)) j m F (some ⟨W.heap.size, 0, none⟩) 1 [(k, v)] := by
  have hb := Blk.new W [.int .u64 (k : Int), .int .u64 (v : Int)] 48
  refine ⟨⟨rfl, fun x hx => by simp at hx; subst hx; exact ⟨hk, hv⟩, fun i x hx => ?_⟩, fun b o e => ?_⟩
  · cases i with
    | zero =>
      simp at hx
      subst hx
      exact ⟨_, 0, rfl, hb.lt, hb.cell (i := 0) rfl, hb.cell (i := 1) rfl⟩
    | succ i => simp at hx
  · cases e
    exact ⟨h.dev.new _ (Nat.le_refl _), by have := hj.jr.blk.lt; omega, by have := hj.jr.mlt; omega⟩
end Go.Proofs.Ytghdkicijdfpcaa
