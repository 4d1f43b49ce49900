/- Texts joined. -/
import Derived.Test.YtmfjaehajdephabGood
import Derived.Test.YtmfjaehajdephabSplit
import Derived.Test.YtmfjaehajdephabJN
import Derived.Test.YtmfjaehajdephabPp
import Derived.Test.YtmfjaehajdephabJA
import Derived.Handy
import Derived.Deep.MidRow
/-
  What chapter 18 says of a line: One without memory.
-/
namespace Go.Proofs.Ytmfjaehajdephab
open Go.Shelf Go.RowKit Go.Deep
set_option linter.unusedVariables false
set_option linter.unusedSimpArgs false

def mk8 (l : List UInt8) : ByteArray := ⟨l.toArray⟩
def wordsB (s : ByteArray) : List ByteArray := (spl [] s.data.toList).map mk8
def isW (x : ByteArray) (l : List UInt8) : Bool := x.toList == l
abbrev w_get : List UInt8 := [103, 101, 116]
abbrev w_gets : List UInt8 := [103, 101, 116, 115]
abbrev w_gat : List UInt8 := [103, 97, 116]
abbrev w_gats : List UInt8 := [103, 97, 116, 115]
abbrev w_set : List UInt8 := [115, 101, 116]
abbrev w_add : List UInt8 := [97, 100, 100]
abbrev w_rep : List UInt8 := [114, 101, 112, 108, 97, 99, 101]
abbrev w_app : List UInt8 := [97, 112, 112, 101, 110, 100]
abbrev w_pre : List UInt8 := [112, 114, 101, 112, 101, 110, 100]
abbrev w_cas : List UInt8 := [99, 97, 115]
abbrev w_incr : List UInt8 := [105, 110, 99, 114]
abbrev w_decr : List UInt8 := [100, 101, 99, 114]
abbrev w_touch : List UInt8 := [116, 111, 117, 99, 104]
abbrev w_del_ : List UInt8 := [100, 101, 108, 101, 116, 101]
abbrev w_flush : List UInt8 := [102, 108, 117, 115, 104, 95, 97, 108, 108]
abbrev w_ver : List UInt8 := [118, 101, 114, 115, 105, 111, 110]
abbrev w_quit : List UInt8 := [113, 117, 105, 116]
abbrev w_noreply : List UInt8 := [110, 111, 114, 101, 112, 108, 121]
abbrev w_zero : List UInt8 := [48]
abbrev errT : List UInt8 := [69, 82, 82, 79, 82]
abbrev formT : List UInt8 := [67, 76, 73, 69, 78, 84, 95, 69, 82, 82, 79, 82, 32, 98, 97, 100, 32, 99, 111, 109, 109, 97, 110, 100, 32, 108, 105, 110, 101, 32, 102, 111, 114, 109, 97, 116]
abbrev deltaT : List UInt8 := [67, 76, 73, 69, 78, 84, 95, 69, 82, 82, 79, 82, 32, 105, 110, 118, 97, 108, 105, 100, 32, 110, 117, 109, 101, 114, 105, 99, 32, 100, 101, 108, 116, 97, 32, 97, 114, 103, 117, 109, 101, 110, 116]
abbrev timeT : List UInt8 := [67, 76, 73, 69, 78, 84, 95, 69, 82, 82, 79, 82, 32, 105, 110, 118, 97, 108, 105, 100, 32, 101, 120, 112, 116, 105, 109, 101, 32, 97, 114, 103, 117, 109, 101, 110, 116]
abbrev largeT : List UInt8 := [83, 69, 82, 86, 69, 82, 95, 69, 82, 82, 79, 82, 32, 111, 98, 106, 101, 99, 116, 32, 116, 111, 111, 32, 108, 97, 114, 103, 101, 32, 102, 111, 114, 32, 99, 97, 99, 104, 101]
/-- The word number i. -/
def wd_ (ws : List ByteArray) (i : Nat) : ByteArray := (ws[i]?).getD ByteArray.empty
def num_ (ws : List ByteArray) (i : Nat) : Nat := numV (wd_ ws i).data.toList
def numOk_ (ws : List ByteArray) (i : Nat) : Bool := numOk (wd_ ws i).data.toList
def sgn_ (ws : List ByteArray) (i : Nat) : Int := sgnV (wd_ ws i).data.toList
def sgnOk_ (ws : List ByteArray) (i : Nat) : Bool := sgnOk (wd_ ws i).data.toList
def errC : Cm := badC errT
def formC : Cm := badC formT
def keysOk (ks : List ByteArray) : Bool := ks.all keyB && decide (ks.length ≤ 64)
def getP (ws : List ByteArray) : Cm :=
  if ws.length < 2 then errC else if keysOk (ws.drop 1) = true then ⟨mk8 w_get, ⟨#[]⟩, ws.drop 1, ⟨#[]⟩, 0, 0, 0, 0, isW (wd_ ws 0) w_gets, false, false, false⟩ else formC
def gatP (ws : List ByteArray) : Cm :=
  if ws.length < 3 then errC else if keysOk (ws.drop 2) = true then
    (if sgnOk_ ws 1 = true then ⟨mk8 w_get, ⟨#[]⟩, ws.drop 2, ⟨#[]⟩, 0, sgn_ ws 1, 0, 0, isW (wd_ ws 0) w_gats, true, false, false⟩ else badC timeT) else formC
/-- Whether the last word may stand there; whether it asks for no answer. -/
def lastQ (ws : List ByteArray) (n : Nat) (z : Bool) : Bool := decide (ws.length = n + 1) && (isW (wd_ ws n) w_noreply)
def lastOk (ws : List ByteArray) (n : Nat) (z : Bool) : Bool := decide (ws.length = n) || decide (ws.length = n + 1) && (isW (wd_ ws n) w_noreply || (z && isW (wd_ ws n) w_zero))
def arithP (ws : List ByteArray) : Cm :=
  if lastOk ws 3 false = true then (if keyB (wd_ ws 1) = true then
    (if numOk_ ws 2 = true then ⟨mk8 [97, 114, 105, 116, 104], ⟨#[]⟩, [wd_ ws 1], ⟨#[]⟩, 0, 0, 0, num_ ws 2, false, false, isW (wd_ ws 0) w_decr, lastQ ws 3 false⟩ else badC deltaT) else formC) else errC
def touchP (ws : List ByteArray) : Cm :=
  if lastOk ws 3 false = true then (if keyB (wd_ ws 1) = true then
    (if sgnOk_ ws 2 = true then ⟨mk8 w_touch, ⟨#[]⟩, [wd_ ws 1], ⟨#[]⟩, 0, sgn_ ws 2, 0, 0, false, false, false, lastQ ws 3 false⟩ else badC timeT) else formC) else errC
def removeP (ws : List ByteArray) : Cm :=
  if lastOk ws 2 true = true then (if keyB (wd_ ws 1) = true then ⟨mk8 w_del_, ⟨#[]⟩, [wd_ ws 1], ⟨#[]⟩, 0, 0, 0, 0, false, false, false, lastQ ws 2 true⟩ else formC) else errC
def flushP (ws : List ByteArray) : Cm :=
  if lastOk ws 1 true = true then ⟨mk8 [102, 108, 117, 115, 104], ⟨#[]⟩, [], ⟨#[]⟩, 0, 0, 0, 0, false, false, false, lastQ ws 1 true⟩ else errC
def wordP (ws : List ByteArray) : Cm :=
  if ws.length = 1 then ⟨mk8 [119, 111, 114, 100], wd_ ws 0, [], ⟨#[]⟩, 0, 0, 0, 0, false, false, false, false⟩ else errC
def casB (ws : List ByteArray) : Bool := isW (wd_ ws 0) w_cas
/-- All numbers of a Store have their form. -/
def numsOk (ws : List ByteArray) : Bool := (((numOk_ ws 2 && decide (num_ ws 2 ≤ 4294967295)) && sgnOk_ ws 3) && (numOk_ ws 4 && decide (num_ ws 4 ≤ 2147483647))) && (if casB ws = true then numOk_ ws 5 else true)
def storeC (ws : List ByteArray) (n : Nat) : Cm := ⟨mk8 storeT, wd_ ws 0, [wd_ ws 1], ⟨#[]⟩, num_ ws 2, sgn_ ws 3, (if casB ws = true then num_ ws 5 else 0), 0, false, false, false, lastQ ws n false⟩
def storeP (ws : List ByteArray) (n : Nat) : Cm × Option Nat :=
  if lastOk ws n false = true then (if keyB (wd_ ws 1) = true then (if numsOk ws = true then
    (if 1024 < num_ ws 4 then (badC largeT, some (num_ ws 4)) else (storeC ws n, some (num_ ws 4))) else (formC, none)) else (formC, none)) else (errC, none)
def aloneP (ws : List ByteArray) : Cm :=
  let x := wd_ ws 0
  if (isW x w_get || isW x w_gets) = true then getP ws else
  if (isW x w_gat || isW x w_gats) = true then gatP ws else
  if (isW x w_incr || isW x w_decr) = true then arithP ws else
  if isW x w_touch = true then touchP ws else
  if isW x w_del_ = true then removeP ws else
  if isW x w_flush = true then flushP ws else
  if (isW x w_ver || isW x w_quit) = true then wordP ws else errC
def set5 (x : ByteArray) : Bool := isW x w_set || (isW x w_add || (isW x w_rep || (isW x w_app || isW x w_pre)))
def oneW (ws : List ByteArray) : Cm × Option Nat :=
  if ws.length = 0 then (errC, none) else
  if set5 (wd_ ws 0) = true then storeP ws 5 else
  if casB ws = true then storeP ws 6 else (aloneP ws, none)
def oneB (s : ByteArray) : Cm × Option Nat := oneW (wordsB s)
def oneP (l : List UInt8) : Cm × Option Nat := oneB (mk8 l)
/-- How many bytes follow, as a number. -/
def sizeI : Option Nat → Int
  | none => -1
  | some n => n
end Go.Proofs.Ytmfjaehajdephab

/-
  Good of a command that is written out; a row of one text.
-/
namespace Go.Proofs.Ytmfjaehajdephab
open Go.Shelf Go.RowKit Go.Deep
set_option linter.unusedVariables false
set_option linter.unusedSimpArgs false
set_option maxRecDepth 1000000

theorem good_is (c : Cm) (v : Bool) (hv : goodP c = v) (a : Option Addr) (n cap : Nat) (w : World) (h : StrsAt w a n c.keys) (hn : n ≤ 5000) (hs : c.data.size ≤ 140737488351232) :
    Calls Try.prog 65 #[cmV c (.slice a n cap)] w fun e w' => e = .returned (.bool v) ∧ Below w.heap.size w w' := hv ▸ good_any w a n cap c h hn hs
theorem one_strs (w : World) (k : ByteArray) (hk : k.size ≤ 140737488351232) : StrsAt (w.alloc (.cells #[.string k] 9)) (some ⟨w.heap.size, 0, none⟩) 1 [k] :=
  own_strs (own_one w k) (by intro x hx; simp only [List.mem_singleton] at hx; subst hx; exact hk)
end Go.Proofs.Ytmfjaehajdephab

/-
  The program's helpers of One: bad, last, upTo, checked.
-/
namespace Go.Proofs.Ytmfjaehajdephab
open Go.Shelf Go.RowKit Go.Deep
set_option linter.unusedVariables false
set_option linter.unusedSimpArgs false
set_option maxRecDepth 1000000

/-- A row of texts in a block of texts. -/
structure RowT (w : World) (a : Option Addr) (n : Nat) (xs : List ByteArray) : Prop where
  at_ : StrsAt w a n xs
  few : n ≤ 5000
  kind : ∀ x, a = some x → ∃ cs fz, w.heap[x.block]? = some (.cells cs 9 fz)
theorem RowT.nil {w : World} : RowT w none 0 [] := ⟨StrsAt.nil, by omega, fun x hx => by cases hx⟩
theorem RowT.later {w W : World} {a : Option Addr} {n : Nat} {xs : List ByteArray} (h : RowT w a n xs) (k : Below w.heap.size w W) : RowT W a n xs :=
  ⟨h.at_.later k, h.few, fun x hx => by
    obtain ⟨cs, fz, hc⟩ := h.kind x hx
    exact ⟨cs, fz, (k.block _ (Array.getElem?_eq_some_iff.1 hc).1).trans hc⟩⟩
theorem StrsAt.keepF {w W : World} {F : List Nat} {a : Option Addr} {n : Nat} {xs : List ByteArray} (h : StrsAt w a n xs) (hF : ∀ x, a = some x → x.block ∉ F) (k : Keep F w W) : StrsAt W a n xs :=
  ⟨h.len, h.fits, fun i x hx => by
    obtain ⟨b, o, ha, hb, hc⟩ := h.cell i x hx
    exact ⟨b, o, ha, Nat.lt_of_lt_of_le hb k.size, (World.cell?_of_block (k.block b hb (hF _ ha))).trans hc⟩⟩
theorem RowT.keepF {w W : World} {F : List Nat} {a : Option Addr} {n : Nat} {xs : List ByteArray} (h : RowT w a n xs) (hF : ∀ x, a = some x → x.block ∉ F) (k : Keep F w W) : RowT W a n xs :=
  ⟨h.at_.keepF hF k, h.few, fun x hx => by
    obtain ⟨cs, fz, hc⟩ := h.kind x hx
    exact ⟨cs, fz, (k.block _ (Array.getElem?_eq_some_iff.1 hc).1 (hF x hx)).trans hc⟩⟩
theorem own_row {W : World} {base n c : Nat} {a : Option Addr} {xs : List ByteArray} (h : W.ownsRow base 9 1 (.slice a n c) n (strC xs)) (hf : ∀ x ∈ xs, x.size ≤ 140737488351232) (hn : n ≤ 5000) : RowT W a n xs := by
  refine ⟨own_strs h hf, hn, fun x hx => ?_⟩
  rcases h.2 with ⟨hv, h0⟩ | ⟨g, cap, cur, hv, hb, hg, r⟩
  · simp only [Value.slice.injEq] at hv
    rw [hv.1] at hx; cases hx
  · simp only [Value.slice.injEq] at hv
    rw [hv.1] at hx; cases hx
    exact ⟨_, _, hg⟩
theorem wd_at {xs : List ByteArray} {i : Nat} {x : ByteArray} (h : xs[i]? = some x) : wd_ xs i = x := by unfold wd_; rw [h]; rfl
/-- A command that a call answered. -/
def CmR (w' : World) (v : Value) (c : Cm) : Prop := ∃ a n cap, v = cmV c (.slice a n cap) ∧ RowT w' a n c.keys
def badV (t : ByteArray) : Cm := ⟨⟨#[98, 97, 100]⟩, t, [], ⟨#[]⟩, 0, 0, 0, 0, false, false, false, false⟩
theorem badC_eq (l : List UInt8) : badC l = badV ⟨l.toArray⟩ := rfl

theorem bad_any (t : ByteArray) (w : World) : Calls Try.prog 35 #[.string t] w fun e w' => e = .returned (cmV (badV t) (.slice none 0 0)) ∧ Below w.heap.size w w' := by
  have B := Below.refl w.heap.size w
  go_enter Try.func35, Try.ntmps35
  go_wp2
  go_returns
  exact ⟨rfl, by go_grown⟩
theorem upTo_any (s : ByteArray) (m : Nat) (hm : m ≤ 18446744073709551615) (w : World) : Calls Try.prog 49 #[.string s, .int .u64 (m : Int)] w fun e w' =>
    e = .returned (.tuple #[.int .u64 (numV s.data.toList), .bool (numOk s.data.toList && decide (numV s.data.toList ≤ m))]) ∧ Below w.heap.size w w' := by
  have h1 := numV_le s.data.toList
  have H := hide (number_any s w)
  generalize numV s.data.toList = k at *
  cases hk : numOk s.data.toList with
  | false =>
    rw [hk] at H
    clear hk
    go_enter Try.func49, Try.ntmps49
    go_wp2_with fail
    refine H.out.mono ?_
    rintro e w' ⟨rfl, hb⟩
    go_wp2
    go_ret2
    exact ⟨rfl, hb⟩
  | true =>
    rw [hk] at H
    clear hk
    go_enter Try.func49, Try.ntmps49
    go_wp2_with fail
    refine H.out.mono ?_
    rintro e w' ⟨rfl, hb⟩
    go_wp2
    go_ret2
    refine ⟨?_, hb⟩
    simp
abbrev cmO (c : Cm) (v : Value) : Obj := .cells #[.string c.what, .string c.verb, v, .string c.data, .int .u32 c.fl, .int .i64 c.ex, .int .u64 c.cs, .int .u64 c.y, .bool c.wc, .bool c.wt, .bool c.dn, .bool c.q] 33
def cmZ : Cm := ⟨⟨#[]⟩, ⟨#[]⟩, [], ⟨#[]⟩, 0, 0, 0, 0, false, false, false, false⟩
/-- A command as it lies in a block: its cells. -/
structure CmAt (w : World) (b : Nat) (c : Cm) (v : Value) : Prop where
  c0 : w.cell? ⟨b, 0, none⟩ = some (.string c.what)
  c1 : w.cell? ⟨b, 1, none⟩ = some (.string c.verb)
  c2 : w.cell? ⟨b, 2, none⟩ = some v
  c3 : w.cell? ⟨b, 3, none⟩ = some (.string c.data)
  c4 : w.cell? ⟨b, 4, none⟩ = some (.int .u32 c.fl)
  c5 : w.cell? ⟨b, 5, none⟩ = some (.int .i64 c.ex)
  c6 : w.cell? ⟨b, 6, none⟩ = some (.int .u64 c.cs)
  c7 : w.cell? ⟨b, 7, none⟩ = some (.int .u64 c.y)
  c8 : w.cell? ⟨b, 8, none⟩ = some (.bool c.wc)
  c9 : w.cell? ⟨b, 9, none⟩ = some (.bool c.wt)
  c10 : w.cell? ⟨b, 10, none⟩ = some (.bool c.dn)
  c11 : w.cell? ⟨b, 11, none⟩ = some (.bool c.q)
theorem CmAt.of {w : World} {b : Nat} {c : Cm} {v : Value} (h : w.heap[b]? = some (cmO c v)) : CmAt w b c v := by
  constructor <;> simp [World.cell?, h]
/-- None of its cells is frozen. -/
structure CmFz (w : World) (b : Nat) : Prop where
  f0 : w.frozen? ⟨b, 0, none⟩ = false
  f1 : w.frozen? ⟨b, 1, none⟩ = false
  f2 : w.frozen? ⟨b, 2, none⟩ = false
  f3 : w.frozen? ⟨b, 3, none⟩ = false
  f4 : w.frozen? ⟨b, 4, none⟩ = false
  f5 : w.frozen? ⟨b, 5, none⟩ = false
  f6 : w.frozen? ⟨b, 6, none⟩ = false
  f7 : w.frozen? ⟨b, 7, none⟩ = false
  f8 : w.frozen? ⟨b, 8, none⟩ = false
  f9 : w.frozen? ⟨b, 9, none⟩ = false
  f10 : w.frozen? ⟨b, 10, none⟩ = false
  f11 : w.frozen? ⟨b, 11, none⟩ = false
theorem CmFz.of {w : World} {b : Nat} {c : Cm} {v : Value} (h : w.heap[b]? = some (cmO c v)) : CmFz w b := by
  constructor <;> simp [World.frozen?, h]
/-- The cells of a command. -/
abbrev cmL (c : Cm) (v : Value) : List Value := [.string c.what, .string c.verb, v, .string c.data, .int .u32 c.fl, .int .i64 c.ex, .int .u64 c.cs, .int .u64 c.y, .bool c.wc, .bool c.wt, .bool c.dn, .bool c.q]
theorem heap_cm {w : World} {b : Nat} {c0 : Cm} {v0 : Value} (h : w.heap[b]? = some (cmO c0 v0)) (c : Cm) (v : Value) : (w.setCells b 0 (cmL c v)).heap[b]? = some (cmO c v) :=
  Blk.sets (cmL c v) [] (cmL c0 v0) [] w rfl h
theorem keep_cm (w : World) (b : Nat) (c : Cm) (v : Value) : Keep [b] w (w.setCells b 0 (cmL c v)) := (Keep.refl _ _).setCells (.inl (by simp)) _ _
theorem below_cm {w0 w : World} {b : Nat} (h : Below w0.heap.size w0 w) (hb : w0.heap.size ≤ b) (c : Cm) (v : Value) : Below w0.heap.size w0 (w.setCells b 0 (cmL c v)) :=
  h.trans ((keep_cm w b c v).below (by simp; omega) h.size)
theorem size27 : (Try.prog.info? 33).map (·.size) = some 12 := by kernel_rfl
/-- A function that answers a command. -/
theorem ret_cm {f : Func} {k : Tmp} (hres : f.results = #[.cell k 33]) {a : Act} {w : World} {R : Ending → World → Prop} (b : Nat) (c : Cm) (v : Value)
    (hp : a.tmps.getD k undef = .pointer (some ⟨b, 0, none⟩)) (h : w.heap[b]? = some (cmO c v)) (hd : a.defers = []) (hR : R (.returned (cmV c v)) w) : bodyPost Try.prog f R .ret a w := by
  exact bodyPost_ret (results_cell_row hres a.tmps w b 33 _ (0, 0) _ hp h Try.underlying33 rfl size27) hd hR
theorem ret_cm2 {f : Func} {k u : Tmp} (hres : f.results = #[.cell k 33, .tmp u]) {a : Act} {w : World} {R : Ending → World → Prop} (b : Nat) (c : Cm) (v : Value)
    (hp : a.tmps.getD k undef = .pointer (some ⟨b, 0, none⟩)) (h : w.heap[b]? = some (cmO c v)) (hd : a.defers = []) (hR : R (.returned (.tuple #[cmV c v, a.tmps.getD u undef])) w) : bodyPost Try.prog f R .ret a w := by
  refine bodyPost_ret ?_ hd hR
  rw [results_cell_tmp hres]
  have hp' : a.tmps[k]?.getD undef = .pointer (some ⟨b, 0, none⟩) := by simpa using hp
  simp [hp', asAddr, run_loadVar_row w b 33 33 _ (0, 0) _ h Try.underlying33 rfl size27]
theorem heap_at2 (w : World) (o1 o2 : Obj) : ((w.alloc o1).alloc o2).heap[w.heap.size]? = some o1 ∧ ((w.alloc o1).alloc o2).heap[w.heap.size + 1]? = some o2 := by
  constructor
  · show ((w.heap.push o1).push o2)[w.heap.size]? = _
    rw [Array.getElem?_push, if_neg (by simp), Array.getElem?_push, if_pos rfl]
  · show ((w.heap.push o1).push o2)[w.heap.size + 1]? = _
    rw [Array.getElem?_push, if_pos (by simp)]
theorem checked_ok (c : Cm) (a : Option Addr) (n cap : Nat) (b : Bool) (t : ByteArray) (w : World) (h : StrsAt w a n c.keys) (hn : n ≤ 5000) (hs : c.data.size ≤ 140737488351232) (hg : goodP c = true) (hb : b = true) :
    Calls Try.prog 52 #[cmV c (.slice a n cap), .bool b, .string t] w fun e w' => e = .returned (cmV c (.slice a n cap)) ∧ Below w.heap.size w w' := by
  subst hb
  have B := ((Below.refl w.heap.size w).alloc (Nat.le_refl _) (cmO c (.slice a n cap))).alloc (by simp only [World.size_alloc]; omega) (cmO cmZ (.slice none 0 0))
  have hsz : ((w.alloc (cmO c (.slice a n cap))).alloc (cmO cmZ (.slice none 0 0))).heap.size = w.heap.size + 1 + 1 := by simp only [World.size_alloc]
  obtain ⟨e1, e2⟩ := heap_at2 w (cmO c (.slice a n cap)) (cmO cmZ (.slice none 0 0))
  have H := hide (good_is c true hg a n cap _ (h.later B) hn hs)
  go_enter Try.func52, Try.ntmps52
  go_wp2_with fail
  refine H.out.mono ?_
  rintro e w' ⟨rfl, hb⟩
  have B2 := B.trans (hb.mono B.size)
  replace e1 := (hb.block _ (by rw [hsz]; omega)).trans e1
  replace e2 := (hb.block _ (by rw [hsz]; omega)).trans e2
  clear hb H hg
  obtain ⟨d0, d1, d2, d3, d4, d5, d6, d7, d8, d9, d10, d11⟩ := CmAt.of e1
  obtain ⟨p0, p1, p2, p3, p4, p5, p6, p7, p8, p9, p10, p11⟩ := CmAt.of e2
  obtain ⟨f0, f1, f2, f3, f4, f5, f6, f7, f8, f9, f10, f11⟩ := CmFz.of e2
  have H2 := hide (fun c v => heap_cm e2 c v)
  clear e1 e2 h B hsz
  go_wp2
  exact ret_cm rfl (w.heap.size + 1) c (.slice a n cap) rfl (H2.out c (.slice a n cap)) rfl ⟨rfl, below_cm B2 (by omega) c (.slice a n cap)⟩
end Go.Proofs.Ytmfjaehajdephab
