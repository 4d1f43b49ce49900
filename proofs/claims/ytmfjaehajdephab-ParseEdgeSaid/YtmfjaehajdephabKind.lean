/-
  What a command of each kind looks like as a value of an interface, and what each type assertion and each 'is' says of it.
-/
import Derived.Test.YtmfjaehajdephabJN
namespace Go.Proofs.Ytmfjaehajdephab
open Go.Shelf Go.RowKit
set_option linter.unusedVariables false

theorem mk44 (x : Value) (w : World) : (Instr.makeInterface 94 x).run Try.prog w = .ok (.iface 94 x) w := run_makeInterface w 94 x (by kernel_rfl)
theorem as44 (v : Value) (w : World) : (Instr.typeAssert (.iface 94 v) 20 94 false).run Try.prog w = .ok v w := by kernel_rfl
theorem ask44 (v : Value) (w : World) : (Instr.typeAssert (.iface 94 v) 20 94 true).run Try.prog w = .ok (.tuple #[v, .bool true]) w := by kernel_rfl
theorem askn44 (w : World) : (Instr.typeAssert .nilIface 20 94 true).run Try.prog w = .ok (.tuple #[(.agg #[.slice none 0 0, .bool false, .bool false, .int .i64 0]), .bool false]) w := by kernel_rfl
theorem zr44 (w : World) : (do pure (Value.tuple #[← zeroValue 94, .bool false]) : Sem Value).run Try.prog w = .ok (.tuple #[(.agg #[.slice none 0 0, .bool false, .bool false, .int .i64 0]), .bool false]) w := by kernel_rfl
theorem asko44 (u : TypeId) (v : Value) (w : World) (h : u ≠ 94) : (Instr.typeAssert (.iface u v) 20 94 true).run Try.prog w = .ok (.tuple #[(.agg #[.slice none 0 0, .bool false, .bool false, .int .i64 0]), .bool false]) w := by
  have e : (Instr.typeAssert (.iface u v) 20 94 true).run Try.prog w = (if u = 94 then (pure (Value.tuple #[v, .bool true]) : Sem Value) else (do pure (Value.tuple #[← zeroValue 94, .bool false]))).run Try.prog w := by kernel_rfl
  rw [e, if_neg h]
  exact zr44 w
theorem is44_yes (a : Option Addr) (len cap : Nat) (c t : Bool) (x : Int) (w : World) : Calls Try.prog 70 #[.iface 94 (.agg #[.slice a len cap, .bool c, .bool t, .int .i64 x])] w fun e w' => e = .returned (.bool true) ∧ Below w.heap.size w w' := by
  have h1 := ask44 (.agg #[.slice a len cap, .bool c, .bool t, .int .i64 x])
  go_enter Try.func70, Try.ntmps70
  go_wp2
  go_ret
  exact ⟨rfl, (Below.refl _ _).alloc (Nat.le_refl _) _⟩
theorem is44_no (u : TypeId) (v : Value) (h : u ≠ 94) (w : World) : Calls Try.prog 70 #[.iface u v] w fun e w' => e = .returned (.bool false) ∧ Below w.heap.size w w' := by
  have h1 := fun w => asko44 u v w h
  go_enter Try.func70, Try.ntmps70
  go_wp2
  go_ret
  exact ⟨rfl, (Below.refl _ _).alloc (Nat.le_refl _) _⟩
theorem is44_nil (w : World) : Calls Try.prog 70 #[.nilIface] w fun e w' => e = .returned (.bool false) ∧ Below w.heap.size w w' := by
  have h1 := askn44
  go_enter Try.func70, Try.ntmps70
  go_wp2
  go_ret
  exact ⟨rfl, (Below.refl _ _).alloc (Nat.le_refl _) _⟩
theorem mk47 (x : Value) (w : World) : (Instr.makeInterface 97 x).run Try.prog w = .ok (.iface 97 x) w := run_makeInterface w 97 x (by kernel_rfl)
theorem as47 (v : Value) (w : World) : (Instr.typeAssert (.iface 97 v) 20 97 false).run Try.prog w = .ok v w := by kernel_rfl
theorem ask47 (v : Value) (w : World) : (Instr.typeAssert (.iface 97 v) 20 97 true).run Try.prog w = .ok (.tuple #[v, .bool true]) w := by kernel_rfl
theorem askn47 (w : World) : (Instr.typeAssert .nilIface 20 97 true).run Try.prog w = .ok (.tuple #[(.agg #[.string ByteArray.empty, .string ByteArray.empty, .string ByteArray.empty, .int .u32 0, .int .i64 0, .int .u64 0, .bool false]), .bool false]) w := by kernel_rfl
theorem zr47 (w : World) : (do pure (Value.tuple #[← zeroValue 97, .bool false]) : Sem Value).run Try.prog w = .ok (.tuple #[(.agg #[.string ByteArray.empty, .string ByteArray.empty, .string ByteArray.empty, .int .u32 0, .int .i64 0, .int .u64 0, .bool false]), .bool false]) w := by kernel_rfl
theorem asko47 (u : TypeId) (v : Value) (w : World) (h : u ≠ 97) : (Instr.typeAssert (.iface u v) 20 97 true).run Try.prog w = .ok (.tuple #[(.agg #[.string ByteArray.empty, .string ByteArray.empty, .string ByteArray.empty, .int .u32 0, .int .i64 0, .int .u64 0, .bool false]), .bool false]) w := by
  have e : (Instr.typeAssert (.iface u v) 20 97 true).run Try.prog w = (if u = 97 then (pure (Value.tuple #[v, .bool true]) : Sem Value) else (do pure (Value.tuple #[← zeroValue 97, .bool false]))).run Try.prog w := by kernel_rfl
  rw [e, if_neg h]
  exact zr47 w
theorem is47_yes (v k d : ByteArray) (f x s : Int) (q : Bool) (w : World) : Calls Try.prog 74 #[.iface 97 (.agg #[.string v, .string k, .string d, .int .u32 f, .int .i64 x, .int .u64 s, .bool q])] w fun e w' => e = .returned (.bool true) ∧ Below w.heap.size w w' := by
  have h1 := ask47 (.agg #[.string v, .string k, .string d, .int .u32 f, .int .i64 x, .int .u64 s, .bool q])
  go_enter Try.func74, Try.ntmps74
  go_wp2
  go_ret
  exact ⟨rfl, (Below.refl _ _).alloc (Nat.le_refl _) _⟩
theorem is47_no (u : TypeId) (v : Value) (h : u ≠ 97) (w : World) : Calls Try.prog 74 #[.iface u v] w fun e w' => e = .returned (.bool false) ∧ Below w.heap.size w w' := by
  have h1 := fun w => asko47 u v w h
  go_enter Try.func74, Try.ntmps74
  go_wp2
  go_ret
  exact ⟨rfl, (Below.refl _ _).alloc (Nat.le_refl _) _⟩
theorem is47_nil (w : World) : Calls Try.prog 74 #[.nilIface] w fun e w' => e = .returned (.bool false) ∧ Below w.heap.size w w' := by
  have h1 := askn47
  go_enter Try.func74, Try.ntmps74
  go_wp2
  go_ret
  exact ⟨rfl, (Below.refl _ _).alloc (Nat.le_refl _) _⟩
theorem mk50 (x : Value) (w : World) : (Instr.makeInterface 99 x).run Try.prog w = .ok (.iface 99 x) w := run_makeInterface w 99 x (by kernel_rfl)
theorem as50 (v : Value) (w : World) : (Instr.typeAssert (.iface 99 v) 20 99 false).run Try.prog w = .ok v w := by kernel_rfl
theorem ask50 (v : Value) (w : World) : (Instr.typeAssert (.iface 99 v) 20 99 true).run Try.prog w = .ok (.tuple #[v, .bool true]) w := by kernel_rfl
theorem askn50 (w : World) : (Instr.typeAssert .nilIface 20 99 true).run Try.prog w = .ok (.tuple #[(.agg #[.string ByteArray.empty, .int .u64 0, .bool false, .bool false]), .bool false]) w := by kernel_rfl
theorem zr50 (w : World) : (do pure (Value.tuple #[← zeroValue 99, .bool false]) : Sem Value).run Try.prog w = .ok (.tuple #[(.agg #[.string ByteArray.empty, .int .u64 0, .bool false, .bool false]), .bool false]) w := by kernel_rfl
theorem asko50 (u : TypeId) (v : Value) (w : World) (h : u ≠ 99) : (Instr.typeAssert (.iface u v) 20 99 true).run Try.prog w = .ok (.tuple #[(.agg #[.string ByteArray.empty, .int .u64 0, .bool false, .bool false]), .bool false]) w := by
  have e : (Instr.typeAssert (.iface u v) 20 99 true).run Try.prog w = (if u = 99 then (pure (Value.tuple #[v, .bool true]) : Sem Value) else (do pure (Value.tuple #[← zeroValue 99, .bool false]))).run Try.prog w := by kernel_rfl
  rw [e, if_neg h]
  exact zr50 w
theorem is50_yes (k : ByteArray) (y : Int) (d q : Bool) (w : World) : Calls Try.prog 76 #[.iface 99 (.agg #[.string k, .int .u64 y, .bool d, .bool q])] w fun e w' => e = .returned (.bool true) ∧ Below w.heap.size w w' := by
  have h1 := ask50 (.agg #[.string k, .int .u64 y, .bool d, .bool q])
  go_enter Try.func76, Try.ntmps76
  go_wp2
  go_ret
  exact ⟨rfl, (Below.refl _ _).alloc (Nat.le_refl _) _⟩
theorem is50_no (u : TypeId) (v : Value) (h : u ≠ 99) (w : World) : Calls Try.prog 76 #[.iface u v] w fun e w' => e = .returned (.bool false) ∧ Below w.heap.size w w' := by
  have h1 := fun w => asko50 u v w h
  go_enter Try.func76, Try.ntmps76
  go_wp2
  go_ret
  exact ⟨rfl, (Below.refl _ _).alloc (Nat.le_refl _) _⟩
theorem is50_nil (w : World) : Calls Try.prog 76 #[.nilIface] w fun e w' => e = .returned (.bool false) ∧ Below w.heap.size w w' := by
  have h1 := askn50
  go_enter Try.func76, Try.ntmps76
  go_wp2
  go_ret
  exact ⟨rfl, (Below.refl _ _).alloc (Nat.le_refl _) _⟩
theorem mk52 (x : Value) (w : World) : (Instr.makeInterface 101 x).run Try.prog w = .ok (.iface 101 x) w := run_makeInterface w 101 x (by kernel_rfl)
theorem as52 (v : Value) (w : World) : (Instr.typeAssert (.iface 101 v) 20 101 false).run Try.prog w = .ok v w := by kernel_rfl
theorem ask52 (v : Value) (w : World) : (Instr.typeAssert (.iface 101 v) 20 101 true).run Try.prog w = .ok (.tuple #[v, .bool true]) w := by kernel_rfl
theorem askn52 (w : World) : (Instr.typeAssert .nilIface 20 101 true).run Try.prog w = .ok (.tuple #[(.agg #[.string ByteArray.empty, .int .i64 0, .bool false]), .bool false]) w := by kernel_rfl
theorem zr52 (w : World) : (do pure (Value.tuple #[← zeroValue 101, .bool false]) : Sem Value).run Try.prog w = .ok (.tuple #[(.agg #[.string ByteArray.empty, .int .i64 0, .bool false]), .bool false]) w := by kernel_rfl
theorem asko52 (u : TypeId) (v : Value) (w : World) (h : u ≠ 101) : (Instr.typeAssert (.iface u v) 20 101 true).run Try.prog w = .ok (.tuple #[(.agg #[.string ByteArray.empty, .int .i64 0, .bool false]), .bool false]) w := by
  have e : (Instr.typeAssert (.iface u v) 20 101 true).run Try.prog w = (if u = 101 then (pure (Value.tuple #[v, .bool true]) : Sem Value) else (do pure (Value.tuple #[← zeroValue 101, .bool false]))).run Try.prog w := by kernel_rfl
  rw [e, if_neg h]
  exact zr52 w
theorem is52_yes (k : ByteArray) (x : Int) (q : Bool) (w : World) : Calls Try.prog 77 #[.iface 101 (.agg #[.string k, .int .i64 x, .bool q])] w fun e w' => e = .returned (.bool true) ∧ Below w.heap.size w w' := by
  have h1 := ask52 (.agg #[.string k, .int .i64 x, .bool q])
  go_enter Try.func77, Try.ntmps77
  go_wp2
  go_ret
  exact ⟨rfl, (Below.refl _ _).alloc (Nat.le_refl _) _⟩
theorem is52_no (u : TypeId) (v : Value) (h : u ≠ 101) (w : World) : Calls Try.prog 77 #[.iface u v] w fun e w' => e = .returned (.bool false) ∧ Below w.heap.size w w' := by
  have h1 := fun w => asko52 u v w h
  go_enter Try.func77, Try.ntmps77
  go_wp2
  go_ret
  exact ⟨rfl, (Below.refl _ _).alloc (Nat.le_refl _) _⟩
theorem is52_nil (w : World) : Calls Try.prog 77 #[.nilIface] w fun e w' => e = .returned (.bool false) ∧ Below w.heap.size w w' := by
  have h1 := askn52
  go_enter Try.func77, Try.ntmps77
  go_wp2
  go_ret
  exact ⟨rfl, (Below.refl _ _).alloc (Nat.le_refl _) _⟩
theorem mk54 (x : Value) (w : World) : (Instr.makeInterface 103 x).run Try.prog w = .ok (.iface 103 x) w := run_makeInterface w 103 x (by kernel_rfl)
theorem as54 (v : Value) (w : World) : (Instr.typeAssert (.iface 103 v) 20 103 false).run Try.prog w = .ok v w := by kernel_rfl
theorem ask54 (v : Value) (w : World) : (Instr.typeAssert (.iface 103 v) 20 103 true).run Try.prog w = .ok (.tuple #[v, .bool true]) w := by kernel_rfl
theorem askn54 (w : World) : (Instr.typeAssert .nilIface 20 103 true).run Try.prog w = .ok (.tuple #[(.agg #[.string ByteArray.empty, .bool false]), .bool false]) w := by kernel_rfl
theorem zr54 (w : World) : (do pure (Value.tuple #[← zeroValue 103, .bool false]) : Sem Value).run Try.prog w = .ok (.tuple #[(.agg #[.string ByteArray.empty, .bool false]), .bool false]) w := by kernel_rfl
theorem asko54 (u : TypeId) (v : Value) (w : World) (h : u ≠ 103) : (Instr.typeAssert (.iface u v) 20 103 true).run Try.prog w = .ok (.tuple #[(.agg #[.string ByteArray.empty, .bool false]), .bool false]) w := by
  have e : (Instr.typeAssert (.iface u v) 20 103 true).run Try.prog w = (if u = 103 then (pure (Value.tuple #[v, .bool true]) : Sem Value) else (do pure (Value.tuple #[← zeroValue 103, .bool false]))).run Try.prog w := by kernel_rfl
  rw [e, if_neg h]
  exact zr54 w
theorem is54_yes (k : ByteArray) (q : Bool) (w : World) : Calls Try.prog 78 #[.iface 103 (.agg #[.string k, .bool q])] w fun e w' => e = .returned (.bool true) ∧ Below w.heap.size w w' := by
  have h1 := ask54 (.agg #[.string k, .bool q])
  go_enter Try.func78, Try.ntmps78
  go_wp2
  go_ret
  exact ⟨rfl, (Below.refl _ _).alloc (Nat.le_refl _) _⟩
theorem is54_no (u : TypeId) (v : Value) (h : u ≠ 103) (w : World) : Calls Try.prog 78 #[.iface u v] w fun e w' => e = .returned (.bool false) ∧ Below w.heap.size w w' := by
  have h1 := fun w => asko54 u v w h
  go_enter Try.func78, Try.ntmps78
  go_wp2
  go_ret
  exact ⟨rfl, (Below.refl _ _).alloc (Nat.le_refl _) _⟩
theorem is54_nil (w : World) : Calls Try.prog 78 #[.nilIface] w fun e w' => e = .returned (.bool false) ∧ Below w.heap.size w w' := by
  have h1 := askn54
  go_enter Try.func78, Try.ntmps78
  go_wp2
  go_ret
  exact ⟨rfl, (Below.refl _ _).alloc (Nat.le_refl _) _⟩
theorem mk56 (x : Value) (w : World) : (Instr.makeInterface 107 x).run Try.prog w = .ok (.iface 107 x) w := run_makeInterface w 107 x (by kernel_rfl)
theorem as56 (v : Value) (w : World) : (Instr.typeAssert (.iface 107 v) 20 107 false).run Try.prog w = .ok v w := by kernel_rfl
theorem ask56 (v : Value) (w : World) : (Instr.typeAssert (.iface 107 v) 20 107 true).run Try.prog w = .ok (.tuple #[v, .bool true]) w := by kernel_rfl
theorem askn56 (w : World) : (Instr.typeAssert .nilIface 20 107 true).run Try.prog w = .ok (.tuple #[(.agg #[.bool false]), .bool false]) w := by kernel_rfl
theorem zr56 (w : World) : (do pure (Value.tuple #[← zeroValue 107, .bool false]) : Sem Value).run Try.prog w = .ok (.tuple #[(.agg #[.bool false]), .bool false]) w := by kernel_rfl
theorem asko56 (u : TypeId) (v : Value) (w : World) (h : u ≠ 107) : (Instr.typeAssert (.iface u v) 20 107 true).run Try.prog w = .ok (.tuple #[(.agg #[.bool false]), .bool false]) w := by
  have e : (Instr.typeAssert (.iface u v) 20 107 true).run Try.prog w = (if u = 107 then (pure (Value.tuple #[v, .bool true]) : Sem Value) else (do pure (Value.tuple #[← zeroValue 107, .bool false]))).run Try.prog w := by kernel_rfl
  rw [e, if_neg h]
  exact zr56 w
theorem is56_yes (q : Bool) (w : World) : Calls Try.prog 81 #[.iface 107 (.agg #[.bool q])] w fun e w' => e = .returned (.bool true) ∧ Below w.heap.size w w' := by
  have h1 := ask56 (.agg #[.bool q])
  go_enter Try.func81, Try.ntmps81
  go_wp2
  go_ret
  exact ⟨rfl, (Below.refl _ _).alloc (Nat.le_refl _) _⟩
theorem is56_no (u : TypeId) (v : Value) (h : u ≠ 107) (w : World) : Calls Try.prog 81 #[.iface u v] w fun e w' => e = .returned (.bool false) ∧ Below w.heap.size w w' := by
  have h1 := fun w => asko56 u v w h
  go_enter Try.func81, Try.ntmps81
  go_wp2
  go_ret
  exact ⟨rfl, (Below.refl _ _).alloc (Nat.le_refl _) _⟩
theorem is56_nil (w : World) : Calls Try.prog 81 #[.nilIface] w fun e w' => e = .returned (.bool false) ∧ Below w.heap.size w w' := by
  have h1 := askn56
  go_enter Try.func81, Try.ntmps81
  go_wp2
  go_ret
  exact ⟨rfl, (Below.refl _ _).alloc (Nat.le_refl _) _⟩
theorem mk58 (x : Value) (w : World) : (Instr.makeInterface 112 x).run Try.prog w = .ok (.iface 112 x) w := run_makeInterface w 112 x (by kernel_rfl)
theorem as58 (v : Value) (w : World) : (Instr.typeAssert (.iface 112 v) 20 112 false).run Try.prog w = .ok v w := by kernel_rfl
theorem ask58 (v : Value) (w : World) : (Instr.typeAssert (.iface 112 v) 20 112 true).run Try.prog w = .ok (.tuple #[v, .bool true]) w := by kernel_rfl
theorem askn58 (w : World) : (Instr.typeAssert .nilIface 20 112 true).run Try.prog w = .ok (.tuple #[(.agg #[.string ByteArray.empty]), .bool false]) w := by kernel_rfl
theorem zr58 (w : World) : (do pure (Value.tuple #[← zeroValue 112, .bool false]) : Sem Value).run Try.prog w = .ok (.tuple #[(.agg #[.string ByteArray.empty]), .bool false]) w := by kernel_rfl
theorem asko58 (u : TypeId) (v : Value) (w : World) (h : u ≠ 112) : (Instr.typeAssert (.iface u v) 20 112 true).run Try.prog w = .ok (.tuple #[(.agg #[.string ByteArray.empty]), .bool false]) w := by
  have e : (Instr.typeAssert (.iface u v) 20 112 true).run Try.prog w = (if u = 112 then (pure (Value.tuple #[v, .bool true]) : Sem Value) else (do pure (Value.tuple #[← zeroValue 112, .bool false]))).run Try.prog w := by kernel_rfl
  rw [e, if_neg h]
  exact zr58 w
theorem mk60 (x : Value) (w : World) : (Instr.makeInterface 105 x).run Try.prog w = .ok (.iface 105 x) w := run_makeInterface w 105 x (by kernel_rfl)
theorem as60 (v : Value) (w : World) : (Instr.typeAssert (.iface 105 v) 20 105 false).run Try.prog w = .ok v w := by kernel_rfl
theorem ask60 (v : Value) (w : World) : (Instr.typeAssert (.iface 105 v) 20 105 true).run Try.prog w = .ok (.tuple #[v, .bool true]) w := by kernel_rfl
theorem askn60 (w : World) : (Instr.typeAssert .nilIface 20 105 true).run Try.prog w = .ok (.tuple #[(.agg #[.string ByteArray.empty]), .bool false]) w := by kernel_rfl
theorem zr60 (w : World) : (do pure (Value.tuple #[← zeroValue 105, .bool false]) : Sem Value).run Try.prog w = .ok (.tuple #[(.agg #[.string ByteArray.empty]), .bool false]) w := by kernel_rfl
theorem asko60 (u : TypeId) (v : Value) (w : World) (h : u ≠ 105) : (Instr.typeAssert (.iface u v) 20 105 true).run Try.prog w = .ok (.tuple #[(.agg #[.string ByteArray.empty]), .bool false]) w := by
  have e : (Instr.typeAssert (.iface u v) 20 105 true).run Try.prog w = (if u = 105 then (pure (Value.tuple #[v, .bool true]) : Sem Value) else (do pure (Value.tuple #[← zeroValue 105, .bool false]))).run Try.prog w := by kernel_rfl
  rw [e, if_neg h]
  exact zr60 w
theorem is60_yes (k : ByteArray) (w : World) : Calls Try.prog 79 #[.iface 105 (.agg #[.string k])] w fun e w' => e = .returned (.bool true) ∧ Below w.heap.size w w' := by
  have h1 := ask60 (.agg #[.string k])
  go_enter Try.func79, Try.ntmps79
  go_wp2
  go_ret
  exact ⟨rfl, (Below.refl _ _).alloc (Nat.le_refl _) _⟩
theorem is60_no (u : TypeId) (v : Value) (h : u ≠ 105) (w : World) : Calls Try.prog 79 #[.iface u v] w fun e w' => e = .returned (.bool false) ∧ Below w.heap.size w w' := by
  have h1 := fun w => asko60 u v w h
  go_enter Try.func79, Try.ntmps79
  go_wp2
  go_ret
  exact ⟨rfl, (Below.refl _ _).alloc (Nat.le_refl _) _⟩
theorem is60_nil (w : World) : Calls Try.prog 79 #[.nilIface] w fun e w' => e = .returned (.bool false) ∧ Below w.heap.size w w' := by
  have h1 := askn60
  go_enter Try.func79, Try.ntmps79
  go_wp2
  go_ret
  exact ⟨rfl, (Below.refl _ _).alloc (Nat.le_refl _) _⟩
end Go.Proofs.Ytmfjaehajdephab