/-
  What a command of each kind looks like as a value of an interface, and what each type assertion and each 'is' says of it.
-/
import Derived.Test.YtofjadgnkpcaeaaRunes
namespace Go.Proofs.Ytofjadgnkpcaeaa
open Go.Shelf Go.RowKit
set_option linter.unusedVariables false

theorem mk44 (x : Value) (w : World) : (Instr.makeInterface 44 x).run Try.prog w = .ok (.iface 44 x) w := run_makeInterface w 44 x (by kernel_rfl)
theorem as44 (v : Value) (w : World) : (Instr.typeAssert (.iface 44 v) 20 44 false).run Try.prog w = .ok v w := by kernel_rfl
theorem ask44 (v : Value) (w : World) : (Instr.typeAssert (.iface 44 v) 20 44 true).run Try.prog w = .ok (.tuple #[v, .bool true]) w := by kernel_rfl
theorem askn44 (w : World) : (Instr.typeAssert .nilIface 20 44 true).run Try.prog w = .ok (.tuple #[(.agg #[.slice none 0 0, .bool false, .bool false, .int .i64 0]), .bool false]) w := by kernel_rfl
theorem zr44 (w : World) : (do pure (Value.tuple #[← zeroValue 44, .bool false]) : Sem Value).run Try.prog w = .ok (.tuple #[(.agg #[.slice none 0 0, .bool false, .bool false, .int .i64 0]), .bool false]) w := by kernel_rfl
theorem asko44 (u : TypeId) (v : Value) (w : World) (h : u ≠ 44) : (Instr.typeAssert (.iface u v) 20 44 true).run Try.prog w = .ok (.tuple #[(.agg #[.slice none 0 0, .bool false, .bool false, .int .i64 0]), .bool false]) w := by
  have e : (Instr.typeAssert (.iface u v) 20 44 true).run Try.prog w = (if u = 44 then (pure (Value.tuple #[v, .bool true]) : Sem Value) else (do pure (Value.tuple #[← zeroValue 44, .bool false]))).run Try.prog w := by kernel_rfl
  rw [e, if_neg h]
  exact zr44 w
theorem is44_yes (a : Option Addr) (len cap : Nat) (c t : Bool) (x : Int) (w : World) : Calls Try.prog 19 #[.iface 44 (.agg #[.slice a len cap, .bool c, .bool t, .int .i64 x])] w fun e w' => e = .returned (.bool true) ∧ Below w.heap.size w w' := by
  have h1 := ask44 (.agg #[.slice a len cap, .bool c, .bool t, .int .i64 x])
  go_enter Try.func19, Try.ntmps19
  go_wp2
  go_ret
  exact ⟨rfl, (Below.refl _ _).alloc (Nat.le_refl _) _⟩
theorem is44_no (u : TypeId) (v : Value) (h : u ≠ 44) (w : World) : Calls Try.prog 19 #[.iface u v] w fun e w' => e = .returned (.bool false) ∧ Below w.heap.size w w' := by
  have h1 := fun w => asko44 u v w h
  go_enter Try.func19, Try.ntmps19
  go_wp2
  go_ret
  exact ⟨rfl, (Below.refl _ _).alloc (Nat.le_refl _) _⟩
theorem is44_nil (w : World) : Calls Try.prog 19 #[.nilIface] w fun e w' => e = .returned (.bool false) ∧ Below w.heap.size w w' := by
  have h1 := askn44
  go_enter Try.func19, Try.ntmps19
  go_wp2
  go_ret
  exact ⟨rfl, (Below.refl _ _).alloc (Nat.le_refl _) _⟩
theorem mk47 (x : Value) (w : World) : (Instr.makeInterface 47 x).run Try.prog w = .ok (.iface 47 x) w := run_makeInterface w 47 x (by kernel_rfl)
theorem as47 (v : Value) (w : World) : (Instr.typeAssert (.iface 47 v) 20 47 false).run Try.prog w = .ok v w := by kernel_rfl
theorem ask47 (v : Value) (w : World) : (Instr.typeAssert (.iface 47 v) 20 47 true).run Try.prog w = .ok (.tuple #[v, .bool true]) w := by kernel_rfl
theorem askn47 (w : World) : (Instr.typeAssert .nilIface 20 47 true).run Try.prog w = .ok (.tuple #[(.agg #[.string ByteArray.empty, .string ByteArray.empty, .string ByteArray.empty, .int .u32 0, .int .i64 0, .int .u64 0, .bool false]), .bool false]) w := by kernel_rfl
theorem zr47 (w : World) : (do pure (Value.tuple #[← zeroValue 47, .bool false]) : Sem Value).run Try.prog w = .ok (.tuple #[(.agg #[.string ByteArray.empty, .string ByteArray.empty, .string ByteArray.empty, .int .u32 0, .int .i64 0, .int .u64 0, .bool false]), .bool false]) w := by kernel_rfl
theorem asko47 (u : TypeId) (v : Value) (w : World) (h : u ≠ 47) : (Instr.typeAssert (.iface u v) 20 47 true).run Try.prog w = .ok (.tuple #[(.agg #[.string ByteArray.empty, .string ByteArray.empty, .string ByteArray.empty, .int .u32 0, .int .i64 0, .int .u64 0, .bool false]), .bool false]) w := by
  have e : (Instr.typeAssert (.iface u v) 20 47 true).run Try.prog w = (if u = 47 then (pure (Value.tuple #[v, .bool true]) : Sem Value) else (do pure (Value.tuple #[← zeroValue 47, .bool false]))).run Try.prog w := by kernel_rfl
  rw [e, if_neg h]
  exact zr47 w
theorem is47_yes (v k d : ByteArray) (f x s : Int) (q : Bool) (w : World) : Calls Try.prog 21 #[.iface 47 (.agg #[.string v, .string k, .string d, .int .u32 f, .int .i64 x, .int .u64 s, .bool q])] w fun e w' => e = .returned (.bool true) ∧ Below w.heap.size w w' := by
  have h1 := ask47 (.agg #[.string v, .string k, .string d, .int .u32 f, .int .i64 x, .int .u64 s, .bool q])
  go_enter Try.func21, Try.ntmps21
  go_wp2
  go_ret
  exact ⟨rfl, (Below.refl _ _).alloc (Nat.le_refl _) _⟩
theorem is47_no (u : TypeId) (v : Value) (h : u ≠ 47) (w : World) : Calls Try.prog 21 #[.iface u v] w fun e w' => e = .returned (.bool false) ∧ Below w.heap.size w w' := by
  have h1 := fun w => asko47 u v w h
  go_enter Try.func21, Try.ntmps21
  go_wp2
  go_ret
  exact ⟨rfl, (Below.refl _ _).alloc (Nat.le_refl _) _⟩
theorem is47_nil (w : World) : Calls Try.prog 21 #[.nilIface] w fun e w' => e = .returned (.bool false) ∧ Below w.heap.size w w' := by
  have h1 := askn47
  go_enter Try.func21, Try.ntmps21
  go_wp2
  go_ret
  exact ⟨rfl, (Below.refl _ _).alloc (Nat.le_refl _) _⟩
theorem mk50 (x : Value) (w : World) : (Instr.makeInterface 50 x).run Try.prog w = .ok (.iface 50 x) w := run_makeInterface w 50 x (by kernel_rfl)
theorem as50 (v : Value) (w : World) : (Instr.typeAssert (.iface 50 v) 20 50 false).run Try.prog w = .ok v w := by kernel_rfl
theorem ask50 (v : Value) (w : World) : (Instr.typeAssert (.iface 50 v) 20 50 true).run Try.prog w = .ok (.tuple #[v, .bool true]) w := by kernel_rfl
theorem askn50 (w : World) : (Instr.typeAssert .nilIface 20 50 true).run Try.prog w = .ok (.tuple #[(.agg #[.string ByteArray.empty, .int .u64 0, .bool false, .bool false]), .bool false]) w := by kernel_rfl
theorem zr50 (w : World) : (do pure (Value.tuple #[← zeroValue 50, .bool false]) : Sem Value).run Try.prog w = .ok (.tuple #[(.agg #[.string ByteArray.empty, .int .u64 0, .bool false, .bool false]), .bool false]) w := by kernel_rfl
theorem asko50 (u : TypeId) (v : Value) (w : World) (h : u ≠ 50) : (Instr.typeAssert (.iface u v) 20 50 true).run Try.prog w = .ok (.tuple #[(.agg #[.string ByteArray.empty, .int .u64 0, .bool false, .bool false]), .bool false]) w := by
  have e : (Instr.typeAssert (.iface u v) 20 50 true).run Try.prog w = (if u = 50 then (pure (Value.tuple #[v, .bool true]) : Sem Value) else (do pure (Value.tuple #[← zeroValue 50, .bool false]))).run Try.prog w := by kernel_rfl
  rw [e, if_neg h]
  exact zr50 w
theorem is50_yes (k : ByteArray) (y : Int) (d q : Bool) (w : World) : Calls Try.prog 23 #[.iface 50 (.agg #[.string k, .int .u64 y, .bool d, .bool q])] w fun e w' => e = .returned (.bool true) ∧ Below w.heap.size w w' := by
  have h1 := ask50 (.agg #[.string k, .int .u64 y, .bool d, .bool q])
  go_enter Try.func23, Try.ntmps23
  go_wp2
  go_ret
  exact ⟨rfl, (Below.refl _ _).alloc (Nat.le_refl _) _⟩
theorem is50_no (u : TypeId) (v : Value) (h : u ≠ 50) (w : World) : Calls Try.prog 23 #[.iface u v] w fun e w' => e = .returned (.bool false) ∧ Below w.heap.size w w' := by
  have h1 := fun w => asko50 u v w h
  go_enter Try.func23, Try.ntmps23
  go_wp2
  go_ret
  exact ⟨rfl, (Below.refl _ _).alloc (Nat.le_refl _) _⟩
theorem is50_nil (w : World) : Calls Try.prog 23 #[.nilIface] w fun e w' => e = .returned (.bool false) ∧ Below w.heap.size w w' := by
  have h1 := askn50
  go_enter Try.func23, Try.ntmps23
  go_wp2
  go_ret
  exact ⟨rfl, (Below.refl _ _).alloc (Nat.le_refl _) _⟩
theorem mk52 (x : Value) (w : World) : (Instr.makeInterface 52 x).run Try.prog w = .ok (.iface 52 x) w := run_makeInterface w 52 x (by kernel_rfl)
theorem as52 (v : Value) (w : World) : (Instr.typeAssert (.iface 52 v) 20 52 false).run Try.prog w = .ok v w := by kernel_rfl
theorem ask52 (v : Value) (w : World) : (Instr.typeAssert (.iface 52 v) 20 52 true).run Try.prog w = .ok (.tuple #[v, .bool true]) w := by kernel_rfl
theorem askn52 (w : World) : (Instr.typeAssert .nilIface 20 52 true).run Try.prog w = .ok (.tuple #[(.agg #[.string ByteArray.empty, .int .i64 0, .bool false]), .bool false]) w := by kernel_rfl
theorem zr52 (w : World) : (do pure (Value.tuple #[← zeroValue 52, .bool false]) : Sem Value).run Try.prog w = .ok (.tuple #[(.agg #[.string ByteArray.empty, .int .i64 0, .bool false]), .bool false]) w := by kernel_rfl
theorem asko52 (u : TypeId) (v : Value) (w : World) (h : u ≠ 52) : (Instr.typeAssert (.iface u v) 20 52 true).run Try.prog w = .ok (.tuple #[(.agg #[.string ByteArray.empty, .int .i64 0, .bool false]), .bool false]) w := by
  have e : (Instr.typeAssert (.iface u v) 20 52 true).run Try.prog w = (if u = 52 then (pure (Value.tuple #[v, .bool true]) : Sem Value) else (do pure (Value.tuple #[← zeroValue 52, .bool false]))).run Try.prog w := by kernel_rfl
  rw [e, if_neg h]
  exact zr52 w
theorem is52_yes (k : ByteArray) (x : Int) (q : Bool) (w : World) : Calls Try.prog 25 #[.iface 52 (.agg #[.string k, .int .i64 x, .bool q])] w fun e w' => e = .returned (.bool true) ∧ Below w.heap.size w w' := by
  have h1 := ask52 (.agg #[.string k, .int .i64 x, .bool q])
  go_enter Try.func25, Try.ntmps25
  go_wp2
  go_ret
  exact ⟨rfl, (Below.refl _ _).alloc (Nat.le_refl _) _⟩
theorem is52_no (u : TypeId) (v : Value) (h : u ≠ 52) (w : World) : Calls Try.prog 25 #[.iface u v] w fun e w' => e = .returned (.bool false) ∧ Below w.heap.size w w' := by
  have h1 := fun w => asko52 u v w h
  go_enter Try.func25, Try.ntmps25
  go_wp2
  go_ret
  exact ⟨rfl, (Below.refl _ _).alloc (Nat.le_refl _) _⟩
theorem is52_nil (w : World) : Calls Try.prog 25 #[.nilIface] w fun e w' => e = .returned (.bool false) ∧ Below w.heap.size w w' := by
  have h1 := askn52
  go_enter Try.func25, Try.ntmps25
  go_wp2
  go_ret
  exact ⟨rfl, (Below.refl _ _).alloc (Nat.le_refl _) _⟩
theorem mk54 (x : Value) (w : World) : (Instr.makeInterface 54 x).run Try.prog w = .ok (.iface 54 x) w := run_makeInterface w 54 x (by kernel_rfl)
theorem as54 (v : Value) (w : World) : (Instr.typeAssert (.iface 54 v) 20 54 false).run Try.prog w = .ok v w := by kernel_rfl
theorem ask54 (v : Value) (w : World) : (Instr.typeAssert (.iface 54 v) 20 54 true).run Try.prog w = .ok (.tuple #[v, .bool true]) w := by kernel_rfl
theorem askn54 (w : World) : (Instr.typeAssert .nilIface 20 54 true).run Try.prog w = .ok (.tuple #[(.agg #[.string ByteArray.empty, .bool false]), .bool false]) w := by kernel_rfl
theorem zr54 (w : World) : (do pure (Value.tuple #[← zeroValue 54, .bool false]) : Sem Value).run Try.prog w = .ok (.tuple #[(.agg #[.string ByteArray.empty, .bool false]), .bool false]) w := by kernel_rfl
theorem asko54 (u : TypeId) (v : Value) (w : World) (h : u ≠ 54) : (Instr.typeAssert (.iface u v) 20 54 true).run Try.prog w = .ok (.tuple #[(.agg #[.string ByteArray.empty, .bool false]), .bool false]) w := by
  have e : (Instr.typeAssert (.iface u v) 20 54 true).run Try.prog w = (if u = 54 then (pure (Value.tuple #[v, .bool true]) : Sem Value) else (do pure (Value.tuple #[← zeroValue 54, .bool false]))).run Try.prog w := by kernel_rfl
  rw [e, if_neg h]
  exact zr54 w
theorem is54_yes (k : ByteArray) (q : Bool) (w : World) : Calls Try.prog 26 #[.iface 54 (.agg #[.string k, .bool q])] w fun e w' => e = .returned (.bool true) ∧ Below w.heap.size w w' := by
  have h1 := ask54 (.agg #[.string k, .bool q])
  go_enter Try.func26, Try.ntmps26
  go_wp2
  go_ret
  exact ⟨rfl, (Below.refl _ _).alloc (Nat.le_refl _) _⟩
theorem is54_no (u : TypeId) (v : Value) (h : u ≠ 54) (w : World) : Calls Try.prog 26 #[.iface u v] w fun e w' => e = .returned (.bool false) ∧ Below w.heap.size w w' := by
  have h1 := fun w => asko54 u v w h
  go_enter Try.func26, Try.ntmps26
  go_wp2
  go_ret
  exact ⟨rfl, (Below.refl _ _).alloc (Nat.le_refl _) _⟩
theorem is54_nil (w : World) : Calls Try.prog 26 #[.nilIface] w fun e w' => e = .returned (.bool false) ∧ Below w.heap.size w w' := by
  have h1 := askn54
  go_enter Try.func26, Try.ntmps26
  go_wp2
  go_ret
  exact ⟨rfl, (Below.refl _ _).alloc (Nat.le_refl _) _⟩
theorem mk56 (x : Value) (w : World) : (Instr.makeInterface 56 x).run Try.prog w = .ok (.iface 56 x) w := run_makeInterface w 56 x (by kernel_rfl)
theorem as56 (v : Value) (w : World) : (Instr.typeAssert (.iface 56 v) 20 56 false).run Try.prog w = .ok v w := by kernel_rfl
theorem ask56 (v : Value) (w : World) : (Instr.typeAssert (.iface 56 v) 20 56 true).run Try.prog w = .ok (.tuple #[v, .bool true]) w := by kernel_rfl
theorem askn56 (w : World) : (Instr.typeAssert .nilIface 20 56 true).run Try.prog w = .ok (.tuple #[(.agg #[.bool false]), .bool false]) w := by kernel_rfl
theorem zr56 (w : World) : (do pure (Value.tuple #[← zeroValue 56, .bool false]) : Sem Value).run Try.prog w = .ok (.tuple #[(.agg #[.bool false]), .bool false]) w := by kernel_rfl
theorem asko56 (u : TypeId) (v : Value) (w : World) (h : u ≠ 56) : (Instr.typeAssert (.iface u v) 20 56 true).run Try.prog w = .ok (.tuple #[(.agg #[.bool false]), .bool false]) w := by
  have e : (Instr.typeAssert (.iface u v) 20 56 true).run Try.prog w = (if u = 56 then (pure (Value.tuple #[v, .bool true]) : Sem Value) else (do pure (Value.tuple #[← zeroValue 56, .bool false]))).run Try.prog w := by kernel_rfl
  rw [e, if_neg h]
  exact zr56 w
theorem is56_yes (q : Bool) (w : World) : Calls Try.prog 27 #[.iface 56 (.agg #[.bool q])] w fun e w' => e = .returned (.bool true) ∧ Below w.heap.size w w' := by
  have h1 := ask56 (.agg #[.bool q])
  go_enter Try.func27, Try.ntmps27
  go_wp2
  go_ret
  exact ⟨rfl, (Below.refl _ _).alloc (Nat.le_refl _) _⟩
theorem is56_no (u : TypeId) (v : Value) (h : u ≠ 56) (w : World) : Calls Try.prog 27 #[.iface u v] w fun e w' => e = .returned (.bool false) ∧ Below w.heap.size w w' := by
  have h1 := fun w => asko56 u v w h
  go_enter Try.func27, Try.ntmps27
  go_wp2
  go_ret
  exact ⟨rfl, (Below.refl _ _).alloc (Nat.le_refl _) _⟩
theorem is56_nil (w : World) : Calls Try.prog 27 #[.nilIface] w fun e w' => e = .returned (.bool false) ∧ Below w.heap.size w w' := by
  have h1 := askn56
  go_enter Try.func27, Try.ntmps27
  go_wp2
  go_ret
  exact ⟨rfl, (Below.refl _ _).alloc (Nat.le_refl _) _⟩
theorem mk58 (x : Value) (w : World) : (Instr.makeInterface 58 x).run Try.prog w = .ok (.iface 58 x) w := run_makeInterface w 58 x (by kernel_rfl)
theorem as58 (v : Value) (w : World) : (Instr.typeAssert (.iface 58 v) 20 58 false).run Try.prog w = .ok v w := by kernel_rfl
theorem ask58 (v : Value) (w : World) : (Instr.typeAssert (.iface 58 v) 20 58 true).run Try.prog w = .ok (.tuple #[v, .bool true]) w := by kernel_rfl
theorem askn58 (w : World) : (Instr.typeAssert .nilIface 20 58 true).run Try.prog w = .ok (.tuple #[(.agg #[.string ByteArray.empty]), .bool false]) w := by kernel_rfl
theorem zr58 (w : World) : (do pure (Value.tuple #[← zeroValue 58, .bool false]) : Sem Value).run Try.prog w = .ok (.tuple #[(.agg #[.string ByteArray.empty]), .bool false]) w := by kernel_rfl
theorem asko58 (u : TypeId) (v : Value) (w : World) (h : u ≠ 58) : (Instr.typeAssert (.iface u v) 20 58 true).run Try.prog w = .ok (.tuple #[(.agg #[.string ByteArray.empty]), .bool false]) w := by
  have e : (Instr.typeAssert (.iface u v) 20 58 true).run Try.prog w = (if u = 58 then (pure (Value.tuple #[v, .bool true]) : Sem Value) else (do pure (Value.tuple #[← zeroValue 58, .bool false]))).run Try.prog w := by kernel_rfl
  rw [e, if_neg h]
  exact zr58 w
theorem is58_yes (k : ByteArray) (w : World) : Calls Try.prog 28 #[.iface 58 (.agg #[.string k])] w fun e w' => e = .returned (.bool true) ∧ Below w.heap.size w w' := by
  have h1 := ask58 (.agg #[.string k])
  go_enter Try.func28, Try.ntmps28
  go_wp2
  go_ret
  exact ⟨rfl, (Below.refl _ _).alloc (Nat.le_refl _) _⟩
theorem is58_no (u : TypeId) (v : Value) (h : u ≠ 58) (w : World) : Calls Try.prog 28 #[.iface u v] w fun e w' => e = .returned (.bool false) ∧ Below w.heap.size w w' := by
  have h1 := fun w => asko58 u v w h
  go_enter Try.func28, Try.ntmps28
  go_wp2
  go_ret
  exact ⟨rfl, (Below.refl _ _).alloc (Nat.le_refl _) _⟩
theorem is58_nil (w : World) : Calls Try.prog 28 #[.nilIface] w fun e w' => e = .returned (.bool false) ∧ Below w.heap.size w w' := by
  have h1 := askn58
  go_enter Try.func28, Try.ntmps28
  go_wp2
  go_ret
  exact ⟨rfl, (Below.refl _ _).alloc (Nat.le_refl _) _⟩
theorem mk60 (x : Value) (w : World) : (Instr.makeInterface 60 x).run Try.prog w = .ok (.iface 60 x) w := run_makeInterface w 60 x (by kernel_rfl)
theorem as60 (v : Value) (w : World) : (Instr.typeAssert (.iface 60 v) 20 60 false).run Try.prog w = .ok v w := by kernel_rfl
theorem ask60 (v : Value) (w : World) : (Instr.typeAssert (.iface 60 v) 20 60 true).run Try.prog w = .ok (.tuple #[v, .bool true]) w := by kernel_rfl
theorem askn60 (w : World) : (Instr.typeAssert .nilIface 20 60 true).run Try.prog w = .ok (.tuple #[(.agg #[.string ByteArray.empty]), .bool false]) w := by kernel_rfl
theorem zr60 (w : World) : (do pure (Value.tuple #[← zeroValue 60, .bool false]) : Sem Value).run Try.prog w = .ok (.tuple #[(.agg #[.string ByteArray.empty]), .bool false]) w := by kernel_rfl
theorem asko60 (u : TypeId) (v : Value) (w : World) (h : u ≠ 60) : (Instr.typeAssert (.iface u v) 20 60 true).run Try.prog w = .ok (.tuple #[(.agg #[.string ByteArray.empty]), .bool false]) w := by
  have e : (Instr.typeAssert (.iface u v) 20 60 true).run Try.prog w = (if u = 60 then (pure (Value.tuple #[v, .bool true]) : Sem Value) else (do pure (Value.tuple #[← zeroValue 60, .bool false]))).run Try.prog w := by kernel_rfl
  rw [e, if_neg h]
  exact zr60 w
theorem is60_yes (k : ByteArray) (w : World) : Calls Try.prog 29 #[.iface 60 (.agg #[.string k])] w fun e w' => e = .returned (.bool true) ∧ Below w.heap.size w w' := by
  have h1 := ask60 (.agg #[.string k])
  go_enter Try.func29, Try.ntmps29
  go_wp2
  go_ret
  exact ⟨rfl, (Below.refl _ _).alloc (Nat.le_refl _) _⟩
theorem is60_no (u : TypeId) (v : Value) (h : u ≠ 60) (w : World) : Calls Try.prog 29 #[.iface u v] w fun e w' => e = .returned (.bool false) ∧ Below w.heap.size w w' := by
  have h1 := fun w => asko60 u v w h
  go_enter Try.func29, Try.ntmps29
  go_wp2
  go_ret
  exact ⟨rfl, (Below.refl _ _).alloc (Nat.le_refl _) _⟩
theorem is60_nil (w : World) : Calls Try.prog 29 #[.nilIface] w fun e w' => e = .returned (.bool false) ∧ Below w.heap.size w w' := by
  have h1 := askn60
  go_enter Try.func29, Try.ntmps29
  go_wp2
  go_ret
  exact ⟨rfl, (Below.refl _ _).alloc (Nat.le_refl _) _⟩
end Go.Proofs.Ytofjadgnkpcaeaa