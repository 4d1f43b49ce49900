/-
  What a command of each kind looks like as a value of an interface, and what each type assertion and each 'is' says of it.
-/
import Derived.Test.YtmfjaehajdephaaJN
namespace Go.Proofs.Ytmfjaehajdephaa
open Go.Shelf Go.RowKit
set_option linter.unusedVariables false

theorem mk44 (x : Value) (w : World) : (Instr.makeInterface 103 x).run Try.prog w = .ok (.iface 103 x) w := run_makeInterface w 103 x (by kernel_rfl)
theorem as44 (v : Value) (w : World) : (Instr.typeAssert (.iface 103 v) 20 103 false).run Try.prog w = .ok v w := by kernel_rfl
theorem ask44 (v : Value) (w : World) : (Instr.typeAssert (.iface 103 v) 20 103 true).run Try.prog w = .ok (.tuple #[v, .bool true]) w := by kernel_rfl
theorem askn44 (w : World) : (Instr.typeAssert .nilIface 20 103 true).run Try.prog w = .ok (.tuple #[(.agg #[.slice none 0 0, .bool false, .bool false, .int .i64 0]), .bool false]) w := by kernel_rfl
theorem zr44 (w : World) : (do pure (Value.tuple #[← zeroValue 103, .bool false]) : Sem Value).run Try.prog w = .ok (.tuple #[(.agg #[.slice none 0 0, .bool false, .bool false, .int .i64 0]), .bool false]) w := by kernel_rfl
theorem asko44 (u : TypeId) (v : Value) (w : World) (h : u ≠ 103) : (Instr.typeAssert (.iface u v) 20 103 true).run Try.prog w = .ok (.tuple #[(.agg #[.slice none 0 0, .bool false, .bool false, .int .i64 0]), .bool false]) w := by
  have e : (Instr.typeAssert (.iface u v) 20 103 true).run Try.prog w = (if u = 103 then (pure (Value.tuple #[v, .bool true]) : Sem Value) else (do pure (Value.tuple #[← zeroValue 103, .bool false]))).run Try.prog w := by kernel_rfl
  rw [e, if_neg h]
  exact zr44 w
theorem is44_yes (a : Option Addr) (len cap : Nat) (c t : Bool) (x : Int) (w : World) : Calls Try.prog 80 #[.iface 103 (.agg #[.slice a len cap, .bool c, .bool t, .int .i64 x])] w fun e w' => e = .returned (.bool true) ∧ Below w.heap.size w w' := by
  have h1 := ask44 (.agg #[.slice a len cap, .bool c, .bool t, .int .i64 x])
  go_enter Try.func80, Try.ntmps80
  go_wp2
  go_ret
  exact ⟨rfl, (Below.refl _ _).alloc (Nat.le_refl _) _⟩
theorem is44_no (u : TypeId) (v : Value) (h : u ≠ 103) (w : World) : Calls Try.prog 80 #[.iface u v] w fun e w' => e = .returned (.bool false) ∧ Below w.heap.size w w' := by
  have h1 := fun w => asko44 u v w h
  go_enter Try.func80, Try.ntmps80
  go_wp2
  go_ret
  exact ⟨rfl, (Below.refl _ _).alloc (Nat.le_refl _) _⟩
theorem is44_nil (w : World) : Calls Try.prog 80 #[.nilIface] w fun e w' => e = .returned (.bool false) ∧ Below w.heap.size w w' := by
  have h1 := askn44
  go_enter Try.func80, Try.ntmps80
  go_wp2
  go_ret
  exact ⟨rfl, (Below.refl _ _).alloc (Nat.le_refl _) _⟩
theorem mk47 (x : Value) (w : World) : (Instr.makeInterface 106 x).run Try.prog w = .ok (.iface 106 x) w := run_makeInterface w 106 x (by kernel_rfl)
theorem as47 (v : Value) (w : World) : (Instr.typeAssert (.iface 106 v) 20 106 false).run Try.prog w = .ok v w := by kernel_rfl
theorem ask47 (v : Value) (w : World) : (Instr.typeAssert (.iface 106 v) 20 106 true).run Try.prog w = .ok (.tuple #[v, .bool true]) w := by kernel_rfl
theorem askn47 (w : World) : (Instr.typeAssert .nilIface 20 106 true).run Try.prog w = .ok (.tuple #[(.agg #[.string ByteArray.empty, .string ByteArray.empty, .string ByteArray.empty, .int .u32 0, .int .i64 0, .int .u64 0, .bool false]), .bool false]) w := by kernel_rfl
theorem zr47 (w : World) : (do pure (Value.tuple #[← zeroValue 106, .bool false]) : Sem Value).run Try.prog w = .ok (.tuple #[(.agg #[.string ByteArray.empty, .string ByteArray.empty, .string ByteArray.empty, .int .u32 0, .int .i64 0, .int .u64 0, .bool false]), .bool false]) w := by kernel_rfl
theorem asko47 (u : TypeId) (v : Value) (w : World) (h : u ≠ 106) : (Instr.typeAssert (.iface u v) 20 106 true).run Try.prog w = .ok (.tuple #[(.agg #[.string ByteArray.empty, .string ByteArray.empty, .string ByteArray.empty, .int .u32 0, .int .i64 0, .int .u64 0, .bool false]), .bool false]) w := by
  have e : (Instr.typeAssert (.iface u v) 20 106 true).run Try.prog w = (if u = 106 then (pure (Value.tuple #[v, .bool true]) : Sem Value) else (do pure (Value.tuple #[← zeroValue 106, .bool false]))).run Try.prog w := by kernel_rfl
  rw [e, if_neg h]
  exact zr47 w
theorem is47_yes (v k d : ByteArray) (f x s : Int) (q : Bool) (w : World) : Calls Try.prog 84 #[.iface 106 (.agg #[.string v, .string k, .string d, .int .u32 f, .int .i64 x, .int .u64 s, .bool q])] w fun e w' => e = .returned (.bool true) ∧ Below w.heap.size w w' := by
  have h1 := ask47 (.agg #[.string v, .string k, .string d, .int .u32 f, .int .i64 x, .int .u64 s, .bool q])
  go_enter Try.func84, Try.ntmps84
  go_wp2
  go_ret
  exact ⟨rfl, (Below.refl _ _).alloc (Nat.le_refl _) _⟩
theorem is47_no (u : TypeId) (v : Value) (h : u ≠ 106) (w : World) : Calls Try.prog 84 #[.iface u v] w fun e w' => e = .returned (.bool false) ∧ Below w.heap.size w w' := by
  have h1 := fun w => asko47 u v w h
  go_enter Try.func84, Try.ntmps84
  go_wp2
  go_ret
  exact ⟨rfl, (Below.refl _ _).alloc (Nat.le_refl _) _⟩
theorem is47_nil (w : World) : Calls Try.prog 84 #[.nilIface] w fun e w' => e = .returned (.bool false) ∧ Below w.heap.size w w' := by
  have h1 := askn47
  go_enter Try.func84, Try.ntmps84
  go_wp2
  go_ret
  exact ⟨rfl, (Below.refl _ _).alloc (Nat.le_refl _) _⟩
theorem mk50 (x : Value) (w : World) : (Instr.makeInterface 108 x).run Try.prog w = .ok (.iface 108 x) w := run_makeInterface w 108 x (by kernel_rfl)
theorem as50 (v : Value) (w : World) : (Instr.typeAssert (.iface 108 v) 20 108 false).run Try.prog w = .ok v w := by kernel_rfl
theorem ask50 (v : Value) (w : World) : (Instr.typeAssert (.iface 108 v) 20 108 true).run Try.prog w = .ok (.tuple #[v, .bool true]) w := by kernel_rfl
theorem askn50 (w : World) : (Instr.typeAssert .nilIface 20 108 true).run Try.prog w = .ok (.tuple #[(.agg #[.string ByteArray.empty, .int .u64 0, .bool false, .bool false]), .bool false]) w := by kernel_rfl
theorem zr50 (w : World) : (do pure (Value.tuple #[← zeroValue 108, .bool false]) : Sem Value).run Try.prog w = .ok (.tuple #[(.agg #[.string ByteArray.empty, .int .u64 0, .bool false, .bool false]), .bool false]) w := by kernel_rfl
theorem asko50 (u : TypeId) (v : Value) (w : World) (h : u ≠ 108) : (Instr.typeAssert (.iface u v) 20 108 true).run Try.prog w = .ok (.tuple #[(.agg #[.string ByteArray.empty, .int .u64 0, .bool false, .bool false]), .bool false]) w := by
  have e : (Instr.typeAssert (.iface u v) 20 108 true).run Try.prog w = (if u = 108 then (pure (Value.tuple #[v, .bool true]) : Sem Value) else (do pure (Value.tuple #[← zeroValue 108, .bool false]))).run Try.prog w := by kernel_rfl
  rw [e, if_neg h]
  exact zr50 w
theorem is50_yes (k : ByteArray) (y : Int) (d q : Bool) (w : World) : Calls Try.prog 86 #[.iface 108 (.agg #[.string k, .int .u64 y, .bool d, .bool q])] w fun e w' => e = .returned (.bool true) ∧ Below w.heap.size w w' := by
  have h1 := ask50 (.agg #[.string k, .int .u64 y, .bool d, .bool q])
  go_enter Try.func86, Try.ntmps86
  go_wp2
  go_ret
  exact ⟨rfl, (Below.refl _ _).alloc (Nat.le_refl _) _⟩
theorem is50_no (u : TypeId) (v : Value) (h : u ≠ 108) (w : World) : Calls Try.prog 86 #[.iface u v] w fun e w' => e = .returned (.bool false) ∧ Below w.heap.size w w' := by
  have h1 := fun w => asko50 u v w h
  go_enter Try.func86, Try.ntmps86
  go_wp2
  go_ret
  exact ⟨rfl, (Below.refl _ _).alloc (Nat.le_refl _) _⟩
theorem is50_nil (w : World) : Calls Try.prog 86 #[.nilIface] w fun e w' => e = .returned (.bool false) ∧ Below w.heap.size w w' := by
  have h1 := askn50
  go_enter Try.func86, Try.ntmps86
  go_wp2
  go_ret
  exact ⟨rfl, (Below.refl _ _).alloc (Nat.le_refl _) _⟩
theorem mk52 (x : Value) (w : World) : (Instr.makeInterface 110 x).run Try.prog w = .ok (.iface 110 x) w := run_makeInterface w 110 x (by kernel_rfl)
theorem as52 (v : Value) (w : World) : (Instr.typeAssert (.iface 110 v) 20 110 false).run Try.prog w = .ok v w := by kernel_rfl
theorem ask52 (v : Value) (w : World) : (Instr.typeAssert (.iface 110 v) 20 110 true).run Try.prog w = .ok (.tuple #[v, .bool true]) w := by kernel_rfl
theorem askn52 (w : World) : (Instr.typeAssert .nilIface 20 110 true).run Try.prog w = .ok (.tuple #[(.agg #[.string ByteArray.empty, .int .i64 0, .bool false]), .bool false]) w := by kernel_rfl
theorem zr52 (w : World) : (do pure (Value.tuple #[← zeroValue 110, .bool false]) : Sem Value).run Try.prog w = .ok (.tuple #[(.agg #[.string ByteArray.empty, .int .i64 0, .bool false]), .bool false]) w := by kernel_rfl
theorem asko52 (u : TypeId) (v : Value) (w : World) (h : u ≠ 110) : (Instr.typeAssert (.iface u v) 20 110 true).run Try.prog w = .ok (.tuple #[(.agg #[.string ByteArray.empty, .int .i64 0, .bool false]), .bool false]) w := by
  have e : (Instr.typeAssert (.iface u v) 20 110 true).run Try.prog w = (if u = 110 then (pure (Value.tuple #[v, .bool true]) : Sem Value) else (do pure (Value.tuple #[← zeroValue 110, .bool false]))).run Try.prog w := by kernel_rfl
  rw [e, if_neg h]
  exact zr52 w
theorem is52_yes (k : ByteArray) (x : Int) (q : Bool) (w : World) : Calls Try.prog 87 #[.iface 110 (.agg #[.string k, .int .i64 x, .bool q])] w fun e w' => e = .returned (.bool true) ∧ Below w.heap.size w w' := by
  have h1 := ask52 (.agg #[.string k, .int .i64 x, .bool q])
  go_enter Try.func87, Try.ntmps87
  go_wp2
  go_ret
  exact ⟨rfl, (Below.refl _ _).alloc (Nat.le_refl _) _⟩
theorem is52_no (u : TypeId) (v : Value) (h : u ≠ 110) (w : World) : Calls Try.prog 87 #[.iface u v] w fun e w' => e = .returned (.bool false) ∧ Below w.heap.size w w' := by
  have h1 := fun w => asko52 u v w h
  go_enter Try.func87, Try.ntmps87
  go_wp2
  go_ret
  exact ⟨rfl, (Below.refl _ _).alloc (Nat.le_refl _) _⟩
theorem is52_nil (w : World) : Calls Try.prog 87 #[.nilIface] w fun e w' => e = .returned (.bool false) ∧ Below w.heap.size w w' := by
  have h1 := askn52
  go_enter Try.func87, Try.ntmps87
  go_wp2
  go_ret
  exact ⟨rfl, (Below.refl _ _).alloc (Nat.le_refl _) _⟩
theorem mk54 (x : Value) (w : World) : (Instr.makeInterface 112 x).run Try.prog w = .ok (.iface 112 x) w := run_makeInterface w 112 x (by kernel_rfl)
theorem as54 (v : Value) (w : World) : (Instr.typeAssert (.iface 112 v) 20 112 false).run Try.prog w = .ok v w := by kernel_rfl
theorem ask54 (v : Value) (w : World) : (Instr.typeAssert (.iface 112 v) 20 112 true).run Try.prog w = .ok (.tuple #[v, .bool true]) w := by kernel_rfl
theorem askn54 (w : World) : (Instr.typeAssert .nilIface 20 112 true).run Try.prog w = .ok (.tuple #[(.agg #[.string ByteArray.empty, .bool false]), .bool false]) w := by kernel_rfl
theorem zr54 (w : World) : (do pure (Value.tuple #[← zeroValue 112, .bool false]) : Sem Value).run Try.prog w = .ok (.tuple #[(.agg #[.string ByteArray.empty, .bool false]), .bool false]) w := by kernel_rfl
theorem asko54 (u : TypeId) (v : Value) (w : World) (h : u ≠ 112) : (Instr.typeAssert (.iface u v) 20 112 true).run Try.prog w = .ok (.tuple #[(.agg #[.string ByteArray.empty, .bool false]), .bool false]) w := by
  have e : (Instr.typeAssert (.iface u v) 20 112 true).run Try.prog w = (if u = 112 then (pure (Value.tuple #[v, .bool true]) : Sem Value) else (do pure (Value.tuple #[← zeroValue 112, .bool false]))).run Try.prog w := by kernel_rfl
  rw [e, if_neg h]
  exact zr54 w
theorem is54_yes (k : ByteArray) (q : Bool) (w : World) : Calls Try.prog 88 #[.iface 112 (.agg #[.string k, .bool q])] w fun e w' => e = .returned (.bool true) ∧ Below w.heap.size w w' := by
  have h1 := ask54 (.agg #[.string k, .bool q])
  go_enter Try.func88, Try.ntmps88
  go_wp2
  go_ret
  exact ⟨rfl, (Below.refl _ _).alloc (Nat.le_refl _) _⟩
theorem is54_no (u : TypeId) (v : Value) (h : u ≠ 112) (w : World) : Calls Try.prog 88 #[.iface u v] w fun e w' => e = .returned (.bool false) ∧ Below w.heap.size w w' := by
  have h1 := fun w => asko54 u v w h
  go_enter Try.func88, Try.ntmps88
  go_wp2
  go_ret
  exact ⟨rfl, (Below.refl _ _).alloc (Nat.le_refl _) _⟩
theorem is54_nil (w : World) : Calls Try.prog 88 #[.nilIface] w fun e w' => e = .returned (.bool false) ∧ Below w.heap.size w w' := by
  have h1 := askn54
  go_enter Try.func88, Try.ntmps88
  go_wp2
  go_ret
  exact ⟨rfl, (Below.refl _ _).alloc (Nat.le_refl _) _⟩
theorem mk56 (x : Value) (w : World) : (Instr.makeInterface 116 x).run Try.prog w = .ok (.iface 116 x) w := run_makeInterface w 116 x (by kernel_rfl)
theorem as56 (v : Value) (w : World) : (Instr.typeAssert (.iface 116 v) 20 116 false).run Try.prog w = .ok v w := by kernel_rfl
theorem ask56 (v : Value) (w : World) : (Instr.typeAssert (.iface 116 v) 20 116 true).run Try.prog w = .ok (.tuple #[v, .bool true]) w := by kernel_rfl
theorem askn56 (w : World) : (Instr.typeAssert .nilIface 20 116 true).run Try.prog w = .ok (.tuple #[(.agg #[.bool false]), .bool false]) w := by kernel_rfl
theorem zr56 (w : World) : (do pure (Value.tuple #[← zeroValue 116, .bool false]) : Sem Value).run Try.prog w = .ok (.tuple #[(.agg #[.bool false]), .bool false]) w := by kernel_rfl
theorem asko56 (u : TypeId) (v : Value) (w : World) (h : u ≠ 116) : (Instr.typeAssert (.iface u v) 20 116 true).run Try.prog w = .ok (.tuple #[(.agg #[.bool false]), .bool false]) w := by
  have e : (Instr.typeAssert (.iface u v) 20 116 true).run Try.prog w = (if u = 116 then (pure (Value.tuple #[v, .bool true]) : Sem Value) else (do pure (Value.tuple #[← zeroValue 116, .bool false]))).run Try.prog w := by kernel_rfl
  rw [e, if_neg h]
  exact zr56 w
theorem is56_yes (q : Bool) (w : World) : Calls Try.prog 91 #[.iface 116 (.agg #[.bool q])] w fun e w' => e = .returned (.bool true) ∧ Below w.heap.size w w' := by
  have h1 := ask56 (.agg #[.bool q])
  go_enter Try.func91, Try.ntmps91
  go_wp2
  go_ret
  exact ⟨rfl, (Below.refl _ _).alloc (Nat.le_refl _) _⟩
theorem is56_no (u : TypeId) (v : Value) (h : u ≠ 116) (w : World) : Calls Try.prog 91 #[.iface u v] w fun e w' => e = .returned (.bool false) ∧ Below w.heap.size w w' := by
  have h1 := fun w => asko56 u v w h
  go_enter Try.func91, Try.ntmps91
  go_wp2
  go_ret
  exact ⟨rfl, (Below.refl _ _).alloc (Nat.le_refl _) _⟩
theorem is56_nil (w : World) : Calls Try.prog 91 #[.nilIface] w fun e w' => e = .returned (.bool false) ∧ Below w.heap.size w w' := by
  have h1 := askn56
  go_enter Try.func91, Try.ntmps91
  go_wp2
  go_ret
  exact ⟨rfl, (Below.refl _ _).alloc (Nat.le_refl _) _⟩
theorem mk58 (x : Value) (w : World) : (Instr.makeInterface 121 x).run Try.prog w = .ok (.iface 121 x) w := run_makeInterface w 121 x (by kernel_rfl)
theorem as58 (v : Value) (w : World) : (Instr.typeAssert (.iface 121 v) 20 121 false).run Try.prog w = .ok v w := by kernel_rfl
theorem ask58 (v : Value) (w : World) : (Instr.typeAssert (.iface 121 v) 20 121 true).run Try.prog w = .ok (.tuple #[v, .bool true]) w := by kernel_rfl
theorem askn58 (w : World) : (Instr.typeAssert .nilIface 20 121 true).run Try.prog w = .ok (.tuple #[(.agg #[.string ByteArray.empty]), .bool false]) w := by kernel_rfl
theorem zr58 (w : World) : (do pure (Value.tuple #[← zeroValue 121, .bool false]) : Sem Value).run Try.prog w = .ok (.tuple #[(.agg #[.string ByteArray.empty]), .bool false]) w := by kernel_rfl
theorem asko58 (u : TypeId) (v : Value) (w : World) (h : u ≠ 121) : (Instr.typeAssert (.iface u v) 20 121 true).run Try.prog w = .ok (.tuple #[(.agg #[.string ByteArray.empty]), .bool false]) w := by
  have e : (Instr.typeAssert (.iface u v) 20 121 true).run Try.prog w = (if u = 121 then (pure (Value.tuple #[v, .bool true]) : Sem Value) else (do pure (Value.tuple #[← zeroValue 121, .bool false]))).run Try.prog w := by kernel_rfl
  rw [e, if_neg h]
  exact zr58 w
theorem mk60 (x : Value) (w : World) : (Instr.makeInterface 114 x).run Try.prog w = .ok (.iface 114 x) w := run_makeInterface w 114 x (by kernel_rfl)
theorem as60 (v : Value) (w : World) : (Instr.typeAssert (.iface 114 v) 20 114 false).run Try.prog w = .ok v w := by kernel_rfl
theorem ask60 (v : Value) (w : World) : (Instr.typeAssert (.iface 114 v) 20 114 true).run Try.prog w = .ok (.tuple #[v, .bool true]) w := by kernel_rfl
theorem askn60 (w : World) : (Instr.typeAssert .nilIface 20 114 true).run Try.prog w = .ok (.tuple #[(.agg #[.string ByteArray.empty]), .bool false]) w := by kernel_rfl
theorem zr60 (w : World) : (do pure (Value.tuple #[← zeroValue 114, .bool false]) : Sem Value).run Try.prog w = .ok (.tuple #[(.agg #[.string ByteArray.empty]), .bool false]) w := by kernel_rfl
theorem asko60 (u : TypeId) (v : Value) (w : World) (h : u ≠ 114) : (Instr.typeAssert (.iface u v) 20 114 true).run Try.prog w = .ok (.tuple #[(.agg #[.string ByteArray.empty]), .bool false]) w := by
  have e : (Instr.typeAssert (.iface u v) 20 114 true).run Try.prog w = (if u = 114 then (pure (Value.tuple #[v, .bool true]) : Sem Value) else (do pure (Value.tuple #[← zeroValue 114, .bool false]))).run Try.prog w := by kernel_rfl
  rw [e, if_neg h]
  exact zr60 w
theorem is60_yes (k : ByteArray) (w : World) : Calls Try.prog 89 #[.iface 114 (.agg #[.string k])] w fun e w' => e = .returned (.bool true) ∧ Below w.heap.size w w' := by
  have h1 := ask60 (.agg #[.string k])
  go_enter Try.func89, Try.ntmps89
  go_wp2
  go_ret
  exact ⟨rfl, (Below.refl _ _).alloc (Nat.le_refl _) _⟩
theorem is60_no (u : TypeId) (v : Value) (h : u ≠ 114) (w : World) : Calls Try.prog 89 #[.iface u v] w fun e w' => e = .returned (.bool false) ∧ Below w.heap.size w w' := by
  have h1 := fun w => asko60 u v w h
  go_enter Try.func89, Try.ntmps89
  go_wp2
  go_ret
  exact ⟨rfl, (Below.refl _ _).alloc (Nat.le_refl _) _⟩
theorem is60_nil (w : World) : Calls Try.prog 89 #[.nilIface] w fun e w' => e = .returned (.bool false) ∧ Below w.heap.size w w' := by
  have h1 := askn60
  go_enter Try.func89, Try.ntmps89
  go_wp2
  go_ret
  exact ⟨rfl, (Below.refl _ _).alloc (Nat.le_refl _) _⟩
end Go.Proofs.Ytmfjaehajdephaa