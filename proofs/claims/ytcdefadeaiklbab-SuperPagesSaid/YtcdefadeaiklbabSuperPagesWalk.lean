/-
  Proof of the law 'SuperPages'.
-/
import Derived.WalkKit
import Derived.Below
import Derived.Test.YtcdefadeaiklbabPagesA
import Derived.Test.YtcdefadeaiklbabPagesB
import Derived.Test.YtcdefadeaiklbabPagesC
namespace Go.Proofs.Ytcdefadeaiklbab.superPages
open Go.RowKit Go.Deep
set_option linter.unusedVariables false
set_option linter.unusedSimpArgs false

set_option maxRecDepth 4000 in
set_option maxHeartbeats 4000000 in
theorem walk (z0 : Bk) (z1 : Bk) (a2 : Bool) (a3 : Bool) (a4 : Bool) (w : World) (hw0 : z0.fits) (hw1 : z1.fits) (hw2 : True) (hw3 : True) (hw4 : True) :
    Calls Try.prog 3 #[.agg #[.int .u64 z0.seq, .int .u64 z0.epoch, .int .u64 z0.res, .int .u64 z0.hor, .int .u64 z0.gen, .bool z0.clean, .int .i64 z0.image], .agg #[.int .u64 z1.seq, .int .u64 z1.epoch, .int .u64 z1.res, .int .u64 z1.hor, .int .u64 z1.gen, .bool z1.clean, .int .i64 z1.image], .bool a2, .bool a3, .bool a4] w fun e w' => e = .returned (.bool true) ∧ Below w.heap.size w w' := by
  have hs0 : ∀ W : World, True := fun _ => trivial
  cases a2 with
  | false =>
    cases a3 with
    | false =>
      cases a4 with
      | false => exact p_000 z0 z1 hw0 hw1 w
      | true =>
        by_cases hworn : z1.seq = 18446744073709551615
        · exact p_001w z0 z1 hw0 hw1 hworn w
        · exact p_001n z0 z1 hw0 hw1 hworn w
    | true =>
      cases a4 with
      | false =>
        by_cases hworn : z0.seq = 18446744073709551615
        · exact p_010w z0 z1 hw0 hw1 hworn w
        · exact p_010n z0 z1 hw0 hw1 hworn w
      | true =>
        by_cases hlt : z0.seq < z1.seq
        · by_cases hworn : z1.seq = 18446744073709551615
          · exact p_011lw z0 z1 hw0 hw1 hlt hworn w
          · exact p_011ln z0 z1 hw0 hw1 hlt hworn w
        · by_cases hworn : z0.seq = 18446744073709551615
          · exact p_011gw z0 z1 hw0 hw1 hlt hworn w
          · exact p_011gn z0 z1 hw0 hw1 hlt hworn w
  | true =>
    cases a3 with
    | false =>
      cases a4 with
      | false => exact p_100 z0 z1 hw0 hw1 w
      | true =>
        by_cases hworn : z0.seq = 18446744073709551615
        · exact p_101w z0 z1 hw0 hw1 hworn w
        · exact p_101n z0 z1 hw0 hw1 hworn w
    | true =>
      cases a4 with
      | false =>
        by_cases hworn : z0.seq = 18446744073709551615
        · exact p_110w z0 z1 hw0 hw1 hworn w
        · exact p_110n z0 z1 hw0 hw1 hworn w
      | true =>
        by_cases hlt : z0.seq < z0.seq
        · exact absurd hlt (Nat.lt_irrefl _)
        · by_cases hworn : z0.seq = 18446744073709551615
          · exact p_111gw z0 z1 hw0 hw1 hlt hworn w
          · exact p_111gn z0 z1 hw0 hw1 hlt hworn w
end Go.Proofs.Ytcdefadeaiklbab.superPages
