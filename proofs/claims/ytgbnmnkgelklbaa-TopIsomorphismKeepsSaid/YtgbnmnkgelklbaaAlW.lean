/-
  WALKS: which elements are integral.
-/
import Derived.Test.YtgbnmnkgelklbaaAlV
namespace Go.Proofs.Ytgbnmnkgelklbaa.Al
open Go.RowKit
open Alm
set_option linter.unusedVariables false
set_option linter.unusedSimpArgs false
set_option maxRecDepth 100000
theorem Try.f1 (a b : Value) : ∀ w, (Instr.field 39 (.agg #[a, b]) 1).run Try.prog w = .ok b w := fun _ => by kernel_rfl
/-- an element is integral: its trace and its norm are integers -/
def itB (A B n0 n1 n2 n3 d : Int) : Bool := fd (2 * n0) d == 1 && fd (nm A B n0 n1 n2 n3) (d * d) == 1
end Go.Proofs.Ytgbnmnkgelklbaa.Al
