/-
  WALKS: the reference's products, conjugates and errors.
-/
import Derived.Test.YtgbnmnkgelklbaaAlM
namespace Go.Proofs.Ytgbnmnkgelklbaa.Al
open Go.RowKit
open Alm
set_option linter.unusedVariables false
set_option linter.unusedSimpArgs false
set_option maxRecDepth 100000
theorem px' (B w x y z w' x' y' z' : Int) : w * x' + x * w' - B * y * z' + B * z * y' = px B w x y z w' x' y' z' := by unfold px; grind
theorem py' (A w x y z w' x' y' z' : Int) : w * y' + y * w' + A * x * z' - A * z * x' = py A w x y z w' x' y' z' := by unfold py; grind
end Go.Proofs.Ytgbnmnkgelklbaa.Al
