/-
  WALKS: Bezout of both packages against one relation.
-/
import Derived.Test.YtgbnmnkgelklbaaInv
namespace Go.Proofs.Ytgbnmnkgelklbaa
open Go.RowKit
set_option linter.unusedVariables false
set_option maxRecDepth 100000

def inB (a : Int) : Bool := withinB a (-1000000000) 1000000000
/-- what Bezout hands back -/
def BzRes (a b g x y f : Int) : Prop :=
  ((inB a && inB b) = false ∧ g = 0 ∧ x = 0 ∧ y = 0 ∧ f = 2) ∨
  ((inB a && inB b) = true ∧ a = 0 ∧ b = 0 ∧ g = 0 ∧ x = 0 ∧ y = 0 ∧ f = 10) ∨
  ((inB a && inB b) = true ∧ a ≠ 0 ∧ b = 0 ∧ g = (a.natAbs : Int) ∧ x = (if a < 0 then -1 else 1) ∧ y = 0 ∧ f = 0) ∨
  ((inB a && inB b) = true ∧ b ≠ 0 ∧ g = Int.gcd a b ∧ BzX a b x ∧ y = ((Int.gcd a b : Int) - a * x).tdiv b ∧ f = 0)
theorem BzRes.unique {a b g x y f g' x' y' f' : Int} (h : BzRes a b g x y f) (h' : BzRes a b g' x' y' f') : g = g' ∧ x = x' ∧ y = y' ∧ f = f' := by
  rcases h with ⟨a1, rfl, rfl, rfl, rfl⟩ | ⟨a1, a2, a3, rfl, rfl, rfl, rfl⟩ | ⟨a1, a2, a3, rfl, rfl, rfl, rfl⟩ | ⟨a1, a2, rfl, a3, rfl, rfl⟩ <;> rcases h' with ⟨b1, rfl, rfl, rfl, rfl⟩ | ⟨b1, b2, b3, rfl, rfl, rfl, rfl⟩ | ⟨b1, b2, b3, rfl, rfl, rfl, rfl⟩ | ⟨b1, b2, rfl, b3, rfl, rfl⟩
  all_goals first
    | (exact ⟨rfl, rfl, rfl, rfl⟩)
    | (rw [a1] at b1; cases b1; done)
    | (exact absurd a2 b2)
    | (exact absurd b2 a2)
    | (exact absurd a3 b2)
    | (exact absurd b3 a2)
    | (obtain rfl := a3.unique a2 b3; exact ⟨rfl, rfl, rfl, rfl⟩)
def BzEnd (a b : Int) (e : Ending) : Prop := ∃ g x y f : Int, e = .returned (.tuple #[.int .i64 g, .int .i64 x, .int .i64 y, .int .i64 f]) ∧ BzRes a b g x y f

end Go.Proofs.Ytgbnmnkgelklbaa
