/-
  WALKS: Inverse and Bezout of both packages against one relation.
-/
import Derived.Test.YtgbnmnkgelklbaaBez
namespace Go.Proofs.Ytgbnmnkgelklbaa
open Go.RowKit
set_option linter.unusedVariables false
set_option maxRecDepth 100000

/-- what Inverse hands back -/
def InvRes (a m x l : Int) : Prop :=
  (modB m = false ∧ x = 0 ∧ l = 2) ∨ (modB m = true ∧ Int.gcd a m ≠ 1 ∧ x = 0 ∧ l = 12) ∨ (modB m = true ∧ Int.gcd a m = 1 ∧ l = 0 ∧ IsInv a m x)
theorem InvRes.unique {a m x l x' l' : Int} (h : InvRes a m x l) (h' : InvRes a m x' l') : x = x' ∧ l = l' := by
  rcases h with ⟨a1, a2, a3⟩ | ⟨a1, a2, a3, a4⟩ | ⟨a1, a2, a3, a4⟩ <;> rcases h' with ⟨b1, b2, b3⟩ | ⟨b1, b2, b3, b4⟩ | ⟨b1, b2, b3, b4⟩
  · exact ⟨by omega, by omega⟩
  · rw [a1] at b1; cases b1
  · rw [a1] at b1; cases b1
  · rw [a1] at b1; cases b1
  · exact ⟨by omega, by omega⟩
  · exact absurd b2 a2
  · rw [a1] at b1; cases b1
  · exact absurd a2 b2
  · exact ⟨a4.unique a2 b4, by omega⟩
def InvEnd (a m : Int) (e : Ending) : Prop := ∃ x l : Int, e = .returned (.tuple #[.int .i64 x, .int .i64 l]) ∧ InvRes a m x l
end Go.Proofs.Ytgbnmnkgelklbaa
