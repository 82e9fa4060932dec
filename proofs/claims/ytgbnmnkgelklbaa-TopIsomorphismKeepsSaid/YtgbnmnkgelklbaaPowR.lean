/-
  WALKS: Power of both packages against one relation.
-/
import Derived.Test.YtgbnmnkgelklbaaGcd
namespace Go.Proofs.Ytgbnmnkgelklbaa
open Go.RowKit
set_option linter.unusedVariables false
set_option maxRecDepth 100000
theorem power_int (a n m : Int) (w : World) (hn : 0 ≤ n) (h1 : 1 ≤ m) (h2 : m ≤ 1000000000) (h3 : n ≤ 9223372036854775807) :
    Calls Try.prog 85 #[.int .i64 a, .int .i64 n, .int .i64 m] w fun e w' => e = .returned (.int .i64 (powM a n.toNat m)) ∧ w = w' := by
  have h := power_any a m n.toNat w h1 h2 (by omega)
  rw [Int.toNat_of_nonneg hn] at h
  exact h
/-- what Power hands back -/
def PwRes (a n m x e : Int) : Prop := ((n < 0 ∨ modB m = false) ∧ x = 0 ∧ e = 2) ∨ (0 ≤ n ∧ modB m = true ∧ x = powM a n.toNat m ∧ e = 0)
theorem PwRes.unique {a n m x e x' e' : Int} (h : PwRes a n m x e) (h' : PwRes a n m x' e') : x = x' ∧ e = e' := by
  rcases h with ⟨h1, rfl, rfl⟩ | ⟨h1, h2, rfl, rfl⟩ <;> rcases h' with ⟨k1, rfl, rfl⟩ | ⟨k1, k2, rfl, rfl⟩
  · exact ⟨rfl, rfl⟩
  · rcases h1 with h1 | h1
    · omega
    · rw [h1] at k2; cases k2
  · rcases k1 with k1 | k1
    · omega
    · rw [k1] at h2; cases h2
  · exact ⟨rfl, rfl⟩
def PwEnd (a n m : Int) (e : Ending) : Prop := ∃ x l : Int, e = .returned (.tuple #[.int .i64 x, .int .i64 l]) ∧ PwRes a n m x l
end Go.Proofs.Ytgbnmnkgelklbaa
