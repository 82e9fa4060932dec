/-
  WALKS: fractions.
-/
import Derived.Test.YtgbnmnkgelklbaaDoorAl5
namespace Go.Proofs.YtgbnmnkgelklbaaDoor.Al
open Go.RowKit
open Alm
set_option linter.unusedVariables false
set_option linter.unusedSimpArgs false
set_option maxRecDepth 100000
theorem fg_neg {a b : Int} (h : b < 0) : -(Int.gcd a b : Int) = fg a b := by unfold fg sgn; rw [if_pos h]
theorem fg_nonneg {a b : Int} (h : ¬ b < 0) : (Int.gcd a b : Int) = fg a b := by unfold fg sgn; rw [if_neg h]
theorem fg_bd {a b : Int} (hb : b ≠ 0) : fg a b ≠ 0 ∧ -(b.natAbs : Int) ≤ fg a b ∧ fg a b ≤ b.natAbs ∧ (Int.gcd a b : Int) ≤ b.natAbs := by
  have h1 : Int.gcd a b ≤ b.natAbs := Nat.le_of_dvd (by omega) (Nat.gcd_dvd_right _ _)
  have h2 : 0 < Int.gcd a b := Int.gcd_pos_of_ne_zero_right _ hb
  unfold fg sgn; split <;> omega
theorem ns_two (w : World) (a b : Int) (T : TypeId) (n : Nat) (hn : n = w.heap.size) : Ns (w.alloc (.cells #[.int .i64 a, .int .i64 b] T)) (some ⟨n, 0, none⟩) [a, b] := by
  subst hn
  intro _
  refine ⟨_, rfl, fun j hj => ?_⟩
  match j, hj with
  | 0, _ => simp [go_sem]
  | 1, _ => simp [go_sem]
end Go.Proofs.YtgbnmnkgelklbaaDoor.Al
