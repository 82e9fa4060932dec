/-
  WALKS: the reference's lowest terms; equality with the reference; conjugates.
-/
import Derived.Test.YteiflfmpkfhkoaaAl5
namespace Go.Proofs.Yteiflfmpkfhkoaa.Al
open Go.RowKit
open Alm
set_option linter.unusedVariables false
set_option linter.unusedSimpArgs false
set_option maxRecDepth 100000
theorem gcds_g5 (n0 n1 n2 n3 d : Int) : Int.gcd (((Int.gcd n0 n1).gcd (Int.gcd n2 n3) : Nat) : Int) d = g5 n0 n1 n2 n3 d := by
  simp [g5, Int.gcd]
theorem gcd_bd {a b : Int} (h : -9223372036854775807 ≤ a ∧ a ≤ 9223372036854775807) (k : -9223372036854775807 ≤ b ∧ b ≤ 9223372036854775807) : -9223372036854775807 ≤ (Int.gcd a b : Int) ∧ (Int.gcd a b : Int) ≤ 9223372036854775807 := by
  by_cases h0 : a = 0
  · subst h0; rw [Int.gcd_comm, Int.gcd_zero]; omega
  · have : Int.gcd a b ≤ a.natAbs := Nat.le_of_dvd (by omega) (Nat.gcd_dvd_left _ _)
    omega
end Go.Proofs.Yteiflfmpkfhkoaa.Al
