/-
  WALKS: Bezout of the reference package against the same relation.
-/
import Derived.Test.YtgbnmnkgelklbaaBezR
namespace Go.Proofs.Ytgbnmnkgelklbaa
open Go.RowKit
set_option linter.unusedVariables false
set_option maxRecDepth 100000

theorem tdiv_self_abs (a : Int) (ha : a ≠ 0) : a.tdiv (a.natAbs : Int) = if a < 0 then -1 else 1 := by
  by_cases h : a < 0
  · rw [if_pos h]
    have e : (a.natAbs : Int) = -a := by omega
    rw [e, Int.tdiv_neg, Int.tdiv_self ha]
  · rw [if_neg h]
    have e : (a.natAbs : Int) = a := by omega
    rw [e, Int.tdiv_self ha]
theorem ifs_any (a : Int) : (if a < 0 then (-1 : Int) else 1) = -1 ∨ (if a < 0 then (-1 : Int) else 1) = 1 := by split <;> simp
/-- the quotients by the greatest common divisor have none -/
theorem gcd_parts (a b : Int) (hz : b ≠ 0) : Int.gcd (a.tdiv (Int.gcd a b)) ((b.natAbs : Int) / Int.gcd a b) = 1 := by
  have hg : 0 < Int.gcd a b := Int.gcd_pos_of_ne_zero_right a hz
  obtain ⟨a', ha⟩ := Int.gcd_dvd_left a b
  obtain ⟨b', hb⟩ := Int.gcd_dvd_right a b
  have e1 : a.tdiv (Int.gcd a b) = a' := by
    conv => lhs; rw [ha]
    have : ((Int.gcd (↑(a.gcd b) * a') b : Nat) : Int) = Int.gcd a b := by rw [← ha]
    rw [this]
    exact Int.mul_tdiv_cancel_left _ (by omega)
  have e2 : (b.natAbs : Int) / Int.gcd a b = (b'.natAbs : Int) := by
    have e2 : (b.natAbs : Int) = Int.gcd a b * b'.natAbs := by
      conv => lhs; rw [hb, Int.natAbs_mul]
      simp
    rw [e2]; exact Int.mul_ediv_cancel_left _ (by omega)
  rw [e1, e2]
  have h1 : Int.gcd (Int.gcd a b * a') (Int.gcd a b * b') = Int.gcd a b := by rw [← ha, ← hb]
  rw [Int.gcd_mul_left, Int.natAbs_natCast] at h1
  have h2 : Int.gcd a' b' = 1 := Nat.eq_of_mul_eq_mul_left hg (h1.trans (Nat.mul_one _).symm)
  have h3 : Int.gcd a' (b'.natAbs : Int) = Int.gcd a' b' := by unfold Int.gcd; rw [Int.natAbs_natCast]
  rw [h3, h2]
/-- an inverse of the parts is the combination -/
theorem bz_of_inv {a b x : Int} (hz : b ≠ 0) (h : IsInv (a.tdiv (Int.gcd a b)) ((b.natAbs : Int) / Int.gcd a b) x) : BzX a b x := by
  have hg : 0 < Int.gcd a b := Int.gcd_pos_of_ne_zero_right a hz
  refine ⟨h.1, h.2.1, ?_⟩
  obtain ⟨t, ht⟩ := h.2.2
  have e1 : a.tdiv (Int.gcd a b) * Int.gcd a b = a := Int.tdiv_mul_cancel (Int.gcd_dvd_left a b)
  have e2 : (b.natAbs : Int) / Int.gcd a b * Int.gcd a b = b.natAbs := Int.ediv_mul_cancel (Int.dvd_natAbs.2 (Int.gcd_dvd_right a b))
  generalize a.tdiv (Int.gcd a b) = p at *
  generalize (b.natAbs : Int) / Int.gcd a b = m at *
  rw [← e2]
  have e3 : a * x - Int.gcd a b = (p * Int.gcd a b) * x - Int.gcd a b := by rw [e1]
  rw [e3]
  generalize (Int.gcd a b : Int) = g at *
  exact ⟨t, by grind⟩
theorem bz_zero {a b : Int} (hz : b ≠ 0) (h : ¬ (1 < (b.natAbs : Int) / Int.gcd a b)) : BzX a b 0 := by
  have hg : 0 < Int.gcd a b := Int.gcd_pos_of_ne_zero_right a hz
  have e2 : (b.natAbs : Int) / Int.gcd a b * Int.gcd a b = b.natAbs := Int.ediv_mul_cancel (Int.dvd_natAbs.2 (Int.gcd_dvd_right a b))
  have hq : 0 < (b.natAbs : Int) / Int.gcd a b := Int.ediv_pos_of_pos_of_dvd (by omega) (by omega) (Int.dvd_natAbs.2 (Int.gcd_dvd_right a b))
  have h1 : (b.natAbs : Int) / Int.gcd a b = 1 := by omega
  rw [h1, Int.one_mul] at e2
  refine ⟨by omega, by omega, ?_⟩
  rw [← e2]; simp
theorem ret4 {g x y y' l : Int} (h : y = y') : Ending.returned (.tuple #[.int .i64 g, .int .i64 x, .int .i64 y, .int .i64 l]) = .returned (.tuple #[.int .i64 g, .int .i64 x, .int .i64 y', .int .i64 l]) := by rw [h]
end Go.Proofs.Ytgbnmnkgelklbaa
