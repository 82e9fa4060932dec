/-
  Square roots modulo prime powers: lifts. Plain mathematics.
-/
import Derived.Test.YtcbdnnboddahkaaNt
namespace Go.Proofs.Ytcbdnnboddahkaa.He
open Nt
set_option linter.unusedVariables false
theorem pr_cop {p a : Int} (hp : Pr p.toNat) (h0 : 0 ≤ p) (h : ¬ p ∣ a) : Int.gcd a p = 1 := by
  have h1 : ¬ p.toNat ∣ a.natAbs := fun hd => h (by
    have h2 : (p.toNat : Int) ∣ (a.natAbs : Int) := Int.natCast_dvd_natCast.2 hd
    rw [Int.toNat_of_nonneg h0] at h2
    exact Int.dvd_natAbs.1 h2)
  have h2 := hp.coprime h1
  unfold Int.gcd
  have : p.natAbs = p.toNat := by omega
  rw [this, Nat.gcd_comm]
  exact h2
theorem cop_cancel {a m x : Int} (hg : Int.gcd a m = 1) (h : m ∣ a * x) : m ∣ x := by
  have h1 : m.natAbs ∣ a.natAbs * x.natAbs := by rw [← Int.natAbs_mul]; exact Int.natAbs_dvd_natAbs.2 h
  have h2 : Nat.Coprime m.natAbs a.natAbs := by unfold Nat.Coprime; rw [Nat.gcd_comm]; exact hg
  exact Int.natAbs_dvd_natAbs.1 (h2.dvd_of_dvd_mul_left h1)
theorem cop_pow {a p : Int} (hg : Int.gcd a p = 1) (k : Nat) : Int.gcd a (p ^ k) = 1 := by
  unfold Int.gcd at *
  rw [Int.natAbs_pow]
  exact Nat.Coprime.pow_right k hg
/-- two roots over one residue that p does not divide are one -/
theorem root_unique {p a x y : Int} {k : Nat} (hp : Pr p.toNat) (h3 : 3 ≤ p) (h1 : 1 ≤ k) (hx : p ^ k ∣ x * x - a) (hy : p ^ k ∣ y * y - a) (hxy : p ∣ x - y) (hnz : ¬ p ∣ x) : p ^ k ∣ x - y := by
  have hd := Int.dvd_sub hx hy
  have e : x * x - a - (y * y - a) = (x + y) * (x - y) := by grind
  rw [e] at hd
  have hs : ¬ p ∣ x + y := fun h => by
    have h2 := Int.dvd_add h hxy
    have e2 : x + y + (x - y) = 2 * x := by omega
    rw [e2] at h2
    have h2' : (p.toNat : Int) ∣ 2 * x := by rw [Int.toNat_of_nonneg (by omega)]; exact h2
    rcases hp.dvd_mul_int h2' with h4 | h4
    · rw [Int.toNat_of_nonneg (by omega)] at h4
      have := Int.le_of_dvd (by omega) h4
      omega
    · rw [Int.toNat_of_nonneg (by omega)] at h4
      exact hnz h4
  exact cop_cancel (cop_pow (pr_cop hp (by omega) hs) k) hd
/-- one of Newton's steps doubles the power of p that divides x^2 - a -/
theorem newton_step {x a i d : Int} (hi : d ∣ 2 * x * i - 1) (hd : d ∣ x * x - a) : d * d ∣ (x - (x * x - a) * i) * (x - (x * x - a) * i) - a := by
  obtain ⟨u, hu⟩ := hd
  obtain ⟨v, hv⟩ := hi
  have e : (x - (x * x - a) * i) * (x - (x * x - a) * i) - a = (x * x - a) * (1 - 2 * x * i) + (x * x - a) * (x * x - a) * i * i := by grind
  rw [e, hu]
  refine ⟨-(u * v) + u * u * i * i, ?_⟩
  have e2 : 1 - 2 * x * i = -(d * v) := by omega
  rw [e2]; grind
end Go.Proofs.Ytcbdnnboddahkaa.He
