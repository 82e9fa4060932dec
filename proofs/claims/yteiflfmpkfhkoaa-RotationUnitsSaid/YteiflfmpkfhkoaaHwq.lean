/-
  Plain mathematics of Hurwitz quaternions: how great the quotients of a division are.
-/
import Derived.Test.YteiflfmpkfhkoaaHwo
namespace Go.Proofs.Yteiflfmpkfhkoaa.Hwm
open Alm
set_option linter.unusedVariables false
set_option linter.unusedSimpArgs false
theorem le_sq (a : Int) : -(a * a) ≤ a ∧ a ≤ a * a := by
  have h1 := msn a
  rcases Int.lt_trichotomy a 0 with h | h | h
  · have h2 := Int.mul_nonneg (show 0 ≤ -a by omega) (show 0 ≤ -a - 1 by omega)
    have h3 : (-a) * (-a - 1) = a * a + a := by grind
    omega
  · subst h; omega
  · have h2 := Int.mul_nonneg (show 0 ≤ a by omega) (show 0 ≤ a - 1 by omega)
    have h3 : a * (a - 1) = a * a - a := by grind
    omega
theorem le_nn (a : H) : (-(nn a) ≤ a.w ∧ a.w ≤ nn a) ∧ (-(nn a) ≤ a.x ∧ a.x ≤ nn a) ∧ (-(nn a) ≤ a.y ∧ a.y ≤ nn a) ∧ (-(nn a) ≤ a.z ∧ a.z ≤ nn a) := by
  have h1 := msn a.w; have h2 := msn a.x; have h3 := msn a.y; have h4 := msn a.z
  have g1 := le_sq a.w; have g2 := le_sq a.x; have g3 := le_sq a.y; have g4 := le_sq a.z
  unfold nn
  omega
theorem mul_le {a b X d : Int} (ha : -d ≤ a ∧ a ≤ d) (hb : -X ≤ b ∧ b ≤ X) : -(X * d) ≤ a * b ∧ a * b ≤ X * d := by
  have h1 := Int.mul_nonneg (show 0 ≤ d - a by omega) (show 0 ≤ X - b by omega)
  have h2 := Int.mul_nonneg (show 0 ≤ d + a by omega) (show 0 ≤ X + b by omega)
  have h3 := Int.mul_nonneg (show 0 ≤ d - a by omega) (show 0 ≤ X + b by omega)
  have h4 := Int.mul_nonneg (show 0 ≤ d + a by omega) (show 0 ≤ X - b by omega)
  have e1 : (d - a) * (X - b) = X * d - d * b - a * X + a * b := by grind
  have e2 : (d + a) * (X + b) = X * d + d * b + a * X + a * b := by grind
  have e3 : (d - a) * (X + b) = X * d + d * b - a * X - a * b := by grind
  have e4 : (d + a) * (X - b) = X * d - d * b + a * X - a * b := by grind
  omega
/-- the products of a division, against the norm of the divisor -/
theorem P_le {x y : H} {X : Int} (h0 : -X ≤ x.w ∧ x.w ≤ X) (h1 : -X ≤ x.x ∧ x.x ≤ X) (h2 : -X ≤ x.y ∧ x.y ≤ X) (h3 : -X ≤ x.z ∧ x.z ≤ X) :
    (-(4 * (X * nn y)) ≤ (P y.conj x).w ∧ (P y.conj x).w ≤ 4 * (X * nn y)) ∧ (-(4 * (X * nn y)) ≤ (P y.conj x).x ∧ (P y.conj x).x ≤ 4 * (X * nn y)) ∧ (-(4 * (X * nn y)) ≤ (P y.conj x).y ∧ (P y.conj x).y ≤ 4 * (X * nn y)) ∧ (-(4 * (X * nn y)) ≤ (P y.conj x).z ∧ (P y.conj x).z ≤ 4 * (X * nn y)) := by
  have e := le_nn y.conj
  rw [nn_conj] at e
  obtain ⟨g0, g1, g2, g3⟩ := e
  generalize y.conj = c at *
  generalize nn y = d at *
  have m1 := mul_le g0 h0; have m2 := mul_le g1 h1; have m3 := mul_le g2 h2; have m4 := mul_le g3 h3
  have m5 := mul_le g0 h1; have m6 := mul_le g1 h0; have m7 := mul_le g2 h3; have m8 := mul_le g3 h2
  have m9 := mul_le g0 h2; have l1 := mul_le g2 h0; have l2 := mul_le g3 h1; have l3 := mul_le g1 h3
  have l4 := mul_le g0 h3; have l5 := mul_le g3 h0; have l6 := mul_le g1 h2; have l7 := mul_le g2 h1
  unfold P
  simp only []
  omega
theorem ediv_le {a X d : Int} (hd : 0 < d) (h : -(X * d) ≤ a ∧ a ≤ X * d) : -X ≤ a / d ∧ a / d ≤ X := by
  constructor
  · exact Int.le_ediv_of_mul_le hd (by rw [Int.neg_mul]; exact h.1)
  · exact Int.ediv_le_of_le_mul hd h.2
theorem qi_le {x y : H} {X : Int} (hX : 0 ≤ X) (h0 : -X ≤ x.w ∧ x.w ≤ X) (h1 : -X ≤ x.x ∧ x.x ≤ X) (h2 : -X ≤ x.y ∧ x.y ≤ X) (h3 : -X ≤ x.z ∧ x.z ≤ X) (hy : 0 < nn y) :
    ((-(8 * X + 2) ≤ (qi (P y.conj x) (nn y)).w ∧ (qi (P y.conj x) (nn y)).w ≤ 8 * X + 2) ∧ (-(8 * X + 2) ≤ (qi (P y.conj x) (nn y)).x ∧ (qi (P y.conj x) (nn y)).x ≤ 8 * X + 2) ∧ (-(8 * X + 2) ≤ (qi (P y.conj x) (nn y)).y ∧ (qi (P y.conj x) (nn y)).y ≤ 8 * X + 2) ∧ (-(8 * X + 2) ≤ (qi (P y.conj x) (nn y)).z ∧ (qi (P y.conj x) (nn y)).z ≤ 8 * X + 2)) ∧
    ((-(8 * X + 2) ≤ (qh (P y.conj x) (nn y)).w ∧ (qh (P y.conj x) (nn y)).w ≤ 8 * X + 2) ∧ (-(8 * X + 2) ≤ (qh (P y.conj x) (nn y)).x ∧ (qh (P y.conj x) (nn y)).x ≤ 8 * X + 2) ∧ (-(8 * X + 2) ≤ (qh (P y.conj x) (nn y)).y ∧ (qh (P y.conj x) (nn y)).y ≤ 8 * X + 2) ∧ (-(8 * X + 2) ≤ (qh (P y.conj x) (nn y)).z ∧ (qh (P y.conj x) (nn y)).z ≤ 8 * X + 2)) := by
  obtain ⟨c0, c1, c2, c3⟩ := P_le (y := y) h0 h1 h2 h3
  generalize P y.conj x = c at *
  generalize nn y = d at *
  have one : ∀ t : Int, (-(4 * (X * d)) ≤ t ∧ t ≤ 4 * (X * d)) → (-(8 * X + 2) ≤ 2 * ((2 * t + d) / (2 * d)) ∧ 2 * ((2 * t + d) / (2 * d)) ≤ 8 * X + 2) ∧ (-(8 * X + 2) ≤ 2 * (t / d) + 1 ∧ 2 * (t / d) + 1 ≤ 8 * X + 2) := by
    intro t ht
    have e1 : (4 * X + 1) * (2 * d) = 8 * (X * d) + 2 * d := by grind
    have a1 := ediv_le (a := 2 * t + d) (X := 4 * X + 1) (d := 2 * d) (by omega) (by omega)
    have e2 : (4 * X) * d = 4 * (X * d) := by grind
    have a2 := ediv_le (a := t) (X := 4 * X) (d := d) hy (by omega)
    omega
  unfold qi qh
  simp only []
  exact ⟨⟨(one _ c0).1, (one _ c1).1, (one _ c2).1, (one _ c3).1⟩, ⟨(one _ c0).2, (one _ c1).2, (one _ c2).2, (one _ c3).2⟩⟩
end Go.Proofs.Yteiflfmpkfhkoaa.Hwm
