/-
  Plain mathematics of Hurwitz quaternions: elements and their lowest terms.
-/
import Derived.Test.YteiflfmpkfhkoaaHwn
namespace Go.Proofs.Yteiflfmpkfhkoaa.Hwm
open Alm
set_option linter.unusedVariables false
set_option linter.unusedSimpArgs false
/-- the element of a Hurwitz quaternion -/
def toQ (h : H) : Q := if h.w.tmod 2 = 0 then ⟨h.w.tdiv 2, h.x.tdiv 2, h.y.tdiv 2, h.z.tdiv 2, 1⟩ else ⟨h.w, h.x, h.y, h.z, 2⟩
theorem toQ_even {h : H} (e : h.w.tmod 2 = 0) : toQ h = ⟨h.w.tdiv 2, h.x.tdiv 2, h.y.tdiv 2, h.z.tdiv 2, 1⟩ := if_pos e
theorem toQ_odd {h : H} (e : h.w.tmod 2 ≠ 0) : toQ h = ⟨h.w, h.x, h.y, h.z, 2⟩ := if_neg e
theorem tmod2 (a : Int) : a.tmod 2 = 0 ↔ a % 2 = 0 := ⟨fun h => Int.emod_eq_zero_of_dvd (Int.dvd_of_tmod_eq_zero h), fun h => Int.tmod_eq_zero_of_dvd (Int.dvd_of_emod_eq_zero h)⟩
theorem tmod2_bd (a : Int) : -1 ≤ a.tmod 2 ∧ a.tmod 2 ≤ 1 := by
  have := Int.natAbs_tmod a 2
  have h2 : (2 : Int).natAbs = 2 := rfl
  rw [h2] at this; omega
theorem g5_of {w x y z d : Int} {g : Nat} (h0 : (g : Int) ∣ w) (h1 : (g : Int) ∣ x) (h2 : (g : Int) ∣ y) (h3 : (g : Int) ∣ z) (h4 : (g : Int) ∣ d) : g ∣ g5 w x y z d := by
  unfold g5
  exact Nat.dvd_gcd (Nat.dvd_gcd (Nat.dvd_gcd (Int.ofNat_dvd_left.1 h0) (Int.ofNat_dvd_left.1 h1)) (Nat.dvd_gcd (Int.ofNat_dvd_left.1 h2) (Int.ofNat_dvd_left.1 h3))) (Int.ofNat_dvd_left.1 h4)
theorem low_toQ {h : H} (hp : par h) : (Q.mk h.w h.x h.y h.z 2).low = toQ h := by
  obtain ⟨d0, d1, d2, d3, d4⟩ := g5_dvd h.w h.x h.y h.z 2
  have hg : gs h.w h.x h.y h.z 2 = (g5 h.w h.x h.y h.z 2 : Int) := by unfold gs sgn; rw [if_neg (by omega)]
  have hle : g5 h.w h.x h.y h.z 2 ≤ 2 := g5_le (w := h.w) (x := h.x) (y := h.y) (z := h.z) (d := 2) (by omega)
  have hpos : 0 < g5 h.w h.x h.y h.z 2 := g5_pos (by omega)
  obtain ⟨p1, p2, p3⟩ := hp
  by_cases e : h.w.tmod 2 = 0
  · have e2 : h.w % 2 = 0 := (tmod2 _).1 e
    have hd : 2 ∣ g5 h.w h.x h.y h.z 2 := g5_of (g := 2) (Int.dvd_of_emod_eq_zero e2) (Int.dvd_of_emod_eq_zero (by omega)) (Int.dvd_of_emod_eq_zero (by omega)) (Int.dvd_of_emod_eq_zero (by omega)) (Int.dvd_refl 2)
    have h2 : g5 h.w h.x h.y h.z 2 = 2 := by have := Nat.le_of_dvd hpos hd; omega
    rw [toQ_even e]
    unfold Q.low
    simp only [hg, h2]
    rfl
  · have h1 : g5 h.w h.x h.y h.z 2 = 1 := by
      rcases Nat.lt_or_ge (g5 h.w h.x h.y h.z 2) 2 with h1 | h1
      · omega
      · exfalso
        have h2 : g5 h.w h.x h.y h.z 2 = 2 := by omega
        rw [h2] at d0
        have := Int.emod_eq_zero_of_dvd d0
        exact e ((tmod2 _).2 (by omega))
    rw [toQ_odd e]
    unfold Q.low
    simp only [hg, h1]
    simp only [Int.tdiv_one, Int.natCast_one]
/-- d^-1 x, for a left divisor d of x -/
def wo (x d : H) : H := (P d.conj x).ov (2 * N d)
end Go.Proofs.Yteiflfmpkfhkoaa.Hwm
