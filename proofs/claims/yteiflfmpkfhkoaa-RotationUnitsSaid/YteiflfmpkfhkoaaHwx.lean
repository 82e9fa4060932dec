/-
  Plain mathematics of Hurwitz quaternions: an element's Hurwitz quaternion is it again.
-/
import Derived.Test.YteiflfmpkfhkoaaHwp
namespace Go.Proofs.Yteiflfmpkfhkoaa.Hwm
open Alm Al
set_option linter.unusedVariables false
set_option linter.unusedSimpArgs false
theorem low_one (a b c d : Int) : (Q.mk a b c d 1).low = ⟨a, b, c, d, 1⟩ := by
  have h1 : g5 a b c d 1 = 1 := Nat.dvd_one.1 (Nat.gcd_dvd_right _ _)
  have hg : gs a b c d 1 = 1 := by unfold gs sgn; rw [if_neg (by omega), h1]; rfl
  unfold Q.low
  simp only [hg, Int.tdiv_one]
theorem low_again {h : H} (hp : par h) : (toQ h).low = toQ h := by
  by_cases e : h.w.tmod 2 = 0
  · rw [toQ_even e]; exact low_one _ _ _ _
  · have := low_toQ hp
    rw [toQ_odd e] at this ⊢
    exact this
theorem isL_toQ {h : H} (hp : par h) : isL (toQ h) = true := by
  by_cases e : h.w.tmod 2 = 0
  · rw [toQ_even e]; unfold isL; simp
  · rw [toQ_odd e]
    obtain ⟨p1, p2, p3⟩ := hp
    have e0 : h.w % 2 ≠ 0 := fun k => e ((tmod2 _).2 k)
    have e1 : h.x.tmod 2 ≠ 0 := fun k => by have := (tmod2 _).1 k; omega
    have e2 : h.y.tmod 2 ≠ 0 := fun k => by have := (tmod2 _).1 k; omega
    have e3 : h.z.tmod 2 ≠ 0 := fun k => by have := (tmod2 _).1 k; omega
    unfold isL
    simp [e, e1, e2, e3]
theorem hL_toQ {h : H} (hp : par h) : hL (toQ h) = h := by
  by_cases e : h.w.tmod 2 = 0
  · rw [toQ_even e]
    obtain ⟨p1, p2, p3⟩ := hp
    have e0 := (tmod2 _).1 e
    unfold hL
    rw [if_pos rfl]
    exact H.ext' (Int.tdiv_mul_cancel_of_dvd (Int.dvd_of_emod_eq_zero (by omega))) (Int.tdiv_mul_cancel_of_dvd (Int.dvd_of_emod_eq_zero (by omega))) (Int.tdiv_mul_cancel_of_dvd (Int.dvd_of_emod_eq_zero (by omega))) (Int.tdiv_mul_cancel_of_dvd (Int.dvd_of_emod_eq_zero (by omega)))
  · rw [toQ_odd e]
    unfold hL
    rw [if_neg (by simp)]
theorem toQ_chk {h : H} (hp : par h) (hn : N h ≤ 1000000) : chkQ (toQ h).w (toQ h).x (toQ h).y (toQ h).z (toQ h).d = 0 := by
  have h2 := nn_par hp
  obtain ⟨b0, b1, b2, b3⟩ := nn_bd (a := h) (n := 2000) (by omega) (by omega)
  unfold chkQ
  rw [if_pos]
  unfold qB qin
  refine decide_eq_true ?_
  by_cases e : h.w.tmod 2 = 0
  · rw [toQ_even e]
    have t0 := tdiv_bd h.w 2
    have t1 := tdiv_bd h.x 2
    have t2 := tdiv_bd h.y 2
    have t3 := tdiv_bd h.z 2
    exact ⟨⟨by simp only; omega, by simp only; omega⟩, ⟨by simp only; omega, by simp only; omega⟩, ⟨by simp only; omega, by simp only; omega⟩, ⟨by simp only; omega, by simp only; omega⟩, by simp only; omega, by simp only; omega⟩
  · rw [toQ_odd e]
    exact ⟨⟨by simp only; omega, by simp only; omega⟩, ⟨by simp only; omega, by simp only; omega⟩, ⟨by simp only; omega, by simp only; omega⟩, ⟨by simp only; omega, by simp only; omega⟩, by simp only; omega, by simp only; omega⟩
theorem ac_toQ {h : H} (hp : par h) (hn : N h ≤ 1000000) : acE (toQ h) = 0 ∧ acH (toQ h) = h := by
  have e : acE (toQ h) = 0 := by
    unfold acE
    rw [if_neg (by rw [toQ_chk hp hn]; decide), low_again hp, isL_toQ hp, hL_toQ hp, if_neg (by decide), if_neg (by omega)]
  refine ⟨e, ?_⟩
  unfold acH
  rw [if_pos e, low_again hp, hL_toQ hp]
end Go.Proofs.Yteiflfmpkfhkoaa.Hwm
