/-
  WALKS: fractions.
-/
import Derived.Test.YtgbnmnkgelklbaaAl5
namespace Go.Proofs.Ytgbnmnkgelklbaa.Al
open Go.RowKit
open Alm
set_option linter.unusedVariables false
set_option linter.unusedSimpArgs false
set_option maxRecDepth 100000
theorem fg_neg {a b : Int} (h : b < 0) : -(Int.gcd a b : Int) = fg a b := by unfold fg sgn; rw [if_pos h]
theorem fg_nonneg {a b : Int} (h : ¬ b < 0) : (Int.gcd a b : Int) = fg a b := by unfold fg sgn; rw [if_neg h]
theorem fg_bd {a b : Int} (hb : b ≠ 0) : fg a b ≠ 0 ∧ -(b.natAbs : Int) ≤ fg a b ∧ fg a b ≤ b.natAbs ∧ (Int.gcd a b : Int) ≤ b.natAbs := by
  have h1 : Int.gcd a b ≤ b.natAbs := Nat.le_of_dvd (by omega) (Nat.gcd_dvd_right _ _)
  have h2 : 0 < Int.gcd a b := Int.gcd_pos_of_ne_zero_right _ hb
  unfold fg sgn; split <;> omega
theorem ns_two (w : World) (a b : Int) (T : TypeId) (n : Nat) (hn : n = w.heap.size) : Ns (w.alloc (.cells #[.int .i64 a, .int .i64 b] T)) (some ⟨n, 0, none⟩) [a, b] := by
  subst hn
  intro _
  refine ⟨_, rfl, fun j hj => ?_⟩
  match j, hj with
  | 0, _ => simp [go_sem]
  | 1, _ => simp [go_sem]
set_option maxHeartbeats 2000000 in
theorem fraction_any (a b : Int) (w : World) (h0 : -9223372036854775807 ≤ a ∧ a ≤ 9223372036854775807) (h1 : 0 < b ∧ b ≤ 9223372036854775807) :
    Calls Try.prog 61 #[.int .i64 a, .int .i64 b] w fun e w' => e = .returned (.agg #[.int .i64 (fn a b), .int .i64 (fd a b)]) ∧ Below w.heap.size w w' := by
  obtain ⟨g1, g2, g3, g4⟩ := fg_bd (a := a) (b := b) (by omega)
  have b0 := tdiv_bd a (fg a b)
  have b1 := tdiv_bd b (fg a b)
  have EG := Lib.hid (fg_nonneg (a := a) (b := b) (by omega))
  have HG := Lib.hid g1
  clear g1
  go_enter Try.func61, Try.ntmps61
  go_wp2_with fail
  refine (cd_any [a, b] _ _ _ (by simp) (by simp) (by decide) (ns_two _ _ _ _ _ (by simp)) (by intro j hj; match j, hj with | 0, _ => exact h0 | 1, _ => exact ⟨by simp; omega, h1.2⟩)).mono ?_
  rintro e w1 ⟨rfl, n, rfl⟩
  rw [cdl2, EG.out]
  go_wp2
  have hgs := HG.out
  have e0 := IntWalk.i64_in (a.tdiv (fg a b)) (by omega)
  have e1 := IntWalk.i64_in (b.tdiv (fg a b)) (by omega)
  go_region
  clear e0 e1 hgs
  go_wp2
  exact bodyPost_ret (v := .agg #[.int .i64 (a.tdiv (fg a b)), .int .i64 (b.tdiv (fg a b))]) (by simp [results, Try.results61, go_sem]) rfl ⟨rfl, by (repeat (first | (with_reducible exact Below.refl _ _) | (with_reducible exact HB.out) | (with_reducible refine below_draws ?_ _) | (with_reducible refine Below.alloc ?_ (by go_size) _) | (with_reducible refine Below.setCell ?_ (by go_size) _) | (with_reducible refine Below.alloc ?_ (by simp <;> omega) _) | (with_reducible refine Below.setCell ?_ (by simp <;> omega) _)))⟩
end Go.Proofs.Ytgbnmnkgelklbaa.Al
