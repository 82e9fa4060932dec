/-
  The reference's Hilbert symbol, at every place.
-/
import Derived.Test.YtgbnmnkgelklbaaDoorHil5
import Derived.Test.YtgbnmnkgelklbaaDoorHilM
namespace Go.Proofs.YtgbnmnkgelklbaaDoor.Rm
open Go.RowKit
set_option linter.unusedVariables false
set_option maxRecDepth 100000
open Nt (Pr leg sg Sgn)
theorem rhil_any (a b p : Int) (w : World) : Calls Tryd.prog 30 #[.int .i64 a, .int .i64 b, .int .i64 p] w fun e w' => HilEnd a b p e ∧ w = w' := by
  by_cases ha : a = 0
  · exact rhil_err a b p 10 w (.inl ⟨.inl ha, rfl⟩) (by omega)
  by_cases hb : b = 0
  · exact rhil_err a b p 10 w (.inl ⟨.inr hb, rfl⟩) (by omega)
  rcases hin : (inB' a && inB' b) with _ | _
  · exact rhil_err a b p 2 w (.inr (.inl ⟨ha, hb, hin, rfl⟩)) (by omega)
  have hin' := hin
  rw [Bool.and_eq_true] at hin'
  obtain ⟨a1, a2⟩ := withinB_of hin'.1
  obtain ⟨b1, b2⟩ := withinB_of hin'.2
  by_cases p0 : p = 0
  · subst p0; exact rhil_real a b w ha hb hin
  rcases hp : prB p with _ | _
  · exact rhil_err a b p 11 w (.inr (.inr (.inl ⟨ha, hb, hin, p0, hp, rfl⟩))) (by omega)
  by_cases p2 : p = 2
  · subst p2; exact rhil_two a b w ha hb hin a1 a2 b1 b2
  obtain ⟨c1, c2, c3⟩ := prB_of hp
  obtain ⟨k, rfl⟩ : ∃ k : Nat, p = k := ⟨p.toNat, by omega⟩
  rw [Int.toNat_natCast] at c3
  exact rhil_odd a b k w c3 (pr_odd c3 (fun h => p2 (by omega))) (by omega) ha hb hin a1 a2 b1 b2
end Go.Proofs.YtgbnmnkgelklbaaDoor.Rm
