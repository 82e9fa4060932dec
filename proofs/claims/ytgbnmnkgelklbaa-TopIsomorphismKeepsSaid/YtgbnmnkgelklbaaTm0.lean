/-
  WALKS: 'ramifies', the example with which the theorems across the layers of stage 3 begin.
-/
import Derived.Test.YtgbnmnkgelklbaaMgRm
import Derived.Laws.OwnMore
import Derived.Outline
namespace Go.Proofs.Ytgbnmnkgelklbaa.Tm
open Go.RowKit
open Nt (Pr)
open Al
open Rm
set_option linter.unusedVariables false
set_option linter.unusedSimpArgs false
set_option maxRecDepth 100000
theorem pr3 : Pr 3 := ⟨by omega, fun d hd => by
  have h1 := Nat.le_of_dvd (by omega) hd
  have h2 : d ≠ 0 := by rintro rfl; simp at hd
  have h3 : d ≠ 2 := by rintro rfl; revert hd; decide
  omega⟩
theorem res2 : HilRes (-1) 3 2 (-1) 0 := .inr (.inr (.inr ⟨by decide, by decide, by decide, .inr prB_two, .inr (.inl ⟨rfl, -1, 3, 0, 0, by decide, ⟨by decide, by decide⟩, ⟨by decide, by decide⟩⟩), rfl⟩))
theorem res3 : HilRes (-1) 3 3 (-1) 0 := by
  have hp : prB 3 = true := prB_t ⟨by omega, by omega, pr3⟩
  refine .inr (.inr (.inr ⟨by decide, by decide, by decide, .inr hp, .inr (.inr ⟨by decide, hp, -1, 1, 0, 1, ?_, ⟨by decide, by decide⟩, ⟨by decide, by decide⟩⟩), rfl⟩))
  have hl := Nt.leg_neg_one pr3 (by decide)
  show -1 = hOdd 3 (-1) 1 0 1
  unfold hOdd
  rw [hl]
  decide
theorem RL_ex : RL (-1) 3 1001 = [2, 3] := by
  have h4 : RL (-1) 3 1001 = RL (-1) 3 4 := by
    unfold RL
    refine filt_skip _ (by omega) fun q h3 _ => ?_
    rw [Bool.eq_false_iff]; intro h4
    obtain ⟨h5, h6 | h6 | h6, -⟩ := ramB_iff.1 h4
    · omega
    · have := Nat.le_of_dvd (by decide) h6; have e : (-1 : Int).natAbs = 1 := rfl; omega
    · have := Nat.le_of_dvd (by decide) h6; have e : (3 : Int).natAbs = 3 := rfl; omega
  have f0 : ramB (-1) 3 0 = false := by rw [Bool.eq_false_iff]; intro h; have := (ramB_iff.1 h).1.1; omega
  have f1 : ramB (-1) 3 1 = false := by rw [Bool.eq_false_iff]; intro h; have := (ramB_iff.1 h).1.1; omega
  have f2 : ramB (-1) 3 2 = true := ramB_iff.2 ⟨pr_two, .inl rfl, (hv_of res2).1.symm⟩
  have f3 : ramB (-1) 3 3 = true := ramB_iff.2 ⟨pr3, .inr (.inr (Nat.dvd_refl 3)), (hv_of res3).1.symm⟩
  rw [h4]
  unfold RL
  rw [show List.range 4 = [0, 1, 2, 3] from rfl]
  simp [List.filter, f0, f1, f2, f3]
end Go.Proofs.Ytgbnmnkgelklbaa.Tm
