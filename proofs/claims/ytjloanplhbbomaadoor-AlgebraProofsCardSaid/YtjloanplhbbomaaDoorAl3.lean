/-
  WALKS: which elements are refused; lowest terms.
-/
import Derived.Test.YtjloanplhbbomaaDoorAl2
import Derived.StillTailTactics
namespace Go.Proofs.YtjloanplhbbomaaDoor.Al
open Go.RowKit
open Alm
set_option linter.unusedVariables false
set_option maxRecDepth 100000
set_option maxHeartbeats 4000000 in
theorem CheckQuat_bad (n0 n1 n2 n3 d : Int) (w : World) (h : qB ⟨n0, n1, n2, n3, d⟩ = false) :
    Calls Tryd.prog 17 #[.agg #[.int .i64 n0, .int .i64 n1, .int .i64 n2, .int .i64 n3, .int .i64 d]] w fun e w' => e = .returned (.int .i64 3) ∧ Below w.heap.size w w' := by
  rcases no_ways h with h1 | ⟨h1, h2⟩ | ⟨⟨h1, h2⟩, hh⟩
  · clear h
    go_enter Tryd.func17, Tryd.ntmps17
    go_wp2
    go_ret
    exact ⟨rfl, by go_grown⟩
  · clear h
    go_enter Tryd.func17, Tryd.ntmps17
    go_wp2
    go_ret
    exact ⟨rfl, by go_grown⟩
  · have i0 := Try.i0 (.int .i64 n0) (.int .i64 n1) (.int .i64 n2) (.int .i64 n3)
    have i1 := Try.i1 (.int .i64 n0) (.int .i64 n1) (.int .i64 n2) (.int .i64 n3)
    have i2 := Try.i2 (.int .i64 n0) (.int .i64 n1) (.int .i64 n2) (.int .i64 n3)
    have i3 := Try.i3 (.int .i64 n0) (.int .i64 n1) (.int .i64 n2) (.int .i64 n3)
    clear h
    rcases hh with a0 | ⟨a0, a1 | ⟨a1, a2 | ⟨a2, a3⟩⟩⟩
    · go_enter Tryd.func17, Tryd.ntmps17
      go_wp2_with fail
      refine (numeratorsOf_any _ _ _ _ _ _).mono ?_
      rintro e w1 ⟨rfl, hb⟩
      have HB := Lib.hid hb
      clear hb
      go_wp2_with fail
      refine wp_loop_rounds 1 ?_
      rw [rounds_succ]; go_wp2_with (go_at_call 57; refine (isWithin_any _ _ _ (by decide) (by decide)).mono ?_; rintro e w' ⟨rfl, rfl⟩)
      go_ret
      exact ⟨rfl, ((Below.refl _ _).alloc (Nat.le_refl _) _).trans (HB.out.mono (by simp))⟩
    · go_enter Tryd.func17, Tryd.ntmps17
      go_wp2_with fail
      refine (numeratorsOf_any _ _ _ _ _ _).mono ?_
      rintro e w1 ⟨rfl, hb⟩
      have HB := Lib.hid hb
      clear hb
      go_wp2_with fail
      refine wp_loop_rounds 2 ?_
      rw [rounds_succ]; go_wp2_with (go_at_call 57; refine (isWithin_any _ _ _ (by decide) (by decide)).mono ?_; rintro e w' ⟨rfl, rfl⟩)
      rw [rounds_succ]; go_wp2_with (go_at_call 57; refine (isWithin_any _ _ _ (by decide) (by decide)).mono ?_; rintro e w' ⟨rfl, rfl⟩)
      go_ret
      exact ⟨rfl, ((Below.refl _ _).alloc (Nat.le_refl _) _).trans (HB.out.mono (by simp))⟩
    · go_enter Tryd.func17, Tryd.ntmps17
      go_wp2_with fail
      refine (numeratorsOf_any _ _ _ _ _ _).mono ?_
      rintro e w1 ⟨rfl, hb⟩
      have HB := Lib.hid hb
      clear hb
      go_wp2_with fail
      refine wp_loop_rounds 3 ?_
      rw [rounds_succ]; go_wp2_with (go_at_call 57; refine (isWithin_any _ _ _ (by decide) (by decide)).mono ?_; rintro e w' ⟨rfl, rfl⟩)
      rw [rounds_succ]; go_wp2_with (go_at_call 57; refine (isWithin_any _ _ _ (by decide) (by decide)).mono ?_; rintro e w' ⟨rfl, rfl⟩)
      rw [rounds_succ]; go_wp2_with (go_at_call 57; refine (isWithin_any _ _ _ (by decide) (by decide)).mono ?_; rintro e w' ⟨rfl, rfl⟩)
      go_ret
      exact ⟨rfl, ((Below.refl _ _).alloc (Nat.le_refl _) _).trans (HB.out.mono (by simp))⟩
    · go_enter Tryd.func17, Tryd.ntmps17
      go_wp2_with fail
      refine (numeratorsOf_any _ _ _ _ _ _).mono ?_
      rintro e w1 ⟨rfl, hb⟩
      have HB := Lib.hid hb
      clear hb
      go_wp2_with fail
      refine wp_loop_rounds 4 ?_
      rw [rounds_succ]; go_wp2_with (go_at_call 57; refine (isWithin_any _ _ _ (by decide) (by decide)).mono ?_; rintro e w' ⟨rfl, rfl⟩)
      rw [rounds_succ]; go_wp2_with (go_at_call 57; refine (isWithin_any _ _ _ (by decide) (by decide)).mono ?_; rintro e w' ⟨rfl, rfl⟩)
      rw [rounds_succ]; go_wp2_with (go_at_call 57; refine (isWithin_any _ _ _ (by decide) (by decide)).mono ?_; rintro e w' ⟨rfl, rfl⟩)
      rw [rounds_succ]; go_wp2_with (go_at_call 57; refine (isWithin_any _ _ _ (by decide) (by decide)).mono ?_; rintro e w' ⟨rfl, rfl⟩)
      go_ret
      exact ⟨rfl, ((Below.refl _ _).alloc (Nat.le_refl _) _).trans (HB.out.mono (by simp))⟩
set_option maxHeartbeats 2000000 in
theorem rCheckQuat_ok (n0 n1 n2 n3 d : Int) (w : World) (h : qB ⟨n0, n1, n2, n3, d⟩ = true) :
    Calls Tryd.prog 13 #[.agg #[.int .i64 n0, .int .i64 n1, .int .i64 n2, .int .i64 n3, .int .i64 d]] w fun e w' => e = .returned (.int .i64 0) ∧ Below w.heap.size w w' := by
  obtain ⟨⟨d1, d2⟩, a0, a1, a2, a3⟩ := yes_ways h
  have a4 : withinB d 1 1000000 = true := decide_eq_true ⟨d1, d2⟩
  clear h
  go_enter Tryd.func13, Tryd.ntmps13
  go_wp2_with (first | (go_at_call 55; refine (coord_any _ _).mono ?_; rintro e w' ⟨rfl, rfl⟩) | (go_at_call 43; refine (Within_any _ _ _ _).mono ?_; rintro e w' ⟨rfl, rfl⟩))
  go_ret
  exact ⟨rfl, by go_grown⟩
set_option maxHeartbeats 2000000 in
theorem rCheckQuat_bad (n0 n1 n2 n3 d : Int) (w : World) (h : qB ⟨n0, n1, n2, n3, d⟩ = false) :
    Calls Tryd.prog 13 #[.agg #[.int .i64 n0, .int .i64 n1, .int .i64 n2, .int .i64 n3, .int .i64 d]] w fun e w' => e = .returned (.int .i64 3) ∧ Below w.heap.size w w' := by
  have hq := qB_no h
  have hh : withinB n0 (-1000000) 1000000 = false ∨ withinB n0 (-1000000) 1000000 = true ∧ (withinB n1 (-1000000) 1000000 = false ∨ withinB n1 (-1000000) 1000000 = true ∧ (withinB n2 (-1000000) 1000000 = false ∨ withinB n2 (-1000000) 1000000 = true ∧ (withinB n3 (-1000000) 1000000 = false ∨ withinB n3 (-1000000) 1000000 = true ∧ withinB d 1 1000000 = false))) := by
    unfold qin at hq
    simp only [] at hq
    unfold withinB
    simp only [decide_eq_false_iff_not, decide_eq_true_eq]
    omega
  clear h hq
  rcases hh with a0 | ⟨a0, a1 | ⟨a1, a2 | ⟨a2, a3 | ⟨a3, a4⟩⟩⟩⟩
  all_goals
    go_enter Tryd.func13, Tryd.ntmps13
    go_wp2_with (first | (go_at_call 55; refine (coord_any _ _).mono ?_; rintro e w' ⟨rfl, rfl⟩) | (go_at_call 43; refine (Within_any _ _ _ _).mono ?_; rintro e w' ⟨rfl, rfl⟩))
    go_ret
    exact ⟨rfl, by go_grown⟩
end Go.Proofs.YtjloanplhbbomaaDoor.Al
