/-
  WALKS: which elements are refused; lowest terms.
-/
import Derived.Test.YteiflfmpkfhkoaaAl2
import Derived.StillTailTactics
namespace Go.Proofs.Yteiflfmpkfhkoaa.Al
open Go.RowKit
open Alm
set_option linter.unusedVariables false
set_option maxRecDepth 100000
set_option maxHeartbeats 4000000 in
theorem CheckQuat_bad (n0 n1 n2 n3 d : Int) (w : World) (h : qB ⟨n0, n1, n2, n3, d⟩ = false) :
    Calls Try.prog 118 #[.agg #[.int .i64 n0, .int .i64 n1, .int .i64 n2, .int .i64 n3, .int .i64 d]] w fun e w' => e = .returned (.int .i64 3) ∧ Below w.heap.size w w' := by
  rcases no_ways h with h1 | ⟨h1, h2⟩ | ⟨⟨h1, h2⟩, hh⟩
  · clear h
    go_enter Try.func118, Try.ntmps118
    go_wp2
    go_ret
    exact ⟨rfl, by go_grown⟩
  · clear h
    go_enter Try.func118, Try.ntmps118
    go_wp2
    go_ret
    exact ⟨rfl, by go_grown⟩
  · have i0 := Try.i0 (.int .i64 n0) (.int .i64 n1) (.int .i64 n2) (.int .i64 n3)
    have i1 := Try.i1 (.int .i64 n0) (.int .i64 n1) (.int .i64 n2) (.int .i64 n3)
    have i2 := Try.i2 (.int .i64 n0) (.int .i64 n1) (.int .i64 n2) (.int .i64 n3)
    have i3 := Try.i3 (.int .i64 n0) (.int .i64 n1) (.int .i64 n2) (.int .i64 n3)
    clear h
    rcases hh with a0 | ⟨a0, a1 | ⟨a1, a2 | ⟨a2, a3⟩⟩⟩
    · go_enter Try.func118, Try.ntmps118
      go_wp2_with fail
      refine (numeratorsOf_any _ _ _ _ _ _).mono ?_
      rintro e w1 ⟨rfl, hb⟩
      have HB := Lib.hid hb
      clear hb
      go_wp2_with fail
      refine wp_loop_rounds 1 ?_
      rw [rounds_succ]; go_wp2_with (go_at_call 137; refine (isWithin_any _ _ _ (by decide) (by decide)).mono ?_; rintro e w' ⟨rfl, rfl⟩)
      go_ret
      exact ⟨rfl, ((Below.refl _ _).alloc (Nat.le_refl _) _).trans (HB.out.mono (by simp))⟩
    · go_enter Try.func118, Try.ntmps118
      go_wp2_with fail
      refine (numeratorsOf_any _ _ _ _ _ _).mono ?_
      rintro e w1 ⟨rfl, hb⟩
      have HB := Lib.hid hb
      clear hb
      go_wp2_with fail
      refine wp_loop_rounds 2 ?_
      rw [rounds_succ]; go_wp2_with (go_at_call 137; refine (isWithin_any _ _ _ (by decide) (by decide)).mono ?_; rintro e w' ⟨rfl, rfl⟩)
      rw [rounds_succ]; go_wp2_with (go_at_call 137; refine (isWithin_any _ _ _ (by decide) (by decide)).mono ?_; rintro e w' ⟨rfl, rfl⟩)
      go_ret
      exact ⟨rfl, ((Below.refl _ _).alloc (Nat.le_refl _) _).trans (HB.out.mono (by simp))⟩
    · go_enter Try.func118, Try.ntmps118
      go_wp2_with fail
      refine (numeratorsOf_any _ _ _ _ _ _).mono ?_
      rintro e w1 ⟨rfl, hb⟩
      have HB := Lib.hid hb
      clear hb
      go_wp2_with fail
      refine wp_loop_rounds 3 ?_
      rw [rounds_succ]; go_wp2_with (go_at_call 137; refine (isWithin_any _ _ _ (by decide) (by decide)).mono ?_; rintro e w' ⟨rfl, rfl⟩)
      rw [rounds_succ]; go_wp2_with (go_at_call 137; refine (isWithin_any _ _ _ (by decide) (by decide)).mono ?_; rintro e w' ⟨rfl, rfl⟩)
      rw [rounds_succ]; go_wp2_with (go_at_call 137; refine (isWithin_any _ _ _ (by decide) (by decide)).mono ?_; rintro e w' ⟨rfl, rfl⟩)
      go_ret
      exact ⟨rfl, ((Below.refl _ _).alloc (Nat.le_refl _) _).trans (HB.out.mono (by simp))⟩
    · go_enter Try.func118, Try.ntmps118
      go_wp2_with fail
      refine (numeratorsOf_any _ _ _ _ _ _).mono ?_
      rintro e w1 ⟨rfl, hb⟩
      have HB := Lib.hid hb
      clear hb
      go_wp2_with fail
      refine wp_loop_rounds 4 ?_
      rw [rounds_succ]; go_wp2_with (go_at_call 137; refine (isWithin_any _ _ _ (by decide) (by decide)).mono ?_; rintro e w' ⟨rfl, rfl⟩)
      rw [rounds_succ]; go_wp2_with (go_at_call 137; refine (isWithin_any _ _ _ (by decide) (by decide)).mono ?_; rintro e w' ⟨rfl, rfl⟩)
      rw [rounds_succ]; go_wp2_with (go_at_call 137; refine (isWithin_any _ _ _ (by decide) (by decide)).mono ?_; rintro e w' ⟨rfl, rfl⟩)
      rw [rounds_succ]; go_wp2_with (go_at_call 137; refine (isWithin_any _ _ _ (by decide) (by decide)).mono ?_; rintro e w' ⟨rfl, rfl⟩)
      go_ret
      exact ⟨rfl, ((Below.refl _ _).alloc (Nat.le_refl _) _).trans (HB.out.mono (by simp))⟩
end Go.Proofs.Yteiflfmpkfhkoaa.Al
