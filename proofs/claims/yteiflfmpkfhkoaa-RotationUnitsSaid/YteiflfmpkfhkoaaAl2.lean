/-
  WALKS of the small functions on numerators and elements.
-/
import Derived.Test.YteiflfmpkfhkoaaAl1
import Derived.Handy
namespace Go.Proofs.Yteiflfmpkfhkoaa.Al
open Go.RowKit
open Alm
set_option linter.unusedVariables false
set_option maxRecDepth 100000
theorem numeratorsOf_any (n0 n1 n2 n3 d : Int) (w : World) :
    Calls Try.prog 136 #[.agg #[.int .i64 n0, .int .i64 n1, .int .i64 n2, .int .i64 n3, .int .i64 d]] w fun e w' => e = .returned (.agg #[.int .i64 n0, .int .i64 n1, .int .i64 n2, .int .i64 n3]) ∧ Below w.heap.size w w' := by
  go_enter Try.func136, Try.ntmps136
  go_wp2
  exact bodyPost_ret (v := .agg #[.int .i64 n0, .int .i64 n1, .int .i64 n2, .int .i64 n3]) (by simp [results, Try.results136, go_sem]) rfl ⟨rfl, by go_grown⟩
theorem Try.i0 (a b c d : Value) : ∀ w, (Instr.index 160 (.agg #[a, b, c, d]) (.int .i64 0)).run Try.prog w = .ok a w := fun _ => by kernel_rfl
theorem Try.i1 (a b c d : Value) : ∀ w, (Instr.index 160 (.agg #[a, b, c, d]) (.int .i64 1)).run Try.prog w = .ok b w := fun _ => by kernel_rfl
theorem Try.i2 (a b c d : Value) : ∀ w, (Instr.index 160 (.agg #[a, b, c, d]) (.int .i64 2)).run Try.prog w = .ok c w := fun _ => by kernel_rfl
theorem Try.i3 (a b c d : Value) : ∀ w, (Instr.index 160 (.agg #[a, b, c, d]) (.int .i64 3)).run Try.prog w = .ok d w := fun _ => by kernel_rfl
/-- what ways an element is refused -/
theorem no_ways {n0 n1 n2 n3 d : Int} (h : qB ⟨n0, n1, n2, n3, d⟩ = false) : d < 1 ∨ (1 ≤ d ∧ 1000000 < d) ∨ (1 ≤ d ∧ d ≤ 1000000) ∧ (withinB n0 (-1000000) 1000000 = false ∨ withinB n0 (-1000000) 1000000 = true ∧ (withinB n1 (-1000000) 1000000 = false ∨ withinB n1 (-1000000) 1000000 = true ∧ (withinB n2 (-1000000) 1000000 = false ∨ withinB n2 (-1000000) 1000000 = true ∧ withinB n3 (-1000000) 1000000 = false))) := by
  have h := qB_no h
  unfold qin at h
  simp only [] at h
  unfold withinB
  simp only [decide_eq_false_iff_not, decide_eq_true_eq]
  omega
theorem yes_ways {n0 n1 n2 n3 d : Int} (h : qB ⟨n0, n1, n2, n3, d⟩ = true) : (1 ≤ d ∧ d ≤ 1000000) ∧ withinB n0 (-1000000) 1000000 = true ∧ withinB n1 (-1000000) 1000000 = true ∧ withinB n2 (-1000000) 1000000 = true ∧ withinB n3 (-1000000) 1000000 = true := by
  have h := qB_of h
  unfold qin at h
  simp only [] at h
  unfold withinB
  simp only [decide_eq_true_eq]
  omega
set_option maxHeartbeats 4000000 in
theorem CheckQuat_ok (n0 n1 n2 n3 d : Int) (w : World) (h : qB ⟨n0, n1, n2, n3, d⟩ = true) :
    Calls Try.prog 118 #[.agg #[.int .i64 n0, .int .i64 n1, .int .i64 n2, .int .i64 n3, .int .i64 d]] w fun e w' => e = .returned (.int .i64 0) ∧ Below w.heap.size w w' := by
  obtain ⟨⟨d1, d2⟩, a0, a1, a2, a3⟩ := yes_ways h
  have i0 := Try.i0 (.int .i64 n0) (.int .i64 n1) (.int .i64 n2) (.int .i64 n3)
  have i1 := Try.i1 (.int .i64 n0) (.int .i64 n1) (.int .i64 n2) (.int .i64 n3)
  have i2 := Try.i2 (.int .i64 n0) (.int .i64 n1) (.int .i64 n2) (.int .i64 n3)
  have i3 := Try.i3 (.int .i64 n0) (.int .i64 n1) (.int .i64 n2) (.int .i64 n3)
  clear h
  go_enter Try.func118, Try.ntmps118
  go_wp2_with fail
  refine (numeratorsOf_any _ _ _ _ _ _).mono ?_
  rintro e w1 ⟨rfl, hb⟩
  have HB := Lib.hid hb
  clear hb
  go_wp2_with fail
  refine wp_loop_rounds 5 ?_
  rw [rounds_succ]; go_wp2_with (go_at_call 137; refine (isWithin_any _ _ _ (by decide) (by decide)).mono ?_; rintro e w' ⟨rfl, rfl⟩)
  rw [rounds_succ]; go_wp2_with (go_at_call 137; refine (isWithin_any _ _ _ (by decide) (by decide)).mono ?_; rintro e w' ⟨rfl, rfl⟩)
  rw [rounds_succ]; go_wp2_with (go_at_call 137; refine (isWithin_any _ _ _ (by decide) (by decide)).mono ?_; rintro e w' ⟨rfl, rfl⟩)
  rw [rounds_succ]; go_wp2_with (go_at_call 137; refine (isWithin_any _ _ _ (by decide) (by decide)).mono ?_; rintro e w' ⟨rfl, rfl⟩)
  rw [rounds_succ]; go_wp2
  go_ret
  exact ⟨rfl, ((Below.refl _ _).alloc (Nat.le_refl _) _).trans (HB.out.mono (by simp))⟩
end Go.Proofs.Yteiflfmpkfhkoaa.Al
