/-
  WALKS of the small functions on numerators and elements.
-/
import Derived.Test.YtgbnmnkgelklbaaAl1
import Derived.Handy
namespace Go.Proofs.Ytgbnmnkgelklbaa.Al
open Go.RowKit
open Alm
set_option linter.unusedVariables false
set_option maxRecDepth 100000
theorem numeratorsOf_any (n0 n1 n2 n3 d : Int) (w : World) :
    Calls Try.prog 60 #[.agg #[.int .i64 n0, .int .i64 n1, .int .i64 n2, .int .i64 n3, .int .i64 d]] w fun e w' => e = .returned (.agg #[.int .i64 n0, .int .i64 n1, .int .i64 n2, .int .i64 n3]) ∧ Below w.heap.size w w' := by
  go_enter Try.func60, Try.ntmps60
  go_wp2
  exact bodyPost_ret (v := .agg #[.int .i64 n0, .int .i64 n1, .int .i64 n2, .int .i64 n3]) (by simp [results, Try.results60, go_sem]) rfl ⟨rfl, by go_grown⟩
theorem conjugate_any (n0 n1 n2 n3 : Int) (w : World) (h1 : -9223372036854775807 ≤ n1) (h1' : n1 ≤ 9223372036854775807) (h2 : -9223372036854775807 ≤ n2) (h2' : n2 ≤ 9223372036854775807) (h3 : -9223372036854775807 ≤ n3) (h3' : n3 ≤ 9223372036854775807) :
    Calls Try.prog 72 #[.agg #[.int .i64 n0, .int .i64 n1, .int .i64 n2, .int .i64 n3]] w fun e w' => e = .returned (.agg #[.int .i64 n0, .int .i64 (-n1), .int .i64 (-n2), .int .i64 (-n3)]) ∧ Below w.heap.size w w' := by
  go_enter Try.func72, Try.ntmps72
  go_wp2
  exact bodyPost_ret (v := .agg #[.int .i64 n0, .int .i64 (-n1), .int .i64 (-n2), .int .i64 (-n3)]) (by simp [results, Try.results72, go_sem]) rfl ⟨rfl, by go_grown⟩
theorem scaled_any (n0 n1 n2 n3 s : Int) (w : World) (h0 : -9223372036854775807 ≤ n0 * s) (h0' : n0 * s ≤ 9223372036854775807) (h1 : -9223372036854775807 ≤ n1 * s) (h1' : n1 * s ≤ 9223372036854775807) (h2 : -9223372036854775807 ≤ n2 * s) (h2' : n2 * s ≤ 9223372036854775807) (h3 : -9223372036854775807 ≤ n3 * s) (h3' : n3 * s ≤ 9223372036854775807) :
    Calls Try.prog 65 #[.agg #[.int .i64 n0, .int .i64 n1, .int .i64 n2, .int .i64 n3], .int .i64 s] w fun e w' => e = .returned (.agg #[.int .i64 (n0 * s), .int .i64 (n1 * s), .int .i64 (n2 * s), .int .i64 (n3 * s)]) ∧ Below w.heap.size w w' := by
  go_enter Try.func65, Try.ntmps65
  go_wp2
  exact bodyPost_ret (v := .agg #[.int .i64 (n0 * s), .int .i64 (n1 * s), .int .i64 (n2 * s), .int .i64 (n3 * s)]) (by simp [results, Try.results65, go_sem]) rfl ⟨rfl, by go_grown⟩
theorem plus_any (n0 n1 n2 n3 m0 m1 m2 m3 : Int) (w : World) (h0 : -9223372036854775807 ≤ n0 + m0 ∧ n0 + m0 ≤ 9223372036854775807) (h1 : -9223372036854775807 ≤ n1 + m1 ∧ n1 + m1 ≤ 9223372036854775807) (h2 : -9223372036854775807 ≤ n2 + m2 ∧ n2 + m2 ≤ 9223372036854775807) (h3 : -9223372036854775807 ≤ n3 + m3 ∧ n3 + m3 ≤ 9223372036854775807) :
    Calls Try.prog 73 #[.agg #[.int .i64 n0, .int .i64 n1, .int .i64 n2, .int .i64 n3], .agg #[.int .i64 m0, .int .i64 m1, .int .i64 m2, .int .i64 m3]] w fun e w' => e = .returned (.agg #[.int .i64 (n0 + m0), .int .i64 (n1 + m1), .int .i64 (n2 + m2), .int .i64 (n3 + m3)]) ∧ Below w.heap.size w w' := by
  go_enter Try.func73, Try.ntmps73
  go_wp2
  exact bodyPost_ret (v := .agg #[.int .i64 (n0 + m0), .int .i64 (n1 + m1), .int .i64 (n2 + m2), .int .i64 (n3 + m3)]) (by simp [results, Try.results73, go_sem]) rfl ⟨rfl, by go_grown⟩
theorem Try.i0 (a b c d : Value) : ∀ w, (Instr.index 73 (.agg #[a, b, c, d]) (.int .i64 0)).run Try.prog w = .ok a w := fun _ => by kernel_rfl
theorem Try.i1 (a b c d : Value) : ∀ w, (Instr.index 73 (.agg #[a, b, c, d]) (.int .i64 1)).run Try.prog w = .ok b w := fun _ => by kernel_rfl
theorem Try.i2 (a b c d : Value) : ∀ w, (Instr.index 73 (.agg #[a, b, c, d]) (.int .i64 2)).run Try.prog w = .ok c w := fun _ => by kernel_rfl
theorem Try.i3 (a b c d : Value) : ∀ w, (Instr.index 73 (.agg #[a, b, c, d]) (.int .i64 3)).run Try.prog w = .ok d w := fun _ => by kernel_rfl
/-- what ways an element is refused -/
theorem no_ways {n0 n1 n2 n3 d : Int} (h : qB ⟨n0, n1, n2, n3, d⟩ = false) : d < 1 ∨ (1 ≤ d ∧ 1000000 < d) ∨ (1 ≤ d ∧ d ≤ 1000000) ∧ (withinB n0 (-1000000) 1000000 = false ∨ withinB n0 (-1000000) 1000000 = true ∧ (withinB n1 (-1000000) 1000000 = false ∨ withinB n1 (-1000000) 1000000 = true ∧ (withinB n2 (-1000000) 1000000 = false ∨ withinB n2 (-1000000) 1000000 = true ∧ withinB n3 (-1000000) 1000000 = false))) := by
  have h := qB_no h
  unfold qin at h
  simp only [] at h
  unfold withinB
  simp only [decide_eq_false_iff_not, decide_eq_true_eq]
  omega
theorem yes_ways {n0 n1 n2 n3 d : Int} (h : qB ⟨n0, n1, n2, n3, d⟩ = true) : (1 ≤ d ∧ d ≤ 1000000) ∧ withinB n0 (-1000000) 1000000 = true ∧ withinB n1 (-1000000) 1000000 = true ∧ withinB n2 (-1000000) 1000000 = true ∧ withinB n3 (-1000000) 1000000 = true := by
  have h := qB_of h
  unfold qin at h
  simp only [] at h
  unfold withinB
  simp only [decide_eq_true_eq]
  omega
set_option maxHeartbeats 4000000 in
theorem CheckQuat_ok (n0 n1 n2 n3 d : Int) (w : World) (h : qB ⟨n0, n1, n2, n3, d⟩ = true) :
    Calls Try.prog 39 #[.agg #[.int .i64 n0, .int .i64 n1, .int .i64 n2, .int .i64 n3, .int .i64 d]] w fun e w' => e = .returned (.int .i64 0) ∧ Below w.heap.size w w' := by
  obtain ⟨⟨d1, d2⟩, a0, a1, a2, a3⟩ := yes_ways h
  have i0 := Try.i0 (.int .i64 n0) (.int .i64 n1) (.int .i64 n2) (.int .i64 n3)
  have i1 := Try.i1 (.int .i64 n0) (.int .i64 n1) (.int .i64 n2) (.int .i64 n3)
  have i2 := Try.i2 (.int .i64 n0) (.int .i64 n1) (.int .i64 n2) (.int .i64 n3)
  have i3 := Try.i3 (.int .i64 n0) (.int .i64 n1) (.int .i64 n2) (.int .i64 n3)
  clear h
  go_enter Try.func39, Try.ntmps39
  go_wp2_with fail
  refine (numeratorsOf_any _ _ _ _ _ _).mono ?_
  rintro e w1 ⟨rfl, hb⟩
  have HB := Lib.hid hb
  clear hb
  go_wp2_with fail
  refine wp_loop_rounds 5 ?_
  rw [rounds_succ]; go_wp2_with (go_at_call 53; refine (isWithin_any _ _ _ (by decide) (by decide)).mono ?_; rintro e w' ⟨rfl, rfl⟩)
  rw [rounds_succ]; go_wp2_with (go_at_call 53; refine (isWithin_any _ _ _ (by decide) (by decide)).mono ?_; rintro e w' ⟨rfl, rfl⟩)
  rw [rounds_succ]; go_wp2_with (go_at_call 53; refine (isWithin_any _ _ _ (by decide) (by decide)).mono ?_; rintro e w' ⟨rfl, rfl⟩)
  rw [rounds_succ]; go_wp2_with (go_at_call 53; refine (isWithin_any _ _ _ (by decide) (by decide)).mono ?_; rintro e w' ⟨rfl, rfl⟩)
  rw [rounds_succ]; go_wp2
  go_ret
  exact ⟨rfl, ((Below.refl _ _).alloc (Nat.le_refl _) _).trans (HB.out.mono (by simp))⟩
end Go.Proofs.Ytgbnmnkgelklbaa.Al
