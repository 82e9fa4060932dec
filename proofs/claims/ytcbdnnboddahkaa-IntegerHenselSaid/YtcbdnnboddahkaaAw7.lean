/-
  WALKS at the one example of 'awake': a root modulo 7, lifted to 49.
-/
import Derived.Test.YtcbdnnboddahkaaAw6
namespace Go.Proofs.Ytcbdnnboddahkaa
open Go.RowKit
set_option linter.unusedVariables false
set_option maxRecDepth 100000
set_option maxHeartbeats 400000 in
theorem cof849 (w : World) : Calls Try.prog 113 #[.int .i64 8, .int .i64 49] w fun e w' => e = .returned (.tuple #[.int .i64 1, .int .i64 (-6)]) ∧ w = w' := by
  go_enter Try.func113, Try.ntmps113
  go_wp2
  refine wp_loop_rounds 4 ?_
  rw [rounds_succ]; go_wp2
  rw [rounds_succ]; go_wp2
  rw [rounds_succ]; go_wp2
  rw [rounds_succ]; go_wp2
  go_ret2
  exact ⟨rfl, rfl⟩
theorem p227 (w : World) : Calls Try.prog 121 #[.int .i64 2, .int .i64 2, .int .i64 7] w fun e w' => e = .returned (.int .i64 4) ∧ w = w' :=
  power_lit 2 2 7 4 w (by omega) (by omega) (by omega) (by omega) (by decide +kernel)
theorem p237 (w : World) : Calls Try.prog 121 #[.int .i64 2, .int .i64 3, .int .i64 7] w fun e w' => e = .returned (.int .i64 1) ∧ w = w' :=
  power_lit 2 3 7 1 w (by omega) (by omega) (by omega) (by omega) (by decide +kernel)
theorem p337 (w : World) : Calls Try.prog 121 #[.int .i64 3, .int .i64 3, .int .i64 7] w fun e w' => e = .returned (.int .i64 6) ∧ w = w' :=
  power_lit 3 3 7 6 w (by omega) (by omega) (by omega) (by omega) (by decide +kernel)
set_option maxHeartbeats 400000 in
theorem lift7 (w : World) : Calls Try.prog 147 #[.int .i64 2, .int .i64 49, .int .i64 4] w fun e w' => e = .returned (.int .i64 39) ∧ w = w' := by
  go_enter Try.func147, Try.ntmps147
  go_wp2
  refine wp_loop_rounds 2 ?_
  rw [rounds_succ]; go_wp2_with (first | (go_at_call 113; refine (cof849 _).mono ?_; rintro e w' ⟨rfl, rfl⟩) | (go_at_call 114; refine (residue_any _ _ _ (by omega) (by omega)).mono ?_; rintro e w' ⟨rfl, rfl⟩))
  rw [rounds_succ]; go_wp2_with (go_at_call 114; refine (residue_any _ _ _ (by omega) (by omega)).mono ?_; rintro e w' ⟨rfl, rfl⟩)
  go_ret
  exact ⟨rfl, rfl⟩
set_option maxHeartbeats 400000 in
theorem rmp27 (w : World) : Calls Try.prog 180 #[.int .i64 2, .int .i64 7] w fun e w' => e = .returned (.int .i64 4) ∧ w = w' := by
  go_enter Try.func180, Try.ntmps180
  go_wp2_with (go_at_call 128; refine (strip62 _).mono ?_; rintro e w' ⟨rfl, rfl⟩)
  refine wp_loop_rounds 2 ?_
  rw [rounds_succ]; go_wp2_with (go_at_call 130; refine (jac27 _).mono ?_; rintro e w' ⟨rfl, rfl⟩)
  rw [rounds_succ]; go_wp2_with (first | (go_at_call 130; refine (jac37 _).mono ?_; rintro e w' ⟨rfl, rfl⟩) | (go_at_call 121; ((with_reducible refine (p227 _).mono ?_); rintro e w' ⟨rfl, rfl⟩)) | (go_at_call 121; ((with_reducible refine (p237 _).mono ?_); rintro e w' ⟨rfl, rfl⟩)) | (go_at_call 121; ((with_reducible refine (p337 _).mono ?_); rintro e w' ⟨rfl, rfl⟩)))
  refine wp_loop_rounds 1 ?_
  rw [rounds_succ]; go_wp2
  go_ret
  exact ⟨rfl, rfl⟩
end Go.Proofs.Ytcbdnnboddahkaa
