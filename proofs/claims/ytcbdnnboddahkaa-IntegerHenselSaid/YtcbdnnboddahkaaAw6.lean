/-
  WALKS at the one example of 'awake': the small functions on machine integers, round by round.
-/
import Derived.Test.YtcbdnnboddahkaaBez
namespace Go.Proofs.Ytcbdnnboddahkaa
open Go.RowKit
set_option linter.unusedVariables false
set_option maxRecDepth 100000
set_option maxHeartbeats 400000 in
theorem ld7 (w : World) : Calls Try.prog 143 #[.int .i64 7, .int .i64 2] w fun e w' => e = .returned (.int .i64 7) ∧ w = w' := by
  go_enter Try.func143, Try.ntmps143
  go_wp2
  refine wp_loop_rounds 2 ?_
  rw [rounds_succ]; go_wp2
  rw [rounds_succ]; go_wp2
  go_ret
  exact ⟨rfl, rfl⟩
set_option maxHeartbeats 400000 in
theorem isp7 (w : World) : Calls Try.prog 71 #[.int .i64 7] w fun e w' => e = .returned (.bool true) ∧ w = w' := by
  go_enter Try.func71, Try.ntmps71
  go_wp2_with (go_at_call 143; refine (ld7 _).mono ?_; rintro e w' ⟨rfl, rfl⟩)
  go_ret
  exact ⟨rfl, rfl⟩
set_option maxHeartbeats 400000 in
theorem pp72 (w : World) : Calls Try.prog 145 #[.int .i64 7, .int .i64 2] w fun e w' => e = .returned (.tuple #[.int .i64 49, .int .i64 0]) ∧ w = w' := by
  go_enter Try.func145, Try.ntmps145
  go_wp2_with (go_at_call 71; refine (isp7 _).mono ?_; rintro e w' ⟨rfl, rfl⟩)
  refine wp_loop_rounds 3 ?_
  rw [rounds_succ]; go_wp2
  rw [rounds_succ]; go_wp2
  rw [rounds_succ]; go_wp2
  go_ret2
  exact ⟨rfl, rfl⟩
set_option maxHeartbeats 400000 in
theorem strip27 (w : World) : Calls Try.prog 128 #[.int .i64 2, .int .i64 7] w fun e w' => e = .returned (.tuple #[.int .i64 2, .int .i64 0]) ∧ w = w' := by
  go_enter Try.func128, Try.ntmps128
  go_wp2
  refine wp_loop_rounds 1 ?_
  rw [rounds_succ]; go_wp2
  go_ret2
  exact ⟨rfl, rfl⟩
set_option maxHeartbeats 400000 in
theorem strip62 (w : World) : Calls Try.prog 128 #[.int .i64 6, .int .i64 2] w fun e w' => e = .returned (.tuple #[.int .i64 3, .int .i64 1]) ∧ w = w' := by
  go_enter Try.func128, Try.ntmps128
  go_wp2
  refine wp_loop_rounds 2 ?_
  rw [rounds_succ]; go_wp2
  rw [rounds_succ]; go_wp2
  go_ret2
  exact ⟨rfl, rfl⟩
set_option maxHeartbeats 400000 in
theorem strip12 (w : World) : Calls Try.prog 128 #[.int .i64 (-1), .int .i64 2] w fun e w' => e = .returned (.tuple #[.int .i64 (-1), .int .i64 0]) ∧ w = w' := by
  go_enter Try.func128, Try.ntmps128
  go_wp2
  refine wp_loop_rounds 1 ?_
  rw [rounds_succ]; go_wp2
  go_ret2
  exact ⟨rfl, rfl⟩
set_option maxHeartbeats 400000 in
theorem raise70 (w : World) : Calls Try.prog 159 #[.int .i64 7, .int .i64 0] w fun e w' => e = .returned (.int .i64 1) ∧ w = w' := by
  go_enter Try.func159, Try.ntmps159
  go_wp2
  refine wp_loop_rounds 1 ?_
  rw [rounds_succ]; go_wp2
  go_ret
  exact ⟨rfl, rfl⟩
set_option maxHeartbeats 400000 in
theorem power_lit (a n m r : Int) (w : World) (hn : 0 ≤ n) (h1 : 1 ≤ m) (h2 : m ≤ 1000000000) (h3 : n ≤ 1000000) (hr : powM a n.toNat m = r) :
    Calls Try.prog 121 #[.int .i64 a, .int .i64 n, .int .i64 m] w fun e w' => e = .returned (.int .i64 r) ∧ w = w' := by
  have h := power_any a m n.toNat w h1 h2 (by omega)
  rw [hr, Int.toNat_of_nonneg hn] at h
  exact h
set_option maxHeartbeats 400000 in
theorem hil2 (w : World) : Calls Try.prog 63 #[.int .i64 (-1), .int .i64 (-1), .int .i64 2] w fun e w' => e = .returned (.tuple #[.int .i64 (-1), .int .i64 0]) ∧ w = w' := by
  have q1 : withinB (-1) (-1000000000) 1000000000 = true := by decide
  go_enter Try.func63, Try.ntmps63
  go_wp2_with (first | (go_at_call 112; refine (withinMod_any _ _).mono ?_; rintro e w' ⟨rfl, rfl⟩) | (go_at_call 128; refine (strip12 _).mono ?_; rintro e w' ⟨rfl, rfl⟩) | (go_at_call 114; refine (residue_any _ _ _ (by omega) (by omega)).mono ?_; rintro e w' ⟨rfl, rfl⟩) | go_in)
  go_ret2
  exact ⟨rfl, rfl⟩
set_option maxHeartbeats 400000 in
theorem strip22 (w : World) : Calls Try.prog 128 #[.int .i64 2, .int .i64 2] w fun e w' => e = .returned (.tuple #[.int .i64 1, .int .i64 1]) ∧ w = w' := by
  go_enter Try.func128, Try.ntmps128
  go_wp2
  refine wp_loop_rounds 2 ?_
  rw [rounds_succ]; go_wp2
  rw [rounds_succ]; go_wp2
  go_ret2
  exact ⟨rfl, rfl⟩
set_option maxHeartbeats 400000 in
theorem strip32 (w : World) : Calls Try.prog 128 #[.int .i64 3, .int .i64 2] w fun e w' => e = .returned (.tuple #[.int .i64 3, .int .i64 0]) ∧ w = w' := by
  go_enter Try.func128, Try.ntmps128
  go_wp2
  refine wp_loop_rounds 1 ?_
  rw [rounds_succ]; go_wp2
  go_ret2
  exact ⟨rfl, rfl⟩
set_option maxHeartbeats 400000 in
theorem strip1 (w : World) : Calls Try.prog 128 #[.int .i64 1, .int .i64 2] w fun e w' => e = .returned (.tuple #[.int .i64 1, .int .i64 0]) ∧ w = w' := by
  go_enter Try.func128, Try.ntmps128
  go_wp2
  refine wp_loop_rounds 1 ?_
  rw [rounds_succ]; go_wp2
  go_ret2
  exact ⟨rfl, rfl⟩
set_option maxHeartbeats 400000 in
theorem jac27 (w : World) : Calls Try.prog 130 #[.int .i64 2, .int .i64 7] w fun e w' => e = .returned (.int .i64 1) ∧ w = w' := by
  go_enter Try.func130, Try.ntmps130
  go_wp2_with (go_at_call 114; refine (residue_any _ _ _ (by omega) (by omega)).mono ?_; rintro e w' ⟨rfl, rfl⟩)
  refine wp_loop_rounds 2 ?_
  rw [rounds_succ]; go_wp2_with (first | (go_at_call 128; ((with_reducible refine (strip22 _).mono ?_); rintro e w' ⟨rfl, rfl⟩)))
  rw [rounds_succ]; go_wp2_with (first | (go_at_call 128; ((with_reducible refine (strip22 _).mono ?_); rintro e w' ⟨rfl, rfl⟩)))
  go_ret
  exact ⟨rfl, rfl⟩
set_option maxHeartbeats 400000 in
theorem jac37 (w : World) : Calls Try.prog 130 #[.int .i64 3, .int .i64 7] w fun e w' => e = .returned (.int .i64 (-1)) ∧ w = w' := by
  go_enter Try.func130, Try.ntmps130
  go_wp2_with (go_at_call 114; refine (residue_any _ _ _ (by omega) (by omega)).mono ?_; rintro e w' ⟨rfl, rfl⟩)
  refine wp_loop_rounds 3 ?_
  rw [rounds_succ]; go_wp2_with (first | (go_at_call 128; ((with_reducible refine (strip32 _).mono ?_); rintro e w' ⟨rfl, rfl⟩)) | (go_at_call 128; ((with_reducible refine (strip1 _).mono ?_); rintro e w' ⟨rfl, rfl⟩)))
  rw [rounds_succ]; go_wp2_with (first | (go_at_call 128; ((with_reducible refine (strip32 _).mono ?_); rintro e w' ⟨rfl, rfl⟩)) | (go_at_call 128; ((with_reducible refine (strip1 _).mono ?_); rintro e w' ⟨rfl, rfl⟩)))
  rw [rounds_succ]; go_wp2_with (first | (go_at_call 128; ((with_reducible refine (strip32 _).mono ?_); rintro e w' ⟨rfl, rfl⟩)) | (go_at_call 128; ((with_reducible refine (strip1 _).mono ?_); rintro e w' ⟨rfl, rfl⟩)))
  go_ret
  exact ⟨rfl, rfl⟩
end Go.Proofs.Ytcbdnnboddahkaa
