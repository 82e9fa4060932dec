/-
  WALKS at the one example of 'awake': two numbers are sorted.
-/
import Derived.Test.YtcbdnnboddahkaaAw7
import Derived.Test.YtcbdnnboddahkaaAw5
namespace Go.Proofs.Ytcbdnnboddahkaa
open Go.RowKit
set_option linter.unusedVariables false
set_option maxRecDepth 100000
set_option maxHeartbeats 400000 in
theorem len2 (w : World) : Calls Try.prog 156 #[.int .u64 2] w fun e w' => (∃ x, e = .returned (.int .i64 x)) ∧ w = w' := by
  go_enter Try.func156, Try.ntmps156
  go_wp2
  go_ret
  exact ⟨⟨_, rfl⟩, rfl⟩
set_option maxHeartbeats 400000 in
theorem less_any (x y : Int) (w : World) : Calls Try.prog 175 #[.int .i64 x, .int .i64 y] w fun e w' => e = .returned (.bool (decide (x < y))) ∧ w' = w := by
  have e1 : ∀ z : Int, (z != z) = false := by simp
  by_cases h : x < y
  all_goals
    go_enter Try.func175, Try.ntmps175
    go_wp2
    go_ret
    exact ⟨by simp [h], rfl⟩
set_option maxHeartbeats 400000 in
theorem ins2 (b : Nat) (w : World) (h0 : w.cell? ⟨b, 0, none⟩ = some (.int .i64 39)) (h1 : w.cell? ⟨b, 1, none⟩ = some (.int .i64 10)) (f0 : w.frozen? ⟨b, 0, none⟩ = false) (f1 : w.frozen? ⟨b, 1, none⟩ = false) :
    Calls Try.prog 169 #[.slice (some ⟨b, 0, none⟩) 2 2, .int .i64 0, .int .i64 2] w fun e w' => e = .returned (.tuple #[]) ∧ w'.cell? ⟨b, 0, none⟩ = some (.int .i64 10) ∧ w'.cell? ⟨b, 1, none⟩ = some (.int .i64 39) ∧ w'.frozen? ⟨b, 0, none⟩ = false ∧ w'.frozen? ⟨b, 1, none⟩ = false ∧ Below b w w' := by
  go_enter Try.func169, Try.ntmps169
  go_wp2
  refine wp_loop_rounds 2 ?_
  rw [rounds_succ]; go_wp2
  refine wp_loop_rounds 2 ?_
  rw [rounds_succ]; go_wp2
  go_quiet ((go_at_call 175; exact Calls.quiet_of_same (less_any _ _ _)))
  go_wp2
  go_region
  go_wp2
  rw [rounds_succ]; go_wp2
  go_quiet (fail)
  go_wp2
  rw [rounds_succ]; go_wp2
  go_end0
  refine ⟨rfl, by simp [go_sem, h0], by simp [go_sem, h1], by simp [go_sem, f0], by simp [go_sem, f1], ?_⟩
  exact below_draws (((below_draws (Below.refl _ _) _).setCell (p := ⟨b, 1, none⟩) (Nat.le_refl _) _).setCell (p := ⟨b, 0, none⟩) (Nat.le_refl _) _) _
def Sorted2 (b : Nat) (w w' : World) : Prop := w'.cell? ⟨b, 0, none⟩ = some (.int .i64 10) ∧ w'.cell? ⟨b, 1, none⟩ = some (.int .i64 39) ∧ w'.frozen? ⟨b, 0, none⟩ = false ∧ w'.frozen? ⟨b, 1, none⟩ = false ∧ Below b w w'
set_option maxHeartbeats 400000 in
theorem pdq2 (b : Nat) (x : Int) (w : World) (h0 : w.cell? ⟨b, 0, none⟩ = some (.int .i64 39)) (h1 : w.cell? ⟨b, 1, none⟩ = some (.int .i64 10)) (f0 : w.frozen? ⟨b, 0, none⟩ = false) (f1 : w.frozen? ⟨b, 1, none⟩ = false) :
    Calls Try.prog 155 #[.slice (some ⟨b, 0, none⟩) 2 2, .int .i64 0, .int .i64 2, .int .i64 x] w fun e w' => e = .returned (.tuple #[]) ∧ Sorted2 b w w' := by
  go_enter Try.func155, Try.ntmps155
  go_wp2
  refine wp_loop_rounds 1 ?_
  rw [rounds_succ]; go_wp2_with (go_at_call 169; refine (ins2 b _ h0 h1 f0 f1).mono ?_; rintro e w1 ⟨rfl, hq⟩; replace hq := Lib.hid hq)
  refine bodyPost_ret (v := .tuple #[]) (by simp [results, Try.results155, go_sem]) rfl ?_
  exact ⟨rfl, hq.out⟩
set_option maxHeartbeats 400000 in
theorem sort2 (b : Nat) (w : World) (h0 : w.cell? ⟨b, 0, none⟩ = some (.int .i64 39)) (h1 : w.cell? ⟨b, 1, none⟩ = some (.int .i64 10)) (f0 : w.frozen? ⟨b, 0, none⟩ = false) (f1 : w.frozen? ⟨b, 1, none⟩ = false) :
    Calls Try.prog 139 #[.slice (some ⟨b, 0, none⟩) 2 2] w fun e w' => e = .returned (.tuple #[]) ∧ Sorted2 b w w' := by
  go_enter Try.func139, Try.ntmps139
  go_wp2_with (first | (go_at_call 156; refine (len2 _).mono ?_; rintro e w1 ⟨⟨x, rfl⟩, rfl⟩) | (go_at_call 155; refine (pdq2 b _ _ h0 h1 f0 f1).mono ?_; rintro e w1 ⟨rfl, hq⟩; replace hq := Lib.hid hq))
  go_end0
  exact ⟨rfl, hq.out⟩
set_option maxHeartbeats 400000 in
theorem unit27 (w : World) :
    Calls Try.prog 161 #[.int .i64 2, .int .i64 7, .int .i64 49] w fun e w' => e = .returned (.slice (some ⟨w.heap.size, 0, none⟩) 2 2) ∧ Sorted2 w.heap.size w w' ∧ w.heap.size < w'.heap.size := by
  go_enter Try.func161, Try.ntmps161
  go_wp2_with (first | (go_at_call 130; refine (jac27 _).mono ?_; rintro e w1 ⟨rfl, rfl⟩) | (go_at_call 180; refine (rmp27 _).mono ?_; rintro e w1 ⟨rfl, rfl⟩) | (go_at_call 147; refine (lift7 _).mono ?_; rintro e w1 ⟨rfl, rfl⟩) | (go_at_call 139; refine (sort2 w.heap.size _ (by simp [go_sem]) (by simp [go_sem]) (by simp [go_sem]) (by simp [go_sem])).mono ?_; rintro e w1 ⟨rfl, hq⟩; replace hq := Lib.hid hq))
  go_ret
  obtain ⟨a1, a2, a3, a4, a5⟩ := hq.out
  refine ⟨rfl, ⟨a1, a2, a3, a4, ?_⟩, ?_⟩
  · exact ((Below.refl _ _).alloc (Nat.le_refl _) _).trans a5
  · have := a5.size; simp at this; omega
end Go.Proofs.Ytcbdnnboddahkaa
