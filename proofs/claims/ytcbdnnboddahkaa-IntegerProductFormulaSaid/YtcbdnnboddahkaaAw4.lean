/-
  WALKS at the one example of 'awake': dividing, adding, subtracting, signing words.
-/
import Derived.Test.YtcbdnnboddahkaaAw3
namespace Go.Proofs.Ytcbdnnboddahkaa
open Go.RowKit
set_option linter.unusedVariables false
set_option maxRecDepth 100000 in
set_option maxHeartbeats 400000 in
theorem dws (b c b' c' : Nat) (w : World) (hb : b < w.heap.size) (hb' : b' < w.heap.size) (hc : 1 ≤ c) (hc' : c ≤ 9223372036854775807) (hc1 : 1 ≤ c') (hc1' : c' ≤ 9223372036854775807)
    (h1 : w.cell? ⟨b, 0, none⟩ = some (.int .u32 7)) (h2 : w.cell? ⟨b', 0, none⟩ = some (.int .u32 2)) :
    Calls Try.prog 105 #[.slice (some ⟨b, 0, none⟩) 1 c, .slice (some ⟨b', 0, none⟩) 1 c'] w fun e w' => ∃ v u, e = .returned (.tuple #[v, u]) ∧ OneS w' w.heap.size v 3 ∧ OneS w' w.heap.size u 1 ∧ Below w.heap.size w w' := by
  go_enter Try.func105, Try.ntmps105
  go_wp2_with (first | (go_at_call 95; refine (cmp_72 b c b' c' _ hc hc' hc1 hc1' h1 h2).mono ?_; rintro e w1 ⟨rfl, n, rfl⟩) | (go_at_call 109; refine (dbw b c (w.drewN n) hc hb hc' h1).mono ?_; rintro e w2 ⟨v, rfl, ⟨g, cc, rfl, q1, q2, q3, q4, q5⟩, hbel⟩))
  refine (trim_one w2.heap.size 1 1 _ (by decide) (by omega) (by omega) (by simp [go_sem])).mono ?_
  rintro e w1 ⟨rfl, rfl⟩
  go_wp2
  go_ret2
  have hB : Below w.heap.size w w2 := (below_draws (Below.refl _ _) n).trans hbel
  refine ⟨_, _, rfl, ⟨_, _, rfl, q1, by simp; omega, q3, q4, by simp [go_sem, q2, q5]⟩, ⟨_, _, rfl, ?_, by simp, by omega, by omega, by simp [go_sem]⟩, ?_⟩
  · have := hB.size; omega
  · exact hB.alloc (by have := hB.size; omega) _
set_option maxRecDepth 100000 in
set_option maxHeartbeats 400000 in
theorem addw (b c b' c' : Nat) (w : World) (hb : b < w.heap.size) (hb' : b' < w.heap.size) (hc : 1 ≤ c) (hc' : c ≤ 9223372036854775807) (hc1 : 1 ≤ c') (hc1' : c' ≤ 9223372036854775807)
    (h1 : w.cell? ⟨b, 0, none⟩ = some (.int .u32 3)) (h2 : w.cell? ⟨b', 0, none⟩ = some (.int .u32 1)) :
    Calls Try.prog 97 #[.slice (some ⟨b, 0, none⟩) 1 c, .slice (some ⟨b', 0, none⟩) 1 c'] w fun e w' => ∃ v, e = .returned v ∧ OneS w' w.heap.size v 4 ∧ Below w.heap.size w w' := by
  have hmk : ∀ w : World, (Instr.makeSlice 22 (.int .i64 2) (.int .i64 2)).run Try.prog w = .ok (.slice (some ⟨w.heap.size, 0, none⟩) 2 2) (w.alloc (.cells #[.int .u32 0, .int .u32 0] 113)) := fun _ => by kernel_rfl
  go_enter Try.func97, Try.ntmps97
  go_wp2
  refine wp_loop_rounds 2 ?_
  rw [rounds_succ]
  go_wp2
  rw [rounds_succ]
  go_wp2
  refine wp_loop_rounds 2 ?_
  rw [rounds_succ]
  go_wp2
  rw [rounds_succ]
  go_wp2
  go_ret
  exact ⟨_, rfl, ⟨_, _, rfl, Nat.le_refl _, by simp, by omega, by omega, by simp [go_sem]⟩, by go_grown⟩
set_option maxRecDepth 100000 in
set_option maxHeartbeats 400000 in
theorem subw (b c b' c' : Nat) (w : World) (hb : b < w.heap.size) (hb' : b' < w.heap.size) (hc : 1 ≤ c) (hc' : c ≤ 9223372036854775807) (hc1 : 1 ≤ c') (hc1' : c' ≤ 9223372036854775807)
    (h1 : w.cell? ⟨b, 0, none⟩ = some (.int .u32 2)) (h2 : w.cell? ⟨b', 0, none⟩ = some (.int .u32 1)) :
    Calls Try.prog 98 #[.slice (some ⟨b, 0, none⟩) 1 c, .slice (some ⟨b', 0, none⟩) 1 c'] w fun e w' => ∃ v, e = .returned v ∧ OneS w' w.heap.size v 1 ∧ Below w.heap.size w w' := by
  have hmk : ∀ w : World, (Instr.makeSlice 22 (.int .i64 1) (.int .i64 1)).run Try.prog w = .ok (.slice (some ⟨w.heap.size, 0, none⟩) 1 1) (w.alloc (.cells #[.int .u32 0] 113)) := fun _ => by kernel_rfl
  go_enter Try.func98, Try.ntmps98
  go_wp2
  refine wp_loop_rounds 2 ?_
  rw [rounds_succ]
  go_wp2
  rw [rounds_succ]
  go_wp2
  refine wp_loop_rounds 1 ?_
  rw [rounds_succ]
  go_wp2
  go_ret
  exact ⟨_, rfl, ⟨_, _, rfl, Nat.le_refl _, by simp, by omega, by omega, by simp [go_sem]⟩, by go_grown⟩
set_option maxRecDepth 100000 in
set_option maxHeartbeats 400000 in
theorem signed_one (neg : Bool) (b c : Nat) (d : Int) (w : World) (hb : b < w.heap.size) (hd : (d == 0) = false) (hc : 1 ≤ c) (hc' : c ≤ 9223372036854775807) (h1 : w.cell? ⟨b, 0, none⟩ = some (.int .u32 d)) :
    Calls Try.prog 90 #[.bool neg, .slice (some ⟨b, 0, none⟩) 1 c] w fun e w' => e = .returned (.agg #[.bool neg, .slice (some ⟨b, 0, none⟩) 1 c]) ∧ Below w.heap.size w w' := by
  go_enter Try.func90, Try.ntmps90
  go_wp2_with (go_at_call 88; refine (trim_one b c d _ hd hc hc' (by simp [go_sem, hb, h1])).mono ?_; rintro e w1 ⟨rfl, rfl⟩)
  refine bodyPost_ret (v := .agg #[.bool neg, .slice (some ⟨b, 0, none⟩) 1 c]) (by simp [results, Try.results90, go_sem]) rfl ?_
  exact ⟨rfl, by go_grown⟩
end Go.Proofs.Ytcbdnnboddahkaa
