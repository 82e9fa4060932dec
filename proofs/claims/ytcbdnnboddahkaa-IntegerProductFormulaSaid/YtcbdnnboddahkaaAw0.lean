/-
  WALKS at the one example of 'awake': machine integers as integers of words. No condition.
-/
import Derived.Test.YtcbdnnboddahkaaBez
import Derived.Handy
namespace Go.Proofs.Ytcbdnnboddahkaa
open Go.RowKit
/-- a value that is an integer of one word, in memory from B on -/
def One (w : World) (B : Nat) (v : Value) (neg : Bool) (x : Int) : Prop :=
  ∃ b c, v = .agg #[.bool neg, .slice (some ⟨b, 0, none⟩) 1 c] ∧ B ≤ b ∧ b < w.heap.size ∧ 1 ≤ c ∧ c ≤ 9223372036854775807 ∧ w.cell? ⟨b, 0, none⟩ = some (.int .u32 x)
def OneOut (w0 : World) (neg : Bool) (x : Int) (e : Ending) (w : World) : Prop := ∃ v, e = .returned v ∧ One w w0.heap.size v neg x ∧ Below w0.heap.size w0 w
set_option maxRecDepth 100000 in
set_option maxHeartbeats 400000 in
theorem of_m7 (w : World) :
    Calls Try.prog 23 #[.int .i64 (-7)] w fun e w' => OneOut w true 7 e w' := by
  have e1 : (IntKind.u64.wrap (-IntKind.u64.wrap (-7))) % 4294967296 = 7 := by decide
  have e2 : (IntKind.u64.wrap (-IntKind.u64.wrap (-7))) / 4294967296 % 4294967296 = 0 := by decide
  go_enter Try.func23, Try.ntmps23
  go_wp2
  refine wp_loop_rounds 2 ?_
  rw [rounds_succ]; go_wp2
  rw [rounds_succ]; go_wp2
  refine bodyPost_ret (v := .agg #[.bool true, .slice (some ⟨w.heap.size + 1, 0, none⟩) 1 2]) (by simp [results, Try.results23, go_sem]) rfl ?_
  refine ⟨_, rfl, ⟨_, _, rfl, by omega, by simp, by omega, by omega, ?_⟩, ?_⟩
  · simp [go_sem]
  · go_grown
set_option maxRecDepth 100000 in
set_option maxHeartbeats 400000 in
theorem of_2 (w : World) :
    Calls Try.prog 23 #[.int .i64 2] w fun e w' => OneOut w false 2 e w' := by
  go_enter Try.func23, Try.ntmps23
  go_wp2
  refine wp_loop_rounds 2 ?_
  rw [rounds_succ]; go_wp2
  rw [rounds_succ]; go_wp2
  refine bodyPost_ret (v := .agg #[.bool false, .slice (some ⟨w.heap.size + 1, 0, none⟩) 1 2]) (by simp [results, Try.results23, go_sem]) rfl ?_
  refine ⟨_, rfl, ⟨_, _, rfl, by omega, by simp, by omega, by omega, ?_⟩, ?_⟩
  · simp [go_sem]
  · go_grown
end Go.Proofs.Ytcbdnnboddahkaa
