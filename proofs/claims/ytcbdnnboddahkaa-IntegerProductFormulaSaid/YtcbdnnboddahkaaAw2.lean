/-
  WALKS: two integers of one equal word are told equal.
-/
import Derived.Test.YtcbdnnboddahkaaAw1
namespace Go.Proofs.Ytcbdnnboddahkaa
open Go.RowKit
set_option linter.unusedVariables false
theorem below_draws {B : Nat} {a w : World} (h : Below B a w) (n : Nat) : Below B a (w.drewN n) := h.trans ⟨rfl, rfl, rfl, Nat.le_refl _, fun _ _ => rfl⟩
set_option maxRecDepth 100000 in
set_option maxHeartbeats 400000 in
theorem same_one (neg : Bool) (d : Int) (b c b' c' : Nat) (w : World) (hb : b < w.heap.size) (hb' : b' < w.heap.size) (hc : 1 ≤ c) (hc' : c ≤ 9223372036854775807) (hc1 : 1 ≤ c') (hc1' : c' ≤ 9223372036854775807)
    (h1 : w.cell? ⟨b, 0, none⟩ = some (.int .u32 d)) (h2 : w.cell? ⟨b', 0, none⟩ = some (.int .u32 d)) :
    Calls Try.prog 24 #[.agg #[.bool neg, .slice (some ⟨b, 0, none⟩) 1 c], .agg #[.bool neg, .slice (some ⟨b', 0, none⟩) 1 c']] w fun e w' => e = .returned (.bool true) ∧ Below w.heap.size w w' := by
  cases neg
  all_goals
    go_enter Try.func24, Try.ntmps24
    go_wp2
    refine wp_loop_rounds 2 ?_
    rw [rounds_succ]
    go_wp2
    go_quiet (fail)
    go_wp2
    rw [rounds_succ]
    go_wp2
    go_ret
    refine ⟨rfl, ?_⟩
    exact below_draws (((Below.refl _ _).alloc (Nat.le_refl _) _).alloc (by simp) _) _
end Go.Proofs.Ytcbdnnboddahkaa
