/-
  WALKS at the one example of 'awake': trimming, comparing, and dividing one word.
-/
import Derived.Test.YtcbdnnboddahkaaAw2
namespace Go.Proofs.Ytcbdnnboddahkaa
open Go.RowKit
set_option linter.unusedVariables false
/-- a slice of one word, in memory from B on -/
def OneS (w : World) (B : Nat) (v : Value) (x : Int) : Prop :=
  ∃ b c, v = .slice (some ⟨b, 0, none⟩) 1 c ∧ B ≤ b ∧ b < w.heap.size ∧ 1 ≤ c ∧ c ≤ 9223372036854775807 ∧ w.cell? ⟨b, 0, none⟩ = some (.int .u32 x)
set_option maxRecDepth 100000 in
set_option maxHeartbeats 400000 in
theorem trim_one (b c : Nat) (d : Int) (w : World) (hd : (d == 0) = false) (hc : 1 ≤ c) (hc' : c ≤ 9223372036854775807) (hcell : w.cell? ⟨b, 0, none⟩ = some (.int .u32 d)) :
    Calls Try.prog 88 #[.slice (some ⟨b, 0, none⟩) 1 c] w fun e w' => e = .returned (.slice (some ⟨b, 0, none⟩) 1 c) ∧ w = w' := by
  go_enter Try.func88, Try.ntmps88
  go_wp2
  refine wp_loop_rounds 1 ?_
  rw [rounds_succ]
  go_wp2
  go_ret
  exact ⟨rfl, rfl⟩
/-- cmp.Compare of two words, of two ints -/
theorem cmpw_any (x y : Int) (w : World) : Calls Try.prog 149 #[.int .u32 x, .int .u32 y] w fun e w' => e = .returned (.int .i64 (if x < y then -1 else if y < x then 1 else 0)) ∧ w' = w := by
  have e1 : ∀ z : Int, (z != z) = false := by simp
  rcases Int.lt_trichotomy x y with h | h | h
  · have h' : ¬ y < x := by omega
    go_enter Try.func149, Try.ntmps149
    go_wp2
    go_ret
    exact ⟨by simp, rfl⟩
  · subst h
    go_enter Try.func149, Try.ntmps149
    go_wp2
    go_ret
    exact ⟨by simp, rfl⟩
  · have h' : ¬ x < y := by omega
    go_enter Try.func149, Try.ntmps149
    go_wp2
    go_ret
    exact ⟨by simp, rfl⟩
set_option maxRecDepth 100000 in
set_option maxHeartbeats 400000 in
theorem cmp_72 (b c b' c' : Nat) (w : World) (hc : 1 ≤ c) (hc' : c ≤ 9223372036854775807) (hc1 : 1 ≤ c') (hc1' : c' ≤ 9223372036854775807)
    (h1 : w.cell? ⟨b, 0, none⟩ = some (.int .u32 7)) (h2 : w.cell? ⟨b', 0, none⟩ = some (.int .u32 2)) :
    Calls Try.prog 95 #[.slice (some ⟨b, 0, none⟩) 1 c, .slice (some ⟨b', 0, none⟩) 1 c'] w fun e w' => e = .returned (.int .i64 1) ∧ Drew w w' := by
  go_enter Try.func95, Try.ntmps95
  go_wp2
  refine wp_loop_rounds 1 ?_
  rw [rounds_succ]
  go_wp2
  go_quiet (fail)
  go_wp2
  have k1 : (w.drewN nq).cell? ⟨b, 0, none⟩ = some (.int .u32 7) := h1
  have k2 : (w.drewN nq).cell? ⟨b', 0, none⟩ = some (.int .u32 2) := h2
  have hd : Drew w (w.drewN nq) := ⟨nq, rfl⟩
  have HD := Lib.hid hd
  clear h1 h2 hd
  generalize w.drewN nq = w1 at *
  go_quiet ((go_at_call 149; exact Calls.quiet_of_same (cmpw_any _ _ _)))
  go_wp2
  go_ret
  exact ⟨rfl, HD.out.step _⟩
set_option maxRecDepth 100000 in
set_option maxHeartbeats 400000 in
theorem dbw (b c : Nat) (w : World) (hc : 1 ≤ c) (hb : b < w.heap.size) (hc' : c ≤ 9223372036854775807) (h1 : w.cell? ⟨b, 0, none⟩ = some (.int .u32 7)) :
    Calls Try.prog 109 #[.slice (some ⟨b, 0, none⟩) 1 c, .int .u32 2] w fun e w' => ∃ v, e = .returned (.tuple #[v, .int .u32 1]) ∧ OneS w' w.heap.size v 3 ∧ Below w.heap.size w w' := by
  have hmk : ∀ w : World, (Instr.makeSlice 22 (.int .i64 1) (.int .i64 1)).run Try.prog w = .ok (.slice (some ⟨w.heap.size, 0, none⟩) 1 1) (w.alloc (.cells #[.int .u32 0] 113)) := fun _ => by kernel_rfl
  have e0 : bits BinOp.or IntKind.u64 0 7 = 7 := by decide
  have e3 : IntKind.u64.wrap 3 = 3 := by decide
  go_enter Try.func109, Try.ntmps109
  go_wp2
  refine wp_loop_rounds 2 ?_
  rw [rounds_succ]
  go_wp2
  rw [rounds_succ]
  go_wp2
  refine wp_loop_rounds 1 ?_
  rw [rounds_succ]
  go_wp2
  go_ret2
  exact ⟨_, rfl, ⟨_, _, rfl, Nat.le_refl _, by simp, by omega, by omega, by simp [go_sem]⟩, by go_grown⟩
end Go.Proofs.Ytcbdnnboddahkaa
