/-
  WALKS of the small functions on machine integers: residues, powers, checks of ranges.
-/
import Derived.Test.YtgbnmnkgelklbaaDoorChecked
import Derived.Test.YtgbnmnkgelklbaaDoorNt
import Derived.WalkKit
import Derived.IntWalk
import Derived.Lib.Hide
namespace Go.Proofs.YtgbnmnkgelklbaaDoor
open Go.RowKit

theorem ret_int {k : IntKind} {a b : Int} (h : a = b) : Ending.returned (.int k a) = .returned (.int k b) := by rw [h]
theorem tmod_neg (a m : Int) (h1 : 1 ≤ m) (h : a.tmod m < 0) : a.tmod m + m = a % m := by
  have e := Int.tmod_eq_emod (a := a) (b := m)
  have := Int.emod_nonneg a (b := m) (by omega)
  split at e <;> omega
theorem tmod_pos (a m : Int) (h1 : 1 ≤ m) (h : ¬ a.tmod m < 0) : a.tmod m = a % m := by
  have e := Int.tmod_eq_emod (a := a) (b := m)
  have := Int.emod_lt_of_pos a (b := m) (by omega)
  split at e <;> omega
theorem tmod_lo (a m : Int) (h1 : 1 ≤ m) : -m < a.tmod m ∧ a.tmod m < m := by
  have e := Int.tmod_eq_emod (a := a) (b := m)
  have := Int.emod_nonneg a (b := m) (by omega)
  have := Int.emod_lt_of_pos a (b := m) (by omega)
  split at e <;> omega
theorem mul_bd {r s m : Int} (h1 : 0 ≤ r) (h2 : r < m) (h3 : 0 ≤ s) (h4 : s < m) (hm : m ≤ 1000000000) : 0 ≤ r * s ∧ r * s ≤ 1000000000000000000 := by
  refine ⟨Int.mul_nonneg h1 h3, ?_⟩
  have : r * s ≤ 1000000000 * 1000000000 := Int.mul_le_mul (by omega) (by omega) h3 (by omega)
  omega

/-- the small checks, as Bools that the walk doesn't open -/
def modB (m : Int) : Bool := decide (1 ≤ m ∧ m ≤ 1000000000)
def withinB (n lo hi : Int) : Bool := decide (lo ≤ n ∧ n ≤ hi)

set_option maxHeartbeats 400000 in
theorem residue_any (a m : Int) (w : World) (h1 : 1 ≤ m) (h2 : m ≤ 9223372036854775807) :
    Calls Tryd.prog 82 #[.int .i64 a, .int .i64 m] w fun e w' => e = .returned (.int .i64 (a % m)) ∧ w = w' := by
  have hb := tmod_lo a m h1
  by_cases hn : a.tmod m < 0
  · have e1 := tmod_neg a m h1 hn
    go_enter Tryd.func82, Tryd.ntmps82
    go_wp2
    go_ret
    exact ⟨rfl, rfl⟩
  · have e1 := tmod_pos a m h1 hn
    go_enter Tryd.func82, Tryd.ntmps82
    go_wp2
    go_ret
    exact ⟨rfl, rfl⟩
set_option maxHeartbeats 400000 in
theorem rmod_any (a m : Int) (w : World) (h1 : 1 ≤ m) (h2 : m ≤ 9223372036854775807) :
    Calls Tryd.prog 55 #[.int .i64 a, .int .i64 m] w fun e w' => e = .returned (.int .i64 (a % m)) ∧ w = w' := by
  have hb := tmod_lo a m h1
  by_cases hn : a.tmod m < 0
  · have e1 := tmod_neg a m h1 hn
    go_enter Tryd.func55, Tryd.ntmps55
    go_wp2
    go_ret
    exact ⟨rfl, rfl⟩
  · have e1 := tmod_pos a m h1 hn
    go_enter Tryd.func55, Tryd.ntmps55
    go_wp2
    go_ret
    exact ⟨rfl, rfl⟩
set_option maxHeartbeats 400000 in
theorem bmod_any (a m : Int) (w : World) (h1 : 1 ≤ m) (h2 : m ≤ 9223372036854775807) :
    Calls Tryd.prog 42 #[.int .i64 a, .int .i64 m] w fun e w' => e = .returned (.int .i64 (a % m)) ∧ w = w' := by
  have hb := tmod_lo a m h1
  by_cases hn : a.tmod m < 0
  · have e1 := tmod_neg a m h1 hn
    go_enter Tryd.func42, Tryd.ntmps42
    go_wp2
    go_ret
    exact ⟨rfl, rfl⟩
  · have e1 := tmod_pos a m h1 hn
    go_enter Tryd.func42, Tryd.ntmps42
    go_wp2
    go_ret
    exact ⟨rfl, rfl⟩
set_option maxHeartbeats 400000 in
theorem isMod_any (m : Int) (w : World) :
    Calls Tryd.prog 71 #[.int .i64 m] w fun e w' => e = .returned (.bool (modB m)) ∧ w = w' := by
  by_cases h1 : 1 ≤ m <;> by_cases h2 : m ≤ 1000000000 <;>
  · go_enter Tryd.func71, Tryd.ntmps71
    go_wp2
    go_ret
    exact ⟨by simp [modB, *], rfl⟩
set_option maxHeartbeats 400000 in
theorem withinMod_any (m : Int) (w : World) :
    Calls Tryd.prog 73 #[.int .i64 m] w fun e w' => e = .returned (.bool (withinB m (-1000000000) 1000000000)) ∧ w = w' := by
  by_cases h1 : -1000000000 ≤ m <;> by_cases h2 : m ≤ 1000000000 <;>
  · go_enter Tryd.func73, Tryd.ntmps73
    go_wp2
    go_ret
    exact ⟨by simp [withinB, *], rfl⟩
set_option maxHeartbeats 400000 in
theorem withinR_any (n lo hi : Int) (w : World) :
    Calls Tryd.prog 77 #[.int .i64 n, .int .i64 lo, .int .i64 hi] w fun e w' => e = .returned (.bool (withinB n lo hi)) ∧ w = w' := by
  by_cases h1 : lo ≤ n <;> by_cases h2 : n ≤ hi <;>
  · go_enter Tryd.func77, Tryd.ntmps77
    go_wp2
    go_ret
    exact ⟨by simp [withinB, *], rfl⟩
set_option maxHeartbeats 400000 in
theorem within_any (n lo hi : Int) (w : World) :
    Calls Tryd.prog 28 #[.int .i64 n, .int .i64 lo, .int .i64 hi] w fun e w' => e = .returned (.bool (withinB n lo hi)) ∧ w = w' := by
  by_cases h1 : lo ≤ n <;> by_cases h2 : n ≤ hi <;>
  · go_enter Tryd.func28, Tryd.ntmps28
    go_wp2
    go_ret
    exact ⟨by simp [withinB, *], rfl⟩
end Go.Proofs.YtgbnmnkgelklbaaDoor
