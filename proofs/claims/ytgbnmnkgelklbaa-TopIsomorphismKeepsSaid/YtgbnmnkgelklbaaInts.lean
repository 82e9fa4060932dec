/-
  WALKS of the small functions on machine integers: residues, powers, checks of ranges.
-/
import Derived.Test.YtgbnmnkgelklbaaChecked
import Derived.Test.YtgbnmnkgelklbaaNt
import Derived.WalkKit
import Derived.IntWalk
import Derived.Lib.Hide
namespace Go.Proofs.Ytgbnmnkgelklbaa
open Go.RowKit

theorem ret_int {k : IntKind} {a b : Int} (h : a = b) : Ending.returned (.int k a) = .returned (.int k b) := by rw [h]
theorem tmod_neg (a m : Int) (h1 : 1 ≤ m) (h : a.tmod m < 0) : a.tmod m + m = a % m := by
  have e := Int.tmod_eq_emod (a := a) (b := m)
  have := Int.emod_nonneg a (b := m) (by omega)
  split at e <;> omega
theorem tmod_pos (a m : Int) (h1 : 1 ≤ m) (h : ¬ a.tmod m < 0) : a.tmod m = a % m := by
  have e := Int.tmod_eq_emod (a := a) (b := m)
  have := Int.emod_lt_of_pos a (b := m) (by omega)
  split at e <;> omega
theorem tmod_lo (a m : Int) (h1 : 1 ≤ m) : -m < a.tmod m ∧ a.tmod m < m := by
  have e := Int.tmod_eq_emod (a := a) (b := m)
  have := Int.emod_nonneg a (b := m) (by omega)
  have := Int.emod_lt_of_pos a (b := m) (by omega)
  split at e <;> omega
theorem mul_bd {r s m : Int} (h1 : 0 ≤ r) (h2 : r < m) (h3 : 0 ≤ s) (h4 : s < m) (hm : m ≤ 1000000000) : 0 ≤ r * s ∧ r * s ≤ 1000000000000000000 := by
  refine ⟨Int.mul_nonneg h1 h3, ?_⟩
  have : r * s ≤ 1000000000 * 1000000000 := Int.mul_le_mul (by omega) (by omega) h3 (by omega)
  omega

/-- the small checks, as Bools that the walk doesn't open -/
def modB (m : Int) : Bool := decide (1 ≤ m ∧ m ≤ 1000000000)
def withinB (n lo hi : Int) : Bool := decide (lo ≤ n ∧ n ≤ hi)

set_option maxHeartbeats 400000 in
theorem residue_any (a m : Int) (w : World) (h1 : 1 ≤ m) (h2 : m ≤ 9223372036854775807) :
    Calls Try.prog 56 #[.int .i64 a, .int .i64 m] w fun e w' => e = .returned (.int .i64 (a % m)) ∧ w = w' := by
  have hb := tmod_lo a m h1
  by_cases hn : a.tmod m < 0
  · have e1 := tmod_neg a m h1 hn
    go_enter Try.func56, Try.ntmps56
    go_wp2
    go_ret
    exact ⟨rfl, rfl⟩
  · have e1 := tmod_pos a m h1 hn
    go_enter Try.func56, Try.ntmps56
    go_wp2
    go_ret
    exact ⟨rfl, rfl⟩
set_option maxHeartbeats 400000 in
theorem bmod_any (a m : Int) (w : World) (h1 : 1 ≤ m) (h2 : m ≤ 9223372036854775807) :
    Calls Try.prog 25 #[.int .i64 a, .int .i64 m] w fun e w' => e = .returned (.int .i64 (a % m)) ∧ w = w' := by
  have hb := tmod_lo a m h1
  by_cases hn : a.tmod m < 0
  · have e1 := tmod_neg a m h1 hn
    go_enter Try.func25, Try.ntmps25
    go_wp2
    go_ret
    exact ⟨rfl, rfl⟩
  · have e1 := tmod_pos a m h1 hn
    go_enter Try.func25, Try.ntmps25
    go_wp2
    go_ret
    exact ⟨rfl, rfl⟩
set_option maxHeartbeats 400000 in
theorem isMod_any (m : Int) (w : World) :
    Calls Try.prog 69 #[.int .i64 m] w fun e w' => e = .returned (.bool (modB m)) ∧ w = w' := by
  by_cases h1 : 1 ≤ m <;> by_cases h2 : m ≤ 1000000000 <;>
  · go_enter Try.func69, Try.ntmps69
    go_wp2
    go_ret
    exact ⟨by simp [modB, *], rfl⟩
set_option maxHeartbeats 400000 in
theorem withinMod_any (m : Int) (w : World) :
    Calls Try.prog 30 #[.int .i64 m] w fun e w' => e = .returned (.bool (withinB m (-1000000000) 1000000000)) ∧ w = w' := by
  by_cases h1 : -1000000000 ≤ m <;> by_cases h2 : m ≤ 1000000000 <;>
  · go_enter Try.func30, Try.ntmps30
    go_wp2
    go_ret
    exact ⟨by simp [withinB, *], rfl⟩
set_option maxHeartbeats 400000 in
theorem within_any (n lo hi : Int) (w : World) :
    Calls Try.prog 23 #[.int .i64 n, .int .i64 lo, .int .i64 hi] w fun e w' => e = .returned (.bool (withinB n lo hi)) ∧ w = w' := by
  by_cases h1 : lo ≤ n <;> by_cases h2 : n ≤ hi <;>
  · go_enter Try.func23, Try.ntmps23
    go_wp2
    go_ret
    exact ⟨by simp [withinB, *], rfl⟩
end Go.Proofs.Ytgbnmnkgelklbaa
