/-
  WALKS: Power of both packages against one relation.
-/
import Derived.Test.YtgbnmnkgelklbaaDoorGcd
namespace Go.Proofs.YtgbnmnkgelklbaaDoor
open Go.RowKit
set_option linter.unusedVariables false
set_option maxRecDepth 100000
set_option maxHeartbeats 400000 in
theorem rpower_any (a m : Int) (n : Nat) (w : World) (h1 : 1 ≤ m) (h2 : m ≤ 1000000000) (h3 : n ≤ 9223372036854775807) :
    Calls Tryd.prog 78 #[.int .i64 a, .int .i64 n, .int .i64 m] w fun e w' => e = .returned (.int .i64 (powM a n m)) ∧ w = w' := by
  go_enter Tryd.func78, Tryd.ntmps78
  go_wp2_with (go_at_call 55; refine (rmod_any _ _ _ (by omega) (by omega)).mono ?_; rintro e w' ⟨rfl, rfl⟩)
  go_loop [0, 1, 7] (fun s n' r => ∃ (k : Nat) (x y : Int), k ≤ 9223372036854775807 ∧ PwRel a m n k x y ∧ n' = .int .i64 k ∧ r = .int .i64 x ∧ s = .int .i64 y) (fun _ n' _ => (intOf n').toNat)
  case atStart => exact ⟨n, _, _, h3, PwRel.start a m n h1, rfl, rfl, rfl⟩
  case round =>
    obtain ⟨k, x, y, hk, hrel, rfl, rfl, rfl⟩ := hrel
    have b1 := mul_bd hrel.1 hrel.2.1 hrel.2.2.1 hrel.2.2.2.1 h2
    have b2 := mul_bd hrel.2.2.1 hrel.2.2.2.1 hrel.2.2.1 hrel.2.2.2.1 h2
    have HR := Lib.hid hrel
    clear hrel
    by_cases hz : k = 0
    · subst hz
      go_wp2
      go_ret
      exact ⟨ret_int HR.out.fin, rfl⟩
    · have hp : 0 < k := by omega
      clear hz
      rcases Nat.mod_two_eq_zero_or_one k with ho | ho
      · have ht : ((k : Int) % 2 == 1) = false := by simp; omega
        have HO := Lib.hid ho; clear ho
        go_wp2
        go_round
        case rel => exact ⟨k / 2, _, _, by omega, HR.out.even h1 HO.out, by go_num, rfl, rfl⟩
        case measure => simp [intOf]; omega
      · have ht : ((k : Int) % 2 == 1) = true := by simp; omega
        have HO := Lib.hid ho; clear ho
        go_wp2
        go_round
        case rel => exact ⟨k / 2, _, _, by omega, HR.out.odd h1 HO.out, by go_num, rfl, rfl⟩
        case measure => simp [intOf]; omega
theorem rpower_int (a n m : Int) (w : World) (hn : 0 ≤ n) (h1 : 1 ≤ m) (h2 : m ≤ 1000000000) (h3 : n ≤ 9223372036854775807) :
    Calls Tryd.prog 78 #[.int .i64 a, .int .i64 n, .int .i64 m] w fun e w' => e = .returned (.int .i64 (powM a n.toNat m)) ∧ w = w' := by
  have h := rpower_any a m n.toNat w h1 h2 (by omega)
  rw [Int.toNat_of_nonneg hn] at h
  exact h
theorem power_int (a n m : Int) (w : World) (hn : 0 ≤ n) (h1 : 1 ≤ m) (h2 : m ≤ 1000000000) (h3 : n ≤ 9223372036854775807) :
    Calls Tryd.prog 105 #[.int .i64 a, .int .i64 n, .int .i64 m] w fun e w' => e = .returned (.int .i64 (powM a n.toNat m)) ∧ w = w' := by
  have h := power_any a m n.toNat w h1 h2 (by omega)
  rw [Int.toNat_of_nonneg hn] at h
  exact h
/-- what Power hands back -/
def PwRes (a n m x e : Int) : Prop := ((n < 0 ∨ modB m = false) ∧ x = 0 ∧ e = 2) ∨ (0 ≤ n ∧ modB m = true ∧ x = powM a n.toNat m ∧ e = 0)
theorem PwRes.unique {a n m x e x' e' : Int} (h : PwRes a n m x e) (h' : PwRes a n m x' e') : x = x' ∧ e = e' := by
  rcases h with ⟨h1, rfl, rfl⟩ | ⟨h1, h2, rfl, rfl⟩ <;> rcases h' with ⟨k1, rfl, rfl⟩ | ⟨k1, k2, rfl, rfl⟩
  · exact ⟨rfl, rfl⟩
  · rcases h1 with h1 | h1
    · omega
    · rw [h1] at k2; cases k2
  · rcases k1 with k1 | k1
    · omega
    · rw [k1] at h2; cases h2
  · exact ⟨rfl, rfl⟩
def PwEnd (a n m : Int) (e : Ending) : Prop := ∃ x l : Int, e = .returned (.tuple #[.int .i64 x, .int .i64 l]) ∧ PwRes a n m x l
end Go.Proofs.YtgbnmnkgelklbaaDoor
