/-
  WALKS: powers modulo a modulus, in both packages.
-/
import Derived.Test.YtgbnmnkgelklbaaInts
namespace Go.Proofs.Ytgbnmnkgelklbaa
open Go.RowKit

theorem pow_half (s : Int) (n : Nat) : (s * s) ^ (n / 2) * s ^ (n % 2) = s ^ n := by
  have h : s * s = s ^ 2 := by rw [Int.pow_succ, Int.pow_succ, Int.pow_zero, Int.one_mul]
  rw [h, ← Int.pow_mul, ← Int.pow_add]; congr 1; omega
theorem pw_even (r s m : Int) (n : Nat) (h : n % 2 = 0) : (r * (s * s % m) ^ (n / 2)) % m = r * s ^ n % m := by
  have e := pow_half s n
  rw [h, Int.pow_zero, Int.mul_one] at e
  rw [Int.mul_emod, Nt.pow_emod, ← Int.mul_emod, e]
theorem pw_odd (r s m : Int) (n : Nat) (h : n % 2 = 1) : ((r * s % m) * (s * s % m) ^ (n / 2)) % m = r * s ^ n % m := by
  have e := pow_half s n
  rw [h, Int.pow_succ, Int.pow_zero, Int.one_mul] at e
  rw [Int.mul_emod, Nt.pow_emod, Int.emod_emod_of_dvd _ (Int.dvd_refl m), ← Int.mul_emod, ← e]
  congr 1; rw [Int.mul_assoc, Int.mul_comm s]
theorem pw_addm (a m : Int) (n k : Nat) : a ^ (n + k) % m = (a ^ n % m) * (a ^ k % m) % m := by
  rw [Int.pow_add, Int.mul_emod]
/-- what a round of the loop keeps -/
def PwRel (a m : Int) (n0 : Nat) (n : Nat) (r s : Int) : Prop := 0 ≤ r ∧ r < m ∧ 0 ≤ s ∧ s < m ∧ r * s ^ n % m = a ^ n0 % m
theorem PwRel.start (a m : Int) (n0 : Nat) (hm : 1 ≤ m) : PwRel a m n0 n0 (1 % m) (a % m) := by
  refine ⟨Int.emod_nonneg _ (by omega), Int.emod_lt_of_pos _ (by omega), Int.emod_nonneg _ (by omega), Int.emod_lt_of_pos _ (by omega), ?_⟩
  rw [Int.mul_emod, Nt.pow_emod, Int.emod_emod_of_dvd _ (Int.dvd_refl m), ← Int.mul_emod, Int.one_mul]
theorem PwRel.even {a m : Int} {n0 n : Nat} {r s : Int} (h : PwRel a m n0 n r s) (hm : 1 ≤ m) (hn : n % 2 = 0) : PwRel a m n0 (n / 2) r (s * s % m) :=
  ⟨h.1, h.2.1, Int.emod_nonneg _ (by omega), Int.emod_lt_of_pos _ (by omega), by rw [pw_even _ _ _ _ hn, h.2.2.2.2]⟩
theorem PwRel.odd {a m : Int} {n0 n : Nat} {r s : Int} (h : PwRel a m n0 n r s) (hm : 1 ≤ m) (hn : n % 2 = 1) : PwRel a m n0 (n / 2) (r * s % m) (s * s % m) :=
  ⟨Int.emod_nonneg _ (by omega), Int.emod_lt_of_pos _ (by omega), Int.emod_nonneg _ (by omega), Int.emod_lt_of_pos _ (by omega), by rw [pw_odd _ _ _ _ hn, h.2.2.2.2]⟩
theorem PwRel.fin {a m : Int} {n0 : Nat} {r s : Int} (h : PwRel a m n0 0 r s) : r = a ^ n0 % m := by
  have := h.2.2.2.2
  rw [Int.pow_zero, Int.mul_one, Int.emod_eq_of_lt h.1 h.2.1] at this; exact this
def powM (a : Int) (n : Nat) (m : Int) : Int := a ^ n % m

set_option maxHeartbeats 400000 in
theorem power_any (a m : Int) (n : Nat) (w : World) (h1 : 1 ≤ m) (h2 : m ≤ 1000000000) (h3 : n ≤ 9223372036854775807) :
    Calls Try.prog 85 #[.int .i64 a, .int .i64 n, .int .i64 m] w fun e w' => e = .returned (.int .i64 (powM a n m)) ∧ w = w' := by
  go_enter Try.func85, Try.ntmps85
  go_wp2_with (go_at_call 56; refine (residue_any _ _ _ (by omega) (by omega)).mono ?_; rintro e w' ⟨rfl, rfl⟩)
  go_loop [1, 7, 8] (fun n' r s => ∃ (k : Nat) (x y : Int), k ≤ 9223372036854775807 ∧ PwRel a m n k x y ∧ n' = .int .i64 k ∧ r = .int .i64 x ∧ s = .int .i64 y) (fun n' _ _ => (intOf n').toNat)
  case atStart => exact ⟨n, _, _, h3, PwRel.start a m n h1, rfl, rfl, rfl⟩
  case round =>
    obtain ⟨k, x, y, hk, hrel, rfl, rfl, rfl⟩ := hrel
    have b1 := mul_bd hrel.1 hrel.2.1 hrel.2.2.1 hrel.2.2.2.1 h2
    have b2 := mul_bd hrel.2.2.1 hrel.2.2.2.1 hrel.2.2.1 hrel.2.2.2.1 h2
    have HR := Lib.hid hrel
    clear hrel
    by_cases hz : k = 0
    · subst hz
      go_wp2
      go_ret
      exact ⟨ret_int HR.out.fin, rfl⟩
    · have hp : 0 < k := by omega
      clear hz
      rcases Nat.mod_two_eq_zero_or_one k with ho | ho
      · have ht : ((k : Int) % 2 == 1) = false := by simp; omega
        have HO := Lib.hid ho; clear ho
        go_wp2
        go_round
        case rel => exact ⟨k / 2, _, _, by omega, HR.out.even h1 HO.out, by go_num, rfl, rfl⟩
        case measure => simp [intOf]; omega
      · have ht : ((k : Int) % 2 == 1) = true := by simp; omega
        have HO := Lib.hid ho; clear ho
        go_wp2
        go_round
        case rel => exact ⟨k / 2, _, _, by omega, HR.out.odd h1 HO.out, by go_num, rfl, rfl⟩
        case measure => simp [intOf]; omega
end Go.Proofs.Ytgbnmnkgelklbaa
