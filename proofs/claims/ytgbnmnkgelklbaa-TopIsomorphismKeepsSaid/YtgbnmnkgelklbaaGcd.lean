/-
  WALKS: greatest common divisors, cofactors, inverses, in both packages.
-/
import Derived.Test.YtgbnmnkgelklbaaPower
import Derived.RegionTactic
import Derived.ChangeAlike
import Derived.Deep.QuietTactic
import Derived.BigQuiet
namespace Go.Proofs.Ytgbnmnkgelklbaa
open Go.RowKit

/-- what a round of the extended division keeps -/
def CfRel (a m r0 r1 x0 x1 : Int) : Prop :=
  0 ≤ r0 ∧ r0 ≤ 1000000000 ∧ 0 ≤ r1 ∧ r1 ≤ 1000000000 ∧ m ∣ a * x0 - r0 ∧ m ∣ a * x1 - r1 ∧ Int.gcd r0 r1 = Int.gcd a m ∧
  (-m ≤ x0 ∧ x0 ≤ m) ∧ (-m ≤ x1 ∧ x1 ≤ m) ∧ ((0 ≤ x0 ∧ x1 ≤ 0 ∧ -(x1 * r0) + x0 * r1 = m) ∨ (x0 ≤ 0 ∧ 0 ≤ x1 ∧ x1 * r0 - x0 * r1 = m))
theorem CfRel.start {a m : Int} (h0 : 0 ≤ a) (h1 : a ≤ 1000000000) (h2 : 1 ≤ m) (h3 : m ≤ 1000000000) : CfRel a m a m 1 0 :=
  ⟨h0, h1, by omega, h3, by simp, by simp [Int.dvd_neg, Int.dvd_refl], rfl, by omega, by omega, .inl ⟨by omega, by omega, by simp⟩⟩
theorem CfRel.bounds {a m r0 r1 x0 x1 : Int} (h : CfRel a m r0 r1 x0 x1) (hp : 0 < r1) :
    (0 ≤ r0 / r1 * r1 ∧ r0 / r1 * r1 ≤ r0) ∧ (-m ≤ x0 - r0 / r1 * x1 ∧ x0 - r0 / r1 * x1 ≤ m) ∧ (-m ≤ r0 / r1 * x1 ∧ r0 / r1 * x1 ≤ m) := by
  obtain ⟨a0, a1, b0, b1, _, _, _, c0, c1, hs⟩ := h
  have e := Int.mul_ediv_add_emod r0 r1
  have e1 := Int.emod_nonneg r0 (b := r1) (by omega)
  have e2 := Int.emod_lt_of_pos r0 (b := r1) hp
  have q0 : 0 ≤ r0 / r1 := Int.ediv_nonneg a0 (by omega)
  generalize r0 / r1 = q at *
  have hq : q * r1 = r1 * q := Int.mul_comm _ _
  refine ⟨⟨Int.mul_nonneg q0 b0, by omega⟩, ?_⟩
  have key : ∀ X M : Int, 0 ≤ X → X * r1 ≤ M → 0 ≤ M → X ≤ M := by
    intro X M hX hM _
    have : X * 1 ≤ X * r1 := Int.mul_le_mul_of_nonneg_left (by omega) hX
    omega
  rcases hs with ⟨s0, s1, hs⟩ | ⟨s0, s1, hs⟩
  · have k1 : 0 ≤ q * (-x1) := Int.mul_nonneg q0 (by omega)
    have k2 : 0 ≤ (-x1) * (r0 - q * r1) := Int.mul_nonneg (by omega) (by omega)
    have k3 : (x0 + q * (-x1)) * r1 ≤ m := by
      have : (x0 + q * (-x1)) * r1 = m - (-x1) * (r0 - q * r1) := by rw [← hs]; grind
      omega
    have := key (x0 + q * (-x1)) m (by omega) k3 (by omega)
    have e5 : q * (-x1) = -(q * x1) := by grind
    omega
  · have k1 : 0 ≤ q * x1 := Int.mul_nonneg q0 (by omega)
    have k2 : 0 ≤ x1 * (r0 - q * r1) := Int.mul_nonneg (by omega) (by omega)
    have k3 : (-x0 + q * x1) * r1 ≤ m := by
      have : (-x0 + q * x1) * r1 = m - x1 * (r0 - q * r1) := by rw [← hs]; grind
      omega
    have := key (-x0 + q * x1) m (by omega) k3 (by omega)
    omega
theorem gcd_step (r0 r1 : Int) : Int.gcd r1 (r0 - r0 / r1 * r1) = Int.gcd r0 r1 := by
  rw [Int.gcd_sub_mul_right_right, Int.gcd_comm]
theorem gcd_emod (r0 r1 : Int) : Int.gcd r1 (r0 % r1) = Int.gcd r0 r1 := by
  have e : r0 % r1 = r0 - r0 / r1 * r1 := by have := Int.mul_ediv_add_emod r0 r1; have := Int.mul_comm (r0 / r1) r1; omega
  rw [e, gcd_step]
theorem CfRel.step {a m r0 r1 x0 x1 : Int} (h : CfRel a m r0 r1 x0 x1) (hp : 0 < r1) : CfRel a m r1 (r0 - r0 / r1 * r1) x1 (x0 - r0 / r1 * x1) := by
  have hb := h.bounds hp
  have hg := gcd_step r0 r1
  have q0 : 0 ≤ r0 / r1 := Int.ediv_nonneg h.1 (by omega)
  obtain ⟨a0, a1, b0, b1, d0, d1, g, c0, c1, hs⟩ := h
  generalize r0 / r1 = q at *
  refine ⟨b0, b1, by omega, by omega, d1, ?_, by rw [hg, g], c1, hb.2.1, ?_⟩
  · have := Int.dvd_sub d0 (Int.dvd_mul_of_dvd_right (b := q) d1)
    have e : a * x0 - r0 - q * (a * x1 - r1) = a * (x0 - q * x1) - (r0 - q * r1) := by grind
    rw [e] at this; exact this
  · rcases hs with ⟨s0, s1, hs⟩ | ⟨s0, s1, hs⟩
    · have k1 : 0 ≤ q * (-x1) := Int.mul_nonneg q0 (by omega)
      have e5 : q * (-x1) = -(q * x1) := by grind
      exact .inr ⟨s1, by omega, by rw [← hs]; grind⟩
    · have k1 : 0 ≤ q * x1 := Int.mul_nonneg q0 (by omega)
      exact .inl ⟨s1, by omega, by rw [← hs]; grind⟩
theorem CfRel.fin {a m r0 x0 x1 : Int} (h : CfRel a m r0 0 x0 x1) : r0 = Int.gcd a m ∧ m ∣ a * x0 - Int.gcd a m ∧ -m ≤ x0 ∧ x0 ≤ m := by
  obtain ⟨a0, a1, b0, b1, d0, d1, g, c0, c1, hs⟩ := h
  rw [Int.gcd_zero] at g
  have : r0 = (r0.natAbs : Int) := by omega
  rw [← g, ← this]
  exact ⟨rfl, d0, c0⟩
/-- what cofactor hands back -/
def CfOut (a m : Int) (e : Ending) : Prop := ∃ x : Int, e = .returned (.tuple #[.int .i64 (Int.gcd a m), .int .i64 x]) ∧ m ∣ a * x - Int.gcd a m ∧ -m ≤ x ∧ x ≤ m

set_option maxHeartbeats 400000 in
theorem cofactor_any (a m : Int) (w : World) (h0 : 0 ≤ a) (h1 : a ≤ 1000000000) (h2 : 1 ≤ m) (h3 : m ≤ 1000000000) :
    Calls Try.prog 84 #[.int .i64 a, .int .i64 m] w fun e w' => CfOut a m e ∧ w = w' := by
  go_enter Try.func84, Try.ntmps84
  go_wp2
  go_loop [4, 5, 6, 7, 8] (fun t4 t5 t6 t7 _ => ∃ r0 r1 x0 x1 : Int, CfRel a m r0 r1 x0 x1 ∧ t4 = .int .i64 r0 ∧ t6 = .int .i64 r1 ∧ t5 = .int .i64 x0 ∧ t7 = .int .i64 x1) (fun _ _ t6 _ _ => (intOf t6).toNat)
  case atStart => exact ⟨a, m, 1, 0, CfRel.start h0 h1 h2 h3, rfl, rfl, rfl, rfl⟩
  case round =>
    obtain ⟨r0, r1, x0, x1, hrel, rfl, rfl, rfl, rfl⟩ := hrel
    obtain ⟨a0, a1, b0, b1, -, -, -, ⟨c0, c0'⟩, ⟨c1, c1'⟩, -⟩ := id hrel
    by_cases hz : r1 = 0
    · have HR := Lib.hid hrel
      have ht : (r1 != 0) = false := by rw [hz]; rfl
      have HZ := Lib.hid hz
      clear hrel hz
      go_wp2
      go_ret2
      have hr := HR.out
      rw [HZ.out] at hr
      exact ⟨⟨x0, by rw [hr.fin.1]; rfl, hr.fin.2⟩, rfl⟩
    · have hp : 0 < r1 := by omega
      obtain ⟨⟨d1, d2⟩, ⟨d3, d4⟩, ⟨d5, d6⟩⟩ := hrel.bounds hp
      have hlt := Int.emod_lt_of_pos r0 (b := r1) hp
      have hee := Int.mul_ediv_add_emod r0 r1
      have hcc : r0 / r1 * r1 = r1 * (r0 / r1) := Int.mul_comm _ _
      have hms : r0 - r0 / r1 * r1 < r1 := by omega
      have HR := Lib.hid hrel
      have ht : (r1 != 0) = true := by rw [bne_iff_ne]; exact hz
      clear hrel hz hee hcc hlt
      go_wp2
      go_round
      case rel => exact ⟨_, _, _, _, HR.out.step hp, rfl, rfl, rfl, rfl⟩
      case measure => simp [intOf]; omega

/-- numbers of a row of draws later -/
def Drew (w w' : World) : Prop := ∃ n, w' = w.drewN n
theorem Drew.refl (w : World) : Drew w w := ⟨0, rfl⟩
theorem Drew.step {w w' : World} (h : Drew w w') (n : Nat) : Drew w (w'.drewN n) := by
  obtain ⟨k, rfl⟩ := h; exact ⟨k + n, by rw [World.drewN_drewN]⟩

set_option maxHeartbeats 400000 in
theorem babs_any (a : Int) (w : World) (h0 : -9223372036854775807 ≤ a) :
    Calls Try.prog 14 #[.int .i64 a] w fun e w' => e = .returned (.int .i64 (a.natAbs : Int)) ∧ w = w' := by
  by_cases hn : a < 0
  · go_enter Try.func14, Try.ntmps14
    go_wp2
    go_ret
    exact ⟨ret_int (by omega), rfl⟩
  · go_enter Try.func14, Try.ntmps14
    go_wp2
    go_ret
    exact ⟨ret_int (by omega), rfl⟩

theorem modB_of {m : Int} (h : modB m = true) : 1 ≤ m ∧ m ≤ 1000000000 := by unfold modB at h; exact of_decide_eq_true h
theorem gcd_emod' (a m : Int) : Int.gcd (a % m) m = Int.gcd a m := by rw [Int.gcd_comm, gcd_emod]
theorem dvd_emod_mul {a m x g : Int} (h : m ∣ a % m * x - g) : m ∣ a * x - g := by
  have e : a * x - g = (a % m * x - g) + m * (a / m * x) := by have := Int.mul_ediv_add_emod a m; grind
  rw [e]; exact Int.dvd_add h (Int.dvd_mul_right _ _)
theorem dvd_mul_emod {a m x g : Int} (h : m ∣ a * x - g) : m ∣ a * (x % m) - g := by
  have e : a * (x % m) - g = (a * x - g) - m * (a * (x / m)) := by have := Int.mul_ediv_add_emod x m; grind
  rw [e]; exact Int.dvd_sub h (Int.dvd_mul_right _ _)
/-- the inverse modulo m -/
def IsInv (a m x : Int) : Prop := 0 ≤ x ∧ x < m ∧ m ∣ a * x - 1
def InvOut (a m : Int) (e : Ending) : Prop := ∃ x : Int, e = .returned (.tuple #[.int .i64 x, .int .i64 0]) ∧ IsInv a m x
theorem coprime_cancel {a m x : Int} (hg : Int.gcd a m = 1) (h : m ∣ a * x) : m ∣ x := by
  have h1 : m.natAbs ∣ a.natAbs * x.natAbs := by rw [← Int.natAbs_mul]; exact Int.natAbs_dvd_natAbs.2 h
  have h2 : Nat.Coprime m.natAbs a.natAbs := by rw [Nat.Coprime, Nat.gcd_comm]; exact hg
  exact Int.natAbs_dvd_natAbs.1 (h2.dvd_of_dvd_mul_left h1)
theorem small_dvd {m x : Int} (h : m ∣ x) (h1 : -m < x) (h2 : x < m) : x = 0 := by
  obtain ⟨q, rfl⟩ := h
  have hq : q = 0 := by
    rcases Int.lt_trichotomy q 0 with hq | hq | hq
    · have : m * q ≤ m * (-1) := Int.mul_le_mul_of_nonneg_left (by omega) (by omega)
      omega
    · exact hq
    · have : m * 1 ≤ m * q := Int.mul_le_mul_of_nonneg_left (by omega) (by omega)
      omega
  rw [hq, Int.mul_zero]
theorem IsInv.unique {a m x y : Int} (hg : Int.gcd a m = 1) (hx : IsInv a m x) (hy : IsInv a m y) : x = y := by
  have h := Int.dvd_sub hx.2.2 hy.2.2
  have e : a * x - 1 - (a * y - 1) = a * (x - y) := by grind
  rw [e] at h
  have := small_dvd (coprime_cancel hg h) (by have := hx.1; have := hy.2.1; omega) (by have := hy.1; have := hx.2.1; omega)
  omega

end Go.Proofs.Ytgbnmnkgelklbaa
