/-
  WALKS: Inverse and Bezout of both packages against one relation.
-/
import Derived.Test.YtcbdnnboddahkaaBez
namespace Go.Proofs.Ytcbdnnboddahkaa
open Go.RowKit
set_option linter.unusedVariables false
set_option maxRecDepth 100000

/-- what Inverse hands back -/
def InvRes (a m x l : Int) : Prop :=
  (modB m = false ∧ x = 0 ∧ l = 2) ∨ (modB m = true ∧ Int.gcd a m ≠ 1 ∧ x = 0 ∧ l = 12) ∨ (modB m = true ∧ Int.gcd a m = 1 ∧ l = 0 ∧ IsInv a m x)
theorem InvRes.unique {a m x l x' l' : Int} (h : InvRes a m x l) (h' : InvRes a m x' l') : x = x' ∧ l = l' := by
  rcases h with ⟨a1, a2, a3⟩ | ⟨a1, a2, a3, a4⟩ | ⟨a1, a2, a3, a4⟩ <;> rcases h' with ⟨b1, b2, b3⟩ | ⟨b1, b2, b3, b4⟩ | ⟨b1, b2, b3, b4⟩
  · exact ⟨by omega, by omega⟩
  · rw [a1] at b1; cases b1
  · rw [a1] at b1; cases b1
  · rw [a1] at b1; cases b1
  · exact ⟨by omega, by omega⟩
  · exact absurd b2 a2
  · rw [a1] at b1; cases b1
  · exact absurd a2 b2
  · exact ⟨a4.unique a2 b4, by omega⟩
def InvEnd (a m : Int) (e : Ending) : Prop := ∃ x l : Int, e = .returned (.tuple #[.int .i64 x, .int .i64 l]) ∧ InvRes a m x l
theorem inv48 (a m : Int) (w : World) : Calls Try.prog 48 #[.int .i64 a, .int .i64 m] w fun e w' => InvEnd a m e ∧ w = w' := by
  rcases hm : modB m with _ | _
  · exact (inv_bad a m w hm).mono fun e w' ⟨he, hw⟩ => ⟨⟨0, 2, he, .inl ⟨hm, rfl, rfl⟩⟩, hw⟩
  · by_cases hg : Int.gcd a m = 1
    · exact (inv_ok a m w hm hg).mono fun e w' ⟨⟨x, he, hx⟩, hw⟩ => ⟨⟨x, 0, he, .inr (.inr ⟨hm, hg, rfl, hx⟩)⟩, hw⟩
    · exact (inv_none a m w hm hg).mono fun e w' ⟨he, hw⟩ => ⟨⟨0, 12, he, .inr (.inl ⟨hm, hg, rfl, rfl⟩)⟩, hw⟩

set_option maxHeartbeats 400000 in
theorem rinv49 (a m : Int) (w : World) : Calls Try.prog 49 #[.int .i64 a, .int .i64 m] w fun e w' => InvEnd a m e ∧ w = w' := by
  rcases hm : modB m with _ | _
  · exact (rinv_bad a m w hm).mono fun e w' ⟨he, hw⟩ => ⟨⟨0, 2, he, .inl ⟨hm, rfl, rfl⟩⟩, hw⟩
  obtain ⟨m1, m2⟩ := modB_of hm
  have a1 := Int.emod_nonneg a (b := m) (by omega)
  have a2 := Int.emod_lt_of_pos a (b := m) (by omega)
  go_enter Try.func49, Try.ntmps49
  go_wp2_with (first | (go_at_call 119; refine (isModR_any _ _).mono ?_; rintro e w' ⟨rfl, rfl⟩) | (go_at_call 120; refine (rmod_any _ _ _ (by omega) (by omega)).mono ?_; rintro e w' ⟨rfl, rfl⟩))
  go_loop [6, 7, 8, 9, 10] (fun t6 t7 t8 t9 _ => ∃ r0 r1 x0 x1 : Int, CfRel (a % m) m r0 r1 x0 x1 ∧ t6 = .int .i64 r0 ∧ t7 = .int .i64 r1 ∧ t8 = .int .i64 x0 ∧ t9 = .int .i64 x1) (fun _ t7 _ _ _ => (intOf t7).toNat)
  case atStart => exact ⟨a % m, m, 1, 0, CfRel.start a1 (by omega) m1 m2, rfl, rfl, rfl, rfl⟩
  case round =>
    obtain ⟨r0, r1, x0, x1, hrel, rfl, rfl, rfl, rfl⟩ := hrel
    obtain ⟨u0, u1, b0, b1, -, -, -, ⟨c0, c0'⟩, ⟨c1, c1'⟩, -⟩ := id hrel
    by_cases hz : 0 < r1
    · obtain ⟨⟨d1, d2⟩, ⟨d3, d4⟩, ⟨d5, d6⟩⟩ := hrel.bounds hz
      have hlt := Int.emod_lt_of_pos r0 (b := r1) hz
      have hee := Int.mul_ediv_add_emod r0 r1
      have hcc : r0 / r1 * r1 = r1 * (r0 / r1) := Int.mul_comm _ _
      have hms : r0 - r0 / r1 * r1 < r1 := by omega
      have HR := Lib.hid hrel
      clear hrel hee hcc hlt
      go_wp2
      go_round
      case rel => exact ⟨_, _, _, _, HR.out.step hz, rfl, rfl, rfl, rfl⟩
      case measure => simp [intOf]; omega
    · have hz0 : r1 = 0 := by omega
      have hr := hrel
      rw [hz0] at hr
      have hf := hr.fin
      rw [gcd_emod'] at hf
      have HZ := Lib.hid hz0
      have HF := Lib.hid hf
      clear hrel hr hf hz0
      by_cases hg : r0 = 1
      · have ht : (r0 != 1) = false := by rw [hg]; rfl
        have HG := Lib.hid hg
        clear hg
        go_wp2_with (go_at_call 120; refine (rmod_any _ _ _ (by omega) (by omega)).mono ?_; rintro e w' ⟨rfl, rfl⟩)
        go_ret2
        have h := HF.out
        have hg1 : Int.gcd a m = 1 := by have := HG.out; omega
        rw [hg1] at h
        exact ⟨⟨_, _, rfl, .inr (.inr ⟨hm, hg1, rfl, Int.emod_nonneg _ (by omega), Int.emod_lt_of_pos _ (by omega), dvd_mul_emod (dvd_emod_mul h.2.1)⟩)⟩, rfl⟩
      · have ht : (r0 != 1) = true := by rw [bne_iff_ne]; exact hg
        have HG := Lib.hid hg
        clear hg
        go_wp2
        go_ret2
        exact ⟨⟨_, _, rfl, .inr (.inl ⟨hm, by have := HG.out; have := HF.out.1; omega, rfl, rfl⟩)⟩, rfl⟩
end Go.Proofs.Ytcbdnnboddahkaa
