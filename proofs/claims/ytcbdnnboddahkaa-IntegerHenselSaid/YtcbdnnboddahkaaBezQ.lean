/-
  WALKS: Bezout of the reference package against the same relation.
-/
import Derived.Test.YtcbdnnboddahkaaBezR
namespace Go.Proofs.Ytcbdnnboddahkaa
open Go.RowKit
set_option linter.unusedVariables false
set_option maxRecDepth 100000

theorem rgcd_abs (a b : Int) (w : World) (h1 : -1000000000 ≤ a) (h2 : a ≤ 1000000000) (h3 : -1000000000 ≤ b) (h4 : b ≤ 1000000000) :
    Calls Try.prog 116 #[.int .i64 (a.natAbs : Int), .int .i64 (b.natAbs : Int)] w fun e w' => e = .returned (.int .i64 (Int.gcd a b)) ∧ Drew w w' := by
  have h := rgcd_any (a.natAbs : Int) (b.natAbs : Int) w (by omega) (by omega) (by omega) (by omega)
  have e : Int.gcd (a.natAbs : Int) (b.natAbs : Int) = Int.gcd a b := by unfold Int.gcd; rw [Int.natAbs_natCast, Int.natAbs_natCast]
  rw [e] at h
  exact h
set_option maxHeartbeats 400000 in
theorem rbez_bad1 (a b : Int) (w : World) (h : inB a = false) : Calls Try.prog 47 #[.int .i64 a, .int .i64 b] w fun e w' => e = .returned (.tuple #[.int .i64 0, .int .i64 0, .int .i64 0, .int .i64 2]) ∧ w = w' := by
  unfold inB at h
  go_enter Try.func47, Try.ntmps47
  go_wp2_with (go_at_call 115; refine (withinR_any _ _ _ _).mono ?_; rintro e w' ⟨rfl, rfl⟩)
  refine bodyPost_ret (results_tmp4 rfl _ _ _) rfl ?_
  exact ⟨rfl, rfl⟩
set_option maxHeartbeats 400000 in
theorem rbez_bad2 (a b : Int) (w : World) (h : inB a = true) (h' : inB b = false) : Calls Try.prog 47 #[.int .i64 a, .int .i64 b] w fun e w' => e = .returned (.tuple #[.int .i64 0, .int .i64 0, .int .i64 0, .int .i64 2]) ∧ w = w' := by
  unfold inB at h h'
  go_enter Try.func47, Try.ntmps47
  go_wp2_with (go_at_call 115; refine (withinR_any _ _ _ _).mono ?_; rintro e w' ⟨rfl, rfl⟩)
  refine bodyPost_ret (results_tmp4 rfl _ _ _) rfl ?_
  exact ⟨rfl, rfl⟩
set_option maxHeartbeats 400000 in
theorem rbez_zero (w : World) : Calls Try.prog 47 #[.int .i64 0, .int .i64 0] w fun e w' => e = .returned (.tuple #[.int .i64 0, .int .i64 0, .int .i64 0, .int .i64 10]) ∧ w = w' := by
  have h : withinB 0 (-1000000000) 1000000000 = true := by decide
  go_enter Try.func47, Try.ntmps47
  go_wp2_with (go_at_call 115; refine (withinR_any _ _ _ _).mono ?_; rintro e w' ⟨rfl, rfl⟩)
  refine bodyPost_ret (results_tmp4 rfl _ _ _) rfl ?_
  exact ⟨rfl, rfl⟩
theorem tdiv_self_abs (a : Int) (ha : a ≠ 0) : a.tdiv (a.natAbs : Int) = if a < 0 then -1 else 1 := by
  by_cases h : a < 0
  · rw [if_pos h]
    have e : (a.natAbs : Int) = -a := by omega
    rw [e, Int.tdiv_neg, Int.tdiv_self ha]
  · rw [if_neg h]
    have e : (a.natAbs : Int) = a := by omega
    rw [e, Int.tdiv_self ha]
theorem ifs_any (a : Int) : (if a < 0 then (-1 : Int) else 1) = -1 ∨ (if a < 0 then (-1 : Int) else 1) = 1 := by split <;> simp
set_option maxHeartbeats 400000 in
theorem rbez_b0' (a s : Int) (hs : a.tdiv (a.natAbs : Int) = s) (w : World) (ha : a ≠ 0) (h : inB a = true) : Calls Try.prog 47 #[.int .i64 a, .int .i64 0] w fun e w' => e = .returned (.tuple #[.int .i64 (a.natAbs : Int), .int .i64 s, .int .i64 0, .int .i64 0]) ∧ Drew w w' := by
  unfold inB at h
  obtain ⟨a1, a2⟩ := withinB_of h
  have h0 : withinB 0 (-1000000000) 1000000000 = true := by decide
  have hz : (a == 0) = false := by simp [ha]
  have hg0 : (Int.gcd a 0) = a.natAbs := Int.gcd_zero
  have hb : 1 ≤ (a.natAbs : Int) := by omega
  have hb' : (a.natAbs : Int) ≤ 1000000000 := by omega
  have hne : ((a.natAbs : Int) == 0) = false := by simp [ha]
  have HD := Lib.hid hs
  have HA := Lib.hid ha
  clear hs ha
  go_enter Try.func47, Try.ntmps47
  go_wp2_with (first | (go_at_call 115; refine (withinR_any _ _ _ _).mono ?_; rintro e w' ⟨rfl, rfl⟩) | (go_at_call 117; refine (rabs_any _ _ (by omega)).mono ?_; rintro e w' ⟨rfl, rfl⟩) | (go_at_call 116; refine (rgcd_abs a 0 _ (by omega) (by omega) (by omega) (by omega)).mono ?_; rintro e w' ⟨rfl, n, rfl⟩))
  have hd0 : Drew w (w.drewN n) := ⟨n, rfl⟩
  have HD0 := Lib.hid hd0
  clear hd0
  generalize w.drewN n = w1 at *
  go_quiet (fail)
  go_wp2
  refine bodyPost_ret (results_tmp4 rfl _ _ _) rfl ?_
  exact ⟨by rw [← HD.out]; rfl, HD0.out.step _⟩
theorem rbez_b0 (a : Int) (w : World) (ha : a ≠ 0) (h : inB a = true) : Calls Try.prog 47 #[.int .i64 a, .int .i64 0] w fun e w' => e = .returned (.tuple #[.int .i64 (a.natAbs : Int), .int .i64 (if a < 0 then -1 else 1), .int .i64 0, .int .i64 0]) ∧ Drew w w' :=
  rbez_b0' a _ (tdiv_self_abs a ha) w ha h

/-- the quotients by the greatest common divisor have none -/
theorem gcd_parts (a b : Int) (hz : b ≠ 0) : Int.gcd (a.tdiv (Int.gcd a b)) ((b.natAbs : Int) / Int.gcd a b) = 1 := by
  have hg : 0 < Int.gcd a b := Int.gcd_pos_of_ne_zero_right a hz
  obtain ⟨a', ha⟩ := Int.gcd_dvd_left a b
  obtain ⟨b', hb⟩ := Int.gcd_dvd_right a b
  have e1 : a.tdiv (Int.gcd a b) = a' := by
    conv => lhs; rw [ha]
    have : ((Int.gcd (↑(a.gcd b) * a') b : Nat) : Int) = Int.gcd a b := by rw [← ha]
    rw [this]
    exact Int.mul_tdiv_cancel_left _ (by omega)
  have e2 : (b.natAbs : Int) / Int.gcd a b = (b'.natAbs : Int) := by
    have e2 : (b.natAbs : Int) = Int.gcd a b * b'.natAbs := by
      conv => lhs; rw [hb, Int.natAbs_mul]
      simp
    rw [e2]; exact Int.mul_ediv_cancel_left _ (by omega)
  rw [e1, e2]
  have h1 : Int.gcd (Int.gcd a b * a') (Int.gcd a b * b') = Int.gcd a b := by rw [← ha, ← hb]
  rw [Int.gcd_mul_left, Int.natAbs_natCast] at h1
  have h2 : Int.gcd a' b' = 1 := Nat.eq_of_mul_eq_mul_left hg (h1.trans (Nat.mul_one _).symm)
  have h3 : Int.gcd a' (b'.natAbs : Int) = Int.gcd a' b' := by unfold Int.gcd; rw [Int.natAbs_natCast]
  rw [h3, h2]
/-- an inverse of the parts is the combination -/
theorem bz_of_inv {a b x : Int} (hz : b ≠ 0) (h : IsInv (a.tdiv (Int.gcd a b)) ((b.natAbs : Int) / Int.gcd a b) x) : BzX a b x := by
  have hg : 0 < Int.gcd a b := Int.gcd_pos_of_ne_zero_right a hz
  refine ⟨h.1, h.2.1, ?_⟩
  obtain ⟨t, ht⟩ := h.2.2
  have e1 : a.tdiv (Int.gcd a b) * Int.gcd a b = a := Int.tdiv_mul_cancel (Int.gcd_dvd_left a b)
  have e2 : (b.natAbs : Int) / Int.gcd a b * Int.gcd a b = b.natAbs := Int.ediv_mul_cancel (Int.dvd_natAbs.2 (Int.gcd_dvd_right a b))
  generalize a.tdiv (Int.gcd a b) = p at *
  generalize (b.natAbs : Int) / Int.gcd a b = m at *
  rw [← e2]
  have e3 : a * x - Int.gcd a b = (p * Int.gcd a b) * x - Int.gcd a b := by rw [e1]
  rw [e3]
  generalize (Int.gcd a b : Int) = g at *
  exact ⟨t, by grind⟩
theorem bz_zero {a b : Int} (hz : b ≠ 0) (h : ¬ (1 < (b.natAbs : Int) / Int.gcd a b)) : BzX a b 0 := by
  have hg : 0 < Int.gcd a b := Int.gcd_pos_of_ne_zero_right a hz
  have e2 : (b.natAbs : Int) / Int.gcd a b * Int.gcd a b = b.natAbs := Int.ediv_mul_cancel (Int.dvd_natAbs.2 (Int.gcd_dvd_right a b))
  have hq : 0 < (b.natAbs : Int) / Int.gcd a b := Int.ediv_pos_of_pos_of_dvd (by omega) (by omega) (Int.dvd_natAbs.2 (Int.gcd_dvd_right a b))
  have h1 : (b.natAbs : Int) / Int.gcd a b = 1 := by omega
  rw [h1, Int.one_mul] at e2
  refine ⟨by omega, by omega, ?_⟩
  rw [← e2]; simp
theorem rinv_ok2 (a m : Int) (w : World) (hm : modB m = true) (hg : Int.gcd a m = 1) : Calls Try.prog 49 #[.int .i64 a, .int .i64 m] w fun e w' => InvOut a m e ∧ w = w' := by
  refine (rinv49 a m w).mono fun e w' ⟨⟨x, l, he, hx⟩, hw⟩ => ⟨?_, hw⟩
  rcases hx with ⟨q1, -, -⟩ | ⟨-, q2, -, -⟩ | ⟨-, -, hl, hx⟩
  · rw [hm] at q1; cases q1
  · exact absurd hg q2
  · subst hl; exact ⟨x, he, hx⟩
theorem ret4 {g x y y' l : Int} (h : y = y') : Ending.returned (.tuple #[.int .i64 g, .int .i64 x, .int .i64 y, .int .i64 l]) = .returned (.tuple #[.int .i64 g, .int .i64 x, .int .i64 y', .int .i64 l]) := by rw [h]
set_option maxHeartbeats 400000 in
theorem rbez_ok (a b : Int) (w : World) (ha : inB a = true) (hb : inB b = true) (hz : b ≠ 0) :
    Calls Try.prog 47 #[.int .i64 a, .int .i64 b] w fun e w' => BzOut a b e ∧ Drew w w' := by
  unfold inB at ha hb
  obtain ⟨a1, a2⟩ := withinB_of ha
  obtain ⟨b1, b2⟩ := withinB_of hb
  have g1 : 1 ≤ (Int.gcd a b : Int) := by have := Int.gcd_pos_of_ne_zero_right a hz; omega
  have g2 : (Int.gcd a b : Int) ≤ 1000000000 := by
    have := Nat.le_of_dvd (by omega) (Int.gcd_dvd_natAbs_right a b); omega
  have hbz : (b == 0) = false := by simp [hz]
  have hm0 : (b.natAbs : Int) / Int.gcd a b ≤ 1000000000 := by
    have := Int.ediv_le_self (Int.gcd a b) (a := (b.natAbs : Int)) (by omega); omega
  have HP := Lib.hid (gcd_parts a b hz)
  have HZ := Lib.hid hz
  have hq0 : 0 ≤ (b.natAbs : Int) / Int.gcd a b := Int.ediv_nonneg (by omega) (by omega)
  by_cases hm : 1 < (b.natAbs : Int) / Int.gcd a b
  · rcases ha0 : (a == 0) with _ | _
    all_goals
     have hmd : modB ((b.natAbs : Int) / Int.gcd a b) = true := by unfold modB; exact decide_eq_true (by omega)
     have HMD := Lib.hid hmd
     clear hmd
     go_enter Try.func47, Try.ntmps47
     go_wp2_with (first | (go_at_call 115; refine (withinR_any _ _ _ _).mono ?_; rintro e w' ⟨rfl, rfl⟩) | (go_at_call 117; refine (rabs_any _ _ (by omega)).mono ?_; rintro e w' ⟨rfl, rfl⟩) | (go_at_call 116; refine (rgcd_abs a b _ (by omega) (by omega) (by omega) (by omega)).mono ?_; rintro e w' ⟨rfl, n, rfl⟩) | (go_at_call 49; refine (rinv_ok2 _ _ _ HMD.out HP.out).mono ?_; rintro e w' ⟨⟨x, rfl, hx⟩, rfl⟩; replace hx := Lib.hid hx))
     have hx0 := hx.out.1
     have hx1 := hx.out.2.1
     have HX := Lib.hid (bz_of_inv HZ.out hx.out)
     clear hx
     obtain ⟨p1, p2⟩ := sm_bd (a := a) (x := x) (M := 1000000000) (N := 1000000000) (by omega) (by omega) (by omega) (by omega) (by omega)
     have e1 : IntKind.i64.wrap (a * x) = a * x := IntWalk.i64_in _ (by omega)
     have e2 : IntKind.i64.wrap ((Int.gcd a b : Int) - a * x) = (Int.gcd a b : Int) - a * x := IntWalk.i64_in _ (by omega)
     have hw : wrap64 (((Int.gcd a b : Int) - a * x).tdiv b) = ((Int.gcd a b : Int) - a * x).tdiv b := by
       have := tdiv_size ((Int.gcd a b : Int) - a * x) b
       exact IntWalk.wrap64_in _ (by omega)
     have HW := Lib.hid hw
     clear hw
     have hd0 : Drew w (w.drewN n) := ⟨n, rfl⟩
     have HD0 := Lib.hid hd0
     clear hd0
     generalize w.drewN n = w1 at *
     go_quiet (fail)
     go_wp2
     refine bodyPost_ret (results_tmp4 rfl _ _ _) rfl ?_
     exact ⟨⟨x, ret4 HW.out, HX.out⟩, HD0.out.step _⟩
  · rcases ha0 : (a == 0) with _ | _
    all_goals
     have HX := Lib.hid (bz_zero HZ.out hm)
     go_enter Try.func47, Try.ntmps47
     go_wp2_with (first | (go_at_call 115; refine (withinR_any _ _ _ _).mono ?_; rintro e w' ⟨rfl, rfl⟩) | (go_at_call 117; refine (rabs_any _ _ (by omega)).mono ?_; rintro e w' ⟨rfl, rfl⟩) | (go_at_call 116; refine (rgcd_abs a b _ (by omega) (by omega) (by omega) (by omega)).mono ?_; rintro e w' ⟨rfl, n, rfl⟩))
     have hw : wrap64 ((Int.gcd a b : Int).tdiv b) = (Int.gcd a b : Int).tdiv b := by
       have := tdiv_size (Int.gcd a b : Int) b
       exact IntWalk.wrap64_in _ (by omega)
     have HW := Lib.hid hw
     clear hw
     have hd0 : Drew w (w.drewN n) := ⟨n, rfl⟩
     have HD0 := Lib.hid hd0
     clear hd0
     generalize w.drewN n = w1 at *
     go_quiet (fail)
     go_wp2
     refine bodyPost_ret (results_tmp4 rfl _ _ _) rfl ?_
     exact ⟨⟨0, ret4 (by have hw' := HW.out; rw [Int.mul_zero, Int.sub_zero]; rw [Int.tdiv_eq_ediv_of_nonneg (by omega)] at hw' ⊢; exact hw'), HX.out⟩, HD0.out.step _⟩
theorem bez47 (a b : Int) (w : World) : Calls Try.prog 47 #[.int .i64 a, .int .i64 b] w fun e w' => BzEnd a b e ∧ Drew w w' := by
  rcases h1 : inB a with _ | _
  · exact (rbez_bad1 a b w h1).mono fun e w' ⟨he, hw⟩ => ⟨⟨0, 0, 0, 2, he, .inl ⟨by simp [h1], rfl, rfl, rfl, rfl⟩⟩, hw ▸ Drew.refl _⟩
  rcases h2 : inB b with _ | _
  · exact (rbez_bad2 a b w h1 h2).mono fun e w' ⟨he, hw⟩ => ⟨⟨0, 0, 0, 2, he, .inl ⟨by simp [h2], rfl, rfl, rfl, rfl⟩⟩, hw ▸ Drew.refl _⟩
  by_cases hb : b = 0
  · subst hb
    by_cases ha : a = 0
    · subst ha
      exact (rbez_zero w).mono fun e w' ⟨he, hw⟩ => ⟨⟨0, 0, 0, 10, he, .inr (.inl ⟨by simp [h1], rfl, rfl, rfl, rfl, rfl, rfl⟩)⟩, hw ▸ Drew.refl _⟩
    · exact (rbez_b0 a w ha h1).mono fun e w' ⟨he, hd⟩ => ⟨⟨_, _, _, _, he, .inr (.inr (.inl ⟨by simp [h1, h2], ha, rfl, rfl, rfl, rfl, rfl⟩))⟩, hd⟩
  · exact (rbez_ok a b w h1 h2 hb).mono fun e w' ⟨⟨x, he, hx⟩, hd⟩ => ⟨⟨_, _, _, _, he, .inr (.inr (.inr ⟨by simp [h1, h2], hb, rfl, hx, rfl, rfl⟩))⟩, hd⟩
end Go.Proofs.Ytcbdnnboddahkaa
