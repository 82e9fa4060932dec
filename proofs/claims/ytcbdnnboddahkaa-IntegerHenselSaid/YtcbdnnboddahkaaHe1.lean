/-
  WALKS: prime powers, in both packages.
-/
import Derived.Test.YtcbdnnboddahkaaWPrime
import Derived.Test.YtcbdnnboddahkaaHem
namespace Go.Proofs.Ytcbdnnboddahkaa.He
open Nt
open Go.RowKit
set_option linter.unusedVariables false
set_option maxRecDepth 100000
noncomputable def ppE (p k : Int) : Int := if prB p = true then (if k < 1 then 2 else if p ^ k.toNat ≤ 1000000000 then 0 else 2) else 11
noncomputable def ppQ (p k : Int) : Int := if ppE p k = 0 then p ^ k.toNat else 0
theorem pow_mono {p : Int} {i j : Nat} (hp : 1 ≤ p) (h : i ≤ j) : p ^ i ≤ p ^ j := by
  obtain ⟨d, rfl⟩ := Nat.exists_eq_add_of_le h
  induction d with
  | zero => exact Int.le_refl _
  | succ d ih =>
    have h1 := ih (by omega)
    have h2 : 0 ≤ p ^ (i + d) := Int.pow_nonneg (by omega)
    rw [show i + (d + 1) = i + d + 1 from by omega, Int.pow_succ]
    have h3 : p ^ (i + d) * 1 ≤ p ^ (i + d) * p := Int.mul_le_mul_of_nonneg_left (by omega) h2
    omega
theorem pp_ok {p k : Int} (h : ppE p k = 0) : 2 ≤ p ∧ p ≤ 1000000000 ∧ Pr p.toNat ∧ 1 ≤ k ∧ p ^ k.toNat ≤ 1000000000 ∧ ppQ p k = p ^ k.toNat := by
  have hq : ppQ p k = p ^ k.toNat := by unfold ppQ; rw [if_pos h]
  unfold ppE at h
  split at h
  · rename_i hp
    obtain ⟨h1, h2, h3⟩ := prB_of hp
    split at h
    · omega
    · split at h
      · exact ⟨h1, h2, h3, by omega, by assumption, hq⟩
      · omega
  · omega
set_option maxHeartbeats 1000000 in
theorem pp_any (p k : Int) (w : World) (hk0 : -9223372036854775808 ≤ k) (hk2 : k ≤ 9223372036854775807) :
    Calls Try.prog 145 #[.int .i64 p, .int .i64 k] w fun e w' => e = .returned (.tuple #[.int .i64 (ppQ p k), .int .i64 (ppE p k)]) ∧ w = w' := by
  cases hp : prB p with
  | false =>
    have HE : Hid (ppE p k = 11) := Lib.hid (by unfold ppE; rw [hp]; rfl)
    have HQ : Hid (ppQ p k = 0) := Lib.hid (by unfold ppQ; rw [HE.out]; rfl)
    go_enter Try.func145, Try.ntmps145
    go_wp2_with (go_at_call 71; refine (isPrime_any p _).mono ?_; rw [hp]; rintro e w2 ⟨rfl, rfl⟩)
    go_ret2
    exact ⟨by rw [HE.out, HQ.out]; rfl, rfl⟩
  | true =>
    obtain ⟨hp2, hpm, hpr⟩ := prB_of hp
    by_cases hk : k < 1
    · have HE : Hid (ppE p k = 2) := Lib.hid (by unfold ppE; rw [hp, if_pos rfl, if_pos hk])
      have HQ : Hid (ppQ p k = 0) := Lib.hid (by unfold ppQ; rw [HE.out]; rfl)
      clear hpr
      go_enter Try.func145, Try.ntmps145
      go_wp2_with (go_at_call 71; refine (isPrime_any p _).mono ?_; rw [hp]; rintro e w2 ⟨rfl, rfl⟩)
      go_ret2
      exact ⟨by rw [HE.out, HQ.out]; rfl, rfl⟩
    · have HPR := Lib.hid hp
      clear hpr
      go_enter Try.func145, Try.ntmps145
      go_wp2_with (go_at_call 71; refine (isPrime_any p _).mono ?_; rw [hp]; rintro e w2 ⟨rfl, rfl⟩)
      clear hp
      go_loop [6, 13] (fun t6 t13 => ∃ (i : Nat) (Q : Int), ((i : Int) ≤ k ∧ Q = p ^ i ∧ 1 ≤ Q ∧ Q ≤ 1000000000) ∧ t6 = .int .i64 Q ∧ t13 = .int .i64 i) (fun _ t => k.toNat - (intOf t).toNat)
      case atStart => exact ⟨0, 1, ⟨by omega, by simp, by omega, by omega⟩, rfl, rfl⟩
      case round =>
        obtain ⟨i, Q, ⟨hi, hQ, hQ1, hQ2⟩, rfl, rfl⟩ := hrel
        have HQP := Lib.hid hQ
        have hm1 : 0 ≤ Q * p := Int.mul_nonneg (by omega) (by omega)
        have hm2 : Q * p ≤ 1000000000 * 1000000000 := Int.mul_le_mul hQ2 hpm (by omega) (by omega)
        have hm3 : 1 ≤ Q * p := by have := Int.mul_le_mul hQ1 (show 1 ≤ p by omega) (by omega) (by omega); omega
        clear hQ
        by_cases hlt : (i : Int) < k
        · by_cases hbig : 1000000000 < Q * p
          · have HE : Hid (ppE p k = 2) := Lib.hid (by
              unfold ppE
              rw [HPR.out, if_pos rfl, if_neg (show ¬ k < 1 by omega), if_neg]
              have h1 : p ^ (i + 1) ≤ p ^ k.toNat := pow_mono (by omega) (by omega)
              rw [Int.pow_succ, ← HQP.out] at h1
              omega)
            have HQ : Hid (ppQ p k = 0) := Lib.hid (by unfold ppQ; rw [HE.out]; rfl)
            go_wp2
            go_ret2
            exact ⟨by rw [HE.out, HQ.out]; rfl, rfl⟩
          · have HN : Hid (Q * p = p ^ (i + 1)) := Lib.hid (by rw [Int.pow_succ, ← HQP.out])
            go_wp2
            go_round
            case rel => exact ⟨i + 1, Q * p, ⟨by omega, HN.out, hm3, by omega⟩, rfl, by go_num⟩
            case measure => simp [intOf]; omega
        · have hik : i = k.toNat := by omega
          have HE : Hid (ppE p k = 0) := Lib.hid (by unfold ppE; rw [HPR.out, if_pos rfl, if_neg (show ¬ k < 1 by omega), if_pos (by rw [← hik, ← HQP.out]; omega)])
          have HQ : Hid (ppQ p k = Q) := Lib.hid (by unfold ppQ; rw [HE.out, if_pos rfl, ← hik, ← HQP.out])
          clear hik
          go_wp2
          go_ret2
          exact ⟨by rw [HE.out, HQ.out]; rfl, rfl⟩
set_option maxHeartbeats 1000000 in
theorem rpp_any (p k : Int) (w : World) (hk0 : -9223372036854775808 ≤ k) (hk2 : k ≤ 9223372036854775807) :
    Calls Try.prog 83 #[.int .i64 p, .int .i64 k] w fun e w' => e = .returned (.tuple #[.int .i64 (ppQ p k), .int .i64 (ppE p k)]) ∧ w = w' := by
  cases hp : prB p with
  | false =>
    have HE : Hid (ppE p k = 11) := Lib.hid (by unfold ppE; rw [hp]; rfl)
    have HQ : Hid (ppQ p k = 0) := Lib.hid (by unfold ppQ; rw [HE.out]; rfl)
    go_enter Try.func83, Try.ntmps83
    go_wp2_with (go_at_call 72; refine (risPrime_any p _).mono ?_; rw [hp]; rintro e w2 ⟨rfl, rfl⟩)
    go_ret2
    exact ⟨by rw [HE.out, HQ.out]; rfl, rfl⟩
  | true =>
    obtain ⟨hp2, hpm, hpr⟩ := prB_of hp
    by_cases hk : k < 1
    · have HE : Hid (ppE p k = 2) := Lib.hid (by unfold ppE; rw [hp, if_pos rfl, if_pos hk])
      have HQ : Hid (ppQ p k = 0) := Lib.hid (by unfold ppQ; rw [HE.out]; rfl)
      clear hpr
      go_enter Try.func83, Try.ntmps83
      go_wp2_with (go_at_call 72; refine (risPrime_any p _).mono ?_; rw [hp]; rintro e w2 ⟨rfl, rfl⟩)
      go_ret2
      exact ⟨by rw [HE.out, HQ.out]; rfl, rfl⟩
    · have HPR := Lib.hid hp
      clear hpr
      go_enter Try.func83, Try.ntmps83
      go_wp2_with (go_at_call 72; refine (risPrime_any p _).mono ?_; rw [hp]; rintro e w2 ⟨rfl, rfl⟩)
      clear hp
      go_loop [6, 7] (fun t6 t7 => ∃ (i : Nat) (Q : Int), ((i : Int) ≤ k ∧ Q = p ^ i ∧ 1 ≤ Q ∧ Q ≤ 1000000000) ∧ t6 = .int .i64 Q ∧ t7 = .int .i64 i) (fun _ t => k.toNat - (intOf t).toNat)
      case atStart => exact ⟨0, 1, ⟨by omega, by simp, by omega, by omega⟩, rfl, rfl⟩
      case round =>
        obtain ⟨i, Q, ⟨hi, hQ, hQ1, hQ2⟩, rfl, rfl⟩ := hrel
        have HQP := Lib.hid hQ
        have hm1 : 0 ≤ Q * p := Int.mul_nonneg (by omega) (by omega)
        have hm2 : Q * p ≤ 1000000000 * 1000000000 := Int.mul_le_mul hQ2 hpm (by omega) (by omega)
        have hm3 : 1 ≤ Q * p := by have := Int.mul_le_mul hQ1 (show 1 ≤ p by omega) (by omega) (by omega); omega
        clear hQ
        by_cases hlt : (i : Int) < k
        · by_cases hbig : 1000000000 < Q * p
          · have HE : Hid (ppE p k = 2) := Lib.hid (by
              unfold ppE
              rw [HPR.out, if_pos rfl, if_neg (show ¬ k < 1 by omega), if_neg]
              have h1 : p ^ (i + 1) ≤ p ^ k.toNat := pow_mono (by omega) (by omega)
              rw [Int.pow_succ, ← HQP.out] at h1
              omega)
            have HQ : Hid (ppQ p k = 0) := Lib.hid (by unfold ppQ; rw [HE.out]; rfl)
            go_wp2
            go_ret2
            exact ⟨by rw [HE.out, HQ.out]; rfl, rfl⟩
          · have HN : Hid (Q * p = p ^ (i + 1)) := Lib.hid (by rw [Int.pow_succ, ← HQP.out])
            go_wp2
            go_round
            case rel => exact ⟨i + 1, Q * p, ⟨by omega, HN.out, hm3, by omega⟩, rfl, by go_num⟩
            case measure => simp [intOf]; omega
        · have hik : i = k.toNat := by omega
          have HE : Hid (ppE p k = 0) := Lib.hid (by unfold ppE; rw [HPR.out, if_pos rfl, if_neg (show ¬ k < 1 by omega), if_pos (by rw [← hik, ← HQP.out]; omega)])
          have HQ : Hid (ppQ p k = Q) := Lib.hid (by unfold ppQ; rw [HE.out, if_pos rfl, ← hik, ← HQP.out])
          clear hik
          go_wp2
          go_ret2
          exact ⟨by rw [HE.out, HQ.out]; rfl, rfl⟩
end Go.Proofs.Ytcbdnnboddahkaa.He
