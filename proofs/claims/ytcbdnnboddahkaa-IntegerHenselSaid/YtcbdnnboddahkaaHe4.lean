/-
  WALKS: Lift of the reference.
-/
import Derived.Test.YtcbdnnboddahkaaHe3
import Derived.Test.YtcbdnnboddahkaaChi
import Derived.IntWalk
namespace Go.Proofs.Ytcbdnnboddahkaa.He
open Nt
open Go.RowKit
set_option linter.unusedVariables false
set_option maxRecDepth 100000
theorem inv_p {p b : Int} (hp : Pr p.toNat) (h3 : 3 ≤ p) (h : ¬ p ∣ b) : ∃ i, p ∣ b * i - 1 := by
  have hpc : (p.toNat : Int) = p := Int.toNat_of_nonneg (by omega)
  have ho : p.toNat % 2 = 1 := by
    rcases Nat.mod_two_eq_zero_or_one p.toNat with h0 | h0
    · have := hp.2 2 (Nat.dvd_of_mod_eq_zero h0)
      omega
    · exact h0
  have hc := leg_cong hp ho b
  have hs := leg_sq hp ho (a := b) (by rw [hpc]; exact h)
  rw [hpc] at hc
  obtain ⟨e, he⟩ : ∃ e, (p.toNat - 1) / 2 = e + 1 := ⟨(p.toNat - 1) / 2 - 1, by omega⟩
  rw [he, Int.pow_succ] at hc
  generalize leg b p.toNat = l at *
  refine ⟨b ^ e * l, ?_⟩
  have e1 : b * (b ^ e * l) - 1 = (b ^ e * b - l) * l + (l * l - 1) := by grind
  rw [e1, hs]
  simp only [Int.sub_self, Int.add_zero]
  exact Int.dvd_mul_of_dvd_left hc
theorem step_t {p a x m c : Int} (hp : Pr p.toNat) (h3 : 3 ≤ p) (hm : p ∣ m) (hx : ¬ p ∣ x) (hc : x * x - a = m * c) : ∃ t : Nat, (t : Int) < p ∧ m * p ∣ (x + m * t) * (x + m * t) - a := by
  have h2x : ¬ p ∣ 2 * x := fun hd => by
    have hd' : (p.toNat : Int) ∣ 2 * x := by rw [Int.toNat_of_nonneg (by omega)]; exact hd
    rcases hp.dvd_mul_int hd' with h | h
    · rw [Int.toNat_of_nonneg (by omega)] at h
      have := Int.le_of_dvd (by omega) h
      omega
    · rw [Int.toNat_of_nonneg (by omega)] at h
      exact hx h
  obtain ⟨i, v, hi⟩ := inv_p hp h3 h2x
  have ht1 := Int.emod_nonneg (-c * i) (b := p) (by omega)
  have ht2 := Int.emod_lt_of_pos (-c * i) (b := p) (by omega)
  have ht3 := Int.mul_ediv_add_emod (-c * i) p
  refine ⟨((-c * i) % p).toNat, by omega, ?_⟩
  rw [Int.toNat_of_nonneg ht1]
  generalize (-c * i) % p = t at *
  generalize (-c * i) / p = s at *
  obtain ⟨n, rfl⟩ := hm
  refine ⟨-(c * v) - 2 * x * s + n * (t * t), ?_⟩
  have e1 : (x + p * n * t) * (x + p * n * t) - a = (x * x - a) + p * n * (2 * x * t) + p * n * (p * n * (t * t)) := by grind
  have e2 : 2 * x * t = 2 * x * (-c * i) - 2 * x * (p * s) := by rw [← ht3]; grind
  have e4 : 2 * x * i = p * v + 1 := by omega
  have e3 : 2 * x * (-c * i) = -c * (p * v + 1) := by rw [← e4]; grind
  rw [e1, hc, e2, e3]; grind
theorem LX.next {p a r x : Int} {j : Nat} (hp : Pr p.toNat) (h3 : 3 ≤ p) (h1 : 1 ≤ j) (hr : ¬ p ∣ r) (h : LX p a r j x) : ∃ t : Nat, LX p a r (j + 1) (x + p ^ j * t) := by
  have hnz : ¬ p ∣ x := fun hd => hr (by
    have := Int.dvd_sub hd h.2.2.2
    have e : x - (x - r) = r := by omega
    rw [e] at this; exact this)
  have hq : 0 < p ^ j := Int.pow_pos (by omega)
  obtain ⟨h4, h5, ⟨c, hc⟩, h7⟩ := h
  obtain ⟨t, ht, hd⟩ := step_t hp h3 (p_dvd_pow h1) hnz hc
  have hb : p ^ j * (t : Int) ≤ p ^ j * (p - 1) := Int.mul_le_mul_of_nonneg_left (by omega) (by omega)
  have hb0 : 0 ≤ p ^ j * (t : Int) := Int.mul_nonneg (by omega) (by omega)
  refine ⟨t, by omega, ?_, ?_, ?_⟩
  · rw [Int.pow_succ]
    have : p ^ j * (p - 1) = p ^ j * p - p ^ j := by rw [Int.mul_sub, Int.mul_one]
    omega
  · rw [Int.pow_succ]; exact hd
  · have e : x + p ^ j * (t : Int) - r = (x - r) + p ^ j * t := by omega
    rw [e]
    exact Int.dvd_add h7 (Int.dvd_mul_of_dvd_left (p_dvd_pow h1))
theorem emod_eq_dvd {q b a : Int} (h : b % q = a % q) : q ∣ b - a := Int.dvd_of_emod_eq_zero (Int.emod_eq_emod_iff_emod_sub_eq_zero.1 h)
theorem dvd_emod_eq {q b a : Int} (h : q ∣ b - a) : b % q = a % q := Int.emod_eq_emod_iff_emod_sub_eq_zero.2 (Int.emod_eq_zero_of_dvd h)
set_option maxHeartbeats 1000000 in
theorem rLift_any (a p k r : Int) (w : World) (hk0 : -9223372036854775808 ≤ k) (hk2 : k ≤ 9223372036854775807) :
    Calls Try.prog 87 #[.int .i64 a, .int .i64 p, .int .i64 k, .int .i64 r] w fun e w' => LfOut a p k r e ∧ ∃ n, w' = w.drewN n := by
  by_cases he : ppE p k = 0
  · obtain ⟨hp2, hpm, hpr, hk1, hq, hQ⟩ := pp_ok he
    have hpdq : p ∣ p ^ k.toNat := p_dvd_pow (by omega)
    have hpq : p ≤ p ^ k.toNat := Int.le_of_dvd (by have : 0 < p ^ k.toNat := Int.pow_pos (by omega); omega) hpdq
    have HPP : Hid (Calls Try.prog 83 #[.int .i64 p, .int .i64 k] w fun e w' => e = .returned (.tuple #[.int .i64 (p ^ k.toNat), .int .i64 0]) ∧ w = w') := Lib.hid (by
      have h := rpp_any p k w hk0 hk2
      rw [hQ, he] at h; exact h)
    by_cases h2 : p = 2
    · have HE : Hid (lfE a p k r = 11) := Lib.hid (by unfold lfE; rw [if_neg (by rw [he]; simp), if_pos h2])
      have h2b : ((p : Int) == 2) = true := by rw [h2]; rfl
      have HP2 := Lib.hid h2
      clear h2 hpr hpdq hQ he
      go_enter Try.func87, Try.ntmps87
      go_wp2_with (go_at_call 83; refine HPP.out.mono ?_; rintro e w2 ⟨rfl, rfl⟩)
      go_ret2
      exact ⟨⟨0, by rw [HE.out]; rfl, fun h => by rw [HE.out] at h; omega, fun _ => rfl⟩, 0, rfl⟩
    · have h2b : ((p : Int) == 2) = false := by rw [beq_eq_false_iff_ne]; exact h2
      have hr1 := Int.emod_nonneg r (b := p) (by omega)
      have hr2 := Int.emod_lt_of_pos r (b := p) (by omega)
      have hap1 := Int.emod_nonneg a (b := p) (by omega)
      have hap2 := Int.emod_lt_of_pos a (b := p) (by omega)
      have HE : Hid (lfE a p k r = if r % p = 0 ∨ ¬ p ∣ r * r - a then 3 else 0) := Lib.hid (by unfold lfE; rw [if_neg (by rw [he]; simp), if_neg h2])
      have hrr : 0 ≤ r % p * (r % p) ∧ r % p * (r % p) ≤ 1000000000 * 1000000000 := ⟨Int.mul_nonneg hr1 hr1, Int.mul_le_mul (by omega) (by omega) hr1 (by omega)⟩
      obtain ⟨hrr1, hrr2⟩ := hrr
      have HSM : Hid ((r % p * (r % p)) % p = a % p ↔ p ∣ r * r - a) := Lib.hid (by
        rw [← Int.mul_emod]
        exact ⟨emod_eq_dvd, dvd_emod_eq⟩)
      have htm : (r % p * (r % p)).tmod p = (r % p * (r % p)) % p := Int.tmod_eq_emod_of_nonneg hrr1
      have HPR := Lib.hid hpr
      have h3 : 3 ≤ p := by omega
      clear h2 hpr hpdq hQ he
      by_cases hr0 : r % p = 0
      · have HE3 : Hid (lfE a p k r = 3) := Lib.hid (by rw [HE.out, if_pos (.inl hr0)])
        have hrb : ((r % p : Int) == 0) = true := by rw [hr0]; rfl
        clear hr0
        generalize p ^ k.toNat = q at *
        go_enter Try.func87, Try.ntmps87
        go_wp2_with (first | (go_at_call 83; refine HPP.out.mono ?_; rintro e w2 ⟨rfl, rfl⟩) | (go_at_call 120; refine (rmod_any _ _ _ (by omega) (by omega)).mono ?_; rintro e w2 ⟨rfl, rfl⟩))
        go_quiet ((go_at_call 120; exact Cn.quietE (rmod_any _ _ _ (by omega) (by omega))))
        go_wp2
        go_ret2
        exact ⟨⟨0, by rw [HE3.out]; rfl, fun h => by rw [HE3.out] at h; omega, fun _ => rfl⟩, nq, rfl⟩
      · have hrb : ((r % p : Int) == 0) = false := by rw [beq_eq_false_iff_ne]; exact hr0
        by_cases hd : p ∣ r * r - a
        · have HE0 : Hid (lfE a p k r = 0) := Lib.hid (by rw [HE.out, if_neg (by intro h; rcases h with h | h; exact hr0 h; exact h hd)])
          have hz : ((r % p * (r % p) % p : Int) != a % p) = false := by rw [HSM.out.2 hd, bne_self_eq_false]
          have hnr : ¬ p ∣ r := fun h => hr0 (Int.emod_eq_zero_of_dvd h)
          have HST : Hid (LX p a r 1 (r % p)) := Lib.hid ⟨hr1, by rw [Int.pow_one]; exact hr2, by rw [Int.pow_one]; exact emod_eq_dvd (HSM.out.2 hd), ⟨-(r / p), by have := Int.mul_ediv_add_emod r p; rw [Int.mul_neg]; omega⟩⟩
          have HNR := Lib.hid hnr
          clear hr0 hd hnr
          obtain ⟨q, hqq⟩ : ∃ q, p ^ k.toNat = q := ⟨_, rfl⟩
          have HQ := Lib.hid hqq
          rw [hqq] at HPP hq hpq
          clear hqq
          go_enter Try.func87, Try.ntmps87
          go_wp2_with (first | (go_at_call 83; refine HPP.out.mono ?_; rintro e w2 ⟨rfl, rfl⟩) | (go_at_call 120; refine (rmod_any _ _ _ (by omega) (by omega)).mono ?_; rintro e w2 ⟨rfl, rfl⟩))
          go_quiet ((go_at_call 120; exact Cn.quietE (rmod_any _ _ _ (by omega) (by omega))))
          go_wp2
          go_loopg [12, 13] k.toNat (fun gg t12 t13 wr => ∃ (j : Nat) (x m : Int), (1 ≤ j ∧ j ≤ k.toNat ∧ k.toNat - j ≤ gg ∧ LX p a r j x ∧ m = p ^ j ∧ ∃ n, wr = w.drewN n) ∧ t12 = .int .i64 x ∧ t13 = .int .i64 m)
          case atStart => exact ⟨1, r % p, p, ⟨Nat.le_refl _, by omega, by omega, HST.out, by rw [Int.pow_one], nq, rfl⟩, rfl, rfl⟩
          case round =>
            obtain ⟨j, x, m, ⟨hj1, hj2, hg, hl, hm, hw⟩, rfl, rfl⟩ := hrel
            have HW := Lib.hid hw
            clear hw
            have hx0 := hl.1
            have hx1 := hl.2.1
            rw [← hm] at hx1
            have HL := Lib.hid hl
            have HM := Lib.hid hm
            have hm1 : 1 ≤ m := by rw [hm]; have : 0 < p ^ j := Int.pow_pos (by omega); omega
            clear hl hm htm hz
            by_cases hjk : j < k.toNat
            · have hmq : m * p ≤ q := by
                rw [HM.out, ← HQ.out, ← Int.pow_succ]; exact pow_mono (by omega) hjk
              have hmp : 1 ≤ m * p := by have := Int.mul_le_mul hm1 (show 1 ≤ p by omega) (by omega) (by omega); omega
              have hmlt : m < q := by
                have : m * 2 ≤ m * p := Int.mul_le_mul_of_nonneg_left (by omega) (by omega)
                omega
              obtain ⟨t, hy⟩ := HL.out.next HPR.out (by omega) hj1 HNR.out
              rw [← HM.out] at hy
              obtain ⟨y, hyy⟩ : ∃ y, x + m * (t : Int) = y := ⟨_, rfl⟩
              rw [hyy] at hy
              have hy0 := hy.1
              have hy1 := hy.2.1
              rw [Int.pow_succ, ← HM.out] at hy1
              have HY := Lib.hid hy
              have HYY := Lib.hid hyy
              have ham1 := Int.emod_nonneg a (b := m * p) (by omega)
              have ham2 := Int.emod_lt_of_pos a (b := m * p) (by omega)
              have HXR := Lib.hid HL.out.2.2.2
              have HPM : Hid (p ∣ m) := Lib.hid (by rw [HM.out]; exact p_dvd_pow hj1)
              clear hy hyy
              go_wp2
              go_loopg [12] t (fun gg t12 wi => ∃ (X : Int) (u : Nat), (u ≤ gg ∧ X + m * u = y ∧ 0 ≤ X ∧ p ∣ X - r ∧ ∃ n, wi = w.drewN n) ∧ t12 = .int .i64 X)
              case atStart => exact ⟨x, t, ⟨Nat.le_refl _, HYY.out, hx0, HXR.out, HW.out⟩, rfl⟩
              case round =>
                obtain ⟨X, u, ⟨hu, hXu, hX0, hXr, hw⟩, rfl⟩ := hrel
                obtain ⟨wi, rfl⟩ : ∃ wi : World, wi = wr := ⟨_, rfl⟩
                have HWI : Hid (∀ n, ∃ n', wi.drewN n = w.drewN n') := Lib.hid (fun n => by
                  obtain ⟨n', rfl⟩ := hw; exact ⟨_, World.drewN_drewN _ _ _⟩)
                clear hw
                have hmu : 0 ≤ m * (u : Int) := Int.mul_nonneg (by omega) (by omega)
                have hX1 : X ≤ y := by omega
                have hXX : 0 ≤ X * X ∧ X * X ≤ 1000000000 * 1000000000 := ⟨Int.mul_nonneg hX0 hX0, Int.mul_le_mul (by omega) (by omega) hX0 (by omega)⟩
                obtain ⟨hXX1, hXX2⟩ := hXX
                have htm : (X * X).tmod (m * p) = (X * X) % (m * p) := Int.tmod_eq_emod_of_nonneg hXX1
                have hXe1 := Int.emod_nonneg (X * X) (b := m * p) (by omega)
                have hXe2 := Int.emod_lt_of_pos (X * X) (b := m * p) (by omega)
                have hmp0 : m * p ≠ 0 := by omega
                have hmp9 : m * p ≤ 9223372036854775807 := by omega
                have HXU := Lib.hid hXu
                have HXR2 := Lib.hid hXr
                clear hXr HXR
                by_cases hz : (X * X) % (m * p) = a % (m * p)
                · have hzb : ((X * X % (m * p) : Int) != a % (m * p)) = false := by rw [hz, bne_self_eq_false]
                  have HLN : Hid (LX p a r (j + 1) X) := Lib.hid ⟨hX0, by rw [Int.pow_succ, ← HM.out]; omega, by rw [Int.pow_succ, ← HM.out]; exact emod_eq_dvd hz, HXR2.out⟩
                  clear hz hXu hmu
                  go_wp2
                  have hw1 : IntKind.i64.wrap (m * p) = m * p := IntWalk.i64_in _ (by omega)
                  have hw2 : IntKind.i64.wrap (X * X) = X * X := IntWalk.i64_in _ (by omega)
                  go_quiet ((go_at_call 120; exact Cn.quietE (rmod_any _ _ _ hmp hmp9)))
                  clear hw1 hw2
                  go_wp2
                  go_roundg (k.toNat - (j + 1))
                  case rel => exact ⟨j + 1, X, m * p, ⟨by omega, by omega, Nat.le_refl _, HLN.out, by rw [Int.pow_succ, ← HM.out], HWI.out _⟩, rfl, by go_num⟩
                  case measure => omega
                · have hzb : ((X * X % (m * p) : Int) != a % (m * p)) = true := by rw [bne_iff_ne]; exact hz
                  have hu0 : 1 ≤ u := by
                    rcases Nat.eq_zero_or_pos u with h | h
                    · subst h
                      simp at hXu
                      subst hXu
                      have h4 := HY.out.2.2.1
                      rw [Int.pow_succ, ← HM.out] at h4
                      exact absurd (dvd_emod_eq h4) hz
                    · exact h
                  have hXm : X + m ≤ y := by
                    have : m * 1 ≤ m * (u : Int) := Int.mul_le_mul_of_nonneg_left (by omega) (by omega)
                    omega
                  have HXN : Hid (X + m + m * ((u - 1 : Nat) : Int) = y) := Lib.hid (by
                    rw [← hXu, Int.ofNat_sub hu0, Int.mul_sub]; simp; omega)
                  have HXR3 : Hid (p ∣ X + m - r) := Lib.hid (by
                    have := Int.dvd_add HXR2.out HPM.out
                    have e : X - r + m = X + m - r := by omega
                    rw [e] at this; exact this)
                  clear hz hXu hmu
                  go_wp2
                  have hw1 : IntKind.i64.wrap (m * p) = m * p := IntWalk.i64_in _ (by omega)
                  have hw2 : IntKind.i64.wrap (X * X) = X * X := IntWalk.i64_in _ (by omega)
                  go_quiet ((go_at_call 120; exact Cn.quietE (rmod_any _ _ _ hmp hmp9)))
                  clear hw1 hw2
                  go_wp2
                  go_roundg (u - 1)
                  case rel => exact ⟨X + m, u - 1, ⟨Nat.le_refl _, HXN.out, by omega, HXR3.out, HWI.out _⟩, by go_num⟩
                  case measure => omega
            · have hjk2 : j = k.toNat := by omega
              have hmq : m = q := by rw [HM.out, ← HQ.out, hjk2]
              subst hjk2
              go_wp2
              go_ret2
              exact ⟨⟨x, by rw [HE0.out]; rfl, fun _ => HL.out, fun h => absurd HE0.out h⟩, HW.out⟩
        · have HE3 : Hid (lfE a p k r = 3) := Lib.hid (by rw [HE.out, if_pos (.inr hd)])
          have hz : ((r % p * (r % p) % p : Int) != a % p) = true := by
            rw [bne_iff_ne]; intro h; exact hd (HSM.out.1 h)
          clear hr0 hd
          generalize p ^ k.toNat = q at *
          go_enter Try.func87, Try.ntmps87
          go_wp2_with (first | (go_at_call 83; refine HPP.out.mono ?_; rintro e w2 ⟨rfl, rfl⟩) | (go_at_call 120; refine (rmod_any _ _ _ (by omega) (by omega)).mono ?_; rintro e w2 ⟨rfl, rfl⟩))
          go_quiet ((go_at_call 120; exact Cn.quietE (rmod_any _ _ _ (by omega) (by omega))))
          go_wp2
          go_ret2
          exact ⟨⟨0, by rw [HE3.out]; rfl, fun h => by rw [HE3.out] at h; omega, fun _ => rfl⟩, nq, rfl⟩
  · have HE : Hid (lfE a p k r = ppE p k) := Lib.hid (by unfold lfE; rw [if_pos he])
    have HQ0 : Hid (ppQ p k = 0) := Lib.hid (by unfold ppQ; rw [if_neg he])
    have hb := pp_bd p k
    have hne : (ppE p k != 0) = true := by rw [bne_iff_ne]; exact he
    have HNE := Lib.hid he
    clear he
    have HPP := Lib.hid (rpp_any p k w hk0 hk2)
    rw [HQ0.out] at HPP
    generalize ppE p k = ee at *
    obtain ⟨hb1, hb2⟩ := hb
    go_enter Try.func87, Try.ntmps87
    go_wp2_with (go_at_call 83; refine HPP.out.mono ?_; rintro e w2 ⟨rfl, rfl⟩)
    go_ret2
    exact ⟨⟨0, by rw [HE.out]; rfl, fun h => by rw [HE.out] at h; exact absurd h HNE.out, fun _ => rfl⟩, 0, rfl⟩
end Go.Proofs.Ytcbdnnboddahkaa.He
