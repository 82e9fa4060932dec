/-
  WALKS: Lift of both packages.
-/
import Derived.Test.YtcbdnnboddahkaaHe2
namespace Go.Proofs.Ytcbdnnboddahkaa.He
open Nt
open Go.RowKit
set_option linter.unusedVariables false
set_option maxRecDepth 100000
noncomputable def lfE (a p k r : Int) : Int := if ppE p k ≠ 0 then ppE p k else if p = 2 then 11 else if r % p = 0 ∨ ¬ p ∣ r * r - a then 3 else 0
def LfOut (a p k r : Int) (e : Ending) : Prop := ∃ X, e = .returned (.tuple #[.int .i64 X, .int .i64 (lfE a p k r)]) ∧ (lfE a p k r = 0 → LX p a r k.toNat X) ∧ (lfE a p k r ≠ 0 → X = 0)
theorem lf_ok {a p k r : Int} (h : lfE a p k r = 0) : ppE p k = 0 ∧ 3 ≤ p ∧ ¬ p ∣ r ∧ p ∣ r * r - a := by
  unfold lfE at h
  split at h
  · omega
  · rename_i h0
    rw [Classical.not_not] at h0
    obtain ⟨hp, -, -, -, -, -⟩ := pp_ok h0
    split at h
    · omega
    · split at h
      · omega
      · rename_i h1 h2
        refine ⟨h0, by omega, fun hd => h2 (.inl (Int.emod_eq_zero_of_dvd hd)), Classical.byContradiction fun hn => h2 (.inr hn)⟩
theorem LfOut.unique {a p k r X Y : Int} (h : (lfE a p k r = 0 → LX p a r k.toNat X) ∧ (lfE a p k r ≠ 0 → X = 0)) (h' : (lfE a p k r = 0 → LX p a r k.toNat Y) ∧ (lfE a p k r ≠ 0 → Y = 0)) : X = Y := by
  by_cases h0 : lfE a p k r = 0
  · obtain ⟨h1, h2, h3, h4⟩ := lf_ok h0
    obtain ⟨-, -, hpr, hk, -, -⟩ := pp_ok h1
    exact LX.unique hpr h2 (by omega) h3 (h.1 h0) (h'.1 h0)
  · rw [h.2 h0, h'.2 h0]
theorem sq_mod {p q a r : Int} (h : p ∣ q) : p ∣ r % p * (r % p) - a % q ↔ p ∣ r * r - a := by
  have e1 : p ∣ r * r - r % p * (r % p) := by
    have e := Int.mul_ediv_add_emod r p
    have : r * r - r % p * (r % p) = (r - r % p) * (r + r % p) := by grind
    rw [this]
    have e2 : r - r % p = p * (r / p) := by omega
    rw [e2, Int.mul_assoc]; exact Int.dvd_mul_right _ _
  have e2 : p ∣ a - a % q := by
    have e := Int.mul_ediv_add_emod a q
    have : a - a % q = q * (a / q) := by omega
    rw [this]; exact Int.dvd_mul_of_dvd_left h
  have e3 := Int.dvd_sub e1 e2
  constructor
  · intro h1
    have := Int.dvd_add e3 h1
    have e4 : r * r - r % p * (r % p) - (a - a % q) + (r % p * (r % p) - a % q) = r * r - a := by omega
    rw [e4] at this; exact this
  · intro h1
    have := Int.dvd_sub h1 e3
    have e4 : r * r - a - (r * r - r % p * (r % p) - (a - a % q)) = r % p * (r % p) - a % q := by omega
    rw [e4] at this; exact this
theorem LX.conv {p a r X : Int} {k : Nat} (h : LX p (a % p ^ k) (r % p) k X) : LX p a r k X := by
  obtain ⟨h1, h2, h3, h4⟩ := h
  refine ⟨h1, h2, ?_, ?_⟩
  · have e := Int.mul_ediv_add_emod a (p ^ k)
    have := Int.dvd_sub h3 (Int.dvd_mul_right (p ^ k) (a / p ^ k))
    have e2 : X * X - a % p ^ k - p ^ k * (a / p ^ k) = X * X - a := by omega
    rw [e2] at this; exact this
  · have e := Int.mul_ediv_add_emod r p
    have := Int.dvd_sub h4 (Int.dvd_mul_right p (r / p))
    have e2 : X - r % p - p * (r / p) = X - r := by omega
    rw [e2] at this; exact this
theorem pp_bd (p k : Int) : 0 ≤ ppE p k ∧ ppE p k ≤ 11 := by unfold ppE; split <;> (try split) <;> (try split) <;> omega
set_option maxHeartbeats 1000000 in
theorem Lift_any (a p k r : Int) (w : World) (hk0 : -9223372036854775808 ≤ k) (hk2 : k ≤ 9223372036854775807) :
    Calls Try.prog 86 #[.int .i64 a, .int .i64 p, .int .i64 k, .int .i64 r] w fun e w' => LfOut a p k r e ∧ w = w' := by
  by_cases he : ppE p k = 0
  · obtain ⟨hp2, hpm, hpr, hk1, hq, hQ⟩ := pp_ok he
    have hpdq : p ∣ p ^ k.toNat := p_dvd_pow (by omega)
    have hpq : p ≤ p ^ k.toNat := Int.le_of_dvd (by have : 0 < p ^ k.toNat := Int.pow_pos (by omega); omega) hpdq
    have HPP : Hid (Calls Try.prog 145 #[.int .i64 p, .int .i64 k] w fun e w' => e = .returned (.tuple #[.int .i64 (p ^ k.toNat), .int .i64 0]) ∧ w = w') := Lib.hid (by
      have h := pp_any p k w hk0 hk2
      rw [hQ, he] at h; exact h)
    by_cases h2 : p = 2
    · have HE : Hid (lfE a p k r = 11) := Lib.hid (by unfold lfE; rw [if_neg (by rw [he]; simp), if_pos h2])
      have h2b : ((p : Int) == 2) = true := by rw [h2]; rfl
      have HP2 := Lib.hid h2
      clear h2 hpr hpdq hQ he
      go_enter Try.func86, Try.ntmps86
      go_wp2_with (go_at_call 145; refine HPP.out.mono ?_; rintro e w2 ⟨rfl, rfl⟩)
      go_ret2
      exact ⟨⟨0, by rw [HE.out]; rfl, fun h => by rw [HE.out] at h; omega, fun _ => rfl⟩, rfl⟩
    · have h2b : ((p : Int) == 2) = false := by rw [beq_eq_false_iff_ne]; exact h2
      have ha1 := Int.emod_nonneg a (b := p ^ k.toNat) (by omega)
      have ha2 := Int.emod_lt_of_pos a (b := p ^ k.toNat) (by omega)
      have hr1 := Int.emod_nonneg r (b := p) (by omega)
      have hr2 := Int.emod_lt_of_pos r (b := p) (by omega)
      have hsm := sq_mod (p := p) (q := p ^ k.toNat) (a := a) (r := r) hpdq
      have HLF : Hid (¬ (r % p = 0 ∨ ¬ p ∣ r * r - a) → Calls Try.prog 147 #[.int .i64 (a % p ^ k.toNat), .int .i64 (p ^ k.toNat), .int .i64 (r % p)] w fun e w' => (∃ X, LX p a r k.toNat X ∧ e = .returned (.int .i64 X)) ∧ w = w') := Lib.hid (fun hn => by
        have hnr : ¬ p ∣ r % p := fun hd => by
          have := Int.emod_eq_zero_of_dvd hd
          rw [Int.emod_emod_of_dvd _ (Int.dvd_refl p)] at this
          exact hn (.inl this)
        refine (lift_any p (a % p ^ k.toNat) (r % p) (r % p) k.toNat w hpr (by omega) (by omega) hq ha1 ha2 hnr hr1 (by omega) (hsm.2 (Classical.byContradiction fun h => hn (.inr h))) (by rw [Int.sub_self]; exact Int.dvd_zero p)).mono ?_
        rintro e w' ⟨⟨X, hX, rfl⟩, rfl⟩
        exact ⟨⟨X, hX.conv, rfl⟩, rfl⟩)
      have HE : Hid (lfE a p k r = if r % p = 0 ∨ ¬ p ∣ r * r - a then 3 else 0) := Lib.hid (by unfold lfE; rw [if_neg (by rw [he]; simp), if_neg h2])
      have HSM := Lib.hid hsm
      have hrr : 0 ≤ r % p * (r % p) ∧ r % p * (r % p) ≤ 1000000000 * 1000000000 := ⟨Int.mul_nonneg hr1 hr1, Int.mul_le_mul (by omega) (by omega) hr1 (by omega)⟩
      obtain ⟨hrr1, hrr2⟩ := hrr
      clear h2 hpr hpdq hQ he hsm
      generalize p ^ k.toNat = q at *
      by_cases hr0 : r % p = 0
      · have HE3 : Hid (lfE a p k r = 3) := Lib.hid (by rw [HE.out, if_pos (.inl hr0)])
        have hrb : ((r % p : Int) == 0) = true := by rw [hr0]; rfl
        clear hr0
        go_enter Try.func86, Try.ntmps86
        go_wp2_with (first | (go_at_call 145; refine HPP.out.mono ?_; rintro e w2 ⟨rfl, rfl⟩) | (go_at_call 114; refine (residue_any _ _ _ (by omega) (by omega)).mono ?_; rintro e w2 ⟨rfl, rfl⟩))
        go_ret2
        exact ⟨⟨0, by rw [HE3.out]; rfl, fun h => by rw [HE3.out] at h; omega, fun _ => rfl⟩, rfl⟩
      · have hrb : ((r % p : Int) == 0) = false := by rw [beq_eq_false_iff_ne]; exact hr0
        by_cases hd : p ∣ r * r - a
        · have HE0 : Hid (lfE a p k r = 0) := Lib.hid (by rw [HE.out, if_neg (by intro h; rcases h with h | h; exact hr0 h; exact h hd)])
          have HL := Lib.hid (HLF.out (by intro h; rcases h with h | h; exact hr0 h; exact h hd))
          have hz : (((r % p * (r % p) - a % q) % p : Int) != 0) = false := by rw [Int.emod_eq_zero_of_dvd (HSM.out.2 hd)]; rfl
          clear hr0 hd
          go_enter Try.func86, Try.ntmps86
          go_wp2_with (first | (go_at_call 145; refine HPP.out.mono ?_; rintro e w2 ⟨rfl, rfl⟩) | (go_at_call 114; refine (residue_any _ _ _ (by omega) (by omega)).mono ?_; rintro e w2 ⟨rfl, rfl⟩) | (go_at_call 147; refine HL.out.mono ?_; rintro e w2 ⟨⟨X, hX, rfl⟩, rfl⟩; have HX := Lib.hid hX; clear hX))
          go_ret2
          exact ⟨⟨X, by rw [HE0.out]; rfl, fun _ => HX.out, fun h => absurd HE0.out h⟩, rfl⟩
        · have HE3 : Hid (lfE a p k r = 3) := Lib.hid (by rw [HE.out, if_pos (.inr hd)])
          have hz : (((r % p * (r % p) - a % q) % p : Int) != 0) = true := by
            rw [bne_iff_ne]; intro h; exact hd (HSM.out.1 (Int.dvd_of_emod_eq_zero h))
          clear hr0 hd
          go_enter Try.func86, Try.ntmps86
          go_wp2_with (first | (go_at_call 145; refine HPP.out.mono ?_; rintro e w2 ⟨rfl, rfl⟩) | (go_at_call 114; refine (residue_any _ _ _ (by omega) (by omega)).mono ?_; rintro e w2 ⟨rfl, rfl⟩))
          go_ret2
          exact ⟨⟨0, by rw [HE3.out]; rfl, fun h => by rw [HE3.out] at h; omega, fun _ => rfl⟩, rfl⟩
  · have HE : Hid (lfE a p k r = ppE p k) := Lib.hid (by unfold lfE; rw [if_pos he])
    have HQ0 : Hid (ppQ p k = 0) := Lib.hid (by unfold ppQ; rw [if_neg he])
    have hb := pp_bd p k
    have hne : (ppE p k != 0) = true := by rw [bne_iff_ne]; exact he
    have HNE := Lib.hid he
    clear he
    have HPP := Lib.hid (pp_any p k w hk0 hk2)
    rw [HQ0.out] at HPP
    generalize ppE p k = ee at *
    obtain ⟨hb1, hb2⟩ := hb
    go_enter Try.func86, Try.ntmps86
    go_wp2_with (go_at_call 145; refine HPP.out.mono ?_; rintro e w2 ⟨rfl, rfl⟩)
    go_ret2
    exact ⟨⟨0, by rw [HE.out]; rfl, fun h => by rw [HE.out] at h; exact absurd h HNE.out, fun _ => rfl⟩, rfl⟩
end Go.Proofs.Ytcbdnnboddahkaa.He
