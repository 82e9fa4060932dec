/-
  WALKS: the Hilbert symbol of the reference package, at an odd prime.
-/
import Derived.Test.YtgbnmnkgelklbaaDoorHil4
namespace Go.Proofs.YtgbnmnkgelklbaaDoor
open Go.RowKit
set_option linter.unusedVariables false
set_option maxRecDepth 100000
open Nt (Pr leg sg Sgn)
set_option maxHeartbeats 8000000 in
theorem rhil_odd (a b : Int) (p : Nat) (w : World) (hp : Pr p) (ho : p % 2 = 1) (hp9 : p ≤ 1000000000) (ha : a ≠ 0) (hb : b ≠ 0) (hin : (inB' a && inB' b) = true) (a1 : -1000000000 ≤ a) (a2 : a ≤ 1000000000) (b1 : -1000000000 ≤ b) (b2 : b ≤ 1000000000) :
    Calls Tryd.prog 30 #[.int .i64 a, .int .i64 b, .int .i64 p] w fun e w' => HilEnd a b p e ∧ w = w' := by
  have PB := Lib.hid (show prB (p : Int) = true from prB_t ⟨by have := hp.1; omega, by omega, by rw [Int.toNat_natCast]; exact hp⟩)
  have p3 : 3 ≤ p := by have := hp.1; omega
  have HP := Lib.hid hp
  have HO := Lib.hid ho
  have z0 : ((p : Int) == 0) = false := by simp; omega
  have z2 : ((p : Int) == 2) = false := by simp; omega
  have hmodne : ¬ ((p : Int) = 0) := by omega
  clear hp ho
  have EA := Lib.hid ha
  have EB := Lib.hid hb
  have HIN := Lib.hid hin
  clear ha hb hin
  go_enter Tryd.func30, Tryd.ntmps30
  go_wp2_with fail
  refine (chk135 a b p _).mono ?_
  rintro e w' ⟨⟨l, rfl, hl⟩, rfl⟩
  have hz : l = 0 := by
    rcases hl with ⟨h1 | h1, h2⟩ | ⟨h1, h2, h3, h4⟩ | ⟨h1, h2, h3, h4, h5, h6⟩ | ⟨h1, h2, h3, h4, h5⟩
    · exact absurd h1 EA.out
    · exact absurd h1 EB.out
    · rw [HIN.out] at h3; cases h3
    · rw [PB.out] at h5; cases h5
    · exact h5
  subst hz
  clear hl
  go_wp2_with fail
  go_loop [0, 9] (fun t0 t9 => ∃ (r : Int) (k : Nat), StRel a p r k ∧ t0 = .int .i64 r ∧ t9 = .int .i64 k) (fun t0 _ => (intOf t0).natAbs)
  case atStart => exact ⟨a, 0, ⟨by simp, EA.out, by omega, Iff.rfl⟩, rfl, rfl⟩
  case round =>
    obtain ⟨r, k, hrel, rfl, rfl⟩ := hrel
    have hb3 := hrel.2.2.1
    have r1 : -1000000000 ≤ r := by omega
    have r2 : r ≤ 1000000000 := by omega
    have k1 : (k : Int) ≤ 1000000000 := by omega
    obtain ⟨q1, q2⟩ := quo_small (r := r) (p := (p : Int)) (by omega) r1 r2
    have HR := Lib.hid hrel
    clear hrel hb3
    by_cases hd : r.tmod p = 0
    · have hst := HR.out.step (by omega) hd
      have ht : (r.tmod p == 0) = true := by rw [hd]; rfl
      have hmm : r.natAbs.div (p : Int).natAbs < r.natAbs := by have := hst.2; rw [Int.natAbs_tdiv] at this; exact this
      have HM := Lib.hid hmm
      have HS := Lib.hid hst
      clear hst hd hmm
      go_wp2
      go_round
      case rel => exact ⟨_, k + 1, HS.out.1, rfl, by go_num⟩
      case measure => simp [intOf]; exact HM.out
    · have ht : (r.tmod p == 0) = false := by simp [hd]
      have HV0 := Lib.hid (show Val a p r k from ⟨HR.out.1, fun hdv => hd (Int.tmod_eq_zero_of_dvd hdv)⟩)
      clear hd
      go_wp2
      go_loop [1, 10] (fun t1 t10 => ∃ (r' : Int) (k' : Nat), StRel b p r' k' ∧ t1 = .int .i64 r' ∧ t10 = .int .i64 k') (fun t1 _ => (intOf t1).natAbs)
      case atStart => exact ⟨b, 0, ⟨by simp, EB.out, by omega, Iff.rfl⟩, rfl, rfl⟩
      case round =>
        obtain ⟨r', k', hrel', rfl, rfl⟩ := hrel
        have hb3' := hrel'.2.2.1
        have r1' : -1000000000 ≤ r' := by omega
        have r2' : r' ≤ 1000000000 := by omega
        have k1' : (k' : Int) ≤ 1000000000 := by omega
        obtain ⟨q1', q2'⟩ := quo_small (r := r') (p := (p : Int)) (by omega) r1' r2'
        have HR' := Lib.hid hrel'
        clear hrel' hb3'
        by_cases hd' : r'.tmod p = 0
        · have hst := HR'.out.step (by omega) hd'
          have ht' : (r'.tmod p == 0) = true := by rw [hd']; rfl
          have hmm : r'.natAbs.div (p : Int).natAbs < r'.natAbs := by have := hst.2; rw [Int.natAbs_tdiv] at this; exact this
          have HM := Lib.hid hmm
          have HS := Lib.hid hst
          clear hst hd' hmm
          go_wp2
          go_round
          case rel => exact ⟨_, k' + 1, HS.out.1, rfl, by go_num⟩
          case measure => simp [intOf]; exact HM.out
        · have ht' : (r'.tmod p == 0) = false := by simp [hd']
          have HV1 := Lib.hid (show Val b p r' k' from ⟨HR'.out.1, fun hdv => hd' (Int.tmod_eq_zero_of_dvd hdv)⟩)
          clear hd'
          have s29 := (HV0.out.small (by omega) EA.out a1 a2).1
          have t29 := (HV1.out.small (by omega) EB.out b1 b2).1
          have lu := leg_pm HP.out HO.out HV0.out.2
          have lv := leg_pm HP.out HO.out HV1.out.2
          have hst0 : k * k' ≤ 29 * 29 := Nat.mul_le_mul s29 t29
          have hX0 : k * k' * ((p - 1) / 2) ≤ 841 * 500000000 := Nat.mul_le_mul hst0 (by omega)
          have est : (k : Int) * k' = ((k * k' : Nat) : Int) := by rw [Int.natCast_mul]
          have eh : ((p : Int) - 1) / 2 = (((p - 1) / 2 : Nat) : Int) := by omega
          have eX : (k : Int) * k' * (((p : Int) - 1) / 2) = ((k * k' * ((p - 1) / 2) : Nat) : Int) := by rw [eh, Int.natCast_mul, Int.natCast_mul]
          have st0 : 0 ≤ (k : Int) * k' ∧ (k : Int) * k' ≤ 841 := by rw [est]; omega
          have X0 : 0 ≤ (k : Int) * k' * (((p : Int) - 1) / 2) ∧ (k : Int) * k' * (((p : Int) - 1) / 2) ≤ 420500000000 := by rw [eX]; omega
          have Xm : (k * k' * ((p - 1) / 2)) % 2 = (k % 2) * (k' % 2) % 2 * (((p - 1) / 2) % 2) % 2 := by rw [Nat.mul_mod, Nat.mul_mod k k']
          obtain ⟨kx, kx0, kx1, kx2⟩ := par (k * k' * ((p - 1) / 2))
          rw [← eX] at kx1 kx2
          obtain ⟨ks, ks0, ks1, ks2⟩ := par k
          obtain ⟨kt, kt0, kt1, kt2⟩ := par k'
          obtain ⟨st0, st1⟩ := st0
          obtain ⟨X0, X1⟩ := X0
          have hs : k % 2 = 0 ∨ k % 2 = 1 := by omega
          have ht2 : k' % 2 = 0 ∨ k' % 2 = 1 := by omega
          have h4 : (p % 4 = 1 ∧ ((p - 1) / 2) % 2 = 0) ∨ (p % 4 = 3 ∧ ((p - 1) / 2) % 2 = 1) := by have := HO.out; omega
          have hh0 : 0 ≤ ((p : Int) - 1) / 2 := by omega
          clear est eh eX hst0 hX0
          rcases hs with hs | hs <;> rcases ht2 with ht2 | ht2 <;> rcases h4 with ⟨h4, h4'⟩ | ⟨h4, h4'⟩ <;> rcases lu with lu | lu <;> rcases lv with lv | lv
          all_goals
            rw [hs, ht2, h4'] at Xm
            rw [Xm] at kx1 kx2
            rw [hs] at ks1 ks2
            rw [ht2] at kt1 kt2
            simp at ks1 ks2 kt1 kt2 kx1 kx2
            have HE := Lib.hid (⟨hs, ht2, h4, lu, lv⟩ : _ ∧ _ ∧ _ ∧ _ ∧ _)
            clear hs ht2 h4 h4' Xm
            go_wp2_with (go_at_call 56; refine (rleg_any _ _ _ p3 hp9).mono ?_; rintro e w' ⟨rfl, rfl⟩)
            go_ret2
            obtain ⟨hs, ht2, h4, lu', lv'⟩ := HE.out
            exact ⟨⟨_, 0, rfl, .inr (.inr (.inr ⟨EA.out, EB.out, HIN.out, .inr PB.out, .inr (.inr ⟨by omega, PB.out, r, r', k, k', by rw [Int.toNat_natCast]; unfold hOdd; rw [lu', lv']; simp [hs, ht2, h4], HV0.out, HV1.out⟩), rfl⟩))⟩, rfl⟩
end Go.Proofs.YtgbnmnkgelklbaaDoor
