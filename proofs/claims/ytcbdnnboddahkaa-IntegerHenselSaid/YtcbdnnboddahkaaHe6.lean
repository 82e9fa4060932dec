/-
  WALKS: powers of a prime; a root modulo a prime.
-/
import Derived.Test.YtcbdnnboddahkaaHe5
import Derived.Test.YtcbdnnboddahkaaHe3
import Derived.Test.YtcbdnnboddahkaaWJac
import Derived.Test.YtcbdnnboddahkaaPower
import Derived.Deep.LoopGhost
import Derived.IntWalk
namespace Go.Proofs.Ytcbdnnboddahkaa.He
open Nt
open Go.RowKit
set_option linter.unusedVariables false
set_option maxRecDepth 100000
set_option maxHeartbeats 1000000 in
theorem raise_any (p : Int) (n : Nat) (w : World) (hp : 1 ≤ p) (hp2 : p ≤ 1000000000) (h : p ^ n ≤ 1000000000) (hn : n ≤ 9223372036854775807) :
    Calls Try.prog 159 #[.int .i64 p, .int .i64 n] w fun e w' => e = .returned (.int .i64 (p ^ n)) ∧ w = w' := by
  have HPN := Lib.hid h
  clear h
  go_enter Try.func159, Try.ntmps159
  go_wp2
  go_loop [5, 7] (fun t5 t7 => ∃ (i : Nat) (Q : Int), ((i : Int) ≤ n ∧ Q = p ^ i) ∧ t5 = .int .i64 Q ∧ t7 = .int .i64 i) (fun _ t => n - (intOf t).toNat)
  case atStart => exact ⟨0, 1, ⟨by omega, by simp⟩, rfl, rfl⟩
  case round =>
    obtain ⟨i, Q, ⟨hi, hQ⟩, rfl, rfl⟩ := hrel
    have HQP := Lib.hid hQ
    have hQ1 : 1 ≤ Q := by rw [hQ]; have : 0 < p ^ i := Int.pow_pos (by omega); omega
    clear hQ
    by_cases hlt : (i : Int) < n
    · have HN : Hid (Q * p = p ^ (i + 1)) := Lib.hid (by rw [Int.pow_succ, ← HQP.out])
      have hm : Q * p ≤ 1000000000 := by
        rw [HN.out]
        have h1 : p ^ (i + 1) ≤ p ^ n := pow_mono hp (by omega)
        have := HPN.out
        omega
      have hm0 : 0 ≤ Q * p := Int.mul_nonneg (by omega) (by omega)
      go_wp2
      go_round
      case rel => exact ⟨i + 1, Q * p, ⟨by omega, HN.out⟩, rfl, by go_num⟩
      case measure => simp [intOf]; omega
    · have hin : i = n := by omega
      have HR : Hid (Q = p ^ n) := Lib.hid (by rw [← hin]; exact HQP.out)
      clear hin
      go_wp2
      go_ret
      exact ⟨by rw [← HR.out]; rfl, rfl⟩
theorem power_at (a m e : Int) (n : Nat) (w : World) (he : e = n) (h1 : 1 ≤ m) (h2 : m ≤ 1000000000) (h3 : n ≤ 9223372036854775807) :
    Calls Try.prog 121 #[.int .i64 a, .int .i64 e, .int .i64 m] w fun e w' => e = .returned (.int .i64 (powM a n m)) ∧ w = w' := by
  subst he; exact power_any a m n w h1 h2 h3
theorem TI.mod {p a x b c : Int} {S : Nat} (h : TI p a S x b c) : TI p a S (x % p) (b % p) (c % p) := by
  obtain ⟨h1, h2, h3⟩ := h
  refine ⟨((E.mod p x).mul (E.mod p x)).trans (h1.trans ((E.refl p a).mul (E.mod p b).symm)), ((E.mod p b).pow _).trans h2, ((E.mod p c).pow _).trans h3⟩
theorem TI.start {p : Nat} {a z : Int} {S T : Nat} (hp : Pr p) (ho : p % 2 = 1) (h : (2 * T + 1) * 2 ^ S = (p - 1) / 2) (ha : leg a p = 1) (hz : leg z p = -1) :
    TI p a S (a ^ (T + 1) % p) (a ^ (2 * T + 1) % p) (z ^ (2 * T + 1) % p) := by
  refine TI.mod ⟨?_, ?_, ?_⟩
  · rw [← Int.pow_add, ← Int.pow_succ']
    have : T + 1 + (T + 1) = 2 * T + 1 + 1 := by omega
    rw [this]; exact E.refl _ _
  · rw [← Int.pow_mul, h]
    have := leg_cong hp ho a
    rw [ha] at this
    exact E.dvd.2 this
  · rw [← Int.pow_mul, h]
    have := leg_cong hp ho z
    rw [hz] at this
    exact E.dvd.2 this
theorem mul_in {p x y : Int} (hp : p ≤ 1000000000) (h1 : 0 ≤ x) (h2 : x < p) (h3 : 0 ≤ y) (h4 : y < p) : 0 ≤ x * y ∧ x * y ≤ 1000000000 * 1000000000 := ⟨Int.mul_nonneg h1 h3, Int.mul_le_mul (by omega) (by omega) h3 (by omega)⟩
theorem strip_p (p : Nat) (w : World) (h3 : 3 ≤ p) (ho : p % 2 = 1) (hpm : p ≤ 1000000000) :
    Calls Try.prog 128 #[.int .i64 ((p : Int) - 1), .int .i64 2] w fun e w' => (∃ S T : Nat, (2 * T + 1) * 2 ^ S = (p - 1) / 2 ∧ S ≤ 40 ∧ 2 * T + 1 ≤ 1000000000 ∧ e = .returned (.tuple #[.int .i64 (2 * (T : Int) + 1), .int .i64 ((S : Int) + 1)])) ∧ w = w' := by
  refine (strip_any ((p : Int) - 1) 2 _ (by omega) (by omega) (by omega) (by omega) (by omega)).mono ?_
  rintro e w2 ⟨⟨r, k, rfl, hst, hr⟩, rfl⟩
  obtain ⟨s1, s2, s3, s4⟩ := hst
  obtain ⟨R, rfl⟩ := Int.eq_ofNat_of_zero_le (show 0 ≤ r by have := s4.1 (by omega); omega)
  obtain ⟨T, rfl⟩ : ∃ T, R = 2 * T + 1 := ⟨R / 2, by omega⟩
  have hR : (2 * T + 1) * 2 ^ k = p - 1 := by
    have e1 : (((2 * T + 1) * 2 ^ k : Nat) : Int) = (p : Int) - 1 := by rw [s1]; simp
    omega
  obtain ⟨S, rfl⟩ : ∃ S, k = S + 1 := by
    refine ⟨k - 1, ?_⟩
    rcases Nat.eq_zero_or_pos k with h | h
    · subst h; have := ho; omega
    · omega
  rw [Nat.pow_succ, ← Nat.mul_assoc] at hR
  have HH : (2 * T + 1) * 2 ^ S = (p - 1) / 2 := by omega
  have hS : S ≤ 40 := by
    rcases Nat.lt_or_ge S 41 with h | h
    · omega
    · have h4 : 2 ^ 41 ≤ 2 ^ S := Nat.pow_le_pow_right (by omega) h
      have h5 : 1 * 2 ^ S ≤ (2 * T + 1) * 2 ^ S := Nat.mul_le_mul_right _ (by omega)
      omega
  have hT : 2 * T + 1 ≤ 1000000000 := by
    have : (2 * T + 1) * 1 ≤ (2 * T + 1) * 2 ^ S := Nat.mul_le_mul_left _ (Nat.pow_pos (by omega))
    omega
  exact ⟨⟨S, T, HH, hS, hT, by simp⟩, rfl⟩
set_option maxHeartbeats 2000000 in
theorem rmp_any (a : Int) (p : Nat) (w : World) (hp : Pr p) (ho : p % 2 = 1) (hpm : p ≤ 1000000000) (ha : leg a p = 1) :
    Calls Try.prog 180 #[.int .i64 a, .int .i64 p] w fun e w' => (∃ x : Int, 0 ≤ x ∧ x < p ∧ (p : Int) ∣ x * x - a ∧ e = .returned (.int .i64 x)) ∧ w = w' := by
  have h2 := hp.1
  obtain ⟨z0, hz1, hz2, hz3⟩ := nonres hp ho
  have HP := Lib.hid hp
  have HA := Lib.hid ha
  have HZ := Lib.hid hz3
  have HO := Lib.hid ho
  have h3 : 3 ≤ p := by omega
  clear hp ha hz3 ho
  have HS := Lib.hid (strip_p p w h3 HO.out hpm)
  go_enter Try.func180, Try.ntmps180
  go_wp2_with (go_at_call 128; refine HS.out.mono ?_; rintro e w2 ⟨⟨S, T, hH, hS, hT, rfl⟩, rfl⟩; have HH := Lib.hid hH; clear hH)
  go_loop [7] (fun t7 => ∃ z : Nat, (2 ≤ z ∧ z ≤ z0) ∧ t7 = .int .i64 z) (fun t => z0 - (intOf t).toNat)
  case atStart => exact ⟨2, ⟨by omega, by omega⟩, rfl⟩
  case round =>
    obtain ⟨z, ⟨hz4, hz5⟩, rfl⟩ := hrel
    by_cases hl : leg (z : Int) p = -1
    · have HJ : Hid (Calls Try.prog 130 #[.int .i64 z, .int .i64 p] w fun e w' => e = .returned (.int .i64 (-1)) ∧ w = w') := Lib.hid (by
        have h := jacobi_any z p w HO.out hpm
        rw [jac_prime _ HP.out HO.out, hl] at h; exact h)
      have HTI := Lib.hid (TI.start HP.out HO.out HH.out HA.out hl)
      clear hl
      go_wp2_with (first | (go_at_call 130; refine HJ.out.mono ?_; rintro e w2 ⟨rfl, rfl⟩) | (go_at_call 121; refine (power_at _ _ _ (T + 1) _ (by omega) (by omega) (by omega) (by omega)).mono ?_; rintro e w2 ⟨rfl, rfl⟩) | (go_at_call 121; refine (power_at _ _ _ (2 * T + 1) _ (by omega) (by omega) (by omega) (by omega)).mono ?_; rintro e w2 ⟨rfl, rfl⟩))
      go_loopg [6, 8, 9, 10, 11, 12, 13] S (fun gg t6 t8 t9 t10 _ _ _ wr => ∃ (s : Nat) (x b c : Int), (s ≤ S ∧ s ≤ gg ∧ (0 ≤ x ∧ x < p) ∧ (0 ≤ b ∧ b < p) ∧ (0 ≤ c ∧ c < p) ∧ TI p a s x b c ∧ wr = w) ∧ t6 = .int .i64 ((s : Int) + 1) ∧ t8 = .int .i64 x ∧ t9 = .int .i64 b ∧ t10 = .int .i64 c)
      case atStart => exact ⟨S, _, _, _, ⟨Nat.le_refl _, Nat.le_refl _, ⟨Int.emod_nonneg _ (by omega), Int.emod_lt_of_pos _ (by omega)⟩, ⟨Int.emod_nonneg _ (by omega), Int.emod_lt_of_pos _ (by omega)⟩, ⟨Int.emod_nonneg _ (by omega), Int.emod_lt_of_pos _ (by omega)⟩, HTI.out, rfl⟩, by go_num, rfl, rfl, rfl⟩
      case round =>
        obtain ⟨s, x, b, c, ⟨hs, hg, ⟨hx1, hx2⟩, ⟨hb1, hb2⟩, ⟨hc1, hc2⟩, hti, rfl⟩, rfl, rfl, rfl, rfl⟩ := hrel
        have HT := Lib.hid hti
        clear hti HTI
        by_cases hb : b = 1
        · subst hb
          have HD : Hid ((p : Int) ∣ x * x - a) := Lib.hid (by have := HT.out.1; rw [Int.mul_one] at this; exact E.dvd.1 this)
          go_wp2
          go_ret
          exact ⟨⟨x, hx1, hx2, HD.out, rfl⟩, rfl⟩
        · have hbb : ((b : Int) != 1) = true := by rw [bne_iff_ne]; exact hb
          have HNB : Hid (¬ E p b 1) := Lib.hid (fun h => hb (by
            unfold E at h
            rw [Int.emod_eq_of_lt hb1 hb2, Int.emod_eq_of_lt (by omega) (by omega)] at h; exact h))
          clear hb
          go_wp2
          go_loopg [11, 12] s (fun gg t11 t12 wi => ∃ (k : Nat) (t : Int), (k ≤ s ∧ s - k ≤ gg ∧ (0 ≤ t ∧ t < p) ∧ E p (b ^ 2 ^ k) t ∧ (∀ i, i < k → ¬ E p (b ^ 2 ^ i) 1) ∧ wi = wr) ∧ t11 = .int .i64 k ∧ t12 = .int .i64 t)
          case atStart => exact ⟨0, b, ⟨Nat.zero_le _, by omega, ⟨hb1, hb2⟩, by rw [show (2 : Nat) ^ 0 = 1 from rfl, Int.pow_one]; exact E.refl _ _, fun i h => by omega, rfl⟩, rfl, rfl⟩
          case round =>
            obtain ⟨k, t, ⟨hk, hg2, ⟨ht1, ht2⟩, hE, hno, rfl⟩, rfl, rfl⟩ := hrel
            have HE := Lib.hid hE
            have HNO := Lib.hid hno
            clear hE hno
            by_cases ht : t = 1
            · subst ht
              obtain ⟨k', rfl⟩ : ∃ k', k = k' + 1 := by
                refine ⟨k - 1, ?_⟩
                rcases Nat.eq_zero_or_pos k with h | h
                · subst h; have := HE.out; rw [show (2 : Nat) ^ 0 = 1 from rfl, Int.pow_one] at this; exact absurd this HNB.out
                · omega
              obtain ⟨Q, hQ⟩ : ∃ Q : Nat, Q = 2 ^ (s - (k' + 1)) := ⟨_, rfl⟩
              have hQ2 : Q ≤ 1099511627776 := by rw [hQ, show 1099511627776 = 2 ^ 40 from rfl]; exact Nat.pow_le_pow_right (by omega) (by omega)
              obtain ⟨y, hy⟩ : ∃ y, powM c Q p = y := ⟨_, rfl⟩
              have hy1 : 0 ≤ y := by rw [← hy]; exact Int.emod_nonneg _ (by omega)
              have hy2 : y < p := by rw [← hy]; exact Int.emod_lt_of_pos _ (by omega)
              have HY : Hid (E p y (c ^ 2 ^ (s - (k' + 1)))) := Lib.hid (by rw [← hy, ← hQ]; exact E.mod _ _)
              have hbm : b * (y * y % p) % p = b * (y * y) % p := (E.refl (p : Int) b).mul (E.mod (p : Int) (y * y))
              have htn := (HT.out.step HP.out hk HE.out (HNO.out k' (by omega)) HY.out).mod
              rw [← hbm] at htn
              have HTN := Lib.hid htn
              have hyp1 := Int.emod_nonneg (y * y) (b := (p : Int)) (by omega)
              have hyp2 := Int.emod_lt_of_pos (y * y) (b := (p : Int)) (by omega)
              have hby1 := mul_in (show (p : Int) ≤ 1000000000 by omega) hb1 hb2 hyp1 hyp2
              obtain ⟨hby1, hby2⟩ := hby1
              clear htn hbm
              have hyy1 := mul_in (by omega) hy1 hy2 hy1 hy2
              have hxy1 := mul_in (by omega) hx1 hx2 hy1 hy2
              have HSH : Hid (wrap64 (2 ^ (s - k' - 1)) = (Q : Int)) := Lib.hid (by
                have e1 : s - k' - 1 = s - (k' + 1) := by omega
                have e2 : (2 : Int) ^ (s - (k' + 1)) = (Q : Int) := by rw [hQ]; simp
                rw [e1, e2]
                exact IntWalk.wrap64_in (Q : Int) (by omega))
              have htw : 0 ≤ (s : Int) + 1 - (k' + 1 : Nat) - 1 ∧ (s : Int) + 1 - (k' + 1 : Nat) - 1 ≤ 40 := by omega
              obtain ⟨htw1, htw2⟩ := htw
              obtain ⟨hyy1, hyy2⟩ := hyy1
              obtain ⟨hxy1, hxy2⟩ := hxy1
              have HPW : Hid (∀ e : Int, e = (Q : Int) → Calls Try.prog 121 #[.int .i64 c, .int .i64 e, .int .i64 p] wr fun e' w' => e' = .returned (.int .i64 y) ∧ wr = w') := Lib.hid (fun e he => by
                have h := power_at c p e Q wr he (by omega) (by omega) (by omega)
                rw [hy] at h; exact h)
              clear hy hQ HNO HE
              go_wp2_with (go_at_call 121; refine (HPW.out _ HSH.out).mono ?_; rintro e w2 ⟨rfl, rfl⟩)
              go_roundg k'
              case rel => exact ⟨k', _, _, _, ⟨by omega, Nat.le_refl _, ⟨Int.emod_nonneg _ (by omega), Int.emod_lt_of_pos _ (by omega)⟩, ⟨Int.emod_nonneg _ (by omega), Int.emod_lt_of_pos _ (by omega)⟩, ⟨Int.emod_nonneg _ (by omega), Int.emod_lt_of_pos _ (by omega)⟩, HTN.out, rfl⟩, by go_num, rfl, rfl, rfl⟩
              case measure => omega
            · have htb : ((t : Int) != 1) = true := by rw [bne_iff_ne]; exact ht
              have hks : k < s := by
                rcases Nat.lt_or_ge k s with h | h
                · exact h
                · have h6 : k = s := by omega
                  subst h6
                  have h7 := HE.out.symm.trans HT.out.2.1
                  unfold E at h7
                  rw [Int.emod_eq_of_lt ht1 ht2, Int.emod_eq_of_lt (by omega) (by omega)] at h7
                  exact absurd h7 ht
              have HN : Hid (E p (b ^ 2 ^ (k + 1)) (t * t % p)) := Lib.hid (by
                rw [Nat.pow_succ, Nat.mul_comm, Nat.two_mul, Int.pow_add]
                exact (HE.out.mul HE.out).trans (E.mod _ _).symm)
              have HNN : Hid (∀ i, i < k + 1 → ¬ E p (b ^ 2 ^ i) 1) := Lib.hid (fun i h => by
                rcases Nat.lt_or_ge i k with h5 | h5
                · exact HNO.out i h5
                · have : i = k := by omega
                  subst this
                  intro h6
                  have h7 := HE.out.symm.trans h6
                  unfold E at h7
                  rw [Int.emod_eq_of_lt ht1 ht2, Int.emod_eq_of_lt (by omega) (by omega)] at h7
                  exact ht h7)
              obtain ⟨htt1, htt2⟩ := mul_in (show (p : Int) ≤ 1000000000 by omega) ht1 ht2 ht1 ht2
              have hte1 := Int.emod_nonneg (t * t) (b := (p : Int)) (by omega)
              have hte2 := Int.emod_lt_of_pos (t * t) (b := (p : Int)) (by omega)
              clear ht
              go_wp2
              go_roundg (s - (k + 1))
              case rel => exact ⟨k + 1, _, ⟨by omega, Nat.le_refl _, ⟨hte1, hte2⟩, HN.out, HNN.out, rfl⟩, by go_num, rfl⟩
              case measure => omega
    · have hzz : z < z0 := by
        rcases Nat.lt_or_ge z z0 with h | h
        · exact h
        · have : z = z0 := by omega
          subst this
          exact absurd HZ.out hl
      have hlb : ((leg (z : Int) p : Int) != -1) = true := by rw [bne_iff_ne]; exact hl
      have HJ : Hid (Calls Try.prog 130 #[.int .i64 z, .int .i64 p] w fun e w' => e = .returned (.int .i64 (leg z p)) ∧ w = w') := Lib.hid (by
        have h := jacobi_any z p w HO.out hpm
        rw [jac_prime _ HP.out HO.out] at h; exact h)
      have hb : -1 ≤ leg (z : Int) p ∧ leg (z : Int) p ≤ 1 := by rcases leg_sgn (z : Int) p with h | h | h <;> omega
      obtain ⟨hb1, hb2⟩ := hb
      clear hl
      generalize leg (z : Int) p = lz at *
      go_wp2_with (go_at_call 130; refine HJ.out.mono ?_; rintro e w2 ⟨rfl, rfl⟩)
      go_round
      case rel => exact ⟨z + 1, ⟨by omega, by omega⟩, by go_num⟩
      case measure => simp [intOf]; omega
end Go.Proofs.Ytcbdnnboddahkaa.He
