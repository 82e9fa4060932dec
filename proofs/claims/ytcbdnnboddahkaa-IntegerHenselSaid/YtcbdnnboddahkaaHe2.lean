/-
  WALKS: roots lifted, in both packages.
-/
import Derived.Test.YtcbdnnboddahkaaHe1
import Derived.Test.YtcbdnnboddahkaaBezQ
import Derived.Deep.LoopGhost
namespace Go.Proofs.Ytcbdnnboddahkaa.He
open Nt
open Go.RowKit
set_option linter.unusedVariables false
set_option maxRecDepth 100000
/-- X is the root of a modulo p^k over the residue r -/
def LX (p a r : Int) (k : Nat) (X : Int) : Prop := 0 ≤ X ∧ X < p ^ k ∧ p ^ k ∣ X * X - a ∧ p ∣ X - r
theorem LX.unique {p a r X Y : Int} {k : Nat} (hp : Pr p.toNat) (h3 : 3 ≤ p) (h1 : 1 ≤ k) (hr : ¬ p ∣ r) (h : LX p a r k X) (h' : LX p a r k Y) : X = Y := by
  have hxy : p ∣ X - Y := by
    have := Int.dvd_sub h.2.2.2 h'.2.2.2
    have e : X - r - (Y - r) = X - Y := by omega
    rw [e] at this; exact this
  have hnz : ¬ p ∣ X := fun hd => hr (by
    have := Int.dvd_sub hd h.2.2.2
    have e : X - (X - r) = r := by omega
    rw [e] at this; exact this)
  have hd := root_unique hp h3 h1 h.2.2.1 h'.2.2.1 hxy hnz
  have hX := h.1; have hX2 := h.2.1; have hY := h'.1; have hY2 := h'.2.1
  obtain ⟨c, hc⟩ := hd
  rcases Int.lt_trichotomy c 0 with h0 | h0 | h0
  · have : p ^ k * c ≤ p ^ k * (-1) := Int.mul_le_mul_of_nonneg_left (by omega) (by omega)
    omega
  · subst h0; simp at hc; omega
  · have : p ^ k * 1 ≤ p ^ k * c := Int.mul_le_mul_of_nonneg_left (by omega) (by omega)
    omega
theorem p_dvd_pow {p : Int} {k : Nat} (h1 : 1 ≤ k) : p ∣ p ^ k := by
  obtain ⟨m, rfl⟩ : ∃ m, k = m + 1 := ⟨k - 1, by omega⟩
  rw [Int.pow_succ]; exact Int.dvd_mul_left _ _
theorem pow_dvd {p : Int} {i j : Nat} (h : i ≤ j) : p ^ i ∣ p ^ j := by
  obtain ⟨d, rfl⟩ := Nat.exists_eq_add_of_le h
  rw [Int.pow_add]; exact Int.dvd_mul_right _ _
theorem dvd_emod_iff {p q z : Int} (h : p ∣ q) : p ∣ z % q ↔ p ∣ z := by
  have e := Int.mul_ediv_add_emod z q
  constructor
  · intro h1
    rw [← e]; exact Int.dvd_add (Int.dvd_mul_of_dvd_left h) h1
  · intro h1
    have : z % q = z - q * (z / q) := by omega
    rw [this]; exact Int.dvd_sub h1 (Int.dvd_mul_of_dvd_left h)
/-- the state of Newton's steps: p^j divides x^2 - a -/
def NI (p a r : Int) (k j : Nat) (x : Int) : Prop := 1 ≤ j ∧ j ≤ k ∧ 0 ≤ x ∧ x < p ^ k ∧ p ^ j ∣ x * x - a ∧ p ∣ x - r
theorem NI.step {p a r x i e c : Int} {k j : Nat} (hp : 2 ≤ p) (h : NI p a r k j x) (hi : p ^ k ∣ (2 * x % p ^ k) * i - 1) (he : e = (x * x - a) % p ^ k) (hc : c = i % p ^ k) (hj : j < k) : ∃ m, m ≤ k ∧ j < m ∧ NI p a r k m ((x - e * c) % p ^ k) := by
  obtain ⟨h1, h2, h3, h4, h5, h6⟩ := h
  have hq : 0 < p ^ k := Int.pow_pos (by omega)
  have hi2 : p ^ k ∣ 2 * x * i - 1 := by
    have h7 : p ^ k ∣ 2 * x * i - (2 * x % p ^ k) * i := by
      rw [← Int.sub_mul]
      have : 2 * x - 2 * x % p ^ k = p ^ k * (2 * x / p ^ k) := by have := Int.mul_ediv_add_emod (2 * x) (p ^ k); omega
      rw [this, Int.mul_assoc]; exact Int.dvd_mul_right _ _
    have := Int.dvd_add h7 hi
    have e1 : 2 * x * i - 2 * x % p ^ k * i + (2 * x % p ^ k * i - 1) = 2 * x * i - 1 := by omega
    rw [e1] at this; exact this
  obtain ⟨m, hm⟩ : ∃ m, m = min (j + j) k := ⟨_, rfl⟩
  have hmk : m ≤ k := by omega
  have hjm : j < m := by omega
  have hstep := newton_step (i := i) (Int.dvd_trans (pow_dvd (Nat.le_of_lt hj)) hi2) h5
  have hxx : p ^ k ∣ (x - e * c) % p ^ k - (x - (x * x - a) * i) := by
    have h8 : p ^ k ∣ (x - e * c) % p ^ k - (x - e * c) := by
      have : (x - e * c) % p ^ k - (x - e * c) = p ^ k * (-((x - e * c) / p ^ k)) := by have := Int.mul_ediv_add_emod (x - e * c) (p ^ k); rw [Int.mul_neg]; omega
      rw [this]; exact Int.dvd_mul_right _ _
    have h9 : p ^ k ∣ (x * x - a) * i - e * c := by
      have a1 : x * x - a = p ^ k * ((x * x - a) / p ^ k) + e := by have := Int.mul_ediv_add_emod (x * x - a) (p ^ k); omega
      have a2 : i = p ^ k * (i / p ^ k) + c := by have := Int.mul_ediv_add_emod i (p ^ k); omega
      generalize (x * x - a) / p ^ k = u at *
      generalize i / p ^ k = v at *
      generalize p ^ k = q at *
      refine ⟨u * i + e * v, ?_⟩
      have : (x * x - a) * i - e * c = (q * u + e) * i - e * c := by rw [← a1]
      rw [this]
      have e3 : e * i = e * (q * v + c) := by rw [← a2]
      have e4 : (q * u + e) * i - e * c = q * u * i + e * i - e * c := by grind
      rw [e4, e3]; grind
    have := Int.dvd_add h8 h9
    have e5 : (x - e * c) % p ^ k - (x - e * c) + ((x * x - a) * i - e * c) = (x - e * c) % p ^ k - (x - (x * x - a) * i) := by omega
    rw [e5] at this; exact this
  obtain ⟨y, hy⟩ : ∃ y, (x - e * c) % p ^ k = y := ⟨_, rfl⟩
  rw [hy] at hxx ⊢
  have hy0 : 0 ≤ y := by rw [← hy]; exact Int.emod_nonneg _ (by omega)
  have hy1 : y < p ^ k := by rw [← hy]; exact Int.emod_lt_of_pos _ hq
  refine ⟨m, hmk, hjm, by omega, hmk, hy0, hy1, ?_, ?_⟩
  · generalize x - (x * x - a) * i = z at *
    have k1 : p ^ m ∣ z * z - a := by
      refine Int.dvd_trans ?_ hstep
      rw [← Int.pow_add]
      exact pow_dvd (by omega)
    have k2 : p ^ m ∣ y * y - z * z := by
      have : y * y - z * z = (y - z) * (y + z) := by grind
      rw [this]
      exact Int.dvd_mul_of_dvd_left (Int.dvd_trans (pow_dvd hmk) hxx)
    have := Int.dvd_add k2 k1
    have e6 : y * y - z * z + (z * z - a) = y * y - a := by omega
    rw [e6] at this; exact this
  · have k3 : p ∣ y - (x - (x * x - a) * i) := Int.dvd_trans (p_dvd_pow (by omega)) hxx
    have k4 : p ∣ (x * x - a) * i := Int.dvd_mul_of_dvd_left (Int.dvd_trans (p_dvd_pow h1) h5)
    have := Int.dvd_sub (Int.dvd_add k3 h6) k4
    have e7 : y - (x - (x * x - a) * i) + (x - r) - (x * x - a) * i = y - r := by omega
    rw [e7] at this; exact this
set_option maxHeartbeats 1000000 in
theorem lift_any (p a r x : Int) (k : Nat) (w : World) (hp : Pr p.toNat) (h3 : 3 ≤ p) (hk : 1 ≤ k) (hq : p ^ k ≤ 1000000000) (ha : 0 ≤ a) (ha2 : a < p ^ k) (hr : ¬ p ∣ r) (hx0 : 0 ≤ x) (hx1 : x < p ^ k) (hx : p ∣ x * x - a) (hxr : p ∣ x - r) :
    Calls Try.prog 147 #[.int .i64 a, .int .i64 (p ^ k), .int .i64 x] w fun e w' => (∃ X, LX p a r k X ∧ e = .returned (.int .i64 X)) ∧ w = w' := by
  have hq0 : 1 ≤ p ^ k := by have : 0 < p ^ k := Int.pow_pos (by omega); omega
  have hst : NI p a r k 1 x := ⟨Nat.le_refl _, hk, hx0, hx1, by rw [Int.pow_one]; exact hx, hxr⟩
  have HST := Lib.hid hst
  have HP := Lib.hid hp
  have HR := Lib.hid hr
  obtain ⟨q, hqq⟩ : ∃ q, p ^ k = q := ⟨_, rfl⟩
  have HQ := Lib.hid hqq
  rw [hqq] at hq hq0 ha2 hx1 ⊢
  clear hst hp hr hx hxr hqq
  go_enter Try.func147, Try.ntmps147
  go_wp2
  go_loopg [2, 7, 8] k (fun gg t2 _ _ wr => ∃ (j : Nat) (x : Int), (NI p a r k j x ∧ k - j ≤ gg ∧ wr = w) ∧ t2 = .int .i64 x)
  case atStart => exact ⟨1, x, ⟨HST.out, by omega, rfl⟩, rfl⟩
  case round =>
    obtain ⟨j, y, ⟨hn, hg, hw⟩, rfl⟩ := hrel
    subst hw
    obtain ⟨n1, n2, n3, n4, n5, n6⟩ := id hn
    rw [HQ.out] at n4
    have HN := Lib.hid hn
    have hyy : 0 ≤ y * y ∧ y * y ≤ 1000000000 * 1000000000 := ⟨Int.mul_nonneg n3 n3, Int.mul_le_mul (by omega) (by omega) n3 (by omega)⟩
    obtain ⟨hyy1, hyy2⟩ := hyy
    have HN5 := Lib.hid n5
    have HN6 := Lib.hid n6
    clear hn n5 n6
    have he1 := Int.emod_nonneg (y * y - a) (b := q) (by omega)
    have he2 := Int.emod_lt_of_pos (y * y - a) (b := q) (by omega)
    by_cases hz : (y * y - a) % q = 0
    · have hzb : (((y * y - a) % q : Int) != 0) = false := by rw [hz]; rfl
      have HL : Hid (LX p a r k y) := Lib.hid ⟨n3, by rw [HQ.out]; exact n4, by rw [HQ.out]; exact Int.dvd_of_emod_eq_zero hz, HN6.out⟩
      clear hz
      go_wp2_with (go_at_call 114; refine (residue_any _ _ _ hq0 (by omega)).mono ?_; rintro e w2 ⟨rfl, rfl⟩)
      go_ret
      exact ⟨⟨y, HL.out, rfl⟩, rfl⟩
    · have hzb : (((y * y - a) % q : Int) != 0) = true := by rw [bne_iff_ne]; exact hz
      have hjk : j < k := by
        rcases Nat.lt_or_ge j k with h | h
        · exact h
        · have : j = k := by omega
          subst this
          have h5 := HN5.out
          rw [HQ.out] at h5
          exact absurd (Int.emod_eq_zero_of_dvd h5) hz
      have h2y1 := Int.emod_nonneg (2 * y) (b := q) (by omega)
      have h2y2 := Int.emod_lt_of_pos (2 * y) (b := q) (by omega)
      have hgc : Int.gcd (2 * y % q) q = 1 := by
        rw [gcd_emod', ← HQ.out]
        refine cop_pow (pr_cop HP.out (by omega) fun hd => ?_) k
        have hd' : (p.toNat : Int) ∣ 2 * y := by rw [Int.toNat_of_nonneg (by omega)]; exact hd
        rcases HP.out.dvd_mul_int hd' with h | h
        · rw [Int.toNat_of_nonneg (by omega)] at h
          have := Int.le_of_dvd (by omega) h
          omega
        · rw [Int.toNat_of_nonneg (by omega)] at h
          have := Int.dvd_sub h HN6.out
          have e : y - (y - r) = r := by omega
          rw [e] at this
          exact HR.out this
      clear hz
      go_wp2_with (go_at_call 114; refine (residue_any _ _ _ hq0 (by omega)).mono ?_; rintro e w2 ⟨rfl, rfl⟩)
      refine (cofactor_any (2 * y % q) q _ h2y1 (by omega) hq0 hq).mono ?_
      rintro e w2 ⟨⟨i, rfl, hi, hi1, hi2⟩, rfl⟩
      rw [hgc] at hi
      have hc1 := Int.emod_nonneg i (b := q) (by omega)
      have hc2 := Int.emod_lt_of_pos i (b := q) (by omega)
      have hec := mul_bd he1 he2 hc1 hc2 hq
      obtain ⟨hec1, hec2⟩ := hec
      obtain ⟨m, hmk, hjm, hNm⟩ := NI.step (by omega) HN.out (by rw [HQ.out]; exact hi) rfl rfl hjk
      rw [HQ.out] at hNm
      have HNM := Lib.hid hNm
      clear hi hNm hgc
      go_wp2_with (go_at_call 114; refine (residue_any _ _ _ hq0 (by omega)).mono ?_; rintro e w2 ⟨rfl, rfl⟩)
      go_roundg (k - m)
      case rel => exact ⟨m, _, ⟨HNM.out, Nat.le_refl _, rfl⟩, rfl⟩
      case measure => omega
end Go.Proofs.Ytcbdnnboddahkaa.He
