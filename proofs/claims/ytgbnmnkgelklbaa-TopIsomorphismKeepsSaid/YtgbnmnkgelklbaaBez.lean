/-
  WALKS: Bezout, in both packages.
-/
import Derived.Test.YtgbnmnkgelklbaaGcd
namespace Go.Proofs.Ytgbnmnkgelklbaa
open Go.RowKit

theorem results_tmp4 {fn : Func} {t u v s : Tmp} (h : fn.results = #[.tmp t, .tmp u, .tmp v, .tmp s]) (tmps : Array Value) (P : Program) (w : World) :
    (results fn tmps).run P w = .ok (.tuple #[tmps.getD t undef, tmps.getD u undef, tmps.getD v undef, tmps.getD s undef]) w := by
  simp [results, h]

/-- the least x that is not negative, of a combination -/
def BzX (a b x : Int) : Prop := 0 ≤ x ∧ x < (b.natAbs : Int) / Int.gcd a b ∧ (b.natAbs : Int) ∣ a * x - Int.gcd a b
theorem BzX.unique {a b x y : Int} (hb : b ≠ 0) (hx : BzX a b x) (hy : BzX a b y) : x = y := by
  have hg : 0 < (Int.gcd a b : Int) := by have := Int.gcd_pos_of_ne_zero_right a hb; omega
  obtain ⟨a', ha⟩ := Int.gcd_dvd_left a b
  obtain ⟨b', hb'⟩ := Int.gcd_dvd_right a b
  have h := Int.dvd_sub hx.2.2 hy.2.2
  have e : a * x - Int.gcd a b - (a * y - Int.gcd a b) = a * (x - y) := by grind
  rw [e] at h
  have hc : Int.gcd a' b' = 1 := by
    have h1 : Int.gcd (Int.gcd a b * a') (Int.gcd a b * b') = Int.gcd a b := by rw [← ha, ← hb']
    rw [Int.gcd_mul_left, Int.natAbs_natCast] at h1
    exact Nat.eq_of_mul_eq_mul_left (by omega) (h1.trans (Nat.mul_one _).symm)
  have h2 : (b : Int) ∣ a * (x - y) := Int.dvd_trans (Int.dvd_natAbs.2 (Int.dvd_refl b)) h
  have h3 : b' ∣ a' * (x - y) := by
    have h4 : (Int.gcd a b : Int) * b' ∣ (Int.gcd a b : Int) * (a' * (x - y)) := by rw [← hb', ← Int.mul_assoc, ← ha]; exact h2
    exact Int.dvd_of_mul_dvd_mul_left (by omega) h4
  have h5 := coprime_cancel hc h3
  have hn : (b.natAbs : Int) / Int.gcd a b = (b'.natAbs : Int) := by
    have e2 : (b.natAbs : Int) = Int.gcd a b * b'.natAbs := by
      conv => lhs; rw [hb', Int.natAbs_mul]
      simp
    rw [e2]; exact Int.mul_ediv_cancel_left _ (by omega)
  have hx1 := hx.2.1; have hy1 := hy.2.1
  rw [hn] at hx1 hy1
  have h6 : (b'.natAbs : Int) ∣ x - y := Int.dvd_trans (Int.natAbs_dvd.2 (Int.dvd_refl b')) h5
  have := small_dvd h6 (by have := hx.1; omega) (by have := hy.1; omega)
  omega

def CfOut' (a b s : Int) (e : Ending) : Prop := ∃ x : Int, e = .returned (.tuple #[.int .i64 (Int.gcd a b), .int .i64 x]) ∧ s ∣ a * x - Int.gcd a b ∧ -s ≤ x ∧ x ≤ s
theorem gcd_size (a b s : Int) (hs : s = (b.natAbs : Int)) : Int.gcd a s = Int.gcd a b := by
  rw [hs]; unfold Int.gcd; rw [Int.natAbs_natCast]
theorem cof_mod (a b s : Int) (w : World) (hs : s = (b.natAbs : Int)) (h2 : 1 ≤ s) (h3 : s ≤ 1000000000) :
    Calls Try.prog 84 #[.int .i64 (a % s), .int .i64 s] w fun e w' => CfOut' a b s e ∧ w = w' := by
  have h1 := Int.emod_nonneg a (b := s) (by omega)
  have h1' := Int.emod_lt_of_pos a (b := s) (by omega)
  refine (cofactor_any (a % s) s w h1 (by omega) h2 h3).mono fun e w' ⟨⟨x, he, hx, b1, b2⟩, hw⟩ => ⟨⟨x, ?_, ?_, b1, b2⟩, hw⟩
  · rw [gcd_emod', gcd_size a b s hs] at he; exact he
  · rw [gcd_emod', gcd_size a b s hs] at hx; exact dvd_emod_mul hx
theorem sm_bd {a x M N : Int} (h1 : -M ≤ a) (h2 : a ≤ M) (h3 : 0 ≤ x) (h4 : x ≤ N) (hM : 0 ≤ M) : -(M * N) ≤ a * x ∧ a * x ≤ M * N := by
  have e1 : a * x ≤ M * x := Int.mul_le_mul_of_nonneg_right h2 h3
  have e2 : -M * x ≤ a * x := Int.mul_le_mul_of_nonneg_right h1 h3
  have e3 : M * x ≤ M * N := Int.mul_le_mul_of_nonneg_left h4 hM
  have e4 : -M * x = -(M * x) := Int.neg_mul _ _
  omega
theorem bz_of {a b x : Int} {s : Int} (hs : s = (b.natAbs : Int)) (hb : b ≠ 0) (h : s ∣ a * x - Int.gcd a b) : BzX a b (x % (s / Int.gcd a b)) := by
  have hg : 0 < (Int.gcd a b : Int) := by have := Int.gcd_pos_of_ne_zero_right a hb; omega
  obtain ⟨a', ha⟩ := Int.gcd_dvd_left a b
  have hd : (Int.gcd a b : Int) ∣ s := by rw [hs]; exact Int.dvd_natAbs.2 (Int.gcd_dvd_right a b)
  have hq : 0 < s / Int.gcd a b := by
    obtain ⟨t, ht⟩ := hd
    rw [ht, Int.mul_ediv_cancel_left _ (by omega)]
    by_cases h0 : t ≤ 0
    · have : (Int.gcd a b : Int) * t ≤ Int.gcd a b * 0 := Int.mul_le_mul_of_nonneg_left h0 (by omega)
      omega
    · omega
  refine ⟨Int.emod_nonneg _ (by omega), by rw [← hs]; exact Int.emod_lt_of_pos _ hq, ?_⟩
  rw [← hs]
  have e := Int.mul_ediv_add_emod x (s / Int.gcd a b)
  have e2 : (Int.gcd a b : Int) * (s / Int.gcd a b) = s := Int.mul_ediv_cancel' hd
  have e3 : a * (x % (s / Int.gcd a b)) - Int.gcd a b = (a * x - Int.gcd a b) - s * (a' * (x / (s / Int.gcd a b))) := by
    generalize x % (s / Int.gcd a b) = r at *
    generalize x / (s / Int.gcd a b) = q at *
    generalize s / Int.gcd a b = t at *
    generalize (Int.gcd a b : Int) = g at *
    grind
  rw [e3]
  exact Int.dvd_sub h (Int.dvd_mul_right _ _)

theorem bz_neg {a x s : Int} (hs : 1 ≤ s) (h : s ∣ a * x - Int.gcd a s) : BzX a (-s) (x % (s / Int.gcd a s)) := by
  have := bz_of (a := a) (b := -s) (x := x) (s := s) (by omega) (by omega) (by rw [Int.gcd_neg]; exact h)
  rw [Int.gcd_neg] at this; exact this
theorem tdiv_size (x s : Int) : (x.tdiv s).natAbs ≤ x.natAbs := by rw [Int.natAbs_tdiv]; exact Nat.div_le_self _ _
theorem neg_quo (x s : Int) (h : -1000000000000000000000 < x * 1000 ∧ x * 1000 < 1002000000000000000000) : wrap64 (-(x.tdiv s)) = x.tdiv (-s) := by
  have := tdiv_size x s
  rw [Int.tdiv_neg]; exact IntWalk.wrap64_in _ (by omega)
def BzOut (a b : Int) (e : Ending) : Prop := ∃ x : Int, e = .returned (.tuple #[.int .i64 (Int.gcd a b), .int .i64 x, .int .i64 ((Int.gcd a b - a * x).tdiv b), .int .i64 0]) ∧ BzX a b x

theorem withinB_of {n lo hi : Int} (h : withinB n lo hi = true) : lo ≤ n ∧ n ≤ hi := by unfold withinB at h; exact of_decide_eq_true h

end Go.Proofs.Ytgbnmnkgelklbaa
