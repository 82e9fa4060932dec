/-
  The roots modulo a power of a prime out of the roots of a unit. Plain mathematics.
-/
import Derived.Test.YtcbdnnboddahkaaHeA
namespace Go.Proofs.Ytcbdnnboddahkaa.He
open Nt
set_option linter.unusedVariables false
theorem pr_sq {p x : Int} (hp : Pr p.toNat) (h2 : 2 ≤ p) (h : p ∣ x * x) : p ∣ x := by
  have h' : (p.toNat : Int) ∣ x * x := by rw [Int.toNat_of_nonneg (by omega)]; exact h
  rcases hp.dvd_mul_int h' with h3 | h3 <;> rw [Int.toNat_of_nonneg (by omega)] at h3 <;> exact h3
theorem sq_down {p y : Int} {e : Nat} (h2 : 2 ≤ p) (h : p ^ (e + 2) ∣ (p * y) * (p * y)) : p ^ e ∣ y * y := by
  obtain ⟨c, hc⟩ := h
  refine ⟨c, ?_⟩
  have e1 : p * p * (y * y) = p * p * (p ^ e * c) := by
    have e2 : p ^ (e + 2) = p * p * p ^ e := by rw [Int.pow_add, Int.mul_comm]; congr 1; rw [Int.pow_succ, Int.pow_one]
    rw [e2] at hc
    grind
  exact Int.eq_of_mul_eq_mul_left (by have := Int.mul_pos (show 0 < p by omega) (show 0 < p by omega); omega) e1
theorem even_dvd {p : Int} (hp : Pr p.toNat) (h2 : 2 ≤ p) : ∀ (n : Nat) (x : Int), p ^ (2 * n) ∣ x * x → p ^ n ∣ x := by
  intro n
  induction n with
  | zero => intro x _; simp
  | succ n ih =>
    intro x h
    have hx : p ∣ x := pr_sq hp h2 (Int.dvd_trans (p_dvd_pow (k := 2 * (n + 1)) (by omega)) h)
    obtain ⟨y, rfl⟩ := hx
    have h3 : p ^ n ∣ y := ih y (sq_down h2 (by rw [show 2 * n + 2 = 2 * (n + 1) from by omega]; exact h))
    rw [Int.pow_succ, Int.mul_comm p y]
    exact Int.mul_dvd_mul h3 (Int.dvd_refl p)
theorem odd_dvd {p : Int} (hp : Pr p.toNat) (h2 : 2 ≤ p) : ∀ (n : Nat) (x : Int), p ^ (2 * n + 1) ∣ x * x → p ^ (n + 1) ∣ x := by
  intro n
  induction n with
  | zero => intro x h; rw [Int.pow_one]; rw [show 2 * 0 + 1 = 1 from rfl, Int.pow_one] at h; exact pr_sq hp h2 h
  | succ n ih =>
    intro x h
    have hx : p ∣ x := pr_sq hp h2 (Int.dvd_trans (p_dvd_pow (k := 2 * (n + 1) + 1) (by omega)) h)
    obtain ⟨y, rfl⟩ := hx
    have h3 : p ^ (n + 1) ∣ y := ih y (sq_down h2 (by rw [show 2 * n + 1 + 2 = 2 * (n + 1) + 1 from by omega]; exact h))
    rw [Int.pow_succ, Int.mul_comm p y]
    exact Int.mul_dvd_mul h3 (Int.dvd_refl p)
/-- the roots of a modulo q are what is congruent modulo s to one of the list -/
def FR (a q s : Int) (zs : List Int) : Prop := zs.Pairwise (· < ·) ∧ 1 ≤ s ∧ s ∣ q ∧ (∀ z ∈ zs, 0 ≤ z ∧ z < s) ∧ ∀ x, q ∣ x * x - a ↔ x % s ∈ zs
theorem fr_zero {p : Int} {k : Nat} (hp : Pr p.toNat) (h2 : 2 ≤ p) : FR 0 (p ^ k) (p ^ (k - k / 2)) [0] := by
  have hs : 0 < p ^ (k - k / 2) := Int.pow_pos (by omega)
  refine ⟨by simp, by omega, pow_dvd (by omega), by simp; omega, fun x => ?_⟩
  rw [Int.sub_zero, List.mem_singleton]
  constructor
  · intro h
    apply Int.emod_eq_zero_of_dvd
    rcases Nat.mod_two_eq_zero_or_one k with h0 | h0
    · have e1 : k = 2 * (k / 2) := by omega
      have e2 : k - k / 2 = k / 2 := by omega
      rw [e2]
      rw [e1] at h
      exact even_dvd hp h2 _ x h
    · have e1 : k = 2 * (k / 2) + 1 := by omega
      have e2 : k - k / 2 = k / 2 + 1 := by omega
      rw [e2]
      rw [e1] at h
      exact odd_dvd hp h2 _ x h
  · intro h
    have hd := Int.dvd_of_emod_eq_zero h
    have := Int.mul_dvd_mul hd hd
    rw [← Int.pow_add] at this
    exact Int.dvd_trans (pow_dvd (by omega)) this
theorem fr_odd {p u : Int} {k n : Nat} (hp : Pr p.toNat) (h2 : 2 ≤ p) (hu : ¬ p ∣ u) (hn : 2 * n + 1 < k) : FR (u * p ^ (2 * n + 1)) (p ^ k) (p ^ k) [] := by
  have hs : 0 < p ^ k := Int.pow_pos (by omega)
  refine ⟨by simp, by omega, Int.dvd_refl _, by simp, fun x => ?_⟩
  constructor
  · intro h
    exfalso
    have h3 : p ^ (2 * n + 1) ∣ x * x := by
      have := Int.dvd_add (Int.dvd_trans (pow_dvd (p := p) (show 2 * n + 1 ≤ k by omega)) h) (Int.dvd_mul_left u (p ^ (2 * n + 1)))
      rw [Int.sub_add_cancel] at this; exact this
    have h4 := odd_dvd hp h2 n x h3
    have h5 : p ^ (2 * n + 2) ∣ x * x := by
      have := Int.mul_dvd_mul h4 h4
      rw [← Int.pow_add, show n + 1 + (n + 1) = 2 * n + 2 from by omega] at this; exact this
    have h6 : p ^ (2 * n + 2) ∣ u * p ^ (2 * n + 1) := by
      have := Int.dvd_sub h5 (Int.dvd_trans (pow_dvd (p := p) (show 2 * n + 2 ≤ k by omega)) h)
      have e : x * x - (x * x - u * p ^ (2 * n + 1)) = u * p ^ (2 * n + 1) := by omega
      rw [e] at this; exact this
    obtain ⟨c, hc⟩ := h6
    refine hu ⟨c, ?_⟩
    have hpp : 0 < p ^ (2 * n + 1) := Int.pow_pos (by omega)
    rw [Int.pow_succ p (2 * n + 1)] at hc
    refine Int.eq_of_mul_eq_mul_left (a := p ^ (2 * n + 1)) (by omega) ?_
    rw [Int.mul_comm, hc, Int.mul_assoc]
  · intro h; cases h
theorem fr_even {p u : Int} {k n : Nat} {zs : List Int} (hp : Pr p.toNat) (h2 : 2 ≤ p) (hn : 2 * n ≤ k) (h : IsRts u (p ^ (k - 2 * n)) zs) : FR (u * p ^ (2 * n)) (p ^ k) (p ^ (k - 2 * n) * p ^ n) (zs.map (· * p ^ n)) := by
  have hs : 0 < p ^ n := Int.pow_pos (by omega)
  have ht : 0 < p ^ (k - 2 * n) := Int.pow_pos (by omega)
  have hq : p ^ k = p ^ (k - 2 * n) * (p ^ n * p ^ n) := by rw [← Int.pow_add, ← Int.pow_add]; congr 1; omega
  have ha : p ^ (2 * n) = p ^ n * p ^ n := by rw [← Int.pow_add]; congr 1; omega
  rw [hq, ha]
  have HP2 : ∀ x, p ^ n * p ^ n ∣ x * x → p ^ n ∣ x := fun x hx => even_dvd hp h2 n x (by rw [ha]; exact hx)
  generalize p ^ n = s at *
  generalize p ^ (k - 2 * n) = t at *
  obtain ⟨h3, h4⟩ := h
  refine ⟨?_, ?_, ⟨s, by grind⟩, ?_, fun x => ?_⟩
  · rw [List.pairwise_map]
    exact h3.imp (fun {a b} hab => Int.mul_lt_mul_of_pos_right hab hs)
  · have := Int.mul_pos ht hs; omega
  · intro z hz
    obtain ⟨y, hy, rfl⟩ := List.mem_map.1 hz
    obtain ⟨y1, y2, -⟩ := (h4 y).1 hy
    exact ⟨Int.mul_nonneg y1 (by omega), Int.mul_lt_mul_of_pos_right y2 hs⟩
  · have key : ∀ y, t ∣ y * y - u ↔ y % t ∈ zs := fun y => by
      rw [h4]
      have e0 := Int.emod_nonneg y (b := t) (by omega)
      have e1 := Int.emod_lt_of_pos y ht
      have e2 : t ∣ y * y - y % t * (y % t) := by
        have e := Int.mul_ediv_add_emod y t
        have : y * y - y % t * (y % t) = (y - y % t) * (y + y % t) := by grind
        rw [this]
        have e3 : y - y % t = t * (y / t) := by omega
        rw [e3, Int.mul_assoc]; exact Int.dvd_mul_right _ _
      constructor
      · intro h5
        have := Int.dvd_sub h5 e2
        have e4 : y * y - u - (y * y - y % t * (y % t)) = y % t * (y % t) - u := by omega
        rw [e4] at this
        exact ⟨e0, e1, this⟩
      · rintro ⟨-, -, h5⟩
        have := Int.dvd_add h5 e2
        have e4 : y % t * (y % t) - u + (y * y - y % t * (y % t)) = y * y - u := by omega
        rw [e4] at this; exact this
    have hss : s * s ≠ 0 := by have := Int.mul_pos hs hs; omega
    rw [List.mem_map]
    constructor
    · intro h5
      have h6 : s * s ∣ x * x := by
        have := Int.dvd_add (Int.dvd_trans (Int.dvd_mul_left t (s * s)) h5) (Int.dvd_mul_left u (s * s))
        rw [Int.sub_add_cancel] at this; exact this
      obtain ⟨y, rfl⟩ := HP2 x h6
      refine ⟨y % t, (key y).1 ?_, ?_⟩
      · obtain ⟨c, hc⟩ := h5
        refine ⟨c, Int.eq_of_mul_eq_mul_left hss ?_⟩
        have e : s * y * (s * y) - u * (s * s) = s * s * (y * y - u) := by grind
        rw [e] at hc; rw [hc]; grind
      · rw [Int.mul_comm t s, Int.mul_emod_mul_of_pos _ _ hs, Int.mul_comm]
    · rintro ⟨z, hz, he⟩
      have hx : s ∣ x := by
        have e := Int.mul_ediv_add_emod x (t * s)
        rw [← e, ← he]
        exact Int.dvd_add (Int.dvd_mul_of_dvd_left (Int.dvd_mul_left t s)) (Int.dvd_mul_left z s)
      obtain ⟨y, rfl⟩ := hx
      rw [Int.mul_comm t s, Int.mul_emod_mul_of_pos _ _ hs, Int.mul_comm] at he
      have hzy : z = y % t := Int.eq_of_mul_eq_mul_left (by omega) he
      obtain ⟨c, hc⟩ := (key y).2 (by rw [← hzy]; exact hz)
      refine ⟨c, ?_⟩
      have e : s * y * (s * y) - u * (s * s) = s * s * (y * y - u) := by grind
      rw [e, hc]; grind
end Go.Proofs.Ytcbdnnboddahkaa.He
