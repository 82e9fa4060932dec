/-
  Lists of roots: sorted in place; the two roots of a unit modulo a power of an odd prime.
-/
import Derived.Test.YtcbdnnboddahkaaHe6
import Derived.Test.YtcbdnnboddahkaaShelfSort
import Derived.Test.YtcbdnnboddahkaaMem
import Derived.Sort.OwnSortedInts
import Derived.Below
namespace Go.Proofs.Ytcbdnnboddahkaa.He
open Nt
open Go.RowKit
set_option linter.unusedVariables false
set_option maxRecDepth 100000
/-- the values of a list of integers -/
def ivs (zs : List Int) : List Value := zs.map (Value.int .i64)
theorem ivs_length (zs : List Int) : (ivs zs).length = zs.length := by simp [ivs]
theorem ivs_append (xs ys : List Int) : ivs (xs ++ ys) = ivs xs ++ ivs ys := by simp [ivs]
def srt (zs : List Int) : List Int := zs.mergeSort fun x y => decide (x ≤ y)
theorem sort_own (B n : Nat) (v : Value) (xs : List Int) (w : World) (h : w.ownsRow B 3 1 v n (ivs xs)) (hm : xs.length < 4611686018427387904) :
    Calls Try.prog 139 #[v] w fun e w' => e = .returned (.tuple #[]) ∧ w'.ownsRow B 3 1 v n (ivs (srt xs)) ∧ w.grownBy w' v.ownBlock := by
  have hn : n = xs.length := by have := h.1; rw [ivs_length] at this; omega
  subst hn
  rcases h.2 with ⟨rfl, h0⟩ | ⟨g, cap, cur, rfl, hb, hg, h1, h2, h3, h4⟩
  · have : xs = [] := List.eq_nil_of_length_eq_zero h0
    subst this
    refine (Try.slices_Sort_int_none none 0 w).mono ?_
    rintro e w' ⟨rfl, rfl⟩
    exact ⟨rfl, by simpa [srt, ivs] using World.ownsRow_nil _ _ _ _, ⟨rfl, rfl, rfl, Nat.le_refl _, fun _ _ _ => rfl⟩⟩
  · refine (Try.slices_Sort_int g 0 cap xs w (holds_of_blockI hg (by rw [Nat.mul_one] at h4; exact h4)) (Array.getElem?_eq_some_iff.1 hg).1 (by omega)).mono ?_
    rintro e w' ⟨rfl, m, os, rfl⟩
    exact ⟨rfl, ownsRow_sortedI (by simp) hb hg h1 h2 h3, grownBy_sortedI _⟩
/-- the list of all roots of u modulo q -/
def IsRts (u q : Int) (zs : List Int) : Prop := zs.Pairwise (· < ·) ∧ ∀ x, x ∈ zs ↔ 0 ≤ x ∧ x < q ∧ q ∣ x * x - u
theorem srt_rts {u q : Int} {zs : List Int} (hn : zs.Nodup) (h : ∀ x, x ∈ zs ↔ 0 ≤ x ∧ x < q ∧ q ∣ x * x - u) : IsRts u q (srt zs) := by
  have hp := List.mergeSort_perm zs (fun x y => decide (x ≤ y))
  refine ⟨?_, fun x => (hp.mem_iff).trans (h x)⟩
  have hs : (srt zs).Pairwise (fun x y => x ≤ y) := by
    have := List.pairwise_mergeSort (le := fun x y : Int => decide (x ≤ y)) (by intro a b c h1 h2; simp at *; omega) (by intro a b; simp; omega) zs
    exact this.imp (by intro a b h; simpa using h)
  have hd : (srt zs).Nodup := hp.nodup_iff.2 hn
  exact (hs.and hd).imp (by intro a b h; have := h.1; have := h.2; omega)
theorem none_rts {p u q : Int} (hp : Pr p.toNat) (h3 : 3 ≤ p) (hpq : p ∣ q) (hu : ¬ p ∣ u) (hl : leg u p.toNat ≠ 1) : IsRts u q [] := by
  refine ⟨List.Pairwise.nil, fun x => ⟨fun h => (by cases h), fun ⟨_, _, hd⟩ => ?_⟩⟩
  have hpc : (p.toNat : Int) = p := Int.toNat_of_nonneg (by omega)
  have ho : p.toNat % 2 = 1 := by
    rcases Nat.mod_two_eq_zero_or_one p.toNat with h0 | h0
    · have := hp.2 2 (Nat.dvd_of_mod_eq_zero h0)
      omega
    · exact h0
  have hd2 := Int.dvd_trans hpq hd
  have hx : ¬ p ∣ x := fun h => hu (by
    have := Int.dvd_sub (Int.dvd_mul_of_dvd_left (c := x) h) hd2
    have e : x * x - (x * x - u) = u := by omega
    rw [e] at this; exact this)
  have e : leg u p.toNat = leg (x * x) p.toNat := leg_congr (by rw [hpc]; exact (E.dvd.2 hd2).symm)
  rw [leg_mul hp ho, leg_sq hp ho (by rw [hpc]; exact hx)] at e
  exact absurd e hl
theorem two_rts {p u r : Int} {k : Nat} (hp : Pr p.toNat) (h3 : 3 ≤ p) (hk : 1 ≤ k) (hu : ¬ p ∣ u) (h0 : 0 ≤ r) (h1 : r < p ^ k) (hr : p ^ k ∣ r * r - u) : IsRts u (p ^ k) (srt [r, p ^ k - r]) := by
  have hpq : p ∣ p ^ k := p_dvd_pow hk
  have hrp : ¬ p ∣ r := fun h => hu (by
    have := Int.dvd_sub (Int.dvd_mul_of_dvd_left (c := r) h) (Int.dvd_trans hpq hr)
    have e : r * r - (r * r - u) = u := by omega
    rw [e] at this; exact this)
  have h2r : ¬ p ∣ 2 * r := fun hd => by
    have hd' : (p.toNat : Int) ∣ 2 * r := by rw [Int.toNat_of_nonneg (by omega)]; exact hd
    rcases hp.dvd_mul_int hd' with h | h
    · rw [Int.toNat_of_nonneg (by omega)] at h
      have := Int.le_of_dvd (by omega) h
      omega
    · rw [Int.toNat_of_nonneg (by omega)] at h
      exact hrp h
  have hr0 : r ≠ 0 := fun h => hrp (by rw [h]; exact Int.dvd_zero p)
  have hne : r ≠ p ^ k - r := fun h => h2r (by
    have : 2 * r = p ^ k := by omega
    rw [this]; exact hpq)
  refine srt_rts (by simp [hne]) fun x => ?_
  simp only [List.mem_cons, List.not_mem_nil, or_false]
  constructor
  · rintro (rfl | rfl)
    · exact ⟨h0, h1, hr⟩
    · refine ⟨by omega, by omega, ?_⟩
      have e : (p ^ k - r) * (p ^ k - r) - u = p ^ k * (p ^ k - 2 * r) + (r * r - u) := by grind
      rw [e]; exact Int.dvd_add (Int.dvd_mul_right _ _) hr
  · rintro ⟨hx0, hx1, hx⟩
    have hd := Int.dvd_sub hx hr
    have e : x * x - u - (r * r - u) = (x - r) * (x + r) := by grind
    rw [e] at hd
    by_cases hm : p ∣ x - r
    · have hpl : ¬ p ∣ x + r := fun h => h2r (by
        have := Int.dvd_sub h hm
        have e2 : x + r - (x - r) = 2 * r := by omega
        rw [e2] at this; exact this)
      rw [Int.mul_comm] at hd
      have h5 := cop_cancel (cop_pow (pr_cop hp (by omega) hpl) k) hd
      left
      obtain ⟨c, hc⟩ := h5
      rcases Int.lt_trichotomy c 0 with h6 | h6 | h6
      · have : p ^ k * c ≤ p ^ k * (-1) := Int.mul_le_mul_of_nonneg_left (by omega) (by omega)
        omega
      · subst h6; simp at hc; omega
      · have : p ^ k * 1 ≤ p ^ k * c := Int.mul_le_mul_of_nonneg_left (by omega) (by omega)
        omega
    · have h5 := cop_cancel (cop_pow (pr_cop hp (by omega) hm) k) hd
      right
      obtain ⟨c, hc⟩ := h5
      rcases Int.lt_trichotomy c 1 with h6 | h6 | h6
      · have : p ^ k * c ≤ p ^ k * 0 := Int.mul_le_mul_of_nonneg_left (by omega) (by omega)
        omega
      · subst h6; omega
      · have : p ^ k * 2 ≤ p ^ k * c := Int.mul_le_mul_of_nonneg_left (by omega) (by omega)
        omega
end Go.Proofs.Ytcbdnnboddahkaa.He
