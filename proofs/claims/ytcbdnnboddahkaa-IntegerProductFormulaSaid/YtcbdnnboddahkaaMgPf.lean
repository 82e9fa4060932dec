/-
  PLAIN MATHEMATICS: the Hilbert symbol is multiplicative, and 1 where an equation is solved.
  PLAIN MATHEMATICS: where a u^2 + b v^2 is a square, all Hilbert symbols are 1.
  PLAIN MATHEMATICS: the product formula of the Hilbert symbols.
  Plain mathematics of ramified primes: the primes that divide a number, in order; those among them with the symbol -1.
  PLAIN MATHEMATICS of the law on the product formula: the list of places, round by round.
  WALKS: the factors of a number, with their exponents.
  WALKS: lists of numbers and of prime powers that a call made; Has; the symbol at a place.
-/
import Derived.Test.YtcbdnnboddahkaaHilM
import Derived.Test.YtcbdnnboddahkaaWPrime
import Derived.Test.YtcbdnnboddahkaaStrip
import Derived.OwnWalk
import Derived.Laws.AppendOwn
import Derived.Test.YtcbdnnboddahkaaGcd
import Derived.Test.YtcbdnnboddahkaaArr
import Derived.Lib.SmallJoins
namespace Go.Proofs.Ytcbdnnboddahkaa.Pf
open Nt (Pr leg sg Sgn)
set_option linter.unusedVariables false
theorem val_ex (p : Nat) (hp : 2 ≤ p) : ∀ (k : Nat) (n : Int), n ≠ 0 → n.natAbs ≤ k → ∃ x : Int × Nat, Val n p x.1 x.2 := by
  intro k
  induction k with
  | zero => intro n hn h; omega
  | succ k ih =>
    intro n hn h
    by_cases hd : (p : Int) ∣ n
    · obtain ⟨m, rfl⟩ := hd
      have hm : m ≠ 0 := by rintro rfl; simp at hn
      have e : ((p : Int) * m).natAbs = p * m.natAbs := by rw [Int.natAbs_mul]; rfl
      rw [e] at h
      have h2 : 2 * m.natAbs ≤ p * m.natAbs := Nat.mul_le_mul_right _ hp
      obtain ⟨⟨u, s⟩, hu⟩ := ih m hm (by omega)
      refine ⟨(u, s + 1), ?_, hu.2⟩
      show (p : Int) * m = u * (p : Int) ^ (s + 1)
      rw [Int.pow_succ, ← Int.mul_assoc, ← hu.1, Int.mul_comm]
    · exact ⟨(n, 0), by show n = n * _ ^ 0; simp, hd⟩
noncomputable def us (p : Nat) (n : Int) : Int × Nat := @dite _ (∃ x : Int × Nat, Val n p x.1 x.2) (Classical.propDecidable _) (fun h => Classical.choose h) (fun _ => (1, 0))
theorem us_spec {p : Nat} {n : Int} (hp : 2 ≤ p) (hn : n ≠ 0) : Val n p (us p n).1 (us p n).2 := by
  have h := val_ex p hp _ n hn (Nat.le_refl _)
  unfold us; rw [dif_pos h]; exact Classical.choose_spec h
theorem us_eq {p : Nat} {n u : Int} {s : Nat} (hp : 2 ≤ p) (hn : n ≠ 0) (h : Val n p u s) : us p n = (u, s) := by
  obtain ⟨h1, h2⟩ := (us_spec hp hn).unique (by omega) h
  exact Prod.ext h1 h2
theorem val_mul {p : Nat} {m n u v : Int} {s t : Nat} (hp : Pr p) (h : Val m p u s) (h' : Val n p v t) : Val (m * n) p (u * v) (s + t) := by
  refine ⟨?_, fun hd => ?_⟩
  · rw [h.1, h'.1, Int.pow_add]; grind
  · rcases hp.dvd_mul_int hd with e | e
    · exact h.2 e
    · exact h'.2 e
noncomputable def hs (a b : Int) (p : Nat) : Int :=
  if p = 0 then (if a < 0 ∧ b < 0 then -1 else 1)
  else if p = 2 then h2 ((us 2 a).1 % 8) ((us 2 b).1 % 8) (us 2 a).2 (us 2 b).2
  else hOdd p (us p a).1 (us p b).1 (us p a).2 (us p b).2
theorem hs_zero (a b : Int) : hs a b 0 = if a < 0 ∧ b < 0 then -1 else 1 := by unfold hs; rw [if_pos rfl]
theorem hs_two {a b u v : Int} {s t : Nat} (ha : a ≠ 0) (hb : b ≠ 0) (hu : Val a 2 u s) (hv : Val b 2 v t) : hs a b 2 = h2 (u % 8) (v % 8) s t := by
  unfold hs; rw [if_neg (by decide), if_pos rfl, us_eq (p := 2) (by decide) ha hu, us_eq (p := 2) (by decide) hb hv]
theorem hs_odd {p : Nat} {a b u v : Int} {s t : Nat} (hp : 3 ≤ p) (ha : a ≠ 0) (hb : b ≠ 0) (hu : Val a p u s) (hv : Val b p v t) : hs a b p = hOdd p u v s t := by
  unfold hs; rw [if_neg (by omega), if_neg (by omega), us_eq (by omega) ha hu, us_eq (by omega) hb hv]
theorem hs_HV {a b p x : Int} (ha : a ≠ 0) (hb : b ≠ 0) (hp : p = 0 ∨ prB p = true) (h : HV a b p x) : x = hs a b p.toNat := by
  rcases h with ⟨e1, e2⟩ | ⟨e1, u, v, s, t, e2, hu, hv⟩ | ⟨e1, e3, u, v, s, t, e2, hu, hv⟩
  · rw [e1, e2]; exact (hs_zero a b).symm
  · rw [e1, e2]; exact (hs_two ha hb hu hv).symm
  · obtain ⟨p2, -, -⟩ := prB_of e3
    obtain ⟨k, rfl⟩ : ∃ k : Nat, p = k := ⟨p.toNat, by omega⟩
    rw [e2]; exact (hs_odd (p := k) (by omega) ha hb hu hv).symm
/-- a place: the real one, or a prime -/
def Pla (p : Nat) : Prop := p = 0 ∨ Pr p
theorem Pla.ways {p : Nat} (h : Pla p) : p = 0 ∨ p = 2 ∨ (Pr p ∧ p % 2 = 1 ∧ 3 ≤ p) := by
  rcases h with h | h
  · exact .inl h
  by_cases e : p = 2
  · exact .inr (.inl e)
  · have := pr_odd h e
    have h2 := h.1
    exact .inr (.inr ⟨h, this, by omega⟩)
theorem hs_symm {p : Nat} (a b : Int) (hp : Pla p) : hs a b p = hs b a p := by
  rcases hp.ways with rfl | rfl | ⟨h1, h2, h3⟩
  · rw [hs_zero, hs_zero]; have e : (a < 0 ∧ b < 0) ↔ (b < 0 ∧ a < 0) := And.comm
    simp only [e]
  · unfold hs; rw [if_neg (by decide), if_pos rfl, if_neg (by decide), if_pos rfl, h2_symm]
  · unfold hs; rw [if_neg (by omega), if_neg (by omega), if_neg (by omega), if_neg (by omega), hOdd_symm]
theorem h2_par (U V : Int) (s t : Nat) : h2 U V s t = h2 U V (s % 2) (t % 2) := by unfold h2; rw [Nat.mod_mod, Nat.mod_mod]
theorem h2_tab : ∀ U ∈ [(1 : Int), 3, 5, 7], ∀ V ∈ [(1 : Int), 3, 5, 7], ∀ V' ∈ [(1 : Int), 3, 5, 7], ∀ s ∈ [0, 1], ∀ t ∈ [0, 1], ∀ t' ∈ [0, 1], h2 U (V * V' % 8) s ((t + t') % 2) = h2 U V s t * h2 U V' s t' := by decide +kernel
theorem odd_mem {u : Int} (h : ¬ (2 : Int) ∣ u) : u % 8 ∈ [(1 : Int), 3, 5, 7] := by
  have := odd8 h
  simp only [List.mem_cons, List.not_mem_nil, or_false]; exact this
theorem par_mem (n : Nat) : n % 2 ∈ [0, 1] := by
  have : n % 2 = 0 ∨ n % 2 = 1 := by omega
  simpa using this
theorem h2_mul {U V V' : Int} (hU : ¬ (2 : Int) ∣ U) (hV : ¬ (2 : Int) ∣ V) (hV' : ¬ (2 : Int) ∣ V') (s t t' : Nat) : h2 (U % 8) (V * V' % 8) s (t + t') = h2 (U % 8) (V % 8) s t * h2 (U % 8) (V' % 8) s t' := by
  rw [h2_par, h2_par (U % 8) (V % 8), h2_par (U % 8) (V' % 8), Nat.add_mod, Int.mul_emod]
  exact h2_tab _ (odd_mem hU) _ (odd_mem hV) _ (odd_mem hV') _ (par_mem s) _ (par_mem t) _ (par_mem t')
theorem hOdd_mul {p : Nat} (hp : Pr p) (ho : p % 2 = 1) {u v v' : Int} (hu : ¬ (p : Int) ∣ u) (s t t' : Nat) : hOdd p u (v * v') s (t + t') = hOdd p u v s t * hOdd p u v' s t' := by
  unfold hOdd
  have h1 := Nt.leg_sq hp ho hu
  rw [Nt.leg_mul hp ho]
  rcases Nat.mod_two_eq_zero_or_one s with hs | hs <;> rcases Nat.mod_two_eq_zero_or_one t with ht | ht <;> rcases Nat.mod_two_eq_zero_or_one t' with ht' | ht'
  all_goals
    have e : (t + t') % 2 = (t % 2 + t' % 2) % 2 := Nat.add_mod _ _ _
    rw [ht, ht'] at e
    simp only [hs, ht, ht', e]
    by_cases h4 : p % 4 = 3
    · simp [h4]; try grind
    · simp [h4]; try grind
theorem hs_mul {p : Nat} {a b c : Int} (hp : Pla p) (ha : a ≠ 0) (hb : b ≠ 0) (hc : c ≠ 0) : hs a (b * c) p = hs a b p * hs a c p := by
  have hbc : b * c ≠ 0 := Int.mul_ne_zero hb hc
  rcases hp.ways with rfl | rfl | ⟨h1, h2, h3⟩
  · rw [hs_zero, hs_zero, hs_zero]
    by_cases h1 : a < 0
    · rcases Int.lt_or_gt_of_ne hb with h2 | h2 <;> rcases Int.lt_or_gt_of_ne hc with h3 | h3
      · have := Int.mul_pos_of_neg_of_neg h2 h3
        rw [if_neg (by omega), if_pos (by omega), if_pos (by omega)]; rfl
      · have := Int.mul_neg_of_neg_of_pos h2 h3
        rw [if_pos (by omega), if_pos (by omega), if_neg (by omega)]; rfl
      · have := Int.mul_neg_of_pos_of_neg h2 h3
        rw [if_pos (by omega), if_neg (by omega), if_pos (by omega)]; rfl
      · have := Int.mul_pos h2 h3
        rw [if_neg (by omega), if_neg (by omega), if_neg (by omega)]; rfl
    · rw [if_neg (by omega), if_neg (by omega), if_neg (by omega)]; rfl
  · have va := us_spec (p := 2) (by omega) ha
    have vb := us_spec (p := 2) (by omega) hb
    have vc := us_spec (p := 2) (by omega) hc
    rw [hs_two ha hbc va (val_mul pr_two vb vc), hs_two ha hb va vb, hs_two ha hc va vc]
    exact h2_mul va.2 vb.2 vc.2 _ _ _
  · have va := us_spec (p := p) (by omega) ha
    have vb := us_spec (p := p) (by omega) hb
    have vc := us_spec (p := p) (by omega) hc
    rw [hs_odd h3 ha hbc va (val_mul h1 vb vc), hs_odd h3 ha hb va vb, hs_odd h3 ha hc va vc]
    exact hOdd_mul h1 h2 va.2 _ _ _
theorem hs_mull {p : Nat} {a b c : Int} (hp : Pla p) (ha : a ≠ 0) (hb : b ≠ 0) (hc : c ≠ 0) : hs (b * c) a p = hs b a p * hs c a p := by
  rw [hs_symm _ _ hp, hs_mul hp ha hb hc, hs_symm a b hp, hs_symm a c hp]
theorem h2_tabs : ∀ U ∈ [(1 : Int), 3, 5, 7], ∀ V ∈ [(1 : Int), 3, 5, 7], ∀ s ∈ [0, 1], ∀ t ∈ [0, 1], h2 U V s t = 1 ∨ h2 U V s t = -1 := by decide +kernel
theorem hs_pm {p : Nat} {a b : Int} (hp : Pla p) (ha : a ≠ 0) (hb : b ≠ 0) : hs a b p = 1 ∨ hs a b p = -1 := by
  rcases hp.ways with rfl | rfl | ⟨h1, h2, h3⟩
  · rw [hs_zero]; split <;> simp
  · have va := us_spec (p := 2) (by omega) ha
    have vb := us_spec (p := 2) (by omega) hb
    rw [hs_two ha hb va vb, h2_par]
    exact h2_tabs _ (odd_mem va.2) _ (odd_mem vb.2) _ (par_mem _) _ (par_mem _)
  · have va := us_spec (p := p) (by omega) ha
    have vb := us_spec (p := p) (by omega) hb
    rw [hs_odd h3 ha hb va vb]
    unfold hOdd
    rcases leg_pm h1 h2 va.2 with e | e <;> rcases leg_pm h1 h2 vb.2 with e' | e' <;> rw [e, e'] <;> (split <;> split <;> split <;> simp)
theorem hs_sq {p : Nat} {a b : Int} (hp : Pla p) (ha : a ≠ 0) (hb : b ≠ 0) : hs a b p * hs a b p = 1 := by
  rcases hs_pm hp ha hb with e | e <;> rw [e] <;> rfl
theorem hs_square {p : Nat} {a b : Int} (hp : Pla p) (ha : a ≠ 0) (hb : b ≠ 0) : hs a (b * b) p = 1 := by rw [hs_mul hp ha hb hb, hs_sq hp ha hb]
theorem hs_neg {p : Nat} {a : Int} (hp : Pla p) (ha : a ≠ 0) : hs a (-a) p = 1 := by
  have hna : -a ≠ 0 := by omega
  rcases hp.ways with rfl | rfl | ⟨h1, h2, h3⟩
  · rw [hs_zero, if_neg (by omega)]
  · have va := us_spec (p := 2) (by omega) ha
    have hv : HV a (-a) ((2 : Nat) : Int) (hs a (-a) 2) := .inr (.inl ⟨rfl, _, _, _, _, hs_two ha hna va va.neg, va, va.neg⟩)
    exact HV.neg ha hv
  · have va := us_spec (p := p) (by omega) ha
    rw [hs_odd h3 ha hna va va.neg]
    -- the odd case once more, without the bound on primes
    unfold hOdd
    generalize hu : (us p a).1 = u at va
    have hl : leg (-u) p = leg (-1) p * leg u p := by
      rw [← Nt.leg_mul h1 h2]; congr 1; omega
    have hsq := Nt.leg_sq h1 h2 va.2
    have hm := Nt.leg_neg_one h1 h2
    rcases Nat.mod_two_eq_zero_or_one (us p a).2 with e | e
    · simp [e]
    · have h4 : p % 4 = 1 ∨ p % 4 = 3 := by omega
      rcases h4 with h4 | h4
      · have h5 : (p - 1) / 2 % 2 = 0 := by omega
        rw [hl, hm]; simp [e, h4, Nt.sg, h5, hsq]
      · have h5 : (p - 1) / 2 % 2 = 1 := by omega
        rw [hl, hm]; simp [e, h4, Nt.sg, h5, hsq]
theorem hs_one {p : Nat} {b : Int} (hp : Pla p) (hb : b ≠ 0) : hs 1 b p = 1 := by
  rw [hs_symm _ _ hp]; exact hs_square (b := 1) hp hb (by decide)
end Go.Proofs.Ytcbdnnboddahkaa.Pf
namespace Go.Proofs.Ytcbdnnboddahkaa.Pf
open Nt (Pr leg sg Sgn)
set_option linter.unusedVariables false
theorem hs_sqm {p : Nat} {k x y : Int} (hp : Pla p) (hk : k ≠ 0) (hx : x ≠ 0) (hy : y ≠ 0) : hs (k * k * x) y p = hs x y p := by
  rw [hs_mull hp hy (Int.mul_ne_zero hk hk) hx, hs_symm (k * k) y hp, hs_square hp hy hk, Int.one_mul]
theorem hs_sqr {p : Nat} {k x y : Int} (hp : Pla p) (hk : k ≠ 0) (hx : x ≠ 0) (hy : y ≠ 0) : hs x (k * k * y) p = hs x y p := by
  rw [hs_symm _ _ hp, hs_sqm hp hk hy hx, hs_symm _ _ hp]
theorem val0 {p : Nat} {n : Int} (h : ¬ (p : Int) ∣ n) : Val n p n 0 := ⟨by simp, h⟩
theorem stein_odd {p : Nat} {A B C : Int} (hp : Pr p) (ho : p % 2 = 1) (h3 : 3 ≤ p) (hA : A ≠ 0) (hB : B ≠ 0) (hC : C ≠ 0) (e : A + B = C) (hn : ¬ (p : Int) ∣ B) : hs (A * C) (B * C) p = 1 := by
  have hAC := Int.mul_ne_zero hA hC
  have hBC := Int.mul_ne_zero hB hC
  by_cases dc : (p : Int) ∣ C
  · have dA : ¬ (p : Int) ∣ A := fun h => hn (by have := Int.dvd_sub dc h; rwa [show C - A = B by omega] at this)
    have vc := us_spec (p := p) (by omega) hC
    generalize (us p C).1 = c at vc
    generalize (us p C).2 = g at vc
    have v1 := val_mul hp (val0 dA) vc
    have v2 := val_mul hp (val0 hn) vc
    rw [hs_odd h3 hAC hBC v1 v2, Nat.zero_add]
    have lb : leg B p = leg (-1) p * leg A p := by
      rw [← Nt.leg_mul hp ho]
      refine Nt.leg_congr ?_
      obtain ⟨k, hk⟩ := dc
      have : B = -1 * A + p * k := by omega
      rw [this, Int.add_mul_emod_self_left]
    have sa := Nt.leg_sq hp ho dA
    have sc := Nt.leg_sq hp ho vc.2
    have hm := Nt.leg_neg_one hp ho
    unfold hOdd
    rw [Nt.leg_mul hp ho, Nt.leg_mul hp ho, lb, hm]
    rcases Nat.mod_two_eq_zero_or_one g with e1 | e1
    · simp [e1]
    · have h4 : p % 4 = 1 ∨ p % 4 = 3 := by omega
      rcases h4 with h4 | h4
      · have h5 : (p - 1) / 2 % 2 = 0 := by omega
        simp [e1, h4, Nt.sg, h5]; grind
      · have h5 : (p - 1) / 2 % 2 = 1 := by omega
        simp [e1, h4, Nt.sg, h5]; grind
  · have va := us_spec (p := p) (by omega) hA
    generalize ea : (us p A).1 = a at va
    generalize (us p A).2 = s at va
    have v1 := val_mul hp va (val0 dc)
    have v2 := val_mul hp (val0 hn) (val0 dc)
    rw [hs_odd h3 hAC hBC v1 v2]
    unfold hOdd
    rcases Nat.mod_two_eq_zero_or_one s with e1 | e1
    · simp [e1]
    · have hd : (p : Int) ∣ A := by
        rcases s with _ | s
        · simp at e1
        · rw [va.1, Int.pow_succ, ← Int.mul_assoc]; exact Int.dvd_mul_left _ _
      have lb : leg B p = leg C p := by
        refine Nt.leg_congr ?_
        obtain ⟨k, hk⟩ := hd
        have : C = B + p * k := by omega
        rw [this, Int.add_mul_emod_self_left]
      have sc := Nt.leg_sq hp ho dc
      rw [Nt.leg_mul hp ho B C, lb]
      simp [e1, sc]
theorem tabC1 : ∀ A ∈ [(1 : Int), 3, 5, 7], ∀ c ∈ [(1 : Int), 3, 5, 7], h2 (A * c % 8) ((2 * c - A) % 8 * c % 8) 1 1 = 1 := by decide +kernel
theorem tabC2 : ∀ A ∈ [(1 : Int), 3, 5, 7], ∀ c ∈ [(1 : Int), 3, 5, 7], h2 (A * c % 8) ((4 * c - A) % 8 * c % 8) 0 0 = 1 := by decide +kernel
theorem tabC3 : ∀ A ∈ [(1 : Int), 3, 5, 7], ∀ c ∈ [(1 : Int), 3, 5, 7], ∀ t ∈ [0, 1], h2 (A * c % 8) ((- A) % 8 * c % 8) t t = 1 := by decide +kernel
theorem tabA1 : ∀ a ∈ [(1 : Int), 3, 5, 7], ∀ C ∈ [(1 : Int), 3, 5, 7], h2 (a * C % 8) ((C - 2 * a) % 8 * C % 8) 1 0 = 1 := by decide +kernel
theorem tabA2 : ∀ a ∈ [(1 : Int), 3, 5, 7], ∀ C ∈ [(1 : Int), 3, 5, 7], h2 (a * C % 8) ((C - 4 * a) % 8 * C % 8) 0 0 = 1 := by decide +kernel
theorem tabA3 : ∀ a ∈ [(1 : Int), 3, 5, 7], ∀ C ∈ [(1 : Int), 3, 5, 7], ∀ t ∈ [0, 1], h2 (a * C % 8) (C % 8 * C % 8) t 0 = 1 := by decide +kernel
theorem mm8 (x y : Int) : x * y % 8 = x % 8 * (y % 8) % 8 := Int.mul_emod _ _ _
theorem stein_two {A B C : Int} (hA : A ≠ 0) (hB : B ≠ 0) (hC : C ≠ 0) (e : A + B = C) (hn : ¬ (2 : Int) ∣ B) : hs (A * C) (B * C) 2 = 1 := by
  have hAC := Int.mul_ne_zero hA hC
  have hBC := Int.mul_ne_zero hB hC
  by_cases dc : (2 : Int) ∣ C
  · have dA : ¬ (2 : Int) ∣ A := by omega
    have vc := us_spec (p := 2) (by omega) hC
    generalize (us 2 C).1 = c at vc
    generalize (us 2 C).2 = g at vc
    have v1 := val_mul (p := 2) pr_two (val0 dA) vc
    have v2 := val_mul (p := 2) pr_two (val0 hn) vc
    rw [hs_two hAC hBC v1 v2, Nat.zero_add, mm8 A c, mm8 B c]
    have mA := odd_mem dA
    have mc := odd_mem vc.2
    have hv := vc.1
    rcases g with _ | _ | _ | g
    · exfalso; apply vc.2; rw [hv] at dc; simpa using dc
    · have h1 : C = c * 2 := by rw [hv]; simp
      have : B % 8 = (2 * (c % 8) - A % 8) % 8 := by omega
      rw [this]; exact tabC1 _ mA _ mc
    · have h1 : C = c * 4 := by rw [hv]; rfl
      have : B % 8 = (4 * (c % 8) - A % 8) % 8 := by omega
      rw [this, h2_par]; exact tabC2 _ mA _ mc
    · have h1 : C = c * 2 ^ g * 8 := by
        rw [hv, Int.pow_succ, Int.pow_succ, Int.pow_succ]; show c * ((2 : Int) ^ g * 2 * 2 * 2) = _; grind
      generalize c * 2 ^ g = k at h1
      have : B % 8 = (-(A % 8)) % 8 := by omega
      rw [this, h2_par]; exact tabC3 _ mA _ mc _ (par_mem _)
  · have va := us_spec (p := 2) (by omega) hA
    generalize ea : (us 2 A).1 = a at va
    generalize (us 2 A).2 = s at va
    have v1 := val_mul (p := 2) pr_two va (val0 dc)
    have v2 := val_mul (p := 2) pr_two (val0 hn) (val0 dc)
    rw [hs_two hAC hBC v1 v2, Nat.add_zero, mm8 a C, mm8 B C]
    have mC := odd_mem dc
    have ma := odd_mem va.2
    have hv := va.1
    rcases s with _ | _ | _ | s
    · exfalso
      have : ¬ (2 : Int) ∣ A := by intro h; apply va.2; rw [hv] at h; simpa using h
      omega
    · have h1 : A = a * 2 := by rw [hv]; simp
      have : B % 8 = (C % 8 - 2 * (a % 8)) % 8 := by omega
      rw [this]; exact tabA1 _ ma _ mC
    · have h1 : A = a * 4 := by rw [hv]; rfl
      have : B % 8 = (C % 8 - 4 * (a % 8)) % 8 := by omega
      rw [this, h2_par]; exact tabA2 _ ma _ mC
    · have h1 : A = a * 2 ^ s * 8 := by
        rw [hv, Int.pow_succ, Int.pow_succ, Int.pow_succ]; show a * ((2 : Int) ^ s * 2 * 2 * 2) = _; grind
      generalize a * 2 ^ s = k at h1
      have : B % 8 = C % 8 := by omega
      rw [this, h2_par]; have := tabA3 _ ma _ mC _ (par_mem (s + 1 + 1 + 1)); rwa [Int.emod_emod] at this
theorem stein_prim {p : Nat} {A B C : Int} (hp : Pr p) (hA : A ≠ 0) (hB : B ≠ 0) (hC : C ≠ 0) (e : A + B = C) (hn : ¬ ((p : Int) ∣ A ∧ (p : Int) ∣ B)) : hs (A * C) (B * C) p = 1 := by
  have key : ∀ {A B : Int}, A ≠ 0 → B ≠ 0 → A + B = C → ¬ (p : Int) ∣ B → hs (A * C) (B * C) p = 1 := by
    intro A B hA hB e hd
    by_cases h2 : p = 2
    · subst h2; exact stein_two hA hB hC e hd
    · have h3 := pr_odd hp h2
      have h4 := hp.1
      exact stein_odd hp h3 (by omega) hA hB hC e hd
  by_cases hd : (p : Int) ∣ B
  · have hd' : ¬ (p : Int) ∣ A := fun h => hn ⟨h, hd⟩
    rw [hs_symm _ _ (.inr hp)]; exact key hB hA (by omega) hd'
  · exact key hA hB e hd
theorem stein {p : Nat} (hp : Pla p) : ∀ (k : Nat) {A B C : Int}, A.natAbs ≤ k → A ≠ 0 → B ≠ 0 → C ≠ 0 → A + B = C → hs (A * C) (B * C) p = 1 := by
  intro k
  induction k with
  | zero => intro A B C h hA; omega
  | succ k ih =>
    intro A B C h hA hB hC e
    rcases hp with rfl | hp'
    · rw [hs_zero, if_neg]
      intro ⟨h1, h2⟩
      rcases Int.lt_or_gt_of_ne hC with h3 | h3
      · have h4 : 0 < A := by
          apply Classical.byContradiction; intro hn
          have := Int.mul_nonneg_of_nonpos_of_nonpos (a := A) (b := C) (by omega) (by omega); omega
        have h5 : 0 < B := by
          apply Classical.byContradiction; intro hn
          have := Int.mul_nonneg_of_nonpos_of_nonpos (a := B) (b := C) (by omega) (by omega); omega
        omega
      · have h4 : A < 0 := by
          apply Classical.byContradiction; intro hn
          have := Int.mul_nonneg (a := A) (b := C) (by omega) (by omega); omega
        have h5 : B < 0 := by
          apply Classical.byContradiction; intro hn
          have := Int.mul_nonneg (a := B) (b := C) (by omega) (by omega); omega
        omega
    by_cases hd : (p : Int) ∣ A ∧ (p : Int) ∣ B
    · obtain ⟨⟨a, rfl⟩, ⟨b, rfl⟩⟩ := hd
      have hp0 : (p : Int) ≠ 0 := by have := hp'.1; omega
      have ha : a ≠ 0 := by rintro rfl; simp at hA
      have hb : b ≠ 0 := by rintro rfl; simp at hB
      have hc : C = p * (a + b) := by rw [← e, Int.mul_add]
      have hc' : a + b ≠ 0 := by intro h0; rw [hc, h0] at hC; simp at hC
      have h1 : (p * a) * C = p * p * (a * (a + b)) := by rw [hc]; grind
      have h2 : (p * b) * C = p * p * (b * (a + b)) := by rw [hc]; grind
      have z1 := Int.mul_ne_zero ha hc'
      have z2 := Int.mul_ne_zero hb hc'
      rw [h1, h2, hs_sqm (.inr hp') hp0 z1 (Int.mul_ne_zero (Int.mul_ne_zero hp0 hp0) z2), hs_sqr (.inr hp') hp0 z1 z2]
      refine ih ?_ ha hb hc' rfl
      rw [Int.natAbs_mul] at h
      have h4 : 2 * a.natAbs ≤ (p : Int).natAbs * a.natAbs := Nat.mul_le_mul_right _ (by have := hp'.1; omega)
      omega
    · exact stein_prim hp' hA hB hC e hd
theorem solved {p : Nat} {a b u v w : Int} (hp : Pla p) (ha : a ≠ 0) (hb : b ≠ 0) (hw : w ≠ 0) (e : a * u * u + b * v * v = w * w) : hs a b p = 1 := by
  have hww := Int.mul_ne_zero hw hw
  by_cases hu : u = 0
  · subst hu
    have hv : v ≠ 0 := by rintro rfl; simp at e; exact hww e.symm
    have e' : v * v * b = w * w := by rw [← e]; grind
    rw [← hs_sqr (k := v) hp hv ha hb, e']; exact hs_square hp ha hw
  by_cases hv : v = 0
  · subst hv
    have e' : u * u * a = w * w := by rw [← e]; grind
    rw [hs_symm _ _ hp, ← hs_sqr (k := u) hp hu hb ha, e']; exact hs_square hp hb hw
  have za := Int.mul_ne_zero (Int.mul_ne_zero hu hu) ha
  have zb := Int.mul_ne_zero (Int.mul_ne_zero hv hv) hb
  have h := stein hp _ (A := u * u * a) (B := v * v * b) (C := w * w) (Nat.le_refl _) za zb hww (by rw [← e]; grind)
  rw [Int.mul_comm (u * u * a), Int.mul_comm (v * v * b), hs_sqm hp hw za (Int.mul_ne_zero hww zb), hs_sqr hp hw za zb, hs_sqm hp hu ha zb, hs_sqr hp hv ha hb] at h
  exact h
end Go.Proofs.Ytcbdnnboddahkaa.Pf
namespace Go.Proofs.Ytcbdnnboddahkaa.Pf
open Nt (Pr leg sg Sgn)
set_option linter.unusedVariables false
noncomputable def P (a b : Int) : List Nat → Int
  | [] => 1
  | p :: l => hs a b p * P a b l
def Plas (l : List Nat) : Prop := ∀ p ∈ l, Pla p
theorem Plas.head {p : Nat} {l : List Nat} (h : Plas (p :: l)) : Pla p := h p (by simp)
theorem Plas.tail {p : Nat} {l : List Nat} (h : Plas (p :: l)) : Plas l := fun q hq => h q (by simp [hq])
theorem P_mul {a b c : Int} (ha : a ≠ 0) (hb : b ≠ 0) (hc : c ≠ 0) : ∀ {l : List Nat}, Plas l → P a (b * c) l = P a b l * P a c l
  | [], _ => rfl
  | p :: l, h => by
    show hs a (b * c) p * P a (b * c) l = (hs a b p * P a b l) * (hs a c p * P a c l)
    rw [hs_mul h.head ha hb hc, P_mul ha hb hc h.tail]; grind
theorem P_symm (a b : Int) : ∀ {l : List Nat}, Plas l → P a b l = P b a l
  | [], _ => rfl
  | p :: l, h => by
    show hs a b p * P a b l = hs b a p * P b a l
    rw [hs_symm a b h.head, P_symm a b h.tail]
theorem P_mull {a b c : Int} (ha : a ≠ 0) (hb : b ≠ 0) (hc : c ≠ 0) {l : List Nat} (h : Plas l) : P (b * c) a l = P b a l * P c a l := by
  rw [P_symm _ _ h, P_mul ha hb hc h, P_symm a b h, P_symm a c h]
theorem P_perm (a b : Int) {l m : List Nat} (h : l.Perm m) : P a b l = P a b m := by
  induction h with
  | nil => rfl
  | cons x _ ih => show _ * _ = _ * _; rw [ih]
  | swap x y l => show hs a b y * (hs a b x * P a b l) = hs a b x * (hs a b y * P a b l); grind
  | trans _ _ ih1 ih2 => rw [ih1, ih2]
theorem P_ones {a b : Int} : ∀ {l : List Nat}, (∀ p ∈ l, hs a b p = 1) → P a b l = 1
  | [], _ => rfl
  | p :: l, h => by
    show hs a b p * P a b l = 1
    rw [h p (by simp), P_ones (fun q hq => h q (by simp [hq]))]; rfl
theorem P_neg {a : Int} (ha : a ≠ 0) {l : List Nat} (h : Plas l) : P a (-a) l = 1 := P_ones fun p hp => hs_neg (h p hp) ha
theorem P_one {b : Int} (hb : b ≠ 0) {l : List Nat} (h : Plas l) : P 1 b l = 1 := P_ones fun p hp => hs_one (h p hp) hb
theorem hs_unit {p : Nat} {a b : Int} (hp : Pr p) (ho : p % 2 = 1) (ha : ¬ (p : Int) ∣ a) (hb : ¬ (p : Int) ∣ b) : hs a b p = 1 := by
  have h2 := hp.1
  rw [hs_odd (by omega) (by rintro rfl; simp at ha) (by rintro rfl; simp at hb) (val0 ha) (val0 hb)]
  simp [hOdd]
theorem nd_one {p : Nat} (hp : Pr p) : ¬ (p : Int) ∣ -1 := fun h => by
  have h1 := Int.natAbs_dvd_natAbs.2 h
  have h2 := Nat.le_of_dvd (by decide) h1
  have := hp.1
  simp at h2; omega
theorem nd_one' {p : Nat} (hp : Pr p) : ¬ (p : Int) ∣ 1 := fun h => nd_one hp (by rw [Int.dvd_neg]; exact h)
theorem nd_pr {p q : Nat} (hp : Pr p) (hq : Pr q) (h : p ≠ q) : ¬ (p : Int) ∣ q := fun hd => hp.ndvd hq h (Int.natCast_dvd_natCast.1 hd)
theorem val_self {p : Nat} (hp : Pr p) : Val p p 1 1 := ⟨by rw [Int.one_mul, Int.pow_succ, Int.pow_zero, Int.one_mul], nd_one' hp⟩
theorem val_self2 : Val 2 2 1 1 := ⟨by simp, by omega⟩
theorem val0t {n : Int} (h : ¬ (2 : Int) ∣ n) : Val n 2 n 0 := ⟨by simp, h⟩
/-- the places of a list of odd primes, with 2 and the real one -/
structure Od (R : List Nat) : Prop where
  nd : R.Nodup
  pr : ∀ p ∈ R, Pr p ∧ p % 2 = 1
theorem Od.plas {R : List Nat} (h : Od R) : Plas (0 :: 2 :: R) := by
  intro p hp
  simp only [List.mem_cons] at hp
  rcases hp with rfl | rfl | hp
  · exact .inl rfl
  · exact .inr pr_two
  · exact .inr (h.pr p hp).1
theorem P_two (a b : Int) (R : List Nat) : P a b (0 :: 2 :: R) = hs a b 0 * (hs a b 2 * P a b R) := rfl
theorem Od.split {R : List Nat} (h : Od R) {q : Nat} (hq : q ∈ R) (a b : Int) : P a b R = hs a b q * P a b (R.erase q) := P_perm a b (List.perm_cons_erase hq)
theorem Od.ne {R : List Nat} (h : Od R) {q p : Nat} (hp : p ∈ R.erase q) : p ≠ q ∧ p ∈ R := by
  have := (List.Nodup.mem_erase_iff h.nd).1 hp
  exact this
theorem Od.nd2 {R : List Nat} (h : Od R) {p : Nat} (hp : p ∈ R) : ¬ (p : Int) ∣ 2 := by
  obtain ⟨h1, h2⟩ := h.pr p hp
  exact nd_pr (q := 2) h1 pr_two (by omega)
theorem gen_mm {R : List Nat} (h : Od R) : P (-1) (-1) (0 :: 2 :: R) = 1 := by
  rw [P_two, P_ones (fun p hp => hs_unit (h.pr p hp).1 (h.pr p hp).2 (nd_one (h.pr p hp).1) (nd_one (h.pr p hp).1)), hs_zero, hs_two (by decide) (by decide) (val0t (n := -1) (by omega)) (val0t (n := -1) (by omega))]
  decide
theorem gen_m2 {R : List Nat} (h : Od R) : P (-1) 2 (0 :: 2 :: R) = 1 := by
  rw [P_two, P_ones (fun p hp => hs_unit (h.pr p hp).1 (h.pr p hp).2 (nd_one (h.pr p hp).1) (h.nd2 hp)), hs_zero, hs_two (by decide) (by decide) (val0t (n := -1) (by omega)) val_self2]
  decide
theorem q_nd2 {q : Nat} (ho : q % 2 = 1) : ¬ (2 : Int) ∣ (q : Int) := by omega
theorem gen_mq {R : List Nat} (h : Od R) {q : Nat} (hq : q ∈ R) : P (-1) q (0 :: 2 :: R) = 1 := by
  obtain ⟨hp, ho⟩ := h.pr q hq
  have h2 := hp.1
  rw [P_two, h.split hq, P_ones (l := R.erase q) (fun p hp' => by
    obtain ⟨h1, h3⟩ := h.ne hp'
    exact hs_unit (h.pr p h3).1 (h.pr p h3).2 (nd_one (h.pr p h3).1) (nd_pr (h.pr p h3).1 hp h1)), hs_zero, hs_two (by decide) (by omega) (val0t (n := -1) (by omega)) (val0t (q_nd2 ho)), hs_odd (by omega) (by decide) (by omega) (val0 (nd_one hp)) (val_self hp), if_neg (by omega)]
  have hm := Nt.leg_neg_one hp ho
  have h4 : q % 4 = 1 ∨ q % 4 = 3 := by omega
  rcases h4 with h4 | h4
  · have h5 : (q - 1) / 2 % 2 = 0 := by omega
    have h6 : ¬ (q : Int) % 4 = 3 := by omega
    simp [Go.Proofs.Ytcbdnnboddahkaa.h2, hOdd, hm, Nt.sg, h5, h6]
  · have h5 : (q - 1) / 2 % 2 = 1 := by omega
    have h6 : (q : Int) % 4 = 3 := by omega
    simp [Go.Proofs.Ytcbdnnboddahkaa.h2, hOdd, hm, Nt.sg, h5, h6]
theorem gen_2q {R : List Nat} (h : Od R) {q : Nat} (hq : q ∈ R) : P 2 q (0 :: 2 :: R) = 1 := by
  obtain ⟨hp, ho⟩ := h.pr q hq
  have h2 := hp.1
  rw [P_two, h.split hq, P_ones (l := R.erase q) (fun p hp' => by
    obtain ⟨h1, h3⟩ := h.ne hp'
    exact hs_unit (h.pr p h3).1 (h.pr p h3).2 (h.nd2 h3) (nd_pr (h.pr p h3).1 hp h1)), hs_zero, hs_two (by decide) (by omega) val_self2 (val0t (q_nd2 ho)), hs_odd (by omega) (by decide) (by omega) (val0 (h.nd2 hq)) (val_self hp), if_neg (by omega)]
  have hm := Nt.leg_two hp ho
  have h8 : q % 8 = 1 ∨ q % 8 = 3 ∨ q % 8 = 5 ∨ q % 8 = 7 := by omega
  rcases h8 with h8 | h8 | h8 | h8
  all_goals
    have h6 : (q : Int) % 8 = ((q % 8 : Nat) : Int) := by omega
    rw [h8] at h6
    simp [Go.Proofs.Ytcbdnnboddahkaa.h2, hOdd, hm, Nt.chi8, h8, h6]
theorem gen_qr {R : List Nat} (h : Od R) {q r : Nat} (hq : q ∈ R) (hr : r ∈ R) (hn : q ≠ r) : P q r (0 :: 2 :: R) = 1 := by
  obtain ⟨hp, ho⟩ := h.pr q hq
  obtain ⟨hp', ho'⟩ := h.pr r hr
  have h2 := hp.1
  have h2' := hp'.1
  have hr' : r ∈ R.erase q := (List.Nodup.mem_erase_iff h.nd).2 ⟨fun e => hn e.symm, hr⟩
  have e2 : P q r (R.erase q) = hs q r r * P q r ((R.erase q).erase r) := P_perm _ _ (List.perm_cons_erase hr')
  have nd' : (R.erase q).Nodup := List.Nodup.erase _ h.nd
  rw [P_two, h.split hq, e2, P_ones (l := (R.erase q).erase r) (fun p hp'' => by
    obtain ⟨h0, h0'⟩ := (List.Nodup.mem_erase_iff nd').1 hp''
    obtain ⟨h1, h3⟩ := h.ne h0'
    exact hs_unit (h.pr p h3).1 (h.pr p h3).2 (nd_pr (h.pr p h3).1 hp h1) (nd_pr (h.pr p h3).1 hp' h0)), hs_zero, hs_two (by omega) (by omega) (val0t (q_nd2 ho)) (val0t (q_nd2 ho')), hs_odd (p := q) (by omega) (by omega) (by omega) (val_self hp) (val0 (nd_pr hp hp' hn)), hs_odd (p := r) (by omega) (by omega) (by omega) (val0 (nd_pr hp' hp (fun e => hn e.symm))) (val_self hp'), if_neg (by omega)]
  have hqr := Nt.leg_qr hp hp' ho ho' hn
  rw [Nt.rec4_sg q r ho ho'] at hqr
  have hc : leg r q * leg q r = Nt.rec4 q r := by rw [Int.mul_comm]; exact hqr
  have e4 : ((q : Int) % 8 % 4 = 3 ∧ (r : Int) % 8 % 4 = 3) ↔ (q % 4 = 3 ∧ r % 4 = 3) := by omega
  have hh : Go.Proofs.Ytcbdnnboddahkaa.h2 ((q : Int) % 8) ((r : Int) % 8) 0 0 = Nt.rec4 q r := by
    unfold Go.Proofs.Ytcbdnnboddahkaa.h2 Nt.rec4
    simp only [e4]; simp
  rw [hh]
  have h1 : hOdd q 1 r 1 0 = leg r q := by simp [hOdd]
  have h3 : hOdd r q 1 0 1 = leg q r := by simp [hOdd]
  rw [h1, h3, Int.mul_one, Int.one_mul, hc]
  unfold Nt.rec4; split <;> rfl
/-- what the lists are made of -/
def Gn (R : List Nat) (g : Int) : Prop := g = -1 ∨ g = 2 ∨ ∃ q ∈ R, g = (q : Int)
theorem Gn.ne {R : List Nat} (h : Od R) {g : Int} (hg : Gn R g) : g ≠ 0 := by
  rcases hg with rfl | rfl | ⟨q, hq, rfl⟩
  · decide
  · decide
  · have := (h.pr q hq).1.1; omega
theorem gen {R : List Nat} (h : Od R) {g k : Int} (hg : Gn R g) (hk : Gn R k) : P g k (0 :: 2 :: R) = 1 := by
  have hP := h.plas
  have dbl : ∀ {g : Int}, g ≠ 0 → P g (-1) (0 :: 2 :: R) = 1 → P g g (0 :: 2 :: R) = 1 := by
    intro g h0 h1
    have e : g = -1 * -g := by omega
    have := P_mul (a := g) (b := -1) (c := -g) h0 (by decide) (by omega) hP
    rw [← e, h1, P_neg h0 hP] at this
    exact this
  have m2 := gen_m2 h
  have sm2 : P 2 (-1) (0 :: 2 :: R) = 1 := by rw [P_symm _ _ hP]; exact m2
  rcases hg with rfl | rfl | ⟨q, hq, rfl⟩ <;> rcases hk with rfl | rfl | ⟨r, hr, rfl⟩
  · exact gen_mm h
  · exact m2
  · exact gen_mq h hr
  · exact sm2
  · exact dbl (by decide) sm2
  · exact gen_2q h hr
  · rw [P_symm _ _ hP]; exact gen_mq h hq
  · rw [P_symm _ _ hP]; exact gen_2q h hq
  · by_cases e : q = r
    · subst e
      refine dbl (by have := (h.pr q hq).1.1; omega) ?_
      rw [P_symm _ _ hP]; exact gen_mq h hq
    · exact gen_qr h hq hr e
theorem lift {R : List Nat} (h : Od R) {x : Int} (hx : x ≠ 0) (hg : ∀ g, Gn R g → P g x (0 :: 2 :: R) = 1) : ∀ l : List Nat, (∀ p ∈ l, Gn R p) → P (l.prod : Nat) x (0 :: 2 :: R) = 1 ∧ (l.prod : Nat) ≠ 0
  | [], _ => ⟨by simpa using P_one hx h.plas, by simp⟩
  | p :: l, hl => by
    obtain ⟨h1, h2⟩ := lift h hx hg l (fun q hq => hl q (by simp [hq]))
    have hp := hl p (by simp)
    have p0 := hp.ne h
    rw [List.prod_cons]
    refine ⟨?_, Nat.mul_ne_zero (by omega) h2⟩
    rw [Int.natCast_mul, P_mull hx p0 (by omega) h.plas, hg _ hp, h1]; rfl
theorem lift2 {R : List Nat} (h : Od R) {x a : Int} (hx : x ≠ 0) (ha : a ≠ 0) (hg : ∀ g, Gn R g → P g x (0 :: 2 :: R) = 1) (hd : ∀ p, Pr p → (p : Int) ∣ a → p = 2 ∨ p ∈ R) : P a x (0 :: 2 :: R) = 1 := by
  have h1 : 1 ≤ a.natAbs := by omega
  have hp := Nt.pf_primes h1
  have he := Nt.pf_prod h1
  obtain ⟨h2, h3⟩ := lift h hx hg (Nt.pf a.natAbs) (fun p hp' => by
    have hd' : p ∣ a.natAbs := by rw [← he]; exact Nt.dvd_prod hp'
    rcases hd p (hp p hp') (Int.ofNat_dvd_left.2 hd') with rfl | e
    · exact .inr (.inl rfl)
    · exact .inr (.inr ⟨p, e, rfl⟩))
  rw [he] at h2
  by_cases hn : a < 0
  · have e : a = -1 * (a.natAbs : Int) := by omega
    rw [e, P_mull hx (by decide) (by omega) h.plas, hg _ (.inl rfl), h2]; rfl
  · have e : a = (a.natAbs : Int) := by omega
    rw [e]; exact h2
/-- THE PRODUCT FORMULA -/
theorem product {R : List Nat} (h : Od R) {a b : Int} (ha : a ≠ 0) (hb : b ≠ 0) (da : ∀ p, Pr p → (p : Int) ∣ a → p = 2 ∨ p ∈ R) (db : ∀ p, Pr p → (p : Int) ∣ b → p = 2 ∨ p ∈ R) : P a b (0 :: 2 :: R) = 1 := by
  refine lift2 h hb ha (fun g hg => ?_) da
  rw [P_symm _ _ h.plas]
  exact lift2 h (hg.ne h) hb (fun k hk => gen h hk hg) db
end Go.Proofs.Ytcbdnnboddahkaa.Pf
namespace Go.Proofs.Ytcbdnnboddahkaa.Rm
open Go.RowKit
open Nt (Pr)
set_option linter.unusedVariables false
set_option linter.unusedSimpArgs false
set_option maxRecDepth 100000
noncomputable def prd (n q : Nat) : Bool := @decide (Pr q ∧ q ∣ n) (Classical.propDecidable _)
theorem prd_iff {n q : Nat} : prd n q = true ↔ Pr q ∧ q ∣ n := by unfold prd; exact @decide_eq_true_iff _ (Classical.propDecidable _)
/-- the primes below d that divide n -/
noncomputable def PL (n d : Nat) : List Nat := (List.range d).filter (prd n)
theorem filt_skip (f : Nat → Bool) {a b : Nat} (hab : a ≤ b) (h : ∀ q, a ≤ q → q < b → f q = false) : (List.range b).filter f = (List.range a).filter f := by
  obtain ⟨k, rfl⟩ : ∃ k, b = a + k := ⟨b - a, by omega⟩
  clear hab
  induction k with
  | zero => rfl
  | succ k ih =>
    rw [← Nat.add_assoc, List.range_succ, List.filter_append, ih (fun q h1 h2 => h q h1 (by omega))]
    simp [h (a + k) (by omega) (by omega)]
theorem filt_take (f : Nat → Bool) {p : Nat} (h : f p = true) : (List.range (p + 1)).filter f = (List.range p).filter f ++ [p] := by
  rw [List.range_succ, List.filter_append]; simp [h]
theorem filt_drop (f : Nat → Bool) {p : Nat} (h : f p = false) : (List.range (p + 1)).filter f = (List.range p).filter f := by
  rw [List.range_succ, List.filter_append]; simp [h]
/-- the state of the factoring: m is left of n, p the last prime, d the bound below which all is done -/
structure FR (n m p d : Nat) (L : List (Nat × Nat)) : Prop where
  m1 : 1 ≤ m
  mn : m ≤ n
  p2 : 2 ≤ p
  po : p = 2 ∨ p % 2 = 1
  pd : p ≤ d
  dp : d ≤ p + 1
  pn : p ≤ n + 1
  fr : Free m d
  ls : L.map Prod.fst = PL n d
  dv : m ∣ n
  all : ∀ q, Pr q → d ≤ q → q ∣ n → q ∣ m
  dn : d ≤ n + 1 ∨ d = 2
theorem FR.start {n : Nat} (h : 1 ≤ n) : FR n n 2 2 [] := by
  refine ⟨h, Nat.le_refl _, Nat.le_refl _, .inl rfl, Nat.le_refl _, by omega, by omega, Free.two n, ?_, Nat.dvd_refl _, fun q _ _ h => h, .inr rfl⟩
  have : PL n 2 = PL n 0 := filt_skip _ (by omega) fun q h1 h2 => by
    rw [Bool.eq_false_iff]; intro h3; have := (prd_iff.1 h3).1.1; omega
  rw [this]; rfl
theorem Free.le {n d e : Nat} (h : Free n d) (he : e ≤ d) : Free n e := fun k h1 h2 => h k h1 (by omega)
theorem FR.ld {n m p d : Nat} {L : List (Nat × Nat)} (h : FR n m p d L) (hn : n ≤ 1000000000) : LdRel m p := ⟨h.p2, h.po, Free.le h.fr h.pd, by have := h.pn; omega⟩
theorem FR.next {n m p d r k s : Nat} {L : List (Nat × Nat)} (h : FR n m p d L) (hr : 2 ≤ r) (hrm : r ∣ m) (hf : Free m r) (hs : m = s * r ^ k) (hnd : ¬ r ∣ s) (hs1 : 1 ≤ s) : FR n s r (r + 1) (L ++ [(r, k)]) ∧ s < m := by
  have hm1 := h.m1
  have hrl : r ≤ m := Nat.le_of_dvd (by omega) hrm
  have pr : Pr r := Free.pr hr fun e h1 h2 h3 => hf e h1 h2 (Nat.dvd_trans h3 hrm)
  have hdr : d ≤ r := by
    apply Nat.le_of_not_lt; intro h1; exact h.fr r hr h1 hrm
  have hk : k ≠ 0 := by rintro rfl; rw [Nat.pow_zero, Nat.mul_one] at hs; rw [hs] at hrm; exact hnd hrm
  have hsm : s ∣ m := ⟨r ^ k, hs⟩
  have hlt : s < m := by
    have h2 : s * 2 ≤ s * r ^ k := Nat.mul_le_mul_left _ (Nat.le_trans hr (by have := Nat.pow_le_pow_right (n := r) (by omega) (show 1 ≤ k by omega); rwa [Nat.pow_one] at this))
    omega
  refine ⟨⟨hs1, by have := h.mn; omega, hr, ?_, by omega, by omega, by have := h.mn; omega, ?_, ?_, Nat.dvd_trans hsm h.dv, ?_, .inl (by have := h.mn; omega)⟩, hlt⟩
  · rcases Nat.mod_two_eq_zero_or_one r with e | e
    · rcases pr.2 2 (Nat.dvd_of_mod_eq_zero e) with e2 | e2 <;> omega
    · exact .inr e
  · intro e h1 h2 h3
    by_cases he : e = r
    · exact hnd (he ▸ h3)
    · exact hf e h1 (by omega) (Nat.dvd_trans h3 hsm)
  · rw [List.map_append, h.ls]
    show PL n d ++ [r] = PL n (r + 1)
    unfold PL
    rw [filt_take _ (prd_iff.2 ⟨pr, Nat.dvd_trans hrm h.dv⟩), filt_skip _ hdr fun q h1 h2 => by
      rw [Bool.eq_false_iff]; intro h3
      obtain ⟨h4, h5⟩ := prd_iff.1 h3
      exact hf q h4.1 h2 (h.all q h4 h1 h5)]
  · intro q h1 h2 h3
    have h4 := h.all q h1 (by omega) h3
    rw [hs] at h4
    rcases h1.dvd_mul h4 with h5 | h5
    · exact h5
    · exfalso
      have : ∀ j, q ∣ r ^ j → q ∣ r := by
        intro j
        induction j with
        | zero => intro h6; rw [Nat.pow_zero] at h6; have := Nat.le_of_dvd (by omega) h6; have := h1.1; omega
        | succ j ih =>
          intro h6
          rw [Nat.pow_succ] at h6
          rcases h1.dvd_mul h6 with h7 | h7
          · exact ih h7
          · exact h7
      rcases pr.2 q (this k h5) with h6 | h6
      · have := h1.1; omega
      · omega
theorem FR.len {n m p d : Nat} {L : List (Nat × Nat)} (h : FR n m p d L) : L.length ≤ n + 2 := by
  have h1 : L.length = (PL n d).length := by rw [← h.ls, List.length_map]
  have h2 : (PL n d).length ≤ d := by
    unfold PL
    have := List.length_filter_le (prd n) (List.range d)
    rwa [List.length_range] at this
  have := h.dp; have := h.pn; omega
theorem FR.stop {n p d : Nat} {L : List (Nat × Nat)} (h : FR n 1 p d L) (hn : 1 ≤ n) : L.map Prod.fst = PL n (n + 1) := by
  have h0 : ∀ q, d ≤ q → prd n q = false := fun q h1 => by
    rw [Bool.eq_false_iff]; intro h3
    obtain ⟨h4, h5⟩ := prd_iff.1 h3
    have := Nat.le_of_dvd (by omega) (h.all q h4 h1 h5); have := h4.1; omega
  rw [h.ls]
  rcases h.dn with h1 | h1
  · unfold PL; rw [filt_skip _ h1 fun q h2 _ => h0 q h2]
  · subst h1
    unfold PL; rw [filt_skip _ (show 2 ≤ n + 1 by omega) fun q h2 _ => h0 q h2]
/-- the symbol and its error -/
noncomputable def hv (a b p : Int) : Int × Int := Classical.epsilon fun x : Int × Int => HilRes a b p x.1 x.2
theorem hv_of {a b p x l : Int} (h : HilRes a b p x l) : x = (hv a b p).1 ∧ l = (hv a b p).2 :=
  h.unique (Classical.epsilon_spec (p := fun x : Int × Int => HilRes a b p x.1 x.2) ⟨(x, l), h⟩)
theorem hil_v {a b p : Int} {e : Ending} (h : HilEnd a b p e) : e = .returned (.tuple #[.int .i64 (hv a b p).1, .int .i64 (hv a b p).2]) := by
  obtain ⟨x, l, rfl, h1⟩ := h
  obtain ⟨e1, e2⟩ := hv_of h1
  rw [← e1, ← e2]
noncomputable def ramB (A B : Int) (q : Nat) : Bool := @decide (Pr q ∧ (q = 2 ∨ q ∣ A.natAbs ∨ q ∣ B.natAbs) ∧ (hv A B q).1 = -1) (Classical.propDecidable _)
theorem ramB_iff {A B : Int} {q : Nat} : ramB A B q = true ↔ Pr q ∧ (q = 2 ∨ q ∣ A.natAbs ∨ q ∣ B.natAbs) ∧ (hv A B q).1 = -1 := by unfold ramB; exact @decide_eq_true_iff _ (Classical.propDecidable _)
/-- the ramified primes below n -/
noncomputable def RL (A B : Int) (n : Nat) : List Nat := (List.range n).filter (ramB A B)
theorem RL_of (A B : Int) (n : Nat) : (PL (2 * A * B).natAbs n).filter (fun q : Nat => (hv A B q).1 == -1) = RL A B n := by
  unfold PL RL
  rw [List.filter_filter]
  congr 1
  funext q
  rw [Bool.eq_iff_iff, Bool.and_eq_true, beq_iff_eq, prd_iff, ramB_iff]
  constructor
  · rintro ⟨h1, h2, h3⟩
    refine ⟨h2, ?_, h1⟩
    rw [Int.natAbs_mul, Int.natAbs_mul] at h3
    rcases h2.dvd_mul h3 with h4 | h4
    · rcases h2.dvd_mul h4 with h5 | h5
      · have := Nat.le_of_dvd (by omega) h5; have := h2.1; exact .inl (by omega)
      · exact .inr (.inl h5)
    · exact .inr (.inr h4)
  · rintro ⟨h1, h2, h3⟩
    refine ⟨h3, h1, ?_⟩
    rw [Int.natAbs_mul, Int.natAbs_mul]
    rcases h2 with rfl | h2 | h2
    · exact Nat.dvd_trans (Nat.dvd_mul_right _ _) (Nat.dvd_mul_right _ _)
    · exact Nat.dvd_trans (Nat.dvd_trans h2 (Nat.dvd_mul_left _ _)) (Nat.dvd_mul_right _ _)
    · exact Nat.dvd_trans h2 (Nat.dvd_mul_left _ _)
theorem RL_far {A B : Int} (hA : A ≠ 0) (hB : B ≠ 0) (h1 : A.natAbs ≤ 1000) (h2 : B.natAbs ≤ 1000) {n : Nat} (hn : 1001 ≤ n) : RL A B n = RL A B 1001 := by
  unfold RL
  refine filt_skip _ hn fun q h3 _ => ?_
  rw [Bool.eq_false_iff]; intro h4
  obtain ⟨h5, h6 | h6 | h6, -⟩ := ramB_iff.1 h4
  · omega
  · have := Nat.le_of_dvd (by omega) h6; omega
  · have := Nat.le_of_dvd (by omega) h6; omega
/-- what the factoring gives, whatever lies beyond the bound -/
theorem PL_far {n N : Nat} (hn : 1 ≤ n) (hN : n + 1 ≤ N) : PL n N = PL n (n + 1) := by
  unfold PL
  refine filt_skip _ hN fun q h3 _ => ?_
  rw [Bool.eq_false_iff]; intro h4
  have := Nat.le_of_dvd (by omega) (prd_iff.1 h4).2; omega
end Go.Proofs.Ytcbdnnboddahkaa.Rm
namespace Go.Proofs.Ytcbdnnboddahkaa.Pf
open Nt (Pr leg sg Sgn)
open Rm (PL prd prd_iff)
set_option linter.unusedVariables false
theorem prod_dvd : ∀ (l : List Nat) (N : Nat), (∀ q ∈ l, Pr q ∧ q ∣ N) → l.Nodup → l.prod ∣ N
  | [], N, _, _ => by simp
  | q :: l, N, h, hn => by
    obtain ⟨pq, M, rfl⟩ := h q (by simp)
    have hn' := List.nodup_cons.1 hn
    rw [List.prod_cons]
    refine Nat.mul_dvd_mul_left q (prod_dvd l M (fun r hr => ?_) hn'.2)
    obtain ⟨pr, hd⟩ := h r (by simp [hr])
    refine ⟨pr, ?_⟩
    rcases pr.dvd_mul hd with h1 | h1
    · rcases pq.2 r h1 with h2 | h2
      · have := pr.1; omega
      · subst h2; exact absurd hr hn'.1
    · exact h1
/-- the list of places behind the primes of L -/
def Pls (a b : Int) (L pl : List Nat) : Prop := ∃ R, pl = 0 :: 2 :: R ∧ Od R ∧ (∀ q ∈ R, q ∣ a.natAbs ∨ q ∣ b.natAbs) ∧ ∀ q ∈ L, q = 2 ∨ q ∈ R
theorem Pls.start (a b : Int) : Pls a b [] [0, 2] := ⟨[], rfl, ⟨List.nodup_nil, by simp⟩, by simp, by simp⟩
theorem Pls.skip {a b : Int} {L pl : List Nat} {q : Nat} (h : Pls a b L pl) (hq : q ∈ pl) (hp : Pr q) : Pls a b (L ++ [q]) pl := by
  obtain ⟨R, rfl, h1, h2, h3⟩ := h
  refine ⟨R, rfl, h1, h2, fun r hr => ?_⟩
  rcases List.mem_append.1 hr with hr | hr
  · exact h3 r hr
  · simp only [List.mem_cons, List.not_mem_nil, or_false] at hr
    subst hr
    simp only [List.mem_cons] at hq
    rcases hq with e | e | e
    · have := hp.1; omega
    · exact .inl e
    · exact .inr e
theorem Pls.take {a b : Int} {L pl : List Nat} {q : Nat} (h : Pls a b L pl) (hq : ¬ q ∈ pl) (hp : Pr q) (hd : q ∣ a.natAbs ∨ q ∣ b.natAbs) : Pls a b (L ++ [q]) (pl ++ [q]) := by
  obtain ⟨R, rfl, h1, h2, h3⟩ := h
  simp only [List.mem_cons, not_or] at hq
  refine ⟨R ++ [q], rfl, ⟨?_, fun p hp' => ?_⟩, fun p hp' => ?_, fun r hr => ?_⟩
  · refine List.nodup_append.2 ⟨h1.nd, by simp, fun x hx y hy e => ?_⟩
    simp only [List.mem_cons, List.not_mem_nil, or_false] at hy
    exact hq.2.2 (by rw [← hy, ← e]; exact hx)
  · rcases List.mem_append.1 hp' with hp' | hp'
    · exact h1.pr p hp'
    · simp only [List.mem_cons, List.not_mem_nil, or_false] at hp'
      subst hp'; exact ⟨hp, pr_odd hp hq.2.1⟩
  · rcases List.mem_append.1 hp' with hp' | hp'
    · exact h2 p hp'
    · simp only [List.mem_cons, List.not_mem_nil, or_false] at hp'
      subst hp'; exact hd
  · rcases List.mem_append.1 hr with hr | hr
    · rcases h3 r hr with e | e
      · exact .inl e
      · exact .inr (List.mem_append_left _ e)
    · exact .inr (List.mem_append_right _ hr)
theorem Pls.done {a b : Int} {pl : List Nat} (ha : a ≠ 0) (hb : b ≠ 0) (h : Pls a b (PL a.natAbs (a.natAbs + 1) ++ PL b.natAbs (b.natAbs + 1)) pl) : P a b pl = 1 := by
  obtain ⟨R, rfl, h1, h2, h3⟩ := h
  have mem : ∀ {c : Int} {p : Nat}, c ≠ 0 → Pr p → (p : Int) ∣ c → p ∈ PL c.natAbs (c.natAbs + 1) := by
    intro c p hc hp hd
    have hd' : p ∣ c.natAbs := Int.ofNat_dvd_left.1 hd
    have := Nat.le_of_dvd (by omega) hd'
    unfold PL
    exact List.mem_filter.2 ⟨List.mem_range.2 (by omega), prd_iff.2 ⟨hp, hd'⟩⟩
  exact product h1 ha hb (fun p hp hd => h3 p (List.mem_append_left _ (mem ha hp hd))) (fun p hp hd => h3 p (List.mem_append_right _ (mem hb hp hd)))
theorem Pls.at_ {a b : Int} {L pl : List Nat} (h : Pls a b L pl) (ha : a ≠ 0) (hb : b ≠ 0) {p : Nat} (hp : p ∈ pl) : Pla p ∧ (0 < p → p ∣ (2 * a * b).natAbs) ∧ p ≤ a.natAbs + b.natAbs + 2 := by
  obtain ⟨R, rfl, h1, h2, h3⟩ := h
  simp only [List.mem_cons] at hp
  rw [Int.natAbs_mul, Int.natAbs_mul]
  rcases hp with rfl | rfl | hp
  · exact ⟨.inl rfl, fun h => by omega, by omega⟩
  · exact ⟨.inr pr_two, fun _ => Nat.dvd_trans (Nat.dvd_mul_right _ _) (Nat.dvd_mul_right _ _), by omega⟩
  · refine ⟨.inr (h1.pr p hp).1, fun _ => ?_, ?_⟩
    · rcases h2 p hp with e | e
      · exact Nat.dvd_trans (Nat.dvd_trans e (Nat.dvd_mul_left _ _)) (Nat.dvd_mul_right _ _)
      · exact Nat.dvd_trans e (Nat.dvd_mul_left _ _)
    · rcases h2 p hp with e | e
      · have := Nat.le_of_dvd (by omega) e; omega
      · have := Nat.le_of_dvd (by omega) e; omega
theorem P_take {a b : Int} {pl : List Nat} {i p : Nat} (h : pl[i]? = some p) : P a b (pl.take (i + 1)) = P a b (pl.take i) * hs a b p := by
  have e : pl.take (i + 1) = pl.take i ++ [p] := by rw [List.take_add_one, h]; rfl
  rw [e]
  clear e h
  generalize pl.take i = l
  induction l with
  | nil => show hs a b p * 1 = 1 * hs a b p; rw [Int.mul_one, Int.one_mul]
  | cons x l ih => show hs a b x * P a b (l ++ [p]) = hs a b x * P a b l * hs a b p; rw [ih, Int.mul_assoc]
theorem P_pm {a b : Int} (ha : a ≠ 0) (hb : b ≠ 0) : ∀ {l : List Nat}, Plas l → P a b l = 1 ∨ P a b l = -1
  | [], _ => .inl rfl
  | p :: l, h => by
    have h1 := hs_pm h.head ha hb
    have h2 := P_pm ha hb h.tail
    show hs a b p * P a b l = 1 ∨ hs a b p * P a b l = -1
    rcases h1 with e | e <;> rcases h2 with e' | e' <;> rw [e, e'] <;> simp
theorem PL_len {n : Nat} (h1 : 1 ≤ n) (h2 : n ≤ 20000) : (PL n (n + 1)).length ≤ 14 := by
  have hd : (PL n (n + 1)).prod ∣ n := prod_dvd _ _ (fun q hq => prd_iff.1 (List.mem_filter.1 hq).2) (List.Pairwise.filter _ List.nodup_range)
  have hl := Nat.le_of_dvd (by omega) hd
  have hp : ∀ l : List Nat, (∀ q ∈ l, 2 ≤ q) → 2 ^ l.length ≤ l.prod := by
    intro l
    induction l with
    | nil => intro _; simp
    | cons q l ih =>
      intro h
      rw [List.length_cons, List.prod_cons, Nat.pow_succ, Nat.mul_comm]
      exact Nat.mul_le_mul (h q (by simp)) (ih fun r hr => h r (by simp [hr]))
  have h3 := hp (PL n (n + 1)) (fun q hq => (prd_iff.1 (List.mem_filter.1 hq).2).1.1)
  apply Classical.byContradiction
  intro hn
  have : 2 ^ 15 ≤ 2 ^ (PL n (n + 1)).length := Nat.pow_le_pow_right (by omega) (by omega)
  have e : 2 ^ 15 = 32768 := by decide
  omega
theorem PL_at {n d i q : Nat} (h : (PL n d)[i]? = some q) : Pr q ∧ q ∣ n := prd_iff.1 (List.mem_filter.1 (List.mem_of_getElem? h)).2
theorem square_of {r v : Int} (h : r * r = v) (hv : 0 < v) : r ≠ 0 := by rintro rfl; simp at h; omega
/-- what is asked of one place -/
theorem place {a b c u v r val : Int} {p : Nat} (hp : Pla p) (ha : a ≠ 0) (hb : b ≠ 0) (hc : c ≠ 0) : hs a b p * hs a b p = 1 ∧ hs a (b * c) p = hs a b p * hs a c p := ⟨hs_sq hp ha hb, hs_mul hp ha hb hc⟩
end Go.Proofs.Ytcbdnnboddahkaa.Pf
namespace Go.Proofs.Ytcbdnnboddahkaa.Rm
open Go.RowKit
open Nt (Pr)
set_option linter.unusedVariables false
set_option linter.unusedSimpArgs false
set_option maxRecDepth 100000
def flat : List (Nat × Nat) → List Value
  | [] => []
  | q :: l => .int .i64 q.1 :: .int .i64 q.2 :: flat l
theorem flat_app : ∀ l m : List (Nat × Nat), flat (l ++ m) = flat l ++ flat m
  | [], m => rfl
  | q :: l, m => by simp only [List.cons_append, flat]; rw [flat_app l m]
theorem flat_len : ∀ l : List (Nat × Nat), (flat l).length = l.length * 2
  | [] => rfl
  | q :: l => by simp only [flat, List.length_cons]; rw [flat_len l]; omega
theorem flat_get : ∀ (l : List (Nat × Nat)) (i : Nat) (q : Nat × Nat), l[i]? = some q → (flat l)[i * 2]? = some (.int .i64 q.1) ∧ (flat l)[i * 2 + 1]? = some (.int .i64 q.2)
  | [], i, q, h => by simp at h
  | r :: l, 0, q, h => by simp at h; subst h; exact ⟨rfl, rfl⟩
  | r :: l, i + 1, q, h => by
    have := flat_get l i q (by simpa using h)
    have e1 : (i + 1) * 2 = i * 2 + 2 := by omega
    rw [e1]; exact this
theorem infoPw : (Try.prog.info? 80).map (fun i => (i.zero, i.size, i.bytes)) = some (some (.agg #[.int .i64 0, .int .i64 0]), 2, 16) := by kernel_rfl
theorem two_new (w : World) (u v : Value) (T : TypeId) (n : Nat) (hn : n = w.heap.size) : ∀ (j : Nat) (x : Value), [u, v][j]? = some x → (w.alloc (.cells #[u, v] T)).cell? ((⟨n, 0, none⟩ : Addr).add j) = some x := by
  subst hn
  intro j x hj
  match j with
  | 0 => simp at hj; subst hj; simp [go_sem]
  | 1 => simp at hj; subst hj; simp [go_sem]
  | j + 2 => simp at hj
def FcEnd (n : Nat) (w : World) (e : Ending) (w' : World) : Prop := ∃ (v : Value) (L : List (Nat × Nat)), e = .returned v ∧ L.map Prod.fst = PL n (n + 1) ∧ L.length ≤ n + 2 ∧ w'.ownsRow w.heap.size 80 2 v L.length (flat L) ∧ Below w.heap.size w w'
set_option maxHeartbeats 4000000 in
theorem factor_any (n : Nat) (w : World) (h1 : 1 ≤ n) (h2 : n ≤ 1000000000) :
    Calls Try.prog 136 #[.int .i64 n] w fun e w' => FcEnd n w e w' := by
  obtain ⟨i0, hi, hz0, hz1, hz2⟩ := info_parts infoPw
  go_enter Try.func136, Try.ntmps136
  go_wp2_with fail
  go_loopw [0, 3, 4] (fun t0 t3 t4 wr => ∃ (m p d : Nat) (L : List (Nat × Nat)), (FR n m p d L ∧ wr.ownsRow w.heap.size 80 2 t3 L.length (flat L) ∧ Below w.heap.size w wr) ∧ t0 = .int .i64 m ∧ t4 = .int .i64 p) (fun t0 _ _ _ => (intOf t0).toNat)
  case atStart => exact ⟨n, 2, 2, [], ⟨FR.start h1, World.ownsRow_nil _ _ _ _, Below.refl _ _⟩, rfl, rfl⟩
  case round =>
    obtain ⟨m, p, d, L, ⟨hrel, hown, hbel⟩, rfl, rfl⟩ := hrel
    obtain ⟨wo, rfl⟩ : ∃ wo : World, wo = wr := ⟨_, rfl⟩
    have hlen := hrel.len
    have m1 := hrel.m1
    have mn := hrel.mn
    have HR := Lib.hid hrel
    have HO := Lib.hid hown
    have HB := Lib.hid hbel
    clear hrel hown hbel
    by_cases hm : 1 < m
    · have ht : decide ((1 : Int) < (m : Int)) = true := decide_eq_true (by omega)
      have LD := Lib.hid (fun W => ld_any m p W (by omega) (by omega) (HR.out.ld h2))
      go_wp2_with fail
      refine (LD.out _).mono ?_
      rintro e w2 ⟨⟨r, rfl, hr2, hrm, hf⟩, rfl⟩
      have hrl : r ≤ m := Nat.le_of_dvd (by omega) hrm
      have ST := Lib.hid (fun W => strip_any m r W (by omega) (by omega) (by omega) (by omega) (by omega))
      have HF := Lib.hid hf
      have HD := Lib.hid hrm
      clear hf hrm
      go_wp2_with fail
      refine (ST.out _).mono ?_
      rintro e w3 ⟨⟨s, k, rfl, hst, hnd⟩, rfl⟩
      have hs1 : 0 < s := hst.2.2.2.1 (by omega)
      obtain ⟨s', rfl⟩ : ∃ s' : Nat, s = s' := ⟨s.toNat, by omega⟩
      have hms : m = s' * r ^ k := by have := hst.1; exact_mod_cast this
      have hnd' : ¬ r ∣ s' := fun h => hnd (Int.natCast_dvd_natCast.2 h)
      have NX := Lib.hid (HR.out.next hr2 HD.out HF.out hms hnd' (by omega))
      clear hst hnd hnd' hms
      go_wp2_with (at_builtin; refine wpList_append_own _ rfl _ _ 75 rfl w.heap.size 80 i0 (.agg #[.int .i64 0, .int .i64 0]) 2 16 Try.underlying75 hi hz0 hz1 hz2 rfl (by decide) _ _ _ rfl (HO.out.alloc _) ⟨wo.heap.size, 0, none⟩ 1 1 [.int .i64 r, .int .i64 k] rfl rfl (two_new _ _ _ _ _ rfl) (by intro u hu; simp at hu; rcases hu with rfl | rfl <;> rfl) (by unfold maxLen; omega) (by omega) (by have := HB.out.size; simp; omega) ?_)
      intro v2 wn hown2 hgrow2 _
      have hbel2 : Below w.heap.size w wn := (HB.out.alloc HB.out.size _).grown hgrow2 (by have := HB.out.size; simp; omega) (fun j hj => (HO.out.lt j hj).1)
      have hown3 : wn.ownsRow w.heap.size 80 2 v2 (L ++ [(r, k)]).length (flat (L ++ [(r, k)])) := by rw [flat_app, List.length_append]; exact hown2
      have H3 := Lib.hid hown3
      have HB2 := Lib.hid hbel2
      have hlt := NX.out.2
      clear hown2 hgrow2 hbel2 hown3
      go_wp2
      go_roundw
      case rel => exact ⟨s', r, r + 1, L ++ [(r, k)], ⟨NX.out.1, H3.out, HB2.out⟩, rfl, rfl⟩
      case measure => simp [intOf]; omega
    · have ht : decide ((1 : Int) < (m : Int)) = false := decide_eq_false (by omega)
      have hm1 : m = 1 := by omega
      have HM := Lib.hid hm1
      clear hm1
      go_wp2
      go_ret
      exact ⟨_, L, rfl, FR.stop (HM.out ▸ HR.out) h1, hlen, HO.out, HB.out⟩
theorem isModulus_yes (n : Nat) (w : World) (h1 : 1 ≤ n) (h2 : n ≤ 1000000000) : Calls Try.prog 118 #[.int .i64 n] w fun e w' => e = .returned (.bool true) ∧ w = w' := by
  have e1 : decide ((1 : Int) ≤ (n : Int)) = true := decide_eq_true (by omega)
  have e2 : decide ((n : Int) ≤ 1000000000) = true := decide_eq_true (by omega)
  go_enter Try.func118, Try.ntmps118
  go_wp2
  go_ret
  exact ⟨rfl, rfl⟩
def FtEnd (n : Nat) (w : World) (e : Ending) (w' : World) : Prop := ∃ (v : Value) (L : List (Nat × Nat)), e = .returned (.tuple #[v, .int .i64 0]) ∧ L.map Prod.fst = PL n (n + 1) ∧ L.length ≤ n + 2 ∧ w'.ownsRow w.heap.size 80 2 v L.length (flat L) ∧ Below w.heap.size w w'
set_option maxHeartbeats 1000000 in
theorem Factor_any (n : Nat) (w : World) (h1 : 1 ≤ n) (h2 : n ≤ 1000000000) :
    Calls Try.prog 66 #[.int .i64 n] w fun e w' => FtEnd n w e w' := by
  have MO := Lib.hid (fun W => isModulus_yes n W h1 h2)
  have FC := Lib.hid (fun W => factor_any n W h1 h2)
  go_enter Try.func66, Try.ntmps66
  go_wp2_with fail
  refine (MO.out _).mono ?_
  rintro e w1 ⟨rfl, rfl⟩
  go_wp2_with fail
  refine (FC.out _).mono ?_
  rintro e w2 ⟨v, L, rfl, h3, h4, hown, hbel⟩
  have H3 := Lib.hid h3
  have HO := Lib.hid hown
  have HB := Lib.hid hbel
  clear h3 hown hbel
  go_wp2
  go_ret2
  exact ⟨_, L, rfl, H3.out, h4, HO.out, HB.out⟩
end Go.Proofs.Ytcbdnnboddahkaa.Rm
namespace Go.Proofs.Ytcbdnnboddahkaa.Pf
open Go.RowKit
open Nt (Pr)
open Rm (flat flat_app flat_len flat_get PL FtEnd Factor_any)
set_option linter.unusedVariables false
set_option linter.unusedSimpArgs false
set_option maxRecDepth 100000
def LP (B : Nat) (w : World) (A : Option Addr) (c : Nat) (L : List (Nat × Nat)) : Prop := w.ownsRow B 80 2 (.slice A L.length c) L.length (flat L)
theorem LP.of {B : Nat} {w : World} {v : Value} {L : List (Nat × Nat)} (h : w.ownsRow B 80 2 v L.length (flat L)) : ∃ A c, v = .slice A L.length c ∧ LP B w A c L ∧ c ≤ 9223372036854775807 ∧ L.length ≤ c := by
  have h' := h
  rcases h.2 with ⟨rfl, h0⟩ | ⟨g, cap, cur, rfl, hb, hg, h1, h2, h3, h4⟩
  · exact ⟨none, 0, by rw [h0], by unfold LP; rw [h0]; rw [h0] at h'; exact h', by omega, by omega⟩
  · exact ⟨_, cap, rfl, h', by unfold maxLen at h2; omega, h1⟩
theorem LP.at_ {B : Nat} {w : World} {A : Option Addr} {c : Nat} {L : List (Nat × Nat)} (h : LP B w A c L) {j : Nat} {q : Nat × Nat} (hj : L[j]? = some q) : ∃ b, A = some ⟨b, 0, none⟩ ∧ w.cell? ⟨b, j * 2, none⟩ = some (.int .i64 q.1) ∧ w.cell? ⟨b, j * 2 + 1, none⟩ = some (.int .i64 q.2) ∧ B ≤ b ∧ b < w.heap.size := by
  have hjl : j < L.length := (List.getElem?_eq_some_iff.1 hj).1
  rcases h.2 with ⟨h0, h1⟩ | ⟨g, cap, cur, hv, hb, hg, h1, h2, h3, h4⟩
  · omega
  · injection hv with e1 e2 e3
    subst e1 e3
    obtain ⟨f0, f1⟩ := flat_get L j q hj
    refine ⟨g, rfl, ?_, ?_, hb, (Array.getElem?_eq_some_iff.1 hg).1⟩
    · rw [World.ownsRow.cellAt h (j * 2) (by omega)]; exact f0
    · rw [World.ownsRow.cellAt h (j * 2 + 1) (by omega)]; exact f1
theorem LP.below {B B' : Nat} {w w' : World} {A : Option Addr} {c : Nat} {L : List (Nat × Nat)} (h : LP B w A c L) (hb : Below B' w w') (hB : ∀ a, A = some a → a.block < B') : LP B w' A c L := by
  refine ⟨h.1, ?_⟩
  rcases h.2 with ⟨h0, h1⟩ | ⟨g, cap, cur, hv, h5, hg, h1, h2, h3, h4⟩
  · exact .inl ⟨h0, h1⟩
  · injection hv with e1 e2 e3
    subst e1 e3
    exact .inr ⟨g, c, cur, rfl, h5, (hb.block g (hB _ rfl)).trans hg, h1, h2, h3, h4⟩
theorem LP.lt {B : Nat} {w : World} {A : Option Addr} {c : Nat} {L : List (Nat × Nat)} (h : LP B w A c L) : ∀ a, A = some a → a.block < w.heap.size := by
  intro a ha
  subst ha
  rcases h.2 with ⟨h0, h1⟩ | ⟨g, cap, cur, hv, h5, hg, h1, h2, h3, h4⟩
  · cases h0
  · injection hv with e1 e2 e3
    injection e1 with e1
    subst e1
    exact (Array.getElem?_eq_some_iff.1 hg).1
def nvs (l : List Nat) : List Value := l.map fun q : Nat => .int .i64 q
theorem infoI : (Try.prog.info? 3).map (fun i => (i.zero, i.size, i.bytes)) = some (some (.int .i64 0), 1, 8) := by kernel_rfl
def LN (B : Nat) (w : World) (A : Option Addr) (c : Nat) (l : List Nat) : Prop := w.ownsRow B 3 1 (.slice A l.length c) l.length (nvs l)
theorem LN.of {B : Nat} {w : World} {v : Value} {l : List Nat} (h : w.ownsRow B 3 1 v l.length (nvs l)) : ∃ A c, v = .slice A l.length c ∧ LN B w A c l ∧ c ≤ 9223372036854775807 ∧ l.length ≤ c := by
  have h' := h
  rcases h.2 with ⟨rfl, h0⟩ | ⟨g, cap, cur, rfl, hb, hg, h1, h2, h3, h4⟩
  · exact ⟨none, 0, by rw [h0], by unfold LN; rw [h0]; rw [h0] at h'; exact h', by omega, by omega⟩
  · exact ⟨_, cap, rfl, h', by unfold maxLen at h2; omega, h1⟩
theorem LN.at_ {B : Nat} {w : World} {A : Option Addr} {c : Nat} {l : List Nat} (h : LN B w A c l) {j : Nat} {q : Nat} (hj : l[j]? = some q) : ∃ b, A = some ⟨b, 0, none⟩ ∧ w.cell? ⟨b, j, none⟩ = some (.int .i64 q) ∧ B ≤ b ∧ b < w.heap.size := by
  have hjl : j < l.length := (List.getElem?_eq_some_iff.1 hj).1
  rcases h.2 with ⟨h0, h1⟩ | ⟨g, cap, cur, hv, hb, hg, h1, h2, h3, h4⟩
  · omega
  · injection hv with e1 e2 e3
    subst e1 e3
    refine ⟨g, rfl, ?_, hb, (Array.getElem?_eq_some_iff.1 hg).1⟩
    rw [World.ownsRow.cellAt h j (by omega)]
    unfold nvs
    rw [List.getElem?_map, hj]; rfl
theorem LN.below {B B' : Nat} {w w' : World} {A : Option Addr} {c : Nat} {l : List Nat} (h : LN B w A c l) (hb : Below B' w w') (hB : ∀ a, A = some a → a.block < B') : LN B w' A c l := by
  refine ⟨h.1, ?_⟩
  rcases h.2 with ⟨h0, h1⟩ | ⟨g, cap, cur, hv, h5, hg, h1, h2, h3, h4⟩
  · exact .inl ⟨h0, h1⟩
  · injection hv with e1 e2 e3
    subst e1 e3
    exact .inr ⟨g, c, cur, rfl, h5, (hb.block g (hB _ rfl)).trans hg, h1, h2, h3, h4⟩
theorem LN.lt {B : Nat} {w : World} {A : Option Addr} {c : Nat} {l : List Nat} (h : LN B w A c l) : ∀ a, A = some a → a.block < w.heap.size := by
  intro a ha
  subst ha
  rcases h.2 with ⟨h0, h1⟩ | ⟨g, cap, cur, hv, h5, hg, h1, h2, h3, h4⟩
  · cases h0
  · injection hv with e1 e2 e3
    injection e1 with e1
    subst e1
    exact (Array.getElem?_eq_some_iff.1 hg).1
theorem nvs_app (l m : List Nat) : nvs (l ++ m) = nvs l ++ nvs m := by unfold nvs; rw [List.map_append]
theorem nvs_len (l : List Nat) : (nvs l).length = l.length := by unfold nvs; rw [List.length_map]
/-- whether a list holds a number -/
theorem has_any (l : List Nat) (q : Nat) (B : Nat) (A : Option Addr) (c : Nat) (w : World) (h : LN B w A c l) (hl : l.length ≤ 1000) (hc : l.length ≤ c) (hm : c ≤ 9223372036854775807) :
    Calls Try.prog 67 #[.slice A l.length c, .int .i64 q] w fun e w' => e = .returned (.bool (decide (q ∈ l))) ∧ w = w' := by
  have H1 := Lib.hid h
  clear h
  go_enter Try.func67, Try.ntmps67
  go_wp2_with fail
  go_loopw [5] (fun t5 wr => ∃ k : Nat, (k ≤ l.length ∧ (∀ j, j < k → l[j]? ≠ some q) ∧ w = wr) ∧ t5 = .int .i64 k) (fun t5 _ => l.length - (intOf t5).toNat)
  case atStart => exact ⟨0, ⟨Nat.zero_le _, fun j hj => by omega, rfl⟩, rfl⟩
  case round =>
    obtain ⟨k, ⟨hkl, hno, rfl⟩, rfl⟩ := hrel
    have HN := Lib.hid hno
    clear hno
    by_cases hlt : k < l.length
    · have hq : l[k]? = some l[k] := List.getElem?_eq_getElem hlt
      obtain ⟨b, rfl, g0, -, -⟩ := LN.at_ H1.out hq
      have HQ := Lib.hid hq
      obtain ⟨r, hr⟩ : ∃ r, l[k] = r := ⟨_, rfl⟩
      rw [hr] at g0 HQ
      clear hq hr
      by_cases hrq : r = q
      · have ht : ((r : Int) == (q : Int)) = true := by rw [hrq]; exact beq_self_eq_true _
        have HM : Hid (decide (q ∈ l) = true) := Lib.hid (decide_eq_true (List.mem_of_getElem? (hrq ▸ HQ.out)))
        clear hrq
        go_wp2
        go_ret
        exact ⟨by rw [HM.out]; rfl, rfl⟩
      · have ht : ((r : Int) == (q : Int)) = false := by rw [beq_eq_false_iff_ne]; omega
        have HR := Lib.hid hrq
        clear hrq
        go_wp2
        go_roundw
        case rel => exact ⟨k + 1, ⟨by omega, fun j hj => by
          by_cases e : j = k
          · rw [e, HQ.out]; intro h; exact HR.out (Option.some.inj h)
          · exact HN.out j (by omega), by first | trivial | rfl⟩, by go_num⟩
        case measure => simp [intOf]; omega
    · have HM : Hid (decide (q ∈ l) = false) := Lib.hid (decide_eq_false fun hm => by
        obtain ⟨j, hj⟩ := List.getElem?_of_mem hm
        have := (List.getElem?_eq_some_iff.1 hj).1
        exact HN.out j (by omega) hj)
      go_wp2
      go_ret
      exact ⟨by rw [HM.out]; rfl, rfl⟩
theorem hil_hs {a b : Int} {p : Nat} {e : Ending} (h : HilEnd a b p e) (ha : a ≠ 0) (hb : b ≠ 0) (hp : Pla p) (hp9 : p ≤ 1000000000) (a1 : -1000000000 ≤ a ∧ a ≤ 1000000000) (b1 : -1000000000 ≤ b ∧ b ≤ 1000000000) : e = .returned (.tuple #[.int .i64 (hs a b p), .int .i64 0]) := by
  obtain ⟨x, l, rfl, hr⟩ := h
  have hpp : (p : Int) = 0 ∨ prB (p : Int) = true := by
    rcases hp with rfl | hp
    · exact .inl rfl
    · exact .inr (prB_t ⟨by have := hp.1; omega, by omega, by rw [Int.toNat_natCast]; exact hp⟩)
  have hin : (inB' a && inB' b) = true := by
    unfold inB' withinB
    rw [decide_eq_true a1, decide_eq_true b1]; rfl
  rcases hr with ⟨h1, -⟩ | ⟨-, -, h3, -⟩ | ⟨-, -, -, h4, h5, -⟩ | ⟨-, -, -, h4, h5, h6⟩
  · exact absurd h1 (by simp [ha, hb])
  · rw [hin] at h3; cases h3
  · exact (nope h4 h5 hpp).elim
  · rw [h6, hs_HV ha hb h4 h5, Int.toNat_natCast]
end Go.Proofs.Ytcbdnnboddahkaa.Pf
