/-
  Plain mathematics of ramified primes: the primes that divide a number, in order; those among them with the symbol -1.
-/
import Derived.Test.YtgbnmnkgelklbaaDoorWPrime
import Derived.Test.YtgbnmnkgelklbaaDoorStrip
import Derived.Test.YtgbnmnkgelklbaaDoorHilM
namespace Go.Proofs.YtgbnmnkgelklbaaDoor.Rm
open Go.RowKit
open Nt (Pr)
set_option linter.unusedVariables false
set_option linter.unusedSimpArgs false
set_option maxRecDepth 100000
noncomputable def prd (n q : Nat) : Bool := @decide (Pr q ∧ q ∣ n) (Classical.propDecidable _)
theorem prd_iff {n q : Nat} : prd n q = true ↔ Pr q ∧ q ∣ n := by unfold prd; exact @decide_eq_true_iff _ (Classical.propDecidable _)
/-- the primes below d that divide n -/
noncomputable def PL (n d : Nat) : List Nat := (List.range d).filter (prd n)
theorem filt_skip (f : Nat → Bool) {a b : Nat} (hab : a ≤ b) (h : ∀ q, a ≤ q → q < b → f q = false) : (List.range b).filter f = (List.range a).filter f := by
  obtain ⟨k, rfl⟩ : ∃ k, b = a + k := ⟨b - a, by omega⟩
  clear hab
  induction k with
  | zero => rfl
  | succ k ih =>
    rw [← Nat.add_assoc, List.range_succ, List.filter_append, ih (fun q h1 h2 => h q h1 (by omega))]
    simp [h (a + k) (by omega) (by omega)]
theorem filt_take (f : Nat → Bool) {p : Nat} (h : f p = true) : (List.range (p + 1)).filter f = (List.range p).filter f ++ [p] := by
  rw [List.range_succ, List.filter_append]; simp [h]
theorem filt_drop (f : Nat → Bool) {p : Nat} (h : f p = false) : (List.range (p + 1)).filter f = (List.range p).filter f := by
  rw [List.range_succ, List.filter_append]; simp [h]
/-- the state of the factoring: m is left of n, p the last prime, d the bound below which all is done -/
structure FR (n m p d : Nat) (L : List (Nat × Nat)) : Prop where
  m1 : 1 ≤ m
  mn : m ≤ n
  p2 : 2 ≤ p
  po : p = 2 ∨ p % 2 = 1
  pd : p ≤ d
  dp : d ≤ p + 1
  pn : p ≤ n + 1
  fr : Free m d
  ls : L.map Prod.fst = PL n d
  dv : m ∣ n
  all : ∀ q, Pr q → d ≤ q → q ∣ n → q ∣ m
  dn : d ≤ n + 1 ∨ d = 2
theorem FR.start {n : Nat} (h : 1 ≤ n) : FR n n 2 2 [] := by
  refine ⟨h, Nat.le_refl _, Nat.le_refl _, .inl rfl, Nat.le_refl _, by omega, by omega, Free.two n, ?_, Nat.dvd_refl _, fun q _ _ h => h, .inr rfl⟩
  have : PL n 2 = PL n 0 := filt_skip _ (by omega) fun q h1 h2 => by
    rw [Bool.eq_false_iff]; intro h3; have := (prd_iff.1 h3).1.1; omega
  rw [this]; rfl
theorem Free.le {n d e : Nat} (h : Free n d) (he : e ≤ d) : Free n e := fun k h1 h2 => h k h1 (by omega)
theorem FR.ld {n m p d : Nat} {L : List (Nat × Nat)} (h : FR n m p d L) (hn : n ≤ 1000000000) : LdRel m p := ⟨h.p2, h.po, Free.le h.fr h.pd, by have := h.pn; omega⟩
theorem FR.next {n m p d r k s : Nat} {L : List (Nat × Nat)} (h : FR n m p d L) (hr : 2 ≤ r) (hrm : r ∣ m) (hf : Free m r) (hs : m = s * r ^ k) (hnd : ¬ r ∣ s) (hs1 : 1 ≤ s) : FR n s r (r + 1) (L ++ [(r, k)]) ∧ s < m := by
  have hm1 := h.m1
  have hrl : r ≤ m := Nat.le_of_dvd (by omega) hrm
  have pr : Pr r := Free.pr hr fun e h1 h2 h3 => hf e h1 h2 (Nat.dvd_trans h3 hrm)
  have hdr : d ≤ r := by
    apply Nat.le_of_not_lt; intro h1; exact h.fr r hr h1 hrm
  have hk : k ≠ 0 := by rintro rfl; rw [Nat.pow_zero, Nat.mul_one] at hs; rw [hs] at hrm; exact hnd hrm
  have hsm : s ∣ m := ⟨r ^ k, hs⟩
  have hlt : s < m := by
    have h2 : s * 2 ≤ s * r ^ k := Nat.mul_le_mul_left _ (Nat.le_trans hr (by have := Nat.pow_le_pow_right (n := r) (by omega) (show 1 ≤ k by omega); rwa [Nat.pow_one] at this))
    omega
  refine ⟨⟨hs1, by have := h.mn; omega, hr, ?_, by omega, by omega, by have := h.mn; omega, ?_, ?_, Nat.dvd_trans hsm h.dv, ?_, .inl (by have := h.mn; omega)⟩, hlt⟩
  · rcases Nat.mod_two_eq_zero_or_one r with e | e
    · rcases pr.2 2 (Nat.dvd_of_mod_eq_zero e) with e2 | e2 <;> omega
    · exact .inr e
  · intro e h1 h2 h3
    by_cases he : e = r
    · exact hnd (he ▸ h3)
    · exact hf e h1 (by omega) (Nat.dvd_trans h3 hsm)
  · rw [List.map_append, h.ls]
    show PL n d ++ [r] = PL n (r + 1)
    unfold PL
    rw [filt_take _ (prd_iff.2 ⟨pr, Nat.dvd_trans hrm h.dv⟩), filt_skip _ hdr fun q h1 h2 => by
      rw [Bool.eq_false_iff]; intro h3
      obtain ⟨h4, h5⟩ := prd_iff.1 h3
      exact hf q h4.1 h2 (h.all q h4 h1 h5)]
  · intro q h1 h2 h3
    have h4 := h.all q h1 (by omega) h3
    rw [hs] at h4
    rcases h1.dvd_mul h4 with h5 | h5
    · exact h5
    · exfalso
      have : ∀ j, q ∣ r ^ j → q ∣ r := by
        intro j
        induction j with
        | zero => intro h6; rw [Nat.pow_zero] at h6; have := Nat.le_of_dvd (by omega) h6; have := h1.1; omega
        | succ j ih =>
          intro h6
          rw [Nat.pow_succ] at h6
          rcases h1.dvd_mul h6 with h7 | h7
          · exact ih h7
          · exact h7
      rcases pr.2 q (this k h5) with h6 | h6
      · have := h1.1; omega
      · omega
theorem FR.len {n m p d : Nat} {L : List (Nat × Nat)} (h : FR n m p d L) : L.length ≤ n + 2 := by
  have h1 : L.length = (PL n d).length := by rw [← h.ls, List.length_map]
  have h2 : (PL n d).length ≤ d := by
    unfold PL
    have := List.length_filter_le (prd n) (List.range d)
    rwa [List.length_range] at this
  have := h.dp; have := h.pn; omega
theorem FR.stop {n p d : Nat} {L : List (Nat × Nat)} (h : FR n 1 p d L) (hn : 1 ≤ n) : L.map Prod.fst = PL n (n + 1) := by
  have h0 : ∀ q, d ≤ q → prd n q = false := fun q h1 => by
    rw [Bool.eq_false_iff]; intro h3
    obtain ⟨h4, h5⟩ := prd_iff.1 h3
    have := Nat.le_of_dvd (by omega) (h.all q h4 h1 h5); have := h4.1; omega
  rw [h.ls]
  rcases h.dn with h1 | h1
  · unfold PL; rw [filt_skip _ h1 fun q h2 _ => h0 q h2]
  · subst h1
    unfold PL; rw [filt_skip _ (show 2 ≤ n + 1 by omega) fun q h2 _ => h0 q h2]
/-- the symbol and its error -/
noncomputable def hv (a b p : Int) : Int × Int := Classical.epsilon fun x : Int × Int => HilRes a b p x.1 x.2
theorem hv_of {a b p x l : Int} (h : HilRes a b p x l) : x = (hv a b p).1 ∧ l = (hv a b p).2 :=
  h.unique (Classical.epsilon_spec (p := fun x : Int × Int => HilRes a b p x.1 x.2) ⟨(x, l), h⟩)
theorem hil_v {a b p : Int} {e : Ending} (h : HilEnd a b p e) : e = .returned (.tuple #[.int .i64 (hv a b p).1, .int .i64 (hv a b p).2]) := by
  obtain ⟨x, l, rfl, h1⟩ := h
  obtain ⟨e1, e2⟩ := hv_of h1
  rw [← e1, ← e2]
noncomputable def ramB (A B : Int) (q : Nat) : Bool := @decide (Pr q ∧ (q = 2 ∨ q ∣ A.natAbs ∨ q ∣ B.natAbs) ∧ (hv A B q).1 = -1) (Classical.propDecidable _)
theorem ramB_iff {A B : Int} {q : Nat} : ramB A B q = true ↔ Pr q ∧ (q = 2 ∨ q ∣ A.natAbs ∨ q ∣ B.natAbs) ∧ (hv A B q).1 = -1 := by unfold ramB; exact @decide_eq_true_iff _ (Classical.propDecidable _)
/-- the ramified primes below n -/
noncomputable def RL (A B : Int) (n : Nat) : List Nat := (List.range n).filter (ramB A B)
theorem RL_of (A B : Int) (n : Nat) : (PL (2 * A * B).natAbs n).filter (fun q : Nat => (hv A B q).1 == -1) = RL A B n := by
  unfold PL RL
  rw [List.filter_filter]
  congr 1
  funext q
  rw [Bool.eq_iff_iff, Bool.and_eq_true, beq_iff_eq, prd_iff, ramB_iff]
  constructor
  · rintro ⟨h1, h2, h3⟩
    refine ⟨h2, ?_, h1⟩
    rw [Int.natAbs_mul, Int.natAbs_mul] at h3
    rcases h2.dvd_mul h3 with h4 | h4
    · rcases h2.dvd_mul h4 with h5 | h5
      · have := Nat.le_of_dvd (by omega) h5; have := h2.1; exact .inl (by omega)
      · exact .inr (.inl h5)
    · exact .inr (.inr h4)
  · rintro ⟨h1, h2, h3⟩
    refine ⟨h3, h1, ?_⟩
    rw [Int.natAbs_mul, Int.natAbs_mul]
    rcases h2 with rfl | h2 | h2
    · exact Nat.dvd_trans (Nat.dvd_mul_right _ _) (Nat.dvd_mul_right _ _)
    · exact Nat.dvd_trans (Nat.dvd_trans h2 (Nat.dvd_mul_left _ _)) (Nat.dvd_mul_right _ _)
    · exact Nat.dvd_trans h2 (Nat.dvd_mul_left _ _)
theorem RL_far {A B : Int} (hA : A ≠ 0) (hB : B ≠ 0) (h1 : A.natAbs ≤ 1000) (h2 : B.natAbs ≤ 1000) {n : Nat} (hn : 1001 ≤ n) : RL A B n = RL A B 1001 := by
  unfold RL
  refine filt_skip _ hn fun q h3 _ => ?_
  rw [Bool.eq_false_iff]; intro h4
  obtain ⟨h5, h6 | h6 | h6, -⟩ := ramB_iff.1 h4
  · omega
  · have := Nat.le_of_dvd (by omega) h6; omega
  · have := Nat.le_of_dvd (by omega) h6; omega
/-- what the factoring gives, whatever lies beyond the bound -/
theorem PL_far {n N : Nat} (hn : 1 ≤ n) (hN : n + 1 ≤ N) : PL n N = PL n (n + 1) := by
  unfold PL
  refine filt_skip _ hN fun q h3 _ => ?_
  rw [Bool.eq_false_iff]; intro h4
  have := Nat.le_of_dvd (by omega) (prd_iff.1 h4).2; omega
end Go.Proofs.YtgbnmnkgelklbaaDoor.Rm
