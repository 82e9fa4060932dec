/-
  Plain mathematics of Hurwitz quaternions: which elements are some.
-/
import Derived.Test.YteiflfmpkfhkoaaHwo
import Derived.Test.YteiflfmpkfhkoaaLw0
namespace Go.Proofs.Yteiflfmpkfhkoaa.Hwm
open Alm Al
set_option linter.unusedVariables false
set_option linter.unusedSimpArgs false
/-- an element in lowest terms is a Hurwitz quaternion -/
def isL (l : Q) : Bool := l.d == 1 || (l.d == 2 && (l.w.tmod 2 != 0 && (l.x.tmod 2 != 0 && (l.y.tmod 2 != 0 && l.z.tmod 2 != 0))))
def hL (l : Q) : H := if l.d = 1 then ⟨l.w * 2, l.x * 2, l.y * 2, l.z * 2⟩ else ⟨l.w, l.x, l.y, l.z⟩
/-- the error of a Hurwitz quaternion; it, or 0 -/
def acE (q : Q) : Int := if chkQ q.w q.x q.y q.z q.d ≠ 0 then 3 else if isL q.low = false then 14 else if 1000000 < N (hL q.low) then 8 else 0
def acH (q : Q) : H := if acE q = 0 then hL q.low else H.zero
theorem chkQ_val (a b c d e : Int) : chkQ a b c d e = 0 ∨ chkQ a b c d e = 3 := by unfold chkQ; split; exact .inl rfl; exact .inr rfl
theorem tmod2_ne {a : Int} : a.tmod 2 ≠ 0 ↔ a % 2 = 1 := by
  rw [Ne, tmod2]; omega
theorem par_hL {l : Q} (h : isL l = true) : par (hL l) := by
  unfold isL at h
  unfold hL par
  split
  · simp only []; omega
  · rename_i hd
    simp only [Bool.or_eq_true, Bool.and_eq_true, beq_iff_eq, bne_iff_ne] at h
    rcases h with h | ⟨-, h1, h2, h3, h4⟩
    · exact absurd h hd
    · have := tmod2_ne.1 h1; have := tmod2_ne.1 h2; have := tmod2_ne.1 h3; have := tmod2_ne.1 h4
      simp only []; omega
theorem acE_ways (q : Q) : (chkQ q.w q.x q.y q.z q.d ≠ 0 ∧ acE q = 3 ∧ acH q = H.zero) ∨ (chkQ q.w q.x q.y q.z q.d = 0 ∧ isL q.low = false ∧ acE q = 14 ∧ acH q = H.zero) ∨ (chkQ q.w q.x q.y q.z q.d = 0 ∧ isL q.low = true ∧ 1000000 < N (hL q.low) ∧ acE q = 8 ∧ acH q = H.zero) ∨ (chkQ q.w q.x q.y q.z q.d = 0 ∧ isL q.low = true ∧ N (hL q.low) ≤ 1000000 ∧ acE q = 0 ∧ acH q = hL q.low) := by
  unfold acH
  by_cases h : chkQ q.w q.x q.y q.z q.d ≠ 0
  · refine .inl ⟨h, ?_, ?_⟩ <;> unfold acE <;> rw [if_pos h] <;> rfl
  · have h' : chkQ q.w q.x q.y q.z q.d = 0 := by omega
    rcases h1 : isL q.low with _ | _
    · refine .inr (.inl ⟨h', rfl, ?_, ?_⟩) <;> unfold acE <;> rw [if_neg h, if_pos h1] <;> rfl
    · have h1' : ¬ isL q.low = false := by rw [h1]; simp
      by_cases h2 : 1000000 < N (hL q.low)
      · refine .inr (.inr (.inl ⟨h', rfl, h2, ?_, ?_⟩)) <;> unfold acE <;> rw [if_neg h, if_neg h1', if_pos h2] <;> rfl
      · refine .inr (.inr (.inr ⟨h', rfl, by omega, ?_, ?_⟩)) <;> unfold acE <;> rw [if_neg h, if_neg h1', if_neg h2]
        rfl
/-- what an accepted one is: uniform, and small -/
theorem acc_ok {q : Q} (h : acE q = 0) : chkQ q.w q.x q.y q.z q.d = 0 ∧ isL q.low = true ∧ acH q = hL q.low ∧ par (acH q) ∧ N (acH q) ≤ 1000000 ∧ HB 2000 (acH q) := by
  rcases acE_ways q with ⟨-, h1, -⟩ | ⟨-, -, h1, -⟩ | ⟨-, -, -, h1, -⟩ | ⟨h1, h2, h3, -, h4⟩
  · omega
  · omega
  · omega
  · have hp := par_hL h2
    refine ⟨h1, h2, h4, by rw [h4]; exact hp, by rw [h4]; exact h3, ?_⟩
    rw [h4]
    have := nn_par hp
    exact nn_bd (n := 2000) (by omega) (by omega)
theorem low_bd {q : Q} (h : chkQ q.w q.x q.y q.z q.d = 0) : (-1000000 ≤ q.low.w ∧ q.low.w ≤ 1000000) ∧ (-1000000 ≤ q.low.x ∧ q.low.x ≤ 1000000) ∧ (-1000000 ≤ q.low.y ∧ q.low.y ≤ 1000000) ∧ (-1000000 ≤ q.low.z ∧ q.low.z ≤ 1000000) ∧ 1 ≤ q.low.d ∧ q.low.d ≤ 1000000 :=
  qB_of (low_fits (chkQ_ok h))
theorem acE_val (q : Q) : acE q = 0 ∨ acE q = 3 ∨ acE q = 14 ∨ acE q = 8 := by
  rcases acE_ways q with ⟨-, h1, -⟩ | ⟨-, -, h1, -⟩ | ⟨-, -, -, h1, -⟩ | ⟨-, -, -, h1, -⟩ <;> omega
end Go.Proofs.Yteiflfmpkfhkoaa.Hwm
