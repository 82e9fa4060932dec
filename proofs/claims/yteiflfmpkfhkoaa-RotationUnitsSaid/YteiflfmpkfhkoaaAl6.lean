/-
  WALKS: errors of algebras and elements; the reference's lowest terms.
-/
import Derived.Test.YteiflfmpkfhkoaaAl5
namespace Go.Proofs.Yteiflfmpkfhkoaa.Al
open Go.RowKit
open Alm
set_option linter.unusedVariables false
set_option linter.unusedSimpArgs false
set_option maxRecDepth 100000
/-- the error of an element, of an algebra, the first of two -/
def chkQ (n0 n1 n2 n3 d : Int) : Int := if qB ⟨n0, n1, n2, n3, d⟩ then 0 else 3
def chkA (A B : Int) : Int := if A = 0 ∨ B = 0 then 10 else if withinB A (-1000) 1000 && withinB B (-1000) 1000 then 0 else 2
def or2 (x y : Int) : Int := if x = 0 then y else x
theorem CheckQuat_any (n0 n1 n2 n3 d : Int) (w : World) :
    Calls Try.prog 118 #[.agg #[.int .i64 n0, .int .i64 n1, .int .i64 n2, .int .i64 n3, .int .i64 d]] w fun e w' => e = .returned (.int .i64 (chkQ n0 n1 n2 n3 d)) ∧ Below w.heap.size w w' := by
  unfold chkQ
  cases h : qB ⟨n0, n1, n2, n3, d⟩
  · exact CheckQuat_bad _ _ _ _ _ _ h
  · exact CheckQuat_ok _ _ _ _ _ _ h
theorem chkQ_ok {n0 n1 n2 n3 d : Int} (h : chkQ n0 n1 n2 n3 d = 0) : qB ⟨n0, n1, n2, n3, d⟩ = true := by
  unfold chkQ at h; split at h
  · assumption
  · omega
theorem chkQ_bad {n0 n1 n2 n3 d : Int} (h : chkQ n0 n1 n2 n3 d ≠ 0) : qB ⟨n0, n1, n2, n3, d⟩ = false ∧ chkQ n0 n1 n2 n3 d = 3 := by
  unfold chkQ at h ⊢; split at h
  · omega
  · rename_i h1; exact ⟨by simpa using h1, by rw [if_neg h1]⟩
theorem chkA_ok {A B : Int} (h : chkA A B = 0) : A ≠ 0 ∧ B ≠ 0 ∧ withinB A (-1000) 1000 = true ∧ withinB B (-1000) 1000 = true := by
  unfold chkA at h
  split at h
  · omega
  · rename_i h0
    split at h
    · rename_i h1
      rw [Bool.and_eq_true] at h1
      exact ⟨fun e => h0 (.inl e), fun e => h0 (.inr e), h1.1, h1.2⟩
    · omega
theorem chkA_ways (A B : Int) : (A = 0 ∧ chkA A B = 10) ∨ (A ≠ 0 ∧ B = 0 ∧ chkA A B = 10) ∨ (A ≠ 0 ∧ B ≠ 0 ∧ (withinB A (-1000) 1000 = false ∧ chkA A B = 2 ∨ withinB A (-1000) 1000 = true ∧ (withinB B (-1000) 1000 = false ∧ chkA A B = 2 ∨ withinB B (-1000) 1000 = true ∧ chkA A B = 0))) := by
  unfold chkA
  by_cases h0 : A = 0
  · exact .inl ⟨h0, if_pos (.inl h0)⟩
  · by_cases h1 : B = 0
    · exact .inr (.inl ⟨h0, h1, if_pos (.inr h1)⟩)
    · refine .inr (.inr ⟨h0, h1, ?_⟩)
      rw [if_neg (by simp [h0, h1])]
      cases withinB A (-1000) 1000 <;> cases withinB B (-1000) 1000 <;> simp
end Go.Proofs.Yteiflfmpkfhkoaa.Al
