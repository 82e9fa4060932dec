/-
  WALKS: errors of algebras and elements; the reference's lowest terms.
-/
import Derived.Test.YtgbnmnkgelklbaaAl5
namespace Go.Proofs.Ytgbnmnkgelklbaa.Al
open Go.RowKit
open Alm
set_option linter.unusedVariables false
set_option linter.unusedSimpArgs false
set_option maxRecDepth 100000
/-- the error of an element, of an algebra, the first of two -/
def chkQ (n0 n1 n2 n3 d : Int) : Int := if qB ⟨n0, n1, n2, n3, d⟩ then 0 else 3
def chkA (A B : Int) : Int := if A = 0 ∨ B = 0 then 10 else if withinB A (-1000) 1000 && withinB B (-1000) 1000 then 0 else 2
def or2 (x y : Int) : Int := if x = 0 then y else x
theorem CheckQuat_any (n0 n1 n2 n3 d : Int) (w : World) :
    Calls Try.prog 39 #[.agg #[.int .i64 n0, .int .i64 n1, .int .i64 n2, .int .i64 n3, .int .i64 d]] w fun e w' => e = .returned (.int .i64 (chkQ n0 n1 n2 n3 d)) ∧ Below w.heap.size w w' := by
  unfold chkQ
  cases h : qB ⟨n0, n1, n2, n3, d⟩
  · exact CheckQuat_bad _ _ _ _ _ _ h
  · exact CheckQuat_ok _ _ _ _ _ _ h
theorem chkQ_ok {n0 n1 n2 n3 d : Int} (h : chkQ n0 n1 n2 n3 d = 0) : qB ⟨n0, n1, n2, n3, d⟩ = true := by
  unfold chkQ at h; split at h
  · assumption
  · omega
theorem chkQ_bad {n0 n1 n2 n3 d : Int} (h : chkQ n0 n1 n2 n3 d ≠ 0) : qB ⟨n0, n1, n2, n3, d⟩ = false ∧ chkQ n0 n1 n2 n3 d = 3 := by
  unfold chkQ at h ⊢; split at h
  · omega
  · rename_i h1; exact ⟨by simpa using h1, by rw [if_neg h1]⟩
theorem chkA_ok {A B : Int} (h : chkA A B = 0) : A ≠ 0 ∧ B ≠ 0 ∧ withinB A (-1000) 1000 = true ∧ withinB B (-1000) 1000 = true := by
  unfold chkA at h
  split at h
  · omega
  · rename_i h0
    split at h
    · rename_i h1
      rw [Bool.and_eq_true] at h1
      exact ⟨fun e => h0 (.inl e), fun e => h0 (.inr e), h1.1, h1.2⟩
    · omega
theorem chkA_ways (A B : Int) : (A = 0 ∧ chkA A B = 10) ∨ (A ≠ 0 ∧ B = 0 ∧ chkA A B = 10) ∨ (A ≠ 0 ∧ B ≠ 0 ∧ (withinB A (-1000) 1000 = false ∧ chkA A B = 2 ∨ withinB A (-1000) 1000 = true ∧ (withinB B (-1000) 1000 = false ∧ chkA A B = 2 ∨ withinB B (-1000) 1000 = true ∧ chkA A B = 0))) := by
  unfold chkA
  by_cases h0 : A = 0
  · exact .inl ⟨h0, if_pos (.inl h0)⟩
  · by_cases h1 : B = 0
    · exact .inr (.inl ⟨h0, h1, if_pos (.inr h1)⟩)
    · refine .inr (.inr ⟨h0, h1, ?_⟩)
      rw [if_neg (by simp [h0, h1])]
      cases withinB A (-1000) 1000 <;> cases withinB B (-1000) 1000 <;> simp
theorem Check_any (A B : Int) (w : World) :
    Calls Try.prog 27 #[.agg #[.int .i64 A, .int .i64 B]] w fun e w' => e = .returned (.int .i64 (chkA A B)) ∧ Below w.heap.size w w' := by
  rcases chkA_ways A B with ⟨h0, e⟩ | ⟨h0, h1, e⟩ | ⟨h0, h1, ⟨h2, e⟩ | ⟨h2, ⟨h3, e⟩ | ⟨h3, e⟩⟩⟩
  · rw [e]
    have t0 : (A == 0) = true := by rw [h0]; rfl
    clear h0 e
    go_enter Try.func27, Try.ntmps27
    go_wp2
    go_ret
    exact ⟨rfl, by go_grown⟩
  · rw [e]
    have t0 : (A == 0) = false := by rw [beq_eq_false_iff_ne]; exact h0
    have t1 : (B == 0) = true := by rw [h1]; rfl
    clear h0 h1 e
    go_enter Try.func27, Try.ntmps27
    go_wp2
    go_ret
    exact ⟨rfl, by go_grown⟩
  all_goals
    rw [e]
    have t0 : (A == 0) = false := by rw [beq_eq_false_iff_ne]; exact h0
    have t1 : (B == 0) = false := by rw [beq_eq_false_iff_ne]; exact h1
    clear h0 h1 e
    go_enter Try.func27, Try.ntmps27
    go_wp2_with (go_at_call 53; refine (isWithin_any _ _ _ (by decide) (by decide)).mono ?_; rintro e w' ⟨rfl, rfl⟩)
    go_ret
    exact ⟨rfl, by go_grown⟩
theorem rCheck_any (A B : Int) (w : World) :
    Calls Try.prog 7 #[.agg #[.int .i64 A, .int .i64 B]] w fun e w' => e = .returned (.int .i64 (chkA A B)) ∧ Below w.heap.size w w' := by
  rcases chkA_ways A B with ⟨h0, e⟩ | ⟨h0, h1, e⟩ | ⟨h0, h1, ⟨h2, e⟩ | ⟨h2, ⟨h3, e⟩ | ⟨h3, e⟩⟩⟩
  · rw [e]
    have t0 : (A == 0) = true := by rw [h0]; rfl
    clear h0 e
    go_enter Try.func7, Try.ntmps7
    go_wp2
    go_ret
    exact ⟨rfl, by go_grown⟩
  · rw [e]
    have t0 : (A == 0) = false := by rw [beq_eq_false_iff_ne]; exact h0
    have t1 : (B == 0) = true := by rw [h1]; rfl
    clear h0 h1 e
    go_enter Try.func7, Try.ntmps7
    go_wp2
    go_ret
    exact ⟨rfl, by go_grown⟩
  all_goals
    rw [e]
    have t0 : (A == 0) = false := by rw [beq_eq_false_iff_ne]; exact h0
    have t1 : (B == 0) = false := by rw [beq_eq_false_iff_ne]; exact h1
    clear h0 h1 e
    go_enter Try.func7, Try.ntmps7
    go_wp2_with (go_at_call 23; refine (Within_any _ _ _ _).mono ?_; rintro e w' ⟨rfl, rfl⟩)
    go_ret
    exact ⟨rfl, by go_grown⟩
/-- the first of two errors -/
theorem Or_any (x y : Int) (A : Addr) (c : Nat) (w : World) (b : Nat) (hA : A = ⟨b, 0, none⟩) (hc : 2 ≤ c) (hc' : c ≤ 9223372036854775807) (h0 : w.cell? ⟨b, 0, none⟩ = some (.int .i64 x)) (h1 : w.cell? ⟨b, 1, none⟩ = some (.int .i64 y)) :
    Calls Try.prog 38 #[.slice (some A) 2 c] w fun e w' => e = .returned (.int .i64 (or2 x y)) ∧ w = w' := by
  subst hA
  unfold or2
  by_cases hx : x = 0
  · rw [if_pos hx]
    have t0 : (x != 0) = false := by rw [hx]; rfl
    clear hx
    by_cases hy : y = 0
    · have HY := Lib.hid hy
      have t1 : (y != 0) = false := by rw [hy]; rfl
      clear hy
      go_enter Try.func38, Try.ntmps38
      go_wp2
      refine wp_loop_rounds 3 ?_
      rw [rounds_succ]; go_wp2
      rw [rounds_succ]; go_wp2
      rw [rounds_succ]; go_wp2
      go_ret
      exact ⟨ret_int HY.out.symm, rfl⟩
    · have t1 : (y != 0) = true := by rw [bne_iff_ne]; exact hy
      clear hy
      go_enter Try.func38, Try.ntmps38
      go_wp2
      refine wp_loop_rounds 2 ?_
      rw [rounds_succ]; go_wp2
      rw [rounds_succ]; go_wp2
      go_ret
      exact ⟨rfl, rfl⟩
  · rw [if_neg hx]
    have t0 : (x != 0) = true := by rw [bne_iff_ne]; exact hx
    clear hx
    go_enter Try.func38, Try.ntmps38
    go_wp2
    refine wp_loop_rounds 1 ?_
    rw [rounds_succ]; go_wp2
    go_ret
    exact ⟨rfl, rfl⟩
end Go.Proofs.Ytgbnmnkgelklbaa.Al
