/-
  WALKS: sums, differences, multiples.
-/
import Derived.Test.YtgbnmnkgelklbaaAlR
namespace Go.Proofs.Ytgbnmnkgelklbaa.Al
open Go.RowKit
open Alm
set_option linter.unusedVariables false
set_option linter.unusedSimpArgs false
set_option maxRecDepth 100000
/-- fractions that are valid as arguments -/
def frB (a b : Int) : Bool := (b != 0) && (withinB a (-1000000000) 1000000000 && withinB b (-1000000000) 1000000000)
def chkF (a b : Int) : Int := if frB a b then 0 else 3
theorem frB_ways (a b : Int) : (b == 0) = true ∧ (b != 0) = false ∧ frB a b = false ∨ (b == 0) = false ∧ (b != 0) = true ∧ (withinB a (-1000000000) 1000000000 = false ∧ frB a b = false ∨ withinB a (-1000000000) 1000000000 = true ∧ (withinB b (-1000000000) 1000000000 = false ∧ frB a b = false ∨ withinB b (-1000000000) 1000000000 = true ∧ frB a b = true)) := by
  unfold frB
  by_cases h : b = 0
  · subst h; simp
  · have h1 : (b == 0) = false := by rw [beq_eq_false_iff_ne]; exact h
    have h2 : (b != 0) = true := by rw [bne_iff_ne]; exact h
    rw [h1, h2]
    cases withinB a (-1000000000) 1000000000 <;> cases withinB b (-1000000000) 1000000000 <;> simp
theorem isFraction_any (a b : Int) (w : World) :
    Calls Try.prog 66 #[.agg #[.int .i64 a, .int .i64 b]] w fun e w' => e = .returned (.bool (frB a b)) ∧ Below w.heap.size w w' := by
  rcases frB_ways a b with ⟨h0, h1, e⟩ | ⟨h0, h1, ⟨h2, e⟩ | ⟨h2, ⟨h3, e⟩ | ⟨h3, e⟩⟩⟩
  all_goals
    rw [e]
    clear e
    go_enter Try.func66, Try.ntmps66
    go_wp2_with (go_at_call 53; refine (isWithin_any _ _ _ (by decide) (by decide)).mono ?_; rintro e w' ⟨rfl, rfl⟩)
    go_ret
    exact ⟨rfl, by go_grown⟩
theorem frB_bd {a b : Int} (h : frB a b = true) : b ≠ 0 ∧ Bn 1000000000 a ∧ Bn 1000000000 b := by
  unfold frB at h
  simp only [Bool.and_eq_true, bne_iff_ne] at h
  exact ⟨h.1, withinB_of h.2.1, withinB_of h.2.2⟩
/-- what a walk keeps: cells, and that nothing that was there has turned -/
def K_D (n0 n1 n2 n3 d m0 m1 m2 m3 f : Int) (b1 b2 R : Nat) (w w' : World) : Prop := KL w [(b1, 0, .int .i64 n0), (b1, 1, .int .i64 n1), (b1, 2, .int .i64 n2), (b1, 3, .int .i64 n3), (b1, 4, .int .i64 d), (b2, 0, .int .i64 m0), (b2, 1, .int .i64 m1), (b2, 2, .int .i64 m2), (b2, 3, .int .i64 m3), (b2, 4, .int .i64 f)] [(R, 0), (R, 1), (R, 2), (R, 3), (R, 4)] w'
theorem K_D.below {n0 n1 n2 n3 d m0 m1 m2 m3 f : Int} {b1 b2 R : Nat} {w w1 w2 : World} (hb : Below w1.heap.size w1 w2) (h : K_D n0 n1 n2 n3 d m0 m1 m2 m3 f b1 b2 R w w1) : K_D n0 n1 n2 n3 d m0 m1 m2 m3 f b1 b2 R w w2 := KL.below hb h
theorem K_D.draws {n0 n1 n2 n3 d m0 m1 m2 m3 f : Int} {b1 b2 R : Nat} {w w1 : World} (n : Nat) (h : K_D n0 n1 n2 n3 d m0 m1 m2 m3 f b1 b2 R w w1) : K_D n0 n1 n2 n3 d m0 m1 m2 m3 f b1 b2 R w (w1.drewN n) := KL.draws n h
theorem K_D.drew {n0 n1 n2 n3 d m0 m1 m2 m3 f : Int} {b1 b2 R : Nat} {w w1 : World} (h : K_D n0 n1 n2 n3 d m0 m1 m2 m3 f b1 b2 R w w1) : K_D n0 n1 n2 n3 d m0 m1 m2 m3 f b1 b2 R w w1.drew := KL.draws 1 h
theorem K_D.alloc {n0 n1 n2 n3 d m0 m1 m2 m3 f : Int} {b1 b2 R : Nat} {w w1 : World} (o : Obj) (h : K_D n0 n1 n2 n3 d m0 m1 m2 m3 f b1 b2 R w w1) : K_D n0 n1 n2 n3 d m0 m1 m2 m3 f b1 b2 R w (w1.alloc o) := KL.alloc o h
theorem K_D.set {n0 n1 n2 n3 d m0 m1 m2 m3 f : Int} {b1 b2 R : Nat} {w w1 : World} (h : K_D n0 n1 n2 n3 d m0 m1 m2 m3 f b1 b2 R w w1) (b i : Nat) (v : Value) (hb : b ≠ b1 ∧ b ≠ b2 ∧ w.heap.size ≤ b) : K_D n0 n1 n2 n3 d m0 m1 m2 m3 f b1 b2 R w (w1.setCell ⟨b, i, none⟩ v) :=
  KL.set h b i v (by intro x hx; simp only [List.mem_cons, List.not_mem_nil, or_false] at hx; rcases hx with rfl | rfl | rfl | rfl | rfl | rfl | rfl | rfl | rfl | rfl <;> simp only [] <;> omega) (by omega)
theorem K_D.bel {n0 n1 n2 n3 d m0 m1 m2 m3 f : Int} {b1 b2 R : Nat} {w w1 : World} (h : K_D n0 n1 n2 n3 d m0 m1 m2 m3 f b1 b2 R w w1) : Below w.heap.size w w1 := KL.bel h
theorem K_D.cells {n0 n1 n2 n3 d m0 m1 m2 m3 f : Int} {b1 b2 R : Nat} {w w' : World} (h : K_D n0 n1 n2 n3 d m0 m1 m2 m3 f b1 b2 R w w') : w'.cell? ⟨b1, 0, none⟩ = some (.int .i64 n0) ∧ w'.cell? ⟨b1, 1, none⟩ = some (.int .i64 n1) ∧ w'.cell? ⟨b1, 2, none⟩ = some (.int .i64 n2) ∧ w'.cell? ⟨b1, 3, none⟩ = some (.int .i64 n3) ∧ w'.cell? ⟨b1, 4, none⟩ = some (.int .i64 d) ∧ w'.cell? ⟨b2, 0, none⟩ = some (.int .i64 m0) ∧ w'.cell? ⟨b2, 1, none⟩ = some (.int .i64 m1) ∧ w'.cell? ⟨b2, 2, none⟩ = some (.int .i64 m2) ∧ w'.cell? ⟨b2, 3, none⟩ = some (.int .i64 m3) ∧ w'.cell? ⟨b2, 4, none⟩ = some (.int .i64 f) ∧ w'.cell? ⟨R, 0, none⟩ = some (cv w' R 0) ∧ w'.frozen? ⟨R, 0, none⟩ = false ∧ w'.cell? ⟨R, 1, none⟩ = some (cv w' R 1) ∧ w'.frozen? ⟨R, 1, none⟩ = false ∧ w'.cell? ⟨R, 2, none⟩ = some (cv w' R 2) ∧ w'.frozen? ⟨R, 2, none⟩ = false ∧ w'.cell? ⟨R, 3, none⟩ = some (cv w' R 3) ∧ w'.frozen? ⟨R, 3, none⟩ = false ∧ w'.cell? ⟨R, 4, none⟩ = some (cv w' R 4) ∧ w'.frozen? ⟨R, 4, none⟩ = false := ⟨h.c (b1, 0, .int .i64 n0) (by simp), h.c (b1, 1, .int .i64 n1) (by simp), h.c (b1, 2, .int .i64 n2) (by simp), h.c (b1, 3, .int .i64 n3) (by simp), h.c (b1, 4, .int .i64 d) (by simp), h.c (b2, 0, .int .i64 m0) (by simp), h.c (b2, 1, .int .i64 m1) (by simp), h.c (b2, 2, .int .i64 m2) (by simp), h.c (b2, 3, .int .i64 m3) (by simp), h.c (b2, 4, .int .i64 f) (by simp), h.d (R, 0) (by simp), h.f (R, 0) (by simp), h.d (R, 1) (by simp), h.f (R, 1) (by simp), h.d (R, 2) (by simp), h.f (R, 2) (by simp), h.d (R, 3) (by simp), h.f (R, 3) (by simp), h.d (R, 4) (by simp), h.f (R, 4) (by simp)⟩
theorem K_D.zs {n0 n1 n2 n3 d m0 m1 m2 m3 f : Int} {b1 b2 R : Nat} {w w' : World} (h : K_D n0 n1 n2 n3 d m0 m1 m2 m3 f b1 b2 R w w') : b1 < w'.heap.size ∧ b2 < w'.heap.size ∧ R < w'.heap.size ∧ True := ⟨KL.z h (x := (b1, 0, .int .i64 n0)) (by simp), KL.z h (x := (b2, 0, .int .i64 m0)) (by simp), KL.zf h (x := (R, 0)) (by simp), trivial⟩
theorem K_D.ks {n0 n1 n2 n3 d m0 m1 m2 m3 f : Int} {b1 b2 R : Nat} {w w' : World} (h : K_D n0 n1 n2 n3 d m0 m1 m2 m3 f b1 b2 R w w') : (w'.cell? ⟨b1, 0, none⟩ = some (.int .i64 n0) ∧ w'.cell? ⟨b1, 1, none⟩ = some (.int .i64 n1) ∧ w'.cell? ⟨b1, 2, none⟩ = some (.int .i64 n2) ∧ w'.cell? ⟨b1, 3, none⟩ = some (.int .i64 n3) ∧ w'.cell? ⟨b1, 4, none⟩ = some (.int .i64 d) ∧ w'.cell? ⟨b2, 0, none⟩ = some (.int .i64 m0) ∧ w'.cell? ⟨b2, 1, none⟩ = some (.int .i64 m1) ∧ w'.cell? ⟨b2, 2, none⟩ = some (.int .i64 m2) ∧ w'.cell? ⟨b2, 3, none⟩ = some (.int .i64 m3) ∧ w'.cell? ⟨b2, 4, none⟩ = some (.int .i64 f) ∧ w'.cell? ⟨R, 0, none⟩ = some (cv w' R 0) ∧ w'.frozen? ⟨R, 0, none⟩ = false ∧ w'.cell? ⟨R, 1, none⟩ = some (cv w' R 1) ∧ w'.frozen? ⟨R, 1, none⟩ = false ∧ w'.cell? ⟨R, 2, none⟩ = some (cv w' R 2) ∧ w'.frozen? ⟨R, 2, none⟩ = false ∧ w'.cell? ⟨R, 3, none⟩ = some (cv w' R 3) ∧ w'.frozen? ⟨R, 3, none⟩ = false ∧ w'.cell? ⟨R, 4, none⟩ = some (cv w' R 4) ∧ w'.frozen? ⟨R, 4, none⟩ = false) ∧ K_D n0 n1 n2 n3 d m0 m1 m2 m3 f b1 b2 R w w' := ⟨h.cells, h⟩
structure AddBd (n0 n1 n2 n3 d m0 m1 m2 m3 f : Int) : Prop where
  p0 : Bn 1000000000000 (n0 * f)
  p1 : Bn 1000000000000 (n1 * f)
  p2 : Bn 1000000000000 (n2 * f)
  p3 : Bn 1000000000000 (n3 * f)
  q0 : Bn 1000000000000 (m0 * d)
  q1 : Bn 1000000000000 (m1 * d)
  q2 : Bn 1000000000000 (m2 * d)
  q3 : Bn 1000000000000 (m3 * d)
  df : Bn 1000000000000 (d * f)
  ne : d * f ≠ 0
theorem add_bd {n0 n1 n2 n3 d m0 m1 m2 m3 f : Int} (h : chkQ n0 n1 n2 n3 d = 0) (h' : chkQ m0 m1 m2 m3 f = 0) : AddBd n0 n1 n2 n3 d m0 m1 m2 m3 f := by
  obtain ⟨a0, a1, a2, a3, a4, a5⟩ := qin_of h
  obtain ⟨c0, c1, c2, c3, c4, c5⟩ := qin_of h'
  have hd : Bn 1000000 d := ⟨by omega, by omega⟩
  have hf : Bn 1000000 f := ⟨by omega, by omega⟩
  exact ⟨Bn.mul _ a0 hf rfl, Bn.mul _ a1 hf rfl, Bn.mul _ a2 hf rfl, Bn.mul _ a3 hf rfl, Bn.mul _ c0 hd rfl, Bn.mul _ c1 hd rfl, Bn.mul _ c2 hd rfl, Bn.mul _ c3 hd rfl, Bn.mul _ hd hf rfl, Int.ne_of_gt (Int.mul_pos (by omega) (by omega))⟩
set_option maxHeartbeats 6400000 in
theorem add_any (n0 n1 n2 n3 d m0 m1 m2 m3 f : Int) (w : World) (h : chkQ n0 n1 n2 n3 d = 0) (h' : chkQ m0 m1 m2 m3 f = 0) :
    Calls Try.prog 67 #[.agg #[.int .i64 n0, .int .i64 n1, .int .i64 n2, .int .i64 n3, .int .i64 d], .agg #[.int .i64 m0, .int .i64 m1, .int .i64 m2, .int .i64 m3, .int .i64 f]] w fun e w' => e = .returned (.tuple #[.agg #[.int .i64 (fitQ (addq ⟨n0, n1, n2, n3, d⟩ ⟨m0, m1, m2, m3, f⟩)).w, .int .i64 (fitQ (addq ⟨n0, n1, n2, n3, d⟩ ⟨m0, m1, m2, m3, f⟩)).x, .int .i64 (fitQ (addq ⟨n0, n1, n2, n3, d⟩ ⟨m0, m1, m2, m3, f⟩)).y, .int .i64 (fitQ (addq ⟨n0, n1, n2, n3, d⟩ ⟨m0, m1, m2, m3, f⟩)).z, .int .i64 (fitQ (addq ⟨n0, n1, n2, n3, d⟩ ⟨m0, m1, m2, m3, f⟩)).d], .int .i64 (fitE (addq ⟨n0, n1, n2, n3, d⟩ ⟨m0, m1, m2, m3, f⟩))]) ∧ Below w.heap.size w w' := by
  have B := add_bd h h'
  have S1 := Lib.hid (fun W => scaled_any n0 n1 n2 n3 f W (by have := B.p0; omega) (by have := B.p0; omega) (by have := B.p1; omega) (by have := B.p1; omega) (by have := B.p2; omega) (by have := B.p2; omega) (by have := B.p3; omega) (by have := B.p3; omega))
  have S2 := Lib.hid (fun W => scaled_any m0 m1 m2 m3 d W (by have := B.q0; omega) (by have := B.q0; omega) (by have := B.q1; omega) (by have := B.q1; omega) (by have := B.q2; omega) (by have := B.q2; omega) (by have := B.q3; omega) (by have := B.q3; omega))
  have PL := Lib.hid (fun W => plus_any (n0 * f) (n1 * f) (n2 * f) (n3 * f) (m0 * d) (m1 * d) (m2 * d) (m3 * d) W (by have := B.p0; have := B.q0; omega) (by have := B.p1; have := B.q1; omega) (by have := B.p2; have := B.q2; omega) (by have := B.p3; have := B.q3; omega))
  have OV := Lib.hid (fun W => over_any (n0 * f + m0 * d) (n1 * f + m1 * d) (n2 * f + m2 * d) (n3 * f + m3 * d) (d * f) W (by have := B.p0; have := B.q0; omega) (by have := B.p1; have := B.q1; omega) (by have := B.p2; have := B.q2; omega) (by have := B.p3; have := B.q3; omega) (by have := B.df; omega) B.ne)
  rw [show addq ⟨n0, n1, n2, n3, d⟩ ⟨m0, m1, m2, m3, f⟩ = ⟨n0 * f + m0 * d, n1 * f + m1 * d, n2 * f + m2 * d, n3 * f + m3 * d, d * f⟩ from rfl]
  obtain ⟨s, hs⟩ : ∃ s, fitQ ⟨n0 * f + m0 * d, n1 * f + m1 * d, n2 * f + m2 * d, n3 * f + m3 * d, d * f⟩ = s := ⟨_, rfl⟩
  obtain ⟨t, ht⟩ : ∃ t, fitE ⟨n0 * f + m0 * d, n1 * f + m1 * d, n2 * f + m2 * d, n3 * f + m3 * d, d * f⟩ = t := ⟨_, rfl⟩
  rw [hs, ht] at OV ⊢
  have EF := Lib.hid (IntWalk.i64_in (d * f) (by have := B.df; omega))
  obtain ⟨dl, du⟩ := B.df
  clear h h' B hs ht
  go_enter Try.func67, Try.ntmps67
  go_wp2_with fail
  have hk : K_D n0 n1 n2 n3 d m0 m1 m2 m3 f w.heap.size (w.heap.size + 1) (w.heap.size + 2) w (((w.alloc (.cells #[.int .i64 n0, .int .i64 n1, .int .i64 n2, .int .i64 n3, .int .i64 d] 35)).alloc (.cells #[.int .i64 m0, .int .i64 m1, .int .i64 m2, .int .i64 m3, .int .i64 f] 35)).alloc (.cells #[.int .i64 0, .int .i64 0, .int .i64 0, .int .i64 0, .int .i64 0] 35)) := ⟨by simp [go_sem], by simp [go_sem], by simp [go_sem], by (repeat (first | (with_reducible exact Below.refl _ _) | (with_reducible exact HB.out) | (with_reducible refine below_draws ?_ _) | (with_reducible refine Below.alloc ?_ (by go_size) _) | (with_reducible refine Below.setCell ?_ (by go_size) _) | (with_reducible refine Below.alloc ?_ (by simp <;> omega) _) | (with_reducible refine Below.setCell ?_ (by simp <;> omega) _)))⟩
  have ef := EF.out
  go_region_held3 (fun w' => (w'.cell? ⟨w.heap.size, 0, none⟩ = some (.int .i64 n0) ∧ w'.cell? ⟨w.heap.size, 1, none⟩ = some (.int .i64 n1) ∧ w'.cell? ⟨w.heap.size, 2, none⟩ = some (.int .i64 n2) ∧ w'.cell? ⟨w.heap.size, 3, none⟩ = some (.int .i64 n3) ∧ w'.cell? ⟨w.heap.size, 4, none⟩ = some (.int .i64 d) ∧ w'.cell? ⟨(w.heap.size + 1), 0, none⟩ = some (.int .i64 m0) ∧ w'.cell? ⟨(w.heap.size + 1), 1, none⟩ = some (.int .i64 m1) ∧ w'.cell? ⟨(w.heap.size + 1), 2, none⟩ = some (.int .i64 m2) ∧ w'.cell? ⟨(w.heap.size + 1), 3, none⟩ = some (.int .i64 m3) ∧ w'.cell? ⟨(w.heap.size + 1), 4, none⟩ = some (.int .i64 f) ∧ w'.cell? ⟨(w.heap.size + 2), 0, none⟩ = some (cv w' ((w.heap.size + 2)) 0) ∧ w'.frozen? ⟨(w.heap.size + 2), 0, none⟩ = false ∧ w'.cell? ⟨(w.heap.size + 2), 1, none⟩ = some (cv w' ((w.heap.size + 2)) 1) ∧ w'.frozen? ⟨(w.heap.size + 2), 1, none⟩ = false ∧ w'.cell? ⟨(w.heap.size + 2), 2, none⟩ = some (cv w' ((w.heap.size + 2)) 2) ∧ w'.frozen? ⟨(w.heap.size + 2), 2, none⟩ = false ∧ w'.cell? ⟨(w.heap.size + 2), 3, none⟩ = some (cv w' ((w.heap.size + 2)) 3) ∧ w'.frozen? ⟨(w.heap.size + 2), 3, none⟩ = false ∧ w'.cell? ⟨(w.heap.size + 2), 4, none⟩ = some (cv w' ((w.heap.size + 2)) 4) ∧ w'.frozen? ⟨(w.heap.size + 2), 4, none⟩ = false) ∧ K_D n0 n1 n2 n3 d m0 m1 m2 m3 f w.heap.size (w.heap.size + 1) (w.heap.size + 2) w w') ((refine K_D.ks ?_; repeat (first | (with_reducible assumption) | (with_reducible refine K_D.draws _ ?_) | (with_reducible refine K_D.drew ?_) | (with_reducible refine K_D.alloc _ ?_) | (with_reducible refine K_D.set ?_ _ _ _ (by omega)))))
    (first
      | (go_at_call 60; (with_reducible refine (numeratorsOf_any _ _ _ _ _ _).mono ?_); rintro e w' ⟨rfl, hbel⟩; have hk' := K_D.below hbel (And.right (by assumption)); clear hbel)
      | (go_at_call 65; (with_reducible refine (S1.out _).mono ?_); rintro e w' ⟨rfl, hbel⟩; have hk' := K_D.below hbel (And.right (by assumption)); clear hbel)
      | (go_at_call 65; (with_reducible refine (S2.out _).mono ?_); rintro e w' ⟨rfl, hbel⟩; have hk' := K_D.below hbel (And.right (by assumption)); clear hbel)
      | (go_at_call 73; (with_reducible refine (PL.out _).mono ?_); rintro e w' ⟨rfl, hbel⟩; have hk' := K_D.below hbel (And.right (by assumption)); clear hbel)
      | (go_at_call 37; (with_reducible refine (OV.out _).mono ?_); rintro e w' ⟨rfl, hbel⟩; have hk' := K_D.below hbel (And.right (by assumption)); clear hbel))
  all_goals
    clear ef
    go_wp2
    (rename_i hh_; clear hh_; obtain ⟨c0_, c1_, c2_, c3_, c4_, c5_, c6_, c7_, c8_, c9_, d0_, f0_, d1_, f1_, d2_, f2_, d3_, f3_, d4_, f4_⟩ := K_D.cells hk'; have HB := Lib.hid (K_D.bel hk'))
    exact bodyPost_ret (v := .tuple #[.agg #[.int .i64 (s).w, .int .i64 (s).x, .int .i64 (s).y, .int .i64 (s).z, .int .i64 (s).d], .int .i64 t]) (by simp [results, Try.results67, go_sem, c0_, c1_, c2_, c3_, c4_, c5_, c6_, c7_, c8_, c9_, d0_, f0_, d1_, f1_, d2_, f2_, d3_, f3_, d4_, f4_]) rfl ⟨rfl, by (repeat (first | (with_reducible exact Below.refl _ _) | (with_reducible exact HB.out) | (with_reducible refine below_draws ?_ _) | (with_reducible refine Below.alloc ?_ (by go_size) _) | (with_reducible refine Below.setCell ?_ (by go_size) _) | (with_reducible refine Below.alloc ?_ (by simp <;> omega) _) | (with_reducible refine Below.setCell ?_ (by simp <;> omega) _)))⟩
theorem chkQ_neg {n0 n1 n2 n3 d : Int} (h : chkQ n0 n1 n2 n3 d = 0) : chkQ (-n0) (-n1) (-n2) (-n3) d = 0 := by
  have := qin_bd (chkQ_ok h)
  unfold chkQ
  rw [if_pos]
  refine decide_eq_true ?_
  unfold qin
  simp only []
  omega
set_option maxHeartbeats 1600000 in
theorem Add_ok (n0 n1 n2 n3 d m0 m1 m2 m3 f : Int) (w : World) (h : chkQ n0 n1 n2 n3 d = 0) (h' : chkQ m0 m1 m2 m3 f = 0) :
    Calls Try.prog 48 #[.agg #[.int .i64 n0, .int .i64 n1, .int .i64 n2, .int .i64 n3, .int .i64 d], .agg #[.int .i64 m0, .int .i64 m1, .int .i64 m2, .int .i64 m3, .int .i64 f]] w fun e w' => e = .returned (.tuple #[.agg #[.int .i64 (fitQ (addq ⟨n0, n1, n2, n3, d⟩ ⟨m0, m1, m2, m3, f⟩)).w, .int .i64 (fitQ (addq ⟨n0, n1, n2, n3, d⟩ ⟨m0, m1, m2, m3, f⟩)).x, .int .i64 (fitQ (addq ⟨n0, n1, n2, n3, d⟩ ⟨m0, m1, m2, m3, f⟩)).y, .int .i64 (fitQ (addq ⟨n0, n1, n2, n3, d⟩ ⟨m0, m1, m2, m3, f⟩)).z, .int .i64 (fitQ (addq ⟨n0, n1, n2, n3, d⟩ ⟨m0, m1, m2, m3, f⟩)).d], .int .i64 (fitE (addq ⟨n0, n1, n2, n3, d⟩ ⟨m0, m1, m2, m3, f⟩))]) ∧ Below w.heap.size w w' := by
  have AD := Lib.hid (fun W => add_any n0 n1 n2 n3 d m0 m1 m2 m3 f W h h')
  obtain ⟨s, hs⟩ : ∃ s, fitQ (addq ⟨n0, n1, n2, n3, d⟩ ⟨m0, m1, m2, m3, f⟩) = s := ⟨_, rfl⟩
  obtain ⟨t, ht⟩ : ∃ t, fitE (addq ⟨n0, n1, n2, n3, d⟩ ⟨m0, m1, m2, m3, f⟩) = t := ⟨_, rfl⟩
  rw [hs, ht] at AD ⊢
  obtain ⟨⟨x0, x0'⟩, ⟨x1, x1'⟩, ⟨x2, x2'⟩, ⟨x3, x3'⟩, -, -⟩ := qin_of h'
  have OK := Lib.hid (or2_ok h h')
  clear h h' hs ht
  go_enter Try.func48, Try.ntmps48
  go_wp2_with fail
  refine (checkQuats_new _ _ _ _ _ _ _ _ _ _ _ _ _ (by simp)).mono ?_
  rintro e w1 ⟨rfl, hb⟩
  rw [OK.out]
  have hK : K_D n0 n1 n2 n3 d m0 m1 m2 m3 f w.heap.size (w.heap.size + 1) (w.heap.size + 2) w w1 := K_D.below hb ⟨by simp [go_sem], by simp [go_sem], by simp [go_sem], by (repeat (first | (with_reducible exact Below.refl _ _) | (with_reducible exact HB.out) | (with_reducible refine below_draws ?_ _) | (with_reducible refine Below.alloc ?_ (by go_size) _) | (with_reducible refine Below.setCell ?_ (by go_size) _) | (with_reducible refine Below.alloc ?_ (by simp <;> omega) _) | (with_reducible refine Below.setCell ?_ (by simp <;> omega) _)))⟩
  clear hb
  obtain ⟨c0_, c1_, c2_, c3_, c4_, c5_, c6_, c7_, c8_, c9_, d0_, f0_, d1_, f1_, d2_, f2_, d3_, f3_, d4_, f4_⟩ := K_D.cells hK; obtain ⟨z0_, z1_, z2_, -⟩ := K_D.zs hK; have HK := Lib.hid hK; clear hK
  go_wp2_with fail
  refine (AD.out _).mono ?_
  rintro e w2 ⟨rfl, hb⟩
  clear c0_ c1_ c2_ c3_ c4_ c5_ c6_ c7_ c8_ c9_ d0_ f0_ d1_ f1_ d2_ f2_ d3_ f3_ d4_ f4_ z0_ z1_ z2_
  have hK := K_D.below hb HK.out
  clear hb HK
  obtain ⟨c0_, c1_, c2_, c3_, c4_, c5_, c6_, c7_, c8_, c9_, d0_, f0_, d1_, f1_, d2_, f2_, d3_, f3_, d4_, f4_⟩ := K_D.cells hK
  have HB := Lib.hid (K_D.bel hK)
  clear hK
  go_wp2
  exact bodyPost_ret (v := .tuple #[.agg #[.int .i64 (s).w, .int .i64 (s).x, .int .i64 (s).y, .int .i64 (s).z, .int .i64 (s).d], .int .i64 t]) (by simp [results, Try.results48, go_sem, c0_, c1_, c2_, c3_, c4_, c5_, c6_, c7_, c8_, c9_, d0_, f0_, d1_, f1_, d2_, f2_, d3_, f3_, d4_, f4_]) rfl ⟨rfl, by (repeat (first | (with_reducible exact Below.refl _ _) | (with_reducible exact HB.out) | (with_reducible refine below_draws ?_ _) | (with_reducible refine Below.alloc ?_ (by go_size) _) | (with_reducible refine Below.setCell ?_ (by go_size) _) | (with_reducible refine Below.alloc ?_ (by simp <;> omega) _) | (with_reducible refine Below.setCell ?_ (by simp <;> omega) _)))⟩
set_option maxHeartbeats 1600000 in
theorem Add_bad (n0 n1 n2 n3 d m0 m1 m2 m3 f : Int) (w : World) (h : or2 (chkQ n0 n1 n2 n3 d) (chkQ m0 m1 m2 m3 f) = 3) :
    Calls Try.prog 48 #[.agg #[.int .i64 n0, .int .i64 n1, .int .i64 n2, .int .i64 n3, .int .i64 d], .agg #[.int .i64 m0, .int .i64 m1, .int .i64 m2, .int .i64 m3, .int .i64 f]] w fun e w' => e = .returned (.tuple #[.agg #[.int .i64 0, .int .i64 0, .int .i64 0, .int .i64 0, .int .i64 0], .int .i64 3]) ∧ Below w.heap.size w w' := by
  have OK := Lib.hid h
  clear h
  go_enter Try.func48, Try.ntmps48
  go_wp2_with fail
  refine (checkQuats_new _ _ _ _ _ _ _ _ _ _ _ _ _ (by simp)).mono ?_
  rintro e w1 ⟨rfl, hb⟩
  rw [OK.out]
  have hK : K_D n0 n1 n2 n3 d m0 m1 m2 m3 f w.heap.size (w.heap.size + 1) (w.heap.size + 2) w w1 := K_D.below hb ⟨by simp [go_sem], by simp [go_sem], by simp [go_sem], by (repeat (first | (with_reducible exact Below.refl _ _) | (with_reducible exact HB.out) | (with_reducible refine below_draws ?_ _) | (with_reducible refine Below.alloc ?_ (by go_size) _) | (with_reducible refine Below.setCell ?_ (by go_size) _) | (with_reducible refine Below.alloc ?_ (by simp <;> omega) _) | (with_reducible refine Below.setCell ?_ (by simp <;> omega) _)))⟩
  clear hb
  obtain ⟨c0_, c1_, c2_, c3_, c4_, c5_, c6_, c7_, c8_, c9_, d0_, f0_, d1_, f1_, d2_, f2_, d3_, f3_, d4_, f4_⟩ := K_D.cells hK
  have HB := Lib.hid (K_D.bel hK)
  clear hK
  go_wp2
  exact bodyPost_ret (v := .tuple #[.agg #[.int .i64 0, .int .i64 0, .int .i64 0, .int .i64 0, .int .i64 0], .int .i64 3]) (by simp [results, Try.results48, go_sem, c0_, c1_, c2_, c3_, c4_, c5_, c6_, c7_, c8_, c9_, d0_, f0_, d1_, f1_, d2_, f2_, d3_, f3_, d4_, f4_]) rfl ⟨rfl, by (repeat (first | (with_reducible exact Below.refl _ _) | (with_reducible exact HB.out) | (with_reducible refine below_draws ?_ _) | (with_reducible refine Below.alloc ?_ (by go_size) _) | (with_reducible refine Below.setCell ?_ (by go_size) _) | (with_reducible refine Below.alloc ?_ (by simp <;> omega) _) | (with_reducible refine Below.setCell ?_ (by simp <;> omega) _)))⟩
end Go.Proofs.Ytgbnmnkgelklbaa.Al
