/-
  WALKS: four numbers, the program's.
-/
import Derived.Test.YteiflfmpkfhkoaaLw0
import Derived.Test.YteiflfmpkfhkoaaAlA
import Derived.Test.YteiflfmpkfhkoaaHwm
namespace Go.Proofs.Yteiflfmpkfhkoaa.Rt
open Go.RowKit
open Alm Hwm Al
set_option linter.unusedVariables false
set_option linter.unusedSimpArgs false
set_option maxRecDepth 100000
theorem fourOf_any (n0 n1 n2 n3 d : Int) (w : World) :
    Calls Try.prog 123 #[.agg #[.int .i64 n0, .int .i64 n1, .int .i64 n2, .int .i64 n3, .int .i64 d]] w fun e w' => e = .returned (.agg #[.int .i64 n0, .int .i64 n1, .int .i64 n2, .int .i64 n3]) ∧ Below w.heap.size w w' := by
  go_enter Try.func123, Try.ntmps123
  go_wp2
  exact bodyPost_ret (v := .agg #[.int .i64 n0, .int .i64 n1, .int .i64 n2, .int .i64 n3]) (by simp [results, Try.results123, go_sem]) rfl ⟨rfl, by go_grown⟩
set_option maxHeartbeats 1600000 in
theorem times_f (a0 a1 a2 a3 b0 b1 b2 b3 : Int) (w : World) (h0 : Bn 100000000 a0) (h1 : Bn 100000000 a1) (h2 : Bn 100000000 a2) (h3 : Bn 100000000 a3) (k0 : Bn 100000000 b0) (k1 : Bn 100000000 b1) (k2 : Bn 100000000 b2) (k3 : Bn 100000000 b3) :
    Calls Try.prog 126 #[.agg #[.int .i64 a0, .int .i64 a1, .int .i64 a2, .int .i64 a3], .agg #[.int .i64 b0, .int .i64 b1, .int .i64 b2, .int .i64 b3]] w fun e w' => e = .returned (.agg #[.int .i64 (P ⟨a0, a1, a2, a3⟩ ⟨b0, b1, b2, b3⟩).w, .int .i64 (P ⟨a0, a1, a2, a3⟩ ⟨b0, b1, b2, b3⟩).x, .int .i64 (P ⟨a0, a1, a2, a3⟩ ⟨b0, b1, b2, b3⟩).y, .int .i64 (P ⟨a0, a1, a2, a3⟩ ⟨b0, b1, b2, b3⟩).z]) ∧ Below w.heap.size w w' := by
  obtain ⟨m1, m1'⟩ := Bn.mul 10000000000000000 h0 k0 rfl
  obtain ⟨m2, m2'⟩ := Bn.mul 10000000000000000 h1 k1 rfl
  obtain ⟨m3, m3'⟩ := Bn.mul 10000000000000000 h2 k2 rfl
  obtain ⟨m4, m4'⟩ := Bn.mul 10000000000000000 h3 k3 rfl
  obtain ⟨m5, m5'⟩ := Bn.mul 10000000000000000 h0 k1 rfl
  obtain ⟨m6, m6'⟩ := Bn.mul 10000000000000000 h1 k0 rfl
  obtain ⟨m7, m7'⟩ := Bn.mul 10000000000000000 h2 k3 rfl
  obtain ⟨m8, m8'⟩ := Bn.mul 10000000000000000 h3 k2 rfl
  obtain ⟨m9, m9'⟩ := Bn.mul 10000000000000000 h0 k2 rfl
  obtain ⟨l1, l1'⟩ := Bn.mul 10000000000000000 h2 k0 rfl
  obtain ⟨l2, l2'⟩ := Bn.mul 10000000000000000 h3 k1 rfl
  obtain ⟨l3, l3'⟩ := Bn.mul 10000000000000000 h1 k3 rfl
  obtain ⟨l4, l4'⟩ := Bn.mul 10000000000000000 h0 k3 rfl
  obtain ⟨l5, l5'⟩ := Bn.mul 10000000000000000 h3 k0 rfl
  obtain ⟨l6, l6'⟩ := Bn.mul 10000000000000000 h1 k2 rfl
  obtain ⟨l7, l7'⟩ := Bn.mul 10000000000000000 h2 k1 rfl
  clear h0 h1 h2 h3 k0 k1 k2 k3
  go_enter Try.func126, Try.ntmps126
  go_wp2
  exact bodyPost_ret (v := .agg #[.int .i64 (P ⟨a0, a1, a2, a3⟩ ⟨b0, b1, b2, b3⟩).w, .int .i64 (P ⟨a0, a1, a2, a3⟩ ⟨b0, b1, b2, b3⟩).x, .int .i64 (P ⟨a0, a1, a2, a3⟩ ⟨b0, b1, b2, b3⟩).y, .int .i64 (P ⟨a0, a1, a2, a3⟩ ⟨b0, b1, b2, b3⟩).z]) (by simp [results, Try.results126, go_sem, P]) rfl ⟨rfl, by go_grown⟩
theorem conj_f (a0 a1 a2 a3 : Int) (w : World) (h1 : Bn 100000000 a1) (h2 : Bn 100000000 a2) (h3 : Bn 100000000 a3) :
    Calls Try.prog 128 #[.agg #[.int .i64 a0, .int .i64 a1, .int .i64 a2, .int .i64 a3]] w fun e w' => e = .returned (.agg #[.int .i64 a0, .int .i64 (-a1), .int .i64 (-a2), .int .i64 (-a3)]) ∧ Below w.heap.size w w' := by
  obtain ⟨m1, m1'⟩ := h1
  obtain ⟨m2, m2'⟩ := h2
  obtain ⟨m3, m3'⟩ := h3
  go_enter Try.func128, Try.ntmps128
  go_wp2
  exact bodyPost_ret (v := .agg #[.int .i64 a0, .int .i64 (-a1), .int .i64 (-a2), .int .i64 (-a3)]) (by simp [results, Try.results128, go_sem]) rfl ⟨rfl, by go_grown⟩
theorem minus_f (a0 a1 a2 a3 b0 b1 b2 b3 : Int) (w : World) (h0 : Bn 100000000000000000 a0) (h1 : Bn 100000000000000000 a1) (h2 : Bn 100000000000000000 a2) (h3 : Bn 100000000000000000 a3) (k0 : Bn 100000000000000000 b0) (k1 : Bn 100000000000000000 b1) (k2 : Bn 100000000000000000 b2) (k3 : Bn 100000000000000000 b3) :
    Calls Try.prog 129 #[.agg #[.int .i64 a0, .int .i64 a1, .int .i64 a2, .int .i64 a3], .agg #[.int .i64 b0, .int .i64 b1, .int .i64 b2, .int .i64 b3]] w fun e w' => e = .returned (.agg #[.int .i64 (a0 - b0), .int .i64 (a1 - b1), .int .i64 (a2 - b2), .int .i64 (a3 - b3)]) ∧ Below w.heap.size w w' := by
  obtain ⟨m1, m1'⟩ := h0
  obtain ⟨m2, m2'⟩ := h1
  obtain ⟨m3, m3'⟩ := h2
  obtain ⟨m4, m4'⟩ := h3
  obtain ⟨m5, m5'⟩ := k0
  obtain ⟨m6, m6'⟩ := k1
  obtain ⟨m7, m7'⟩ := k2
  obtain ⟨m8, m8'⟩ := k3
  go_enter Try.func129, Try.ntmps129
  go_wp2
  exact bodyPost_ret (v := .agg #[.int .i64 (a0 - b0), .int .i64 (a1 - b1), .int .i64 (a2 - b2), .int .i64 (a3 - b3)]) (by simp [results, Try.results129, go_sem]) rfl ⟨rfl, by go_grown⟩
theorem scaled_f (a0 a1 a2 a3 n : Int) (w : World) (h0 : Bn 100000000 a0) (h1 : Bn 100000000 a1) (h2 : Bn 100000000 a2) (h3 : Bn 100000000 a3) (k : Bn 100000000 n) :
    Calls Try.prog 124 #[.agg #[.int .i64 a0, .int .i64 a1, .int .i64 a2, .int .i64 a3], .int .i64 n] w fun e w' => e = .returned (.agg #[.int .i64 (a0 * n), .int .i64 (a1 * n), .int .i64 (a2 * n), .int .i64 (a3 * n)]) ∧ Below w.heap.size w w' := by
  obtain ⟨m1, m1'⟩ := Bn.mul 10000000000000000 h0 k rfl
  obtain ⟨m2, m2'⟩ := Bn.mul 10000000000000000 h1 k rfl
  obtain ⟨m3, m3'⟩ := Bn.mul 10000000000000000 h2 k rfl
  obtain ⟨m4, m4'⟩ := Bn.mul 10000000000000000 h3 k rfl
  clear h0 h1 h2 h3 k
  go_enter Try.func124, Try.ntmps124
  go_wp2
  exact bodyPost_ret (v := .agg #[.int .i64 (a0 * n), .int .i64 (a1 * n), .int .i64 (a2 * n), .int .i64 (a3 * n)]) (by simp [results, Try.results124, go_sem]) rfl ⟨rfl, by go_grown⟩
set_option maxHeartbeats 800000 in
theorem over_f (a0 a1 a2 a3 n : Int) (w : World) (h0 : Bn 1000000000000000000 a0) (h1 : Bn 1000000000000000000 a1) (h2 : Bn 1000000000000000000 a2) (h3 : Bn 1000000000000000000 a3) (hn : n ≠ 0) :
    Calls Try.prog 121 #[.agg #[.int .i64 a0, .int .i64 a1, .int .i64 a2, .int .i64 a3], .int .i64 n] w fun e w' => e = .returned (.agg #[.int .i64 (a0.tdiv n), .int .i64 (a1.tdiv n), .int .i64 (a2.tdiv n), .int .i64 (a3.tdiv n)]) ∧ Below w.heap.size w w' := by
  have hz : (n == 0) = false := by rw [beq_eq_false_iff_ne]; exact hn
  have b0 := tdiv_bd a0 n
  have b1 := tdiv_bd a1 n
  have b2 := tdiv_bd a2 n
  have b3 := tdiv_bd a3 n
  have e0 := IntWalk.i64_in (a0.tdiv n) (by omega)
  have e1 := IntWalk.i64_in (a1.tdiv n) (by omega)
  have e2 := IntWalk.i64_in (a2.tdiv n) (by omega)
  have e3 := IntWalk.i64_in (a3.tdiv n) (by omega)
  clear h0 h1 h2 h3 b0 b1 b2 b3
  go_enter Try.func121, Try.ntmps121
  go_wp2
  go_region
  go_wp2
  exact bodyPost_ret (v := .agg #[.int .i64 (a0.tdiv n), .int .i64 (a1.tdiv n), .int .i64 (a2.tdiv n), .int .i64 (a3.tdiv n)]) (by simp [results, Try.results121, go_sem]) rfl ⟨rfl, by go_grown⟩
theorem squares_f (a0 a1 a2 a3 : Int) (w : World) (h0 : Bn 100000000 a0) (h1 : Bn 100000000 a1) (h2 : Bn 100000000 a2) (h3 : Bn 100000000 a3) :
    Calls Try.prog 119 #[.agg #[.int .i64 a0, .int .i64 a1, .int .i64 a2, .int .i64 a3]] w fun e w' => e = .returned (.int .i64 (nn ⟨a0, a1, a2, a3⟩)) ∧ Below w.heap.size w w' := by
  obtain ⟨m1, m1'⟩ := Bn.mul 10000000000000000 h0 h0 rfl
  obtain ⟨m2, m2'⟩ := Bn.mul 10000000000000000 h1 h1 rfl
  obtain ⟨m3, m3'⟩ := Bn.mul 10000000000000000 h2 h2 rfl
  obtain ⟨m4, m4'⟩ := Bn.mul 10000000000000000 h3 h3 rfl
  clear h0 h1 h2 h3
  go_enter Try.func119, Try.ntmps119
  go_wp2
  go_ret
  exact ⟨rfl, by (repeat (first | (with_reducible exact Below.refl _ _) | (with_reducible exact HB.out) | (with_reducible refine below_draws ?_ _) | (with_reducible refine Below.alloc ?_ (by go_size) _) | (with_reducible refine Below.setCell ?_ (by go_size) _) | (with_reducible refine Below.alloc ?_ (by simp <;> omega) _) | (with_reducible refine Below.setCell ?_ (by simp <;> omega) _)))⟩
theorem norm_f (a0 a1 a2 a3 : Int) (w : World) (h0 : Bn 100000000 a0) (h1 : Bn 100000000 a1) (h2 : Bn 100000000 a2) (h3 : Bn 100000000 a3) :
    Calls Try.prog 68 #[.agg #[.int .i64 a0, .int .i64 a1, .int .i64 a2, .int .i64 a3]] w fun e w' => e = .returned (.int .i64 (N ⟨a0, a1, a2, a3⟩)) ∧ Below w.heap.size w w' := by
  have SQ := Lib.hid (fun W => squares_f a0 a1 a2 a3 W h0 h1 h2 h3)
  have b0 := tdiv_bd (nn ⟨a0, a1, a2, a3⟩) 4
  have b1 : nn ⟨a0, a1, a2, a3⟩ ≤ 40000000000000000 := by
    have := nn_le (a := ⟨a0, a1, a2, a3⟩) (d := 100000000) h0 h1 h2 h3; omega
  have b2 := nn_nonneg ⟨a0, a1, a2, a3⟩
  have e0 := IntWalk.i64_in ((nn ⟨a0, a1, a2, a3⟩).tdiv 4) (by omega)
  clear h0 h1 h2 h3 b0 b1 b2
  go_enter Try.func68, Try.ntmps68
  go_wp2_with fail
  refine (SQ.out _).mono ?_
  rintro e w1 ⟨rfl, hb⟩
  have HB := Lib.hid (below_up (B := w.heap.size) (w := w) hb (by (repeat (first | (with_reducible exact Below.refl _ _) | (with_reducible exact HB.out) | (with_reducible refine below_draws ?_ _) | (with_reducible refine Below.alloc ?_ (by go_size) _) | (with_reducible refine Below.setCell ?_ (by go_size) _) | (with_reducible refine Below.alloc ?_ (by simp <;> omega) _) | (with_reducible refine Below.setCell ?_ (by simp <;> omega) _)))) (by simp))
  clear hb
  go_wp2
  go_ret
  exact ⟨rfl, by (repeat (first | (with_reducible exact Below.refl _ _) | (with_reducible exact HB.out) | (with_reducible refine below_draws ?_ _) | (with_reducible refine Below.alloc ?_ (by go_size) _) | (with_reducible refine Below.setCell ?_ (by go_size) _) | (with_reducible refine Below.alloc ?_ (by simp <;> omega) _) | (with_reducible refine Below.setCell ?_ (by simp <;> omega) _)))⟩
end Go.Proofs.Yteiflfmpkfhkoaa.Rt
