/-
  WALKS: traces; norms of the reference; which elements are integral.
-/
import Derived.Test.YtgbnmnkgelklbaaAlN
import Derived.Test.YtgbnmnkgelklbaaAlR
namespace Go.Proofs.Ytgbnmnkgelklbaa.Al
open Go.RowKit
open Alm
set_option linter.unusedVariables false
set_option linter.unusedSimpArgs false
set_option maxRecDepth 100000
/-- what a walk keeps: cells, and that nothing that was there has turned -/
def K_Nu (n0 n1 n2 n3 d : Int) (b1 R : Nat) (w w' : World) : Prop := KL w [(b1, 0, .int .i64 n0), (b1, 1, .int .i64 n1), (b1, 2, .int .i64 n2), (b1, 3, .int .i64 n3), (b1, 4, .int .i64 d)] [(R, 0), (R, 1)] w'
theorem K_Nu.below {n0 n1 n2 n3 d : Int} {b1 R : Nat} {w w1 w2 : World} (hb : Below w1.heap.size w1 w2) (h : K_Nu n0 n1 n2 n3 d b1 R w w1) : K_Nu n0 n1 n2 n3 d b1 R w w2 := KL.below hb h
theorem K_Nu.draws {n0 n1 n2 n3 d : Int} {b1 R : Nat} {w w1 : World} (n : Nat) (h : K_Nu n0 n1 n2 n3 d b1 R w w1) : K_Nu n0 n1 n2 n3 d b1 R w (w1.drewN n) := KL.draws n h
theorem K_Nu.drew {n0 n1 n2 n3 d : Int} {b1 R : Nat} {w w1 : World} (h : K_Nu n0 n1 n2 n3 d b1 R w w1) : K_Nu n0 n1 n2 n3 d b1 R w w1.drew := KL.draws 1 h
theorem K_Nu.alloc {n0 n1 n2 n3 d : Int} {b1 R : Nat} {w w1 : World} (o : Obj) (h : K_Nu n0 n1 n2 n3 d b1 R w w1) : K_Nu n0 n1 n2 n3 d b1 R w (w1.alloc o) := KL.alloc o h
theorem K_Nu.set {n0 n1 n2 n3 d : Int} {b1 R : Nat} {w w1 : World} (h : K_Nu n0 n1 n2 n3 d b1 R w w1) (b i : Nat) (v : Value) (hb : b ≠ b1 ∧ w.heap.size ≤ b) : K_Nu n0 n1 n2 n3 d b1 R w (w1.setCell ⟨b, i, none⟩ v) :=
  KL.set h b i v (by intro x hx; simp only [List.mem_cons, List.not_mem_nil, or_false] at hx; rcases hx with rfl | rfl | rfl | rfl | rfl <;> simp only [] <;> omega) (by omega)
theorem K_Nu.bel {n0 n1 n2 n3 d : Int} {b1 R : Nat} {w w1 : World} (h : K_Nu n0 n1 n2 n3 d b1 R w w1) : Below w.heap.size w w1 := KL.bel h
theorem K_Nu.cells {n0 n1 n2 n3 d : Int} {b1 R : Nat} {w w' : World} (h : K_Nu n0 n1 n2 n3 d b1 R w w') : w'.cell? ⟨b1, 0, none⟩ = some (.int .i64 n0) ∧ w'.cell? ⟨b1, 1, none⟩ = some (.int .i64 n1) ∧ w'.cell? ⟨b1, 2, none⟩ = some (.int .i64 n2) ∧ w'.cell? ⟨b1, 3, none⟩ = some (.int .i64 n3) ∧ w'.cell? ⟨b1, 4, none⟩ = some (.int .i64 d) ∧ w'.cell? ⟨R, 0, none⟩ = some (cv w' R 0) ∧ w'.frozen? ⟨R, 0, none⟩ = false ∧ w'.cell? ⟨R, 1, none⟩ = some (cv w' R 1) ∧ w'.frozen? ⟨R, 1, none⟩ = false := ⟨h.c (b1, 0, .int .i64 n0) (by simp), h.c (b1, 1, .int .i64 n1) (by simp), h.c (b1, 2, .int .i64 n2) (by simp), h.c (b1, 3, .int .i64 n3) (by simp), h.c (b1, 4, .int .i64 d) (by simp), h.d (R, 0) (by simp), h.f (R, 0) (by simp), h.d (R, 1) (by simp), h.f (R, 1) (by simp)⟩
theorem K_Nu.zs {n0 n1 n2 n3 d : Int} {b1 R : Nat} {w w' : World} (h : K_Nu n0 n1 n2 n3 d b1 R w w') : b1 < w'.heap.size ∧ R < w'.heap.size ∧ True := ⟨KL.z h (x := (b1, 0, .int .i64 n0)) (by simp), KL.zf h (x := (R, 0)) (by simp), trivial⟩
theorem K_Nu.ks {n0 n1 n2 n3 d : Int} {b1 R : Nat} {w w' : World} (h : K_Nu n0 n1 n2 n3 d b1 R w w') : (w'.cell? ⟨b1, 0, none⟩ = some (.int .i64 n0) ∧ w'.cell? ⟨b1, 1, none⟩ = some (.int .i64 n1) ∧ w'.cell? ⟨b1, 2, none⟩ = some (.int .i64 n2) ∧ w'.cell? ⟨b1, 3, none⟩ = some (.int .i64 n3) ∧ w'.cell? ⟨b1, 4, none⟩ = some (.int .i64 d) ∧ w'.cell? ⟨R, 0, none⟩ = some (cv w' R 0) ∧ w'.frozen? ⟨R, 0, none⟩ = false ∧ w'.cell? ⟨R, 1, none⟩ = some (cv w' R 1) ∧ w'.frozen? ⟨R, 1, none⟩ = false) ∧ K_Nu n0 n1 n2 n3 d b1 R w w' := ⟨h.cells, h⟩
/-- what a walk keeps: cells, and that nothing that was there has turned -/
def K_N1 (n0 n1 n2 n3 d : Int) (b1 : Nat) (w w' : World) : Prop := KL w [(b1, 0, .int .i64 n0), (b1, 1, .int .i64 n1), (b1, 2, .int .i64 n2), (b1, 3, .int .i64 n3), (b1, 4, .int .i64 d)] [] w'
theorem K_N1.below {n0 n1 n2 n3 d : Int} {b1 : Nat} {w w1 w2 : World} (hb : Below w1.heap.size w1 w2) (h : K_N1 n0 n1 n2 n3 d b1 w w1) : K_N1 n0 n1 n2 n3 d b1 w w2 := KL.below hb h
theorem K_N1.draws {n0 n1 n2 n3 d : Int} {b1 : Nat} {w w1 : World} (n : Nat) (h : K_N1 n0 n1 n2 n3 d b1 w w1) : K_N1 n0 n1 n2 n3 d b1 w (w1.drewN n) := KL.draws n h
theorem K_N1.drew {n0 n1 n2 n3 d : Int} {b1 : Nat} {w w1 : World} (h : K_N1 n0 n1 n2 n3 d b1 w w1) : K_N1 n0 n1 n2 n3 d b1 w w1.drew := KL.draws 1 h
theorem K_N1.alloc {n0 n1 n2 n3 d : Int} {b1 : Nat} {w w1 : World} (o : Obj) (h : K_N1 n0 n1 n2 n3 d b1 w w1) : K_N1 n0 n1 n2 n3 d b1 w (w1.alloc o) := KL.alloc o h
theorem K_N1.set {n0 n1 n2 n3 d : Int} {b1 : Nat} {w w1 : World} (h : K_N1 n0 n1 n2 n3 d b1 w w1) (b i : Nat) (v : Value) (hb : b ≠ b1 ∧ w.heap.size ≤ b) : K_N1 n0 n1 n2 n3 d b1 w (w1.setCell ⟨b, i, none⟩ v) :=
  KL.set h b i v (by intro x hx; simp only [List.mem_cons, List.not_mem_nil, or_false] at hx; rcases hx with rfl | rfl | rfl | rfl | rfl <;> simp only [] <;> omega) (by omega)
theorem K_N1.bel {n0 n1 n2 n3 d : Int} {b1 : Nat} {w w1 : World} (h : K_N1 n0 n1 n2 n3 d b1 w w1) : Below w.heap.size w w1 := KL.bel h
theorem K_N1.cells {n0 n1 n2 n3 d : Int} {b1 : Nat} {w w' : World} (h : K_N1 n0 n1 n2 n3 d b1 w w') : w'.cell? ⟨b1, 0, none⟩ = some (.int .i64 n0) ∧ w'.cell? ⟨b1, 1, none⟩ = some (.int .i64 n1) ∧ w'.cell? ⟨b1, 2, none⟩ = some (.int .i64 n2) ∧ w'.cell? ⟨b1, 3, none⟩ = some (.int .i64 n3) ∧ w'.cell? ⟨b1, 4, none⟩ = some (.int .i64 d) := ⟨h.c (b1, 0, .int .i64 n0) (by simp), h.c (b1, 1, .int .i64 n1) (by simp), h.c (b1, 2, .int .i64 n2) (by simp), h.c (b1, 3, .int .i64 n3) (by simp), h.c (b1, 4, .int .i64 d) (by simp)⟩
theorem K_N1.zs {n0 n1 n2 n3 d : Int} {b1 : Nat} {w w' : World} (h : K_N1 n0 n1 n2 n3 d b1 w w') : b1 < w'.heap.size ∧ True := ⟨KL.z h (x := (b1, 0, .int .i64 n0)) (by simp), trivial⟩
theorem K_N1.ks {n0 n1 n2 n3 d : Int} {b1 : Nat} {w w' : World} (h : K_N1 n0 n1 n2 n3 d b1 w w') : (w'.cell? ⟨b1, 0, none⟩ = some (.int .i64 n0) ∧ w'.cell? ⟨b1, 1, none⟩ = some (.int .i64 n1) ∧ w'.cell? ⟨b1, 2, none⟩ = some (.int .i64 n2) ∧ w'.cell? ⟨b1, 3, none⟩ = some (.int .i64 n3) ∧ w'.cell? ⟨b1, 4, none⟩ = some (.int .i64 d)) ∧ K_N1 n0 n1 n2 n3 d b1 w w' := ⟨h.cells, h⟩
set_option maxHeartbeats 1600000 in
theorem trace_v (n0 n1 n2 n3 d : Int) (w : World) (hq : chkQ n0 n1 n2 n3 d = 0) :
    Calls Try.prog 52 #[.agg #[.int .i64 n0, .int .i64 n1, .int .i64 n2, .int .i64 n3, .int .i64 d]] w fun e w' => e = .returned (.agg #[.int .i64 (fn (2 * n0) d), .int .i64 (fd (2 * n0) d)]) ∧ Below w.heap.size w w' := by
  obtain ⟨a0, a1, a2, a3, a4, a5⟩ := qin_of hq
  have FR := Lib.hid (fun W => fraction_any (2 * n0) d W ⟨by omega, by omega⟩ ⟨by omega, by omega⟩)
  have EF := Lib.hid (IntWalk.i64_in (2 * n0) (by omega))
  obtain ⟨k0, hk0⟩ : ∃ k, fn (2 * n0) d = k := ⟨_, rfl⟩
  obtain ⟨k1, hk1⟩ : ∃ k, fd (2 * n0) d = k := ⟨_, rfl⟩
  rw [hk0, hk1] at FR ⊢
  clear hq a1 a2 a3 a4 a5 hk0 hk1
  have ef := EF.out
  go_enter Try.func52, Try.ntmps52
  go_wp2_with fail
  refine (FR.out _).mono ?_
  rintro e w1 ⟨rfl, hb⟩
  clear ef
  have hK : K_Nu n0 n1 n2 n3 d w.heap.size (w.heap.size + 1) w w1 := K_Nu.below hb ⟨by simp [go_sem], by simp [go_sem], by simp [go_sem], by (repeat (first | (with_reducible exact Below.refl _ _) | (with_reducible exact HB.out) | (with_reducible refine below_draws ?_ _) | (with_reducible refine Below.alloc ?_ (by go_size) _) | (with_reducible refine Below.setCell ?_ (by go_size) _) | (with_reducible refine Below.alloc ?_ (by simp <;> omega) _) | (with_reducible refine Below.setCell ?_ (by simp <;> omega) _)))⟩
  clear hb
  obtain ⟨c0_, c1_, c2_, c3_, c4_, d0_, f0_, d1_, f1_⟩ := K_Nu.cells hK
  have HB := Lib.hid (K_Nu.bel hK)
  clear hK
  go_wp2
  exact bodyPost_ret (v := .agg #[.int .i64 k0, .int .i64 k1]) (by simp [results, Try.results52, go_sem, c0_, c1_, c2_, c3_, c4_, d0_, f0_, d1_, f1_]) rfl ⟨rfl, by (repeat (first | (with_reducible exact Below.refl _ _) | (with_reducible exact HB.out) | (with_reducible refine below_draws ?_ _) | (with_reducible refine Below.alloc ?_ (by go_size) _) | (with_reducible refine Below.setCell ?_ (by go_size) _) | (with_reducible refine Below.alloc ?_ (by simp <;> omega) _) | (with_reducible refine Below.setCell ?_ (by simp <;> omega) _)))⟩
set_option maxHeartbeats 1600000 in
theorem Trace_v (n0 n1 n2 n3 d : Int) (w : World) (hq : chkQ n0 n1 n2 n3 d = 0) :
    Calls Try.prog 22 #[.agg #[.int .i64 n0, .int .i64 n1, .int .i64 n2, .int .i64 n3, .int .i64 d]] w fun e w' => e = .returned (.tuple #[.agg #[.int .i64 (fn (2 * n0) d), .int .i64 (fd (2 * n0) d)], .int .i64 0]) ∧ Below w.heap.size w w' := by
  have TV := Lib.hid (fun W => trace_v n0 n1 n2 n3 d W hq)
  have CK := Lib.hid (fun W => CheckQuat_ok n0 n1 n2 n3 d W (chkQ_ok hq))
  obtain ⟨k0, hk0⟩ : ∃ k, fn (2 * n0) d = k := ⟨_, rfl⟩
  obtain ⟨k1, hk1⟩ : ∃ k, fd (2 * n0) d = k := ⟨_, rfl⟩
  rw [hk0, hk1] at TV ⊢
  clear hq hk0 hk1
  go_enter Try.func22, Try.ntmps22
  go_wp2_with fail
  refine (CK.out _).mono ?_
  rintro e w1 ⟨rfl, hb⟩
  have hK : K_Nu n0 n1 n2 n3 d w.heap.size (w.heap.size + 1) w w1 := K_Nu.below hb ⟨by simp [go_sem], by simp [go_sem], by simp [go_sem], by (repeat (first | (with_reducible exact Below.refl _ _) | (with_reducible exact HB.out) | (with_reducible refine below_draws ?_ _) | (with_reducible refine Below.alloc ?_ (by go_size) _) | (with_reducible refine Below.setCell ?_ (by go_size) _) | (with_reducible refine Below.alloc ?_ (by simp <;> omega) _) | (with_reducible refine Below.setCell ?_ (by simp <;> omega) _)))⟩
  clear hb
  obtain ⟨c0_, c1_, c2_, c3_, c4_, d0_, f0_, d1_, f1_⟩ := K_Nu.cells hK; obtain ⟨z0_, z1_, -⟩ := K_Nu.zs hK; have HK := Lib.hid hK; clear hK
  go_wp2_with fail
  refine (TV.out _).mono ?_
  rintro e w2 ⟨rfl, hb⟩
  clear c0_ c1_ c2_ c3_ c4_ d0_ f0_ d1_ f1_ z0_ z1_
  have hK := K_Nu.below hb HK.out
  clear hb HK
  obtain ⟨c0_, c1_, c2_, c3_, c4_, d0_, f0_, d1_, f1_⟩ := K_Nu.cells hK
  have HB := Lib.hid (K_Nu.bel hK)
  clear hK
  go_wp2
  exact bodyPost_ret (v := .tuple #[.agg #[.int .i64 k0, .int .i64 k1], .int .i64 0]) (by simp [results, Try.results22, go_sem, c0_, c1_, c2_, c3_, c4_, d0_, f0_, d1_, f1_]) rfl ⟨rfl, by (repeat (first | (with_reducible exact Below.refl _ _) | (with_reducible exact HB.out) | (with_reducible refine below_draws ?_ _) | (with_reducible refine Below.alloc ?_ (by go_size) _) | (with_reducible refine Below.setCell ?_ (by go_size) _) | (with_reducible refine Below.alloc ?_ (by simp <;> omega) _) | (with_reducible refine Below.setCell ?_ (by simp <;> omega) _)))⟩
theorem Trace_bad (n0 n1 n2 n3 d : Int) (w : World) (h : qB ⟨n0, n1, n2, n3, d⟩ = false) :
    Calls Try.prog 22 #[.agg #[.int .i64 n0, .int .i64 n1, .int .i64 n2, .int .i64 n3, .int .i64 d]] w fun e w' => e = .returned (.tuple #[.agg #[.int .i64 0, .int .i64 0], .int .i64 3]) ∧ Below w.heap.size w w' := by
  go_enter Try.func22, Try.ntmps22
  go_wp2_with fail
  refine (CheckQuat_bad _ _ _ _ _ _ h).mono ?_
  rintro e w1 ⟨rfl, hb⟩
  have hK : K_Nu n0 n1 n2 n3 d w.heap.size (w.heap.size + 1) w w1 := K_Nu.below hb ⟨by simp [go_sem], by simp [go_sem], by simp [go_sem], by (repeat (first | (with_reducible exact Below.refl _ _) | (with_reducible exact HB.out) | (with_reducible refine below_draws ?_ _) | (with_reducible refine Below.alloc ?_ (by go_size) _) | (with_reducible refine Below.setCell ?_ (by go_size) _) | (with_reducible refine Below.alloc ?_ (by simp <;> omega) _) | (with_reducible refine Below.setCell ?_ (by simp <;> omega) _)))⟩
  clear hb
  obtain ⟨c0_, c1_, c2_, c3_, c4_, d0_, f0_, d1_, f1_⟩ := K_Nu.cells hK
  have HB := Lib.hid (K_Nu.bel hK)
  clear hK
  go_wp2
  exact bodyPost_ret (v := .tuple #[.agg #[.int .i64 0, .int .i64 0], .int .i64 3]) (by simp [results, Try.results22, go_sem, c0_, c1_, c2_, c3_, c4_, d0_, f0_, d1_, f1_]) rfl ⟨rfl, by (repeat (first | (with_reducible exact Below.refl _ _) | (with_reducible exact HB.out) | (with_reducible refine below_draws ?_ _) | (with_reducible refine Below.alloc ?_ (by go_size) _) | (with_reducible refine Below.setCell ?_ (by go_size) _) | (with_reducible refine Below.alloc ?_ (by simp <;> omega) _) | (with_reducible refine Below.setCell ?_ (by simp <;> omega) _)))⟩
end Go.Proofs.Ytgbnmnkgelklbaa.Al
