/-
  WALKS: norms of valid elements.
-/
import Derived.Test.YtgbnmnkgelklbaaAlP
import Derived.Test.YtgbnmnkgelklbaaAlB
import Derived.Test.YtgbnmnkgelklbaaLw0
namespace Go.Proofs.Ytgbnmnkgelklbaa.Al
open Go.RowKit
open Alm
set_option linter.unusedVariables false
set_option linter.unusedSimpArgs false
set_option maxRecDepth 100000
theorem nm_pw (A B n0 n1 n2 n3 : Int) : pw A B n0 n1 n2 n3 n0 (-n1) (-n2) (-n3) = nm A B n0 n1 n2 n3 := by unfold pw nm; grind
/-- what a walk keeps: cells, and that nothing that was there has turned -/
def K_Nb (n0 n1 n2 n3 A B : Int) (b1 b2 : Nat) (w w' : World) : Prop := KL w [(b1, 0, .int .i64 n0), (b1, 1, .int .i64 n1), (b1, 2, .int .i64 n2), (b1, 3, .int .i64 n3), (b2, 0, .int .i64 A), (b2, 1, .int .i64 B)] [] w'
theorem K_Nb.below {n0 n1 n2 n3 A B : Int} {b1 b2 : Nat} {w w1 w2 : World} (hb : Below w1.heap.size w1 w2) (h : K_Nb n0 n1 n2 n3 A B b1 b2 w w1) : K_Nb n0 n1 n2 n3 A B b1 b2 w w2 := KL.below hb h
theorem K_Nb.draws {n0 n1 n2 n3 A B : Int} {b1 b2 : Nat} {w w1 : World} (n : Nat) (h : K_Nb n0 n1 n2 n3 A B b1 b2 w w1) : K_Nb n0 n1 n2 n3 A B b1 b2 w (w1.drewN n) := KL.draws n h
theorem K_Nb.drew {n0 n1 n2 n3 A B : Int} {b1 b2 : Nat} {w w1 : World} (h : K_Nb n0 n1 n2 n3 A B b1 b2 w w1) : K_Nb n0 n1 n2 n3 A B b1 b2 w w1.drew := KL.draws 1 h
theorem K_Nb.alloc {n0 n1 n2 n3 A B : Int} {b1 b2 : Nat} {w w1 : World} (o : Obj) (h : K_Nb n0 n1 n2 n3 A B b1 b2 w w1) : K_Nb n0 n1 n2 n3 A B b1 b2 w (w1.alloc o) := KL.alloc o h
theorem K_Nb.set {n0 n1 n2 n3 A B : Int} {b1 b2 : Nat} {w w1 : World} (h : K_Nb n0 n1 n2 n3 A B b1 b2 w w1) (b i : Nat) (v : Value) (hb : b ≠ b1 ∧ b ≠ b2 ∧ w.heap.size ≤ b) : K_Nb n0 n1 n2 n3 A B b1 b2 w (w1.setCell ⟨b, i, none⟩ v) :=
  KL.set h b i v (by intro x hx; simp only [List.mem_cons, List.not_mem_nil, or_false] at hx; rcases hx with rfl | rfl | rfl | rfl | rfl | rfl <;> simp only [] <;> omega) (by omega)
theorem K_Nb.bel {n0 n1 n2 n3 A B : Int} {b1 b2 : Nat} {w w1 : World} (h : K_Nb n0 n1 n2 n3 A B b1 b2 w w1) : Below w.heap.size w w1 := KL.bel h
theorem K_Nb.cells {n0 n1 n2 n3 A B : Int} {b1 b2 : Nat} {w w' : World} (h : K_Nb n0 n1 n2 n3 A B b1 b2 w w') : w'.cell? ⟨b1, 0, none⟩ = some (.int .i64 n0) ∧ w'.cell? ⟨b1, 1, none⟩ = some (.int .i64 n1) ∧ w'.cell? ⟨b1, 2, none⟩ = some (.int .i64 n2) ∧ w'.cell? ⟨b1, 3, none⟩ = some (.int .i64 n3) ∧ w'.cell? ⟨b2, 0, none⟩ = some (.int .i64 A) ∧ w'.cell? ⟨b2, 1, none⟩ = some (.int .i64 B) := ⟨h.c (b1, 0, .int .i64 n0) (by simp), h.c (b1, 1, .int .i64 n1) (by simp), h.c (b1, 2, .int .i64 n2) (by simp), h.c (b1, 3, .int .i64 n3) (by simp), h.c (b2, 0, .int .i64 A) (by simp), h.c (b2, 1, .int .i64 B) (by simp)⟩
theorem K_Nb.zs {n0 n1 n2 n3 A B : Int} {b1 b2 : Nat} {w w' : World} (h : K_Nb n0 n1 n2 n3 A B b1 b2 w w') : b1 < w'.heap.size ∧ b2 < w'.heap.size ∧ True := ⟨KL.z h (x := (b1, 0, .int .i64 n0)) (by simp), KL.z h (x := (b2, 0, .int .i64 A)) (by simp), trivial⟩
theorem K_Nb.ks {n0 n1 n2 n3 A B : Int} {b1 b2 : Nat} {w w' : World} (h : K_Nb n0 n1 n2 n3 A B b1 b2 w w') : (w'.cell? ⟨b1, 0, none⟩ = some (.int .i64 n0) ∧ w'.cell? ⟨b1, 1, none⟩ = some (.int .i64 n1) ∧ w'.cell? ⟨b1, 2, none⟩ = some (.int .i64 n2) ∧ w'.cell? ⟨b1, 3, none⟩ = some (.int .i64 n3) ∧ w'.cell? ⟨b2, 0, none⟩ = some (.int .i64 A) ∧ w'.cell? ⟨b2, 1, none⟩ = some (.int .i64 B)) ∧ K_Nb n0 n1 n2 n3 A B b1 b2 w w' := ⟨h.cells, h⟩
set_option maxHeartbeats 1600000 in
theorem nnorm_any (A B n0 n1 n2 n3 : Int) (w : World) (hA : Bn 1000 A) (hB : Bn 1000 B) (a0 : Bn 1000000 n0) (a1 : Bn 1000000 n1) (a2 : Bn 1000000 n2) (a3 : Bn 1000000 n3) :
    Calls Try.prog 62 #[.agg #[.int .i64 n0, .int .i64 n1, .int .i64 n2, .int .i64 n3], .agg #[.int .i64 A, .int .i64 B]] w fun e w' => e = .returned (.int .i64 (nm A B n0 n1 n2 n3)) ∧ Below w.heap.size w w' := by
  have TM := Lib.hid (fun W => times_any A B n0 n1 n2 n3 n0 (-n1) (-n2) (-n3) W hA hB a0 a1 a2 a3 a0 ⟨by omega, by omega⟩ ⟨by omega, by omega⟩ ⟨by omega, by omega⟩)
  have CJ := Lib.hid (fun W => conjugate_any n0 n1 n2 n3 W (by omega) (by omega) (by omega) (by omega) (by omega) (by omega))
  rw [nm_pw] at TM
  have i0 := Try.i0 (.int .i64 (nm A B n0 n1 n2 n3)) (.int .i64 (px B n0 n1 n2 n3 n0 (-n1) (-n2) (-n3))) (.int .i64 (py A n0 n1 n2 n3 n0 (-n1) (-n2) (-n3))) (.int .i64 (pz n0 n1 n2 n3 n0 (-n1) (-n2) (-n3)))
  clear hA hB a0 a1 a2 a3
  go_enter Try.func62, Try.ntmps62
  go_wp2_with fail
  have hk : K_Nb n0 n1 n2 n3 A B w.heap.size (w.heap.size + 1) w ((w.alloc (.cells #[.int .i64 n0, .int .i64 n1, .int .i64 n2, .int .i64 n3] 73)).alloc (.cells #[.int .i64 A, .int .i64 B] 23)) := ⟨by simp [go_sem], by simp [go_sem], by simp [go_sem], by (repeat (first | (with_reducible exact Below.refl _ _) | (with_reducible exact HB.out) | (with_reducible refine below_draws ?_ _) | (with_reducible refine Below.alloc ?_ (by go_size) _) | (with_reducible refine Below.setCell ?_ (by go_size) _) | (with_reducible refine Below.alloc ?_ (by simp <;> omega) _) | (with_reducible refine Below.setCell ?_ (by simp <;> omega) _)))⟩
  go_region_held3 (fun w' => (w'.cell? ⟨w.heap.size, 0, none⟩ = some (.int .i64 n0) ∧ w'.cell? ⟨w.heap.size, 1, none⟩ = some (.int .i64 n1) ∧ w'.cell? ⟨w.heap.size, 2, none⟩ = some (.int .i64 n2) ∧ w'.cell? ⟨w.heap.size, 3, none⟩ = some (.int .i64 n3) ∧ w'.cell? ⟨(w.heap.size + 1), 0, none⟩ = some (.int .i64 A) ∧ w'.cell? ⟨(w.heap.size + 1), 1, none⟩ = some (.int .i64 B)) ∧ K_Nb n0 n1 n2 n3 A B w.heap.size (w.heap.size + 1) w w') ((refine K_Nb.ks ?_; repeat (first | (with_reducible assumption) | (with_reducible refine K_Nb.draws _ ?_) | (with_reducible refine K_Nb.drew ?_) | (with_reducible refine K_Nb.alloc _ ?_) | (with_reducible refine K_Nb.set ?_ _ _ _ (by omega)))))
    (first
      | (go_at_call 72; (with_reducible refine (CJ.out _).mono ?_); rintro e w' ⟨rfl, hbel⟩; have hk' := K_Nb.below hbel (And.right (by assumption)); clear hbel)
      | (go_at_call 64; (with_reducible refine (TM.out _).mono ?_); rintro e w' ⟨rfl, hbel⟩; have hk' := K_Nb.below hbel (And.right (by assumption)); clear hbel))
  all_goals
    go_wp2
    go_ret
    exact ⟨rfl, K_Nb.bel hk'⟩
/-- what a walk keeps: cells, and that nothing that was there has turned -/
def K_Nc (A B n0 n1 n2 n3 d : Int) (b1 b2 R : Nat) (w w' : World) : Prop := KL w [(b1, 0, .int .i64 A), (b1, 1, .int .i64 B), (b2, 0, .int .i64 n0), (b2, 1, .int .i64 n1), (b2, 2, .int .i64 n2), (b2, 3, .int .i64 n3), (b2, 4, .int .i64 d)] [(R, 0), (R, 1)] w'
theorem K_Nc.below {A B n0 n1 n2 n3 d : Int} {b1 b2 R : Nat} {w w1 w2 : World} (hb : Below w1.heap.size w1 w2) (h : K_Nc A B n0 n1 n2 n3 d b1 b2 R w w1) : K_Nc A B n0 n1 n2 n3 d b1 b2 R w w2 := KL.below hb h
theorem K_Nc.draws {A B n0 n1 n2 n3 d : Int} {b1 b2 R : Nat} {w w1 : World} (n : Nat) (h : K_Nc A B n0 n1 n2 n3 d b1 b2 R w w1) : K_Nc A B n0 n1 n2 n3 d b1 b2 R w (w1.drewN n) := KL.draws n h
theorem K_Nc.drew {A B n0 n1 n2 n3 d : Int} {b1 b2 R : Nat} {w w1 : World} (h : K_Nc A B n0 n1 n2 n3 d b1 b2 R w w1) : K_Nc A B n0 n1 n2 n3 d b1 b2 R w w1.drew := KL.draws 1 h
theorem K_Nc.alloc {A B n0 n1 n2 n3 d : Int} {b1 b2 R : Nat} {w w1 : World} (o : Obj) (h : K_Nc A B n0 n1 n2 n3 d b1 b2 R w w1) : K_Nc A B n0 n1 n2 n3 d b1 b2 R w (w1.alloc o) := KL.alloc o h
theorem K_Nc.set {A B n0 n1 n2 n3 d : Int} {b1 b2 R : Nat} {w w1 : World} (h : K_Nc A B n0 n1 n2 n3 d b1 b2 R w w1) (b i : Nat) (v : Value) (hb : b ≠ b1 ∧ b ≠ b2 ∧ w.heap.size ≤ b) : K_Nc A B n0 n1 n2 n3 d b1 b2 R w (w1.setCell ⟨b, i, none⟩ v) :=
  KL.set h b i v (by intro x hx; simp only [List.mem_cons, List.not_mem_nil, or_false] at hx; rcases hx with rfl | rfl | rfl | rfl | rfl | rfl | rfl <;> simp only [] <;> omega) (by omega)
theorem K_Nc.bel {A B n0 n1 n2 n3 d : Int} {b1 b2 R : Nat} {w w1 : World} (h : K_Nc A B n0 n1 n2 n3 d b1 b2 R w w1) : Below w.heap.size w w1 := KL.bel h
theorem K_Nc.cells {A B n0 n1 n2 n3 d : Int} {b1 b2 R : Nat} {w w' : World} (h : K_Nc A B n0 n1 n2 n3 d b1 b2 R w w') : w'.cell? ⟨b1, 0, none⟩ = some (.int .i64 A) ∧ w'.cell? ⟨b1, 1, none⟩ = some (.int .i64 B) ∧ w'.cell? ⟨b2, 0, none⟩ = some (.int .i64 n0) ∧ w'.cell? ⟨b2, 1, none⟩ = some (.int .i64 n1) ∧ w'.cell? ⟨b2, 2, none⟩ = some (.int .i64 n2) ∧ w'.cell? ⟨b2, 3, none⟩ = some (.int .i64 n3) ∧ w'.cell? ⟨b2, 4, none⟩ = some (.int .i64 d) ∧ w'.cell? ⟨R, 0, none⟩ = some (cv w' R 0) ∧ w'.frozen? ⟨R, 0, none⟩ = false ∧ w'.cell? ⟨R, 1, none⟩ = some (cv w' R 1) ∧ w'.frozen? ⟨R, 1, none⟩ = false := ⟨h.c (b1, 0, .int .i64 A) (by simp), h.c (b1, 1, .int .i64 B) (by simp), h.c (b2, 0, .int .i64 n0) (by simp), h.c (b2, 1, .int .i64 n1) (by simp), h.c (b2, 2, .int .i64 n2) (by simp), h.c (b2, 3, .int .i64 n3) (by simp), h.c (b2, 4, .int .i64 d) (by simp), h.d (R, 0) (by simp), h.f (R, 0) (by simp), h.d (R, 1) (by simp), h.f (R, 1) (by simp)⟩
theorem K_Nc.zs {A B n0 n1 n2 n3 d : Int} {b1 b2 R : Nat} {w w' : World} (h : K_Nc A B n0 n1 n2 n3 d b1 b2 R w w') : b1 < w'.heap.size ∧ b2 < w'.heap.size ∧ R < w'.heap.size ∧ True := ⟨KL.z h (x := (b1, 0, .int .i64 A)) (by simp), KL.z h (x := (b2, 0, .int .i64 n0)) (by simp), KL.zf h (x := (R, 0)) (by simp), trivial⟩
theorem K_Nc.ks {A B n0 n1 n2 n3 d : Int} {b1 b2 R : Nat} {w w' : World} (h : K_Nc A B n0 n1 n2 n3 d b1 b2 R w w') : (w'.cell? ⟨b1, 0, none⟩ = some (.int .i64 A) ∧ w'.cell? ⟨b1, 1, none⟩ = some (.int .i64 B) ∧ w'.cell? ⟨b2, 0, none⟩ = some (.int .i64 n0) ∧ w'.cell? ⟨b2, 1, none⟩ = some (.int .i64 n1) ∧ w'.cell? ⟨b2, 2, none⟩ = some (.int .i64 n2) ∧ w'.cell? ⟨b2, 3, none⟩ = some (.int .i64 n3) ∧ w'.cell? ⟨b2, 4, none⟩ = some (.int .i64 d) ∧ w'.cell? ⟨R, 0, none⟩ = some (cv w' R 0) ∧ w'.frozen? ⟨R, 0, none⟩ = false ∧ w'.cell? ⟨R, 1, none⟩ = some (cv w' R 1) ∧ w'.frozen? ⟨R, 1, none⟩ = false) ∧ K_Nc A B n0 n1 n2 n3 d b1 b2 R w w' := ⟨h.cells, h⟩
theorem nm_bd {A B n0 n1 n2 n3 : Int} (hA : Bn 1000 A) (hB : Bn 1000 B) (a0 : Bn 1000000 n0) (a1 : Bn 1000000 n1) (a2 : Bn 1000000 n2) (a3 : Bn 1000000 n3) : Bn 1002001000000000000 (nm A B n0 n1 n2 n3) := by
  have := (mul_bds hA hB a0 a1 a2 a3 a0 (m1 := -n1) (m2 := -n2) (m3 := -n3) ⟨by omega, by omega⟩ ⟨by omega, by omega⟩ ⟨by omega, by omega⟩).1
  rw [nm_pw] at this
  exact this
set_option maxHeartbeats 1600000 in
theorem norm_v (A B n0 n1 n2 n3 d : Int) (w : World) (hA : chkA A B = 0) (hq : chkQ n0 n1 n2 n3 d = 0) :
    Calls Try.prog 40 #[.agg #[.int .i64 A, .int .i64 B], .agg #[.int .i64 n0, .int .i64 n1, .int .i64 n2, .int .i64 n3, .int .i64 d]] w fun e w' => e = .returned (.agg #[.int .i64 (fn (nm A B n0 n1 n2 n3) (d * d)), .int .i64 (fd (nm A B n0 n1 n2 n3) (d * d))]) ∧ Below w.heap.size w w' := by
  obtain ⟨a0, a1, a2, a3, a4, a5⟩ := qin_of hq
  have NN := Lib.hid (fun W => nnorm_any A B n0 n1 n2 n3 W (Bn_A hA).1 (Bn_A hA).2 a0 a1 a2 a3)
  have nb := nm_bd (Bn_A hA).1 (Bn_A hA).2 a0 a1 a2 a3
  have dd := Bn.mul (m := 1000000) (n := 1000000) (a := d) (b := d) 1000000000000 ⟨by omega, by omega⟩ ⟨by omega, by omega⟩ rfl
  have dp : 0 < d * d := Int.mul_pos (by omega) (by omega)
  have FR := Lib.hid (fun W => fraction_any (nm A B n0 n1 n2 n3) (d * d) W ⟨by omega, by omega⟩ ⟨dp, by omega⟩)
  have EF := Lib.hid (IntWalk.i64_in (d * d) (by omega))
  obtain ⟨k0, hk0⟩ : ∃ k, fn (nm A B n0 n1 n2 n3) (d * d) = k := ⟨_, rfl⟩
  obtain ⟨k1, hk1⟩ : ∃ k, fd (nm A B n0 n1 n2 n3) (d * d) = k := ⟨_, rfl⟩
  rw [hk0, hk1] at FR ⊢
  obtain ⟨dl, du⟩ := dd
  clear hA hq a0 a1 a2 a3 a4 a5 nb hk0 hk1
  go_enter Try.func40, Try.ntmps40
  go_wp2_with fail
  have hk : K_Nc A B n0 n1 n2 n3 d w.heap.size (w.heap.size + 1) (w.heap.size + 2) w (((w.alloc (.cells #[.int .i64 A, .int .i64 B] 23)).alloc (.cells #[.int .i64 n0, .int .i64 n1, .int .i64 n2, .int .i64 n3, .int .i64 d] 35)).alloc (.cells #[.int .i64 0, .int .i64 0] 39)) := ⟨by simp [go_sem], by simp [go_sem], by simp [go_sem], by (repeat (first | (with_reducible exact Below.refl _ _) | (with_reducible exact HB.out) | (with_reducible refine below_draws ?_ _) | (with_reducible refine Below.alloc ?_ (by go_size) _) | (with_reducible refine Below.setCell ?_ (by go_size) _) | (with_reducible refine Below.alloc ?_ (by simp <;> omega) _) | (with_reducible refine Below.setCell ?_ (by simp <;> omega) _)))⟩
  have ef := EF.out
  go_region_held3 (fun w' => (w'.cell? ⟨w.heap.size, 0, none⟩ = some (.int .i64 A) ∧ w'.cell? ⟨w.heap.size, 1, none⟩ = some (.int .i64 B) ∧ w'.cell? ⟨(w.heap.size + 1), 0, none⟩ = some (.int .i64 n0) ∧ w'.cell? ⟨(w.heap.size + 1), 1, none⟩ = some (.int .i64 n1) ∧ w'.cell? ⟨(w.heap.size + 1), 2, none⟩ = some (.int .i64 n2) ∧ w'.cell? ⟨(w.heap.size + 1), 3, none⟩ = some (.int .i64 n3) ∧ w'.cell? ⟨(w.heap.size + 1), 4, none⟩ = some (.int .i64 d) ∧ w'.cell? ⟨(w.heap.size + 2), 0, none⟩ = some (cv w' ((w.heap.size + 2)) 0) ∧ w'.frozen? ⟨(w.heap.size + 2), 0, none⟩ = false ∧ w'.cell? ⟨(w.heap.size + 2), 1, none⟩ = some (cv w' ((w.heap.size + 2)) 1) ∧ w'.frozen? ⟨(w.heap.size + 2), 1, none⟩ = false) ∧ K_Nc A B n0 n1 n2 n3 d w.heap.size (w.heap.size + 1) (w.heap.size + 2) w w') ((refine K_Nc.ks ?_; repeat (first | (with_reducible assumption) | (with_reducible refine K_Nc.draws _ ?_) | (with_reducible refine K_Nc.drew ?_) | (with_reducible refine K_Nc.alloc _ ?_) | (with_reducible refine K_Nc.set ?_ _ _ _ (by omega)))))
    (first
      | (go_at_call 60; (with_reducible refine (numeratorsOf_any _ _ _ _ _ _).mono ?_); rintro e w' ⟨rfl, hbel⟩; have hk' := K_Nc.below hbel (And.right (by assumption)); clear hbel)
      | (go_at_call 62; (with_reducible refine (NN.out _).mono ?_); rintro e w' ⟨rfl, hbel⟩; have hk' := K_Nc.below hbel (And.right (by assumption)); clear hbel)
      | (go_at_call 61; (with_reducible refine (FR.out _).mono ?_); rintro e w' ⟨rfl, hbel⟩; have hk' := K_Nc.below hbel (And.right (by assumption)); clear hbel))
  all_goals
    clear ef
    go_wp2
    (rename_i hh_; clear hh_; obtain ⟨c0_, c1_, c2_, c3_, c4_, c5_, c6_, d0_, f0_, d1_, f1_⟩ := K_Nc.cells hk'; have HB := Lib.hid (K_Nc.bel hk'))
    exact bodyPost_ret (v := .agg #[.int .i64 k0, .int .i64 k1]) (by simp [results, Try.results40, go_sem, c0_, c1_, c2_, c3_, c4_, c5_, c6_, d0_, f0_, d1_, f1_]) rfl ⟨rfl, by (repeat (first | (with_reducible exact Below.refl _ _) | (with_reducible exact HB.out) | (with_reducible refine below_draws ?_ _) | (with_reducible refine Below.alloc ?_ (by go_size) _) | (with_reducible refine Below.setCell ?_ (by go_size) _) | (with_reducible refine Below.alloc ?_ (by simp <;> omega) _) | (with_reducible refine Below.setCell ?_ (by simp <;> omega) _)))⟩
set_option maxHeartbeats 1600000 in
theorem Norm_v (A B n0 n1 n2 n3 d : Int) (w : World) (hA : chkA A B = 0) (hq : chkQ n0 n1 n2 n3 d = 0) :
    Calls Try.prog 13 #[.agg #[.int .i64 A, .int .i64 B], .agg #[.int .i64 n0, .int .i64 n1, .int .i64 n2, .int .i64 n3, .int .i64 d]] w fun e w' => e = .returned (.tuple #[.agg #[.int .i64 (fn (nm A B n0 n1 n2 n3) (d * d)), .int .i64 (fd (nm A B n0 n1 n2 n3) (d * d))], .int .i64 0]) ∧ Below w.heap.size w w' := by
  have NV := Lib.hid (fun W => norm_v A B n0 n1 n2 n3 d W hA hq)
  have ok : (or2 (chkA A B) (chkQ n0 n1 n2 n3 d) != 0) = false := by rw [or2_ok hA hq]; rfl
  obtain ⟨k0, hk0⟩ : ∃ k, fn (nm A B n0 n1 n2 n3) (d * d) = k := ⟨_, rfl⟩
  obtain ⟨k1, hk1⟩ : ∃ k, fd (nm A B n0 n1 n2 n3) (d * d) = k := ⟨_, rfl⟩
  rw [hk0, hk1] at NV ⊢
  clear hA hq hk0 hk1
  go_enter Try.func13, Try.ntmps13
  go_wp2_with fail
  have hk : K_Nc A B n0 n1 n2 n3 d w.heap.size (w.heap.size + 1) (w.heap.size + 2) w (((w.alloc (.cells #[.int .i64 A, .int .i64 B] 23)).alloc (.cells #[.int .i64 n0, .int .i64 n1, .int .i64 n2, .int .i64 n3, .int .i64 d] 35)).alloc (.cells #[.int .i64 0, .int .i64 0] 39)) := ⟨by simp [go_sem], by simp [go_sem], by simp [go_sem], by (repeat (first | (with_reducible exact Below.refl _ _) | (with_reducible exact HB.out) | (with_reducible refine below_draws ?_ _) | (with_reducible refine Below.alloc ?_ (by go_size) _) | (with_reducible refine Below.setCell ?_ (by go_size) _) | (with_reducible refine Below.alloc ?_ (by simp <;> omega) _) | (with_reducible refine Below.setCell ?_ (by simp <;> omega) _)))⟩
  go_region_held3 (fun w' => (w'.cell? ⟨w.heap.size, 0, none⟩ = some (.int .i64 A) ∧ w'.cell? ⟨w.heap.size, 1, none⟩ = some (.int .i64 B) ∧ w'.cell? ⟨(w.heap.size + 1), 0, none⟩ = some (.int .i64 n0) ∧ w'.cell? ⟨(w.heap.size + 1), 1, none⟩ = some (.int .i64 n1) ∧ w'.cell? ⟨(w.heap.size + 1), 2, none⟩ = some (.int .i64 n2) ∧ w'.cell? ⟨(w.heap.size + 1), 3, none⟩ = some (.int .i64 n3) ∧ w'.cell? ⟨(w.heap.size + 1), 4, none⟩ = some (.int .i64 d) ∧ w'.cell? ⟨(w.heap.size + 2), 0, none⟩ = some (cv w' ((w.heap.size + 2)) 0) ∧ w'.frozen? ⟨(w.heap.size + 2), 0, none⟩ = false ∧ w'.cell? ⟨(w.heap.size + 2), 1, none⟩ = some (cv w' ((w.heap.size + 2)) 1) ∧ w'.frozen? ⟨(w.heap.size + 2), 1, none⟩ = false) ∧ K_Nc A B n0 n1 n2 n3 d w.heap.size (w.heap.size + 1) (w.heap.size + 2) w w') ((refine K_Nc.ks ?_; repeat (first | (with_reducible assumption) | (with_reducible refine K_Nc.draws _ ?_) | (with_reducible refine K_Nc.drew ?_) | (with_reducible refine K_Nc.alloc _ ?_) | (with_reducible refine K_Nc.set ?_ _ _ _ (by omega)))))
    (first
      | (go_at_call 27; (with_reducible refine (Check_any _ _ _).mono ?_); rintro e w' ⟨rfl, hbel⟩; have hk' := K_Nc.below hbel (And.right (by assumption)); clear hbel)
      | (go_at_call 39; (with_reducible refine (CheckQuat_any _ _ _ _ _ _).mono ?_); rintro e w' ⟨rfl, hbel⟩; have hk' := K_Nc.below hbel (And.right (by assumption)); clear hbel)
      | (go_at_call 38; (with_reducible refine (Or_new _ _ _ _ _ ?_).mono ?_); rfl; rintro e w'' ⟨rfl, rfl⟩))
  all_goals
    (rename_i hh_; clear hh_; obtain ⟨c0_, c1_, c2_, c3_, c4_, c5_, c6_, d0_, f0_, d1_, f1_⟩ := K_Nc.cells hk'; have HB := Lib.hid (K_Nc.bel hk'))
    have z1 : w.heap.size + 2 < w'.heap.size := World.block_lt_of_cell? w' ⟨w.heap.size + 2, 0, none⟩ d0_
    have y0 : w.heap.size < w'.heap.size := by omega
    have y1 : w.heap.size + 1 < w'.heap.size := by omega
    go_wp2_with fail
    refine (NV.out _).mono ?_
    rintro e w2 ⟨rfl, hb⟩
    have hK := K_Nc.below hb (K_Nc.alloc _ hk')
    clear hb c0_ c1_ c2_ c3_ c4_ c5_ c6_ d0_ f0_ d1_ f1_ HB
    obtain ⟨c0_, c1_, c2_, c3_, c4_, c5_, c6_, d0_, f0_, d1_, f1_⟩ := K_Nc.cells hK
    have HB := Lib.hid (K_Nc.bel hK)
    clear hK
    go_wp2
    exact bodyPost_ret (v := .tuple #[.agg #[.int .i64 k0, .int .i64 k1], .int .i64 0]) (by simp [results, Try.results13, go_sem, c0_, c1_, c2_, c3_, c4_, c5_, c6_, d0_, f0_, d1_, f1_]) rfl ⟨rfl, by (repeat (first | (with_reducible exact Below.refl _ _) | (with_reducible exact HB.out) | (with_reducible refine below_draws ?_ _) | (with_reducible refine Below.alloc ?_ (by go_size) _) | (with_reducible refine Below.setCell ?_ (by go_size) _) | (with_reducible refine Below.alloc ?_ (by simp <;> omega) _) | (with_reducible refine Below.setCell ?_ (by simp <;> omega) _)))⟩
end Go.Proofs.Ytgbnmnkgelklbaa.Al
