/-
  WALKS: norms of valid elements.
-/
import Derived.Test.YtgbnmnkgelklbaaDoorAlP
import Derived.Test.YtgbnmnkgelklbaaDoorAlB
import Derived.Test.YtgbnmnkgelklbaaDoorLw0
namespace Go.Proofs.YtgbnmnkgelklbaaDoor.Al
open Go.RowKit
open Alm
set_option linter.unusedVariables false
set_option linter.unusedSimpArgs false
set_option maxRecDepth 100000
theorem nm_pw (A B n0 n1 n2 n3 : Int) : pw A B n0 n1 n2 n3 n0 (-n1) (-n2) (-n3) = nm A B n0 n1 n2 n3 := by unfold pw nm; grind
/-- what a walk keeps: cells, and that nothing that was there has turned -/
def K_Nb (n0 n1 n2 n3 A B : Int) (b1 b2 : Nat) (w w' : World) : Prop := KL w [(b1, 0, .int .i64 n0), (b1, 1, .int .i64 n1), (b1, 2, .int .i64 n2), (b1, 3, .int .i64 n3), (b2, 0, .int .i64 A), (b2, 1, .int .i64 B)] [] w'
theorem K_Nb.below {n0 n1 n2 n3 A B : Int} {b1 b2 : Nat} {w w1 w2 : World} (hb : Below w1.heap.size w1 w2) (h : K_Nb n0 n1 n2 n3 A B b1 b2 w w1) : K_Nb n0 n1 n2 n3 A B b1 b2 w w2 := KL.below hb h
theorem K_Nb.draws {n0 n1 n2 n3 A B : Int} {b1 b2 : Nat} {w w1 : World} (n : Nat) (h : K_Nb n0 n1 n2 n3 A B b1 b2 w w1) : K_Nb n0 n1 n2 n3 A B b1 b2 w (w1.drewN n) := KL.draws n h
theorem K_Nb.drew {n0 n1 n2 n3 A B : Int} {b1 b2 : Nat} {w w1 : World} (h : K_Nb n0 n1 n2 n3 A B b1 b2 w w1) : K_Nb n0 n1 n2 n3 A B b1 b2 w w1.drew := KL.draws 1 h
theorem K_Nb.alloc {n0 n1 n2 n3 A B : Int} {b1 b2 : Nat} {w w1 : World} (o : Obj) (h : K_Nb n0 n1 n2 n3 A B b1 b2 w w1) : K_Nb n0 n1 n2 n3 A B b1 b2 w (w1.alloc o) := KL.alloc o h
theorem K_Nb.set {n0 n1 n2 n3 A B : Int} {b1 b2 : Nat} {w w1 : World} (h : K_Nb n0 n1 n2 n3 A B b1 b2 w w1) (b i : Nat) (v : Value) (hb : b ≠ b1 ∧ b ≠ b2 ∧ w.heap.size ≤ b) : K_Nb n0 n1 n2 n3 A B b1 b2 w (w1.setCell ⟨b, i, none⟩ v) :=
  KL.set h b i v (by intro x hx; simp only [List.mem_cons, List.not_mem_nil, or_false] at hx; rcases hx with rfl | rfl | rfl | rfl | rfl | rfl <;> simp only [] <;> omega) (by omega)
theorem K_Nb.bel {n0 n1 n2 n3 A B : Int} {b1 b2 : Nat} {w w1 : World} (h : K_Nb n0 n1 n2 n3 A B b1 b2 w w1) : Below w.heap.size w w1 := KL.bel h
theorem K_Nb.cells {n0 n1 n2 n3 A B : Int} {b1 b2 : Nat} {w w' : World} (h : K_Nb n0 n1 n2 n3 A B b1 b2 w w') : w'.cell? ⟨b1, 0, none⟩ = some (.int .i64 n0) ∧ w'.cell? ⟨b1, 1, none⟩ = some (.int .i64 n1) ∧ w'.cell? ⟨b1, 2, none⟩ = some (.int .i64 n2) ∧ w'.cell? ⟨b1, 3, none⟩ = some (.int .i64 n3) ∧ w'.cell? ⟨b2, 0, none⟩ = some (.int .i64 A) ∧ w'.cell? ⟨b2, 1, none⟩ = some (.int .i64 B) := ⟨h.c (b1, 0, .int .i64 n0) (by simp), h.c (b1, 1, .int .i64 n1) (by simp), h.c (b1, 2, .int .i64 n2) (by simp), h.c (b1, 3, .int .i64 n3) (by simp), h.c (b2, 0, .int .i64 A) (by simp), h.c (b2, 1, .int .i64 B) (by simp)⟩
theorem K_Nb.zs {n0 n1 n2 n3 A B : Int} {b1 b2 : Nat} {w w' : World} (h : K_Nb n0 n1 n2 n3 A B b1 b2 w w') : b1 < w'.heap.size ∧ b2 < w'.heap.size ∧ True := ⟨KL.z h (x := (b1, 0, .int .i64 n0)) (by simp), KL.z h (x := (b2, 0, .int .i64 A)) (by simp), trivial⟩
theorem K_Nb.ks {n0 n1 n2 n3 A B : Int} {b1 b2 : Nat} {w w' : World} (h : K_Nb n0 n1 n2 n3 A B b1 b2 w w') : (w'.cell? ⟨b1, 0, none⟩ = some (.int .i64 n0) ∧ w'.cell? ⟨b1, 1, none⟩ = some (.int .i64 n1) ∧ w'.cell? ⟨b1, 2, none⟩ = some (.int .i64 n2) ∧ w'.cell? ⟨b1, 3, none⟩ = some (.int .i64 n3) ∧ w'.cell? ⟨b2, 0, none⟩ = some (.int .i64 A) ∧ w'.cell? ⟨b2, 1, none⟩ = some (.int .i64 B)) ∧ K_Nb n0 n1 n2 n3 A B b1 b2 w w' := ⟨h.cells, h⟩
set_option maxHeartbeats 1600000 in
theorem nnorm_any (A B n0 n1 n2 n3 : Int) (w : World) (hA : Bn 1000 A) (hB : Bn 1000 B) (a0 : Bn 1000000 n0) (a1 : Bn 1000000 n1) (a2 : Bn 1000000 n2) (a3 : Bn 1000000 n3) :
    Calls Tryd.prog 66 #[.agg #[.int .i64 n0, .int .i64 n1, .int .i64 n2, .int .i64 n3], .agg #[.int .i64 A, .int .i64 B]] w fun e w' => e = .returned (.int .i64 (nm A B n0 n1 n2 n3)) ∧ Below w.heap.size w w' := by
  have TM := Lib.hid (fun W => times_any A B n0 n1 n2 n3 n0 (-n1) (-n2) (-n3) W hA hB a0 a1 a2 a3 a0 ⟨by omega, by omega⟩ ⟨by omega, by omega⟩ ⟨by omega, by omega⟩)
  have CJ := Lib.hid (fun W => conjugate_any n0 n1 n2 n3 W (by omega) (by omega) (by omega) (by omega) (by omega) (by omega))
  rw [nm_pw] at TM
  have i0 := Try.i0 (.int .i64 (nm A B n0 n1 n2 n3)) (.int .i64 (px B n0 n1 n2 n3 n0 (-n1) (-n2) (-n3))) (.int .i64 (py A n0 n1 n2 n3 n0 (-n1) (-n2) (-n3))) (.int .i64 (pz n0 n1 n2 n3 n0 (-n1) (-n2) (-n3)))
  clear hA hB a0 a1 a2 a3
  go_enter Tryd.func66, Tryd.ntmps66
  go_wp2_with fail
  have hk : K_Nb n0 n1 n2 n3 A B w.heap.size (w.heap.size + 1) w ((w.alloc (.cells #[.int .i64 n0, .int .i64 n1, .int .i64 n2, .int .i64 n3] 80)).alloc (.cells #[.int .i64 A, .int .i64 B] 23)) := ⟨by simp [go_sem], by simp [go_sem], by simp [go_sem], by (repeat (first | (with_reducible exact Below.refl _ _) | (with_reducible exact HB.out) | (with_reducible refine below_draws ?_ _) | (with_reducible refine Below.alloc ?_ (by go_size) _) | (with_reducible refine Below.setCell ?_ (by go_size) _) | (with_reducible refine Below.alloc ?_ (by simp <;> omega) _) | (with_reducible refine Below.setCell ?_ (by simp <;> omega) _)))⟩
  go_region_held3 (fun w' => (w'.cell? ⟨w.heap.size, 0, none⟩ = some (.int .i64 n0) ∧ w'.cell? ⟨w.heap.size, 1, none⟩ = some (.int .i64 n1) ∧ w'.cell? ⟨w.heap.size, 2, none⟩ = some (.int .i64 n2) ∧ w'.cell? ⟨w.heap.size, 3, none⟩ = some (.int .i64 n3) ∧ w'.cell? ⟨(w.heap.size + 1), 0, none⟩ = some (.int .i64 A) ∧ w'.cell? ⟨(w.heap.size + 1), 1, none⟩ = some (.int .i64 B)) ∧ K_Nb n0 n1 n2 n3 A B w.heap.size (w.heap.size + 1) w w') ((refine K_Nb.ks ?_; repeat (first | (with_reducible assumption) | (with_reducible refine K_Nb.draws _ ?_) | (with_reducible refine K_Nb.drew ?_) | (with_reducible refine K_Nb.alloc _ ?_) | (with_reducible refine K_Nb.set ?_ _ _ _ (by omega)))))
    (first
      | (go_at_call 67; (with_reducible refine (CJ.out _).mono ?_); rintro e w' ⟨rfl, hbel⟩; have hk' := K_Nb.below hbel (And.right (by assumption)); clear hbel)
      | (go_at_call 59; (with_reducible refine (TM.out _).mono ?_); rintro e w' ⟨rfl, hbel⟩; have hk' := K_Nb.below hbel (And.right (by assumption)); clear hbel))
  all_goals
    go_wp2
    go_ret
    exact ⟨rfl, K_Nb.bel hk'⟩
/-- what a walk keeps: cells, and that nothing that was there has turned -/
def K_Nc (A B n0 n1 n2 n3 d : Int) (b1 b2 R : Nat) (w w' : World) : Prop := KL w [(b1, 0, .int .i64 A), (b1, 1, .int .i64 B), (b2, 0, .int .i64 n0), (b2, 1, .int .i64 n1), (b2, 2, .int .i64 n2), (b2, 3, .int .i64 n3), (b2, 4, .int .i64 d)] [(R, 0), (R, 1)] w'
theorem K_Nc.below {A B n0 n1 n2 n3 d : Int} {b1 b2 R : Nat} {w w1 w2 : World} (hb : Below w1.heap.size w1 w2) (h : K_Nc A B n0 n1 n2 n3 d b1 b2 R w w1) : K_Nc A B n0 n1 n2 n3 d b1 b2 R w w2 := KL.below hb h
theorem K_Nc.draws {A B n0 n1 n2 n3 d : Int} {b1 b2 R : Nat} {w w1 : World} (n : Nat) (h : K_Nc A B n0 n1 n2 n3 d b1 b2 R w w1) : K_Nc A B n0 n1 n2 n3 d b1 b2 R w (w1.drewN n) := KL.draws n h
theorem K_Nc.drew {A B n0 n1 n2 n3 d : Int} {b1 b2 R : Nat} {w w1 : World} (h : K_Nc A B n0 n1 n2 n3 d b1 b2 R w w1) : K_Nc A B n0 n1 n2 n3 d b1 b2 R w w1.drew := KL.draws 1 h
theorem K_Nc.alloc {A B n0 n1 n2 n3 d : Int} {b1 b2 R : Nat} {w w1 : World} (o : Obj) (h : K_Nc A B n0 n1 n2 n3 d b1 b2 R w w1) : K_Nc A B n0 n1 n2 n3 d b1 b2 R w (w1.alloc o) := KL.alloc o h
theorem K_Nc.set {A B n0 n1 n2 n3 d : Int} {b1 b2 R : Nat} {w w1 : World} (h : K_Nc A B n0 n1 n2 n3 d b1 b2 R w w1) (b i : Nat) (v : Value) (hb : b ≠ b1 ∧ b ≠ b2 ∧ w.heap.size ≤ b) : K_Nc A B n0 n1 n2 n3 d b1 b2 R w (w1.setCell ⟨b, i, none⟩ v) :=
  KL.set h b i v (by intro x hx; simp only [List.mem_cons, List.not_mem_nil, or_false] at hx; rcases hx with rfl | rfl | rfl | rfl | rfl | rfl | rfl <;> simp only [] <;> omega) (by omega)
theorem K_Nc.bel {A B n0 n1 n2 n3 d : Int} {b1 b2 R : Nat} {w w1 : World} (h : K_Nc A B n0 n1 n2 n3 d b1 b2 R w w1) : Below w.heap.size w w1 := KL.bel h
theorem K_Nc.cells {A B n0 n1 n2 n3 d : Int} {b1 b2 R : Nat} {w w' : World} (h : K_Nc A B n0 n1 n2 n3 d b1 b2 R w w') : w'.cell? ⟨b1, 0, none⟩ = some (.int .i64 A) ∧ w'.cell? ⟨b1, 1, none⟩ = some (.int .i64 B) ∧ w'.cell? ⟨b2, 0, none⟩ = some (.int .i64 n0) ∧ w'.cell? ⟨b2, 1, none⟩ = some (.int .i64 n1) ∧ w'.cell? ⟨b2, 2, none⟩ = some (.int .i64 n2) ∧ w'.cell? ⟨b2, 3, none⟩ = some (.int .i64 n3) ∧ w'.cell? ⟨b2, 4, none⟩ = some (.int .i64 d) ∧ w'.cell? ⟨R, 0, none⟩ = some (cv w' R 0) ∧ w'.frozen? ⟨R, 0, none⟩ = false ∧ w'.cell? ⟨R, 1, none⟩ = some (cv w' R 1) ∧ w'.frozen? ⟨R, 1, none⟩ = false := ⟨h.c (b1, 0, .int .i64 A) (by simp), h.c (b1, 1, .int .i64 B) (by simp), h.c (b2, 0, .int .i64 n0) (by simp), h.c (b2, 1, .int .i64 n1) (by simp), h.c (b2, 2, .int .i64 n2) (by simp), h.c (b2, 3, .int .i64 n3) (by simp), h.c (b2, 4, .int .i64 d) (by simp), h.d (R, 0) (by simp), h.f (R, 0) (by simp), h.d (R, 1) (by simp), h.f (R, 1) (by simp)⟩
theorem K_Nc.zs {A B n0 n1 n2 n3 d : Int} {b1 b2 R : Nat} {w w' : World} (h : K_Nc A B n0 n1 n2 n3 d b1 b2 R w w') : b1 < w'.heap.size ∧ b2 < w'.heap.size ∧ R < w'.heap.size ∧ True := ⟨KL.z h (x := (b1, 0, .int .i64 A)) (by simp), KL.z h (x := (b2, 0, .int .i64 n0)) (by simp), KL.zf h (x := (R, 0)) (by simp), trivial⟩
theorem K_Nc.ks {A B n0 n1 n2 n3 d : Int} {b1 b2 R : Nat} {w w' : World} (h : K_Nc A B n0 n1 n2 n3 d b1 b2 R w w') : (w'.cell? ⟨b1, 0, none⟩ = some (.int .i64 A) ∧ w'.cell? ⟨b1, 1, none⟩ = some (.int .i64 B) ∧ w'.cell? ⟨b2, 0, none⟩ = some (.int .i64 n0) ∧ w'.cell? ⟨b2, 1, none⟩ = some (.int .i64 n1) ∧ w'.cell? ⟨b2, 2, none⟩ = some (.int .i64 n2) ∧ w'.cell? ⟨b2, 3, none⟩ = some (.int .i64 n3) ∧ w'.cell? ⟨b2, 4, none⟩ = some (.int .i64 d) ∧ w'.cell? ⟨R, 0, none⟩ = some (cv w' R 0) ∧ w'.frozen? ⟨R, 0, none⟩ = false ∧ w'.cell? ⟨R, 1, none⟩ = some (cv w' R 1) ∧ w'.frozen? ⟨R, 1, none⟩ = false) ∧ K_Nc A B n0 n1 n2 n3 d b1 b2 R w w' := ⟨h.cells, h⟩
theorem nm_bd {A B n0 n1 n2 n3 : Int} (hA : Bn 1000 A) (hB : Bn 1000 B) (a0 : Bn 1000000 n0) (a1 : Bn 1000000 n1) (a2 : Bn 1000000 n2) (a3 : Bn 1000000 n3) : Bn 1002001000000000000 (nm A B n0 n1 n2 n3) := by
  have := (mul_bds hA hB a0 a1 a2 a3 a0 (m1 := -n1) (m2 := -n2) (m3 := -n3) ⟨by omega, by omega⟩ ⟨by omega, by omega⟩ ⟨by omega, by omega⟩).1
  rw [nm_pw] at this
  exact this
end Go.Proofs.YtgbnmnkgelklbaaDoor.Al
