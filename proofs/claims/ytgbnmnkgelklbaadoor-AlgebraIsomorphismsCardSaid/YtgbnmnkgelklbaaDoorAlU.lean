/-
  WALKS: traces; norms of the reference; which elements are integral.
-/
import Derived.Test.YtgbnmnkgelklbaaDoorAlN
import Derived.Test.YtgbnmnkgelklbaaDoorAlR
namespace Go.Proofs.YtgbnmnkgelklbaaDoor.Al
open Go.RowKit
open Alm
set_option linter.unusedVariables false
set_option linter.unusedSimpArgs false
set_option maxRecDepth 100000
/-- what a walk keeps: cells, and that nothing that was there has turned -/
def K_Nu (n0 n1 n2 n3 d : Int) (b1 R : Nat) (w w' : World) : Prop := KL w [(b1, 0, .int .i64 n0), (b1, 1, .int .i64 n1), (b1, 2, .int .i64 n2), (b1, 3, .int .i64 n3), (b1, 4, .int .i64 d)] [(R, 0), (R, 1)] w'
theorem K_Nu.below {n0 n1 n2 n3 d : Int} {b1 R : Nat} {w w1 w2 : World} (hb : Below w1.heap.size w1 w2) (h : K_Nu n0 n1 n2 n3 d b1 R w w1) : K_Nu n0 n1 n2 n3 d b1 R w w2 := KL.below hb h
theorem K_Nu.draws {n0 n1 n2 n3 d : Int} {b1 R : Nat} {w w1 : World} (n : Nat) (h : K_Nu n0 n1 n2 n3 d b1 R w w1) : K_Nu n0 n1 n2 n3 d b1 R w (w1.drewN n) := KL.draws n h
theorem K_Nu.drew {n0 n1 n2 n3 d : Int} {b1 R : Nat} {w w1 : World} (h : K_Nu n0 n1 n2 n3 d b1 R w w1) : K_Nu n0 n1 n2 n3 d b1 R w w1.drew := KL.draws 1 h
theorem K_Nu.alloc {n0 n1 n2 n3 d : Int} {b1 R : Nat} {w w1 : World} (o : Obj) (h : K_Nu n0 n1 n2 n3 d b1 R w w1) : K_Nu n0 n1 n2 n3 d b1 R w (w1.alloc o) := KL.alloc o h
theorem K_Nu.set {n0 n1 n2 n3 d : Int} {b1 R : Nat} {w w1 : World} (h : K_Nu n0 n1 n2 n3 d b1 R w w1) (b i : Nat) (v : Value) (hb : b ≠ b1 ∧ w.heap.size ≤ b) : K_Nu n0 n1 n2 n3 d b1 R w (w1.setCell ⟨b, i, none⟩ v) :=
  KL.set h b i v (by intro x hx; simp only [List.mem_cons, List.not_mem_nil, or_false] at hx; rcases hx with rfl | rfl | rfl | rfl | rfl <;> simp only [] <;> omega) (by omega)
theorem K_Nu.bel {n0 n1 n2 n3 d : Int} {b1 R : Nat} {w w1 : World} (h : K_Nu n0 n1 n2 n3 d b1 R w w1) : Below w.heap.size w w1 := KL.bel h
theorem K_Nu.cells {n0 n1 n2 n3 d : Int} {b1 R : Nat} {w w' : World} (h : K_Nu n0 n1 n2 n3 d b1 R w w') : w'.cell? ⟨b1, 0, none⟩ = some (.int .i64 n0) ∧ w'.cell? ⟨b1, 1, none⟩ = some (.int .i64 n1) ∧ w'.cell? ⟨b1, 2, none⟩ = some (.int .i64 n2) ∧ w'.cell? ⟨b1, 3, none⟩ = some (.int .i64 n3) ∧ w'.cell? ⟨b1, 4, none⟩ = some (.int .i64 d) ∧ w'.cell? ⟨R, 0, none⟩ = some (cv w' R 0) ∧ w'.frozen? ⟨R, 0, none⟩ = false ∧ w'.cell? ⟨R, 1, none⟩ = some (cv w' R 1) ∧ w'.frozen? ⟨R, 1, none⟩ = false := ⟨h.c (b1, 0, .int .i64 n0) (by simp), h.c (b1, 1, .int .i64 n1) (by simp), h.c (b1, 2, .int .i64 n2) (by simp), h.c (b1, 3, .int .i64 n3) (by simp), h.c (b1, 4, .int .i64 d) (by simp), h.d (R, 0) (by simp), h.f (R, 0) (by simp), h.d (R, 1) (by simp), h.f (R, 1) (by simp)⟩
theorem K_Nu.zs {n0 n1 n2 n3 d : Int} {b1 R : Nat} {w w' : World} (h : K_Nu n0 n1 n2 n3 d b1 R w w') : b1 < w'.heap.size ∧ R < w'.heap.size ∧ True := ⟨KL.z h (x := (b1, 0, .int .i64 n0)) (by simp), KL.zf h (x := (R, 0)) (by simp), trivial⟩
theorem K_Nu.ks {n0 n1 n2 n3 d : Int} {b1 R : Nat} {w w' : World} (h : K_Nu n0 n1 n2 n3 d b1 R w w') : (w'.cell? ⟨b1, 0, none⟩ = some (.int .i64 n0) ∧ w'.cell? ⟨b1, 1, none⟩ = some (.int .i64 n1) ∧ w'.cell? ⟨b1, 2, none⟩ = some (.int .i64 n2) ∧ w'.cell? ⟨b1, 3, none⟩ = some (.int .i64 n3) ∧ w'.cell? ⟨b1, 4, none⟩ = some (.int .i64 d) ∧ w'.cell? ⟨R, 0, none⟩ = some (cv w' R 0) ∧ w'.frozen? ⟨R, 0, none⟩ = false ∧ w'.cell? ⟨R, 1, none⟩ = some (cv w' R 1) ∧ w'.frozen? ⟨R, 1, none⟩ = false) ∧ K_Nu n0 n1 n2 n3 d b1 R w w' := ⟨h.cells, h⟩
/-- what a walk keeps: cells, and that nothing that was there has turned -/
def K_N1 (n0 n1 n2 n3 d : Int) (b1 : Nat) (w w' : World) : Prop := KL w [(b1, 0, .int .i64 n0), (b1, 1, .int .i64 n1), (b1, 2, .int .i64 n2), (b1, 3, .int .i64 n3), (b1, 4, .int .i64 d)] [] w'
theorem K_N1.below {n0 n1 n2 n3 d : Int} {b1 : Nat} {w w1 w2 : World} (hb : Below w1.heap.size w1 w2) (h : K_N1 n0 n1 n2 n3 d b1 w w1) : K_N1 n0 n1 n2 n3 d b1 w w2 := KL.below hb h
theorem K_N1.draws {n0 n1 n2 n3 d : Int} {b1 : Nat} {w w1 : World} (n : Nat) (h : K_N1 n0 n1 n2 n3 d b1 w w1) : K_N1 n0 n1 n2 n3 d b1 w (w1.drewN n) := KL.draws n h
theorem K_N1.drew {n0 n1 n2 n3 d : Int} {b1 : Nat} {w w1 : World} (h : K_N1 n0 n1 n2 n3 d b1 w w1) : K_N1 n0 n1 n2 n3 d b1 w w1.drew := KL.draws 1 h
theorem K_N1.alloc {n0 n1 n2 n3 d : Int} {b1 : Nat} {w w1 : World} (o : Obj) (h : K_N1 n0 n1 n2 n3 d b1 w w1) : K_N1 n0 n1 n2 n3 d b1 w (w1.alloc o) := KL.alloc o h
theorem K_N1.set {n0 n1 n2 n3 d : Int} {b1 : Nat} {w w1 : World} (h : K_N1 n0 n1 n2 n3 d b1 w w1) (b i : Nat) (v : Value) (hb : b ≠ b1 ∧ w.heap.size ≤ b) : K_N1 n0 n1 n2 n3 d b1 w (w1.setCell ⟨b, i, none⟩ v) :=
  KL.set h b i v (by intro x hx; simp only [List.mem_cons, List.not_mem_nil, or_false] at hx; rcases hx with rfl | rfl | rfl | rfl | rfl <;> simp only [] <;> omega) (by omega)
theorem K_N1.bel {n0 n1 n2 n3 d : Int} {b1 : Nat} {w w1 : World} (h : K_N1 n0 n1 n2 n3 d b1 w w1) : Below w.heap.size w w1 := KL.bel h
theorem K_N1.cells {n0 n1 n2 n3 d : Int} {b1 : Nat} {w w' : World} (h : K_N1 n0 n1 n2 n3 d b1 w w') : w'.cell? ⟨b1, 0, none⟩ = some (.int .i64 n0) ∧ w'.cell? ⟨b1, 1, none⟩ = some (.int .i64 n1) ∧ w'.cell? ⟨b1, 2, none⟩ = some (.int .i64 n2) ∧ w'.cell? ⟨b1, 3, none⟩ = some (.int .i64 n3) ∧ w'.cell? ⟨b1, 4, none⟩ = some (.int .i64 d) := ⟨h.c (b1, 0, .int .i64 n0) (by simp), h.c (b1, 1, .int .i64 n1) (by simp), h.c (b1, 2, .int .i64 n2) (by simp), h.c (b1, 3, .int .i64 n3) (by simp), h.c (b1, 4, .int .i64 d) (by simp)⟩
theorem K_N1.zs {n0 n1 n2 n3 d : Int} {b1 : Nat} {w w' : World} (h : K_N1 n0 n1 n2 n3 d b1 w w') : b1 < w'.heap.size ∧ True := ⟨KL.z h (x := (b1, 0, .int .i64 n0)) (by simp), trivial⟩
theorem K_N1.ks {n0 n1 n2 n3 d : Int} {b1 : Nat} {w w' : World} (h : K_N1 n0 n1 n2 n3 d b1 w w') : (w'.cell? ⟨b1, 0, none⟩ = some (.int .i64 n0) ∧ w'.cell? ⟨b1, 1, none⟩ = some (.int .i64 n1) ∧ w'.cell? ⟨b1, 2, none⟩ = some (.int .i64 n2) ∧ w'.cell? ⟨b1, 3, none⟩ = some (.int .i64 n3) ∧ w'.cell? ⟨b1, 4, none⟩ = some (.int .i64 d)) ∧ K_N1 n0 n1 n2 n3 d b1 w w' := ⟨h.cells, h⟩
end Go.Proofs.YtgbnmnkgelklbaaDoor.Al
