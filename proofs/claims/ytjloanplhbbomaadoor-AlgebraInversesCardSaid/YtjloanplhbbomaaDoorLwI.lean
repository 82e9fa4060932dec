/-
  WALK of the law AlgebraInverses.
-/
import Derived.Test.YtjloanplhbbomaaDoorLwN
import Derived.Test.YtjloanplhbbomaaDoorAlH
namespace Go.Proofs.YtjloanplhbbomaaDoor.Al
open Go.RowKit
open Alm
set_option linter.unusedVariables false
set_option linter.unusedSimpArgs false
set_option maxRecDepth 100000
/-- what a walk keeps: cells, and that nothing that was there has turned -/
def K_I2 (A B n0 n1 n2 n3 d r0 r1 r2 r3 r4 : Int) (b1 b2 b3 : Nat) (w w' : World) : Prop := KL w [(b3, 0, .int .i64 r0), (b3, 1, .int .i64 r1), (b3, 2, .int .i64 r2), (b3, 3, .int .i64 r3), (b3, 4, .int .i64 r4), (b1, 0, .int .i64 A), (b1, 1, .int .i64 B), (b2, 0, .int .i64 n0), (b2, 1, .int .i64 n1), (b2, 2, .int .i64 n2), (b2, 3, .int .i64 n3), (b2, 4, .int .i64 d)] [] w'
theorem K_I2.below {A B n0 n1 n2 n3 d r0 r1 r2 r3 r4 : Int} {b1 b2 b3 : Nat} {w w1 w2 : World} (hb : Below w1.heap.size w1 w2) (h : K_I2 A B n0 n1 n2 n3 d r0 r1 r2 r3 r4 b1 b2 b3 w w1) : K_I2 A B n0 n1 n2 n3 d r0 r1 r2 r3 r4 b1 b2 b3 w w2 := KL.below hb h
theorem K_I2.draws {A B n0 n1 n2 n3 d r0 r1 r2 r3 r4 : Int} {b1 b2 b3 : Nat} {w w1 : World} (n : Nat) (h : K_I2 A B n0 n1 n2 n3 d r0 r1 r2 r3 r4 b1 b2 b3 w w1) : K_I2 A B n0 n1 n2 n3 d r0 r1 r2 r3 r4 b1 b2 b3 w (w1.drewN n) := KL.draws n h
theorem K_I2.drew {A B n0 n1 n2 n3 d r0 r1 r2 r3 r4 : Int} {b1 b2 b3 : Nat} {w w1 : World} (h : K_I2 A B n0 n1 n2 n3 d r0 r1 r2 r3 r4 b1 b2 b3 w w1) : K_I2 A B n0 n1 n2 n3 d r0 r1 r2 r3 r4 b1 b2 b3 w w1.drew := KL.draws 1 h
theorem K_I2.alloc {A B n0 n1 n2 n3 d r0 r1 r2 r3 r4 : Int} {b1 b2 b3 : Nat} {w w1 : World} (o : Obj) (h : K_I2 A B n0 n1 n2 n3 d r0 r1 r2 r3 r4 b1 b2 b3 w w1) : K_I2 A B n0 n1 n2 n3 d r0 r1 r2 r3 r4 b1 b2 b3 w (w1.alloc o) := KL.alloc o h
theorem K_I2.set {A B n0 n1 n2 n3 d r0 r1 r2 r3 r4 : Int} {b1 b2 b3 : Nat} {w w1 : World} (h : K_I2 A B n0 n1 n2 n3 d r0 r1 r2 r3 r4 b1 b2 b3 w w1) (b i : Nat) (v : Value) (hb : b ≠ b3 ∧ b ≠ b1 ∧ b ≠ b2 ∧ w.heap.size ≤ b) : K_I2 A B n0 n1 n2 n3 d r0 r1 r2 r3 r4 b1 b2 b3 w (w1.setCell ⟨b, i, none⟩ v) :=
  KL.set h b i v (by intro x hx; simp only [List.mem_cons, List.not_mem_nil, or_false] at hx; rcases hx with rfl | rfl | rfl | rfl | rfl | rfl | rfl | rfl | rfl | rfl | rfl | rfl <;> simp only [] <;> omega) (by omega)
theorem K_I2.bel {A B n0 n1 n2 n3 d r0 r1 r2 r3 r4 : Int} {b1 b2 b3 : Nat} {w w1 : World} (h : K_I2 A B n0 n1 n2 n3 d r0 r1 r2 r3 r4 b1 b2 b3 w w1) : Below w.heap.size w w1 := KL.bel h
theorem K_I2.cells {A B n0 n1 n2 n3 d r0 r1 r2 r3 r4 : Int} {b1 b2 b3 : Nat} {w w' : World} (h : K_I2 A B n0 n1 n2 n3 d r0 r1 r2 r3 r4 b1 b2 b3 w w') : w'.cell? ⟨b3, 0, none⟩ = some (.int .i64 r0) ∧ w'.cell? ⟨b3, 1, none⟩ = some (.int .i64 r1) ∧ w'.cell? ⟨b3, 2, none⟩ = some (.int .i64 r2) ∧ w'.cell? ⟨b3, 3, none⟩ = some (.int .i64 r3) ∧ w'.cell? ⟨b3, 4, none⟩ = some (.int .i64 r4) ∧ w'.cell? ⟨b1, 0, none⟩ = some (.int .i64 A) ∧ w'.cell? ⟨b1, 1, none⟩ = some (.int .i64 B) ∧ w'.cell? ⟨b2, 0, none⟩ = some (.int .i64 n0) ∧ w'.cell? ⟨b2, 1, none⟩ = some (.int .i64 n1) ∧ w'.cell? ⟨b2, 2, none⟩ = some (.int .i64 n2) ∧ w'.cell? ⟨b2, 3, none⟩ = some (.int .i64 n3) ∧ w'.cell? ⟨b2, 4, none⟩ = some (.int .i64 d) := ⟨h.c (b3, 0, .int .i64 r0) (by simp), h.c (b3, 1, .int .i64 r1) (by simp), h.c (b3, 2, .int .i64 r2) (by simp), h.c (b3, 3, .int .i64 r3) (by simp), h.c (b3, 4, .int .i64 r4) (by simp), h.c (b1, 0, .int .i64 A) (by simp), h.c (b1, 1, .int .i64 B) (by simp), h.c (b2, 0, .int .i64 n0) (by simp), h.c (b2, 1, .int .i64 n1) (by simp), h.c (b2, 2, .int .i64 n2) (by simp), h.c (b2, 3, .int .i64 n3) (by simp), h.c (b2, 4, .int .i64 d) (by simp)⟩
theorem K_I2.zs {A B n0 n1 n2 n3 d r0 r1 r2 r3 r4 : Int} {b1 b2 b3 : Nat} {w w' : World} (h : K_I2 A B n0 n1 n2 n3 d r0 r1 r2 r3 r4 b1 b2 b3 w w') : b3 < w'.heap.size ∧ b1 < w'.heap.size ∧ b2 < w'.heap.size ∧ True := ⟨KL.z h (x := (b3, 0, .int .i64 r0)) (by simp), KL.z h (x := (b1, 0, .int .i64 A)) (by simp), KL.z h (x := (b2, 0, .int .i64 n0)) (by simp), trivial⟩
theorem K_I2.ks {A B n0 n1 n2 n3 d r0 r1 r2 r3 r4 : Int} {b1 b2 b3 : Nat} {w w' : World} (h : K_I2 A B n0 n1 n2 n3 d r0 r1 r2 r3 r4 b1 b2 b3 w w') : (w'.cell? ⟨b3, 0, none⟩ = some (.int .i64 r0) ∧ w'.cell? ⟨b3, 1, none⟩ = some (.int .i64 r1) ∧ w'.cell? ⟨b3, 2, none⟩ = some (.int .i64 r2) ∧ w'.cell? ⟨b3, 3, none⟩ = some (.int .i64 r3) ∧ w'.cell? ⟨b3, 4, none⟩ = some (.int .i64 r4) ∧ w'.cell? ⟨b1, 0, none⟩ = some (.int .i64 A) ∧ w'.cell? ⟨b1, 1, none⟩ = some (.int .i64 B) ∧ w'.cell? ⟨b2, 0, none⟩ = some (.int .i64 n0) ∧ w'.cell? ⟨b2, 1, none⟩ = some (.int .i64 n1) ∧ w'.cell? ⟨b2, 2, none⟩ = some (.int .i64 n2) ∧ w'.cell? ⟨b2, 3, none⟩ = some (.int .i64 n3) ∧ w'.cell? ⟨b2, 4, none⟩ = some (.int .i64 d)) ∧ K_I2 A B n0 n1 n2 n3 d r0 r1 r2 r3 r4 b1 b2 b3 w w' := ⟨h.cells, h⟩
/-- what a walk keeps: cells, and that nothing that was there has turned -/
def K_I3 (A B n0 n1 n2 n3 d r0 r1 r2 r3 r4 p0 p1 p2 p3 p4 : Int) (b1 b2 b3 b4 : Nat) (w w' : World) : Prop := KL w [(b4, 0, .int .i64 p0), (b4, 1, .int .i64 p1), (b4, 2, .int .i64 p2), (b4, 3, .int .i64 p3), (b4, 4, .int .i64 p4), (b3, 0, .int .i64 r0), (b3, 1, .int .i64 r1), (b3, 2, .int .i64 r2), (b3, 3, .int .i64 r3), (b3, 4, .int .i64 r4), (b1, 0, .int .i64 A), (b1, 1, .int .i64 B), (b2, 0, .int .i64 n0), (b2, 1, .int .i64 n1), (b2, 2, .int .i64 n2), (b2, 3, .int .i64 n3), (b2, 4, .int .i64 d)] [] w'
theorem K_I3.below {A B n0 n1 n2 n3 d r0 r1 r2 r3 r4 p0 p1 p2 p3 p4 : Int} {b1 b2 b3 b4 : Nat} {w w1 w2 : World} (hb : Below w1.heap.size w1 w2) (h : K_I3 A B n0 n1 n2 n3 d r0 r1 r2 r3 r4 p0 p1 p2 p3 p4 b1 b2 b3 b4 w w1) : K_I3 A B n0 n1 n2 n3 d r0 r1 r2 r3 r4 p0 p1 p2 p3 p4 b1 b2 b3 b4 w w2 := KL.below hb h
theorem K_I3.draws {A B n0 n1 n2 n3 d r0 r1 r2 r3 r4 p0 p1 p2 p3 p4 : Int} {b1 b2 b3 b4 : Nat} {w w1 : World} (n : Nat) (h : K_I3 A B n0 n1 n2 n3 d r0 r1 r2 r3 r4 p0 p1 p2 p3 p4 b1 b2 b3 b4 w w1) : K_I3 A B n0 n1 n2 n3 d r0 r1 r2 r3 r4 p0 p1 p2 p3 p4 b1 b2 b3 b4 w (w1.drewN n) := KL.draws n h
theorem K_I3.drew {A B n0 n1 n2 n3 d r0 r1 r2 r3 r4 p0 p1 p2 p3 p4 : Int} {b1 b2 b3 b4 : Nat} {w w1 : World} (h : K_I3 A B n0 n1 n2 n3 d r0 r1 r2 r3 r4 p0 p1 p2 p3 p4 b1 b2 b3 b4 w w1) : K_I3 A B n0 n1 n2 n3 d r0 r1 r2 r3 r4 p0 p1 p2 p3 p4 b1 b2 b3 b4 w w1.drew := KL.draws 1 h
theorem K_I3.alloc {A B n0 n1 n2 n3 d r0 r1 r2 r3 r4 p0 p1 p2 p3 p4 : Int} {b1 b2 b3 b4 : Nat} {w w1 : World} (o : Obj) (h : K_I3 A B n0 n1 n2 n3 d r0 r1 r2 r3 r4 p0 p1 p2 p3 p4 b1 b2 b3 b4 w w1) : K_I3 A B n0 n1 n2 n3 d r0 r1 r2 r3 r4 p0 p1 p2 p3 p4 b1 b2 b3 b4 w (w1.alloc o) := KL.alloc o h
theorem K_I3.set {A B n0 n1 n2 n3 d r0 r1 r2 r3 r4 p0 p1 p2 p3 p4 : Int} {b1 b2 b3 b4 : Nat} {w w1 : World} (h : K_I3 A B n0 n1 n2 n3 d r0 r1 r2 r3 r4 p0 p1 p2 p3 p4 b1 b2 b3 b4 w w1) (b i : Nat) (v : Value) (hb : b ≠ b4 ∧ b ≠ b3 ∧ b ≠ b1 ∧ b ≠ b2 ∧ w.heap.size ≤ b) : K_I3 A B n0 n1 n2 n3 d r0 r1 r2 r3 r4 p0 p1 p2 p3 p4 b1 b2 b3 b4 w (w1.setCell ⟨b, i, none⟩ v) :=
  KL.set h b i v (by intro x hx; simp only [List.mem_cons, List.not_mem_nil, or_false] at hx; rcases hx with rfl | rfl | rfl | rfl | rfl | rfl | rfl | rfl | rfl | rfl | rfl | rfl | rfl | rfl | rfl | rfl | rfl <;> simp only [] <;> omega) (by omega)
theorem K_I3.bel {A B n0 n1 n2 n3 d r0 r1 r2 r3 r4 p0 p1 p2 p3 p4 : Int} {b1 b2 b3 b4 : Nat} {w w1 : World} (h : K_I3 A B n0 n1 n2 n3 d r0 r1 r2 r3 r4 p0 p1 p2 p3 p4 b1 b2 b3 b4 w w1) : Below w.heap.size w w1 := KL.bel h
theorem K_I3.cells {A B n0 n1 n2 n3 d r0 r1 r2 r3 r4 p0 p1 p2 p3 p4 : Int} {b1 b2 b3 b4 : Nat} {w w' : World} (h : K_I3 A B n0 n1 n2 n3 d r0 r1 r2 r3 r4 p0 p1 p2 p3 p4 b1 b2 b3 b4 w w') : w'.cell? ⟨b4, 0, none⟩ = some (.int .i64 p0) ∧ w'.cell? ⟨b4, 1, none⟩ = some (.int .i64 p1) ∧ w'.cell? ⟨b4, 2, none⟩ = some (.int .i64 p2) ∧ w'.cell? ⟨b4, 3, none⟩ = some (.int .i64 p3) ∧ w'.cell? ⟨b4, 4, none⟩ = some (.int .i64 p4) ∧ w'.cell? ⟨b3, 0, none⟩ = some (.int .i64 r0) ∧ w'.cell? ⟨b3, 1, none⟩ = some (.int .i64 r1) ∧ w'.cell? ⟨b3, 2, none⟩ = some (.int .i64 r2) ∧ w'.cell? ⟨b3, 3, none⟩ = some (.int .i64 r3) ∧ w'.cell? ⟨b3, 4, none⟩ = some (.int .i64 r4) ∧ w'.cell? ⟨b1, 0, none⟩ = some (.int .i64 A) ∧ w'.cell? ⟨b1, 1, none⟩ = some (.int .i64 B) ∧ w'.cell? ⟨b2, 0, none⟩ = some (.int .i64 n0) ∧ w'.cell? ⟨b2, 1, none⟩ = some (.int .i64 n1) ∧ w'.cell? ⟨b2, 2, none⟩ = some (.int .i64 n2) ∧ w'.cell? ⟨b2, 3, none⟩ = some (.int .i64 n3) ∧ w'.cell? ⟨b2, 4, none⟩ = some (.int .i64 d) := ⟨h.c (b4, 0, .int .i64 p0) (by simp), h.c (b4, 1, .int .i64 p1) (by simp), h.c (b4, 2, .int .i64 p2) (by simp), h.c (b4, 3, .int .i64 p3) (by simp), h.c (b4, 4, .int .i64 p4) (by simp), h.c (b3, 0, .int .i64 r0) (by simp), h.c (b3, 1, .int .i64 r1) (by simp), h.c (b3, 2, .int .i64 r2) (by simp), h.c (b3, 3, .int .i64 r3) (by simp), h.c (b3, 4, .int .i64 r4) (by simp), h.c (b1, 0, .int .i64 A) (by simp), h.c (b1, 1, .int .i64 B) (by simp), h.c (b2, 0, .int .i64 n0) (by simp), h.c (b2, 1, .int .i64 n1) (by simp), h.c (b2, 2, .int .i64 n2) (by simp), h.c (b2, 3, .int .i64 n3) (by simp), h.c (b2, 4, .int .i64 d) (by simp)⟩
theorem K_I3.zs {A B n0 n1 n2 n3 d r0 r1 r2 r3 r4 p0 p1 p2 p3 p4 : Int} {b1 b2 b3 b4 : Nat} {w w' : World} (h : K_I3 A B n0 n1 n2 n3 d r0 r1 r2 r3 r4 p0 p1 p2 p3 p4 b1 b2 b3 b4 w w') : b4 < w'.heap.size ∧ b3 < w'.heap.size ∧ b1 < w'.heap.size ∧ b2 < w'.heap.size ∧ True := ⟨KL.z h (x := (b4, 0, .int .i64 p0)) (by simp), KL.z h (x := (b3, 0, .int .i64 r0)) (by simp), KL.z h (x := (b1, 0, .int .i64 A)) (by simp), KL.z h (x := (b2, 0, .int .i64 n0)) (by simp), trivial⟩
theorem K_I3.ks {A B n0 n1 n2 n3 d r0 r1 r2 r3 r4 p0 p1 p2 p3 p4 : Int} {b1 b2 b3 b4 : Nat} {w w' : World} (h : K_I3 A B n0 n1 n2 n3 d r0 r1 r2 r3 r4 p0 p1 p2 p3 p4 b1 b2 b3 b4 w w') : (w'.cell? ⟨b4, 0, none⟩ = some (.int .i64 p0) ∧ w'.cell? ⟨b4, 1, none⟩ = some (.int .i64 p1) ∧ w'.cell? ⟨b4, 2, none⟩ = some (.int .i64 p2) ∧ w'.cell? ⟨b4, 3, none⟩ = some (.int .i64 p3) ∧ w'.cell? ⟨b4, 4, none⟩ = some (.int .i64 p4) ∧ w'.cell? ⟨b3, 0, none⟩ = some (.int .i64 r0) ∧ w'.cell? ⟨b3, 1, none⟩ = some (.int .i64 r1) ∧ w'.cell? ⟨b3, 2, none⟩ = some (.int .i64 r2) ∧ w'.cell? ⟨b3, 3, none⟩ = some (.int .i64 r3) ∧ w'.cell? ⟨b3, 4, none⟩ = some (.int .i64 r4) ∧ w'.cell? ⟨b1, 0, none⟩ = some (.int .i64 A) ∧ w'.cell? ⟨b1, 1, none⟩ = some (.int .i64 B) ∧ w'.cell? ⟨b2, 0, none⟩ = some (.int .i64 n0) ∧ w'.cell? ⟨b2, 1, none⟩ = some (.int .i64 n1) ∧ w'.cell? ⟨b2, 2, none⟩ = some (.int .i64 n2) ∧ w'.cell? ⟨b2, 3, none⟩ = some (.int .i64 n3) ∧ w'.cell? ⟨b2, 4, none⟩ = some (.int .i64 d)) ∧ K_I3 A B n0 n1 n2 n3 d r0 r1 r2 r3 r4 p0 p1 p2 p3 p4 b1 b2 b3 b4 w w' := ⟨h.cells, h⟩
/-- what a walk keeps: cells, and that nothing that was there has turned -/
def K_I4 (A B n0 n1 n2 n3 d r0 r1 r2 r3 r4 p0 p1 p2 p3 p4 v0 v1 v2 v3 v4 : Int) (b1 b2 b3 b4 b5 : Nat) (w w' : World) : Prop := KL w [(b5, 0, .int .i64 v0), (b5, 1, .int .i64 v1), (b5, 2, .int .i64 v2), (b5, 3, .int .i64 v3), (b5, 4, .int .i64 v4), (b4, 0, .int .i64 p0), (b4, 1, .int .i64 p1), (b4, 2, .int .i64 p2), (b4, 3, .int .i64 p3), (b4, 4, .int .i64 p4), (b3, 0, .int .i64 r0), (b3, 1, .int .i64 r1), (b3, 2, .int .i64 r2), (b3, 3, .int .i64 r3), (b3, 4, .int .i64 r4), (b1, 0, .int .i64 A), (b1, 1, .int .i64 B), (b2, 0, .int .i64 n0), (b2, 1, .int .i64 n1), (b2, 2, .int .i64 n2), (b2, 3, .int .i64 n3), (b2, 4, .int .i64 d)] [(b5, 0), (b5, 1), (b5, 2), (b5, 3), (b5, 4)] w'
theorem K_I4.below {A B n0 n1 n2 n3 d r0 r1 r2 r3 r4 p0 p1 p2 p3 p4 v0 v1 v2 v3 v4 : Int} {b1 b2 b3 b4 b5 : Nat} {w w1 w2 : World} (hb : Below w1.heap.size w1 w2) (h : K_I4 A B n0 n1 n2 n3 d r0 r1 r2 r3 r4 p0 p1 p2 p3 p4 v0 v1 v2 v3 v4 b1 b2 b3 b4 b5 w w1) : K_I4 A B n0 n1 n2 n3 d r0 r1 r2 r3 r4 p0 p1 p2 p3 p4 v0 v1 v2 v3 v4 b1 b2 b3 b4 b5 w w2 := KL.below hb h
theorem K_I4.draws {A B n0 n1 n2 n3 d r0 r1 r2 r3 r4 p0 p1 p2 p3 p4 v0 v1 v2 v3 v4 : Int} {b1 b2 b3 b4 b5 : Nat} {w w1 : World} (n : Nat) (h : K_I4 A B n0 n1 n2 n3 d r0 r1 r2 r3 r4 p0 p1 p2 p3 p4 v0 v1 v2 v3 v4 b1 b2 b3 b4 b5 w w1) : K_I4 A B n0 n1 n2 n3 d r0 r1 r2 r3 r4 p0 p1 p2 p3 p4 v0 v1 v2 v3 v4 b1 b2 b3 b4 b5 w (w1.drewN n) := KL.draws n h
theorem K_I4.drew {A B n0 n1 n2 n3 d r0 r1 r2 r3 r4 p0 p1 p2 p3 p4 v0 v1 v2 v3 v4 : Int} {b1 b2 b3 b4 b5 : Nat} {w w1 : World} (h : K_I4 A B n0 n1 n2 n3 d r0 r1 r2 r3 r4 p0 p1 p2 p3 p4 v0 v1 v2 v3 v4 b1 b2 b3 b4 b5 w w1) : K_I4 A B n0 n1 n2 n3 d r0 r1 r2 r3 r4 p0 p1 p2 p3 p4 v0 v1 v2 v3 v4 b1 b2 b3 b4 b5 w w1.drew := KL.draws 1 h
theorem K_I4.alloc {A B n0 n1 n2 n3 d r0 r1 r2 r3 r4 p0 p1 p2 p3 p4 v0 v1 v2 v3 v4 : Int} {b1 b2 b3 b4 b5 : Nat} {w w1 : World} (o : Obj) (h : K_I4 A B n0 n1 n2 n3 d r0 r1 r2 r3 r4 p0 p1 p2 p3 p4 v0 v1 v2 v3 v4 b1 b2 b3 b4 b5 w w1) : K_I4 A B n0 n1 n2 n3 d r0 r1 r2 r3 r4 p0 p1 p2 p3 p4 v0 v1 v2 v3 v4 b1 b2 b3 b4 b5 w (w1.alloc o) := KL.alloc o h
theorem K_I4.set {A B n0 n1 n2 n3 d r0 r1 r2 r3 r4 p0 p1 p2 p3 p4 v0 v1 v2 v3 v4 : Int} {b1 b2 b3 b4 b5 : Nat} {w w1 : World} (h : K_I4 A B n0 n1 n2 n3 d r0 r1 r2 r3 r4 p0 p1 p2 p3 p4 v0 v1 v2 v3 v4 b1 b2 b3 b4 b5 w w1) (b i : Nat) (v : Value) (hb : b ≠ b5 ∧ b ≠ b4 ∧ b ≠ b3 ∧ b ≠ b1 ∧ b ≠ b2 ∧ w.heap.size ≤ b) : K_I4 A B n0 n1 n2 n3 d r0 r1 r2 r3 r4 p0 p1 p2 p3 p4 v0 v1 v2 v3 v4 b1 b2 b3 b4 b5 w (w1.setCell ⟨b, i, none⟩ v) :=
  KL.set h b i v (by intro x hx; simp only [List.mem_cons, List.not_mem_nil, or_false] at hx; rcases hx with rfl | rfl | rfl | rfl | rfl | rfl | rfl | rfl | rfl | rfl | rfl | rfl | rfl | rfl | rfl | rfl | rfl | rfl | rfl | rfl | rfl | rfl <;> simp only [] <;> omega) (by omega)
theorem K_I4.bel {A B n0 n1 n2 n3 d r0 r1 r2 r3 r4 p0 p1 p2 p3 p4 v0 v1 v2 v3 v4 : Int} {b1 b2 b3 b4 b5 : Nat} {w w1 : World} (h : K_I4 A B n0 n1 n2 n3 d r0 r1 r2 r3 r4 p0 p1 p2 p3 p4 v0 v1 v2 v3 v4 b1 b2 b3 b4 b5 w w1) : Below w.heap.size w w1 := KL.bel h
theorem K_I4.cells {A B n0 n1 n2 n3 d r0 r1 r2 r3 r4 p0 p1 p2 p3 p4 v0 v1 v2 v3 v4 : Int} {b1 b2 b3 b4 b5 : Nat} {w w' : World} (h : K_I4 A B n0 n1 n2 n3 d r0 r1 r2 r3 r4 p0 p1 p2 p3 p4 v0 v1 v2 v3 v4 b1 b2 b3 b4 b5 w w') : w'.cell? ⟨b5, 0, none⟩ = some (.int .i64 v0) ∧ w'.cell? ⟨b5, 1, none⟩ = some (.int .i64 v1) ∧ w'.cell? ⟨b5, 2, none⟩ = some (.int .i64 v2) ∧ w'.cell? ⟨b5, 3, none⟩ = some (.int .i64 v3) ∧ w'.cell? ⟨b5, 4, none⟩ = some (.int .i64 v4) ∧ w'.cell? ⟨b4, 0, none⟩ = some (.int .i64 p0) ∧ w'.cell? ⟨b4, 1, none⟩ = some (.int .i64 p1) ∧ w'.cell? ⟨b4, 2, none⟩ = some (.int .i64 p2) ∧ w'.cell? ⟨b4, 3, none⟩ = some (.int .i64 p3) ∧ w'.cell? ⟨b4, 4, none⟩ = some (.int .i64 p4) ∧ w'.cell? ⟨b3, 0, none⟩ = some (.int .i64 r0) ∧ w'.cell? ⟨b3, 1, none⟩ = some (.int .i64 r1) ∧ w'.cell? ⟨b3, 2, none⟩ = some (.int .i64 r2) ∧ w'.cell? ⟨b3, 3, none⟩ = some (.int .i64 r3) ∧ w'.cell? ⟨b3, 4, none⟩ = some (.int .i64 r4) ∧ w'.cell? ⟨b1, 0, none⟩ = some (.int .i64 A) ∧ w'.cell? ⟨b1, 1, none⟩ = some (.int .i64 B) ∧ w'.cell? ⟨b2, 0, none⟩ = some (.int .i64 n0) ∧ w'.cell? ⟨b2, 1, none⟩ = some (.int .i64 n1) ∧ w'.cell? ⟨b2, 2, none⟩ = some (.int .i64 n2) ∧ w'.cell? ⟨b2, 3, none⟩ = some (.int .i64 n3) ∧ w'.cell? ⟨b2, 4, none⟩ = some (.int .i64 d) ∧ w'.frozen? ⟨b5, 0, none⟩ = false ∧ w'.frozen? ⟨b5, 1, none⟩ = false ∧ w'.frozen? ⟨b5, 2, none⟩ = false ∧ w'.frozen? ⟨b5, 3, none⟩ = false ∧ w'.frozen? ⟨b5, 4, none⟩ = false := ⟨h.c (b5, 0, .int .i64 v0) (by simp), h.c (b5, 1, .int .i64 v1) (by simp), h.c (b5, 2, .int .i64 v2) (by simp), h.c (b5, 3, .int .i64 v3) (by simp), h.c (b5, 4, .int .i64 v4) (by simp), h.c (b4, 0, .int .i64 p0) (by simp), h.c (b4, 1, .int .i64 p1) (by simp), h.c (b4, 2, .int .i64 p2) (by simp), h.c (b4, 3, .int .i64 p3) (by simp), h.c (b4, 4, .int .i64 p4) (by simp), h.c (b3, 0, .int .i64 r0) (by simp), h.c (b3, 1, .int .i64 r1) (by simp), h.c (b3, 2, .int .i64 r2) (by simp), h.c (b3, 3, .int .i64 r3) (by simp), h.c (b3, 4, .int .i64 r4) (by simp), h.c (b1, 0, .int .i64 A) (by simp), h.c (b1, 1, .int .i64 B) (by simp), h.c (b2, 0, .int .i64 n0) (by simp), h.c (b2, 1, .int .i64 n1) (by simp), h.c (b2, 2, .int .i64 n2) (by simp), h.c (b2, 3, .int .i64 n3) (by simp), h.c (b2, 4, .int .i64 d) (by simp), h.f (b5, 0) (by simp), h.f (b5, 1) (by simp), h.f (b5, 2) (by simp), h.f (b5, 3) (by simp), h.f (b5, 4) (by simp)⟩
theorem K_I4.zs {A B n0 n1 n2 n3 d r0 r1 r2 r3 r4 p0 p1 p2 p3 p4 v0 v1 v2 v3 v4 : Int} {b1 b2 b3 b4 b5 : Nat} {w w' : World} (h : K_I4 A B n0 n1 n2 n3 d r0 r1 r2 r3 r4 p0 p1 p2 p3 p4 v0 v1 v2 v3 v4 b1 b2 b3 b4 b5 w w') : b5 < w'.heap.size ∧ b4 < w'.heap.size ∧ b3 < w'.heap.size ∧ b1 < w'.heap.size ∧ b2 < w'.heap.size ∧ True := ⟨KL.z h (x := (b5, 0, .int .i64 v0)) (by simp), KL.z h (x := (b4, 0, .int .i64 p0)) (by simp), KL.z h (x := (b3, 0, .int .i64 r0)) (by simp), KL.z h (x := (b1, 0, .int .i64 A)) (by simp), KL.z h (x := (b2, 0, .int .i64 n0)) (by simp), trivial⟩
theorem K_I4.ks {A B n0 n1 n2 n3 d r0 r1 r2 r3 r4 p0 p1 p2 p3 p4 v0 v1 v2 v3 v4 : Int} {b1 b2 b3 b4 b5 : Nat} {w w' : World} (h : K_I4 A B n0 n1 n2 n3 d r0 r1 r2 r3 r4 p0 p1 p2 p3 p4 v0 v1 v2 v3 v4 b1 b2 b3 b4 b5 w w') : (w'.cell? ⟨b5, 0, none⟩ = some (.int .i64 v0) ∧ w'.cell? ⟨b5, 1, none⟩ = some (.int .i64 v1) ∧ w'.cell? ⟨b5, 2, none⟩ = some (.int .i64 v2) ∧ w'.cell? ⟨b5, 3, none⟩ = some (.int .i64 v3) ∧ w'.cell? ⟨b5, 4, none⟩ = some (.int .i64 v4) ∧ w'.cell? ⟨b4, 0, none⟩ = some (.int .i64 p0) ∧ w'.cell? ⟨b4, 1, none⟩ = some (.int .i64 p1) ∧ w'.cell? ⟨b4, 2, none⟩ = some (.int .i64 p2) ∧ w'.cell? ⟨b4, 3, none⟩ = some (.int .i64 p3) ∧ w'.cell? ⟨b4, 4, none⟩ = some (.int .i64 p4) ∧ w'.cell? ⟨b3, 0, none⟩ = some (.int .i64 r0) ∧ w'.cell? ⟨b3, 1, none⟩ = some (.int .i64 r1) ∧ w'.cell? ⟨b3, 2, none⟩ = some (.int .i64 r2) ∧ w'.cell? ⟨b3, 3, none⟩ = some (.int .i64 r3) ∧ w'.cell? ⟨b3, 4, none⟩ = some (.int .i64 r4) ∧ w'.cell? ⟨b1, 0, none⟩ = some (.int .i64 A) ∧ w'.cell? ⟨b1, 1, none⟩ = some (.int .i64 B) ∧ w'.cell? ⟨b2, 0, none⟩ = some (.int .i64 n0) ∧ w'.cell? ⟨b2, 1, none⟩ = some (.int .i64 n1) ∧ w'.cell? ⟨b2, 2, none⟩ = some (.int .i64 n2) ∧ w'.cell? ⟨b2, 3, none⟩ = some (.int .i64 n3) ∧ w'.cell? ⟨b2, 4, none⟩ = some (.int .i64 d) ∧ w'.frozen? ⟨b5, 0, none⟩ = false ∧ w'.frozen? ⟨b5, 1, none⟩ = false ∧ w'.frozen? ⟨b5, 2, none⟩ = false ∧ w'.frozen? ⟨b5, 3, none⟩ = false ∧ w'.frozen? ⟨b5, 4, none⟩ = false) ∧ K_I4 A B n0 n1 n2 n3 d r0 r1 r2 r3 r4 p0 p1 p2 p3 p4 v0 v1 v2 v3 v4 b1 b2 b3 b4 b5 w w' := ⟨h.cells, h⟩
set_option maxHeartbeats 6400000 in
theorem inv_err (A B n0 n1 n2 n3 d n : Int) (w : World) (he : or2 (chkA A B) (chkQ n0 n1 n2 n3 d) ≠ 0) : Calls Tryd.prog 7 #[.agg #[.int .i64 A, .int .i64 B], .agg #[.int .i64 n0, .int .i64 n1, .int .i64 n2, .int .i64 n3, .int .i64 d], .int .i64 n] w fun e w' => e = .returned (.bool true) ∧ Below w.heap.size w w' := by
  have IV := Lib.hid (fun W => Inverse_err A B n0 n1 n2 n3 d W he)
  have PV := Lib.hid (fun W => Power_err A B n0 n1 n2 n3 d n W he)
  have CA := Lib.hid (rCheckAll_1new A B n0 n1 n2 n3 d)
  obtain ⟨E, hE⟩ : ∃ E, or2 (chkA A B) (chkQ n0 n1 n2 n3 d) = E := ⟨_, rfl⟩
  rw [hE] at IV PV CA he
  have ht : (E != 0) = true := by rw [bne_iff_ne]; exact he
  clear he hE
  go_enter Tryd.func7, Tryd.ntmps7
  go_wp2_with fail
  refine (awake_any _).mono ?_
  rintro e w1 ⟨rfl, hb⟩
  have hK : K_Nd A B n0 n1 n2 n3 d w.heap.size (w.heap.size + 1) w w1 := K_Nd.below hb ⟨by simp [go_sem], by simp [go_sem], by simp [go_sem], by (repeat (first | (with_reducible exact Below.refl _ _) | (with_reducible exact HB.out) | (with_reducible refine below_draws ?_ _) | (with_reducible refine Below.alloc ?_ (by go_size) _) | (with_reducible refine Below.setCell ?_ (by go_size) _) | (with_reducible refine Below.alloc ?_ (by simp <;> omega) _) | (with_reducible refine Below.setCell ?_ (by simp <;> omega) _)))⟩
  clear hb
  obtain ⟨c0_, c1_, c2_, c3_, c4_, c5_, c6_⟩ := K_Nd.cells hK; obtain ⟨z0_, z1_, -⟩ := K_Nd.zs hK; have HK := Lib.hid hK; clear hK
  go_wp2_with fail
  refine (IV.out _).mono ?_
  rintro e w2 ⟨rfl, hb⟩
  clear c0_ c1_ c2_ c3_ c4_ c5_ c6_ z0_ z1_
  have hK := K_Nd.below hb HK.out
  clear hb HK
  obtain ⟨c0_, c1_, c2_, c3_, c4_, c5_, c6_⟩ := K_Nd.cells hK; obtain ⟨z0_, z1_, -⟩ := K_Nd.zs hK; have HK := Lib.hid hK; clear hK
  go_wp2_with fail
  refine (PV.out _).mono ?_
  rintro e w3 ⟨rfl, hb⟩
  clear c0_ c1_ c2_ c3_ c4_ c5_ c6_ z0_ z1_
  have hK : K_I2 A B n0 n1 n2 n3 d 0 0 0 0 0 w.heap.size (w.heap.size + 1) w2.heap.size w w3 := KL.below hb (KL.push5 HK.out 0 0 0 0 0 _ _ rfl)
  clear hb HK
  obtain ⟨c0_, c1_, c2_, c3_, c4_, c5_, c6_, c7_, c8_, c9_, c10_, c11_⟩ := K_I2.cells hK; obtain ⟨z0_, z1_, z2_, -⟩ := K_I2.zs hK; have HK := Lib.hid hK; clear hK
  go_wp2_with fail
  refine (CA.out _ _ _ (by simp)).mono ?_
  rintro e w4 ⟨rfl, hb⟩
  clear c0_ c1_ c2_ c3_ c4_ c5_ c6_ c7_ c8_ c9_ c10_ c11_ z0_ z1_ z2_
  have hK : K_I3 A B n0 n1 n2 n3 d 0 0 0 0 0 0 0 0 0 0 w.heap.size (w.heap.size + 1) w2.heap.size w3.heap.size w w4 := KL.below hb (KL.alloc _ (KL.push5 HK.out 0 0 0 0 0 _ _ rfl))
  clear hb HK
  obtain ⟨c0_, c1_, c2_, c3_, c4_, c5_, c6_, c7_, c8_, c9_, c10_, c11_, c12_, c13_, c14_, c15_, c16_⟩ := K_I3.cells hK; obtain ⟨z0_, z1_, z2_, z3_, -⟩ := K_I3.zs hK; have HK := Lib.hid hK; clear hK
  go_wp2_with fail
  refine (same_refl _ _ _ _ _ _ _).mono ?_
  rintro e w5 ⟨rfl, hb⟩
  clear c0_ c1_ c2_ c3_ c4_ c5_ c6_ c7_ c8_ c9_ c10_ c11_ c12_ c13_ c14_ c15_ c16_ z0_ z1_ z2_ z3_
  have hK := K_I3.below hb HK.out
  clear hb HK
  obtain ⟨c0_, c1_, c2_, c3_, c4_, c5_, c6_, c7_, c8_, c9_, c10_, c11_, c12_, c13_, c14_, c15_, c16_⟩ := K_I3.cells hK; obtain ⟨z0_, z1_, z2_, z3_, -⟩ := K_I3.zs hK; have HK := Lib.hid hK; clear hK
  go_wp2_with fail
  refine (same_refl _ _ _ _ _ _ _).mono ?_
  rintro e w6 ⟨rfl, hb⟩
  clear c0_ c1_ c2_ c3_ c4_ c5_ c6_ c7_ c8_ c9_ c10_ c11_ c12_ c13_ c14_ c15_ c16_ z0_ z1_ z2_ z3_
  have hK := K_I3.below hb HK.out
  clear hb HK
  go_wp2
  go_ret
  exact ⟨rfl, K_I3.bel hK⟩
set_option maxHeartbeats 6400000 in
theorem inv_out (A B n0 n1 n2 n3 d n r0 r1 r2 r3 r4 re : Int) (w : World) (he : or2 (chkA A B) (chkQ n0 n1 n2 n3 d) = 0) (hn : withinB n (-60) 60 = false)
    (IV : Hid (∀ W : World, Calls Tryd.prog 40 #[.agg #[.int .i64 A, .int .i64 B], .agg #[.int .i64 n0, .int .i64 n1, .int .i64 n2, .int .i64 n3, .int .i64 d]] W fun e w' => e = .returned (.tuple #[.agg #[.int .i64 r0, .int .i64 r1, .int .i64 r2, .int .i64 r3, .int .i64 r4], .int .i64 re]) ∧ Below W.heap.size W w'))
    (RI : Hid (∀ W : World, Calls Tryd.prog 42 #[.agg #[.int .i64 A, .int .i64 B], .agg #[.int .i64 n0, .int .i64 n1, .int .i64 n2, .int .i64 n3, .int .i64 d]] W fun e w' => e = .returned (.tuple #[.agg #[.int .i64 r0, .int .i64 r1, .int .i64 r2, .int .i64 r3, .int .i64 r4], .int .i64 re]) ∧ Below W.heap.size W w'))
    (PV : Hid (∀ W : World, Calls Tryd.prog 41 #[.agg #[.int .i64 A, .int .i64 B], .agg #[.int .i64 n0, .int .i64 n1, .int .i64 n2, .int .i64 n3, .int .i64 d], .int .i64 n] W fun e w' => e = .returned (.tuple #[.agg #[.int .i64 0, .int .i64 0, .int .i64 0, .int .i64 0, .int .i64 0], .int .i64 2]) ∧ Below W.heap.size W w'))
    : Calls Tryd.prog 7 #[.agg #[.int .i64 A, .int .i64 B], .agg #[.int .i64 n0, .int .i64 n1, .int .i64 n2, .int .i64 n3, .int .i64 d], .int .i64 n] w fun e w' => e = .returned (.bool true) ∧ Below w.heap.size w w' := by
  have CA := Lib.hid (rCheckAll_1new A B n0 n1 n2 n3 d)
  rw [he] at CA
  clear he
  go_enter Tryd.func7, Tryd.ntmps7
  go_wp2_with fail
  refine (awake_any _).mono ?_
  rintro e w1 ⟨rfl, hb⟩
  have hK : K_Nd A B n0 n1 n2 n3 d w.heap.size (w.heap.size + 1) w w1 := K_Nd.below hb ⟨by simp [go_sem], by simp [go_sem], by simp [go_sem], by (repeat (first | (with_reducible exact Below.refl _ _) | (with_reducible exact HB.out) | (with_reducible refine below_draws ?_ _) | (with_reducible refine Below.alloc ?_ (by go_size) _) | (with_reducible refine Below.setCell ?_ (by go_size) _) | (with_reducible refine Below.alloc ?_ (by simp <;> omega) _) | (with_reducible refine Below.setCell ?_ (by simp <;> omega) _)))⟩
  clear hb
  obtain ⟨c0_, c1_, c2_, c3_, c4_, c5_, c6_⟩ := K_Nd.cells hK; obtain ⟨z0_, z1_, -⟩ := K_Nd.zs hK; have HK := Lib.hid hK; clear hK
  go_wp2_with fail
  refine (IV.out _).mono ?_
  rintro e w2 ⟨rfl, hb⟩
  clear c0_ c1_ c2_ c3_ c4_ c5_ c6_ z0_ z1_
  have hK := K_Nd.below hb HK.out
  clear hb HK
  obtain ⟨c0_, c1_, c2_, c3_, c4_, c5_, c6_⟩ := K_Nd.cells hK; obtain ⟨z0_, z1_, -⟩ := K_Nd.zs hK; have HK := Lib.hid hK; clear hK
  go_wp2_with fail
  refine (PV.out _).mono ?_
  rintro e w3 ⟨rfl, hb⟩
  clear c0_ c1_ c2_ c3_ c4_ c5_ c6_ z0_ z1_
  have hK : K_I2 A B n0 n1 n2 n3 d r0 r1 r2 r3 r4 w.heap.size (w.heap.size + 1) w2.heap.size w w3 := KL.below hb (KL.push5 HK.out r0 r1 r2 r3 r4 _ _ rfl)
  clear hb HK
  obtain ⟨c0_, c1_, c2_, c3_, c4_, c5_, c6_, c7_, c8_, c9_, c10_, c11_⟩ := K_I2.cells hK; obtain ⟨z0_, z1_, z2_, -⟩ := K_I2.zs hK; have HK := Lib.hid hK; clear hK
  go_wp2_with fail
  refine (CA.out _ _ _ (by simp)).mono ?_
  rintro e w4 ⟨rfl, hb⟩
  clear c0_ c1_ c2_ c3_ c4_ c5_ c6_ c7_ c8_ c9_ c10_ c11_ z0_ z1_ z2_
  have hK : K_I3 A B n0 n1 n2 n3 d r0 r1 r2 r3 r4 0 0 0 0 0 w.heap.size (w.heap.size + 1) w2.heap.size w3.heap.size w w4 := KL.below hb (KL.alloc _ (KL.push5 HK.out 0 0 0 0 0 _ _ rfl))
  clear hb HK
  obtain ⟨c0_, c1_, c2_, c3_, c4_, c5_, c6_, c7_, c8_, c9_, c10_, c11_, c12_, c13_, c14_, c15_, c16_⟩ := K_I3.cells hK; obtain ⟨z0_, z1_, z2_, z3_, -⟩ := K_I3.zs hK; have HK := Lib.hid hK; clear hK
  go_wp2_with fail
  refine (RI.out _).mono ?_
  rintro e w5 ⟨rfl, hb⟩
  clear c0_ c1_ c2_ c3_ c4_ c5_ c6_ c7_ c8_ c9_ c10_ c11_ c12_ c13_ c14_ c15_ c16_ z0_ z1_ z2_ z3_
  have hK := K_I3.below hb HK.out
  clear hb HK
  obtain ⟨c0_, c1_, c2_, c3_, c4_, c5_, c6_, c7_, c8_, c9_, c10_, c11_, c12_, c13_, c14_, c15_, c16_⟩ := K_I3.cells hK; obtain ⟨z0_, z1_, z2_, z3_, -⟩ := K_I3.zs hK; have HK := Lib.hid hK; clear hK
  obtain ⟨q0, q1, q2, q3, q4, -⟩ : w5.heap.size ≠ w3.heap.size ∧ w5.heap.size ≠ w2.heap.size ∧ w5.heap.size ≠ w.heap.size ∧ w5.heap.size ≠ w.heap.size + 1 ∧ w.heap.size ≤ w5.heap.size ∧ True := by refine ⟨?_, ?_, ?_, ?_, ?_, trivial⟩ <;> omega
  go_wp2_with fail
  refine (same_refl _ _ _ _ _ _ _).mono ?_
  rintro e w6 ⟨rfl, hb⟩
  clear c0_ c1_ c2_ c3_ c4_ c5_ c6_ c7_ c8_ c9_ c10_ c11_ c12_ c13_ c14_ c15_ c16_ z0_ z1_ z2_ z3_
  have hK : K_I4 A B n0 n1 n2 n3 d r0 r1 r2 r3 r4 0 0 0 0 0 r0 r1 r2 r3 r4 w.heap.size (w.heap.size + 1) w2.heap.size w3.heap.size w5.heap.size w w6 := KL.below hb (KL.push5w HK.out r0 r1 r2 r3 r4 _ _ rfl)
  clear hb HK
  obtain ⟨c0_, c1_, c2_, c3_, c4_, c5_, c6_, c7_, c8_, c9_, c10_, c11_, c12_, c13_, c14_, c15_, c16_, c17_, c18_, c19_, c20_, c21_, f0_, f1_, f2_, f3_, f4_⟩ := K_I4.cells hK; obtain ⟨z0_, z1_, z2_, z3_, z4_, -⟩ := K_I4.zs hK; have HK := Lib.hid hK; clear hK
  go_wp2_with (go_at_call 43; refine (Within_any _ _ _ _).mono ?_; rintro e w' ⟨rfl, rfl⟩)
  refine (same_refl _ _ _ _ _ _ _).mono ?_
  rintro e w7 ⟨rfl, hb⟩
  clear c0_ c1_ c2_ c3_ c4_ c5_ c6_ c7_ c8_ c9_ c10_ c11_ c12_ c13_ c14_ c15_ c16_ c17_ c18_ c19_ c20_ c21_ f0_ f1_ f2_ f3_ f4_ z0_ z1_ z2_ z3_ z4_
  have hK := K_I4.below hb HK.out
  clear hb HK
  go_wp2
  go_ret
  exact ⟨rfl, K_I4.bel hK⟩
set_option maxHeartbeats 6400000 in
theorem inv_in (A B n0 n1 n2 n3 d n r0 r1 r2 r3 r4 re p0 p1 p2 p3 p4 pe : Int) (w : World) (he : or2 (chkA A B) (chkQ n0 n1 n2 n3 d) = 0) (hn : withinB n (-60) 60 = true)
    (IV : Hid (∀ W : World, Calls Tryd.prog 40 #[.agg #[.int .i64 A, .int .i64 B], .agg #[.int .i64 n0, .int .i64 n1, .int .i64 n2, .int .i64 n3, .int .i64 d]] W fun e w' => e = .returned (.tuple #[.agg #[.int .i64 r0, .int .i64 r1, .int .i64 r2, .int .i64 r3, .int .i64 r4], .int .i64 re]) ∧ Below W.heap.size W w'))
    (RI : Hid (∀ W : World, Calls Tryd.prog 42 #[.agg #[.int .i64 A, .int .i64 B], .agg #[.int .i64 n0, .int .i64 n1, .int .i64 n2, .int .i64 n3, .int .i64 d]] W fun e w' => e = .returned (.tuple #[.agg #[.int .i64 r0, .int .i64 r1, .int .i64 r2, .int .i64 r3, .int .i64 r4], .int .i64 re]) ∧ Below W.heap.size W w'))
    (PV : Hid (∀ W : World, Calls Tryd.prog 41 #[.agg #[.int .i64 A, .int .i64 B], .agg #[.int .i64 n0, .int .i64 n1, .int .i64 n2, .int .i64 n3, .int .i64 d], .int .i64 n] W fun e w' => e = .returned (.tuple #[.agg #[.int .i64 p0, .int .i64 p1, .int .i64 p2, .int .i64 p3, .int .i64 p4], .int .i64 pe]) ∧ Below W.heap.size W w'))
    (RP : Hid (∀ W : World, Calls Tryd.prog 44 #[.agg #[.int .i64 A, .int .i64 B], .agg #[.int .i64 n0, .int .i64 n1, .int .i64 n2, .int .i64 n3, .int .i64 d], .int .i64 n] W fun e w' => e = .returned (.tuple #[.agg #[.int .i64 p0, .int .i64 p1, .int .i64 p2, .int .i64 p3, .int .i64 p4], .int .i64 pe]) ∧ Below W.heap.size W w'))
    : Calls Tryd.prog 7 #[.agg #[.int .i64 A, .int .i64 B], .agg #[.int .i64 n0, .int .i64 n1, .int .i64 n2, .int .i64 n3, .int .i64 d], .int .i64 n] w fun e w' => e = .returned (.bool true) ∧ Below w.heap.size w w' := by
  have CA := Lib.hid (rCheckAll_1new A B n0 n1 n2 n3 d)
  rw [he] at CA
  clear he
  go_enter Tryd.func7, Tryd.ntmps7
  go_wp2_with fail
  refine (awake_any _).mono ?_
  rintro e w1 ⟨rfl, hb⟩
  have hK : K_Nd A B n0 n1 n2 n3 d w.heap.size (w.heap.size + 1) w w1 := K_Nd.below hb ⟨by simp [go_sem], by simp [go_sem], by simp [go_sem], by (repeat (first | (with_reducible exact Below.refl _ _) | (with_reducible exact HB.out) | (with_reducible refine below_draws ?_ _) | (with_reducible refine Below.alloc ?_ (by go_size) _) | (with_reducible refine Below.setCell ?_ (by go_size) _) | (with_reducible refine Below.alloc ?_ (by simp <;> omega) _) | (with_reducible refine Below.setCell ?_ (by simp <;> omega) _)))⟩
  clear hb
  obtain ⟨c0_, c1_, c2_, c3_, c4_, c5_, c6_⟩ := K_Nd.cells hK; obtain ⟨z0_, z1_, -⟩ := K_Nd.zs hK; have HK := Lib.hid hK; clear hK
  go_wp2_with fail
  refine (IV.out _).mono ?_
  rintro e w2 ⟨rfl, hb⟩
  clear c0_ c1_ c2_ c3_ c4_ c5_ c6_ z0_ z1_
  have hK := K_Nd.below hb HK.out
  clear hb HK
  obtain ⟨c0_, c1_, c2_, c3_, c4_, c5_, c6_⟩ := K_Nd.cells hK; obtain ⟨z0_, z1_, -⟩ := K_Nd.zs hK; have HK := Lib.hid hK; clear hK
  go_wp2_with fail
  refine (PV.out _).mono ?_
  rintro e w3 ⟨rfl, hb⟩
  clear c0_ c1_ c2_ c3_ c4_ c5_ c6_ z0_ z1_
  have hK : K_I2 A B n0 n1 n2 n3 d r0 r1 r2 r3 r4 w.heap.size (w.heap.size + 1) w2.heap.size w w3 := KL.below hb (KL.push5 HK.out r0 r1 r2 r3 r4 _ _ rfl)
  clear hb HK
  obtain ⟨c0_, c1_, c2_, c3_, c4_, c5_, c6_, c7_, c8_, c9_, c10_, c11_⟩ := K_I2.cells hK; obtain ⟨z0_, z1_, z2_, -⟩ := K_I2.zs hK; have HK := Lib.hid hK; clear hK
  go_wp2_with fail
  refine (CA.out _ _ _ (by simp)).mono ?_
  rintro e w4 ⟨rfl, hb⟩
  clear c0_ c1_ c2_ c3_ c4_ c5_ c6_ c7_ c8_ c9_ c10_ c11_ z0_ z1_ z2_
  have hK : K_I3 A B n0 n1 n2 n3 d r0 r1 r2 r3 r4 p0 p1 p2 p3 p4 w.heap.size (w.heap.size + 1) w2.heap.size w3.heap.size w w4 := KL.below hb (KL.alloc _ (KL.push5 HK.out p0 p1 p2 p3 p4 _ _ rfl))
  clear hb HK
  obtain ⟨c0_, c1_, c2_, c3_, c4_, c5_, c6_, c7_, c8_, c9_, c10_, c11_, c12_, c13_, c14_, c15_, c16_⟩ := K_I3.cells hK; obtain ⟨z0_, z1_, z2_, z3_, -⟩ := K_I3.zs hK; have HK := Lib.hid hK; clear hK
  go_wp2_with fail
  refine (RI.out _).mono ?_
  rintro e w5 ⟨rfl, hb⟩
  clear c0_ c1_ c2_ c3_ c4_ c5_ c6_ c7_ c8_ c9_ c10_ c11_ c12_ c13_ c14_ c15_ c16_ z0_ z1_ z2_ z3_
  have hK := K_I3.below hb HK.out
  clear hb HK
  obtain ⟨c0_, c1_, c2_, c3_, c4_, c5_, c6_, c7_, c8_, c9_, c10_, c11_, c12_, c13_, c14_, c15_, c16_⟩ := K_I3.cells hK; obtain ⟨z0_, z1_, z2_, z3_, -⟩ := K_I3.zs hK; have HK := Lib.hid hK; clear hK
  obtain ⟨q0, q1, q2, q3, q4, -⟩ : w5.heap.size ≠ w3.heap.size ∧ w5.heap.size ≠ w2.heap.size ∧ w5.heap.size ≠ w.heap.size ∧ w5.heap.size ≠ w.heap.size + 1 ∧ w.heap.size ≤ w5.heap.size ∧ True := by refine ⟨?_, ?_, ?_, ?_, ?_, trivial⟩ <;> omega
  go_wp2_with fail
  refine (same_refl _ _ _ _ _ _ _).mono ?_
  rintro e w6 ⟨rfl, hb⟩
  clear c0_ c1_ c2_ c3_ c4_ c5_ c6_ c7_ c8_ c9_ c10_ c11_ c12_ c13_ c14_ c15_ c16_ z0_ z1_ z2_ z3_
  have hK : K_I4 A B n0 n1 n2 n3 d r0 r1 r2 r3 r4 p0 p1 p2 p3 p4 r0 r1 r2 r3 r4 w.heap.size (w.heap.size + 1) w2.heap.size w3.heap.size w5.heap.size w w6 := KL.below hb (KL.push5w HK.out r0 r1 r2 r3 r4 _ _ rfl)
  clear hb HK
  obtain ⟨c0_, c1_, c2_, c3_, c4_, c5_, c6_, c7_, c8_, c9_, c10_, c11_, c12_, c13_, c14_, c15_, c16_, c17_, c18_, c19_, c20_, c21_, f0_, f1_, f2_, f3_, f4_⟩ := K_I4.cells hK; obtain ⟨z0_, z1_, z2_, z3_, z4_, -⟩ := K_I4.zs hK; have HK := Lib.hid hK; clear hK
  go_wp2_with (go_at_call 43; refine (Within_any _ _ _ _).mono ?_; rintro e w' ⟨rfl, rfl⟩)
  refine (RP.out _).mono ?_
  rintro e w7 ⟨rfl, hb⟩
  clear c0_ c1_ c2_ c3_ c4_ c5_ c6_ c7_ c8_ c9_ c10_ c11_ c12_ c13_ c14_ c15_ c16_ c17_ c18_ c19_ c20_ c21_ f0_ f1_ f2_ f3_ f4_ z0_ z1_ z2_ z3_ z4_
  have hK := K_I4.below hb HK.out
  clear hb HK
  obtain ⟨c0_, c1_, c2_, c3_, c4_, c5_, c6_, c7_, c8_, c9_, c10_, c11_, c12_, c13_, c14_, c15_, c16_, c17_, c18_, c19_, c20_, c21_, f0_, f1_, f2_, f3_, f4_⟩ := K_I4.cells hK; obtain ⟨z0_, z1_, z2_, z3_, z4_, -⟩ := K_I4.zs hK; have HK := Lib.hid hK; clear hK
  go_wp2_with fail
  refine (same_refl _ _ _ _ _ _ _).mono ?_
  rintro e w8 ⟨rfl, hb⟩
  clear c0_ c1_ c2_ c3_ c4_ c5_ c6_ c7_ c8_ c9_ c10_ c11_ c12_ c13_ c14_ c15_ c16_ c17_ c18_ c19_ c20_ c21_ f0_ f1_ f2_ f3_ f4_ z0_ z1_ z2_ z3_ z4_
  have hK := K_I4.below hb (KL.put5 (a' := p0) (b' := p1) (c' := p2) (d' := p3) (e' := p4) HK.out (by intro x hx; simp only [List.mem_cons, List.not_mem_nil, or_false] at hx; rcases hx with rfl | rfl | rfl | rfl | rfl | rfl | rfl | rfl | rfl | rfl | rfl | rfl | rfl | rfl | rfl | rfl | rfl <;> assumption) q4)
  clear hb HK
  go_wp2
  go_ret
  exact ⟨rfl, K_I4.bel hK⟩
theorem walk_inverses (A B n0 n1 n2 n3 d n : Int) (w : World) : Calls Tryd.prog 7 #[.agg #[.int .i64 A, .int .i64 B], .agg #[.int .i64 n0, .int .i64 n1, .int .i64 n2, .int .i64 n3, .int .i64 d], .int .i64 n] w fun e w' => e = .returned (.bool true) ∧ Below w.heap.size w w' := by
  by_cases he : or2 (chkA A B) (chkQ n0 n1 n2 n3 d) = 0
  · obtain ⟨hA, hq⟩ := or2_eq0 he
    rcases hn : withinB n (-60) 60 with _ | _
    · exact inv_out A B n0 n1 n2 n3 d n _ _ _ _ _ _ w he hn (Lib.hid fun W => Inverse_v A B n0 n1 n2 n3 d W hA hq) (Lib.hid fun W => rInverse_v A B n0 n1 n2 n3 d W hA hq) (Lib.hid fun W => Power_range A B n0 n1 n2 n3 d n W hA hq hn)
    · have hn' := withinB_of hn
      by_cases h0 : 0 ≤ n
      · obtain ⟨N, rfl⟩ : ∃ N : Nat, n = N := ⟨n.toNat, by omega⟩
        exact inv_in A B n0 n1 n2 n3 d N _ _ _ _ _ _ _ _ _ _ _ _ w he hn (Lib.hid fun W => Inverse_v A B n0 n1 n2 n3 d W hA hq) (Lib.hid fun W => rInverse_v A B n0 n1 n2 n3 d W hA hq) (Lib.hid fun W => Power_nat A B n0 n1 n2 n3 d N W (by omega) hA hq) (Lib.hid fun W => rPower_nat A B n0 n1 n2 n3 d N W (by omega) hA hq)
      · obtain ⟨N, rfl⟩ : ∃ N : Nat, n = -(N : Int) := ⟨(-n).toNat, by omega⟩
        by_cases hi : invE A B ⟨n0, n1, n2, n3, d⟩ = 0
        · obtain ⟨s, hs⟩ : ∃ s, invQ A B ⟨n0, n1, n2, n3, d⟩ = s := ⟨_, rfl⟩
          exact inv_in A B n0 n1 n2 n3 d _ _ _ _ _ _ _ _ _ _ _ _ _ w he hn (Lib.hid fun W => Inverse_v A B n0 n1 n2 n3 d W hA hq) (Lib.hid fun W => rInverse_v A B n0 n1 n2 n3 d W hA hq) (Lib.hid fun W => Power_neg A B n0 n1 n2 n3 d N W (by omega) (by omega) hA hq hi s hs) (Lib.hid fun W => rPower_neg A B n0 n1 n2 n3 d N W (by omega) (by omega) hA hq hi s hs)
        · exact inv_in A B n0 n1 n2 n3 d _ _ _ _ _ _ _ _ _ _ _ _ _ w he hn (Lib.hid fun W => Inverse_v A B n0 n1 n2 n3 d W hA hq) (Lib.hid fun W => rInverse_v A B n0 n1 n2 n3 d W hA hq) (Lib.hid fun W => Power_negerr A B n0 n1 n2 n3 d N W (by omega) (by omega) hA hq hi) (Lib.hid fun W => rPower_negerr A B n0 n1 n2 n3 d N W (by omega) (by omega) hA hq hi)
  · exact inv_err A B n0 n1 n2 n3 d n w he
end Go.Proofs.YtjloanplhbbomaaDoor.Al
