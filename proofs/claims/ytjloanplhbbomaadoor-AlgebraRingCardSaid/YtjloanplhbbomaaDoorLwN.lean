/-
  WALK of the law AlgebraNorms: it returns true for all arguments.
-/
import Derived.Test.YtjloanplhbbomaaDoorAlF
import Derived.Test.YtjloanplhbbomaaDoorAw4
namespace Go.Proofs.YtjloanplhbbomaaDoor.Al
open Go.RowKit
open Alm
set_option linter.unusedVariables false
set_option linter.unusedSimpArgs false
set_option maxRecDepth 100000
/-- what a walk keeps: cells, and that nothing that was there has turned -/
def K_L1 (A B n0 n1 n2 n3 d t0 t1 : Int) (b1 b2 b3 : Nat) (w w' : World) : Prop := KL w [(b3, 0, .int .i64 t0), (b3, 1, .int .i64 t1), (b1, 0, .int .i64 A), (b1, 1, .int .i64 B), (b2, 0, .int .i64 n0), (b2, 1, .int .i64 n1), (b2, 2, .int .i64 n2), (b2, 3, .int .i64 n3), (b2, 4, .int .i64 d)] [] w'
theorem K_L1.below {A B n0 n1 n2 n3 d t0 t1 : Int} {b1 b2 b3 : Nat} {w w1 w2 : World} (hb : Below w1.heap.size w1 w2) (h : K_L1 A B n0 n1 n2 n3 d t0 t1 b1 b2 b3 w w1) : K_L1 A B n0 n1 n2 n3 d t0 t1 b1 b2 b3 w w2 := KL.below hb h
theorem K_L1.draws {A B n0 n1 n2 n3 d t0 t1 : Int} {b1 b2 b3 : Nat} {w w1 : World} (n : Nat) (h : K_L1 A B n0 n1 n2 n3 d t0 t1 b1 b2 b3 w w1) : K_L1 A B n0 n1 n2 n3 d t0 t1 b1 b2 b3 w (w1.drewN n) := KL.draws n h
theorem K_L1.drew {A B n0 n1 n2 n3 d t0 t1 : Int} {b1 b2 b3 : Nat} {w w1 : World} (h : K_L1 A B n0 n1 n2 n3 d t0 t1 b1 b2 b3 w w1) : K_L1 A B n0 n1 n2 n3 d t0 t1 b1 b2 b3 w w1.drew := KL.draws 1 h
theorem K_L1.alloc {A B n0 n1 n2 n3 d t0 t1 : Int} {b1 b2 b3 : Nat} {w w1 : World} (o : Obj) (h : K_L1 A B n0 n1 n2 n3 d t0 t1 b1 b2 b3 w w1) : K_L1 A B n0 n1 n2 n3 d t0 t1 b1 b2 b3 w (w1.alloc o) := KL.alloc o h
theorem K_L1.set {A B n0 n1 n2 n3 d t0 t1 : Int} {b1 b2 b3 : Nat} {w w1 : World} (h : K_L1 A B n0 n1 n2 n3 d t0 t1 b1 b2 b3 w w1) (b i : Nat) (v : Value) (hb : b ≠ b3 ∧ b ≠ b1 ∧ b ≠ b2 ∧ w.heap.size ≤ b) : K_L1 A B n0 n1 n2 n3 d t0 t1 b1 b2 b3 w (w1.setCell ⟨b, i, none⟩ v) :=
  KL.set h b i v (by intro x hx; simp only [List.mem_cons, List.not_mem_nil, or_false] at hx; rcases hx with rfl | rfl | rfl | rfl | rfl | rfl | rfl | rfl | rfl <;> simp only [] <;> omega) (by omega)
theorem K_L1.bel {A B n0 n1 n2 n3 d t0 t1 : Int} {b1 b2 b3 : Nat} {w w1 : World} (h : K_L1 A B n0 n1 n2 n3 d t0 t1 b1 b2 b3 w w1) : Below w.heap.size w w1 := KL.bel h
theorem K_L1.cells {A B n0 n1 n2 n3 d t0 t1 : Int} {b1 b2 b3 : Nat} {w w' : World} (h : K_L1 A B n0 n1 n2 n3 d t0 t1 b1 b2 b3 w w') : w'.cell? ⟨b3, 0, none⟩ = some (.int .i64 t0) ∧ w'.cell? ⟨b3, 1, none⟩ = some (.int .i64 t1) ∧ w'.cell? ⟨b1, 0, none⟩ = some (.int .i64 A) ∧ w'.cell? ⟨b1, 1, none⟩ = some (.int .i64 B) ∧ w'.cell? ⟨b2, 0, none⟩ = some (.int .i64 n0) ∧ w'.cell? ⟨b2, 1, none⟩ = some (.int .i64 n1) ∧ w'.cell? ⟨b2, 2, none⟩ = some (.int .i64 n2) ∧ w'.cell? ⟨b2, 3, none⟩ = some (.int .i64 n3) ∧ w'.cell? ⟨b2, 4, none⟩ = some (.int .i64 d) := ⟨h.c (b3, 0, .int .i64 t0) (by simp), h.c (b3, 1, .int .i64 t1) (by simp), h.c (b1, 0, .int .i64 A) (by simp), h.c (b1, 1, .int .i64 B) (by simp), h.c (b2, 0, .int .i64 n0) (by simp), h.c (b2, 1, .int .i64 n1) (by simp), h.c (b2, 2, .int .i64 n2) (by simp), h.c (b2, 3, .int .i64 n3) (by simp), h.c (b2, 4, .int .i64 d) (by simp)⟩
theorem K_L1.zs {A B n0 n1 n2 n3 d t0 t1 : Int} {b1 b2 b3 : Nat} {w w' : World} (h : K_L1 A B n0 n1 n2 n3 d t0 t1 b1 b2 b3 w w') : b3 < w'.heap.size ∧ b1 < w'.heap.size ∧ b2 < w'.heap.size ∧ True := ⟨KL.z h (x := (b3, 0, .int .i64 t0)) (by simp), KL.z h (x := (b1, 0, .int .i64 A)) (by simp), KL.z h (x := (b2, 0, .int .i64 n0)) (by simp), trivial⟩
theorem K_L1.ks {A B n0 n1 n2 n3 d t0 t1 : Int} {b1 b2 b3 : Nat} {w w' : World} (h : K_L1 A B n0 n1 n2 n3 d t0 t1 b1 b2 b3 w w') : (w'.cell? ⟨b3, 0, none⟩ = some (.int .i64 t0) ∧ w'.cell? ⟨b3, 1, none⟩ = some (.int .i64 t1) ∧ w'.cell? ⟨b1, 0, none⟩ = some (.int .i64 A) ∧ w'.cell? ⟨b1, 1, none⟩ = some (.int .i64 B) ∧ w'.cell? ⟨b2, 0, none⟩ = some (.int .i64 n0) ∧ w'.cell? ⟨b2, 1, none⟩ = some (.int .i64 n1) ∧ w'.cell? ⟨b2, 2, none⟩ = some (.int .i64 n2) ∧ w'.cell? ⟨b2, 3, none⟩ = some (.int .i64 n3) ∧ w'.cell? ⟨b2, 4, none⟩ = some (.int .i64 d)) ∧ K_L1 A B n0 n1 n2 n3 d t0 t1 b1 b2 b3 w w' := ⟨h.cells, h⟩
/-- what a walk keeps: cells, and that nothing that was there has turned -/
def K_L2 (A B n0 n1 n2 n3 d t0 t1 s0 s1 : Int) (b1 b2 b3 b4 : Nat) (w w' : World) : Prop := KL w [(b4, 0, .int .i64 s0), (b4, 1, .int .i64 s1), (b3, 0, .int .i64 t0), (b3, 1, .int .i64 t1), (b1, 0, .int .i64 A), (b1, 1, .int .i64 B), (b2, 0, .int .i64 n0), (b2, 1, .int .i64 n1), (b2, 2, .int .i64 n2), (b2, 3, .int .i64 n3), (b2, 4, .int .i64 d)] [] w'
theorem K_L2.below {A B n0 n1 n2 n3 d t0 t1 s0 s1 : Int} {b1 b2 b3 b4 : Nat} {w w1 w2 : World} (hb : Below w1.heap.size w1 w2) (h : K_L2 A B n0 n1 n2 n3 d t0 t1 s0 s1 b1 b2 b3 b4 w w1) : K_L2 A B n0 n1 n2 n3 d t0 t1 s0 s1 b1 b2 b3 b4 w w2 := KL.below hb h
theorem K_L2.draws {A B n0 n1 n2 n3 d t0 t1 s0 s1 : Int} {b1 b2 b3 b4 : Nat} {w w1 : World} (n : Nat) (h : K_L2 A B n0 n1 n2 n3 d t0 t1 s0 s1 b1 b2 b3 b4 w w1) : K_L2 A B n0 n1 n2 n3 d t0 t1 s0 s1 b1 b2 b3 b4 w (w1.drewN n) := KL.draws n h
theorem K_L2.drew {A B n0 n1 n2 n3 d t0 t1 s0 s1 : Int} {b1 b2 b3 b4 : Nat} {w w1 : World} (h : K_L2 A B n0 n1 n2 n3 d t0 t1 s0 s1 b1 b2 b3 b4 w w1) : K_L2 A B n0 n1 n2 n3 d t0 t1 s0 s1 b1 b2 b3 b4 w w1.drew := KL.draws 1 h
theorem K_L2.alloc {A B n0 n1 n2 n3 d t0 t1 s0 s1 : Int} {b1 b2 b3 b4 : Nat} {w w1 : World} (o : Obj) (h : K_L2 A B n0 n1 n2 n3 d t0 t1 s0 s1 b1 b2 b3 b4 w w1) : K_L2 A B n0 n1 n2 n3 d t0 t1 s0 s1 b1 b2 b3 b4 w (w1.alloc o) := KL.alloc o h
theorem K_L2.set {A B n0 n1 n2 n3 d t0 t1 s0 s1 : Int} {b1 b2 b3 b4 : Nat} {w w1 : World} (h : K_L2 A B n0 n1 n2 n3 d t0 t1 s0 s1 b1 b2 b3 b4 w w1) (b i : Nat) (v : Value) (hb : b ≠ b4 ∧ b ≠ b3 ∧ b ≠ b1 ∧ b ≠ b2 ∧ w.heap.size ≤ b) : K_L2 A B n0 n1 n2 n3 d t0 t1 s0 s1 b1 b2 b3 b4 w (w1.setCell ⟨b, i, none⟩ v) :=
  KL.set h b i v (by intro x hx; simp only [List.mem_cons, List.not_mem_nil, or_false] at hx; rcases hx with rfl | rfl | rfl | rfl | rfl | rfl | rfl | rfl | rfl | rfl | rfl <;> simp only [] <;> omega) (by omega)
theorem K_L2.bel {A B n0 n1 n2 n3 d t0 t1 s0 s1 : Int} {b1 b2 b3 b4 : Nat} {w w1 : World} (h : K_L2 A B n0 n1 n2 n3 d t0 t1 s0 s1 b1 b2 b3 b4 w w1) : Below w.heap.size w w1 := KL.bel h
theorem K_L2.cells {A B n0 n1 n2 n3 d t0 t1 s0 s1 : Int} {b1 b2 b3 b4 : Nat} {w w' : World} (h : K_L2 A B n0 n1 n2 n3 d t0 t1 s0 s1 b1 b2 b3 b4 w w') : w'.cell? ⟨b4, 0, none⟩ = some (.int .i64 s0) ∧ w'.cell? ⟨b4, 1, none⟩ = some (.int .i64 s1) ∧ w'.cell? ⟨b3, 0, none⟩ = some (.int .i64 t0) ∧ w'.cell? ⟨b3, 1, none⟩ = some (.int .i64 t1) ∧ w'.cell? ⟨b1, 0, none⟩ = some (.int .i64 A) ∧ w'.cell? ⟨b1, 1, none⟩ = some (.int .i64 B) ∧ w'.cell? ⟨b2, 0, none⟩ = some (.int .i64 n0) ∧ w'.cell? ⟨b2, 1, none⟩ = some (.int .i64 n1) ∧ w'.cell? ⟨b2, 2, none⟩ = some (.int .i64 n2) ∧ w'.cell? ⟨b2, 3, none⟩ = some (.int .i64 n3) ∧ w'.cell? ⟨b2, 4, none⟩ = some (.int .i64 d) := ⟨h.c (b4, 0, .int .i64 s0) (by simp), h.c (b4, 1, .int .i64 s1) (by simp), h.c (b3, 0, .int .i64 t0) (by simp), h.c (b3, 1, .int .i64 t1) (by simp), h.c (b1, 0, .int .i64 A) (by simp), h.c (b1, 1, .int .i64 B) (by simp), h.c (b2, 0, .int .i64 n0) (by simp), h.c (b2, 1, .int .i64 n1) (by simp), h.c (b2, 2, .int .i64 n2) (by simp), h.c (b2, 3, .int .i64 n3) (by simp), h.c (b2, 4, .int .i64 d) (by simp)⟩
theorem K_L2.zs {A B n0 n1 n2 n3 d t0 t1 s0 s1 : Int} {b1 b2 b3 b4 : Nat} {w w' : World} (h : K_L2 A B n0 n1 n2 n3 d t0 t1 s0 s1 b1 b2 b3 b4 w w') : b4 < w'.heap.size ∧ b3 < w'.heap.size ∧ b1 < w'.heap.size ∧ b2 < w'.heap.size ∧ True := ⟨KL.z h (x := (b4, 0, .int .i64 s0)) (by simp), KL.z h (x := (b3, 0, .int .i64 t0)) (by simp), KL.z h (x := (b1, 0, .int .i64 A)) (by simp), KL.z h (x := (b2, 0, .int .i64 n0)) (by simp), trivial⟩
theorem K_L2.ks {A B n0 n1 n2 n3 d t0 t1 s0 s1 : Int} {b1 b2 b3 b4 : Nat} {w w' : World} (h : K_L2 A B n0 n1 n2 n3 d t0 t1 s0 s1 b1 b2 b3 b4 w w') : (w'.cell? ⟨b4, 0, none⟩ = some (.int .i64 s0) ∧ w'.cell? ⟨b4, 1, none⟩ = some (.int .i64 s1) ∧ w'.cell? ⟨b3, 0, none⟩ = some (.int .i64 t0) ∧ w'.cell? ⟨b3, 1, none⟩ = some (.int .i64 t1) ∧ w'.cell? ⟨b1, 0, none⟩ = some (.int .i64 A) ∧ w'.cell? ⟨b1, 1, none⟩ = some (.int .i64 B) ∧ w'.cell? ⟨b2, 0, none⟩ = some (.int .i64 n0) ∧ w'.cell? ⟨b2, 1, none⟩ = some (.int .i64 n1) ∧ w'.cell? ⟨b2, 2, none⟩ = some (.int .i64 n2) ∧ w'.cell? ⟨b2, 3, none⟩ = some (.int .i64 n3) ∧ w'.cell? ⟨b2, 4, none⟩ = some (.int .i64 d)) ∧ K_L2 A B n0 n1 n2 n3 d t0 t1 s0 s1 b1 b2 b3 b4 w w' := ⟨h.cells, h⟩
/-- what a walk keeps: cells, and that nothing that was there has turned -/
def K_L3 (A B n0 n1 n2 n3 d t0 t1 s0 s1 p0 p1 p2 p3 : Int) (b1 b2 b3 b4 b5 : Nat) (w w' : World) : Prop := KL w [(b5, 0, .int .i64 p0), (b5, 1, .int .i64 p1), (b5, 2, .int .i64 p2), (b5, 3, .int .i64 p3), (b4, 0, .int .i64 s0), (b4, 1, .int .i64 s1), (b3, 0, .int .i64 t0), (b3, 1, .int .i64 t1), (b1, 0, .int .i64 A), (b1, 1, .int .i64 B), (b2, 0, .int .i64 n0), (b2, 1, .int .i64 n1), (b2, 2, .int .i64 n2), (b2, 3, .int .i64 n3), (b2, 4, .int .i64 d)] [] w'
theorem K_L3.below {A B n0 n1 n2 n3 d t0 t1 s0 s1 p0 p1 p2 p3 : Int} {b1 b2 b3 b4 b5 : Nat} {w w1 w2 : World} (hb : Below w1.heap.size w1 w2) (h : K_L3 A B n0 n1 n2 n3 d t0 t1 s0 s1 p0 p1 p2 p3 b1 b2 b3 b4 b5 w w1) : K_L3 A B n0 n1 n2 n3 d t0 t1 s0 s1 p0 p1 p2 p3 b1 b2 b3 b4 b5 w w2 := KL.below hb h
theorem K_L3.draws {A B n0 n1 n2 n3 d t0 t1 s0 s1 p0 p1 p2 p3 : Int} {b1 b2 b3 b4 b5 : Nat} {w w1 : World} (n : Nat) (h : K_L3 A B n0 n1 n2 n3 d t0 t1 s0 s1 p0 p1 p2 p3 b1 b2 b3 b4 b5 w w1) : K_L3 A B n0 n1 n2 n3 d t0 t1 s0 s1 p0 p1 p2 p3 b1 b2 b3 b4 b5 w (w1.drewN n) := KL.draws n h
theorem K_L3.drew {A B n0 n1 n2 n3 d t0 t1 s0 s1 p0 p1 p2 p3 : Int} {b1 b2 b3 b4 b5 : Nat} {w w1 : World} (h : K_L3 A B n0 n1 n2 n3 d t0 t1 s0 s1 p0 p1 p2 p3 b1 b2 b3 b4 b5 w w1) : K_L3 A B n0 n1 n2 n3 d t0 t1 s0 s1 p0 p1 p2 p3 b1 b2 b3 b4 b5 w w1.drew := KL.draws 1 h
theorem K_L3.alloc {A B n0 n1 n2 n3 d t0 t1 s0 s1 p0 p1 p2 p3 : Int} {b1 b2 b3 b4 b5 : Nat} {w w1 : World} (o : Obj) (h : K_L3 A B n0 n1 n2 n3 d t0 t1 s0 s1 p0 p1 p2 p3 b1 b2 b3 b4 b5 w w1) : K_L3 A B n0 n1 n2 n3 d t0 t1 s0 s1 p0 p1 p2 p3 b1 b2 b3 b4 b5 w (w1.alloc o) := KL.alloc o h
theorem K_L3.set {A B n0 n1 n2 n3 d t0 t1 s0 s1 p0 p1 p2 p3 : Int} {b1 b2 b3 b4 b5 : Nat} {w w1 : World} (h : K_L3 A B n0 n1 n2 n3 d t0 t1 s0 s1 p0 p1 p2 p3 b1 b2 b3 b4 b5 w w1) (b i : Nat) (v : Value) (hb : b ≠ b5 ∧ b ≠ b4 ∧ b ≠ b3 ∧ b ≠ b1 ∧ b ≠ b2 ∧ w.heap.size ≤ b) : K_L3 A B n0 n1 n2 n3 d t0 t1 s0 s1 p0 p1 p2 p3 b1 b2 b3 b4 b5 w (w1.setCell ⟨b, i, none⟩ v) :=
  KL.set h b i v (by intro x hx; simp only [List.mem_cons, List.not_mem_nil, or_false] at hx; rcases hx with rfl | rfl | rfl | rfl | rfl | rfl | rfl | rfl | rfl | rfl | rfl | rfl | rfl | rfl | rfl <;> simp only [] <;> omega) (by omega)
theorem K_L3.bel {A B n0 n1 n2 n3 d t0 t1 s0 s1 p0 p1 p2 p3 : Int} {b1 b2 b3 b4 b5 : Nat} {w w1 : World} (h : K_L3 A B n0 n1 n2 n3 d t0 t1 s0 s1 p0 p1 p2 p3 b1 b2 b3 b4 b5 w w1) : Below w.heap.size w w1 := KL.bel h
theorem K_L3.cells {A B n0 n1 n2 n3 d t0 t1 s0 s1 p0 p1 p2 p3 : Int} {b1 b2 b3 b4 b5 : Nat} {w w' : World} (h : K_L3 A B n0 n1 n2 n3 d t0 t1 s0 s1 p0 p1 p2 p3 b1 b2 b3 b4 b5 w w') : w'.cell? ⟨b5, 0, none⟩ = some (.int .i64 p0) ∧ w'.cell? ⟨b5, 1, none⟩ = some (.int .i64 p1) ∧ w'.cell? ⟨b5, 2, none⟩ = some (.int .i64 p2) ∧ w'.cell? ⟨b5, 3, none⟩ = some (.int .i64 p3) ∧ w'.cell? ⟨b4, 0, none⟩ = some (.int .i64 s0) ∧ w'.cell? ⟨b4, 1, none⟩ = some (.int .i64 s1) ∧ w'.cell? ⟨b3, 0, none⟩ = some (.int .i64 t0) ∧ w'.cell? ⟨b3, 1, none⟩ = some (.int .i64 t1) ∧ w'.cell? ⟨b1, 0, none⟩ = some (.int .i64 A) ∧ w'.cell? ⟨b1, 1, none⟩ = some (.int .i64 B) ∧ w'.cell? ⟨b2, 0, none⟩ = some (.int .i64 n0) ∧ w'.cell? ⟨b2, 1, none⟩ = some (.int .i64 n1) ∧ w'.cell? ⟨b2, 2, none⟩ = some (.int .i64 n2) ∧ w'.cell? ⟨b2, 3, none⟩ = some (.int .i64 n3) ∧ w'.cell? ⟨b2, 4, none⟩ = some (.int .i64 d) := ⟨h.c (b5, 0, .int .i64 p0) (by simp), h.c (b5, 1, .int .i64 p1) (by simp), h.c (b5, 2, .int .i64 p2) (by simp), h.c (b5, 3, .int .i64 p3) (by simp), h.c (b4, 0, .int .i64 s0) (by simp), h.c (b4, 1, .int .i64 s1) (by simp), h.c (b3, 0, .int .i64 t0) (by simp), h.c (b3, 1, .int .i64 t1) (by simp), h.c (b1, 0, .int .i64 A) (by simp), h.c (b1, 1, .int .i64 B) (by simp), h.c (b2, 0, .int .i64 n0) (by simp), h.c (b2, 1, .int .i64 n1) (by simp), h.c (b2, 2, .int .i64 n2) (by simp), h.c (b2, 3, .int .i64 n3) (by simp), h.c (b2, 4, .int .i64 d) (by simp)⟩
theorem K_L3.zs {A B n0 n1 n2 n3 d t0 t1 s0 s1 p0 p1 p2 p3 : Int} {b1 b2 b3 b4 b5 : Nat} {w w' : World} (h : K_L3 A B n0 n1 n2 n3 d t0 t1 s0 s1 p0 p1 p2 p3 b1 b2 b3 b4 b5 w w') : b5 < w'.heap.size ∧ b4 < w'.heap.size ∧ b3 < w'.heap.size ∧ b1 < w'.heap.size ∧ b2 < w'.heap.size ∧ True := ⟨KL.z h (x := (b5, 0, .int .i64 p0)) (by simp), KL.z h (x := (b4, 0, .int .i64 s0)) (by simp), KL.z h (x := (b3, 0, .int .i64 t0)) (by simp), KL.z h (x := (b1, 0, .int .i64 A)) (by simp), KL.z h (x := (b2, 0, .int .i64 n0)) (by simp), trivial⟩
theorem K_L3.ks {A B n0 n1 n2 n3 d t0 t1 s0 s1 p0 p1 p2 p3 : Int} {b1 b2 b3 b4 b5 : Nat} {w w' : World} (h : K_L3 A B n0 n1 n2 n3 d t0 t1 s0 s1 p0 p1 p2 p3 b1 b2 b3 b4 b5 w w') : (w'.cell? ⟨b5, 0, none⟩ = some (.int .i64 p0) ∧ w'.cell? ⟨b5, 1, none⟩ = some (.int .i64 p1) ∧ w'.cell? ⟨b5, 2, none⟩ = some (.int .i64 p2) ∧ w'.cell? ⟨b5, 3, none⟩ = some (.int .i64 p3) ∧ w'.cell? ⟨b4, 0, none⟩ = some (.int .i64 s0) ∧ w'.cell? ⟨b4, 1, none⟩ = some (.int .i64 s1) ∧ w'.cell? ⟨b3, 0, none⟩ = some (.int .i64 t0) ∧ w'.cell? ⟨b3, 1, none⟩ = some (.int .i64 t1) ∧ w'.cell? ⟨b1, 0, none⟩ = some (.int .i64 A) ∧ w'.cell? ⟨b1, 1, none⟩ = some (.int .i64 B) ∧ w'.cell? ⟨b2, 0, none⟩ = some (.int .i64 n0) ∧ w'.cell? ⟨b2, 1, none⟩ = some (.int .i64 n1) ∧ w'.cell? ⟨b2, 2, none⟩ = some (.int .i64 n2) ∧ w'.cell? ⟨b2, 3, none⟩ = some (.int .i64 n3) ∧ w'.cell? ⟨b2, 4, none⟩ = some (.int .i64 d)) ∧ K_L3 A B n0 n1 n2 n3 d t0 t1 s0 s1 p0 p1 p2 p3 b1 b2 b3 b4 b5 w w' := ⟨h.cells, h⟩
/-- what a walk keeps: cells, and that nothing that was there has turned -/
def K_L4 (A B n0 n1 n2 n3 d t0 t1 s0 s1 p0 p1 p2 p3 : Int) (b1 b2 b3 b4 b5 b6 : Nat) (w w' : World) : Prop := KL w [(b6, 0, .int .i64 p0), (b6, 1, .int .i64 p1), (b6, 2, .int .i64 p2), (b6, 3, .int .i64 p3), (b5, 0, .int .i64 p0), (b5, 1, .int .i64 p1), (b5, 2, .int .i64 p2), (b5, 3, .int .i64 p3), (b4, 0, .int .i64 s0), (b4, 1, .int .i64 s1), (b3, 0, .int .i64 t0), (b3, 1, .int .i64 t1), (b1, 0, .int .i64 A), (b1, 1, .int .i64 B), (b2, 0, .int .i64 n0), (b2, 1, .int .i64 n1), (b2, 2, .int .i64 n2), (b2, 3, .int .i64 n3), (b2, 4, .int .i64 d)] [] w'
theorem K_L4.below {A B n0 n1 n2 n3 d t0 t1 s0 s1 p0 p1 p2 p3 : Int} {b1 b2 b3 b4 b5 b6 : Nat} {w w1 w2 : World} (hb : Below w1.heap.size w1 w2) (h : K_L4 A B n0 n1 n2 n3 d t0 t1 s0 s1 p0 p1 p2 p3 b1 b2 b3 b4 b5 b6 w w1) : K_L4 A B n0 n1 n2 n3 d t0 t1 s0 s1 p0 p1 p2 p3 b1 b2 b3 b4 b5 b6 w w2 := KL.below hb h
theorem K_L4.draws {A B n0 n1 n2 n3 d t0 t1 s0 s1 p0 p1 p2 p3 : Int} {b1 b2 b3 b4 b5 b6 : Nat} {w w1 : World} (n : Nat) (h : K_L4 A B n0 n1 n2 n3 d t0 t1 s0 s1 p0 p1 p2 p3 b1 b2 b3 b4 b5 b6 w w1) : K_L4 A B n0 n1 n2 n3 d t0 t1 s0 s1 p0 p1 p2 p3 b1 b2 b3 b4 b5 b6 w (w1.drewN n) := KL.draws n h
theorem K_L4.drew {A B n0 n1 n2 n3 d t0 t1 s0 s1 p0 p1 p2 p3 : Int} {b1 b2 b3 b4 b5 b6 : Nat} {w w1 : World} (h : K_L4 A B n0 n1 n2 n3 d t0 t1 s0 s1 p0 p1 p2 p3 b1 b2 b3 b4 b5 b6 w w1) : K_L4 A B n0 n1 n2 n3 d t0 t1 s0 s1 p0 p1 p2 p3 b1 b2 b3 b4 b5 b6 w w1.drew := KL.draws 1 h
theorem K_L4.alloc {A B n0 n1 n2 n3 d t0 t1 s0 s1 p0 p1 p2 p3 : Int} {b1 b2 b3 b4 b5 b6 : Nat} {w w1 : World} (o : Obj) (h : K_L4 A B n0 n1 n2 n3 d t0 t1 s0 s1 p0 p1 p2 p3 b1 b2 b3 b4 b5 b6 w w1) : K_L4 A B n0 n1 n2 n3 d t0 t1 s0 s1 p0 p1 p2 p3 b1 b2 b3 b4 b5 b6 w (w1.alloc o) := KL.alloc o h
theorem K_L4.set {A B n0 n1 n2 n3 d t0 t1 s0 s1 p0 p1 p2 p3 : Int} {b1 b2 b3 b4 b5 b6 : Nat} {w w1 : World} (h : K_L4 A B n0 n1 n2 n3 d t0 t1 s0 s1 p0 p1 p2 p3 b1 b2 b3 b4 b5 b6 w w1) (b i : Nat) (v : Value) (hb : b ≠ b6 ∧ b ≠ b5 ∧ b ≠ b4 ∧ b ≠ b3 ∧ b ≠ b1 ∧ b ≠ b2 ∧ w.heap.size ≤ b) : K_L4 A B n0 n1 n2 n3 d t0 t1 s0 s1 p0 p1 p2 p3 b1 b2 b3 b4 b5 b6 w (w1.setCell ⟨b, i, none⟩ v) :=
  KL.set h b i v (by intro x hx; simp only [List.mem_cons, List.not_mem_nil, or_false] at hx; rcases hx with rfl | rfl | rfl | rfl | rfl | rfl | rfl | rfl | rfl | rfl | rfl | rfl | rfl | rfl | rfl | rfl | rfl | rfl | rfl <;> simp only [] <;> omega) (by omega)
theorem K_L4.bel {A B n0 n1 n2 n3 d t0 t1 s0 s1 p0 p1 p2 p3 : Int} {b1 b2 b3 b4 b5 b6 : Nat} {w w1 : World} (h : K_L4 A B n0 n1 n2 n3 d t0 t1 s0 s1 p0 p1 p2 p3 b1 b2 b3 b4 b5 b6 w w1) : Below w.heap.size w w1 := KL.bel h
theorem K_L4.cells {A B n0 n1 n2 n3 d t0 t1 s0 s1 p0 p1 p2 p3 : Int} {b1 b2 b3 b4 b5 b6 : Nat} {w w' : World} (h : K_L4 A B n0 n1 n2 n3 d t0 t1 s0 s1 p0 p1 p2 p3 b1 b2 b3 b4 b5 b6 w w') : w'.cell? ⟨b6, 0, none⟩ = some (.int .i64 p0) ∧ w'.cell? ⟨b6, 1, none⟩ = some (.int .i64 p1) ∧ w'.cell? ⟨b6, 2, none⟩ = some (.int .i64 p2) ∧ w'.cell? ⟨b6, 3, none⟩ = some (.int .i64 p3) ∧ w'.cell? ⟨b5, 0, none⟩ = some (.int .i64 p0) ∧ w'.cell? ⟨b5, 1, none⟩ = some (.int .i64 p1) ∧ w'.cell? ⟨b5, 2, none⟩ = some (.int .i64 p2) ∧ w'.cell? ⟨b5, 3, none⟩ = some (.int .i64 p3) ∧ w'.cell? ⟨b4, 0, none⟩ = some (.int .i64 s0) ∧ w'.cell? ⟨b4, 1, none⟩ = some (.int .i64 s1) ∧ w'.cell? ⟨b3, 0, none⟩ = some (.int .i64 t0) ∧ w'.cell? ⟨b3, 1, none⟩ = some (.int .i64 t1) ∧ w'.cell? ⟨b1, 0, none⟩ = some (.int .i64 A) ∧ w'.cell? ⟨b1, 1, none⟩ = some (.int .i64 B) ∧ w'.cell? ⟨b2, 0, none⟩ = some (.int .i64 n0) ∧ w'.cell? ⟨b2, 1, none⟩ = some (.int .i64 n1) ∧ w'.cell? ⟨b2, 2, none⟩ = some (.int .i64 n2) ∧ w'.cell? ⟨b2, 3, none⟩ = some (.int .i64 n3) ∧ w'.cell? ⟨b2, 4, none⟩ = some (.int .i64 d) := ⟨h.c (b6, 0, .int .i64 p0) (by simp), h.c (b6, 1, .int .i64 p1) (by simp), h.c (b6, 2, .int .i64 p2) (by simp), h.c (b6, 3, .int .i64 p3) (by simp), h.c (b5, 0, .int .i64 p0) (by simp), h.c (b5, 1, .int .i64 p1) (by simp), h.c (b5, 2, .int .i64 p2) (by simp), h.c (b5, 3, .int .i64 p3) (by simp), h.c (b4, 0, .int .i64 s0) (by simp), h.c (b4, 1, .int .i64 s1) (by simp), h.c (b3, 0, .int .i64 t0) (by simp), h.c (b3, 1, .int .i64 t1) (by simp), h.c (b1, 0, .int .i64 A) (by simp), h.c (b1, 1, .int .i64 B) (by simp), h.c (b2, 0, .int .i64 n0) (by simp), h.c (b2, 1, .int .i64 n1) (by simp), h.c (b2, 2, .int .i64 n2) (by simp), h.c (b2, 3, .int .i64 n3) (by simp), h.c (b2, 4, .int .i64 d) (by simp)⟩
theorem K_L4.zs {A B n0 n1 n2 n3 d t0 t1 s0 s1 p0 p1 p2 p3 : Int} {b1 b2 b3 b4 b5 b6 : Nat} {w w' : World} (h : K_L4 A B n0 n1 n2 n3 d t0 t1 s0 s1 p0 p1 p2 p3 b1 b2 b3 b4 b5 b6 w w') : b6 < w'.heap.size ∧ b5 < w'.heap.size ∧ b4 < w'.heap.size ∧ b3 < w'.heap.size ∧ b1 < w'.heap.size ∧ b2 < w'.heap.size ∧ True := ⟨KL.z h (x := (b6, 0, .int .i64 p0)) (by simp), KL.z h (x := (b5, 0, .int .i64 p0)) (by simp), KL.z h (x := (b4, 0, .int .i64 s0)) (by simp), KL.z h (x := (b3, 0, .int .i64 t0)) (by simp), KL.z h (x := (b1, 0, .int .i64 A)) (by simp), KL.z h (x := (b2, 0, .int .i64 n0)) (by simp), trivial⟩
theorem K_L4.ks {A B n0 n1 n2 n3 d t0 t1 s0 s1 p0 p1 p2 p3 : Int} {b1 b2 b3 b4 b5 b6 : Nat} {w w' : World} (h : K_L4 A B n0 n1 n2 n3 d t0 t1 s0 s1 p0 p1 p2 p3 b1 b2 b3 b4 b5 b6 w w') : (w'.cell? ⟨b6, 0, none⟩ = some (.int .i64 p0) ∧ w'.cell? ⟨b6, 1, none⟩ = some (.int .i64 p1) ∧ w'.cell? ⟨b6, 2, none⟩ = some (.int .i64 p2) ∧ w'.cell? ⟨b6, 3, none⟩ = some (.int .i64 p3) ∧ w'.cell? ⟨b5, 0, none⟩ = some (.int .i64 p0) ∧ w'.cell? ⟨b5, 1, none⟩ = some (.int .i64 p1) ∧ w'.cell? ⟨b5, 2, none⟩ = some (.int .i64 p2) ∧ w'.cell? ⟨b5, 3, none⟩ = some (.int .i64 p3) ∧ w'.cell? ⟨b4, 0, none⟩ = some (.int .i64 s0) ∧ w'.cell? ⟨b4, 1, none⟩ = some (.int .i64 s1) ∧ w'.cell? ⟨b3, 0, none⟩ = some (.int .i64 t0) ∧ w'.cell? ⟨b3, 1, none⟩ = some (.int .i64 t1) ∧ w'.cell? ⟨b1, 0, none⟩ = some (.int .i64 A) ∧ w'.cell? ⟨b1, 1, none⟩ = some (.int .i64 B) ∧ w'.cell? ⟨b2, 0, none⟩ = some (.int .i64 n0) ∧ w'.cell? ⟨b2, 1, none⟩ = some (.int .i64 n1) ∧ w'.cell? ⟨b2, 2, none⟩ = some (.int .i64 n2) ∧ w'.cell? ⟨b2, 3, none⟩ = some (.int .i64 n3) ∧ w'.cell? ⟨b2, 4, none⟩ = some (.int .i64 d)) ∧ K_L4 A B n0 n1 n2 n3 d t0 t1 s0 s1 p0 p1 p2 p3 b1 b2 b3 b4 b5 b6 w w' := ⟨h.cells, h⟩
/-- what a walk keeps: cells, and that nothing that was there has turned -/
def K_L5 (A B n0 n1 n2 n3 d t0 t1 s0 s1 p0 p1 p2 p3 p4 p5 : Int) (b1 b2 b3 b4 b5 : Nat) (w w' : World) : Prop := KL w [(b5, 0, .int .i64 p0), (b5, 1, .int .i64 p1), (b5, 2, .int .i64 p2), (b5, 3, .int .i64 p3), (b5, 4, .int .i64 p4), (b5, 5, .int .i64 p5), (b4, 0, .int .i64 s0), (b4, 1, .int .i64 s1), (b3, 0, .int .i64 t0), (b3, 1, .int .i64 t1), (b1, 0, .int .i64 A), (b1, 1, .int .i64 B), (b2, 0, .int .i64 n0), (b2, 1, .int .i64 n1), (b2, 2, .int .i64 n2), (b2, 3, .int .i64 n3), (b2, 4, .int .i64 d)] [] w'
theorem K_L5.below {A B n0 n1 n2 n3 d t0 t1 s0 s1 p0 p1 p2 p3 p4 p5 : Int} {b1 b2 b3 b4 b5 : Nat} {w w1 w2 : World} (hb : Below w1.heap.size w1 w2) (h : K_L5 A B n0 n1 n2 n3 d t0 t1 s0 s1 p0 p1 p2 p3 p4 p5 b1 b2 b3 b4 b5 w w1) : K_L5 A B n0 n1 n2 n3 d t0 t1 s0 s1 p0 p1 p2 p3 p4 p5 b1 b2 b3 b4 b5 w w2 := KL.below hb h
theorem K_L5.draws {A B n0 n1 n2 n3 d t0 t1 s0 s1 p0 p1 p2 p3 p4 p5 : Int} {b1 b2 b3 b4 b5 : Nat} {w w1 : World} (n : Nat) (h : K_L5 A B n0 n1 n2 n3 d t0 t1 s0 s1 p0 p1 p2 p3 p4 p5 b1 b2 b3 b4 b5 w w1) : K_L5 A B n0 n1 n2 n3 d t0 t1 s0 s1 p0 p1 p2 p3 p4 p5 b1 b2 b3 b4 b5 w (w1.drewN n) := KL.draws n h
theorem K_L5.drew {A B n0 n1 n2 n3 d t0 t1 s0 s1 p0 p1 p2 p3 p4 p5 : Int} {b1 b2 b3 b4 b5 : Nat} {w w1 : World} (h : K_L5 A B n0 n1 n2 n3 d t0 t1 s0 s1 p0 p1 p2 p3 p4 p5 b1 b2 b3 b4 b5 w w1) : K_L5 A B n0 n1 n2 n3 d t0 t1 s0 s1 p0 p1 p2 p3 p4 p5 b1 b2 b3 b4 b5 w w1.drew := KL.draws 1 h
theorem K_L5.alloc {A B n0 n1 n2 n3 d t0 t1 s0 s1 p0 p1 p2 p3 p4 p5 : Int} {b1 b2 b3 b4 b5 : Nat} {w w1 : World} (o : Obj) (h : K_L5 A B n0 n1 n2 n3 d t0 t1 s0 s1 p0 p1 p2 p3 p4 p5 b1 b2 b3 b4 b5 w w1) : K_L5 A B n0 n1 n2 n3 d t0 t1 s0 s1 p0 p1 p2 p3 p4 p5 b1 b2 b3 b4 b5 w (w1.alloc o) := KL.alloc o h
theorem K_L5.set {A B n0 n1 n2 n3 d t0 t1 s0 s1 p0 p1 p2 p3 p4 p5 : Int} {b1 b2 b3 b4 b5 : Nat} {w w1 : World} (h : K_L5 A B n0 n1 n2 n3 d t0 t1 s0 s1 p0 p1 p2 p3 p4 p5 b1 b2 b3 b4 b5 w w1) (b i : Nat) (v : Value) (hb : b ≠ b5 ∧ b ≠ b4 ∧ b ≠ b3 ∧ b ≠ b1 ∧ b ≠ b2 ∧ w.heap.size ≤ b) : K_L5 A B n0 n1 n2 n3 d t0 t1 s0 s1 p0 p1 p2 p3 p4 p5 b1 b2 b3 b4 b5 w (w1.setCell ⟨b, i, none⟩ v) :=
  KL.set h b i v (by intro x hx; simp only [List.mem_cons, List.not_mem_nil, or_false] at hx; rcases hx with rfl | rfl | rfl | rfl | rfl | rfl | rfl | rfl | rfl | rfl | rfl | rfl | rfl | rfl | rfl | rfl | rfl <;> simp only [] <;> omega) (by omega)
theorem K_L5.bel {A B n0 n1 n2 n3 d t0 t1 s0 s1 p0 p1 p2 p3 p4 p5 : Int} {b1 b2 b3 b4 b5 : Nat} {w w1 : World} (h : K_L5 A B n0 n1 n2 n3 d t0 t1 s0 s1 p0 p1 p2 p3 p4 p5 b1 b2 b3 b4 b5 w w1) : Below w.heap.size w w1 := KL.bel h
theorem K_L5.cells {A B n0 n1 n2 n3 d t0 t1 s0 s1 p0 p1 p2 p3 p4 p5 : Int} {b1 b2 b3 b4 b5 : Nat} {w w' : World} (h : K_L5 A B n0 n1 n2 n3 d t0 t1 s0 s1 p0 p1 p2 p3 p4 p5 b1 b2 b3 b4 b5 w w') : w'.cell? ⟨b5, 0, none⟩ = some (.int .i64 p0) ∧ w'.cell? ⟨b5, 1, none⟩ = some (.int .i64 p1) ∧ w'.cell? ⟨b5, 2, none⟩ = some (.int .i64 p2) ∧ w'.cell? ⟨b5, 3, none⟩ = some (.int .i64 p3) ∧ w'.cell? ⟨b5, 4, none⟩ = some (.int .i64 p4) ∧ w'.cell? ⟨b5, 5, none⟩ = some (.int .i64 p5) ∧ w'.cell? ⟨b4, 0, none⟩ = some (.int .i64 s0) ∧ w'.cell? ⟨b4, 1, none⟩ = some (.int .i64 s1) ∧ w'.cell? ⟨b3, 0, none⟩ = some (.int .i64 t0) ∧ w'.cell? ⟨b3, 1, none⟩ = some (.int .i64 t1) ∧ w'.cell? ⟨b1, 0, none⟩ = some (.int .i64 A) ∧ w'.cell? ⟨b1, 1, none⟩ = some (.int .i64 B) ∧ w'.cell? ⟨b2, 0, none⟩ = some (.int .i64 n0) ∧ w'.cell? ⟨b2, 1, none⟩ = some (.int .i64 n1) ∧ w'.cell? ⟨b2, 2, none⟩ = some (.int .i64 n2) ∧ w'.cell? ⟨b2, 3, none⟩ = some (.int .i64 n3) ∧ w'.cell? ⟨b2, 4, none⟩ = some (.int .i64 d) := ⟨h.c (b5, 0, .int .i64 p0) (by simp), h.c (b5, 1, .int .i64 p1) (by simp), h.c (b5, 2, .int .i64 p2) (by simp), h.c (b5, 3, .int .i64 p3) (by simp), h.c (b5, 4, .int .i64 p4) (by simp), h.c (b5, 5, .int .i64 p5) (by simp), h.c (b4, 0, .int .i64 s0) (by simp), h.c (b4, 1, .int .i64 s1) (by simp), h.c (b3, 0, .int .i64 t0) (by simp), h.c (b3, 1, .int .i64 t1) (by simp), h.c (b1, 0, .int .i64 A) (by simp), h.c (b1, 1, .int .i64 B) (by simp), h.c (b2, 0, .int .i64 n0) (by simp), h.c (b2, 1, .int .i64 n1) (by simp), h.c (b2, 2, .int .i64 n2) (by simp), h.c (b2, 3, .int .i64 n3) (by simp), h.c (b2, 4, .int .i64 d) (by simp)⟩
theorem K_L5.zs {A B n0 n1 n2 n3 d t0 t1 s0 s1 p0 p1 p2 p3 p4 p5 : Int} {b1 b2 b3 b4 b5 : Nat} {w w' : World} (h : K_L5 A B n0 n1 n2 n3 d t0 t1 s0 s1 p0 p1 p2 p3 p4 p5 b1 b2 b3 b4 b5 w w') : b5 < w'.heap.size ∧ b4 < w'.heap.size ∧ b3 < w'.heap.size ∧ b1 < w'.heap.size ∧ b2 < w'.heap.size ∧ True := ⟨KL.z h (x := (b5, 0, .int .i64 p0)) (by simp), KL.z h (x := (b4, 0, .int .i64 s0)) (by simp), KL.z h (x := (b3, 0, .int .i64 t0)) (by simp), KL.z h (x := (b1, 0, .int .i64 A)) (by simp), KL.z h (x := (b2, 0, .int .i64 n0)) (by simp), trivial⟩
theorem K_L5.ks {A B n0 n1 n2 n3 d t0 t1 s0 s1 p0 p1 p2 p3 p4 p5 : Int} {b1 b2 b3 b4 b5 : Nat} {w w' : World} (h : K_L5 A B n0 n1 n2 n3 d t0 t1 s0 s1 p0 p1 p2 p3 p4 p5 b1 b2 b3 b4 b5 w w') : (w'.cell? ⟨b5, 0, none⟩ = some (.int .i64 p0) ∧ w'.cell? ⟨b5, 1, none⟩ = some (.int .i64 p1) ∧ w'.cell? ⟨b5, 2, none⟩ = some (.int .i64 p2) ∧ w'.cell? ⟨b5, 3, none⟩ = some (.int .i64 p3) ∧ w'.cell? ⟨b5, 4, none⟩ = some (.int .i64 p4) ∧ w'.cell? ⟨b5, 5, none⟩ = some (.int .i64 p5) ∧ w'.cell? ⟨b4, 0, none⟩ = some (.int .i64 s0) ∧ w'.cell? ⟨b4, 1, none⟩ = some (.int .i64 s1) ∧ w'.cell? ⟨b3, 0, none⟩ = some (.int .i64 t0) ∧ w'.cell? ⟨b3, 1, none⟩ = some (.int .i64 t1) ∧ w'.cell? ⟨b1, 0, none⟩ = some (.int .i64 A) ∧ w'.cell? ⟨b1, 1, none⟩ = some (.int .i64 B) ∧ w'.cell? ⟨b2, 0, none⟩ = some (.int .i64 n0) ∧ w'.cell? ⟨b2, 1, none⟩ = some (.int .i64 n1) ∧ w'.cell? ⟨b2, 2, none⟩ = some (.int .i64 n2) ∧ w'.cell? ⟨b2, 3, none⟩ = some (.int .i64 n3) ∧ w'.cell? ⟨b2, 4, none⟩ = some (.int .i64 d)) ∧ K_L5 A B n0 n1 n2 n3 d t0 t1 s0 s1 p0 p1 p2 p3 p4 p5 b1 b2 b3 b4 b5 w w' := ⟨h.cells, h⟩
/-- what a walk keeps: cells, and that nothing that was there has turned -/
def K_L6 (A B n0 n1 n2 n3 d t0 t1 s0 s1 p0 p1 p2 p3 p4 p5 : Int) (b1 b2 b3 b4 b5 b6 : Nat) (w w' : World) : Prop := KL w [(b6, 0, .int .i64 p0), (b6, 1, .int .i64 p1), (b6, 2, .int .i64 p2), (b6, 3, .int .i64 p3), (b6, 4, .int .i64 p4), (b6, 5, .int .i64 p5), (b5, 0, .int .i64 p0), (b5, 1, .int .i64 p1), (b5, 2, .int .i64 p2), (b5, 3, .int .i64 p3), (b5, 4, .int .i64 p4), (b5, 5, .int .i64 p5), (b4, 0, .int .i64 s0), (b4, 1, .int .i64 s1), (b3, 0, .int .i64 t0), (b3, 1, .int .i64 t1), (b1, 0, .int .i64 A), (b1, 1, .int .i64 B), (b2, 0, .int .i64 n0), (b2, 1, .int .i64 n1), (b2, 2, .int .i64 n2), (b2, 3, .int .i64 n3), (b2, 4, .int .i64 d)] [] w'
theorem K_L6.below {A B n0 n1 n2 n3 d t0 t1 s0 s1 p0 p1 p2 p3 p4 p5 : Int} {b1 b2 b3 b4 b5 b6 : Nat} {w w1 w2 : World} (hb : Below w1.heap.size w1 w2) (h : K_L6 A B n0 n1 n2 n3 d t0 t1 s0 s1 p0 p1 p2 p3 p4 p5 b1 b2 b3 b4 b5 b6 w w1) : K_L6 A B n0 n1 n2 n3 d t0 t1 s0 s1 p0 p1 p2 p3 p4 p5 b1 b2 b3 b4 b5 b6 w w2 := KL.below hb h
theorem K_L6.draws {A B n0 n1 n2 n3 d t0 t1 s0 s1 p0 p1 p2 p3 p4 p5 : Int} {b1 b2 b3 b4 b5 b6 : Nat} {w w1 : World} (n : Nat) (h : K_L6 A B n0 n1 n2 n3 d t0 t1 s0 s1 p0 p1 p2 p3 p4 p5 b1 b2 b3 b4 b5 b6 w w1) : K_L6 A B n0 n1 n2 n3 d t0 t1 s0 s1 p0 p1 p2 p3 p4 p5 b1 b2 b3 b4 b5 b6 w (w1.drewN n) := KL.draws n h
theorem K_L6.drew {A B n0 n1 n2 n3 d t0 t1 s0 s1 p0 p1 p2 p3 p4 p5 : Int} {b1 b2 b3 b4 b5 b6 : Nat} {w w1 : World} (h : K_L6 A B n0 n1 n2 n3 d t0 t1 s0 s1 p0 p1 p2 p3 p4 p5 b1 b2 b3 b4 b5 b6 w w1) : K_L6 A B n0 n1 n2 n3 d t0 t1 s0 s1 p0 p1 p2 p3 p4 p5 b1 b2 b3 b4 b5 b6 w w1.drew := KL.draws 1 h
theorem K_L6.alloc {A B n0 n1 n2 n3 d t0 t1 s0 s1 p0 p1 p2 p3 p4 p5 : Int} {b1 b2 b3 b4 b5 b6 : Nat} {w w1 : World} (o : Obj) (h : K_L6 A B n0 n1 n2 n3 d t0 t1 s0 s1 p0 p1 p2 p3 p4 p5 b1 b2 b3 b4 b5 b6 w w1) : K_L6 A B n0 n1 n2 n3 d t0 t1 s0 s1 p0 p1 p2 p3 p4 p5 b1 b2 b3 b4 b5 b6 w (w1.alloc o) := KL.alloc o h
theorem K_L6.set {A B n0 n1 n2 n3 d t0 t1 s0 s1 p0 p1 p2 p3 p4 p5 : Int} {b1 b2 b3 b4 b5 b6 : Nat} {w w1 : World} (h : K_L6 A B n0 n1 n2 n3 d t0 t1 s0 s1 p0 p1 p2 p3 p4 p5 b1 b2 b3 b4 b5 b6 w w1) (b i : Nat) (v : Value) (hb : b ≠ b6 ∧ b ≠ b5 ∧ b ≠ b4 ∧ b ≠ b3 ∧ b ≠ b1 ∧ b ≠ b2 ∧ w.heap.size ≤ b) : K_L6 A B n0 n1 n2 n3 d t0 t1 s0 s1 p0 p1 p2 p3 p4 p5 b1 b2 b3 b4 b5 b6 w (w1.setCell ⟨b, i, none⟩ v) :=
  KL.set h b i v (by intro x hx; simp only [List.mem_cons, List.not_mem_nil, or_false] at hx; rcases hx with rfl | rfl | rfl | rfl | rfl | rfl | rfl | rfl | rfl | rfl | rfl | rfl | rfl | rfl | rfl | rfl | rfl | rfl | rfl | rfl | rfl | rfl | rfl <;> simp only [] <;> omega) (by omega)
theorem K_L6.bel {A B n0 n1 n2 n3 d t0 t1 s0 s1 p0 p1 p2 p3 p4 p5 : Int} {b1 b2 b3 b4 b5 b6 : Nat} {w w1 : World} (h : K_L6 A B n0 n1 n2 n3 d t0 t1 s0 s1 p0 p1 p2 p3 p4 p5 b1 b2 b3 b4 b5 b6 w w1) : Below w.heap.size w w1 := KL.bel h
theorem K_L6.cells {A B n0 n1 n2 n3 d t0 t1 s0 s1 p0 p1 p2 p3 p4 p5 : Int} {b1 b2 b3 b4 b5 b6 : Nat} {w w' : World} (h : K_L6 A B n0 n1 n2 n3 d t0 t1 s0 s1 p0 p1 p2 p3 p4 p5 b1 b2 b3 b4 b5 b6 w w') : w'.cell? ⟨b6, 0, none⟩ = some (.int .i64 p0) ∧ w'.cell? ⟨b6, 1, none⟩ = some (.int .i64 p1) ∧ w'.cell? ⟨b6, 2, none⟩ = some (.int .i64 p2) ∧ w'.cell? ⟨b6, 3, none⟩ = some (.int .i64 p3) ∧ w'.cell? ⟨b6, 4, none⟩ = some (.int .i64 p4) ∧ w'.cell? ⟨b6, 5, none⟩ = some (.int .i64 p5) ∧ w'.cell? ⟨b5, 0, none⟩ = some (.int .i64 p0) ∧ w'.cell? ⟨b5, 1, none⟩ = some (.int .i64 p1) ∧ w'.cell? ⟨b5, 2, none⟩ = some (.int .i64 p2) ∧ w'.cell? ⟨b5, 3, none⟩ = some (.int .i64 p3) ∧ w'.cell? ⟨b5, 4, none⟩ = some (.int .i64 p4) ∧ w'.cell? ⟨b5, 5, none⟩ = some (.int .i64 p5) ∧ w'.cell? ⟨b4, 0, none⟩ = some (.int .i64 s0) ∧ w'.cell? ⟨b4, 1, none⟩ = some (.int .i64 s1) ∧ w'.cell? ⟨b3, 0, none⟩ = some (.int .i64 t0) ∧ w'.cell? ⟨b3, 1, none⟩ = some (.int .i64 t1) ∧ w'.cell? ⟨b1, 0, none⟩ = some (.int .i64 A) ∧ w'.cell? ⟨b1, 1, none⟩ = some (.int .i64 B) ∧ w'.cell? ⟨b2, 0, none⟩ = some (.int .i64 n0) ∧ w'.cell? ⟨b2, 1, none⟩ = some (.int .i64 n1) ∧ w'.cell? ⟨b2, 2, none⟩ = some (.int .i64 n2) ∧ w'.cell? ⟨b2, 3, none⟩ = some (.int .i64 n3) ∧ w'.cell? ⟨b2, 4, none⟩ = some (.int .i64 d) := ⟨h.c (b6, 0, .int .i64 p0) (by simp), h.c (b6, 1, .int .i64 p1) (by simp), h.c (b6, 2, .int .i64 p2) (by simp), h.c (b6, 3, .int .i64 p3) (by simp), h.c (b6, 4, .int .i64 p4) (by simp), h.c (b6, 5, .int .i64 p5) (by simp), h.c (b5, 0, .int .i64 p0) (by simp), h.c (b5, 1, .int .i64 p1) (by simp), h.c (b5, 2, .int .i64 p2) (by simp), h.c (b5, 3, .int .i64 p3) (by simp), h.c (b5, 4, .int .i64 p4) (by simp), h.c (b5, 5, .int .i64 p5) (by simp), h.c (b4, 0, .int .i64 s0) (by simp), h.c (b4, 1, .int .i64 s1) (by simp), h.c (b3, 0, .int .i64 t0) (by simp), h.c (b3, 1, .int .i64 t1) (by simp), h.c (b1, 0, .int .i64 A) (by simp), h.c (b1, 1, .int .i64 B) (by simp), h.c (b2, 0, .int .i64 n0) (by simp), h.c (b2, 1, .int .i64 n1) (by simp), h.c (b2, 2, .int .i64 n2) (by simp), h.c (b2, 3, .int .i64 n3) (by simp), h.c (b2, 4, .int .i64 d) (by simp)⟩
theorem K_L6.zs {A B n0 n1 n2 n3 d t0 t1 s0 s1 p0 p1 p2 p3 p4 p5 : Int} {b1 b2 b3 b4 b5 b6 : Nat} {w w' : World} (h : K_L6 A B n0 n1 n2 n3 d t0 t1 s0 s1 p0 p1 p2 p3 p4 p5 b1 b2 b3 b4 b5 b6 w w') : b6 < w'.heap.size ∧ b5 < w'.heap.size ∧ b4 < w'.heap.size ∧ b3 < w'.heap.size ∧ b1 < w'.heap.size ∧ b2 < w'.heap.size ∧ True := ⟨KL.z h (x := (b6, 0, .int .i64 p0)) (by simp), KL.z h (x := (b5, 0, .int .i64 p0)) (by simp), KL.z h (x := (b4, 0, .int .i64 s0)) (by simp), KL.z h (x := (b3, 0, .int .i64 t0)) (by simp), KL.z h (x := (b1, 0, .int .i64 A)) (by simp), KL.z h (x := (b2, 0, .int .i64 n0)) (by simp), trivial⟩
theorem K_L6.ks {A B n0 n1 n2 n3 d t0 t1 s0 s1 p0 p1 p2 p3 p4 p5 : Int} {b1 b2 b3 b4 b5 b6 : Nat} {w w' : World} (h : K_L6 A B n0 n1 n2 n3 d t0 t1 s0 s1 p0 p1 p2 p3 p4 p5 b1 b2 b3 b4 b5 b6 w w') : (w'.cell? ⟨b6, 0, none⟩ = some (.int .i64 p0) ∧ w'.cell? ⟨b6, 1, none⟩ = some (.int .i64 p1) ∧ w'.cell? ⟨b6, 2, none⟩ = some (.int .i64 p2) ∧ w'.cell? ⟨b6, 3, none⟩ = some (.int .i64 p3) ∧ w'.cell? ⟨b6, 4, none⟩ = some (.int .i64 p4) ∧ w'.cell? ⟨b6, 5, none⟩ = some (.int .i64 p5) ∧ w'.cell? ⟨b5, 0, none⟩ = some (.int .i64 p0) ∧ w'.cell? ⟨b5, 1, none⟩ = some (.int .i64 p1) ∧ w'.cell? ⟨b5, 2, none⟩ = some (.int .i64 p2) ∧ w'.cell? ⟨b5, 3, none⟩ = some (.int .i64 p3) ∧ w'.cell? ⟨b5, 4, none⟩ = some (.int .i64 p4) ∧ w'.cell? ⟨b5, 5, none⟩ = some (.int .i64 p5) ∧ w'.cell? ⟨b4, 0, none⟩ = some (.int .i64 s0) ∧ w'.cell? ⟨b4, 1, none⟩ = some (.int .i64 s1) ∧ w'.cell? ⟨b3, 0, none⟩ = some (.int .i64 t0) ∧ w'.cell? ⟨b3, 1, none⟩ = some (.int .i64 t1) ∧ w'.cell? ⟨b1, 0, none⟩ = some (.int .i64 A) ∧ w'.cell? ⟨b1, 1, none⟩ = some (.int .i64 B) ∧ w'.cell? ⟨b2, 0, none⟩ = some (.int .i64 n0) ∧ w'.cell? ⟨b2, 1, none⟩ = some (.int .i64 n1) ∧ w'.cell? ⟨b2, 2, none⟩ = some (.int .i64 n2) ∧ w'.cell? ⟨b2, 3, none⟩ = some (.int .i64 n3) ∧ w'.cell? ⟨b2, 4, none⟩ = some (.int .i64 d)) ∧ K_L6 A B n0 n1 n2 n3 d t0 t1 s0 s1 p0 p1 p2 p3 p4 p5 b1 b2 b3 b4 b5 b6 w w' := ⟨h.cells, h⟩
theorem KL.cat {w0 w1 w2 : World} {cs cs2 : List (Nat × Nat × Value)} {fs : List (Nat × Nat)} (h : KL w0 cs fs w1) (h2 : KL w1 cs2 [] w2) : KL w0 (cs2 ++ cs) fs w2 := by
  have h3 := KL.below h2.bel h
  refine ⟨fun x hx => ?_, h3.g, h3.f, h3.bel⟩
  rcases List.mem_append.1 hx with hx | hx
  · exact h2.c x hx
  · exact h3.c x hx
theorem t1_new (n0 n1 n2 n3 d : Int) (T : TypeId) (w : World) (n : Nat) (hn : n = w.heap.size) : K_T1 n0 n1 n2 n3 d n (w.alloc (.cells #[.int .i64 n0, .int .i64 n1, .int .i64 n2, .int .i64 n3, .int .i64 d] T)) (w.alloc (.cells #[.int .i64 n0, .int .i64 n1, .int .i64 n2, .int .i64 n3, .int .i64 d] T)) := by
  subst hn
  exact ⟨by simp [go_sem], by simp [go_sem], by simp [go_sem], Below.refl _ _⟩
theorem rCheckAll_1new (A B n0 n1 n2 n3 d : Int) (T : TypeId) (w : World) (n : Nat) (hn : n = w.heap.size) :
    Calls Tryd.prog 29 #[.agg #[.int .i64 A, .int .i64 B], .slice (some ⟨n, 0, none⟩) 1 1] (w.alloc (.cells #[.int .i64 n0, .int .i64 n1, .int .i64 n2, .int .i64 n3, .int .i64 d] T)) fun e w' => e = .returned (.int .i64 (or2 (chkA A B) (chkQ n0 n1 n2 n3 d))) ∧ Below (w.alloc (.cells #[.int .i64 n0, .int .i64 n1, .int .i64 n2, .int .i64 n3, .int .i64 d] T)).heap.size (w.alloc (.cells #[.int .i64 n0, .int .i64 n1, .int .i64 n2, .int .i64 n3, .int .i64 d] T)) w' :=
  rCheckAll_one A B n0 n1 n2 n3 d n 1 _ (t1_new _ _ _ _ _ _ _ _ hn) (by decide) (by decide)
set_option maxHeartbeats 6400000 in
theorem norms_A (A B n0 n1 n2 n3 d : Int) (w : World) (hq : chkQ n0 n1 n2 n3 d ≠ 0) : Calls Tryd.prog 6 #[.agg #[.int .i64 A, .int .i64 B], .agg #[.int .i64 n0, .int .i64 n1, .int .i64 n2, .int .i64 n3, .int .i64 d]] w fun e w' => e = .returned (.bool true) ∧ Below w.heap.size w w' := by
  obtain ⟨q1, q2⟩ := chkQ_bad hq
  have TB := Lib.hid (fun W => Trace_bad n0 n1 n2 n3 d W q1)
  have he : or2 (chkA A B) (chkQ n0 n1 n2 n3 d) ≠ 0 := by
    intro e; exact hq (or2_eq0 e).2
  have NE := Lib.hid (fun W => Norm_err A B n0 n1 n2 n3 d W he)
  have PE := Lib.hid (fun W => Poly_err A B n0 n1 n2 n3 d W he)
  have IE := Lib.hid (fun W => Integral_err A B n0 n1 n2 n3 d W he)
  have CA := Lib.hid (rCheckAll_1new A B n0 n1 n2 n3 d)
  obtain ⟨E, hE⟩ : ∃ E, or2 (chkA A B) (chkQ n0 n1 n2 n3 d) = E := ⟨_, rfl⟩
  rw [hE] at NE PE IE CA he
  have ht : (E != 0) = true := by rw [bne_iff_ne]; exact he
  have HQ := Lib.hid q2
  clear hq q1 q2 he hE
  go_enter Tryd.func6, Tryd.ntmps6
  go_wp2_with fail
  refine (awake_any _).mono ?_
  rintro e w1 ⟨rfl, hb⟩
  have hK : K_Nd A B n0 n1 n2 n3 d w.heap.size (w.heap.size + 1) w w1 := K_Nd.below hb ⟨by simp [go_sem], by simp [go_sem], by simp [go_sem], by (repeat (first | (with_reducible exact Below.refl _ _) | (with_reducible exact HB.out) | (with_reducible refine below_draws ?_ _) | (with_reducible refine Below.alloc ?_ (by go_size) _) | (with_reducible refine Below.setCell ?_ (by go_size) _) | (with_reducible refine Below.alloc ?_ (by simp <;> omega) _) | (with_reducible refine Below.setCell ?_ (by simp <;> omega) _)))⟩
  clear hb
  obtain ⟨c0_, c1_, c2_, c3_, c4_, c5_, c6_⟩ := K_Nd.cells hK; obtain ⟨z0_, z1_, -⟩ := K_Nd.zs hK; have HK := Lib.hid hK; clear hK
  go_wp2_with fail
  refine (TB.out _).mono ?_
  rintro e w2 ⟨rfl, hb⟩
  clear c0_ c1_ c2_ c3_ c4_ c5_ c6_ z0_ z1_
  have hK := K_Nd.below hb HK.out
  clear hb HK
  obtain ⟨c0_, c1_, c2_, c3_, c4_, c5_, c6_⟩ := K_Nd.cells hK; obtain ⟨z0_, z1_, -⟩ := K_Nd.zs hK; have HK := Lib.hid hK; clear hK
  go_wp2_with fail
  refine (rCheckQuat_any _ _ _ _ _ _).mono ?_
  rintro e w3 ⟨rfl, hb⟩
  rw [HQ.out]
  clear c0_ c1_ c2_ c3_ c4_ c5_ c6_ z0_ z1_
  have hK : K_L1 A B n0 n1 n2 n3 d 0 0 w.heap.size (w.heap.size + 1) w2.heap.size w w3 := KL.below hb (KL.push2 HK.out 0 0 _ _ rfl)
  clear hb HK
  obtain ⟨c0_, c1_, c2_, c3_, c4_, c5_, c6_, c7_, c8_⟩ := K_L1.cells hK; obtain ⟨z0_, z1_, z2_, -⟩ := K_L1.zs hK; have HK := Lib.hid hK; clear hK
  go_wp2_with fail
  refine (NE.out _).mono ?_
  rintro e w4 ⟨rfl, hb⟩
  clear c0_ c1_ c2_ c3_ c4_ c5_ c6_ c7_ c8_ z0_ z1_ z2_
  have hK := K_L1.below hb HK.out
  clear hb HK
  obtain ⟨c0_, c1_, c2_, c3_, c4_, c5_, c6_, c7_, c8_⟩ := K_L1.cells hK; obtain ⟨z0_, z1_, z2_, -⟩ := K_L1.zs hK; have HK := Lib.hid hK; clear hK
  go_wp2_with fail
  refine (PE.out _).mono ?_
  rintro e w5 ⟨rfl, hb⟩
  clear c0_ c1_ c2_ c3_ c4_ c5_ c6_ c7_ c8_ z0_ z1_ z2_
  have hK : K_L2 A B n0 n1 n2 n3 d 0 0 0 0 w.heap.size (w.heap.size + 1) w2.heap.size w4.heap.size w w5 := KL.below hb (KL.push2 HK.out 0 0 _ _ rfl)
  clear hb HK
  obtain ⟨c0_, c1_, c2_, c3_, c4_, c5_, c6_, c7_, c8_, c9_, c10_⟩ := K_L2.cells hK; obtain ⟨z0_, z1_, z2_, z3_, -⟩ := K_L2.zs hK; have HK := Lib.hid hK; clear hK
  go_wp2_with fail
  refine (IE.out _).mono ?_
  rintro e w6 ⟨rfl, hb⟩
  clear c0_ c1_ c2_ c3_ c4_ c5_ c6_ c7_ c8_ c9_ c10_ z0_ z1_ z2_ z3_
  have hK := K_L2.below hb HK.out
  clear hb HK
  obtain ⟨c0_, c1_, c2_, c3_, c4_, c5_, c6_, c7_, c8_, c9_, c10_⟩ := K_L2.cells hK; obtain ⟨z0_, z1_, z2_, z3_, -⟩ := K_L2.zs hK; have HK := Lib.hid hK; clear hK
  go_wp2_with fail
  refine (CA.out _ _ _ (by simp)).mono ?_
  rintro e w7 ⟨rfl, hb⟩
  clear c0_ c1_ c2_ c3_ c4_ c5_ c6_ c7_ c8_ c9_ c10_ z0_ z1_ z2_ z3_
  have hK := K_L2.below hb (K_L2.alloc _ HK.out)
  clear hb HK
  obtain ⟨c0_, c1_, c2_, c3_, c4_, c5_, c6_, c7_, c8_, c9_, c10_⟩ := K_L2.cells hK; obtain ⟨z0_, z1_, z2_, z3_, -⟩ := K_L2.zs hK; have HK := Lib.hid hK; clear hK
  go_wp2
  go_ret
  exact ⟨rfl, K_L2.bel HK.out⟩
set_option maxHeartbeats 6400000 in
theorem norms_B (A B n0 n1 n2 n3 d : Int) (w : World) (hq : chkQ n0 n1 n2 n3 d = 0) (hA : chkA A B ≠ 0) : Calls Tryd.prog 6 #[.agg #[.int .i64 A, .int .i64 B], .agg #[.int .i64 n0, .int .i64 n1, .int .i64 n2, .int .i64 n3, .int .i64 d]] w fun e w' => e = .returned (.bool true) ∧ Below w.heap.size w w' := by
  have TV := Lib.hid (fun W => Trace_v n0 n1 n2 n3 d W hq)
  have RT := Lib.hid (fun W => rTrace_v n0 n1 n2 n3 d W hq)
  obtain ⟨t0, h0⟩ : ∃ k, fn (2 * n0) d = k := ⟨_, rfl⟩
  obtain ⟨t1, h1⟩ : ∃ k, fd (2 * n0) d = k := ⟨_, rfl⟩
  rw [h0, h1] at TV RT
  have he : or2 (chkA A B) (chkQ n0 n1 n2 n3 d) ≠ 0 := by
    intro e; exact hA (or2_eq0 e).1
  have NE := Lib.hid (fun W => Norm_err A B n0 n1 n2 n3 d W he)
  have PE := Lib.hid (fun W => Poly_err A B n0 n1 n2 n3 d W he)
  have IE := Lib.hid (fun W => Integral_err A B n0 n1 n2 n3 d W he)
  have CA := Lib.hid (rCheckAll_1new A B n0 n1 n2 n3 d)
  obtain ⟨E, hE⟩ : ∃ E, or2 (chkA A B) (chkQ n0 n1 n2 n3 d) = E := ⟨_, rfl⟩
  rw [hE] at NE PE IE CA he
  have ht : (E != 0) = true := by rw [bne_iff_ne]; exact he
  have HQ := Lib.hid hq
  clear hq hA he hE h0 h1
  go_enter Tryd.func6, Tryd.ntmps6
  go_wp2_with fail
  refine (awake_any _).mono ?_
  rintro e w1 ⟨rfl, hb⟩
  have hK : K_Nd A B n0 n1 n2 n3 d w.heap.size (w.heap.size + 1) w w1 := K_Nd.below hb ⟨by simp [go_sem], by simp [go_sem], by simp [go_sem], by (repeat (first | (with_reducible exact Below.refl _ _) | (with_reducible exact HB.out) | (with_reducible refine below_draws ?_ _) | (with_reducible refine Below.alloc ?_ (by go_size) _) | (with_reducible refine Below.setCell ?_ (by go_size) _) | (with_reducible refine Below.alloc ?_ (by simp <;> omega) _) | (with_reducible refine Below.setCell ?_ (by simp <;> omega) _)))⟩
  clear hb
  obtain ⟨c0_, c1_, c2_, c3_, c4_, c5_, c6_⟩ := K_Nd.cells hK; obtain ⟨z0_, z1_, -⟩ := K_Nd.zs hK; have HK := Lib.hid hK; clear hK
  go_wp2_with fail
  refine (TV.out _).mono ?_
  rintro e w2 ⟨rfl, hb⟩
  clear c0_ c1_ c2_ c3_ c4_ c5_ c6_ z0_ z1_
  have hK := K_Nd.below hb HK.out
  clear hb HK
  obtain ⟨c0_, c1_, c2_, c3_, c4_, c5_, c6_⟩ := K_Nd.cells hK; obtain ⟨z0_, z1_, -⟩ := K_Nd.zs hK; have HK := Lib.hid hK; clear hK
  go_wp2_with fail
  refine (rCheckQuat_any _ _ _ _ _ _).mono ?_
  rintro e w3 ⟨rfl, hb⟩
  rw [HQ.out]
  clear c0_ c1_ c2_ c3_ c4_ c5_ c6_ z0_ z1_
  have hK : K_L1 A B n0 n1 n2 n3 d t0 t1 w.heap.size (w.heap.size + 1) w2.heap.size w w3 := KL.below hb (KL.push2 HK.out t0 t1 _ _ rfl)
  clear hb HK
  obtain ⟨c0_, c1_, c2_, c3_, c4_, c5_, c6_, c7_, c8_⟩ := K_L1.cells hK; obtain ⟨z0_, z1_, z2_, -⟩ := K_L1.zs hK; have HK := Lib.hid hK; clear hK
  go_wp2_with fail
  have hk := HK.out
  clear c0_ c1_ c2_ c3_ c4_ c5_ c6_ c7_ c8_ z0_ z1_ z2_
  clear HK
  go_region_held3 (fun w' => (w'.cell? ⟨w2.heap.size, 0, none⟩ = some (.int .i64 t0) ∧ w'.cell? ⟨w2.heap.size, 1, none⟩ = some (.int .i64 t1) ∧ w'.cell? ⟨w.heap.size, 0, none⟩ = some (.int .i64 A) ∧ w'.cell? ⟨w.heap.size, 1, none⟩ = some (.int .i64 B) ∧ w'.cell? ⟨(w.heap.size + 1), 0, none⟩ = some (.int .i64 n0) ∧ w'.cell? ⟨(w.heap.size + 1), 1, none⟩ = some (.int .i64 n1) ∧ w'.cell? ⟨(w.heap.size + 1), 2, none⟩ = some (.int .i64 n2) ∧ w'.cell? ⟨(w.heap.size + 1), 3, none⟩ = some (.int .i64 n3) ∧ w'.cell? ⟨(w.heap.size + 1), 4, none⟩ = some (.int .i64 d)) ∧ K_L1 A B n0 n1 n2 n3 d t0 t1 w.heap.size (w.heap.size + 1) w2.heap.size w w') ((refine K_L1.ks ?_; repeat (first | (with_reducible assumption) | (with_reducible refine K_L1.draws _ ?_) | (with_reducible refine K_L1.drew ?_) | (with_reducible refine K_L1.alloc _ ?_) | (with_reducible refine K_L1.set ?_ _ _ _ (by omega)))))
    (first
      | (go_at_call 32; (with_reducible refine (RT.out _).mono ?_); rintro e w3b ⟨rfl, hbel⟩; have hk' := K_L1.below hbel (And.right (by assumption)); clear hbel))
  rename_i hh
  clear hh hk
  have hK := hk'
  clear hk'
  obtain ⟨c0_, c1_, c2_, c3_, c4_, c5_, c6_, c7_, c8_⟩ := K_L1.cells hK; obtain ⟨z0_, z1_, z2_, -⟩ := K_L1.zs hK; have HK := Lib.hid hK; clear hK
  go_wp2_with fail
  refine (NE.out _).mono ?_
  rintro e w4 ⟨rfl, hb⟩
  clear c0_ c1_ c2_ c3_ c4_ c5_ c6_ c7_ c8_ z0_ z1_ z2_
  have hK := K_L1.below hb HK.out
  clear hb HK
  obtain ⟨c0_, c1_, c2_, c3_, c4_, c5_, c6_, c7_, c8_⟩ := K_L1.cells hK; obtain ⟨z0_, z1_, z2_, -⟩ := K_L1.zs hK; have HK := Lib.hid hK; clear hK
  go_wp2_with fail
  refine (PE.out _).mono ?_
  rintro e w5 ⟨rfl, hb⟩
  clear c0_ c1_ c2_ c3_ c4_ c5_ c6_ c7_ c8_ z0_ z1_ z2_
  have hK : K_L2 A B n0 n1 n2 n3 d t0 t1 0 0 w.heap.size (w.heap.size + 1) w2.heap.size w4.heap.size w w5 := KL.below hb (KL.push2 HK.out 0 0 _ _ rfl)
  clear hb HK
  obtain ⟨c0_, c1_, c2_, c3_, c4_, c5_, c6_, c7_, c8_, c9_, c10_⟩ := K_L2.cells hK; obtain ⟨z0_, z1_, z2_, z3_, -⟩ := K_L2.zs hK; have HK := Lib.hid hK; clear hK
  go_wp2_with fail
  refine (IE.out _).mono ?_
  rintro e w6 ⟨rfl, hb⟩
  clear c0_ c1_ c2_ c3_ c4_ c5_ c6_ c7_ c8_ c9_ c10_ z0_ z1_ z2_ z3_
  have hK := K_L2.below hb HK.out
  clear hb HK
  obtain ⟨c0_, c1_, c2_, c3_, c4_, c5_, c6_, c7_, c8_, c9_, c10_⟩ := K_L2.cells hK; obtain ⟨z0_, z1_, z2_, z3_, -⟩ := K_L2.zs hK; have HK := Lib.hid hK; clear hK
  go_wp2_with fail
  refine (CA.out _ _ _ (by simp)).mono ?_
  rintro e w7 ⟨rfl, hb⟩
  clear c0_ c1_ c2_ c3_ c4_ c5_ c6_ c7_ c8_ c9_ c10_ z0_ z1_ z2_ z3_
  have hK := K_L2.below hb (K_L2.alloc _ HK.out)
  clear hb HK
  obtain ⟨c0_, c1_, c2_, c3_, c4_, c5_, c6_, c7_, c8_, c9_, c10_⟩ := K_L2.cells hK; obtain ⟨z0_, z1_, z2_, z3_, -⟩ := K_L2.zs hK; have HK := Lib.hid hK; clear hK
  go_wp2
  go_ret
  exact ⟨rfl, K_L2.bel HK.out⟩
end Go.Proofs.YtjloanplhbbomaaDoor.Al
