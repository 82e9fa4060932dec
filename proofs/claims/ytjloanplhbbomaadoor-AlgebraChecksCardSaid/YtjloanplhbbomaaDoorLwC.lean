/-
  WALK of the law AlgebraChecks: it returns true for all arguments.
-/
import Derived.Test.YtjloanplhbbomaaDoorLw0
import Derived.Test.YtjloanplhbbomaaDoorAw4
namespace Go.Proofs.YtjloanplhbbomaaDoor.Al
open Go.RowKit
open Alm
set_option linter.unusedVariables false
set_option linter.unusedSimpArgs false
set_option maxRecDepth 100000
/-- what a walk keeps: cells, and that nothing that was there has turned -/
def K_S1 (A B n0 n1 n2 n3 d : Int) (b1 b2 : Nat) (w w' : World) : Prop := KL w [(b2, 0, .int .i64 n0), (b2, 1, .int .i64 n1), (b2, 2, .int .i64 n2), (b2, 3, .int .i64 n3), (b2, 4, .int .i64 d), (b1, 0, .int .i64 A), (b1, 1, .int .i64 B)] [] w'
theorem K_S1.below {A B n0 n1 n2 n3 d : Int} {b1 b2 : Nat} {w w1 w2 : World} (hb : Below w1.heap.size w1 w2) (h : K_S1 A B n0 n1 n2 n3 d b1 b2 w w1) : K_S1 A B n0 n1 n2 n3 d b1 b2 w w2 := KL.below hb h
theorem K_S1.draws {A B n0 n1 n2 n3 d : Int} {b1 b2 : Nat} {w w1 : World} (n : Nat) (h : K_S1 A B n0 n1 n2 n3 d b1 b2 w w1) : K_S1 A B n0 n1 n2 n3 d b1 b2 w (w1.drewN n) := KL.draws n h
theorem K_S1.drew {A B n0 n1 n2 n3 d : Int} {b1 b2 : Nat} {w w1 : World} (h : K_S1 A B n0 n1 n2 n3 d b1 b2 w w1) : K_S1 A B n0 n1 n2 n3 d b1 b2 w w1.drew := KL.draws 1 h
theorem K_S1.alloc {A B n0 n1 n2 n3 d : Int} {b1 b2 : Nat} {w w1 : World} (o : Obj) (h : K_S1 A B n0 n1 n2 n3 d b1 b2 w w1) : K_S1 A B n0 n1 n2 n3 d b1 b2 w (w1.alloc o) := KL.alloc o h
theorem K_S1.set {A B n0 n1 n2 n3 d : Int} {b1 b2 : Nat} {w w1 : World} (h : K_S1 A B n0 n1 n2 n3 d b1 b2 w w1) (b i : Nat) (v : Value) (hb : b ≠ b2 ∧ b ≠ b1 ∧ w.heap.size ≤ b) : K_S1 A B n0 n1 n2 n3 d b1 b2 w (w1.setCell ⟨b, i, none⟩ v) :=
  KL.set h b i v (by intro x hx; simp only [List.mem_cons, List.not_mem_nil, or_false] at hx; rcases hx with rfl | rfl | rfl | rfl | rfl | rfl | rfl <;> simp only [] <;> omega) (by omega)
theorem K_S1.bel {A B n0 n1 n2 n3 d : Int} {b1 b2 : Nat} {w w1 : World} (h : K_S1 A B n0 n1 n2 n3 d b1 b2 w w1) : Below w.heap.size w w1 := KL.bel h
theorem K_S1.cells {A B n0 n1 n2 n3 d : Int} {b1 b2 : Nat} {w w' : World} (h : K_S1 A B n0 n1 n2 n3 d b1 b2 w w') : w'.cell? ⟨b2, 0, none⟩ = some (.int .i64 n0) ∧ w'.cell? ⟨b2, 1, none⟩ = some (.int .i64 n1) ∧ w'.cell? ⟨b2, 2, none⟩ = some (.int .i64 n2) ∧ w'.cell? ⟨b2, 3, none⟩ = some (.int .i64 n3) ∧ w'.cell? ⟨b2, 4, none⟩ = some (.int .i64 d) ∧ w'.cell? ⟨b1, 0, none⟩ = some (.int .i64 A) ∧ w'.cell? ⟨b1, 1, none⟩ = some (.int .i64 B) := ⟨h.c (b2, 0, .int .i64 n0) (by simp), h.c (b2, 1, .int .i64 n1) (by simp), h.c (b2, 2, .int .i64 n2) (by simp), h.c (b2, 3, .int .i64 n3) (by simp), h.c (b2, 4, .int .i64 d) (by simp), h.c (b1, 0, .int .i64 A) (by simp), h.c (b1, 1, .int .i64 B) (by simp)⟩
theorem K_S1.zs {A B n0 n1 n2 n3 d : Int} {b1 b2 : Nat} {w w' : World} (h : K_S1 A B n0 n1 n2 n3 d b1 b2 w w') : b2 < w'.heap.size ∧ b1 < w'.heap.size ∧ True := ⟨KL.z h (x := (b2, 0, .int .i64 n0)) (by simp), KL.z h (x := (b1, 0, .int .i64 A)) (by simp), trivial⟩
theorem K_S1.ks {A B n0 n1 n2 n3 d : Int} {b1 b2 : Nat} {w w' : World} (h : K_S1 A B n0 n1 n2 n3 d b1 b2 w w') : (w'.cell? ⟨b2, 0, none⟩ = some (.int .i64 n0) ∧ w'.cell? ⟨b2, 1, none⟩ = some (.int .i64 n1) ∧ w'.cell? ⟨b2, 2, none⟩ = some (.int .i64 n2) ∧ w'.cell? ⟨b2, 3, none⟩ = some (.int .i64 n3) ∧ w'.cell? ⟨b2, 4, none⟩ = some (.int .i64 d) ∧ w'.cell? ⟨b1, 0, none⟩ = some (.int .i64 A) ∧ w'.cell? ⟨b1, 1, none⟩ = some (.int .i64 B)) ∧ K_S1 A B n0 n1 n2 n3 d b1 b2 w w' := ⟨h.cells, h⟩
/-- what a walk keeps: cells, and that nothing that was there has turned -/
def K_S2 (A B n0 n1 n2 n3 d m0 m1 m2 m3 f : Int) (b1 b2 b3 : Nat) (w w' : World) : Prop := KL w [(b3, 0, .int .i64 m0), (b3, 1, .int .i64 m1), (b3, 2, .int .i64 m2), (b3, 3, .int .i64 m3), (b3, 4, .int .i64 f), (b2, 0, .int .i64 n0), (b2, 1, .int .i64 n1), (b2, 2, .int .i64 n2), (b2, 3, .int .i64 n3), (b2, 4, .int .i64 d), (b1, 0, .int .i64 A), (b1, 1, .int .i64 B)] [] w'
theorem K_S2.below {A B n0 n1 n2 n3 d m0 m1 m2 m3 f : Int} {b1 b2 b3 : Nat} {w w1 w2 : World} (hb : Below w1.heap.size w1 w2) (h : K_S2 A B n0 n1 n2 n3 d m0 m1 m2 m3 f b1 b2 b3 w w1) : K_S2 A B n0 n1 n2 n3 d m0 m1 m2 m3 f b1 b2 b3 w w2 := KL.below hb h
theorem K_S2.draws {A B n0 n1 n2 n3 d m0 m1 m2 m3 f : Int} {b1 b2 b3 : Nat} {w w1 : World} (n : Nat) (h : K_S2 A B n0 n1 n2 n3 d m0 m1 m2 m3 f b1 b2 b3 w w1) : K_S2 A B n0 n1 n2 n3 d m0 m1 m2 m3 f b1 b2 b3 w (w1.drewN n) := KL.draws n h
theorem K_S2.drew {A B n0 n1 n2 n3 d m0 m1 m2 m3 f : Int} {b1 b2 b3 : Nat} {w w1 : World} (h : K_S2 A B n0 n1 n2 n3 d m0 m1 m2 m3 f b1 b2 b3 w w1) : K_S2 A B n0 n1 n2 n3 d m0 m1 m2 m3 f b1 b2 b3 w w1.drew := KL.draws 1 h
theorem K_S2.alloc {A B n0 n1 n2 n3 d m0 m1 m2 m3 f : Int} {b1 b2 b3 : Nat} {w w1 : World} (o : Obj) (h : K_S2 A B n0 n1 n2 n3 d m0 m1 m2 m3 f b1 b2 b3 w w1) : K_S2 A B n0 n1 n2 n3 d m0 m1 m2 m3 f b1 b2 b3 w (w1.alloc o) := KL.alloc o h
theorem K_S2.set {A B n0 n1 n2 n3 d m0 m1 m2 m3 f : Int} {b1 b2 b3 : Nat} {w w1 : World} (h : K_S2 A B n0 n1 n2 n3 d m0 m1 m2 m3 f b1 b2 b3 w w1) (b i : Nat) (v : Value) (hb : b ≠ b3 ∧ b ≠ b2 ∧ b ≠ b1 ∧ w.heap.size ≤ b) : K_S2 A B n0 n1 n2 n3 d m0 m1 m2 m3 f b1 b2 b3 w (w1.setCell ⟨b, i, none⟩ v) :=
  KL.set h b i v (by intro x hx; simp only [List.mem_cons, List.not_mem_nil, or_false] at hx; rcases hx with rfl | rfl | rfl | rfl | rfl | rfl | rfl | rfl | rfl | rfl | rfl | rfl <;> simp only [] <;> omega) (by omega)
theorem K_S2.bel {A B n0 n1 n2 n3 d m0 m1 m2 m3 f : Int} {b1 b2 b3 : Nat} {w w1 : World} (h : K_S2 A B n0 n1 n2 n3 d m0 m1 m2 m3 f b1 b2 b3 w w1) : Below w.heap.size w w1 := KL.bel h
theorem K_S2.cells {A B n0 n1 n2 n3 d m0 m1 m2 m3 f : Int} {b1 b2 b3 : Nat} {w w' : World} (h : K_S2 A B n0 n1 n2 n3 d m0 m1 m2 m3 f b1 b2 b3 w w') : w'.cell? ⟨b3, 0, none⟩ = some (.int .i64 m0) ∧ w'.cell? ⟨b3, 1, none⟩ = some (.int .i64 m1) ∧ w'.cell? ⟨b3, 2, none⟩ = some (.int .i64 m2) ∧ w'.cell? ⟨b3, 3, none⟩ = some (.int .i64 m3) ∧ w'.cell? ⟨b3, 4, none⟩ = some (.int .i64 f) ∧ w'.cell? ⟨b2, 0, none⟩ = some (.int .i64 n0) ∧ w'.cell? ⟨b2, 1, none⟩ = some (.int .i64 n1) ∧ w'.cell? ⟨b2, 2, none⟩ = some (.int .i64 n2) ∧ w'.cell? ⟨b2, 3, none⟩ = some (.int .i64 n3) ∧ w'.cell? ⟨b2, 4, none⟩ = some (.int .i64 d) ∧ w'.cell? ⟨b1, 0, none⟩ = some (.int .i64 A) ∧ w'.cell? ⟨b1, 1, none⟩ = some (.int .i64 B) := ⟨h.c (b3, 0, .int .i64 m0) (by simp), h.c (b3, 1, .int .i64 m1) (by simp), h.c (b3, 2, .int .i64 m2) (by simp), h.c (b3, 3, .int .i64 m3) (by simp), h.c (b3, 4, .int .i64 f) (by simp), h.c (b2, 0, .int .i64 n0) (by simp), h.c (b2, 1, .int .i64 n1) (by simp), h.c (b2, 2, .int .i64 n2) (by simp), h.c (b2, 3, .int .i64 n3) (by simp), h.c (b2, 4, .int .i64 d) (by simp), h.c (b1, 0, .int .i64 A) (by simp), h.c (b1, 1, .int .i64 B) (by simp)⟩
theorem K_S2.zs {A B n0 n1 n2 n3 d m0 m1 m2 m3 f : Int} {b1 b2 b3 : Nat} {w w' : World} (h : K_S2 A B n0 n1 n2 n3 d m0 m1 m2 m3 f b1 b2 b3 w w') : b3 < w'.heap.size ∧ b2 < w'.heap.size ∧ b1 < w'.heap.size ∧ True := ⟨KL.z h (x := (b3, 0, .int .i64 m0)) (by simp), KL.z h (x := (b2, 0, .int .i64 n0)) (by simp), KL.z h (x := (b1, 0, .int .i64 A)) (by simp), trivial⟩
theorem K_S2.ks {A B n0 n1 n2 n3 d m0 m1 m2 m3 f : Int} {b1 b2 b3 : Nat} {w w' : World} (h : K_S2 A B n0 n1 n2 n3 d m0 m1 m2 m3 f b1 b2 b3 w w') : (w'.cell? ⟨b3, 0, none⟩ = some (.int .i64 m0) ∧ w'.cell? ⟨b3, 1, none⟩ = some (.int .i64 m1) ∧ w'.cell? ⟨b3, 2, none⟩ = some (.int .i64 m2) ∧ w'.cell? ⟨b3, 3, none⟩ = some (.int .i64 m3) ∧ w'.cell? ⟨b3, 4, none⟩ = some (.int .i64 f) ∧ w'.cell? ⟨b2, 0, none⟩ = some (.int .i64 n0) ∧ w'.cell? ⟨b2, 1, none⟩ = some (.int .i64 n1) ∧ w'.cell? ⟨b2, 2, none⟩ = some (.int .i64 n2) ∧ w'.cell? ⟨b2, 3, none⟩ = some (.int .i64 n3) ∧ w'.cell? ⟨b2, 4, none⟩ = some (.int .i64 d) ∧ w'.cell? ⟨b1, 0, none⟩ = some (.int .i64 A) ∧ w'.cell? ⟨b1, 1, none⟩ = some (.int .i64 B)) ∧ K_S2 A B n0 n1 n2 n3 d m0 m1 m2 m3 f b1 b2 b3 w w' := ⟨h.cells, h⟩
/-- what a walk keeps: cells, and that nothing that was there has turned -/
def K_S3 (A B n0 n1 n2 n3 d m0 m1 m2 m3 f l0 l1 l2 l3 g : Int) (b1 b2 b3 b4 : Nat) (w w' : World) : Prop := KL w [(b4, 0, .int .i64 l0), (b4, 1, .int .i64 l1), (b4, 2, .int .i64 l2), (b4, 3, .int .i64 l3), (b4, 4, .int .i64 g), (b3, 0, .int .i64 m0), (b3, 1, .int .i64 m1), (b3, 2, .int .i64 m2), (b3, 3, .int .i64 m3), (b3, 4, .int .i64 f), (b2, 0, .int .i64 n0), (b2, 1, .int .i64 n1), (b2, 2, .int .i64 n2), (b2, 3, .int .i64 n3), (b2, 4, .int .i64 d), (b1, 0, .int .i64 A), (b1, 1, .int .i64 B)] [] w'
theorem K_S3.below {A B n0 n1 n2 n3 d m0 m1 m2 m3 f l0 l1 l2 l3 g : Int} {b1 b2 b3 b4 : Nat} {w w1 w2 : World} (hb : Below w1.heap.size w1 w2) (h : K_S3 A B n0 n1 n2 n3 d m0 m1 m2 m3 f l0 l1 l2 l3 g b1 b2 b3 b4 w w1) : K_S3 A B n0 n1 n2 n3 d m0 m1 m2 m3 f l0 l1 l2 l3 g b1 b2 b3 b4 w w2 := KL.below hb h
theorem K_S3.draws {A B n0 n1 n2 n3 d m0 m1 m2 m3 f l0 l1 l2 l3 g : Int} {b1 b2 b3 b4 : Nat} {w w1 : World} (n : Nat) (h : K_S3 A B n0 n1 n2 n3 d m0 m1 m2 m3 f l0 l1 l2 l3 g b1 b2 b3 b4 w w1) : K_S3 A B n0 n1 n2 n3 d m0 m1 m2 m3 f l0 l1 l2 l3 g b1 b2 b3 b4 w (w1.drewN n) := KL.draws n h
theorem K_S3.drew {A B n0 n1 n2 n3 d m0 m1 m2 m3 f l0 l1 l2 l3 g : Int} {b1 b2 b3 b4 : Nat} {w w1 : World} (h : K_S3 A B n0 n1 n2 n3 d m0 m1 m2 m3 f l0 l1 l2 l3 g b1 b2 b3 b4 w w1) : K_S3 A B n0 n1 n2 n3 d m0 m1 m2 m3 f l0 l1 l2 l3 g b1 b2 b3 b4 w w1.drew := KL.draws 1 h
theorem K_S3.alloc {A B n0 n1 n2 n3 d m0 m1 m2 m3 f l0 l1 l2 l3 g : Int} {b1 b2 b3 b4 : Nat} {w w1 : World} (o : Obj) (h : K_S3 A B n0 n1 n2 n3 d m0 m1 m2 m3 f l0 l1 l2 l3 g b1 b2 b3 b4 w w1) : K_S3 A B n0 n1 n2 n3 d m0 m1 m2 m3 f l0 l1 l2 l3 g b1 b2 b3 b4 w (w1.alloc o) := KL.alloc o h
theorem K_S3.set {A B n0 n1 n2 n3 d m0 m1 m2 m3 f l0 l1 l2 l3 g : Int} {b1 b2 b3 b4 : Nat} {w w1 : World} (h : K_S3 A B n0 n1 n2 n3 d m0 m1 m2 m3 f l0 l1 l2 l3 g b1 b2 b3 b4 w w1) (b i : Nat) (v : Value) (hb : b ≠ b4 ∧ b ≠ b3 ∧ b ≠ b2 ∧ b ≠ b1 ∧ w.heap.size ≤ b) : K_S3 A B n0 n1 n2 n3 d m0 m1 m2 m3 f l0 l1 l2 l3 g b1 b2 b3 b4 w (w1.setCell ⟨b, i, none⟩ v) :=
  KL.set h b i v (by intro x hx; simp only [List.mem_cons, List.not_mem_nil, or_false] at hx; rcases hx with rfl | rfl | rfl | rfl | rfl | rfl | rfl | rfl | rfl | rfl | rfl | rfl | rfl | rfl | rfl | rfl | rfl <;> simp only [] <;> omega) (by omega)
theorem K_S3.bel {A B n0 n1 n2 n3 d m0 m1 m2 m3 f l0 l1 l2 l3 g : Int} {b1 b2 b3 b4 : Nat} {w w1 : World} (h : K_S3 A B n0 n1 n2 n3 d m0 m1 m2 m3 f l0 l1 l2 l3 g b1 b2 b3 b4 w w1) : Below w.heap.size w w1 := KL.bel h
theorem K_S3.cells {A B n0 n1 n2 n3 d m0 m1 m2 m3 f l0 l1 l2 l3 g : Int} {b1 b2 b3 b4 : Nat} {w w' : World} (h : K_S3 A B n0 n1 n2 n3 d m0 m1 m2 m3 f l0 l1 l2 l3 g b1 b2 b3 b4 w w') : w'.cell? ⟨b4, 0, none⟩ = some (.int .i64 l0) ∧ w'.cell? ⟨b4, 1, none⟩ = some (.int .i64 l1) ∧ w'.cell? ⟨b4, 2, none⟩ = some (.int .i64 l2) ∧ w'.cell? ⟨b4, 3, none⟩ = some (.int .i64 l3) ∧ w'.cell? ⟨b4, 4, none⟩ = some (.int .i64 g) ∧ w'.cell? ⟨b3, 0, none⟩ = some (.int .i64 m0) ∧ w'.cell? ⟨b3, 1, none⟩ = some (.int .i64 m1) ∧ w'.cell? ⟨b3, 2, none⟩ = some (.int .i64 m2) ∧ w'.cell? ⟨b3, 3, none⟩ = some (.int .i64 m3) ∧ w'.cell? ⟨b3, 4, none⟩ = some (.int .i64 f) ∧ w'.cell? ⟨b2, 0, none⟩ = some (.int .i64 n0) ∧ w'.cell? ⟨b2, 1, none⟩ = some (.int .i64 n1) ∧ w'.cell? ⟨b2, 2, none⟩ = some (.int .i64 n2) ∧ w'.cell? ⟨b2, 3, none⟩ = some (.int .i64 n3) ∧ w'.cell? ⟨b2, 4, none⟩ = some (.int .i64 d) ∧ w'.cell? ⟨b1, 0, none⟩ = some (.int .i64 A) ∧ w'.cell? ⟨b1, 1, none⟩ = some (.int .i64 B) := ⟨h.c (b4, 0, .int .i64 l0) (by simp), h.c (b4, 1, .int .i64 l1) (by simp), h.c (b4, 2, .int .i64 l2) (by simp), h.c (b4, 3, .int .i64 l3) (by simp), h.c (b4, 4, .int .i64 g) (by simp), h.c (b3, 0, .int .i64 m0) (by simp), h.c (b3, 1, .int .i64 m1) (by simp), h.c (b3, 2, .int .i64 m2) (by simp), h.c (b3, 3, .int .i64 m3) (by simp), h.c (b3, 4, .int .i64 f) (by simp), h.c (b2, 0, .int .i64 n0) (by simp), h.c (b2, 1, .int .i64 n1) (by simp), h.c (b2, 2, .int .i64 n2) (by simp), h.c (b2, 3, .int .i64 n3) (by simp), h.c (b2, 4, .int .i64 d) (by simp), h.c (b1, 0, .int .i64 A) (by simp), h.c (b1, 1, .int .i64 B) (by simp)⟩
theorem K_S3.zs {A B n0 n1 n2 n3 d m0 m1 m2 m3 f l0 l1 l2 l3 g : Int} {b1 b2 b3 b4 : Nat} {w w' : World} (h : K_S3 A B n0 n1 n2 n3 d m0 m1 m2 m3 f l0 l1 l2 l3 g b1 b2 b3 b4 w w') : b4 < w'.heap.size ∧ b3 < w'.heap.size ∧ b2 < w'.heap.size ∧ b1 < w'.heap.size ∧ True := ⟨KL.z h (x := (b4, 0, .int .i64 l0)) (by simp), KL.z h (x := (b3, 0, .int .i64 m0)) (by simp), KL.z h (x := (b2, 0, .int .i64 n0)) (by simp), KL.z h (x := (b1, 0, .int .i64 A)) (by simp), trivial⟩
theorem K_S3.ks {A B n0 n1 n2 n3 d m0 m1 m2 m3 f l0 l1 l2 l3 g : Int} {b1 b2 b3 b4 : Nat} {w w' : World} (h : K_S3 A B n0 n1 n2 n3 d m0 m1 m2 m3 f l0 l1 l2 l3 g b1 b2 b3 b4 w w') : (w'.cell? ⟨b4, 0, none⟩ = some (.int .i64 l0) ∧ w'.cell? ⟨b4, 1, none⟩ = some (.int .i64 l1) ∧ w'.cell? ⟨b4, 2, none⟩ = some (.int .i64 l2) ∧ w'.cell? ⟨b4, 3, none⟩ = some (.int .i64 l3) ∧ w'.cell? ⟨b4, 4, none⟩ = some (.int .i64 g) ∧ w'.cell? ⟨b3, 0, none⟩ = some (.int .i64 m0) ∧ w'.cell? ⟨b3, 1, none⟩ = some (.int .i64 m1) ∧ w'.cell? ⟨b3, 2, none⟩ = some (.int .i64 m2) ∧ w'.cell? ⟨b3, 3, none⟩ = some (.int .i64 m3) ∧ w'.cell? ⟨b3, 4, none⟩ = some (.int .i64 f) ∧ w'.cell? ⟨b2, 0, none⟩ = some (.int .i64 n0) ∧ w'.cell? ⟨b2, 1, none⟩ = some (.int .i64 n1) ∧ w'.cell? ⟨b2, 2, none⟩ = some (.int .i64 n2) ∧ w'.cell? ⟨b2, 3, none⟩ = some (.int .i64 n3) ∧ w'.cell? ⟨b2, 4, none⟩ = some (.int .i64 d) ∧ w'.cell? ⟨b1, 0, none⟩ = some (.int .i64 A) ∧ w'.cell? ⟨b1, 1, none⟩ = some (.int .i64 B)) ∧ K_S3 A B n0 n1 n2 n3 d m0 m1 m2 m3 f l0 l1 l2 l3 g b1 b2 b3 b4 w w' := ⟨h.cells, h⟩
/-- what a walk keeps: cells, and that nothing that was there has turned -/
def K_S4 (A B n0 n1 n2 n3 d m0 m1 m2 m3 f l0 l1 l2 l3 g : Int) (b1 b2 b3 b4 : Nat) (w w' : World) : Prop := KL w [(b4, 0, .int .i64 l0), (b4, 1, .int .i64 l1), (b4, 2, .int .i64 l2), (b4, 3, .int .i64 l3), (b4, 4, .int .i64 g), (b3, 0, .int .i64 m0), (b3, 1, .int .i64 m1), (b3, 2, .int .i64 m2), (b3, 3, .int .i64 m3), (b3, 4, .int .i64 f), (b2, 0, .int .i64 n0), (b2, 1, .int .i64 n1), (b2, 2, .int .i64 n2), (b2, 3, .int .i64 n3), (b2, 4, .int .i64 d), (b1, 0, .int .i64 A), (b1, 1, .int .i64 B)] [(b4, 0), (b4, 1), (b4, 2), (b4, 3), (b4, 4)] w'
theorem K_S4.below {A B n0 n1 n2 n3 d m0 m1 m2 m3 f l0 l1 l2 l3 g : Int} {b1 b2 b3 b4 : Nat} {w w1 w2 : World} (hb : Below w1.heap.size w1 w2) (h : K_S4 A B n0 n1 n2 n3 d m0 m1 m2 m3 f l0 l1 l2 l3 g b1 b2 b3 b4 w w1) : K_S4 A B n0 n1 n2 n3 d m0 m1 m2 m3 f l0 l1 l2 l3 g b1 b2 b3 b4 w w2 := KL.below hb h
theorem K_S4.draws {A B n0 n1 n2 n3 d m0 m1 m2 m3 f l0 l1 l2 l3 g : Int} {b1 b2 b3 b4 : Nat} {w w1 : World} (n : Nat) (h : K_S4 A B n0 n1 n2 n3 d m0 m1 m2 m3 f l0 l1 l2 l3 g b1 b2 b3 b4 w w1) : K_S4 A B n0 n1 n2 n3 d m0 m1 m2 m3 f l0 l1 l2 l3 g b1 b2 b3 b4 w (w1.drewN n) := KL.draws n h
theorem K_S4.drew {A B n0 n1 n2 n3 d m0 m1 m2 m3 f l0 l1 l2 l3 g : Int} {b1 b2 b3 b4 : Nat} {w w1 : World} (h : K_S4 A B n0 n1 n2 n3 d m0 m1 m2 m3 f l0 l1 l2 l3 g b1 b2 b3 b4 w w1) : K_S4 A B n0 n1 n2 n3 d m0 m1 m2 m3 f l0 l1 l2 l3 g b1 b2 b3 b4 w w1.drew := KL.draws 1 h
theorem K_S4.alloc {A B n0 n1 n2 n3 d m0 m1 m2 m3 f l0 l1 l2 l3 g : Int} {b1 b2 b3 b4 : Nat} {w w1 : World} (o : Obj) (h : K_S4 A B n0 n1 n2 n3 d m0 m1 m2 m3 f l0 l1 l2 l3 g b1 b2 b3 b4 w w1) : K_S4 A B n0 n1 n2 n3 d m0 m1 m2 m3 f l0 l1 l2 l3 g b1 b2 b3 b4 w (w1.alloc o) := KL.alloc o h
theorem K_S4.set {A B n0 n1 n2 n3 d m0 m1 m2 m3 f l0 l1 l2 l3 g : Int} {b1 b2 b3 b4 : Nat} {w w1 : World} (h : K_S4 A B n0 n1 n2 n3 d m0 m1 m2 m3 f l0 l1 l2 l3 g b1 b2 b3 b4 w w1) (b i : Nat) (v : Value) (hb : b ≠ b4 ∧ b ≠ b3 ∧ b ≠ b2 ∧ b ≠ b1 ∧ w.heap.size ≤ b) : K_S4 A B n0 n1 n2 n3 d m0 m1 m2 m3 f l0 l1 l2 l3 g b1 b2 b3 b4 w (w1.setCell ⟨b, i, none⟩ v) :=
  KL.set h b i v (by intro x hx; simp only [List.mem_cons, List.not_mem_nil, or_false] at hx; rcases hx with rfl | rfl | rfl | rfl | rfl | rfl | rfl | rfl | rfl | rfl | rfl | rfl | rfl | rfl | rfl | rfl | rfl <;> simp only [] <;> omega) (by omega)
theorem K_S4.bel {A B n0 n1 n2 n3 d m0 m1 m2 m3 f l0 l1 l2 l3 g : Int} {b1 b2 b3 b4 : Nat} {w w1 : World} (h : K_S4 A B n0 n1 n2 n3 d m0 m1 m2 m3 f l0 l1 l2 l3 g b1 b2 b3 b4 w w1) : Below w.heap.size w w1 := KL.bel h
theorem K_S4.cells {A B n0 n1 n2 n3 d m0 m1 m2 m3 f l0 l1 l2 l3 g : Int} {b1 b2 b3 b4 : Nat} {w w' : World} (h : K_S4 A B n0 n1 n2 n3 d m0 m1 m2 m3 f l0 l1 l2 l3 g b1 b2 b3 b4 w w') : w'.cell? ⟨b4, 0, none⟩ = some (.int .i64 l0) ∧ w'.cell? ⟨b4, 1, none⟩ = some (.int .i64 l1) ∧ w'.cell? ⟨b4, 2, none⟩ = some (.int .i64 l2) ∧ w'.cell? ⟨b4, 3, none⟩ = some (.int .i64 l3) ∧ w'.cell? ⟨b4, 4, none⟩ = some (.int .i64 g) ∧ w'.cell? ⟨b3, 0, none⟩ = some (.int .i64 m0) ∧ w'.cell? ⟨b3, 1, none⟩ = some (.int .i64 m1) ∧ w'.cell? ⟨b3, 2, none⟩ = some (.int .i64 m2) ∧ w'.cell? ⟨b3, 3, none⟩ = some (.int .i64 m3) ∧ w'.cell? ⟨b3, 4, none⟩ = some (.int .i64 f) ∧ w'.cell? ⟨b2, 0, none⟩ = some (.int .i64 n0) ∧ w'.cell? ⟨b2, 1, none⟩ = some (.int .i64 n1) ∧ w'.cell? ⟨b2, 2, none⟩ = some (.int .i64 n2) ∧ w'.cell? ⟨b2, 3, none⟩ = some (.int .i64 n3) ∧ w'.cell? ⟨b2, 4, none⟩ = some (.int .i64 d) ∧ w'.cell? ⟨b1, 0, none⟩ = some (.int .i64 A) ∧ w'.cell? ⟨b1, 1, none⟩ = some (.int .i64 B) ∧ w'.frozen? ⟨b4, 0, none⟩ = false ∧ w'.frozen? ⟨b4, 1, none⟩ = false ∧ w'.frozen? ⟨b4, 2, none⟩ = false ∧ w'.frozen? ⟨b4, 3, none⟩ = false ∧ w'.frozen? ⟨b4, 4, none⟩ = false := ⟨h.c (b4, 0, .int .i64 l0) (by simp), h.c (b4, 1, .int .i64 l1) (by simp), h.c (b4, 2, .int .i64 l2) (by simp), h.c (b4, 3, .int .i64 l3) (by simp), h.c (b4, 4, .int .i64 g) (by simp), h.c (b3, 0, .int .i64 m0) (by simp), h.c (b3, 1, .int .i64 m1) (by simp), h.c (b3, 2, .int .i64 m2) (by simp), h.c (b3, 3, .int .i64 m3) (by simp), h.c (b3, 4, .int .i64 f) (by simp), h.c (b2, 0, .int .i64 n0) (by simp), h.c (b2, 1, .int .i64 n1) (by simp), h.c (b2, 2, .int .i64 n2) (by simp), h.c (b2, 3, .int .i64 n3) (by simp), h.c (b2, 4, .int .i64 d) (by simp), h.c (b1, 0, .int .i64 A) (by simp), h.c (b1, 1, .int .i64 B) (by simp), h.f (b4, 0) (by simp), h.f (b4, 1) (by simp), h.f (b4, 2) (by simp), h.f (b4, 3) (by simp), h.f (b4, 4) (by simp)⟩
theorem K_S4.zs {A B n0 n1 n2 n3 d m0 m1 m2 m3 f l0 l1 l2 l3 g : Int} {b1 b2 b3 b4 : Nat} {w w' : World} (h : K_S4 A B n0 n1 n2 n3 d m0 m1 m2 m3 f l0 l1 l2 l3 g b1 b2 b3 b4 w w') : b4 < w'.heap.size ∧ b3 < w'.heap.size ∧ b2 < w'.heap.size ∧ b1 < w'.heap.size ∧ True := ⟨KL.z h (x := (b4, 0, .int .i64 l0)) (by simp), KL.z h (x := (b3, 0, .int .i64 m0)) (by simp), KL.z h (x := (b2, 0, .int .i64 n0)) (by simp), KL.z h (x := (b1, 0, .int .i64 A)) (by simp), trivial⟩
theorem K_S4.ks {A B n0 n1 n2 n3 d m0 m1 m2 m3 f l0 l1 l2 l3 g : Int} {b1 b2 b3 b4 : Nat} {w w' : World} (h : K_S4 A B n0 n1 n2 n3 d m0 m1 m2 m3 f l0 l1 l2 l3 g b1 b2 b3 b4 w w') : (w'.cell? ⟨b4, 0, none⟩ = some (.int .i64 l0) ∧ w'.cell? ⟨b4, 1, none⟩ = some (.int .i64 l1) ∧ w'.cell? ⟨b4, 2, none⟩ = some (.int .i64 l2) ∧ w'.cell? ⟨b4, 3, none⟩ = some (.int .i64 l3) ∧ w'.cell? ⟨b4, 4, none⟩ = some (.int .i64 g) ∧ w'.cell? ⟨b3, 0, none⟩ = some (.int .i64 m0) ∧ w'.cell? ⟨b3, 1, none⟩ = some (.int .i64 m1) ∧ w'.cell? ⟨b3, 2, none⟩ = some (.int .i64 m2) ∧ w'.cell? ⟨b3, 3, none⟩ = some (.int .i64 m3) ∧ w'.cell? ⟨b3, 4, none⟩ = some (.int .i64 f) ∧ w'.cell? ⟨b2, 0, none⟩ = some (.int .i64 n0) ∧ w'.cell? ⟨b2, 1, none⟩ = some (.int .i64 n1) ∧ w'.cell? ⟨b2, 2, none⟩ = some (.int .i64 n2) ∧ w'.cell? ⟨b2, 3, none⟩ = some (.int .i64 n3) ∧ w'.cell? ⟨b2, 4, none⟩ = some (.int .i64 d) ∧ w'.cell? ⟨b1, 0, none⟩ = some (.int .i64 A) ∧ w'.cell? ⟨b1, 1, none⟩ = some (.int .i64 B) ∧ w'.frozen? ⟨b4, 0, none⟩ = false ∧ w'.frozen? ⟨b4, 1, none⟩ = false ∧ w'.frozen? ⟨b4, 2, none⟩ = false ∧ w'.frozen? ⟨b4, 3, none⟩ = false ∧ w'.frozen? ⟨b4, 4, none⟩ = false) ∧ K_S4 A B n0 n1 n2 n3 d m0 m1 m2 m3 f l0 l1 l2 l3 g b1 b2 b3 b4 w w' := ⟨h.cells, h⟩
set_option maxHeartbeats 3200000 in
theorem checks_bad (A B n0 n1 n2 n3 d : Int) (w : World) (h : chkQ n0 n1 n2 n3 d ≠ 0) : Calls Tryd.prog 3 #[.agg #[.int .i64 A, .int .i64 B], .agg #[.int .i64 n0, .int .i64 n1, .int .i64 n2, .int .i64 n3, .int .i64 d]] w fun e w' => e = .returned (.bool true) ∧ Below w.heap.size w w' := by
  obtain ⟨hb, hc⟩ := chkQ_bad h
  have HQ := Lib.hid hb
  have HC := Lib.hid hc
  clear h hb hc
  go_enter Tryd.func3, Tryd.ntmps3
  go_wp2_with fail
  refine (awake_any _).mono ?_
  rintro e w1 ⟨rfl, hb⟩
  have hK : K_S1 A B n0 n1 n2 n3 d w.heap.size (w.heap.size + 1) w w1 := KL.below hb (((KL.nil w).push2 A B _ _ rfl).push5 n0 n1 n2 n3 d _ _ (by simp))
  clear hb
  obtain ⟨c0_, c1_, c2_, c3_, c4_, c5_, c6_⟩ := K_S1.cells hK; obtain ⟨z0_, z1_, -⟩ := K_S1.zs hK; have HK := Lib.hid hK; clear hK
  go_wp2_with fail
  refine (Normal_bad _ _ _ _ _ _ HQ.out).mono ?_
  rintro e w2 ⟨rfl, hb⟩
  clear c0_ c1_ c2_ c3_ c4_ c5_ c6_ z0_ z1_
  have hK := K_S1.below hb HK.out
  clear hb HK
  obtain ⟨c0_, c1_, c2_, c3_, c4_, c5_, c6_⟩ := K_S1.cells hK; obtain ⟨z0_, z1_, -⟩ := K_S1.zs hK; have HK := Lib.hid hK; clear hK
  go_wp2_with fail
  refine (rCheckQuat_any _ _ _ _ _ _).mono ?_
  rintro e w3 ⟨rfl, hb⟩
  clear c0_ c1_ c2_ c3_ c4_ c5_ c6_ z0_ z1_
  have hK : K_S2 A B n0 n1 n2 n3 d 0 0 0 0 0 w.heap.size (w.heap.size + 1) w2.heap.size w w3 := KL.below hb (KL.push5 HK.out 0 0 0 0 0 _ _ rfl)
  clear hb HK
  obtain ⟨c0_, c1_, c2_, c3_, c4_, c5_, c6_, c7_, c8_, c9_, c10_, c11_⟩ := K_S2.cells hK; obtain ⟨z0_, z1_, z2_, -⟩ := K_S2.zs hK; have HK := Lib.hid hK; clear hK
  have hq := HC.out
  rw [hq]
  go_wp2_with fail
  have hk : K_S3 A B n0 n1 n2 n3 d 0 0 0 0 0 0 0 0 0 0 w.heap.size (w.heap.size + 1) w2.heap.size w3.heap.size w (w3.alloc (.cells #[.int .i64 0, .int .i64 0, .int .i64 0, .int .i64 0, .int .i64 0] 25)) := KL.push5 HK.out 0 0 0 0 0 _ _ rfl
  clear c0_ c1_ c2_ c3_ c4_ c5_ c6_ c7_ c8_ c9_ c10_ c11_ z0_ z1_ z2_
  clear HK
  go_region_held3 (fun w' => (w'.cell? ⟨w3.heap.size, 0, none⟩ = some (.int .i64 0) ∧ w'.cell? ⟨w3.heap.size, 1, none⟩ = some (.int .i64 0) ∧ w'.cell? ⟨w3.heap.size, 2, none⟩ = some (.int .i64 0) ∧ w'.cell? ⟨w3.heap.size, 3, none⟩ = some (.int .i64 0) ∧ w'.cell? ⟨w3.heap.size, 4, none⟩ = some (.int .i64 0) ∧ w'.cell? ⟨w2.heap.size, 0, none⟩ = some (.int .i64 0) ∧ w'.cell? ⟨w2.heap.size, 1, none⟩ = some (.int .i64 0) ∧ w'.cell? ⟨w2.heap.size, 2, none⟩ = some (.int .i64 0) ∧ w'.cell? ⟨w2.heap.size, 3, none⟩ = some (.int .i64 0) ∧ w'.cell? ⟨w2.heap.size, 4, none⟩ = some (.int .i64 0) ∧ w'.cell? ⟨(w.heap.size + 1), 0, none⟩ = some (.int .i64 n0) ∧ w'.cell? ⟨(w.heap.size + 1), 1, none⟩ = some (.int .i64 n1) ∧ w'.cell? ⟨(w.heap.size + 1), 2, none⟩ = some (.int .i64 n2) ∧ w'.cell? ⟨(w.heap.size + 1), 3, none⟩ = some (.int .i64 n3) ∧ w'.cell? ⟨(w.heap.size + 1), 4, none⟩ = some (.int .i64 d) ∧ w'.cell? ⟨w.heap.size, 0, none⟩ = some (.int .i64 A) ∧ w'.cell? ⟨w.heap.size, 1, none⟩ = some (.int .i64 B)) ∧ K_S3 A B n0 n1 n2 n3 d 0 0 0 0 0 0 0 0 0 0 w.heap.size (w.heap.size + 1) w2.heap.size w3.heap.size w w') ((refine K_S3.ks ?_; repeat (first | (with_reducible assumption) | (with_reducible refine K_S3.draws _ ?_) | (with_reducible refine K_S3.drew ?_) | (with_reducible refine K_S3.alloc _ ?_) | (with_reducible refine K_S3.set ?_ _ _ _ (by omega)))))
    (first
      | (go_at_call 15; (with_reducible refine (Check_any _ _ _).mono ?_); rintro e w' ⟨rfl, hbel⟩; have hk' := K_S3.below hbel (And.right (by assumption)); clear hbel)
      | (go_at_call 16; (with_reducible refine (rCheck_any _ _ _).mono ?_); rintro e w' ⟨rfl, hbel⟩; have hk' := K_S3.below hbel (And.right (by assumption)); clear hbel)
      | (go_at_call 17; (with_reducible refine (CheckQuat_any _ _ _ _ _ _).mono ?_); rintro e w' ⟨rfl, hbel⟩; have hk' := K_S3.below hbel (And.right (by assumption)); clear hbel)
      | (go_at_call 18; (with_reducible refine (same_refl _ _ _ _ _ _ _).mono ?_); rintro e w' ⟨rfl, hbel⟩; have hk' := K_S3.below hbel (And.right (by assumption)); clear hbel))
  all_goals
    go_wp2
    go_ret
    exact ⟨rfl, K_S3.bel hk'⟩
set_option maxHeartbeats 3200000 in
theorem checks_ok (A B n0 n1 n2 n3 d : Int) (w : World) (h : chkQ n0 n1 n2 n3 d = 0) : Calls Tryd.prog 3 #[.agg #[.int .i64 A, .int .i64 B], .agg #[.int .i64 n0, .int .i64 n1, .int .i64 n2, .int .i64 n3, .int .i64 d]] w fun e w' => e = .returned (.bool true) ∧ Below w.heap.size w w' := by
  have HC := Lib.hid h
  obtain ⟨s, hs⟩ : ∃ s, (Q.mk n0 n1 n2 n3 d).low = s := ⟨_, rfl⟩
  have NV := Lib.hid (fun W => Normal_v n0 n1 n2 n3 d W h)
  have RN := Lib.hid (fun W => rNormal_v n0 n1 n2 n3 d W h)
  rw [hs] at NV RN
  clear h hs
  go_enter Tryd.func3, Tryd.ntmps3
  go_wp2_with fail
  refine (awake_any _).mono ?_
  rintro e w1 ⟨rfl, hb⟩
  have hK : K_S1 A B n0 n1 n2 n3 d w.heap.size (w.heap.size + 1) w w1 := KL.below hb (((KL.nil w).push2 A B _ _ rfl).push5 n0 n1 n2 n3 d _ _ (by simp))
  clear hb
  obtain ⟨c0_, c1_, c2_, c3_, c4_, c5_, c6_⟩ := K_S1.cells hK; obtain ⟨z0_, z1_, -⟩ := K_S1.zs hK; have HK := Lib.hid hK; clear hK
  go_wp2_with fail
  refine (NV.out _).mono ?_
  rintro e w2 ⟨rfl, hb⟩
  clear c0_ c1_ c2_ c3_ c4_ c5_ c6_ z0_ z1_
  have hK := K_S1.below hb HK.out
  clear hb HK
  obtain ⟨c0_, c1_, c2_, c3_, c4_, c5_, c6_⟩ := K_S1.cells hK; obtain ⟨z0_, z1_, -⟩ := K_S1.zs hK; have HK := Lib.hid hK; clear hK
  go_wp2_with fail
  refine (rCheckQuat_any _ _ _ _ _ _).mono ?_
  rintro e w3 ⟨rfl, hb⟩
  clear c0_ c1_ c2_ c3_ c4_ c5_ c6_ z0_ z1_
  have hK : K_S2 A B n0 n1 n2 n3 d s.w s.x s.y s.z s.d w.heap.size (w.heap.size + 1) w2.heap.size w w3 := KL.below hb (KL.push5 HK.out s.w s.x s.y s.z s.d _ _ rfl)
  clear hb HK
  obtain ⟨c0_, c1_, c2_, c3_, c4_, c5_, c6_, c7_, c8_, c9_, c10_, c11_⟩ := K_S2.cells hK; obtain ⟨z0_, z1_, z2_, -⟩ := K_S2.zs hK; have HK := Lib.hid hK; clear hK
  have hq := HC.out
  rw [hq]
  go_wp2_with fail
  refine (RN.out _).mono ?_
  rintro e w4 ⟨rfl, hb⟩
  have q1 : w3.heap.size ≠ w.heap.size := by omega
  have q2 : w3.heap.size ≠ w.heap.size + 1 := by omega
  have q3 : w3.heap.size ≠ w2.heap.size := by omega
  have y0 : w.heap.size ≤ w3.heap.size := by omega
  clear c0_ c1_ c2_ c3_ c4_ c5_ c6_ c7_ c8_ c9_ c10_ c11_ z0_ z1_ z2_
  have hK : K_S4 A B n0 n1 n2 n3 d s.w s.x s.y s.z s.d 0 0 0 0 0 w.heap.size (w.heap.size + 1) w2.heap.size w3.heap.size w w4 := KL.below hb (KL.push5w HK.out 0 0 0 0 0 _ _ rfl)
  clear hb HK
  obtain ⟨c0_, c1_, c2_, c3_, c4_, c5_, c6_, c7_, c8_, c9_, c10_, c11_, c12_, c13_, c14_, c15_, c16_, f0_, f1_, f2_, f3_, f4_⟩ := K_S4.cells hK; obtain ⟨z0_, z1_, z2_, z3_, -⟩ := K_S4.zs hK; have HK := Lib.hid hK; clear hK
  go_wp2_with fail
  have hk : K_S3 A B n0 n1 n2 n3 d s.w s.x s.y s.z s.d s.w s.x s.y s.z s.d w.heap.size (w.heap.size + 1) w2.heap.size w3.heap.size w ((((((((((w4).setCell ⟨w3.heap.size, 0, none⟩ (.int .i64 (s).w))).setCell ⟨w3.heap.size, 1, none⟩ (.int .i64 (s).x))).setCell ⟨w3.heap.size, 2, none⟩ (.int .i64 (s).y))).setCell ⟨w3.heap.size, 3, none⟩ (.int .i64 (s).z))).setCell ⟨w3.heap.size, 4, none⟩ (.int .i64 (s).d)) := ⟨by simp [go_sem, c0_, c1_, c2_, c3_, c4_, c5_, c6_, c7_, c8_, c9_, c10_, c11_, c12_, c13_, c14_, c15_, c16_, f0_, f1_, f2_, f3_, f4_, q1, q2, q3, q1.symm, q2.symm, q3.symm], by simp, by simp, by have HB := Lib.hid (K_S4.bel HK.out); (repeat (first | (with_reducible exact Below.refl _ _) | (with_reducible exact HB.out) | (with_reducible refine below_draws ?_ _) | (with_reducible refine Below.alloc ?_ (by go_size) _) | (with_reducible refine Below.setCell ?_ (by go_size) _) | (with_reducible refine Below.alloc ?_ (by simp <;> omega) _) | (with_reducible refine Below.setCell ?_ (by simp <;> omega) _)))⟩
  clear c0_ c1_ c2_ c3_ c4_ c5_ c6_ c7_ c8_ c9_ c10_ c11_ c12_ c13_ c14_ c15_ c16_ f0_ f1_ f2_ f3_ f4_ z0_ z1_ z2_ z3_
  clear HK
  go_region_held3 (fun w' => (w'.cell? ⟨w3.heap.size, 0, none⟩ = some (.int .i64 s.w) ∧ w'.cell? ⟨w3.heap.size, 1, none⟩ = some (.int .i64 s.x) ∧ w'.cell? ⟨w3.heap.size, 2, none⟩ = some (.int .i64 s.y) ∧ w'.cell? ⟨w3.heap.size, 3, none⟩ = some (.int .i64 s.z) ∧ w'.cell? ⟨w3.heap.size, 4, none⟩ = some (.int .i64 s.d) ∧ w'.cell? ⟨w2.heap.size, 0, none⟩ = some (.int .i64 s.w) ∧ w'.cell? ⟨w2.heap.size, 1, none⟩ = some (.int .i64 s.x) ∧ w'.cell? ⟨w2.heap.size, 2, none⟩ = some (.int .i64 s.y) ∧ w'.cell? ⟨w2.heap.size, 3, none⟩ = some (.int .i64 s.z) ∧ w'.cell? ⟨w2.heap.size, 4, none⟩ = some (.int .i64 s.d) ∧ w'.cell? ⟨(w.heap.size + 1), 0, none⟩ = some (.int .i64 n0) ∧ w'.cell? ⟨(w.heap.size + 1), 1, none⟩ = some (.int .i64 n1) ∧ w'.cell? ⟨(w.heap.size + 1), 2, none⟩ = some (.int .i64 n2) ∧ w'.cell? ⟨(w.heap.size + 1), 3, none⟩ = some (.int .i64 n3) ∧ w'.cell? ⟨(w.heap.size + 1), 4, none⟩ = some (.int .i64 d) ∧ w'.cell? ⟨w.heap.size, 0, none⟩ = some (.int .i64 A) ∧ w'.cell? ⟨w.heap.size, 1, none⟩ = some (.int .i64 B)) ∧ K_S3 A B n0 n1 n2 n3 d s.w s.x s.y s.z s.d s.w s.x s.y s.z s.d w.heap.size (w.heap.size + 1) w2.heap.size w3.heap.size w w') ((refine K_S3.ks ?_; repeat (first | (with_reducible assumption) | (with_reducible refine K_S3.draws _ ?_) | (with_reducible refine K_S3.drew ?_) | (with_reducible refine K_S3.alloc _ ?_) | (with_reducible refine K_S3.set ?_ _ _ _ (by omega)))))
    (first
      | (go_at_call 15; (with_reducible refine (Check_any _ _ _).mono ?_); rintro e w' ⟨rfl, hbel⟩; have hk' := K_S3.below hbel (And.right (by assumption)); clear hbel)
      | (go_at_call 16; (with_reducible refine (rCheck_any _ _ _).mono ?_); rintro e w' ⟨rfl, hbel⟩; have hk' := K_S3.below hbel (And.right (by assumption)); clear hbel)
      | (go_at_call 17; (with_reducible refine (CheckQuat_any _ _ _ _ _ _).mono ?_); rintro e w' ⟨rfl, hbel⟩; have hk' := K_S3.below hbel (And.right (by assumption)); clear hbel)
      | (go_at_call 18; (with_reducible refine (same_refl _ _ _ _ _ _ _).mono ?_); rintro e w' ⟨rfl, hbel⟩; have hk' := K_S3.below hbel (And.right (by assumption)); clear hbel))
  all_goals
    go_wp2
    go_ret
    exact ⟨rfl, K_S3.bel hk'⟩
theorem walk_checks (A B n0 n1 n2 n3 d : Int) (w : World) : Calls Tryd.prog 3 #[.agg #[.int .i64 A, .int .i64 B], .agg #[.int .i64 n0, .int .i64 n1, .int .i64 n2, .int .i64 n3, .int .i64 d]] w fun e w' => e = .returned (.bool true) ∧ Below w.heap.size w w' := by
  by_cases h : chkQ n0 n1 n2 n3 d = 0
  · exact checks_ok A B n0 n1 n2 n3 d w h
  · exact checks_bad A B n0 n1 n2 n3 d w h
end Go.Proofs.YtjloanplhbbomaaDoor.Al
