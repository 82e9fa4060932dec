/-
  WALK of the law AlgebraSums: it returns true for all arguments.
-/
import Derived.Test.YtjloanplhbbomaaDoorAlT
import Derived.Test.YtjloanplhbbomaaDoorAw4
namespace Go.Proofs.YtjloanplhbbomaaDoor.Al
open Go.RowKit
open Alm
set_option linter.unusedVariables false
set_option linter.unusedSimpArgs false
set_option maxRecDepth 100000
/-- what a walk keeps: cells, and that nothing that was there has turned -/
def K_Z (a0 a1 a2 a3 a4 : Int) (nb : Nat) (w w' : World) : Prop := KL w [(nb, 0, .int .i64 a0), (nb, 1, .int .i64 a1), (nb, 2, .int .i64 a2), (nb, 3, .int .i64 a3), (nb, 4, .int .i64 a4)] [(nb, 0), (nb, 1), (nb, 2), (nb, 3), (nb, 4)] w'
theorem K_Z.below {a0 a1 a2 a3 a4 : Int} {nb : Nat} {w w1 w2 : World} (hb : Below w1.heap.size w1 w2) (h : K_Z a0 a1 a2 a3 a4 nb w w1) : K_Z a0 a1 a2 a3 a4 nb w w2 := KL.below hb h
theorem K_Z.draws {a0 a1 a2 a3 a4 : Int} {nb : Nat} {w w1 : World} (n : Nat) (h : K_Z a0 a1 a2 a3 a4 nb w w1) : K_Z a0 a1 a2 a3 a4 nb w (w1.drewN n) := KL.draws n h
theorem K_Z.drew {a0 a1 a2 a3 a4 : Int} {nb : Nat} {w w1 : World} (h : K_Z a0 a1 a2 a3 a4 nb w w1) : K_Z a0 a1 a2 a3 a4 nb w w1.drew := KL.draws 1 h
theorem K_Z.alloc {a0 a1 a2 a3 a4 : Int} {nb : Nat} {w w1 : World} (o : Obj) (h : K_Z a0 a1 a2 a3 a4 nb w w1) : K_Z a0 a1 a2 a3 a4 nb w (w1.alloc o) := KL.alloc o h
theorem K_Z.set {a0 a1 a2 a3 a4 : Int} {nb : Nat} {w w1 : World} (h : K_Z a0 a1 a2 a3 a4 nb w w1) (b i : Nat) (v : Value) (hb : b ≠ nb ∧ w.heap.size ≤ b) : K_Z a0 a1 a2 a3 a4 nb w (w1.setCell ⟨b, i, none⟩ v) :=
  KL.set h b i v (by intro x hx; simp only [List.mem_cons, List.not_mem_nil, or_false] at hx; rcases hx with rfl | rfl | rfl | rfl | rfl <;> simp only [] <;> omega) (by omega)
theorem K_Z.bel {a0 a1 a2 a3 a4 : Int} {nb : Nat} {w w1 : World} (h : K_Z a0 a1 a2 a3 a4 nb w w1) : Below w.heap.size w w1 := KL.bel h
theorem K_Z.cells {a0 a1 a2 a3 a4 : Int} {nb : Nat} {w w' : World} (h : K_Z a0 a1 a2 a3 a4 nb w w') : w'.cell? ⟨nb, 0, none⟩ = some (.int .i64 a0) ∧ w'.cell? ⟨nb, 1, none⟩ = some (.int .i64 a1) ∧ w'.cell? ⟨nb, 2, none⟩ = some (.int .i64 a2) ∧ w'.cell? ⟨nb, 3, none⟩ = some (.int .i64 a3) ∧ w'.cell? ⟨nb, 4, none⟩ = some (.int .i64 a4) ∧ w'.frozen? ⟨nb, 0, none⟩ = false ∧ w'.frozen? ⟨nb, 1, none⟩ = false ∧ w'.frozen? ⟨nb, 2, none⟩ = false ∧ w'.frozen? ⟨nb, 3, none⟩ = false ∧ w'.frozen? ⟨nb, 4, none⟩ = false := ⟨h.c (nb, 0, .int .i64 a0) (by simp), h.c (nb, 1, .int .i64 a1) (by simp), h.c (nb, 2, .int .i64 a2) (by simp), h.c (nb, 3, .int .i64 a3) (by simp), h.c (nb, 4, .int .i64 a4) (by simp), h.f (nb, 0) (by simp), h.f (nb, 1) (by simp), h.f (nb, 2) (by simp), h.f (nb, 3) (by simp), h.f (nb, 4) (by simp)⟩
theorem K_Z.zs {a0 a1 a2 a3 a4 : Int} {nb : Nat} {w w' : World} (h : K_Z a0 a1 a2 a3 a4 nb w w') : nb < w'.heap.size ∧ True := ⟨KL.z h (x := (nb, 0, .int .i64 a0)) (by simp), trivial⟩
theorem K_Z.ks {a0 a1 a2 a3 a4 : Int} {nb : Nat} {w w' : World} (h : K_Z a0 a1 a2 a3 a4 nb w w') : (w'.cell? ⟨nb, 0, none⟩ = some (.int .i64 a0) ∧ w'.cell? ⟨nb, 1, none⟩ = some (.int .i64 a1) ∧ w'.cell? ⟨nb, 2, none⟩ = some (.int .i64 a2) ∧ w'.cell? ⟨nb, 3, none⟩ = some (.int .i64 a3) ∧ w'.cell? ⟨nb, 4, none⟩ = some (.int .i64 a4) ∧ w'.frozen? ⟨nb, 0, none⟩ = false ∧ w'.frozen? ⟨nb, 1, none⟩ = false ∧ w'.frozen? ⟨nb, 2, none⟩ = false ∧ w'.frozen? ⟨nb, 3, none⟩ = false ∧ w'.frozen? ⟨nb, 4, none⟩ = false) ∧ K_Z a0 a1 a2 a3 a4 nb w w' := ⟨h.cells, h⟩
/-- what a walk keeps: cells, and that nothing that was there has turned -/
def K_H3 (n0 n1 n2 n3 d m0 m1 m2 m3 f a c : Int) (b1 b2 b3 : Nat) (w w' : World) : Prop := KL w [(b3, 0, .int .i64 a), (b3, 1, .int .i64 c), (b2, 0, .int .i64 m0), (b2, 1, .int .i64 m1), (b2, 2, .int .i64 m2), (b2, 3, .int .i64 m3), (b2, 4, .int .i64 f), (b1, 0, .int .i64 n0), (b1, 1, .int .i64 n1), (b1, 2, .int .i64 n2), (b1, 3, .int .i64 n3), (b1, 4, .int .i64 d)] [] w'
theorem K_H3.below {n0 n1 n2 n3 d m0 m1 m2 m3 f a c : Int} {b1 b2 b3 : Nat} {w w1 w2 : World} (hb : Below w1.heap.size w1 w2) (h : K_H3 n0 n1 n2 n3 d m0 m1 m2 m3 f a c b1 b2 b3 w w1) : K_H3 n0 n1 n2 n3 d m0 m1 m2 m3 f a c b1 b2 b3 w w2 := KL.below hb h
theorem K_H3.draws {n0 n1 n2 n3 d m0 m1 m2 m3 f a c : Int} {b1 b2 b3 : Nat} {w w1 : World} (n : Nat) (h : K_H3 n0 n1 n2 n3 d m0 m1 m2 m3 f a c b1 b2 b3 w w1) : K_H3 n0 n1 n2 n3 d m0 m1 m2 m3 f a c b1 b2 b3 w (w1.drewN n) := KL.draws n h
theorem K_H3.drew {n0 n1 n2 n3 d m0 m1 m2 m3 f a c : Int} {b1 b2 b3 : Nat} {w w1 : World} (h : K_H3 n0 n1 n2 n3 d m0 m1 m2 m3 f a c b1 b2 b3 w w1) : K_H3 n0 n1 n2 n3 d m0 m1 m2 m3 f a c b1 b2 b3 w w1.drew := KL.draws 1 h
theorem K_H3.alloc {n0 n1 n2 n3 d m0 m1 m2 m3 f a c : Int} {b1 b2 b3 : Nat} {w w1 : World} (o : Obj) (h : K_H3 n0 n1 n2 n3 d m0 m1 m2 m3 f a c b1 b2 b3 w w1) : K_H3 n0 n1 n2 n3 d m0 m1 m2 m3 f a c b1 b2 b3 w (w1.alloc o) := KL.alloc o h
theorem K_H3.set {n0 n1 n2 n3 d m0 m1 m2 m3 f a c : Int} {b1 b2 b3 : Nat} {w w1 : World} (h : K_H3 n0 n1 n2 n3 d m0 m1 m2 m3 f a c b1 b2 b3 w w1) (b i : Nat) (v : Value) (hb : b ≠ b3 ∧ b ≠ b2 ∧ b ≠ b1 ∧ w.heap.size ≤ b) : K_H3 n0 n1 n2 n3 d m0 m1 m2 m3 f a c b1 b2 b3 w (w1.setCell ⟨b, i, none⟩ v) :=
  KL.set h b i v (by intro x hx; simp only [List.mem_cons, List.not_mem_nil, or_false] at hx; rcases hx with rfl | rfl | rfl | rfl | rfl | rfl | rfl | rfl | rfl | rfl | rfl | rfl <;> simp only [] <;> omega) (by omega)
theorem K_H3.bel {n0 n1 n2 n3 d m0 m1 m2 m3 f a c : Int} {b1 b2 b3 : Nat} {w w1 : World} (h : K_H3 n0 n1 n2 n3 d m0 m1 m2 m3 f a c b1 b2 b3 w w1) : Below w.heap.size w w1 := KL.bel h
theorem K_H3.cells {n0 n1 n2 n3 d m0 m1 m2 m3 f a c : Int} {b1 b2 b3 : Nat} {w w' : World} (h : K_H3 n0 n1 n2 n3 d m0 m1 m2 m3 f a c b1 b2 b3 w w') : w'.cell? ⟨b3, 0, none⟩ = some (.int .i64 a) ∧ w'.cell? ⟨b3, 1, none⟩ = some (.int .i64 c) ∧ w'.cell? ⟨b2, 0, none⟩ = some (.int .i64 m0) ∧ w'.cell? ⟨b2, 1, none⟩ = some (.int .i64 m1) ∧ w'.cell? ⟨b2, 2, none⟩ = some (.int .i64 m2) ∧ w'.cell? ⟨b2, 3, none⟩ = some (.int .i64 m3) ∧ w'.cell? ⟨b2, 4, none⟩ = some (.int .i64 f) ∧ w'.cell? ⟨b1, 0, none⟩ = some (.int .i64 n0) ∧ w'.cell? ⟨b1, 1, none⟩ = some (.int .i64 n1) ∧ w'.cell? ⟨b1, 2, none⟩ = some (.int .i64 n2) ∧ w'.cell? ⟨b1, 3, none⟩ = some (.int .i64 n3) ∧ w'.cell? ⟨b1, 4, none⟩ = some (.int .i64 d) := ⟨h.c (b3, 0, .int .i64 a) (by simp), h.c (b3, 1, .int .i64 c) (by simp), h.c (b2, 0, .int .i64 m0) (by simp), h.c (b2, 1, .int .i64 m1) (by simp), h.c (b2, 2, .int .i64 m2) (by simp), h.c (b2, 3, .int .i64 m3) (by simp), h.c (b2, 4, .int .i64 f) (by simp), h.c (b1, 0, .int .i64 n0) (by simp), h.c (b1, 1, .int .i64 n1) (by simp), h.c (b1, 2, .int .i64 n2) (by simp), h.c (b1, 3, .int .i64 n3) (by simp), h.c (b1, 4, .int .i64 d) (by simp)⟩
theorem K_H3.zs {n0 n1 n2 n3 d m0 m1 m2 m3 f a c : Int} {b1 b2 b3 : Nat} {w w' : World} (h : K_H3 n0 n1 n2 n3 d m0 m1 m2 m3 f a c b1 b2 b3 w w') : b3 < w'.heap.size ∧ b2 < w'.heap.size ∧ b1 < w'.heap.size ∧ True := ⟨KL.z h (x := (b3, 0, .int .i64 a)) (by simp), KL.z h (x := (b2, 0, .int .i64 m0)) (by simp), KL.z h (x := (b1, 0, .int .i64 n0)) (by simp), trivial⟩
theorem K_H3.ks {n0 n1 n2 n3 d m0 m1 m2 m3 f a c : Int} {b1 b2 b3 : Nat} {w w' : World} (h : K_H3 n0 n1 n2 n3 d m0 m1 m2 m3 f a c b1 b2 b3 w w') : (w'.cell? ⟨b3, 0, none⟩ = some (.int .i64 a) ∧ w'.cell? ⟨b3, 1, none⟩ = some (.int .i64 c) ∧ w'.cell? ⟨b2, 0, none⟩ = some (.int .i64 m0) ∧ w'.cell? ⟨b2, 1, none⟩ = some (.int .i64 m1) ∧ w'.cell? ⟨b2, 2, none⟩ = some (.int .i64 m2) ∧ w'.cell? ⟨b2, 3, none⟩ = some (.int .i64 m3) ∧ w'.cell? ⟨b2, 4, none⟩ = some (.int .i64 f) ∧ w'.cell? ⟨b1, 0, none⟩ = some (.int .i64 n0) ∧ w'.cell? ⟨b1, 1, none⟩ = some (.int .i64 n1) ∧ w'.cell? ⟨b1, 2, none⟩ = some (.int .i64 n2) ∧ w'.cell? ⟨b1, 3, none⟩ = some (.int .i64 n3) ∧ w'.cell? ⟨b1, 4, none⟩ = some (.int .i64 d)) ∧ K_H3 n0 n1 n2 n3 d m0 m1 m2 m3 f a c b1 b2 b3 w w' := ⟨h.cells, h⟩
/-- what a walk keeps: cells, and that nothing that was there has turned -/
def K_H4 (n0 n1 n2 n3 d m0 m1 m2 m3 f a c s0 s1 s2 s3 s4 : Int) (b1 b2 b3 b4 : Nat) (w w' : World) : Prop := KL w [(b4, 0, .int .i64 s0), (b4, 1, .int .i64 s1), (b4, 2, .int .i64 s2), (b4, 3, .int .i64 s3), (b4, 4, .int .i64 s4), (b3, 0, .int .i64 a), (b3, 1, .int .i64 c), (b2, 0, .int .i64 m0), (b2, 1, .int .i64 m1), (b2, 2, .int .i64 m2), (b2, 3, .int .i64 m3), (b2, 4, .int .i64 f), (b1, 0, .int .i64 n0), (b1, 1, .int .i64 n1), (b1, 2, .int .i64 n2), (b1, 3, .int .i64 n3), (b1, 4, .int .i64 d)] [] w'
theorem K_H4.below {n0 n1 n2 n3 d m0 m1 m2 m3 f a c s0 s1 s2 s3 s4 : Int} {b1 b2 b3 b4 : Nat} {w w1 w2 : World} (hb : Below w1.heap.size w1 w2) (h : K_H4 n0 n1 n2 n3 d m0 m1 m2 m3 f a c s0 s1 s2 s3 s4 b1 b2 b3 b4 w w1) : K_H4 n0 n1 n2 n3 d m0 m1 m2 m3 f a c s0 s1 s2 s3 s4 b1 b2 b3 b4 w w2 := KL.below hb h
theorem K_H4.draws {n0 n1 n2 n3 d m0 m1 m2 m3 f a c s0 s1 s2 s3 s4 : Int} {b1 b2 b3 b4 : Nat} {w w1 : World} (n : Nat) (h : K_H4 n0 n1 n2 n3 d m0 m1 m2 m3 f a c s0 s1 s2 s3 s4 b1 b2 b3 b4 w w1) : K_H4 n0 n1 n2 n3 d m0 m1 m2 m3 f a c s0 s1 s2 s3 s4 b1 b2 b3 b4 w (w1.drewN n) := KL.draws n h
theorem K_H4.drew {n0 n1 n2 n3 d m0 m1 m2 m3 f a c s0 s1 s2 s3 s4 : Int} {b1 b2 b3 b4 : Nat} {w w1 : World} (h : K_H4 n0 n1 n2 n3 d m0 m1 m2 m3 f a c s0 s1 s2 s3 s4 b1 b2 b3 b4 w w1) : K_H4 n0 n1 n2 n3 d m0 m1 m2 m3 f a c s0 s1 s2 s3 s4 b1 b2 b3 b4 w w1.drew := KL.draws 1 h
theorem K_H4.alloc {n0 n1 n2 n3 d m0 m1 m2 m3 f a c s0 s1 s2 s3 s4 : Int} {b1 b2 b3 b4 : Nat} {w w1 : World} (o : Obj) (h : K_H4 n0 n1 n2 n3 d m0 m1 m2 m3 f a c s0 s1 s2 s3 s4 b1 b2 b3 b4 w w1) : K_H4 n0 n1 n2 n3 d m0 m1 m2 m3 f a c s0 s1 s2 s3 s4 b1 b2 b3 b4 w (w1.alloc o) := KL.alloc o h
theorem K_H4.set {n0 n1 n2 n3 d m0 m1 m2 m3 f a c s0 s1 s2 s3 s4 : Int} {b1 b2 b3 b4 : Nat} {w w1 : World} (h : K_H4 n0 n1 n2 n3 d m0 m1 m2 m3 f a c s0 s1 s2 s3 s4 b1 b2 b3 b4 w w1) (b i : Nat) (v : Value) (hb : b ≠ b4 ∧ b ≠ b3 ∧ b ≠ b2 ∧ b ≠ b1 ∧ w.heap.size ≤ b) : K_H4 n0 n1 n2 n3 d m0 m1 m2 m3 f a c s0 s1 s2 s3 s4 b1 b2 b3 b4 w (w1.setCell ⟨b, i, none⟩ v) :=
  KL.set h b i v (by intro x hx; simp only [List.mem_cons, List.not_mem_nil, or_false] at hx; rcases hx with rfl | rfl | rfl | rfl | rfl | rfl | rfl | rfl | rfl | rfl | rfl | rfl | rfl | rfl | rfl | rfl | rfl <;> simp only [] <;> omega) (by omega)
theorem K_H4.bel {n0 n1 n2 n3 d m0 m1 m2 m3 f a c s0 s1 s2 s3 s4 : Int} {b1 b2 b3 b4 : Nat} {w w1 : World} (h : K_H4 n0 n1 n2 n3 d m0 m1 m2 m3 f a c s0 s1 s2 s3 s4 b1 b2 b3 b4 w w1) : Below w.heap.size w w1 := KL.bel h
theorem K_H4.cells {n0 n1 n2 n3 d m0 m1 m2 m3 f a c s0 s1 s2 s3 s4 : Int} {b1 b2 b3 b4 : Nat} {w w' : World} (h : K_H4 n0 n1 n2 n3 d m0 m1 m2 m3 f a c s0 s1 s2 s3 s4 b1 b2 b3 b4 w w') : w'.cell? ⟨b4, 0, none⟩ = some (.int .i64 s0) ∧ w'.cell? ⟨b4, 1, none⟩ = some (.int .i64 s1) ∧ w'.cell? ⟨b4, 2, none⟩ = some (.int .i64 s2) ∧ w'.cell? ⟨b4, 3, none⟩ = some (.int .i64 s3) ∧ w'.cell? ⟨b4, 4, none⟩ = some (.int .i64 s4) ∧ w'.cell? ⟨b3, 0, none⟩ = some (.int .i64 a) ∧ w'.cell? ⟨b3, 1, none⟩ = some (.int .i64 c) ∧ w'.cell? ⟨b2, 0, none⟩ = some (.int .i64 m0) ∧ w'.cell? ⟨b2, 1, none⟩ = some (.int .i64 m1) ∧ w'.cell? ⟨b2, 2, none⟩ = some (.int .i64 m2) ∧ w'.cell? ⟨b2, 3, none⟩ = some (.int .i64 m3) ∧ w'.cell? ⟨b2, 4, none⟩ = some (.int .i64 f) ∧ w'.cell? ⟨b1, 0, none⟩ = some (.int .i64 n0) ∧ w'.cell? ⟨b1, 1, none⟩ = some (.int .i64 n1) ∧ w'.cell? ⟨b1, 2, none⟩ = some (.int .i64 n2) ∧ w'.cell? ⟨b1, 3, none⟩ = some (.int .i64 n3) ∧ w'.cell? ⟨b1, 4, none⟩ = some (.int .i64 d) := ⟨h.c (b4, 0, .int .i64 s0) (by simp), h.c (b4, 1, .int .i64 s1) (by simp), h.c (b4, 2, .int .i64 s2) (by simp), h.c (b4, 3, .int .i64 s3) (by simp), h.c (b4, 4, .int .i64 s4) (by simp), h.c (b3, 0, .int .i64 a) (by simp), h.c (b3, 1, .int .i64 c) (by simp), h.c (b2, 0, .int .i64 m0) (by simp), h.c (b2, 1, .int .i64 m1) (by simp), h.c (b2, 2, .int .i64 m2) (by simp), h.c (b2, 3, .int .i64 m3) (by simp), h.c (b2, 4, .int .i64 f) (by simp), h.c (b1, 0, .int .i64 n0) (by simp), h.c (b1, 1, .int .i64 n1) (by simp), h.c (b1, 2, .int .i64 n2) (by simp), h.c (b1, 3, .int .i64 n3) (by simp), h.c (b1, 4, .int .i64 d) (by simp)⟩
theorem K_H4.zs {n0 n1 n2 n3 d m0 m1 m2 m3 f a c s0 s1 s2 s3 s4 : Int} {b1 b2 b3 b4 : Nat} {w w' : World} (h : K_H4 n0 n1 n2 n3 d m0 m1 m2 m3 f a c s0 s1 s2 s3 s4 b1 b2 b3 b4 w w') : b4 < w'.heap.size ∧ b3 < w'.heap.size ∧ b2 < w'.heap.size ∧ b1 < w'.heap.size ∧ True := ⟨KL.z h (x := (b4, 0, .int .i64 s0)) (by simp), KL.z h (x := (b3, 0, .int .i64 a)) (by simp), KL.z h (x := (b2, 0, .int .i64 m0)) (by simp), KL.z h (x := (b1, 0, .int .i64 n0)) (by simp), trivial⟩
theorem K_H4.ks {n0 n1 n2 n3 d m0 m1 m2 m3 f a c s0 s1 s2 s3 s4 : Int} {b1 b2 b3 b4 : Nat} {w w' : World} (h : K_H4 n0 n1 n2 n3 d m0 m1 m2 m3 f a c s0 s1 s2 s3 s4 b1 b2 b3 b4 w w') : (w'.cell? ⟨b4, 0, none⟩ = some (.int .i64 s0) ∧ w'.cell? ⟨b4, 1, none⟩ = some (.int .i64 s1) ∧ w'.cell? ⟨b4, 2, none⟩ = some (.int .i64 s2) ∧ w'.cell? ⟨b4, 3, none⟩ = some (.int .i64 s3) ∧ w'.cell? ⟨b4, 4, none⟩ = some (.int .i64 s4) ∧ w'.cell? ⟨b3, 0, none⟩ = some (.int .i64 a) ∧ w'.cell? ⟨b3, 1, none⟩ = some (.int .i64 c) ∧ w'.cell? ⟨b2, 0, none⟩ = some (.int .i64 m0) ∧ w'.cell? ⟨b2, 1, none⟩ = some (.int .i64 m1) ∧ w'.cell? ⟨b2, 2, none⟩ = some (.int .i64 m2) ∧ w'.cell? ⟨b2, 3, none⟩ = some (.int .i64 m3) ∧ w'.cell? ⟨b2, 4, none⟩ = some (.int .i64 f) ∧ w'.cell? ⟨b1, 0, none⟩ = some (.int .i64 n0) ∧ w'.cell? ⟨b1, 1, none⟩ = some (.int .i64 n1) ∧ w'.cell? ⟨b1, 2, none⟩ = some (.int .i64 n2) ∧ w'.cell? ⟨b1, 3, none⟩ = some (.int .i64 n3) ∧ w'.cell? ⟨b1, 4, none⟩ = some (.int .i64 d)) ∧ K_H4 n0 n1 n2 n3 d m0 m1 m2 m3 f a c s0 s1 s2 s3 s4 b1 b2 b3 b4 w w' := ⟨h.cells, h⟩
/-- what a walk keeps: cells, and that nothing that was there has turned -/
def K_H5 (n0 n1 n2 n3 d m0 m1 m2 m3 f a c s0 s1 s2 s3 s4 t0 t1 t2 t3 t4 : Int) (b1 b2 b3 b4 b5 : Nat) (w w' : World) : Prop := KL w [(b5, 0, .int .i64 t0), (b5, 1, .int .i64 t1), (b5, 2, .int .i64 t2), (b5, 3, .int .i64 t3), (b5, 4, .int .i64 t4), (b4, 0, .int .i64 s0), (b4, 1, .int .i64 s1), (b4, 2, .int .i64 s2), (b4, 3, .int .i64 s3), (b4, 4, .int .i64 s4), (b3, 0, .int .i64 a), (b3, 1, .int .i64 c), (b2, 0, .int .i64 m0), (b2, 1, .int .i64 m1), (b2, 2, .int .i64 m2), (b2, 3, .int .i64 m3), (b2, 4, .int .i64 f), (b1, 0, .int .i64 n0), (b1, 1, .int .i64 n1), (b1, 2, .int .i64 n2), (b1, 3, .int .i64 n3), (b1, 4, .int .i64 d)] [] w'
theorem K_H5.below {n0 n1 n2 n3 d m0 m1 m2 m3 f a c s0 s1 s2 s3 s4 t0 t1 t2 t3 t4 : Int} {b1 b2 b3 b4 b5 : Nat} {w w1 w2 : World} (hb : Below w1.heap.size w1 w2) (h : K_H5 n0 n1 n2 n3 d m0 m1 m2 m3 f a c s0 s1 s2 s3 s4 t0 t1 t2 t3 t4 b1 b2 b3 b4 b5 w w1) : K_H5 n0 n1 n2 n3 d m0 m1 m2 m3 f a c s0 s1 s2 s3 s4 t0 t1 t2 t3 t4 b1 b2 b3 b4 b5 w w2 := KL.below hb h
theorem K_H5.draws {n0 n1 n2 n3 d m0 m1 m2 m3 f a c s0 s1 s2 s3 s4 t0 t1 t2 t3 t4 : Int} {b1 b2 b3 b4 b5 : Nat} {w w1 : World} (n : Nat) (h : K_H5 n0 n1 n2 n3 d m0 m1 m2 m3 f a c s0 s1 s2 s3 s4 t0 t1 t2 t3 t4 b1 b2 b3 b4 b5 w w1) : K_H5 n0 n1 n2 n3 d m0 m1 m2 m3 f a c s0 s1 s2 s3 s4 t0 t1 t2 t3 t4 b1 b2 b3 b4 b5 w (w1.drewN n) := KL.draws n h
theorem K_H5.drew {n0 n1 n2 n3 d m0 m1 m2 m3 f a c s0 s1 s2 s3 s4 t0 t1 t2 t3 t4 : Int} {b1 b2 b3 b4 b5 : Nat} {w w1 : World} (h : K_H5 n0 n1 n2 n3 d m0 m1 m2 m3 f a c s0 s1 s2 s3 s4 t0 t1 t2 t3 t4 b1 b2 b3 b4 b5 w w1) : K_H5 n0 n1 n2 n3 d m0 m1 m2 m3 f a c s0 s1 s2 s3 s4 t0 t1 t2 t3 t4 b1 b2 b3 b4 b5 w w1.drew := KL.draws 1 h
theorem K_H5.alloc {n0 n1 n2 n3 d m0 m1 m2 m3 f a c s0 s1 s2 s3 s4 t0 t1 t2 t3 t4 : Int} {b1 b2 b3 b4 b5 : Nat} {w w1 : World} (o : Obj) (h : K_H5 n0 n1 n2 n3 d m0 m1 m2 m3 f a c s0 s1 s2 s3 s4 t0 t1 t2 t3 t4 b1 b2 b3 b4 b5 w w1) : K_H5 n0 n1 n2 n3 d m0 m1 m2 m3 f a c s0 s1 s2 s3 s4 t0 t1 t2 t3 t4 b1 b2 b3 b4 b5 w (w1.alloc o) := KL.alloc o h
theorem K_H5.set {n0 n1 n2 n3 d m0 m1 m2 m3 f a c s0 s1 s2 s3 s4 t0 t1 t2 t3 t4 : Int} {b1 b2 b3 b4 b5 : Nat} {w w1 : World} (h : K_H5 n0 n1 n2 n3 d m0 m1 m2 m3 f a c s0 s1 s2 s3 s4 t0 t1 t2 t3 t4 b1 b2 b3 b4 b5 w w1) (b i : Nat) (v : Value) (hb : b ≠ b5 ∧ b ≠ b4 ∧ b ≠ b3 ∧ b ≠ b2 ∧ b ≠ b1 ∧ w.heap.size ≤ b) : K_H5 n0 n1 n2 n3 d m0 m1 m2 m3 f a c s0 s1 s2 s3 s4 t0 t1 t2 t3 t4 b1 b2 b3 b4 b5 w (w1.setCell ⟨b, i, none⟩ v) :=
  KL.set h b i v (by intro x hx; simp only [List.mem_cons, List.not_mem_nil, or_false] at hx; rcases hx with rfl | rfl | rfl | rfl | rfl | rfl | rfl | rfl | rfl | rfl | rfl | rfl | rfl | rfl | rfl | rfl | rfl | rfl | rfl | rfl | rfl | rfl <;> simp only [] <;> omega) (by omega)
theorem K_H5.bel {n0 n1 n2 n3 d m0 m1 m2 m3 f a c s0 s1 s2 s3 s4 t0 t1 t2 t3 t4 : Int} {b1 b2 b3 b4 b5 : Nat} {w w1 : World} (h : K_H5 n0 n1 n2 n3 d m0 m1 m2 m3 f a c s0 s1 s2 s3 s4 t0 t1 t2 t3 t4 b1 b2 b3 b4 b5 w w1) : Below w.heap.size w w1 := KL.bel h
theorem K_H5.cells {n0 n1 n2 n3 d m0 m1 m2 m3 f a c s0 s1 s2 s3 s4 t0 t1 t2 t3 t4 : Int} {b1 b2 b3 b4 b5 : Nat} {w w' : World} (h : K_H5 n0 n1 n2 n3 d m0 m1 m2 m3 f a c s0 s1 s2 s3 s4 t0 t1 t2 t3 t4 b1 b2 b3 b4 b5 w w') : w'.cell? ⟨b5, 0, none⟩ = some (.int .i64 t0) ∧ w'.cell? ⟨b5, 1, none⟩ = some (.int .i64 t1) ∧ w'.cell? ⟨b5, 2, none⟩ = some (.int .i64 t2) ∧ w'.cell? ⟨b5, 3, none⟩ = some (.int .i64 t3) ∧ w'.cell? ⟨b5, 4, none⟩ = some (.int .i64 t4) ∧ w'.cell? ⟨b4, 0, none⟩ = some (.int .i64 s0) ∧ w'.cell? ⟨b4, 1, none⟩ = some (.int .i64 s1) ∧ w'.cell? ⟨b4, 2, none⟩ = some (.int .i64 s2) ∧ w'.cell? ⟨b4, 3, none⟩ = some (.int .i64 s3) ∧ w'.cell? ⟨b4, 4, none⟩ = some (.int .i64 s4) ∧ w'.cell? ⟨b3, 0, none⟩ = some (.int .i64 a) ∧ w'.cell? ⟨b3, 1, none⟩ = some (.int .i64 c) ∧ w'.cell? ⟨b2, 0, none⟩ = some (.int .i64 m0) ∧ w'.cell? ⟨b2, 1, none⟩ = some (.int .i64 m1) ∧ w'.cell? ⟨b2, 2, none⟩ = some (.int .i64 m2) ∧ w'.cell? ⟨b2, 3, none⟩ = some (.int .i64 m3) ∧ w'.cell? ⟨b2, 4, none⟩ = some (.int .i64 f) ∧ w'.cell? ⟨b1, 0, none⟩ = some (.int .i64 n0) ∧ w'.cell? ⟨b1, 1, none⟩ = some (.int .i64 n1) ∧ w'.cell? ⟨b1, 2, none⟩ = some (.int .i64 n2) ∧ w'.cell? ⟨b1, 3, none⟩ = some (.int .i64 n3) ∧ w'.cell? ⟨b1, 4, none⟩ = some (.int .i64 d) := ⟨h.c (b5, 0, .int .i64 t0) (by simp), h.c (b5, 1, .int .i64 t1) (by simp), h.c (b5, 2, .int .i64 t2) (by simp), h.c (b5, 3, .int .i64 t3) (by simp), h.c (b5, 4, .int .i64 t4) (by simp), h.c (b4, 0, .int .i64 s0) (by simp), h.c (b4, 1, .int .i64 s1) (by simp), h.c (b4, 2, .int .i64 s2) (by simp), h.c (b4, 3, .int .i64 s3) (by simp), h.c (b4, 4, .int .i64 s4) (by simp), h.c (b3, 0, .int .i64 a) (by simp), h.c (b3, 1, .int .i64 c) (by simp), h.c (b2, 0, .int .i64 m0) (by simp), h.c (b2, 1, .int .i64 m1) (by simp), h.c (b2, 2, .int .i64 m2) (by simp), h.c (b2, 3, .int .i64 m3) (by simp), h.c (b2, 4, .int .i64 f) (by simp), h.c (b1, 0, .int .i64 n0) (by simp), h.c (b1, 1, .int .i64 n1) (by simp), h.c (b1, 2, .int .i64 n2) (by simp), h.c (b1, 3, .int .i64 n3) (by simp), h.c (b1, 4, .int .i64 d) (by simp)⟩
theorem K_H5.zs {n0 n1 n2 n3 d m0 m1 m2 m3 f a c s0 s1 s2 s3 s4 t0 t1 t2 t3 t4 : Int} {b1 b2 b3 b4 b5 : Nat} {w w' : World} (h : K_H5 n0 n1 n2 n3 d m0 m1 m2 m3 f a c s0 s1 s2 s3 s4 t0 t1 t2 t3 t4 b1 b2 b3 b4 b5 w w') : b5 < w'.heap.size ∧ b4 < w'.heap.size ∧ b3 < w'.heap.size ∧ b2 < w'.heap.size ∧ b1 < w'.heap.size ∧ True := ⟨KL.z h (x := (b5, 0, .int .i64 t0)) (by simp), KL.z h (x := (b4, 0, .int .i64 s0)) (by simp), KL.z h (x := (b3, 0, .int .i64 a)) (by simp), KL.z h (x := (b2, 0, .int .i64 m0)) (by simp), KL.z h (x := (b1, 0, .int .i64 n0)) (by simp), trivial⟩
theorem K_H5.ks {n0 n1 n2 n3 d m0 m1 m2 m3 f a c s0 s1 s2 s3 s4 t0 t1 t2 t3 t4 : Int} {b1 b2 b3 b4 b5 : Nat} {w w' : World} (h : K_H5 n0 n1 n2 n3 d m0 m1 m2 m3 f a c s0 s1 s2 s3 s4 t0 t1 t2 t3 t4 b1 b2 b3 b4 b5 w w') : (w'.cell? ⟨b5, 0, none⟩ = some (.int .i64 t0) ∧ w'.cell? ⟨b5, 1, none⟩ = some (.int .i64 t1) ∧ w'.cell? ⟨b5, 2, none⟩ = some (.int .i64 t2) ∧ w'.cell? ⟨b5, 3, none⟩ = some (.int .i64 t3) ∧ w'.cell? ⟨b5, 4, none⟩ = some (.int .i64 t4) ∧ w'.cell? ⟨b4, 0, none⟩ = some (.int .i64 s0) ∧ w'.cell? ⟨b4, 1, none⟩ = some (.int .i64 s1) ∧ w'.cell? ⟨b4, 2, none⟩ = some (.int .i64 s2) ∧ w'.cell? ⟨b4, 3, none⟩ = some (.int .i64 s3) ∧ w'.cell? ⟨b4, 4, none⟩ = some (.int .i64 s4) ∧ w'.cell? ⟨b3, 0, none⟩ = some (.int .i64 a) ∧ w'.cell? ⟨b3, 1, none⟩ = some (.int .i64 c) ∧ w'.cell? ⟨b2, 0, none⟩ = some (.int .i64 m0) ∧ w'.cell? ⟨b2, 1, none⟩ = some (.int .i64 m1) ∧ w'.cell? ⟨b2, 2, none⟩ = some (.int .i64 m2) ∧ w'.cell? ⟨b2, 3, none⟩ = some (.int .i64 m3) ∧ w'.cell? ⟨b2, 4, none⟩ = some (.int .i64 f) ∧ w'.cell? ⟨b1, 0, none⟩ = some (.int .i64 n0) ∧ w'.cell? ⟨b1, 1, none⟩ = some (.int .i64 n1) ∧ w'.cell? ⟨b1, 2, none⟩ = some (.int .i64 n2) ∧ w'.cell? ⟨b1, 3, none⟩ = some (.int .i64 n3) ∧ w'.cell? ⟨b1, 4, none⟩ = some (.int .i64 d)) ∧ K_H5 n0 n1 n2 n3 d m0 m1 m2 m3 f a c s0 s1 s2 s3 s4 t0 t1 t2 t3 t4 b1 b2 b3 b4 b5 w w' := ⟨h.cells, h⟩
/-- what a walk keeps: cells, and that nothing that was there has turned -/
def K_H6 (n0 n1 n2 n3 d m0 m1 m2 m3 f a c s0 s1 s2 s3 s4 t0 t1 t2 t3 t4 u0 u1 u2 u3 u4 : Int) (b1 b2 b3 b4 b5 b6 : Nat) (w w' : World) : Prop := KL w [(b6, 0, .int .i64 u0), (b6, 1, .int .i64 u1), (b6, 2, .int .i64 u2), (b6, 3, .int .i64 u3), (b6, 4, .int .i64 u4), (b5, 0, .int .i64 t0), (b5, 1, .int .i64 t1), (b5, 2, .int .i64 t2), (b5, 3, .int .i64 t3), (b5, 4, .int .i64 t4), (b4, 0, .int .i64 s0), (b4, 1, .int .i64 s1), (b4, 2, .int .i64 s2), (b4, 3, .int .i64 s3), (b4, 4, .int .i64 s4), (b3, 0, .int .i64 a), (b3, 1, .int .i64 c), (b2, 0, .int .i64 m0), (b2, 1, .int .i64 m1), (b2, 2, .int .i64 m2), (b2, 3, .int .i64 m3), (b2, 4, .int .i64 f), (b1, 0, .int .i64 n0), (b1, 1, .int .i64 n1), (b1, 2, .int .i64 n2), (b1, 3, .int .i64 n3), (b1, 4, .int .i64 d)] [] w'
theorem K_H6.below {n0 n1 n2 n3 d m0 m1 m2 m3 f a c s0 s1 s2 s3 s4 t0 t1 t2 t3 t4 u0 u1 u2 u3 u4 : Int} {b1 b2 b3 b4 b5 b6 : Nat} {w w1 w2 : World} (hb : Below w1.heap.size w1 w2) (h : K_H6 n0 n1 n2 n3 d m0 m1 m2 m3 f a c s0 s1 s2 s3 s4 t0 t1 t2 t3 t4 u0 u1 u2 u3 u4 b1 b2 b3 b4 b5 b6 w w1) : K_H6 n0 n1 n2 n3 d m0 m1 m2 m3 f a c s0 s1 s2 s3 s4 t0 t1 t2 t3 t4 u0 u1 u2 u3 u4 b1 b2 b3 b4 b5 b6 w w2 := KL.below hb h
theorem K_H6.draws {n0 n1 n2 n3 d m0 m1 m2 m3 f a c s0 s1 s2 s3 s4 t0 t1 t2 t3 t4 u0 u1 u2 u3 u4 : Int} {b1 b2 b3 b4 b5 b6 : Nat} {w w1 : World} (n : Nat) (h : K_H6 n0 n1 n2 n3 d m0 m1 m2 m3 f a c s0 s1 s2 s3 s4 t0 t1 t2 t3 t4 u0 u1 u2 u3 u4 b1 b2 b3 b4 b5 b6 w w1) : K_H6 n0 n1 n2 n3 d m0 m1 m2 m3 f a c s0 s1 s2 s3 s4 t0 t1 t2 t3 t4 u0 u1 u2 u3 u4 b1 b2 b3 b4 b5 b6 w (w1.drewN n) := KL.draws n h
theorem K_H6.drew {n0 n1 n2 n3 d m0 m1 m2 m3 f a c s0 s1 s2 s3 s4 t0 t1 t2 t3 t4 u0 u1 u2 u3 u4 : Int} {b1 b2 b3 b4 b5 b6 : Nat} {w w1 : World} (h : K_H6 n0 n1 n2 n3 d m0 m1 m2 m3 f a c s0 s1 s2 s3 s4 t0 t1 t2 t3 t4 u0 u1 u2 u3 u4 b1 b2 b3 b4 b5 b6 w w1) : K_H6 n0 n1 n2 n3 d m0 m1 m2 m3 f a c s0 s1 s2 s3 s4 t0 t1 t2 t3 t4 u0 u1 u2 u3 u4 b1 b2 b3 b4 b5 b6 w w1.drew := KL.draws 1 h
theorem K_H6.alloc {n0 n1 n2 n3 d m0 m1 m2 m3 f a c s0 s1 s2 s3 s4 t0 t1 t2 t3 t4 u0 u1 u2 u3 u4 : Int} {b1 b2 b3 b4 b5 b6 : Nat} {w w1 : World} (o : Obj) (h : K_H6 n0 n1 n2 n3 d m0 m1 m2 m3 f a c s0 s1 s2 s3 s4 t0 t1 t2 t3 t4 u0 u1 u2 u3 u4 b1 b2 b3 b4 b5 b6 w w1) : K_H6 n0 n1 n2 n3 d m0 m1 m2 m3 f a c s0 s1 s2 s3 s4 t0 t1 t2 t3 t4 u0 u1 u2 u3 u4 b1 b2 b3 b4 b5 b6 w (w1.alloc o) := KL.alloc o h
theorem K_H6.set {n0 n1 n2 n3 d m0 m1 m2 m3 f a c s0 s1 s2 s3 s4 t0 t1 t2 t3 t4 u0 u1 u2 u3 u4 : Int} {b1 b2 b3 b4 b5 b6 : Nat} {w w1 : World} (h : K_H6 n0 n1 n2 n3 d m0 m1 m2 m3 f a c s0 s1 s2 s3 s4 t0 t1 t2 t3 t4 u0 u1 u2 u3 u4 b1 b2 b3 b4 b5 b6 w w1) (b i : Nat) (v : Value) (hb : b ≠ b6 ∧ b ≠ b5 ∧ b ≠ b4 ∧ b ≠ b3 ∧ b ≠ b2 ∧ b ≠ b1 ∧ w.heap.size ≤ b) : K_H6 n0 n1 n2 n3 d m0 m1 m2 m3 f a c s0 s1 s2 s3 s4 t0 t1 t2 t3 t4 u0 u1 u2 u3 u4 b1 b2 b3 b4 b5 b6 w (w1.setCell ⟨b, i, none⟩ v) :=
  KL.set h b i v (by intro x hx; simp only [List.mem_cons, List.not_mem_nil, or_false] at hx; rcases hx with rfl | rfl | rfl | rfl | rfl | rfl | rfl | rfl | rfl | rfl | rfl | rfl | rfl | rfl | rfl | rfl | rfl | rfl | rfl | rfl | rfl | rfl | rfl | rfl | rfl | rfl | rfl <;> simp only [] <;> omega) (by omega)
theorem K_H6.bel {n0 n1 n2 n3 d m0 m1 m2 m3 f a c s0 s1 s2 s3 s4 t0 t1 t2 t3 t4 u0 u1 u2 u3 u4 : Int} {b1 b2 b3 b4 b5 b6 : Nat} {w w1 : World} (h : K_H6 n0 n1 n2 n3 d m0 m1 m2 m3 f a c s0 s1 s2 s3 s4 t0 t1 t2 t3 t4 u0 u1 u2 u3 u4 b1 b2 b3 b4 b5 b6 w w1) : Below w.heap.size w w1 := KL.bel h
theorem K_H6.cells {n0 n1 n2 n3 d m0 m1 m2 m3 f a c s0 s1 s2 s3 s4 t0 t1 t2 t3 t4 u0 u1 u2 u3 u4 : Int} {b1 b2 b3 b4 b5 b6 : Nat} {w w' : World} (h : K_H6 n0 n1 n2 n3 d m0 m1 m2 m3 f a c s0 s1 s2 s3 s4 t0 t1 t2 t3 t4 u0 u1 u2 u3 u4 b1 b2 b3 b4 b5 b6 w w') : w'.cell? ⟨b6, 0, none⟩ = some (.int .i64 u0) ∧ w'.cell? ⟨b6, 1, none⟩ = some (.int .i64 u1) ∧ w'.cell? ⟨b6, 2, none⟩ = some (.int .i64 u2) ∧ w'.cell? ⟨b6, 3, none⟩ = some (.int .i64 u3) ∧ w'.cell? ⟨b6, 4, none⟩ = some (.int .i64 u4) ∧ w'.cell? ⟨b5, 0, none⟩ = some (.int .i64 t0) ∧ w'.cell? ⟨b5, 1, none⟩ = some (.int .i64 t1) ∧ w'.cell? ⟨b5, 2, none⟩ = some (.int .i64 t2) ∧ w'.cell? ⟨b5, 3, none⟩ = some (.int .i64 t3) ∧ w'.cell? ⟨b5, 4, none⟩ = some (.int .i64 t4) ∧ w'.cell? ⟨b4, 0, none⟩ = some (.int .i64 s0) ∧ w'.cell? ⟨b4, 1, none⟩ = some (.int .i64 s1) ∧ w'.cell? ⟨b4, 2, none⟩ = some (.int .i64 s2) ∧ w'.cell? ⟨b4, 3, none⟩ = some (.int .i64 s3) ∧ w'.cell? ⟨b4, 4, none⟩ = some (.int .i64 s4) ∧ w'.cell? ⟨b3, 0, none⟩ = some (.int .i64 a) ∧ w'.cell? ⟨b3, 1, none⟩ = some (.int .i64 c) ∧ w'.cell? ⟨b2, 0, none⟩ = some (.int .i64 m0) ∧ w'.cell? ⟨b2, 1, none⟩ = some (.int .i64 m1) ∧ w'.cell? ⟨b2, 2, none⟩ = some (.int .i64 m2) ∧ w'.cell? ⟨b2, 3, none⟩ = some (.int .i64 m3) ∧ w'.cell? ⟨b2, 4, none⟩ = some (.int .i64 f) ∧ w'.cell? ⟨b1, 0, none⟩ = some (.int .i64 n0) ∧ w'.cell? ⟨b1, 1, none⟩ = some (.int .i64 n1) ∧ w'.cell? ⟨b1, 2, none⟩ = some (.int .i64 n2) ∧ w'.cell? ⟨b1, 3, none⟩ = some (.int .i64 n3) ∧ w'.cell? ⟨b1, 4, none⟩ = some (.int .i64 d) := ⟨h.c (b6, 0, .int .i64 u0) (by simp), h.c (b6, 1, .int .i64 u1) (by simp), h.c (b6, 2, .int .i64 u2) (by simp), h.c (b6, 3, .int .i64 u3) (by simp), h.c (b6, 4, .int .i64 u4) (by simp), h.c (b5, 0, .int .i64 t0) (by simp), h.c (b5, 1, .int .i64 t1) (by simp), h.c (b5, 2, .int .i64 t2) (by simp), h.c (b5, 3, .int .i64 t3) (by simp), h.c (b5, 4, .int .i64 t4) (by simp), h.c (b4, 0, .int .i64 s0) (by simp), h.c (b4, 1, .int .i64 s1) (by simp), h.c (b4, 2, .int .i64 s2) (by simp), h.c (b4, 3, .int .i64 s3) (by simp), h.c (b4, 4, .int .i64 s4) (by simp), h.c (b3, 0, .int .i64 a) (by simp), h.c (b3, 1, .int .i64 c) (by simp), h.c (b2, 0, .int .i64 m0) (by simp), h.c (b2, 1, .int .i64 m1) (by simp), h.c (b2, 2, .int .i64 m2) (by simp), h.c (b2, 3, .int .i64 m3) (by simp), h.c (b2, 4, .int .i64 f) (by simp), h.c (b1, 0, .int .i64 n0) (by simp), h.c (b1, 1, .int .i64 n1) (by simp), h.c (b1, 2, .int .i64 n2) (by simp), h.c (b1, 3, .int .i64 n3) (by simp), h.c (b1, 4, .int .i64 d) (by simp)⟩
theorem K_H6.zs {n0 n1 n2 n3 d m0 m1 m2 m3 f a c s0 s1 s2 s3 s4 t0 t1 t2 t3 t4 u0 u1 u2 u3 u4 : Int} {b1 b2 b3 b4 b5 b6 : Nat} {w w' : World} (h : K_H6 n0 n1 n2 n3 d m0 m1 m2 m3 f a c s0 s1 s2 s3 s4 t0 t1 t2 t3 t4 u0 u1 u2 u3 u4 b1 b2 b3 b4 b5 b6 w w') : b6 < w'.heap.size ∧ b5 < w'.heap.size ∧ b4 < w'.heap.size ∧ b3 < w'.heap.size ∧ b2 < w'.heap.size ∧ b1 < w'.heap.size ∧ True := ⟨KL.z h (x := (b6, 0, .int .i64 u0)) (by simp), KL.z h (x := (b5, 0, .int .i64 t0)) (by simp), KL.z h (x := (b4, 0, .int .i64 s0)) (by simp), KL.z h (x := (b3, 0, .int .i64 a)) (by simp), KL.z h (x := (b2, 0, .int .i64 m0)) (by simp), KL.z h (x := (b1, 0, .int .i64 n0)) (by simp), trivial⟩
theorem K_H6.ks {n0 n1 n2 n3 d m0 m1 m2 m3 f a c s0 s1 s2 s3 s4 t0 t1 t2 t3 t4 u0 u1 u2 u3 u4 : Int} {b1 b2 b3 b4 b5 b6 : Nat} {w w' : World} (h : K_H6 n0 n1 n2 n3 d m0 m1 m2 m3 f a c s0 s1 s2 s3 s4 t0 t1 t2 t3 t4 u0 u1 u2 u3 u4 b1 b2 b3 b4 b5 b6 w w') : (w'.cell? ⟨b6, 0, none⟩ = some (.int .i64 u0) ∧ w'.cell? ⟨b6, 1, none⟩ = some (.int .i64 u1) ∧ w'.cell? ⟨b6, 2, none⟩ = some (.int .i64 u2) ∧ w'.cell? ⟨b6, 3, none⟩ = some (.int .i64 u3) ∧ w'.cell? ⟨b6, 4, none⟩ = some (.int .i64 u4) ∧ w'.cell? ⟨b5, 0, none⟩ = some (.int .i64 t0) ∧ w'.cell? ⟨b5, 1, none⟩ = some (.int .i64 t1) ∧ w'.cell? ⟨b5, 2, none⟩ = some (.int .i64 t2) ∧ w'.cell? ⟨b5, 3, none⟩ = some (.int .i64 t3) ∧ w'.cell? ⟨b5, 4, none⟩ = some (.int .i64 t4) ∧ w'.cell? ⟨b4, 0, none⟩ = some (.int .i64 s0) ∧ w'.cell? ⟨b4, 1, none⟩ = some (.int .i64 s1) ∧ w'.cell? ⟨b4, 2, none⟩ = some (.int .i64 s2) ∧ w'.cell? ⟨b4, 3, none⟩ = some (.int .i64 s3) ∧ w'.cell? ⟨b4, 4, none⟩ = some (.int .i64 s4) ∧ w'.cell? ⟨b3, 0, none⟩ = some (.int .i64 a) ∧ w'.cell? ⟨b3, 1, none⟩ = some (.int .i64 c) ∧ w'.cell? ⟨b2, 0, none⟩ = some (.int .i64 m0) ∧ w'.cell? ⟨b2, 1, none⟩ = some (.int .i64 m1) ∧ w'.cell? ⟨b2, 2, none⟩ = some (.int .i64 m2) ∧ w'.cell? ⟨b2, 3, none⟩ = some (.int .i64 m3) ∧ w'.cell? ⟨b2, 4, none⟩ = some (.int .i64 f) ∧ w'.cell? ⟨b1, 0, none⟩ = some (.int .i64 n0) ∧ w'.cell? ⟨b1, 1, none⟩ = some (.int .i64 n1) ∧ w'.cell? ⟨b1, 2, none⟩ = some (.int .i64 n2) ∧ w'.cell? ⟨b1, 3, none⟩ = some (.int .i64 n3) ∧ w'.cell? ⟨b1, 4, none⟩ = some (.int .i64 d)) ∧ K_H6 n0 n1 n2 n3 d m0 m1 m2 m3 f a c s0 s1 s2 s3 s4 t0 t1 t2 t3 t4 u0 u1 u2 u3 u4 b1 b2 b3 b4 b5 b6 w w' := ⟨h.cells, h⟩
/-- what a walk keeps: cells, and that nothing that was there has turned -/
def K_H7 (n0 n1 n2 n3 d m0 m1 m2 m3 f a c s0 s1 s2 s3 s4 t0 t1 t2 t3 t4 u0 u1 u2 u3 u4 x0 x1 x2 x3 x4 : Int) (b1 b2 b3 b4 b5 b6 b7 : Nat) (w w' : World) : Prop := KL w [(b7, 0, .int .i64 x0), (b7, 1, .int .i64 x1), (b7, 2, .int .i64 x2), (b7, 3, .int .i64 x3), (b7, 4, .int .i64 x4), (b6, 0, .int .i64 u0), (b6, 1, .int .i64 u1), (b6, 2, .int .i64 u2), (b6, 3, .int .i64 u3), (b6, 4, .int .i64 u4), (b5, 0, .int .i64 t0), (b5, 1, .int .i64 t1), (b5, 2, .int .i64 t2), (b5, 3, .int .i64 t3), (b5, 4, .int .i64 t4), (b4, 0, .int .i64 s0), (b4, 1, .int .i64 s1), (b4, 2, .int .i64 s2), (b4, 3, .int .i64 s3), (b4, 4, .int .i64 s4), (b3, 0, .int .i64 a), (b3, 1, .int .i64 c), (b2, 0, .int .i64 m0), (b2, 1, .int .i64 m1), (b2, 2, .int .i64 m2), (b2, 3, .int .i64 m3), (b2, 4, .int .i64 f), (b1, 0, .int .i64 n0), (b1, 1, .int .i64 n1), (b1, 2, .int .i64 n2), (b1, 3, .int .i64 n3), (b1, 4, .int .i64 d)] [] w'
theorem K_H7.below {n0 n1 n2 n3 d m0 m1 m2 m3 f a c s0 s1 s2 s3 s4 t0 t1 t2 t3 t4 u0 u1 u2 u3 u4 x0 x1 x2 x3 x4 : Int} {b1 b2 b3 b4 b5 b6 b7 : Nat} {w w1 w2 : World} (hb : Below w1.heap.size w1 w2) (h : K_H7 n0 n1 n2 n3 d m0 m1 m2 m3 f a c s0 s1 s2 s3 s4 t0 t1 t2 t3 t4 u0 u1 u2 u3 u4 x0 x1 x2 x3 x4 b1 b2 b3 b4 b5 b6 b7 w w1) : K_H7 n0 n1 n2 n3 d m0 m1 m2 m3 f a c s0 s1 s2 s3 s4 t0 t1 t2 t3 t4 u0 u1 u2 u3 u4 x0 x1 x2 x3 x4 b1 b2 b3 b4 b5 b6 b7 w w2 := KL.below hb h
theorem K_H7.draws {n0 n1 n2 n3 d m0 m1 m2 m3 f a c s0 s1 s2 s3 s4 t0 t1 t2 t3 t4 u0 u1 u2 u3 u4 x0 x1 x2 x3 x4 : Int} {b1 b2 b3 b4 b5 b6 b7 : Nat} {w w1 : World} (n : Nat) (h : K_H7 n0 n1 n2 n3 d m0 m1 m2 m3 f a c s0 s1 s2 s3 s4 t0 t1 t2 t3 t4 u0 u1 u2 u3 u4 x0 x1 x2 x3 x4 b1 b2 b3 b4 b5 b6 b7 w w1) : K_H7 n0 n1 n2 n3 d m0 m1 m2 m3 f a c s0 s1 s2 s3 s4 t0 t1 t2 t3 t4 u0 u1 u2 u3 u4 x0 x1 x2 x3 x4 b1 b2 b3 b4 b5 b6 b7 w (w1.drewN n) := KL.draws n h
theorem K_H7.drew {n0 n1 n2 n3 d m0 m1 m2 m3 f a c s0 s1 s2 s3 s4 t0 t1 t2 t3 t4 u0 u1 u2 u3 u4 x0 x1 x2 x3 x4 : Int} {b1 b2 b3 b4 b5 b6 b7 : Nat} {w w1 : World} (h : K_H7 n0 n1 n2 n3 d m0 m1 m2 m3 f a c s0 s1 s2 s3 s4 t0 t1 t2 t3 t4 u0 u1 u2 u3 u4 x0 x1 x2 x3 x4 b1 b2 b3 b4 b5 b6 b7 w w1) : K_H7 n0 n1 n2 n3 d m0 m1 m2 m3 f a c s0 s1 s2 s3 s4 t0 t1 t2 t3 t4 u0 u1 u2 u3 u4 x0 x1 x2 x3 x4 b1 b2 b3 b4 b5 b6 b7 w w1.drew := KL.draws 1 h
theorem K_H7.alloc {n0 n1 n2 n3 d m0 m1 m2 m3 f a c s0 s1 s2 s3 s4 t0 t1 t2 t3 t4 u0 u1 u2 u3 u4 x0 x1 x2 x3 x4 : Int} {b1 b2 b3 b4 b5 b6 b7 : Nat} {w w1 : World} (o : Obj) (h : K_H7 n0 n1 n2 n3 d m0 m1 m2 m3 f a c s0 s1 s2 s3 s4 t0 t1 t2 t3 t4 u0 u1 u2 u3 u4 x0 x1 x2 x3 x4 b1 b2 b3 b4 b5 b6 b7 w w1) : K_H7 n0 n1 n2 n3 d m0 m1 m2 m3 f a c s0 s1 s2 s3 s4 t0 t1 t2 t3 t4 u0 u1 u2 u3 u4 x0 x1 x2 x3 x4 b1 b2 b3 b4 b5 b6 b7 w (w1.alloc o) := KL.alloc o h
theorem K_H7.set {n0 n1 n2 n3 d m0 m1 m2 m3 f a c s0 s1 s2 s3 s4 t0 t1 t2 t3 t4 u0 u1 u2 u3 u4 x0 x1 x2 x3 x4 : Int} {b1 b2 b3 b4 b5 b6 b7 : Nat} {w w1 : World} (h : K_H7 n0 n1 n2 n3 d m0 m1 m2 m3 f a c s0 s1 s2 s3 s4 t0 t1 t2 t3 t4 u0 u1 u2 u3 u4 x0 x1 x2 x3 x4 b1 b2 b3 b4 b5 b6 b7 w w1) (b i : Nat) (v : Value) (hb : b ≠ b7 ∧ b ≠ b6 ∧ b ≠ b5 ∧ b ≠ b4 ∧ b ≠ b3 ∧ b ≠ b2 ∧ b ≠ b1 ∧ w.heap.size ≤ b) : K_H7 n0 n1 n2 n3 d m0 m1 m2 m3 f a c s0 s1 s2 s3 s4 t0 t1 t2 t3 t4 u0 u1 u2 u3 u4 x0 x1 x2 x3 x4 b1 b2 b3 b4 b5 b6 b7 w (w1.setCell ⟨b, i, none⟩ v) :=
  KL.set h b i v (by intro x hx; simp only [List.mem_cons, List.not_mem_nil, or_false] at hx; rcases hx with rfl | rfl | rfl | rfl | rfl | rfl | rfl | rfl | rfl | rfl | rfl | rfl | rfl | rfl | rfl | rfl | rfl | rfl | rfl | rfl | rfl | rfl | rfl | rfl | rfl | rfl | rfl | rfl | rfl | rfl | rfl | rfl <;> simp only [] <;> omega) (by omega)
theorem K_H7.bel {n0 n1 n2 n3 d m0 m1 m2 m3 f a c s0 s1 s2 s3 s4 t0 t1 t2 t3 t4 u0 u1 u2 u3 u4 x0 x1 x2 x3 x4 : Int} {b1 b2 b3 b4 b5 b6 b7 : Nat} {w w1 : World} (h : K_H7 n0 n1 n2 n3 d m0 m1 m2 m3 f a c s0 s1 s2 s3 s4 t0 t1 t2 t3 t4 u0 u1 u2 u3 u4 x0 x1 x2 x3 x4 b1 b2 b3 b4 b5 b6 b7 w w1) : Below w.heap.size w w1 := KL.bel h
theorem K_H7.cells {n0 n1 n2 n3 d m0 m1 m2 m3 f a c s0 s1 s2 s3 s4 t0 t1 t2 t3 t4 u0 u1 u2 u3 u4 x0 x1 x2 x3 x4 : Int} {b1 b2 b3 b4 b5 b6 b7 : Nat} {w w' : World} (h : K_H7 n0 n1 n2 n3 d m0 m1 m2 m3 f a c s0 s1 s2 s3 s4 t0 t1 t2 t3 t4 u0 u1 u2 u3 u4 x0 x1 x2 x3 x4 b1 b2 b3 b4 b5 b6 b7 w w') : w'.cell? ⟨b7, 0, none⟩ = some (.int .i64 x0) ∧ w'.cell? ⟨b7, 1, none⟩ = some (.int .i64 x1) ∧ w'.cell? ⟨b7, 2, none⟩ = some (.int .i64 x2) ∧ w'.cell? ⟨b7, 3, none⟩ = some (.int .i64 x3) ∧ w'.cell? ⟨b7, 4, none⟩ = some (.int .i64 x4) ∧ w'.cell? ⟨b6, 0, none⟩ = some (.int .i64 u0) ∧ w'.cell? ⟨b6, 1, none⟩ = some (.int .i64 u1) ∧ w'.cell? ⟨b6, 2, none⟩ = some (.int .i64 u2) ∧ w'.cell? ⟨b6, 3, none⟩ = some (.int .i64 u3) ∧ w'.cell? ⟨b6, 4, none⟩ = some (.int .i64 u4) ∧ w'.cell? ⟨b5, 0, none⟩ = some (.int .i64 t0) ∧ w'.cell? ⟨b5, 1, none⟩ = some (.int .i64 t1) ∧ w'.cell? ⟨b5, 2, none⟩ = some (.int .i64 t2) ∧ w'.cell? ⟨b5, 3, none⟩ = some (.int .i64 t3) ∧ w'.cell? ⟨b5, 4, none⟩ = some (.int .i64 t4) ∧ w'.cell? ⟨b4, 0, none⟩ = some (.int .i64 s0) ∧ w'.cell? ⟨b4, 1, none⟩ = some (.int .i64 s1) ∧ w'.cell? ⟨b4, 2, none⟩ = some (.int .i64 s2) ∧ w'.cell? ⟨b4, 3, none⟩ = some (.int .i64 s3) ∧ w'.cell? ⟨b4, 4, none⟩ = some (.int .i64 s4) ∧ w'.cell? ⟨b3, 0, none⟩ = some (.int .i64 a) ∧ w'.cell? ⟨b3, 1, none⟩ = some (.int .i64 c) ∧ w'.cell? ⟨b2, 0, none⟩ = some (.int .i64 m0) ∧ w'.cell? ⟨b2, 1, none⟩ = some (.int .i64 m1) ∧ w'.cell? ⟨b2, 2, none⟩ = some (.int .i64 m2) ∧ w'.cell? ⟨b2, 3, none⟩ = some (.int .i64 m3) ∧ w'.cell? ⟨b2, 4, none⟩ = some (.int .i64 f) ∧ w'.cell? ⟨b1, 0, none⟩ = some (.int .i64 n0) ∧ w'.cell? ⟨b1, 1, none⟩ = some (.int .i64 n1) ∧ w'.cell? ⟨b1, 2, none⟩ = some (.int .i64 n2) ∧ w'.cell? ⟨b1, 3, none⟩ = some (.int .i64 n3) ∧ w'.cell? ⟨b1, 4, none⟩ = some (.int .i64 d) := ⟨h.c (b7, 0, .int .i64 x0) (by simp), h.c (b7, 1, .int .i64 x1) (by simp), h.c (b7, 2, .int .i64 x2) (by simp), h.c (b7, 3, .int .i64 x3) (by simp), h.c (b7, 4, .int .i64 x4) (by simp), h.c (b6, 0, .int .i64 u0) (by simp), h.c (b6, 1, .int .i64 u1) (by simp), h.c (b6, 2, .int .i64 u2) (by simp), h.c (b6, 3, .int .i64 u3) (by simp), h.c (b6, 4, .int .i64 u4) (by simp), h.c (b5, 0, .int .i64 t0) (by simp), h.c (b5, 1, .int .i64 t1) (by simp), h.c (b5, 2, .int .i64 t2) (by simp), h.c (b5, 3, .int .i64 t3) (by simp), h.c (b5, 4, .int .i64 t4) (by simp), h.c (b4, 0, .int .i64 s0) (by simp), h.c (b4, 1, .int .i64 s1) (by simp), h.c (b4, 2, .int .i64 s2) (by simp), h.c (b4, 3, .int .i64 s3) (by simp), h.c (b4, 4, .int .i64 s4) (by simp), h.c (b3, 0, .int .i64 a) (by simp), h.c (b3, 1, .int .i64 c) (by simp), h.c (b2, 0, .int .i64 m0) (by simp), h.c (b2, 1, .int .i64 m1) (by simp), h.c (b2, 2, .int .i64 m2) (by simp), h.c (b2, 3, .int .i64 m3) (by simp), h.c (b2, 4, .int .i64 f) (by simp), h.c (b1, 0, .int .i64 n0) (by simp), h.c (b1, 1, .int .i64 n1) (by simp), h.c (b1, 2, .int .i64 n2) (by simp), h.c (b1, 3, .int .i64 n3) (by simp), h.c (b1, 4, .int .i64 d) (by simp)⟩
theorem K_H7.zs {n0 n1 n2 n3 d m0 m1 m2 m3 f a c s0 s1 s2 s3 s4 t0 t1 t2 t3 t4 u0 u1 u2 u3 u4 x0 x1 x2 x3 x4 : Int} {b1 b2 b3 b4 b5 b6 b7 : Nat} {w w' : World} (h : K_H7 n0 n1 n2 n3 d m0 m1 m2 m3 f a c s0 s1 s2 s3 s4 t0 t1 t2 t3 t4 u0 u1 u2 u3 u4 x0 x1 x2 x3 x4 b1 b2 b3 b4 b5 b6 b7 w w') : b7 < w'.heap.size ∧ b6 < w'.heap.size ∧ b5 < w'.heap.size ∧ b4 < w'.heap.size ∧ b3 < w'.heap.size ∧ b2 < w'.heap.size ∧ b1 < w'.heap.size ∧ True := ⟨KL.z h (x := (b7, 0, .int .i64 x0)) (by simp), KL.z h (x := (b6, 0, .int .i64 u0)) (by simp), KL.z h (x := (b5, 0, .int .i64 t0)) (by simp), KL.z h (x := (b4, 0, .int .i64 s0)) (by simp), KL.z h (x := (b3, 0, .int .i64 a)) (by simp), KL.z h (x := (b2, 0, .int .i64 m0)) (by simp), KL.z h (x := (b1, 0, .int .i64 n0)) (by simp), trivial⟩
theorem K_H7.ks {n0 n1 n2 n3 d m0 m1 m2 m3 f a c s0 s1 s2 s3 s4 t0 t1 t2 t3 t4 u0 u1 u2 u3 u4 x0 x1 x2 x3 x4 : Int} {b1 b2 b3 b4 b5 b6 b7 : Nat} {w w' : World} (h : K_H7 n0 n1 n2 n3 d m0 m1 m2 m3 f a c s0 s1 s2 s3 s4 t0 t1 t2 t3 t4 u0 u1 u2 u3 u4 x0 x1 x2 x3 x4 b1 b2 b3 b4 b5 b6 b7 w w') : (w'.cell? ⟨b7, 0, none⟩ = some (.int .i64 x0) ∧ w'.cell? ⟨b7, 1, none⟩ = some (.int .i64 x1) ∧ w'.cell? ⟨b7, 2, none⟩ = some (.int .i64 x2) ∧ w'.cell? ⟨b7, 3, none⟩ = some (.int .i64 x3) ∧ w'.cell? ⟨b7, 4, none⟩ = some (.int .i64 x4) ∧ w'.cell? ⟨b6, 0, none⟩ = some (.int .i64 u0) ∧ w'.cell? ⟨b6, 1, none⟩ = some (.int .i64 u1) ∧ w'.cell? ⟨b6, 2, none⟩ = some (.int .i64 u2) ∧ w'.cell? ⟨b6, 3, none⟩ = some (.int .i64 u3) ∧ w'.cell? ⟨b6, 4, none⟩ = some (.int .i64 u4) ∧ w'.cell? ⟨b5, 0, none⟩ = some (.int .i64 t0) ∧ w'.cell? ⟨b5, 1, none⟩ = some (.int .i64 t1) ∧ w'.cell? ⟨b5, 2, none⟩ = some (.int .i64 t2) ∧ w'.cell? ⟨b5, 3, none⟩ = some (.int .i64 t3) ∧ w'.cell? ⟨b5, 4, none⟩ = some (.int .i64 t4) ∧ w'.cell? ⟨b4, 0, none⟩ = some (.int .i64 s0) ∧ w'.cell? ⟨b4, 1, none⟩ = some (.int .i64 s1) ∧ w'.cell? ⟨b4, 2, none⟩ = some (.int .i64 s2) ∧ w'.cell? ⟨b4, 3, none⟩ = some (.int .i64 s3) ∧ w'.cell? ⟨b4, 4, none⟩ = some (.int .i64 s4) ∧ w'.cell? ⟨b3, 0, none⟩ = some (.int .i64 a) ∧ w'.cell? ⟨b3, 1, none⟩ = some (.int .i64 c) ∧ w'.cell? ⟨b2, 0, none⟩ = some (.int .i64 m0) ∧ w'.cell? ⟨b2, 1, none⟩ = some (.int .i64 m1) ∧ w'.cell? ⟨b2, 2, none⟩ = some (.int .i64 m2) ∧ w'.cell? ⟨b2, 3, none⟩ = some (.int .i64 m3) ∧ w'.cell? ⟨b2, 4, none⟩ = some (.int .i64 f) ∧ w'.cell? ⟨b1, 0, none⟩ = some (.int .i64 n0) ∧ w'.cell? ⟨b1, 1, none⟩ = some (.int .i64 n1) ∧ w'.cell? ⟨b1, 2, none⟩ = some (.int .i64 n2) ∧ w'.cell? ⟨b1, 3, none⟩ = some (.int .i64 n3) ∧ w'.cell? ⟨b1, 4, none⟩ = some (.int .i64 d)) ∧ K_H7 n0 n1 n2 n3 d m0 m1 m2 m3 f a c s0 s1 s2 s3 s4 t0 t1 t2 t3 t4 u0 u1 u2 u3 u4 x0 x1 x2 x3 x4 b1 b2 b3 b4 b5 b6 b7 w w' := ⟨h.cells, h⟩
/-- what a walk keeps: cells, and that nothing that was there has turned -/
def K_H8 (n0 n1 n2 n3 d m0 m1 m2 m3 f a c s0 s1 s2 s3 s4 t0 t1 t2 t3 t4 u0 u1 u2 u3 u4 x0 x1 x2 x3 x4 v0 v1 v2 v3 v4 : Int) (b1 b2 b3 b4 b5 b6 b7 b8 : Nat) (w w' : World) : Prop := KL w [(b8, 0, .int .i64 v0), (b8, 1, .int .i64 v1), (b8, 2, .int .i64 v2), (b8, 3, .int .i64 v3), (b8, 4, .int .i64 v4), (b7, 0, .int .i64 x0), (b7, 1, .int .i64 x1), (b7, 2, .int .i64 x2), (b7, 3, .int .i64 x3), (b7, 4, .int .i64 x4), (b6, 0, .int .i64 u0), (b6, 1, .int .i64 u1), (b6, 2, .int .i64 u2), (b6, 3, .int .i64 u3), (b6, 4, .int .i64 u4), (b5, 0, .int .i64 t0), (b5, 1, .int .i64 t1), (b5, 2, .int .i64 t2), (b5, 3, .int .i64 t3), (b5, 4, .int .i64 t4), (b4, 0, .int .i64 s0), (b4, 1, .int .i64 s1), (b4, 2, .int .i64 s2), (b4, 3, .int .i64 s3), (b4, 4, .int .i64 s4), (b3, 0, .int .i64 a), (b3, 1, .int .i64 c), (b2, 0, .int .i64 m0), (b2, 1, .int .i64 m1), (b2, 2, .int .i64 m2), (b2, 3, .int .i64 m3), (b2, 4, .int .i64 f), (b1, 0, .int .i64 n0), (b1, 1, .int .i64 n1), (b1, 2, .int .i64 n2), (b1, 3, .int .i64 n3), (b1, 4, .int .i64 d)] [] w'
theorem K_H8.below {n0 n1 n2 n3 d m0 m1 m2 m3 f a c s0 s1 s2 s3 s4 t0 t1 t2 t3 t4 u0 u1 u2 u3 u4 x0 x1 x2 x3 x4 v0 v1 v2 v3 v4 : Int} {b1 b2 b3 b4 b5 b6 b7 b8 : Nat} {w w1 w2 : World} (hb : Below w1.heap.size w1 w2) (h : K_H8 n0 n1 n2 n3 d m0 m1 m2 m3 f a c s0 s1 s2 s3 s4 t0 t1 t2 t3 t4 u0 u1 u2 u3 u4 x0 x1 x2 x3 x4 v0 v1 v2 v3 v4 b1 b2 b3 b4 b5 b6 b7 b8 w w1) : K_H8 n0 n1 n2 n3 d m0 m1 m2 m3 f a c s0 s1 s2 s3 s4 t0 t1 t2 t3 t4 u0 u1 u2 u3 u4 x0 x1 x2 x3 x4 v0 v1 v2 v3 v4 b1 b2 b3 b4 b5 b6 b7 b8 w w2 := KL.below hb h
theorem K_H8.draws {n0 n1 n2 n3 d m0 m1 m2 m3 f a c s0 s1 s2 s3 s4 t0 t1 t2 t3 t4 u0 u1 u2 u3 u4 x0 x1 x2 x3 x4 v0 v1 v2 v3 v4 : Int} {b1 b2 b3 b4 b5 b6 b7 b8 : Nat} {w w1 : World} (n : Nat) (h : K_H8 n0 n1 n2 n3 d m0 m1 m2 m3 f a c s0 s1 s2 s3 s4 t0 t1 t2 t3 t4 u0 u1 u2 u3 u4 x0 x1 x2 x3 x4 v0 v1 v2 v3 v4 b1 b2 b3 b4 b5 b6 b7 b8 w w1) : K_H8 n0 n1 n2 n3 d m0 m1 m2 m3 f a c s0 s1 s2 s3 s4 t0 t1 t2 t3 t4 u0 u1 u2 u3 u4 x0 x1 x2 x3 x4 v0 v1 v2 v3 v4 b1 b2 b3 b4 b5 b6 b7 b8 w (w1.drewN n) := KL.draws n h
theorem K_H8.drew {n0 n1 n2 n3 d m0 m1 m2 m3 f a c s0 s1 s2 s3 s4 t0 t1 t2 t3 t4 u0 u1 u2 u3 u4 x0 x1 x2 x3 x4 v0 v1 v2 v3 v4 : Int} {b1 b2 b3 b4 b5 b6 b7 b8 : Nat} {w w1 : World} (h : K_H8 n0 n1 n2 n3 d m0 m1 m2 m3 f a c s0 s1 s2 s3 s4 t0 t1 t2 t3 t4 u0 u1 u2 u3 u4 x0 x1 x2 x3 x4 v0 v1 v2 v3 v4 b1 b2 b3 b4 b5 b6 b7 b8 w w1) : K_H8 n0 n1 n2 n3 d m0 m1 m2 m3 f a c s0 s1 s2 s3 s4 t0 t1 t2 t3 t4 u0 u1 u2 u3 u4 x0 x1 x2 x3 x4 v0 v1 v2 v3 v4 b1 b2 b3 b4 b5 b6 b7 b8 w w1.drew := KL.draws 1 h
theorem K_H8.alloc {n0 n1 n2 n3 d m0 m1 m2 m3 f a c s0 s1 s2 s3 s4 t0 t1 t2 t3 t4 u0 u1 u2 u3 u4 x0 x1 x2 x3 x4 v0 v1 v2 v3 v4 : Int} {b1 b2 b3 b4 b5 b6 b7 b8 : Nat} {w w1 : World} (o : Obj) (h : K_H8 n0 n1 n2 n3 d m0 m1 m2 m3 f a c s0 s1 s2 s3 s4 t0 t1 t2 t3 t4 u0 u1 u2 u3 u4 x0 x1 x2 x3 x4 v0 v1 v2 v3 v4 b1 b2 b3 b4 b5 b6 b7 b8 w w1) : K_H8 n0 n1 n2 n3 d m0 m1 m2 m3 f a c s0 s1 s2 s3 s4 t0 t1 t2 t3 t4 u0 u1 u2 u3 u4 x0 x1 x2 x3 x4 v0 v1 v2 v3 v4 b1 b2 b3 b4 b5 b6 b7 b8 w (w1.alloc o) := KL.alloc o h
theorem K_H8.bel {n0 n1 n2 n3 d m0 m1 m2 m3 f a c s0 s1 s2 s3 s4 t0 t1 t2 t3 t4 u0 u1 u2 u3 u4 x0 x1 x2 x3 x4 v0 v1 v2 v3 v4 : Int} {b1 b2 b3 b4 b5 b6 b7 b8 : Nat} {w w1 : World} (h : K_H8 n0 n1 n2 n3 d m0 m1 m2 m3 f a c s0 s1 s2 s3 s4 t0 t1 t2 t3 t4 u0 u1 u2 u3 u4 x0 x1 x2 x3 x4 v0 v1 v2 v3 v4 b1 b2 b3 b4 b5 b6 b7 b8 w w1) : Below w.heap.size w w1 := KL.bel h
theorem K_H8.cells {n0 n1 n2 n3 d m0 m1 m2 m3 f a c s0 s1 s2 s3 s4 t0 t1 t2 t3 t4 u0 u1 u2 u3 u4 x0 x1 x2 x3 x4 v0 v1 v2 v3 v4 : Int} {b1 b2 b3 b4 b5 b6 b7 b8 : Nat} {w w' : World} (h : K_H8 n0 n1 n2 n3 d m0 m1 m2 m3 f a c s0 s1 s2 s3 s4 t0 t1 t2 t3 t4 u0 u1 u2 u3 u4 x0 x1 x2 x3 x4 v0 v1 v2 v3 v4 b1 b2 b3 b4 b5 b6 b7 b8 w w') : w'.cell? ⟨b8, 0, none⟩ = some (.int .i64 v0) ∧ w'.cell? ⟨b8, 1, none⟩ = some (.int .i64 v1) ∧ w'.cell? ⟨b8, 2, none⟩ = some (.int .i64 v2) ∧ w'.cell? ⟨b8, 3, none⟩ = some (.int .i64 v3) ∧ w'.cell? ⟨b8, 4, none⟩ = some (.int .i64 v4) ∧ w'.cell? ⟨b7, 0, none⟩ = some (.int .i64 x0) ∧ w'.cell? ⟨b7, 1, none⟩ = some (.int .i64 x1) ∧ w'.cell? ⟨b7, 2, none⟩ = some (.int .i64 x2) ∧ w'.cell? ⟨b7, 3, none⟩ = some (.int .i64 x3) ∧ w'.cell? ⟨b7, 4, none⟩ = some (.int .i64 x4) ∧ w'.cell? ⟨b6, 0, none⟩ = some (.int .i64 u0) ∧ w'.cell? ⟨b6, 1, none⟩ = some (.int .i64 u1) ∧ w'.cell? ⟨b6, 2, none⟩ = some (.int .i64 u2) ∧ w'.cell? ⟨b6, 3, none⟩ = some (.int .i64 u3) ∧ w'.cell? ⟨b6, 4, none⟩ = some (.int .i64 u4) ∧ w'.cell? ⟨b5, 0, none⟩ = some (.int .i64 t0) ∧ w'.cell? ⟨b5, 1, none⟩ = some (.int .i64 t1) ∧ w'.cell? ⟨b5, 2, none⟩ = some (.int .i64 t2) ∧ w'.cell? ⟨b5, 3, none⟩ = some (.int .i64 t3) ∧ w'.cell? ⟨b5, 4, none⟩ = some (.int .i64 t4) ∧ w'.cell? ⟨b4, 0, none⟩ = some (.int .i64 s0) ∧ w'.cell? ⟨b4, 1, none⟩ = some (.int .i64 s1) ∧ w'.cell? ⟨b4, 2, none⟩ = some (.int .i64 s2) ∧ w'.cell? ⟨b4, 3, none⟩ = some (.int .i64 s3) ∧ w'.cell? ⟨b4, 4, none⟩ = some (.int .i64 s4) ∧ w'.cell? ⟨b3, 0, none⟩ = some (.int .i64 a) ∧ w'.cell? ⟨b3, 1, none⟩ = some (.int .i64 c) ∧ w'.cell? ⟨b2, 0, none⟩ = some (.int .i64 m0) ∧ w'.cell? ⟨b2, 1, none⟩ = some (.int .i64 m1) ∧ w'.cell? ⟨b2, 2, none⟩ = some (.int .i64 m2) ∧ w'.cell? ⟨b2, 3, none⟩ = some (.int .i64 m3) ∧ w'.cell? ⟨b2, 4, none⟩ = some (.int .i64 f) ∧ w'.cell? ⟨b1, 0, none⟩ = some (.int .i64 n0) ∧ w'.cell? ⟨b1, 1, none⟩ = some (.int .i64 n1) ∧ w'.cell? ⟨b1, 2, none⟩ = some (.int .i64 n2) ∧ w'.cell? ⟨b1, 3, none⟩ = some (.int .i64 n3) ∧ w'.cell? ⟨b1, 4, none⟩ = some (.int .i64 d) := ⟨h.c (b8, 0, .int .i64 v0) (by simp), h.c (b8, 1, .int .i64 v1) (by simp), h.c (b8, 2, .int .i64 v2) (by simp), h.c (b8, 3, .int .i64 v3) (by simp), h.c (b8, 4, .int .i64 v4) (by simp), h.c (b7, 0, .int .i64 x0) (by simp), h.c (b7, 1, .int .i64 x1) (by simp), h.c (b7, 2, .int .i64 x2) (by simp), h.c (b7, 3, .int .i64 x3) (by simp), h.c (b7, 4, .int .i64 x4) (by simp), h.c (b6, 0, .int .i64 u0) (by simp), h.c (b6, 1, .int .i64 u1) (by simp), h.c (b6, 2, .int .i64 u2) (by simp), h.c (b6, 3, .int .i64 u3) (by simp), h.c (b6, 4, .int .i64 u4) (by simp), h.c (b5, 0, .int .i64 t0) (by simp), h.c (b5, 1, .int .i64 t1) (by simp), h.c (b5, 2, .int .i64 t2) (by simp), h.c (b5, 3, .int .i64 t3) (by simp), h.c (b5, 4, .int .i64 t4) (by simp), h.c (b4, 0, .int .i64 s0) (by simp), h.c (b4, 1, .int .i64 s1) (by simp), h.c (b4, 2, .int .i64 s2) (by simp), h.c (b4, 3, .int .i64 s3) (by simp), h.c (b4, 4, .int .i64 s4) (by simp), h.c (b3, 0, .int .i64 a) (by simp), h.c (b3, 1, .int .i64 c) (by simp), h.c (b2, 0, .int .i64 m0) (by simp), h.c (b2, 1, .int .i64 m1) (by simp), h.c (b2, 2, .int .i64 m2) (by simp), h.c (b2, 3, .int .i64 m3) (by simp), h.c (b2, 4, .int .i64 f) (by simp), h.c (b1, 0, .int .i64 n0) (by simp), h.c (b1, 1, .int .i64 n1) (by simp), h.c (b1, 2, .int .i64 n2) (by simp), h.c (b1, 3, .int .i64 n3) (by simp), h.c (b1, 4, .int .i64 d) (by simp)⟩
theorem K_H8.zs {n0 n1 n2 n3 d m0 m1 m2 m3 f a c s0 s1 s2 s3 s4 t0 t1 t2 t3 t4 u0 u1 u2 u3 u4 x0 x1 x2 x3 x4 v0 v1 v2 v3 v4 : Int} {b1 b2 b3 b4 b5 b6 b7 b8 : Nat} {w w' : World} (h : K_H8 n0 n1 n2 n3 d m0 m1 m2 m3 f a c s0 s1 s2 s3 s4 t0 t1 t2 t3 t4 u0 u1 u2 u3 u4 x0 x1 x2 x3 x4 v0 v1 v2 v3 v4 b1 b2 b3 b4 b5 b6 b7 b8 w w') : b8 < w'.heap.size ∧ b7 < w'.heap.size ∧ b6 < w'.heap.size ∧ b5 < w'.heap.size ∧ b4 < w'.heap.size ∧ b3 < w'.heap.size ∧ b2 < w'.heap.size ∧ b1 < w'.heap.size ∧ True := ⟨KL.z h (x := (b8, 0, .int .i64 v0)) (by simp), KL.z h (x := (b7, 0, .int .i64 x0)) (by simp), KL.z h (x := (b6, 0, .int .i64 u0)) (by simp), KL.z h (x := (b5, 0, .int .i64 t0)) (by simp), KL.z h (x := (b4, 0, .int .i64 s0)) (by simp), KL.z h (x := (b3, 0, .int .i64 a)) (by simp), KL.z h (x := (b2, 0, .int .i64 m0)) (by simp), KL.z h (x := (b1, 0, .int .i64 n0)) (by simp), trivial⟩
theorem K_H8.ks {n0 n1 n2 n3 d m0 m1 m2 m3 f a c s0 s1 s2 s3 s4 t0 t1 t2 t3 t4 u0 u1 u2 u3 u4 x0 x1 x2 x3 x4 v0 v1 v2 v3 v4 : Int} {b1 b2 b3 b4 b5 b6 b7 b8 : Nat} {w w' : World} (h : K_H8 n0 n1 n2 n3 d m0 m1 m2 m3 f a c s0 s1 s2 s3 s4 t0 t1 t2 t3 t4 u0 u1 u2 u3 u4 x0 x1 x2 x3 x4 v0 v1 v2 v3 v4 b1 b2 b3 b4 b5 b6 b7 b8 w w') : (w'.cell? ⟨b8, 0, none⟩ = some (.int .i64 v0) ∧ w'.cell? ⟨b8, 1, none⟩ = some (.int .i64 v1) ∧ w'.cell? ⟨b8, 2, none⟩ = some (.int .i64 v2) ∧ w'.cell? ⟨b8, 3, none⟩ = some (.int .i64 v3) ∧ w'.cell? ⟨b8, 4, none⟩ = some (.int .i64 v4) ∧ w'.cell? ⟨b7, 0, none⟩ = some (.int .i64 x0) ∧ w'.cell? ⟨b7, 1, none⟩ = some (.int .i64 x1) ∧ w'.cell? ⟨b7, 2, none⟩ = some (.int .i64 x2) ∧ w'.cell? ⟨b7, 3, none⟩ = some (.int .i64 x3) ∧ w'.cell? ⟨b7, 4, none⟩ = some (.int .i64 x4) ∧ w'.cell? ⟨b6, 0, none⟩ = some (.int .i64 u0) ∧ w'.cell? ⟨b6, 1, none⟩ = some (.int .i64 u1) ∧ w'.cell? ⟨b6, 2, none⟩ = some (.int .i64 u2) ∧ w'.cell? ⟨b6, 3, none⟩ = some (.int .i64 u3) ∧ w'.cell? ⟨b6, 4, none⟩ = some (.int .i64 u4) ∧ w'.cell? ⟨b5, 0, none⟩ = some (.int .i64 t0) ∧ w'.cell? ⟨b5, 1, none⟩ = some (.int .i64 t1) ∧ w'.cell? ⟨b5, 2, none⟩ = some (.int .i64 t2) ∧ w'.cell? ⟨b5, 3, none⟩ = some (.int .i64 t3) ∧ w'.cell? ⟨b5, 4, none⟩ = some (.int .i64 t4) ∧ w'.cell? ⟨b4, 0, none⟩ = some (.int .i64 s0) ∧ w'.cell? ⟨b4, 1, none⟩ = some (.int .i64 s1) ∧ w'.cell? ⟨b4, 2, none⟩ = some (.int .i64 s2) ∧ w'.cell? ⟨b4, 3, none⟩ = some (.int .i64 s3) ∧ w'.cell? ⟨b4, 4, none⟩ = some (.int .i64 s4) ∧ w'.cell? ⟨b3, 0, none⟩ = some (.int .i64 a) ∧ w'.cell? ⟨b3, 1, none⟩ = some (.int .i64 c) ∧ w'.cell? ⟨b2, 0, none⟩ = some (.int .i64 m0) ∧ w'.cell? ⟨b2, 1, none⟩ = some (.int .i64 m1) ∧ w'.cell? ⟨b2, 2, none⟩ = some (.int .i64 m2) ∧ w'.cell? ⟨b2, 3, none⟩ = some (.int .i64 m3) ∧ w'.cell? ⟨b2, 4, none⟩ = some (.int .i64 f) ∧ w'.cell? ⟨b1, 0, none⟩ = some (.int .i64 n0) ∧ w'.cell? ⟨b1, 1, none⟩ = some (.int .i64 n1) ∧ w'.cell? ⟨b1, 2, none⟩ = some (.int .i64 n2) ∧ w'.cell? ⟨b1, 3, none⟩ = some (.int .i64 n3) ∧ w'.cell? ⟨b1, 4, none⟩ = some (.int .i64 d)) ∧ K_H8 n0 n1 n2 n3 d m0 m1 m2 m3 f a c s0 s1 s2 s3 s4 t0 t1 t2 t3 t4 u0 u1 u2 u3 u4 x0 x1 x2 x3 x4 v0 v1 v2 v3 v4 b1 b2 b3 b4 b5 b6 b7 b8 w w' := ⟨h.cells, h⟩
theorem KL.sub0 {w0 : World} {cs : List (Nat × Nat × Value)} {fs : List (Nat × Nat)} {w : World} (h : KL w0 cs fs w) : KL w0 [] [] w := ⟨by simp, by simp, by simp, h.bel⟩
theorem KL.cons5 {w0 : World} {cs : List (Nat × Nat × Value)} {fs : List (Nat × Nat)} {w : World} (h : KL w0 cs fs w) (p : Nat) (a b c d e : Int) (h0 : w.cell? ⟨p, 0, none⟩ = some (.int .i64 a)) (h1 : w.cell? ⟨p, 1, none⟩ = some (.int .i64 b)) (h2 : w.cell? ⟨p, 2, none⟩ = some (.int .i64 c)) (h3 : w.cell? ⟨p, 3, none⟩ = some (.int .i64 d)) (h4 : w.cell? ⟨p, 4, none⟩ = some (.int .i64 e)) : KL w0 ((p, 0, .int .i64 a) :: (p, 1, .int .i64 b) :: (p, 2, .int .i64 c) :: (p, 3, .int .i64 d) :: (p, 4, .int .i64 e) :: cs) fs w := by
  refine ⟨fun x hx => ?_, h.g, h.f, h.bel⟩
  simp only [List.mem_cons] at hx
  rcases hx with rfl | rfl | rfl | rfl | rfl | hx
  · exact h0
  · exact h1
  · exact h2
  · exact h3
  · exact h4
  · exact h.c x hx
set_option maxHeartbeats 6400000 in
theorem sums_A (n0 n1 n2 n3 d m0 m1 m2 m3 f a c : Int) (w : World) (hp : chkQ n0 n1 n2 n3 d ≠ 0) : Calls Tryd.prog 4 #[.agg #[.int .i64 n0, .int .i64 n1, .int .i64 n2, .int .i64 n3, .int .i64 d], .agg #[.int .i64 m0, .int .i64 m1, .int .i64 m2, .int .i64 m3, .int .i64 f], .agg #[.int .i64 a, .int .i64 c]] w fun e w' => e = .returned (.bool true) ∧ Below w.heap.size w w' := by
  have h3 : or2 (chkQ n0 n1 n2 n3 d) (chkQ m0 m1 m2 m3 f) = 3 := by rw [or2_ne hp]; exact (chkQ_bad hp).2
  have AD := Lib.hid (fun W => Add_bad n0 n1 n2 n3 d m0 m1 m2 m3 f W h3)
  have SU := Lib.hid (fun W => Sub_bad n0 n1 n2 n3 d m0 m1 m2 m3 f W h3)
  have SC := Lib.hid (fun W => Scale_q n0 n1 n2 n3 d a c W hp)
  have HP := Lib.hid (chkQ_bad hp).2
  clear hp h3
  go_enter Tryd.func4, Tryd.ntmps4
  go_wp2_with fail
  refine (awake_any _).mono ?_
  rintro e w1 ⟨rfl, hb⟩
  have hK : K_H3 n0 n1 n2 n3 d m0 m1 m2 m3 f a c w.heap.size (w.heap.size + 1) (w.heap.size + 2) w w1 := KL.below hb ((((KL.nil w).push5 n0 n1 n2 n3 d _ _ rfl).push5 m0 m1 m2 m3 f _ _ (by simp)).push2 a c _ _ (by simp))
  clear hb
  obtain ⟨c0_, c1_, c2_, c3_, c4_, c5_, c6_, c7_, c8_, c9_, c10_, c11_⟩ := K_H3.cells hK; obtain ⟨z0_, z1_, z2_, -⟩ := K_H3.zs hK; have HK := Lib.hid hK; clear hK
  go_wp2_with fail
  refine (AD.out _).mono ?_
  rintro e w2 ⟨rfl, hb⟩
  clear c0_ c1_ c2_ c3_ c4_ c5_ c6_ c7_ c8_ c9_ c10_ c11_ z0_ z1_ z2_
  have hK := K_H3.below hb HK.out
  clear hb HK
  obtain ⟨c0_, c1_, c2_, c3_, c4_, c5_, c6_, c7_, c8_, c9_, c10_, c11_⟩ := K_H3.cells hK; obtain ⟨z0_, z1_, z2_, -⟩ := K_H3.zs hK; have HK := Lib.hid hK; clear hK
  go_wp2_with fail
  refine (SU.out _).mono ?_
  rintro e w3 ⟨rfl, hb⟩
  clear c0_ c1_ c2_ c3_ c4_ c5_ c6_ c7_ c8_ c9_ c10_ c11_ z0_ z1_ z2_
  have hK : K_H4 n0 n1 n2 n3 d m0 m1 m2 m3 f a c 0 0 0 0 0 w.heap.size (w.heap.size + 1) (w.heap.size + 2) w2.heap.size w w3 := KL.below hb (KL.push5 HK.out 0 0 0 0 0 _ _ rfl)
  clear hb HK
  obtain ⟨c0_, c1_, c2_, c3_, c4_, c5_, c6_, c7_, c8_, c9_, c10_, c11_, c12_, c13_, c14_, c15_, c16_⟩ := K_H4.cells hK; obtain ⟨z0_, z1_, z2_, z3_, -⟩ := K_H4.zs hK; have HK := Lib.hid hK; clear hK
  go_wp2_with fail
  refine (SC.out _).mono ?_
  rintro e w4 ⟨rfl, hb⟩
  clear c0_ c1_ c2_ c3_ c4_ c5_ c6_ c7_ c8_ c9_ c10_ c11_ c12_ c13_ c14_ c15_ c16_ z0_ z1_ z2_ z3_
  have hK : K_H5 n0 n1 n2 n3 d m0 m1 m2 m3 f a c 0 0 0 0 0 0 0 0 0 0 w.heap.size (w.heap.size + 1) (w.heap.size + 2) w2.heap.size w3.heap.size w w4 := KL.below hb (KL.push5 HK.out 0 0 0 0 0 _ _ rfl)
  clear hb HK
  obtain ⟨c0_, c1_, c2_, c3_, c4_, c5_, c6_, c7_, c8_, c9_, c10_, c11_, c12_, c13_, c14_, c15_, c16_, c17_, c18_, c19_, c20_, c21_⟩ := K_H5.cells hK; obtain ⟨z0_, z1_, z2_, z3_, z4_, -⟩ := K_H5.zs hK; have HK := Lib.hid hK; clear hK
  go_wp2_with fail
  refine (rCheckQuat_any _ _ _ _ _ _).mono ?_
  rintro e w5 ⟨rfl, hb⟩
  rw [HP.out]
  clear c0_ c1_ c2_ c3_ c4_ c5_ c6_ c7_ c8_ c9_ c10_ c11_ c12_ c13_ c14_ c15_ c16_ c17_ c18_ c19_ c20_ c21_ z0_ z1_ z2_ z3_ z4_
  have hK : K_H6 n0 n1 n2 n3 d m0 m1 m2 m3 f a c 0 0 0 0 0 0 0 0 0 0 0 0 0 0 0 w.heap.size (w.heap.size + 1) (w.heap.size + 2) w2.heap.size w3.heap.size w4.heap.size w w5 := KL.below hb (KL.push5 HK.out 0 0 0 0 0 _ _ rfl)
  clear hb HK
  obtain ⟨c0_, c1_, c2_, c3_, c4_, c5_, c6_, c7_, c8_, c9_, c10_, c11_, c12_, c13_, c14_, c15_, c16_, c17_, c18_, c19_, c20_, c21_, c22_, c23_, c24_, c25_, c26_⟩ := K_H6.cells hK; obtain ⟨z0_, z1_, z2_, z3_, z4_, z5_, -⟩ := K_H6.zs hK; have HK := Lib.hid hK; clear hK
  go_wp2_with fail
  refine (same_refl _ _ _ _ _ _ _).mono ?_
  rintro e w6 ⟨rfl, hb⟩
  clear c0_ c1_ c2_ c3_ c4_ c5_ c6_ c7_ c8_ c9_ c10_ c11_ c12_ c13_ c14_ c15_ c16_ c17_ c18_ c19_ c20_ c21_ c22_ c23_ c24_ c25_ c26_ z0_ z1_ z2_ z3_ z4_ z5_
  have hK := K_H6.below hb HK.out
  clear hb HK
  obtain ⟨c0_, c1_, c2_, c3_, c4_, c5_, c6_, c7_, c8_, c9_, c10_, c11_, c12_, c13_, c14_, c15_, c16_, c17_, c18_, c19_, c20_, c21_, c22_, c23_, c24_, c25_, c26_⟩ := K_H6.cells hK; obtain ⟨z0_, z1_, z2_, z3_, z4_, z5_, -⟩ := K_H6.zs hK; have HK := Lib.hid hK; clear hK
  go_wp2_with fail
  refine (same_refl _ _ _ _ _ _ _).mono ?_
  rintro e w7 ⟨rfl, hb⟩
  clear c0_ c1_ c2_ c3_ c4_ c5_ c6_ c7_ c8_ c9_ c10_ c11_ c12_ c13_ c14_ c15_ c16_ c17_ c18_ c19_ c20_ c21_ c22_ c23_ c24_ c25_ c26_ z0_ z1_ z2_ z3_ z4_ z5_
  have hK := K_H6.below hb HK.out
  clear hb HK
  obtain ⟨c0_, c1_, c2_, c3_, c4_, c5_, c6_, c7_, c8_, c9_, c10_, c11_, c12_, c13_, c14_, c15_, c16_, c17_, c18_, c19_, c20_, c21_, c22_, c23_, c24_, c25_, c26_⟩ := K_H6.cells hK; obtain ⟨z0_, z1_, z2_, z3_, z4_, z5_, -⟩ := K_H6.zs hK; have HK := Lib.hid hK; clear hK
  go_wp2_with fail
  refine (same_refl _ _ _ _ _ _ _).mono ?_
  rintro e w8 ⟨rfl, hb⟩
  clear c0_ c1_ c2_ c3_ c4_ c5_ c6_ c7_ c8_ c9_ c10_ c11_ c12_ c13_ c14_ c15_ c16_ c17_ c18_ c19_ c20_ c21_ c22_ c23_ c24_ c25_ c26_ z0_ z1_ z2_ z3_ z4_ z5_
  have hK := K_H6.below hb HK.out
  clear hb HK
  obtain ⟨c0_, c1_, c2_, c3_, c4_, c5_, c6_, c7_, c8_, c9_, c10_, c11_, c12_, c13_, c14_, c15_, c16_, c17_, c18_, c19_, c20_, c21_, c22_, c23_, c24_, c25_, c26_⟩ := K_H6.cells hK; obtain ⟨z0_, z1_, z2_, z3_, z4_, z5_, -⟩ := K_H6.zs hK; have HK := Lib.hid hK; clear hK
  go_wp2
  go_ret
  exact ⟨rfl, K_H6.bel HK.out⟩
set_option maxHeartbeats 6400000 in
theorem sums_Bn (n0 n1 n2 n3 d m0 m1 m2 m3 f a c : Int) (w : World) (hp : chkQ n0 n1 n2 n3 d = 0) (hq : chkQ m0 m1 m2 m3 f ≠ 0) (hf : frB a c = false) : Calls Tryd.prog 4 #[.agg #[.int .i64 n0, .int .i64 n1, .int .i64 n2, .int .i64 n3, .int .i64 d], .agg #[.int .i64 m0, .int .i64 m1, .int .i64 m2, .int .i64 m3, .int .i64 f], .agg #[.int .i64 a, .int .i64 c]] w fun e w' => e = .returned (.bool true) ∧ Below w.heap.size w w' := by
  have h3 : or2 (chkQ n0 n1 n2 n3 d) (chkQ m0 m1 m2 m3 f) = 3 := by rw [hp, or2_z]; exact (chkQ_bad hq).2
  have AD := Lib.hid (fun W => Add_bad n0 n1 n2 n3 d m0 m1 m2 m3 f W h3)
  have SU := Lib.hid (fun W => Sub_bad n0 n1 n2 n3 d m0 m1 m2 m3 f W h3)
  have HQ := Lib.hid (chkQ_bad hq).2
  clear h3
  have SC := Lib.hid (fun W => Scale_f n0 n1 n2 n3 d a c W hp hf)
  have HF := Lib.hid (show chkF a c = 3 by unfold chkF; rw [if_neg (by rw [hf]; exact Bool.false_ne_true)])
  have HP := Lib.hid hp
  clear hp hq hf
  go_enter Tryd.func4, Tryd.ntmps4
  go_wp2_with fail
  refine (awake_any _).mono ?_
  rintro e w1 ⟨rfl, hb⟩
  have hK : K_H3 n0 n1 n2 n3 d m0 m1 m2 m3 f a c w.heap.size (w.heap.size + 1) (w.heap.size + 2) w w1 := KL.below hb ((((KL.nil w).push5 n0 n1 n2 n3 d _ _ rfl).push5 m0 m1 m2 m3 f _ _ (by simp)).push2 a c _ _ (by simp))
  clear hb
  obtain ⟨c0_, c1_, c2_, c3_, c4_, c5_, c6_, c7_, c8_, c9_, c10_, c11_⟩ := K_H3.cells hK; obtain ⟨z0_, z1_, z2_, -⟩ := K_H3.zs hK; have HK := Lib.hid hK; clear hK
  go_wp2_with fail
  refine (AD.out _).mono ?_
  rintro e w2 ⟨rfl, hb⟩
  clear c0_ c1_ c2_ c3_ c4_ c5_ c6_ c7_ c8_ c9_ c10_ c11_ z0_ z1_ z2_
  have hK := K_H3.below hb HK.out
  clear hb HK
  obtain ⟨c0_, c1_, c2_, c3_, c4_, c5_, c6_, c7_, c8_, c9_, c10_, c11_⟩ := K_H3.cells hK; obtain ⟨z0_, z1_, z2_, -⟩ := K_H3.zs hK; have HK := Lib.hid hK; clear hK
  go_wp2_with fail
  refine (SU.out _).mono ?_
  rintro e w3 ⟨rfl, hb⟩
  clear c0_ c1_ c2_ c3_ c4_ c5_ c6_ c7_ c8_ c9_ c10_ c11_ z0_ z1_ z2_
  have hK : K_H4 n0 n1 n2 n3 d m0 m1 m2 m3 f a c 0 0 0 0 0 w.heap.size (w.heap.size + 1) (w.heap.size + 2) w2.heap.size w w3 := KL.below hb (KL.push5 HK.out 0 0 0 0 0 _ _ rfl)
  clear hb HK
  obtain ⟨c0_, c1_, c2_, c3_, c4_, c5_, c6_, c7_, c8_, c9_, c10_, c11_, c12_, c13_, c14_, c15_, c16_⟩ := K_H4.cells hK; obtain ⟨z0_, z1_, z2_, z3_, -⟩ := K_H4.zs hK; have HK := Lib.hid hK; clear hK
  go_wp2_with fail
  refine (SC.out _).mono ?_
  rintro e w4 ⟨rfl, hb⟩
  clear c0_ c1_ c2_ c3_ c4_ c5_ c6_ c7_ c8_ c9_ c10_ c11_ c12_ c13_ c14_ c15_ c16_ z0_ z1_ z2_ z3_
  have hK : K_H5 n0 n1 n2 n3 d m0 m1 m2 m3 f a c 0 0 0 0 0 0 0 0 0 0 w.heap.size (w.heap.size + 1) (w.heap.size + 2) w2.heap.size w3.heap.size w w4 := KL.below hb (KL.push5 HK.out 0 0 0 0 0 _ _ rfl)
  clear hb HK
  obtain ⟨c0_, c1_, c2_, c3_, c4_, c5_, c6_, c7_, c8_, c9_, c10_, c11_, c12_, c13_, c14_, c15_, c16_, c17_, c18_, c19_, c20_, c21_⟩ := K_H5.cells hK; obtain ⟨z0_, z1_, z2_, z3_, z4_, -⟩ := K_H5.zs hK; have HK := Lib.hid hK; clear hK
  go_wp2_with fail
  refine (rCheckQuat_any _ _ _ _ _ _).mono ?_
  rintro e w5 ⟨rfl, hb⟩
  rw [HP.out]
  clear c0_ c1_ c2_ c3_ c4_ c5_ c6_ c7_ c8_ c9_ c10_ c11_ c12_ c13_ c14_ c15_ c16_ c17_ c18_ c19_ c20_ c21_ z0_ z1_ z2_ z3_ z4_
  have hK : K_H6 n0 n1 n2 n3 d m0 m1 m2 m3 f a c 0 0 0 0 0 0 0 0 0 0 0 0 0 0 0 w.heap.size (w.heap.size + 1) (w.heap.size + 2) w2.heap.size w3.heap.size w4.heap.size w w5 := KL.below hb (KL.push5 HK.out 0 0 0 0 0 _ _ rfl)
  clear hb HK
  obtain ⟨c0_, c1_, c2_, c3_, c4_, c5_, c6_, c7_, c8_, c9_, c10_, c11_, c12_, c13_, c14_, c15_, c16_, c17_, c18_, c19_, c20_, c21_, c22_, c23_, c24_, c25_, c26_⟩ := K_H6.cells hK; obtain ⟨z0_, z1_, z2_, z3_, z4_, z5_, -⟩ := K_H6.zs hK; have HK := Lib.hid hK; clear hK
  go_wp2_with fail
  refine (rCheckQuat_any _ _ _ _ _ _).mono ?_
  rintro e w6 ⟨rfl, hb⟩
  rw [HQ.out]
  clear c0_ c1_ c2_ c3_ c4_ c5_ c6_ c7_ c8_ c9_ c10_ c11_ c12_ c13_ c14_ c15_ c16_ c17_ c18_ c19_ c20_ c21_ c22_ c23_ c24_ c25_ c26_ z0_ z1_ z2_ z3_ z4_ z5_
  have hK := K_H6.below hb HK.out
  clear hb HK
  obtain ⟨c0_, c1_, c2_, c3_, c4_, c5_, c6_, c7_, c8_, c9_, c10_, c11_, c12_, c13_, c14_, c15_, c16_, c17_, c18_, c19_, c20_, c21_, c22_, c23_, c24_, c25_, c26_⟩ := K_H6.cells hK; obtain ⟨z0_, z1_, z2_, z3_, z4_, z5_, -⟩ := K_H6.zs hK; have HK := Lib.hid hK; clear hK
  go_wp2_with fail
  refine (CheckFrac_any _ _ _).mono ?_
  rintro e w7 ⟨rfl, hb⟩
  rw [HF.out]
  clear c0_ c1_ c2_ c3_ c4_ c5_ c6_ c7_ c8_ c9_ c10_ c11_ c12_ c13_ c14_ c15_ c16_ c17_ c18_ c19_ c20_ c21_ c22_ c23_ c24_ c25_ c26_ z0_ z1_ z2_ z3_ z4_ z5_
  have hK := K_H6.below hb HK.out
  clear hb HK
  obtain ⟨c0_, c1_, c2_, c3_, c4_, c5_, c6_, c7_, c8_, c9_, c10_, c11_, c12_, c13_, c14_, c15_, c16_, c17_, c18_, c19_, c20_, c21_, c22_, c23_, c24_, c25_, c26_⟩ := K_H6.cells hK; obtain ⟨z0_, z1_, z2_, z3_, z4_, z5_, -⟩ := K_H6.zs hK; have HK := Lib.hid hK; clear hK
  go_wp2_with fail
  refine (same_refl _ _ _ _ _ _ _).mono ?_
  rintro e w8 ⟨rfl, hb⟩
  clear c0_ c1_ c2_ c3_ c4_ c5_ c6_ c7_ c8_ c9_ c10_ c11_ c12_ c13_ c14_ c15_ c16_ c17_ c18_ c19_ c20_ c21_ c22_ c23_ c24_ c25_ c26_ z0_ z1_ z2_ z3_ z4_ z5_
  have hK := K_H6.below hb HK.out
  clear hb HK
  obtain ⟨c0_, c1_, c2_, c3_, c4_, c5_, c6_, c7_, c8_, c9_, c10_, c11_, c12_, c13_, c14_, c15_, c16_, c17_, c18_, c19_, c20_, c21_, c22_, c23_, c24_, c25_, c26_⟩ := K_H6.cells hK; obtain ⟨z0_, z1_, z2_, z3_, z4_, z5_, -⟩ := K_H6.zs hK; have HK := Lib.hid hK; clear hK
  go_wp2_with fail
  refine (same_refl _ _ _ _ _ _ _).mono ?_
  rintro e w9 ⟨rfl, hb⟩
  clear c0_ c1_ c2_ c3_ c4_ c5_ c6_ c7_ c8_ c9_ c10_ c11_ c12_ c13_ c14_ c15_ c16_ c17_ c18_ c19_ c20_ c21_ c22_ c23_ c24_ c25_ c26_ z0_ z1_ z2_ z3_ z4_ z5_
  have hK := K_H6.below hb HK.out
  clear hb HK
  obtain ⟨c0_, c1_, c2_, c3_, c4_, c5_, c6_, c7_, c8_, c9_, c10_, c11_, c12_, c13_, c14_, c15_, c16_, c17_, c18_, c19_, c20_, c21_, c22_, c23_, c24_, c25_, c26_⟩ := K_H6.cells hK; obtain ⟨z0_, z1_, z2_, z3_, z4_, z5_, -⟩ := K_H6.zs hK; have HK := Lib.hid hK; clear hK
  go_wp2_with fail
  refine (same_refl _ _ _ _ _ _ _).mono ?_
  rintro e w10 ⟨rfl, hb⟩
  clear c0_ c1_ c2_ c3_ c4_ c5_ c6_ c7_ c8_ c9_ c10_ c11_ c12_ c13_ c14_ c15_ c16_ c17_ c18_ c19_ c20_ c21_ c22_ c23_ c24_ c25_ c26_ z0_ z1_ z2_ z3_ z4_ z5_
  have hK := K_H6.below hb HK.out
  clear hb HK
  obtain ⟨c0_, c1_, c2_, c3_, c4_, c5_, c6_, c7_, c8_, c9_, c10_, c11_, c12_, c13_, c14_, c15_, c16_, c17_, c18_, c19_, c20_, c21_, c22_, c23_, c24_, c25_, c26_⟩ := K_H6.cells hK; obtain ⟨z0_, z1_, z2_, z3_, z4_, z5_, -⟩ := K_H6.zs hK; have HK := Lib.hid hK; clear hK
  go_wp2
  go_ret
  exact ⟨rfl, K_H6.bel HK.out⟩
set_option maxHeartbeats 6400000 in
theorem sums_Bf (n0 n1 n2 n3 d m0 m1 m2 m3 f a c : Int) (w : World) (hp : chkQ n0 n1 n2 n3 d = 0) (hq : chkQ m0 m1 m2 m3 f ≠ 0) (hf : frB a c = true) : Calls Tryd.prog 4 #[.agg #[.int .i64 n0, .int .i64 n1, .int .i64 n2, .int .i64 n3, .int .i64 d], .agg #[.int .i64 m0, .int .i64 m1, .int .i64 m2, .int .i64 m3, .int .i64 f], .agg #[.int .i64 a, .int .i64 c]] w fun e w' => e = .returned (.bool true) ∧ Below w.heap.size w w' := by
  have h3 : or2 (chkQ n0 n1 n2 n3 d) (chkQ m0 m1 m2 m3 f) = 3 := by rw [hp, or2_z]; exact (chkQ_bad hq).2
  have AD := Lib.hid (fun W => Add_bad n0 n1 n2 n3 d m0 m1 m2 m3 f W h3)
  have SU := Lib.hid (fun W => Sub_bad n0 n1 n2 n3 d m0 m1 m2 m3 f W h3)
  have HQ := Lib.hid (chkQ_bad hq).2
  clear h3
  have SC := Lib.hid (fun W => Scale_ok n0 n1 n2 n3 d a c W hp hf)
  have RC := Lib.hid (fun W => rScale_any n0 n1 n2 n3 d a c W hp hf)
  obtain ⟨u, hu⟩ : ∃ s, fitQ (scaleq ⟨n0, n1, n2, n3, d⟩ a c) = s := ⟨_, rfl⟩
  obtain ⟨e3, he3⟩ : ∃ s, fitE (scaleq ⟨n0, n1, n2, n3, d⟩ a c) = s := ⟨_, rfl⟩
  rw [hu, he3] at SC RC
  have HF := Lib.hid (show chkF a c = 0 by unfold chkF; rw [if_pos hf])
  clear hu he3
  have HP := Lib.hid hp
  clear hp hq hf
  go_enter Tryd.func4, Tryd.ntmps4
  go_wp2_with fail
  refine (awake_any _).mono ?_
  rintro e w1 ⟨rfl, hb⟩
  have hK : K_H3 n0 n1 n2 n3 d m0 m1 m2 m3 f a c w.heap.size (w.heap.size + 1) (w.heap.size + 2) w w1 := KL.below hb ((((KL.nil w).push5 n0 n1 n2 n3 d _ _ rfl).push5 m0 m1 m2 m3 f _ _ (by simp)).push2 a c _ _ (by simp))
  clear hb
  obtain ⟨c0_, c1_, c2_, c3_, c4_, c5_, c6_, c7_, c8_, c9_, c10_, c11_⟩ := K_H3.cells hK; obtain ⟨z0_, z1_, z2_, -⟩ := K_H3.zs hK; have HK := Lib.hid hK; clear hK
  go_wp2_with fail
  refine (AD.out _).mono ?_
  rintro e w2 ⟨rfl, hb⟩
  clear c0_ c1_ c2_ c3_ c4_ c5_ c6_ c7_ c8_ c9_ c10_ c11_ z0_ z1_ z2_
  have hK := K_H3.below hb HK.out
  clear hb HK
  obtain ⟨c0_, c1_, c2_, c3_, c4_, c5_, c6_, c7_, c8_, c9_, c10_, c11_⟩ := K_H3.cells hK; obtain ⟨z0_, z1_, z2_, -⟩ := K_H3.zs hK; have HK := Lib.hid hK; clear hK
  go_wp2_with fail
  refine (SU.out _).mono ?_
  rintro e w3 ⟨rfl, hb⟩
  clear c0_ c1_ c2_ c3_ c4_ c5_ c6_ c7_ c8_ c9_ c10_ c11_ z0_ z1_ z2_
  have hK : K_H4 n0 n1 n2 n3 d m0 m1 m2 m3 f a c 0 0 0 0 0 w.heap.size (w.heap.size + 1) (w.heap.size + 2) w2.heap.size w w3 := KL.below hb (KL.push5 HK.out 0 0 0 0 0 _ _ rfl)
  clear hb HK
  obtain ⟨c0_, c1_, c2_, c3_, c4_, c5_, c6_, c7_, c8_, c9_, c10_, c11_, c12_, c13_, c14_, c15_, c16_⟩ := K_H4.cells hK; obtain ⟨z0_, z1_, z2_, z3_, -⟩ := K_H4.zs hK; have HK := Lib.hid hK; clear hK
  go_wp2_with fail
  refine (SC.out _).mono ?_
  rintro e w4 ⟨rfl, hb⟩
  clear c0_ c1_ c2_ c3_ c4_ c5_ c6_ c7_ c8_ c9_ c10_ c11_ c12_ c13_ c14_ c15_ c16_ z0_ z1_ z2_ z3_
  have hK : K_H5 n0 n1 n2 n3 d m0 m1 m2 m3 f a c 0 0 0 0 0 0 0 0 0 0 w.heap.size (w.heap.size + 1) (w.heap.size + 2) w2.heap.size w3.heap.size w w4 := KL.below hb (KL.push5 HK.out 0 0 0 0 0 _ _ rfl)
  clear hb HK
  obtain ⟨c0_, c1_, c2_, c3_, c4_, c5_, c6_, c7_, c8_, c9_, c10_, c11_, c12_, c13_, c14_, c15_, c16_, c17_, c18_, c19_, c20_, c21_⟩ := K_H5.cells hK; obtain ⟨z0_, z1_, z2_, z3_, z4_, -⟩ := K_H5.zs hK; have HK := Lib.hid hK; clear hK
  go_wp2_with fail
  refine (rCheckQuat_any _ _ _ _ _ _).mono ?_
  rintro e w5 ⟨rfl, hb⟩
  rw [HP.out]
  clear c0_ c1_ c2_ c3_ c4_ c5_ c6_ c7_ c8_ c9_ c10_ c11_ c12_ c13_ c14_ c15_ c16_ c17_ c18_ c19_ c20_ c21_ z0_ z1_ z2_ z3_ z4_
  have hK : K_H6 n0 n1 n2 n3 d m0 m1 m2 m3 f a c 0 0 0 0 0 0 0 0 0 0 u.w u.x u.y u.z u.d w.heap.size (w.heap.size + 1) (w.heap.size + 2) w2.heap.size w3.heap.size w4.heap.size w w5 := KL.below hb (KL.push5 HK.out u.w u.x u.y u.z u.d _ _ rfl)
  clear hb HK
  obtain ⟨c0_, c1_, c2_, c3_, c4_, c5_, c6_, c7_, c8_, c9_, c10_, c11_, c12_, c13_, c14_, c15_, c16_, c17_, c18_, c19_, c20_, c21_, c22_, c23_, c24_, c25_, c26_⟩ := K_H6.cells hK; obtain ⟨z0_, z1_, z2_, z3_, z4_, z5_, -⟩ := K_H6.zs hK; have HK := Lib.hid hK; clear hK
  go_wp2_with fail
  refine (rCheckQuat_any _ _ _ _ _ _).mono ?_
  rintro e w6 ⟨rfl, hb⟩
  rw [HQ.out]
  clear c0_ c1_ c2_ c3_ c4_ c5_ c6_ c7_ c8_ c9_ c10_ c11_ c12_ c13_ c14_ c15_ c16_ c17_ c18_ c19_ c20_ c21_ c22_ c23_ c24_ c25_ c26_ z0_ z1_ z2_ z3_ z4_ z5_
  have hK := K_H6.below hb HK.out
  clear hb HK
  obtain ⟨c0_, c1_, c2_, c3_, c4_, c5_, c6_, c7_, c8_, c9_, c10_, c11_, c12_, c13_, c14_, c15_, c16_, c17_, c18_, c19_, c20_, c21_, c22_, c23_, c24_, c25_, c26_⟩ := K_H6.cells hK; obtain ⟨z0_, z1_, z2_, z3_, z4_, z5_, -⟩ := K_H6.zs hK; have HK := Lib.hid hK; clear hK
  go_wp2_with fail
  refine (CheckFrac_any _ _ _).mono ?_
  rintro e w7 ⟨rfl, hb⟩
  rw [HF.out]
  clear c0_ c1_ c2_ c3_ c4_ c5_ c6_ c7_ c8_ c9_ c10_ c11_ c12_ c13_ c14_ c15_ c16_ c17_ c18_ c19_ c20_ c21_ c22_ c23_ c24_ c25_ c26_ z0_ z1_ z2_ z3_ z4_ z5_
  have hK := K_H6.below hb HK.out
  clear hb HK
  obtain ⟨c0_, c1_, c2_, c3_, c4_, c5_, c6_, c7_, c8_, c9_, c10_, c11_, c12_, c13_, c14_, c15_, c16_, c17_, c18_, c19_, c20_, c21_, c22_, c23_, c24_, c25_, c26_⟩ := K_H6.cells hK; obtain ⟨z0_, z1_, z2_, z3_, z4_, z5_, -⟩ := K_H6.zs hK; have HK := Lib.hid hK; clear hK
  go_wp2_with fail
  refine (same_refl _ _ _ _ _ _ _).mono ?_
  rintro e w8 ⟨rfl, hb⟩
  clear c0_ c1_ c2_ c3_ c4_ c5_ c6_ c7_ c8_ c9_ c10_ c11_ c12_ c13_ c14_ c15_ c16_ c17_ c18_ c19_ c20_ c21_ c22_ c23_ c24_ c25_ c26_ z0_ z1_ z2_ z3_ z4_ z5_
  have hK := K_H6.below hb HK.out
  clear hb HK
  obtain ⟨c0_, c1_, c2_, c3_, c4_, c5_, c6_, c7_, c8_, c9_, c10_, c11_, c12_, c13_, c14_, c15_, c16_, c17_, c18_, c19_, c20_, c21_, c22_, c23_, c24_, c25_, c26_⟩ := K_H6.cells hK; obtain ⟨z0_, z1_, z2_, z3_, z4_, z5_, -⟩ := K_H6.zs hK; have HK := Lib.hid hK; clear hK
  go_wp2_with fail
  refine (same_refl _ _ _ _ _ _ _).mono ?_
  rintro e w9 ⟨rfl, hb⟩
  clear c0_ c1_ c2_ c3_ c4_ c5_ c6_ c7_ c8_ c9_ c10_ c11_ c12_ c13_ c14_ c15_ c16_ c17_ c18_ c19_ c20_ c21_ c22_ c23_ c24_ c25_ c26_ z0_ z1_ z2_ z3_ z4_ z5_
  have hK := K_H6.below hb HK.out
  clear hb HK
  obtain ⟨c0_, c1_, c2_, c3_, c4_, c5_, c6_, c7_, c8_, c9_, c10_, c11_, c12_, c13_, c14_, c15_, c16_, c17_, c18_, c19_, c20_, c21_, c22_, c23_, c24_, c25_, c26_⟩ := K_H6.cells hK; obtain ⟨z0_, z1_, z2_, z3_, z4_, z5_, -⟩ := K_H6.zs hK; have HK := Lib.hid hK; clear hK
  go_wp2_with fail
  refine (RC.out _).mono ?_
  rintro e w10 ⟨rfl, hb⟩
  clear c0_ c1_ c2_ c3_ c4_ c5_ c6_ c7_ c8_ c9_ c10_ c11_ c12_ c13_ c14_ c15_ c16_ c17_ c18_ c19_ c20_ c21_ c22_ c23_ c24_ c25_ c26_ z0_ z1_ z2_ z3_ z4_ z5_
  have hK := K_H6.below hb HK.out
  clear hb HK
  obtain ⟨c0_, c1_, c2_, c3_, c4_, c5_, c6_, c7_, c8_, c9_, c10_, c11_, c12_, c13_, c14_, c15_, c16_, c17_, c18_, c19_, c20_, c21_, c22_, c23_, c24_, c25_, c26_⟩ := K_H6.cells hK; obtain ⟨z0_, z1_, z2_, z3_, z4_, z5_, -⟩ := K_H6.zs hK; have HK := Lib.hid hK; clear hK
  go_wp2_with fail
  refine (same_refl _ _ _ _ _ _ _).mono ?_
  rintro e w11 ⟨rfl, hb⟩
  clear c0_ c1_ c2_ c3_ c4_ c5_ c6_ c7_ c8_ c9_ c10_ c11_ c12_ c13_ c14_ c15_ c16_ c17_ c18_ c19_ c20_ c21_ c22_ c23_ c24_ c25_ c26_ z0_ z1_ z2_ z3_ z4_ z5_
  have hK := KL.below hb (KL.alloc _ HK.out)
  clear hb HK
  go_wp2
  go_ret
  exact ⟨rfl, KL.bel hK⟩
set_option maxHeartbeats 6400000 in
theorem sums_Cn (n0 n1 n2 n3 d m0 m1 m2 m3 f a c : Int) (w : World) (hp : chkQ n0 n1 n2 n3 d = 0) (hq : chkQ m0 m1 m2 m3 f = 0) (hf : frB a c = false) : Calls Tryd.prog 4 #[.agg #[.int .i64 n0, .int .i64 n1, .int .i64 n2, .int .i64 n3, .int .i64 d], .agg #[.int .i64 m0, .int .i64 m1, .int .i64 m2, .int .i64 m3, .int .i64 f], .agg #[.int .i64 a, .int .i64 c]] w fun e w' => e = .returned (.bool true) ∧ Below w.heap.size w w' := by
  have AD := Lib.hid (fun W => Add_ok n0 n1 n2 n3 d m0 m1 m2 m3 f W hp hq)
  have RA := Lib.hid (fun W => rAdd_any n0 n1 n2 n3 d m0 m1 m2 m3 f W hp hq)
  have SU := Lib.hid (fun W => Sub_ok n0 n1 n2 n3 d m0 m1 m2 m3 f W hp hq)
  have RS := Lib.hid (fun W => rAdd_any n0 n1 n2 n3 d (-m0) (-m1) (-m2) (-m3) f W hp (chkQ_neg hq))
  have NG := Lib.hid (fun W => rNeg_any m0 m1 m2 m3 f W hq)
  obtain ⟨s, hs⟩ : ∃ s, fitQ (addq ⟨n0, n1, n2, n3, d⟩ ⟨m0, m1, m2, m3, f⟩) = s := ⟨_, rfl⟩
  obtain ⟨e1, he1⟩ : ∃ s, fitE (addq ⟨n0, n1, n2, n3, d⟩ ⟨m0, m1, m2, m3, f⟩) = s := ⟨_, rfl⟩
  obtain ⟨t, ht⟩ : ∃ s, fitQ (addq ⟨n0, n1, n2, n3, d⟩ ⟨-m0, -m1, -m2, -m3, f⟩) = s := ⟨_, rfl⟩
  obtain ⟨e2, he2⟩ : ∃ s, fitE (addq ⟨n0, n1, n2, n3, d⟩ ⟨-m0, -m1, -m2, -m3, f⟩) = s := ⟨_, rfl⟩
  rw [hs, he1] at AD RA
  rw [ht, he2] at SU RS
  have HQ := Lib.hid hq
  clear hs he1 ht he2
  have SC := Lib.hid (fun W => Scale_f n0 n1 n2 n3 d a c W hp hf)
  have HF := Lib.hid (show chkF a c = 3 by unfold chkF; rw [if_neg (by rw [hf]; exact Bool.false_ne_true)])
  have HP := Lib.hid hp
  clear hp hq hf
  go_enter Tryd.func4, Tryd.ntmps4
  go_wp2_with fail
  refine (awake_any _).mono ?_
  rintro e w1 ⟨rfl, hb⟩
  have hK : K_H3 n0 n1 n2 n3 d m0 m1 m2 m3 f a c w.heap.size (w.heap.size + 1) (w.heap.size + 2) w w1 := KL.below hb ((((KL.nil w).push5 n0 n1 n2 n3 d _ _ rfl).push5 m0 m1 m2 m3 f _ _ (by simp)).push2 a c _ _ (by simp))
  clear hb
  obtain ⟨c0_, c1_, c2_, c3_, c4_, c5_, c6_, c7_, c8_, c9_, c10_, c11_⟩ := K_H3.cells hK; obtain ⟨z0_, z1_, z2_, -⟩ := K_H3.zs hK; have HK := Lib.hid hK; clear hK
  go_wp2_with fail
  refine (AD.out _).mono ?_
  rintro e w2 ⟨rfl, hb⟩
  clear c0_ c1_ c2_ c3_ c4_ c5_ c6_ c7_ c8_ c9_ c10_ c11_ z0_ z1_ z2_
  have hK := K_H3.below hb HK.out
  clear hb HK
  obtain ⟨c0_, c1_, c2_, c3_, c4_, c5_, c6_, c7_, c8_, c9_, c10_, c11_⟩ := K_H3.cells hK; obtain ⟨z0_, z1_, z2_, -⟩ := K_H3.zs hK; have HK := Lib.hid hK; clear hK
  go_wp2_with fail
  refine (SU.out _).mono ?_
  rintro e w3 ⟨rfl, hb⟩
  clear c0_ c1_ c2_ c3_ c4_ c5_ c6_ c7_ c8_ c9_ c10_ c11_ z0_ z1_ z2_
  have hK : K_H4 n0 n1 n2 n3 d m0 m1 m2 m3 f a c s.w s.x s.y s.z s.d w.heap.size (w.heap.size + 1) (w.heap.size + 2) w2.heap.size w w3 := KL.below hb (KL.push5 HK.out s.w s.x s.y s.z s.d _ _ rfl)
  clear hb HK
  obtain ⟨c0_, c1_, c2_, c3_, c4_, c5_, c6_, c7_, c8_, c9_, c10_, c11_, c12_, c13_, c14_, c15_, c16_⟩ := K_H4.cells hK; obtain ⟨z0_, z1_, z2_, z3_, -⟩ := K_H4.zs hK; have HK := Lib.hid hK; clear hK
  go_wp2_with fail
  refine (SC.out _).mono ?_
  rintro e w4 ⟨rfl, hb⟩
  clear c0_ c1_ c2_ c3_ c4_ c5_ c6_ c7_ c8_ c9_ c10_ c11_ c12_ c13_ c14_ c15_ c16_ z0_ z1_ z2_ z3_
  have hK : K_H5 n0 n1 n2 n3 d m0 m1 m2 m3 f a c s.w s.x s.y s.z s.d t.w t.x t.y t.z t.d w.heap.size (w.heap.size + 1) (w.heap.size + 2) w2.heap.size w3.heap.size w w4 := KL.below hb (KL.push5 HK.out t.w t.x t.y t.z t.d _ _ rfl)
  clear hb HK
  obtain ⟨c0_, c1_, c2_, c3_, c4_, c5_, c6_, c7_, c8_, c9_, c10_, c11_, c12_, c13_, c14_, c15_, c16_, c17_, c18_, c19_, c20_, c21_⟩ := K_H5.cells hK; obtain ⟨z0_, z1_, z2_, z3_, z4_, -⟩ := K_H5.zs hK; have HK := Lib.hid hK; clear hK
  go_wp2_with fail
  refine (rCheckQuat_any _ _ _ _ _ _).mono ?_
  rintro e w5 ⟨rfl, hb⟩
  rw [HP.out]
  clear c0_ c1_ c2_ c3_ c4_ c5_ c6_ c7_ c8_ c9_ c10_ c11_ c12_ c13_ c14_ c15_ c16_ c17_ c18_ c19_ c20_ c21_ z0_ z1_ z2_ z3_ z4_
  have hK : K_H6 n0 n1 n2 n3 d m0 m1 m2 m3 f a c s.w s.x s.y s.z s.d t.w t.x t.y t.z t.d 0 0 0 0 0 w.heap.size (w.heap.size + 1) (w.heap.size + 2) w2.heap.size w3.heap.size w4.heap.size w w5 := KL.below hb (KL.push5 HK.out 0 0 0 0 0 _ _ rfl)
  clear hb HK
  obtain ⟨c0_, c1_, c2_, c3_, c4_, c5_, c6_, c7_, c8_, c9_, c10_, c11_, c12_, c13_, c14_, c15_, c16_, c17_, c18_, c19_, c20_, c21_, c22_, c23_, c24_, c25_, c26_⟩ := K_H6.cells hK; obtain ⟨z0_, z1_, z2_, z3_, z4_, z5_, -⟩ := K_H6.zs hK; have HK := Lib.hid hK; clear hK
  go_wp2_with fail
  refine (rCheckQuat_any _ _ _ _ _ _).mono ?_
  rintro e w6 ⟨rfl, hb⟩
  rw [HQ.out]
  clear c0_ c1_ c2_ c3_ c4_ c5_ c6_ c7_ c8_ c9_ c10_ c11_ c12_ c13_ c14_ c15_ c16_ c17_ c18_ c19_ c20_ c21_ c22_ c23_ c24_ c25_ c26_ z0_ z1_ z2_ z3_ z4_ z5_
  have hK := K_H6.below hb HK.out
  clear hb HK
  obtain ⟨c0_, c1_, c2_, c3_, c4_, c5_, c6_, c7_, c8_, c9_, c10_, c11_, c12_, c13_, c14_, c15_, c16_, c17_, c18_, c19_, c20_, c21_, c22_, c23_, c24_, c25_, c26_⟩ := K_H6.cells hK; obtain ⟨z0_, z1_, z2_, z3_, z4_, z5_, -⟩ := K_H6.zs hK; have HK := Lib.hid hK; clear hK
  go_wp2_with fail
  refine (CheckFrac_any _ _ _).mono ?_
  rintro e w7 ⟨rfl, hb⟩
  rw [HF.out]
  clear c0_ c1_ c2_ c3_ c4_ c5_ c6_ c7_ c8_ c9_ c10_ c11_ c12_ c13_ c14_ c15_ c16_ c17_ c18_ c19_ c20_ c21_ c22_ c23_ c24_ c25_ c26_ z0_ z1_ z2_ z3_ z4_ z5_
  have hK := K_H6.below hb HK.out
  clear hb HK
  obtain ⟨c0_, c1_, c2_, c3_, c4_, c5_, c6_, c7_, c8_, c9_, c10_, c11_, c12_, c13_, c14_, c15_, c16_, c17_, c18_, c19_, c20_, c21_, c22_, c23_, c24_, c25_, c26_⟩ := K_H6.cells hK; obtain ⟨z0_, z1_, z2_, z3_, z4_, z5_, -⟩ := K_H6.zs hK; have HK := Lib.hid hK; clear hK
  go_wp2_with fail
  refine (RA.out _).mono ?_
  rintro e w8 ⟨rfl, hb⟩
  clear c0_ c1_ c2_ c3_ c4_ c5_ c6_ c7_ c8_ c9_ c10_ c11_ c12_ c13_ c14_ c15_ c16_ c17_ c18_ c19_ c20_ c21_ c22_ c23_ c24_ c25_ c26_ z0_ z1_ z2_ z3_ z4_ z5_
  have hK := K_H6.below hb HK.out
  clear hb HK
  obtain ⟨c0_, c1_, c2_, c3_, c4_, c5_, c6_, c7_, c8_, c9_, c10_, c11_, c12_, c13_, c14_, c15_, c16_, c17_, c18_, c19_, c20_, c21_, c22_, c23_, c24_, c25_, c26_⟩ := K_H6.cells hK; obtain ⟨z0_, z1_, z2_, z3_, z4_, z5_, -⟩ := K_H6.zs hK; have HK := Lib.hid hK; clear hK
  go_wp2_with fail
  have hk : K_H7 n0 n1 n2 n3 d m0 m1 m2 m3 f a c s.w s.x s.y s.z s.d t.w t.x t.y t.z t.d 0 0 0 0 0 s.w s.x s.y s.z s.d w.heap.size (w.heap.size + 1) (w.heap.size + 2) w2.heap.size w3.heap.size w4.heap.size w8.heap.size w (w8.alloc (.cells #[.int .i64 s.w, .int .i64 s.x, .int .i64 s.y, .int .i64 s.z, .int .i64 s.d] 25)) := KL.push5 HK.out s.w s.x s.y s.z s.d _ _ rfl
  have y0 : w.heap.size < w8.heap.size := by omega
  have y1 : w.heap.size + 1 < w8.heap.size := by omega
  have y2 : w.heap.size + 2 < w8.heap.size := by omega
  have y3 : w2.heap.size < w8.heap.size := by omega
  have y4 : w3.heap.size < w8.heap.size := by omega
  have y5 : w4.heap.size < w8.heap.size := by omega
  clear c0_ c1_ c2_ c3_ c4_ c5_ c6_ c7_ c8_ c9_ c10_ c11_ c12_ c13_ c14_ c15_ c16_ c17_ c18_ c19_ c20_ c21_ c22_ c23_ c24_ c25_ c26_ z0_ z1_ z2_ z3_ z4_ z5_
  clear HK
  go_region_held3 (fun w' => (w'.cell? ⟨w8.heap.size, 0, none⟩ = some (.int .i64 s.w) ∧ w'.cell? ⟨w8.heap.size, 1, none⟩ = some (.int .i64 s.x) ∧ w'.cell? ⟨w8.heap.size, 2, none⟩ = some (.int .i64 s.y) ∧ w'.cell? ⟨w8.heap.size, 3, none⟩ = some (.int .i64 s.z) ∧ w'.cell? ⟨w8.heap.size, 4, none⟩ = some (.int .i64 s.d) ∧ w'.cell? ⟨w4.heap.size, 0, none⟩ = some (.int .i64 0) ∧ w'.cell? ⟨w4.heap.size, 1, none⟩ = some (.int .i64 0) ∧ w'.cell? ⟨w4.heap.size, 2, none⟩ = some (.int .i64 0) ∧ w'.cell? ⟨w4.heap.size, 3, none⟩ = some (.int .i64 0) ∧ w'.cell? ⟨w4.heap.size, 4, none⟩ = some (.int .i64 0) ∧ w'.cell? ⟨w3.heap.size, 0, none⟩ = some (.int .i64 t.w) ∧ w'.cell? ⟨w3.heap.size, 1, none⟩ = some (.int .i64 t.x) ∧ w'.cell? ⟨w3.heap.size, 2, none⟩ = some (.int .i64 t.y) ∧ w'.cell? ⟨w3.heap.size, 3, none⟩ = some (.int .i64 t.z) ∧ w'.cell? ⟨w3.heap.size, 4, none⟩ = some (.int .i64 t.d) ∧ w'.cell? ⟨w2.heap.size, 0, none⟩ = some (.int .i64 s.w) ∧ w'.cell? ⟨w2.heap.size, 1, none⟩ = some (.int .i64 s.x) ∧ w'.cell? ⟨w2.heap.size, 2, none⟩ = some (.int .i64 s.y) ∧ w'.cell? ⟨w2.heap.size, 3, none⟩ = some (.int .i64 s.z) ∧ w'.cell? ⟨w2.heap.size, 4, none⟩ = some (.int .i64 s.d) ∧ w'.cell? ⟨(w.heap.size + 2), 0, none⟩ = some (.int .i64 a) ∧ w'.cell? ⟨(w.heap.size + 2), 1, none⟩ = some (.int .i64 c) ∧ w'.cell? ⟨(w.heap.size + 1), 0, none⟩ = some (.int .i64 m0) ∧ w'.cell? ⟨(w.heap.size + 1), 1, none⟩ = some (.int .i64 m1) ∧ w'.cell? ⟨(w.heap.size + 1), 2, none⟩ = some (.int .i64 m2) ∧ w'.cell? ⟨(w.heap.size + 1), 3, none⟩ = some (.int .i64 m3) ∧ w'.cell? ⟨(w.heap.size + 1), 4, none⟩ = some (.int .i64 f) ∧ w'.cell? ⟨w.heap.size, 0, none⟩ = some (.int .i64 n0) ∧ w'.cell? ⟨w.heap.size, 1, none⟩ = some (.int .i64 n1) ∧ w'.cell? ⟨w.heap.size, 2, none⟩ = some (.int .i64 n2) ∧ w'.cell? ⟨w.heap.size, 3, none⟩ = some (.int .i64 n3) ∧ w'.cell? ⟨w.heap.size, 4, none⟩ = some (.int .i64 d)) ∧ K_H7 n0 n1 n2 n3 d m0 m1 m2 m3 f a c s.w s.x s.y s.z s.d t.w t.x t.y t.z t.d 0 0 0 0 0 s.w s.x s.y s.z s.d w.heap.size (w.heap.size + 1) (w.heap.size + 2) w2.heap.size w3.heap.size w4.heap.size w8.heap.size w w') ((refine K_H7.ks ?_; repeat (first | (with_reducible assumption) | (with_reducible refine K_H7.draws _ ?_) | (with_reducible refine K_H7.drew ?_) | (with_reducible refine K_H7.alloc _ ?_) | (with_reducible refine K_H7.set ?_ _ _ _ (by omega)))))
    (first
      | (go_at_call 24; (with_reducible refine (NG.out _).mono ?_); rintro e w' ⟨rfl, hbel⟩; have hk' := K_H7.below hbel (And.right (by assumption)); (first | (have hz : K_Z 0 0 0 0 0 (w8.heap.size + 1) w w' := KL.below hbel (KL.draws 1 (KL.push5w (KL.sub0 hk) 0 0 0 0 0 _ _ (by simp)))) | skip); clear hbel)
      | (go_at_call 23; have hold := hk'; (with_reducible refine (RS.out _).mono ?_); rintro e w'' ⟨rfl, hbel⟩; have hk2 := K_H7.below hbel (And.right (by assumption)); obtain ⟨z0_, z1_, z2_, z3_, z4_, z5_, z6_, -⟩ := K_H7.zs hold; obtain ⟨x0_, x1_, x2_, x3_, x4_, x5_, x6_, -⟩ := K_H7.zs hk2; (first | (have hz2 : K_Z 0 0 0 0 0 w'.heap.size w w'' := KL.below hbel (KL.push5w (KL.sub0 hold) 0 0 0 0 0 _ _ rfl); obtain ⟨c0_, c1_, c2_, c3_, c4_, f0_, f1_, f2_, f3_, f4_⟩ := K_Z.cells hz2) | (have hz2 := K_Z.below hbel hz; obtain ⟨c0_, c1_, c2_, c3_, c4_, f0_, f1_, f2_, f3_, f4_⟩ := K_Z.cells hz2) | skip); clear hbel))
  all_goals go_outline
  · rename_i hh
    clear hh
    have hK : K_H8 n0 n1 n2 n3 d m0 m1 m2 m3 f a c s.w s.x s.y s.z s.d t.w t.x t.y t.z t.d 0 0 0 0 0 s.w s.x s.y s.z s.d t.w t.x t.y t.z t.d w.heap.size (w.heap.size + 1) (w.heap.size + 2) w2.heap.size w3.heap.size w4.heap.size w8.heap.size w''.heap.size w (w''.alloc (.cells #[.int .i64 t.w, .int .i64 t.x, .int .i64 t.y, .int .i64 t.z, .int .i64 t.d] 25)) := KL.push5 hk2 t.w t.x t.y t.z t.d _ _ rfl
    clear hk hk' hold hk2 z0_ x0_ z1_ x1_ z2_ x2_ z3_ x3_ z4_ x4_ z5_ x5_ z6_ x6_
    generalize (w''.alloc (.cells #[.int .i64 t.w, .int .i64 t.x, .int .i64 t.y, .int .i64 t.z, .int .i64 t.d] 25)) = w9 at hK ⊢
    obtain ⟨c0_, c1_, c2_, c3_, c4_, c5_, c6_, c7_, c8_, c9_, c10_, c11_, c12_, c13_, c14_, c15_, c16_, c17_, c18_, c19_, c20_, c21_, c22_, c23_, c24_, c25_, c26_, c27_, c28_, c29_, c30_, c31_, c32_, c33_, c34_, c35_, c36_⟩ := K_H8.cells hK; obtain ⟨z0_, z1_, z2_, z3_, z4_, z5_, z6_, z7_, -⟩ := K_H8.zs hK; have HK := Lib.hid hK; clear hK
    go_wp2_with fail
    refine (same_refl _ _ _ _ _ _ _).mono ?_
    rintro e w10 ⟨rfl, hb⟩
    clear c0_ c1_ c2_ c3_ c4_ c5_ c6_ c7_ c8_ c9_ c10_ c11_ c12_ c13_ c14_ c15_ c16_ c17_ c18_ c19_ c20_ c21_ c22_ c23_ c24_ c25_ c26_ c27_ c28_ c29_ c30_ c31_ c32_ c33_ c34_ c35_ c36_ z0_ z1_ z2_ z3_ z4_ z5_ z6_ z7_
    have hK := K_H8.below hb HK.out
    clear hb HK
    obtain ⟨c0_, c1_, c2_, c3_, c4_, c5_, c6_, c7_, c8_, c9_, c10_, c11_, c12_, c13_, c14_, c15_, c16_, c17_, c18_, c19_, c20_, c21_, c22_, c23_, c24_, c25_, c26_, c27_, c28_, c29_, c30_, c31_, c32_, c33_, c34_, c35_, c36_⟩ := K_H8.cells hK; obtain ⟨z0_, z1_, z2_, z3_, z4_, z5_, z6_, z7_, -⟩ := K_H8.zs hK; have HK := Lib.hid hK; clear hK
    go_wp2_with fail
    refine (same_refl _ _ _ _ _ _ _).mono ?_
    rintro e w11 ⟨rfl, hb⟩
    clear c0_ c1_ c2_ c3_ c4_ c5_ c6_ c7_ c8_ c9_ c10_ c11_ c12_ c13_ c14_ c15_ c16_ c17_ c18_ c19_ c20_ c21_ c22_ c23_ c24_ c25_ c26_ c27_ c28_ c29_ c30_ c31_ c32_ c33_ c34_ c35_ c36_ z0_ z1_ z2_ z3_ z4_ z5_ z6_ z7_
    have hK := K_H8.below hb HK.out
    clear hb HK
    obtain ⟨c0_, c1_, c2_, c3_, c4_, c5_, c6_, c7_, c8_, c9_, c10_, c11_, c12_, c13_, c14_, c15_, c16_, c17_, c18_, c19_, c20_, c21_, c22_, c23_, c24_, c25_, c26_, c27_, c28_, c29_, c30_, c31_, c32_, c33_, c34_, c35_, c36_⟩ := K_H8.cells hK; obtain ⟨z0_, z1_, z2_, z3_, z4_, z5_, z6_, z7_, -⟩ := K_H8.zs hK; have HK := Lib.hid hK; clear hK
    go_wp2_with fail
    refine (same_refl _ _ _ _ _ _ _).mono ?_
    rintro e w12 ⟨rfl, hb⟩
    clear c0_ c1_ c2_ c3_ c4_ c5_ c6_ c7_ c8_ c9_ c10_ c11_ c12_ c13_ c14_ c15_ c16_ c17_ c18_ c19_ c20_ c21_ c22_ c23_ c24_ c25_ c26_ c27_ c28_ c29_ c30_ c31_ c32_ c33_ c34_ c35_ c36_ z0_ z1_ z2_ z3_ z4_ z5_ z6_ z7_
    have hK := K_H8.below hb HK.out
    clear hb HK
    obtain ⟨c0_, c1_, c2_, c3_, c4_, c5_, c6_, c7_, c8_, c9_, c10_, c11_, c12_, c13_, c14_, c15_, c16_, c17_, c18_, c19_, c20_, c21_, c22_, c23_, c24_, c25_, c26_, c27_, c28_, c29_, c30_, c31_, c32_, c33_, c34_, c35_, c36_⟩ := K_H8.cells hK; obtain ⟨z0_, z1_, z2_, z3_, z4_, z5_, z6_, z7_, -⟩ := K_H8.zs hK; have HK := Lib.hid hK; clear hK
    go_wp2
    go_ret
    exact ⟨rfl, K_H8.bel HK.out⟩
  · rename_i hh
    obtain ⟨-, hk3⟩ := hh
    have hK : K_H8 n0 n1 n2 n3 d m0 m1 m2 m3 f a c s.w s.x s.y s.z s.d t.w t.x t.y t.z t.d 0 0 0 0 0 s.w s.x s.y s.z s.d t.w t.x t.y t.z t.d w.heap.size (w.heap.size + 1) (w.heap.size + 2) w2.heap.size w3.heap.size w4.heap.size w8.heap.size w'.heap.size w ((((((((((w'').setCell ⟨w'.heap.size, 0, none⟩ (.int .i64 (t).w))).setCell ⟨w'.heap.size, 1, none⟩ (.int .i64 (t).x))).setCell ⟨w'.heap.size, 2, none⟩ (.int .i64 (t).y))).setCell ⟨w'.heap.size, 3, none⟩ (.int .i64 (t).z))).setCell ⟨w'.heap.size, 4, none⟩ (.int .i64 (t).d)) := KL.cons5 hk3 _ t.w t.x t.y t.z t.d (by simp [go_sem, c0_, c1_, c2_, c3_, c4_, f0_, f1_, f2_, f3_, f4_]) (by simp [go_sem, c0_, c1_, c2_, c3_, c4_, f0_, f1_, f2_, f3_, f4_]) (by simp [go_sem, c0_, c1_, c2_, c3_, c4_, f0_, f1_, f2_, f3_, f4_]) (by simp [go_sem, c0_, c1_, c2_, c3_, c4_, f0_, f1_, f2_, f3_, f4_]) (by simp [go_sem, c0_, c1_, c2_, c3_, c4_, f0_, f1_, f2_, f3_, f4_])
    clear hk hk' hold hk2 hk3 z0_ x0_ z1_ x1_ z2_ x2_ z3_ x3_ z4_ x4_ z5_ x5_ z6_ x6_
    (try clear hz)
    clear hz2 c0_ c1_ c2_ c3_ c4_ f0_ f1_ f2_ f3_ f4_
    generalize ((((((((((w'').setCell ⟨w'.heap.size, 0, none⟩ (.int .i64 (t).w))).setCell ⟨w'.heap.size, 1, none⟩ (.int .i64 (t).x))).setCell ⟨w'.heap.size, 2, none⟩ (.int .i64 (t).y))).setCell ⟨w'.heap.size, 3, none⟩ (.int .i64 (t).z))).setCell ⟨w'.heap.size, 4, none⟩ (.int .i64 (t).d)) = w9 at hK ⊢
    obtain ⟨c0_, c1_, c2_, c3_, c4_, c5_, c6_, c7_, c8_, c9_, c10_, c11_, c12_, c13_, c14_, c15_, c16_, c17_, c18_, c19_, c20_, c21_, c22_, c23_, c24_, c25_, c26_, c27_, c28_, c29_, c30_, c31_, c32_, c33_, c34_, c35_, c36_⟩ := K_H8.cells hK; obtain ⟨z0_, z1_, z2_, z3_, z4_, z5_, z6_, z7_, -⟩ := K_H8.zs hK; have HK := Lib.hid hK; clear hK
    go_wp2_with fail
    refine (same_refl _ _ _ _ _ _ _).mono ?_
    rintro e w10 ⟨rfl, hb⟩
    clear c0_ c1_ c2_ c3_ c4_ c5_ c6_ c7_ c8_ c9_ c10_ c11_ c12_ c13_ c14_ c15_ c16_ c17_ c18_ c19_ c20_ c21_ c22_ c23_ c24_ c25_ c26_ c27_ c28_ c29_ c30_ c31_ c32_ c33_ c34_ c35_ c36_ z0_ z1_ z2_ z3_ z4_ z5_ z6_ z7_
    have hK := K_H8.below hb HK.out
    clear hb HK
    obtain ⟨c0_, c1_, c2_, c3_, c4_, c5_, c6_, c7_, c8_, c9_, c10_, c11_, c12_, c13_, c14_, c15_, c16_, c17_, c18_, c19_, c20_, c21_, c22_, c23_, c24_, c25_, c26_, c27_, c28_, c29_, c30_, c31_, c32_, c33_, c34_, c35_, c36_⟩ := K_H8.cells hK; obtain ⟨z0_, z1_, z2_, z3_, z4_, z5_, z6_, z7_, -⟩ := K_H8.zs hK; have HK := Lib.hid hK; clear hK
    go_wp2_with fail
    refine (same_refl _ _ _ _ _ _ _).mono ?_
    rintro e w11 ⟨rfl, hb⟩
    clear c0_ c1_ c2_ c3_ c4_ c5_ c6_ c7_ c8_ c9_ c10_ c11_ c12_ c13_ c14_ c15_ c16_ c17_ c18_ c19_ c20_ c21_ c22_ c23_ c24_ c25_ c26_ c27_ c28_ c29_ c30_ c31_ c32_ c33_ c34_ c35_ c36_ z0_ z1_ z2_ z3_ z4_ z5_ z6_ z7_
    have hK := K_H8.below hb HK.out
    clear hb HK
    obtain ⟨c0_, c1_, c2_, c3_, c4_, c5_, c6_, c7_, c8_, c9_, c10_, c11_, c12_, c13_, c14_, c15_, c16_, c17_, c18_, c19_, c20_, c21_, c22_, c23_, c24_, c25_, c26_, c27_, c28_, c29_, c30_, c31_, c32_, c33_, c34_, c35_, c36_⟩ := K_H8.cells hK; obtain ⟨z0_, z1_, z2_, z3_, z4_, z5_, z6_, z7_, -⟩ := K_H8.zs hK; have HK := Lib.hid hK; clear hK
    go_wp2_with fail
    refine (same_refl _ _ _ _ _ _ _).mono ?_
    rintro e w12 ⟨rfl, hb⟩
    clear c0_ c1_ c2_ c3_ c4_ c5_ c6_ c7_ c8_ c9_ c10_ c11_ c12_ c13_ c14_ c15_ c16_ c17_ c18_ c19_ c20_ c21_ c22_ c23_ c24_ c25_ c26_ c27_ c28_ c29_ c30_ c31_ c32_ c33_ c34_ c35_ c36_ z0_ z1_ z2_ z3_ z4_ z5_ z6_ z7_
    have hK := K_H8.below hb HK.out
    clear hb HK
    obtain ⟨c0_, c1_, c2_, c3_, c4_, c5_, c6_, c7_, c8_, c9_, c10_, c11_, c12_, c13_, c14_, c15_, c16_, c17_, c18_, c19_, c20_, c21_, c22_, c23_, c24_, c25_, c26_, c27_, c28_, c29_, c30_, c31_, c32_, c33_, c34_, c35_, c36_⟩ := K_H8.cells hK; obtain ⟨z0_, z1_, z2_, z3_, z4_, z5_, z6_, z7_, -⟩ := K_H8.zs hK; have HK := Lib.hid hK; clear hK
    go_wp2
    go_ret
    exact ⟨rfl, K_H8.bel HK.out⟩
  · rename_i hh
    obtain ⟨-, hk3⟩ := hh
    have hK : K_H8 n0 n1 n2 n3 d m0 m1 m2 m3 f a c s.w s.x s.y s.z s.d t.w t.x t.y t.z t.d 0 0 0 0 0 s.w s.x s.y s.z s.d t.w t.x t.y t.z t.d w.heap.size (w.heap.size + 1) (w.heap.size + 2) w2.heap.size w3.heap.size w4.heap.size w8.heap.size (w8.heap.size + 1) w ((((((((((w'').setCell ⟨(w8.heap.size + 1), 0, none⟩ (.int .i64 (t).w))).setCell ⟨(w8.heap.size + 1), 1, none⟩ (.int .i64 (t).x))).setCell ⟨(w8.heap.size + 1), 2, none⟩ (.int .i64 (t).y))).setCell ⟨(w8.heap.size + 1), 3, none⟩ (.int .i64 (t).z))).setCell ⟨(w8.heap.size + 1), 4, none⟩ (.int .i64 (t).d)) := KL.cons5 hk3 _ t.w t.x t.y t.z t.d (by simp [go_sem, c0_, c1_, c2_, c3_, c4_, f0_, f1_, f2_, f3_, f4_]) (by simp [go_sem, c0_, c1_, c2_, c3_, c4_, f0_, f1_, f2_, f3_, f4_]) (by simp [go_sem, c0_, c1_, c2_, c3_, c4_, f0_, f1_, f2_, f3_, f4_]) (by simp [go_sem, c0_, c1_, c2_, c3_, c4_, f0_, f1_, f2_, f3_, f4_]) (by simp [go_sem, c0_, c1_, c2_, c3_, c4_, f0_, f1_, f2_, f3_, f4_])
    clear hk hk' hold hk2 hk3 z0_ x0_ z1_ x1_ z2_ x2_ z3_ x3_ z4_ x4_ z5_ x5_ z6_ x6_
    (try clear hz)
    clear hz2 c0_ c1_ c2_ c3_ c4_ f0_ f1_ f2_ f3_ f4_
    generalize ((((((((((w'').setCell ⟨(w8.heap.size + 1), 0, none⟩ (.int .i64 (t).w))).setCell ⟨(w8.heap.size + 1), 1, none⟩ (.int .i64 (t).x))).setCell ⟨(w8.heap.size + 1), 2, none⟩ (.int .i64 (t).y))).setCell ⟨(w8.heap.size + 1), 3, none⟩ (.int .i64 (t).z))).setCell ⟨(w8.heap.size + 1), 4, none⟩ (.int .i64 (t).d)) = w9 at hK ⊢
    obtain ⟨c0_, c1_, c2_, c3_, c4_, c5_, c6_, c7_, c8_, c9_, c10_, c11_, c12_, c13_, c14_, c15_, c16_, c17_, c18_, c19_, c20_, c21_, c22_, c23_, c24_, c25_, c26_, c27_, c28_, c29_, c30_, c31_, c32_, c33_, c34_, c35_, c36_⟩ := K_H8.cells hK; obtain ⟨z0_, z1_, z2_, z3_, z4_, z5_, z6_, z7_, -⟩ := K_H8.zs hK; have HK := Lib.hid hK; clear hK
    go_wp2_with fail
    refine (same_refl _ _ _ _ _ _ _).mono ?_
    rintro e w10 ⟨rfl, hb⟩
    clear c0_ c1_ c2_ c3_ c4_ c5_ c6_ c7_ c8_ c9_ c10_ c11_ c12_ c13_ c14_ c15_ c16_ c17_ c18_ c19_ c20_ c21_ c22_ c23_ c24_ c25_ c26_ c27_ c28_ c29_ c30_ c31_ c32_ c33_ c34_ c35_ c36_ z0_ z1_ z2_ z3_ z4_ z5_ z6_ z7_
    have hK := K_H8.below hb HK.out
    clear hb HK
    obtain ⟨c0_, c1_, c2_, c3_, c4_, c5_, c6_, c7_, c8_, c9_, c10_, c11_, c12_, c13_, c14_, c15_, c16_, c17_, c18_, c19_, c20_, c21_, c22_, c23_, c24_, c25_, c26_, c27_, c28_, c29_, c30_, c31_, c32_, c33_, c34_, c35_, c36_⟩ := K_H8.cells hK; obtain ⟨z0_, z1_, z2_, z3_, z4_, z5_, z6_, z7_, -⟩ := K_H8.zs hK; have HK := Lib.hid hK; clear hK
    go_wp2_with fail
    refine (same_refl _ _ _ _ _ _ _).mono ?_
    rintro e w11 ⟨rfl, hb⟩
    clear c0_ c1_ c2_ c3_ c4_ c5_ c6_ c7_ c8_ c9_ c10_ c11_ c12_ c13_ c14_ c15_ c16_ c17_ c18_ c19_ c20_ c21_ c22_ c23_ c24_ c25_ c26_ c27_ c28_ c29_ c30_ c31_ c32_ c33_ c34_ c35_ c36_ z0_ z1_ z2_ z3_ z4_ z5_ z6_ z7_
    have hK := K_H8.below hb HK.out
    clear hb HK
    obtain ⟨c0_, c1_, c2_, c3_, c4_, c5_, c6_, c7_, c8_, c9_, c10_, c11_, c12_, c13_, c14_, c15_, c16_, c17_, c18_, c19_, c20_, c21_, c22_, c23_, c24_, c25_, c26_, c27_, c28_, c29_, c30_, c31_, c32_, c33_, c34_, c35_, c36_⟩ := K_H8.cells hK; obtain ⟨z0_, z1_, z2_, z3_, z4_, z5_, z6_, z7_, -⟩ := K_H8.zs hK; have HK := Lib.hid hK; clear hK
    go_wp2_with fail
    refine (same_refl _ _ _ _ _ _ _).mono ?_
    rintro e w12 ⟨rfl, hb⟩
    clear c0_ c1_ c2_ c3_ c4_ c5_ c6_ c7_ c8_ c9_ c10_ c11_ c12_ c13_ c14_ c15_ c16_ c17_ c18_ c19_ c20_ c21_ c22_ c23_ c24_ c25_ c26_ c27_ c28_ c29_ c30_ c31_ c32_ c33_ c34_ c35_ c36_ z0_ z1_ z2_ z3_ z4_ z5_ z6_ z7_
    have hK := K_H8.below hb HK.out
    clear hb HK
    obtain ⟨c0_, c1_, c2_, c3_, c4_, c5_, c6_, c7_, c8_, c9_, c10_, c11_, c12_, c13_, c14_, c15_, c16_, c17_, c18_, c19_, c20_, c21_, c22_, c23_, c24_, c25_, c26_, c27_, c28_, c29_, c30_, c31_, c32_, c33_, c34_, c35_, c36_⟩ := K_H8.cells hK; obtain ⟨z0_, z1_, z2_, z3_, z4_, z5_, z6_, z7_, -⟩ := K_H8.zs hK; have HK := Lib.hid hK; clear hK
    go_wp2
    go_ret
    exact ⟨rfl, K_H8.bel HK.out⟩
set_option maxHeartbeats 6400000 in
theorem sums_Cf (n0 n1 n2 n3 d m0 m1 m2 m3 f a c : Int) (w : World) (hp : chkQ n0 n1 n2 n3 d = 0) (hq : chkQ m0 m1 m2 m3 f = 0) (hf : frB a c = true) : Calls Tryd.prog 4 #[.agg #[.int .i64 n0, .int .i64 n1, .int .i64 n2, .int .i64 n3, .int .i64 d], .agg #[.int .i64 m0, .int .i64 m1, .int .i64 m2, .int .i64 m3, .int .i64 f], .agg #[.int .i64 a, .int .i64 c]] w fun e w' => e = .returned (.bool true) ∧ Below w.heap.size w w' := by
  have AD := Lib.hid (fun W => Add_ok n0 n1 n2 n3 d m0 m1 m2 m3 f W hp hq)
  have RA := Lib.hid (fun W => rAdd_any n0 n1 n2 n3 d m0 m1 m2 m3 f W hp hq)
  have SU := Lib.hid (fun W => Sub_ok n0 n1 n2 n3 d m0 m1 m2 m3 f W hp hq)
  have RS := Lib.hid (fun W => rAdd_any n0 n1 n2 n3 d (-m0) (-m1) (-m2) (-m3) f W hp (chkQ_neg hq))
  have NG := Lib.hid (fun W => rNeg_any m0 m1 m2 m3 f W hq)
  obtain ⟨s, hs⟩ : ∃ s, fitQ (addq ⟨n0, n1, n2, n3, d⟩ ⟨m0, m1, m2, m3, f⟩) = s := ⟨_, rfl⟩
  obtain ⟨e1, he1⟩ : ∃ s, fitE (addq ⟨n0, n1, n2, n3, d⟩ ⟨m0, m1, m2, m3, f⟩) = s := ⟨_, rfl⟩
  obtain ⟨t, ht⟩ : ∃ s, fitQ (addq ⟨n0, n1, n2, n3, d⟩ ⟨-m0, -m1, -m2, -m3, f⟩) = s := ⟨_, rfl⟩
  obtain ⟨e2, he2⟩ : ∃ s, fitE (addq ⟨n0, n1, n2, n3, d⟩ ⟨-m0, -m1, -m2, -m3, f⟩) = s := ⟨_, rfl⟩
  rw [hs, he1] at AD RA
  rw [ht, he2] at SU RS
  have HQ := Lib.hid hq
  clear hs he1 ht he2
  have SC := Lib.hid (fun W => Scale_ok n0 n1 n2 n3 d a c W hp hf)
  have RC := Lib.hid (fun W => rScale_any n0 n1 n2 n3 d a c W hp hf)
  obtain ⟨u, hu⟩ : ∃ s, fitQ (scaleq ⟨n0, n1, n2, n3, d⟩ a c) = s := ⟨_, rfl⟩
  obtain ⟨e3, he3⟩ : ∃ s, fitE (scaleq ⟨n0, n1, n2, n3, d⟩ a c) = s := ⟨_, rfl⟩
  rw [hu, he3] at SC RC
  have HF := Lib.hid (show chkF a c = 0 by unfold chkF; rw [if_pos hf])
  clear hu he3
  have HP := Lib.hid hp
  clear hp hq hf
  go_enter Tryd.func4, Tryd.ntmps4
  go_wp2_with fail
  refine (awake_any _).mono ?_
  rintro e w1 ⟨rfl, hb⟩
  have hK : K_H3 n0 n1 n2 n3 d m0 m1 m2 m3 f a c w.heap.size (w.heap.size + 1) (w.heap.size + 2) w w1 := KL.below hb ((((KL.nil w).push5 n0 n1 n2 n3 d _ _ rfl).push5 m0 m1 m2 m3 f _ _ (by simp)).push2 a c _ _ (by simp))
  clear hb
  obtain ⟨c0_, c1_, c2_, c3_, c4_, c5_, c6_, c7_, c8_, c9_, c10_, c11_⟩ := K_H3.cells hK; obtain ⟨z0_, z1_, z2_, -⟩ := K_H3.zs hK; have HK := Lib.hid hK; clear hK
  go_wp2_with fail
  refine (AD.out _).mono ?_
  rintro e w2 ⟨rfl, hb⟩
  clear c0_ c1_ c2_ c3_ c4_ c5_ c6_ c7_ c8_ c9_ c10_ c11_ z0_ z1_ z2_
  have hK := K_H3.below hb HK.out
  clear hb HK
  obtain ⟨c0_, c1_, c2_, c3_, c4_, c5_, c6_, c7_, c8_, c9_, c10_, c11_⟩ := K_H3.cells hK; obtain ⟨z0_, z1_, z2_, -⟩ := K_H3.zs hK; have HK := Lib.hid hK; clear hK
  go_wp2_with fail
  refine (SU.out _).mono ?_
  rintro e w3 ⟨rfl, hb⟩
  clear c0_ c1_ c2_ c3_ c4_ c5_ c6_ c7_ c8_ c9_ c10_ c11_ z0_ z1_ z2_
  have hK : K_H4 n0 n1 n2 n3 d m0 m1 m2 m3 f a c s.w s.x s.y s.z s.d w.heap.size (w.heap.size + 1) (w.heap.size + 2) w2.heap.size w w3 := KL.below hb (KL.push5 HK.out s.w s.x s.y s.z s.d _ _ rfl)
  clear hb HK
  obtain ⟨c0_, c1_, c2_, c3_, c4_, c5_, c6_, c7_, c8_, c9_, c10_, c11_, c12_, c13_, c14_, c15_, c16_⟩ := K_H4.cells hK; obtain ⟨z0_, z1_, z2_, z3_, -⟩ := K_H4.zs hK; have HK := Lib.hid hK; clear hK
  go_wp2_with fail
  refine (SC.out _).mono ?_
  rintro e w4 ⟨rfl, hb⟩
  clear c0_ c1_ c2_ c3_ c4_ c5_ c6_ c7_ c8_ c9_ c10_ c11_ c12_ c13_ c14_ c15_ c16_ z0_ z1_ z2_ z3_
  have hK : K_H5 n0 n1 n2 n3 d m0 m1 m2 m3 f a c s.w s.x s.y s.z s.d t.w t.x t.y t.z t.d w.heap.size (w.heap.size + 1) (w.heap.size + 2) w2.heap.size w3.heap.size w w4 := KL.below hb (KL.push5 HK.out t.w t.x t.y t.z t.d _ _ rfl)
  clear hb HK
  obtain ⟨c0_, c1_, c2_, c3_, c4_, c5_, c6_, c7_, c8_, c9_, c10_, c11_, c12_, c13_, c14_, c15_, c16_, c17_, c18_, c19_, c20_, c21_⟩ := K_H5.cells hK; obtain ⟨z0_, z1_, z2_, z3_, z4_, -⟩ := K_H5.zs hK; have HK := Lib.hid hK; clear hK
  go_wp2_with fail
  refine (rCheckQuat_any _ _ _ _ _ _).mono ?_
  rintro e w5 ⟨rfl, hb⟩
  rw [HP.out]
  clear c0_ c1_ c2_ c3_ c4_ c5_ c6_ c7_ c8_ c9_ c10_ c11_ c12_ c13_ c14_ c15_ c16_ c17_ c18_ c19_ c20_ c21_ z0_ z1_ z2_ z3_ z4_
  have hK : K_H6 n0 n1 n2 n3 d m0 m1 m2 m3 f a c s.w s.x s.y s.z s.d t.w t.x t.y t.z t.d u.w u.x u.y u.z u.d w.heap.size (w.heap.size + 1) (w.heap.size + 2) w2.heap.size w3.heap.size w4.heap.size w w5 := KL.below hb (KL.push5 HK.out u.w u.x u.y u.z u.d _ _ rfl)
  clear hb HK
  obtain ⟨c0_, c1_, c2_, c3_, c4_, c5_, c6_, c7_, c8_, c9_, c10_, c11_, c12_, c13_, c14_, c15_, c16_, c17_, c18_, c19_, c20_, c21_, c22_, c23_, c24_, c25_, c26_⟩ := K_H6.cells hK; obtain ⟨z0_, z1_, z2_, z3_, z4_, z5_, -⟩ := K_H6.zs hK; have HK := Lib.hid hK; clear hK
  go_wp2_with fail
  refine (rCheckQuat_any _ _ _ _ _ _).mono ?_
  rintro e w6 ⟨rfl, hb⟩
  rw [HQ.out]
  clear c0_ c1_ c2_ c3_ c4_ c5_ c6_ c7_ c8_ c9_ c10_ c11_ c12_ c13_ c14_ c15_ c16_ c17_ c18_ c19_ c20_ c21_ c22_ c23_ c24_ c25_ c26_ z0_ z1_ z2_ z3_ z4_ z5_
  have hK := K_H6.below hb HK.out
  clear hb HK
  obtain ⟨c0_, c1_, c2_, c3_, c4_, c5_, c6_, c7_, c8_, c9_, c10_, c11_, c12_, c13_, c14_, c15_, c16_, c17_, c18_, c19_, c20_, c21_, c22_, c23_, c24_, c25_, c26_⟩ := K_H6.cells hK; obtain ⟨z0_, z1_, z2_, z3_, z4_, z5_, -⟩ := K_H6.zs hK; have HK := Lib.hid hK; clear hK
  go_wp2_with fail
  refine (CheckFrac_any _ _ _).mono ?_
  rintro e w7 ⟨rfl, hb⟩
  rw [HF.out]
  clear c0_ c1_ c2_ c3_ c4_ c5_ c6_ c7_ c8_ c9_ c10_ c11_ c12_ c13_ c14_ c15_ c16_ c17_ c18_ c19_ c20_ c21_ c22_ c23_ c24_ c25_ c26_ z0_ z1_ z2_ z3_ z4_ z5_
  have hK := K_H6.below hb HK.out
  clear hb HK
  obtain ⟨c0_, c1_, c2_, c3_, c4_, c5_, c6_, c7_, c8_, c9_, c10_, c11_, c12_, c13_, c14_, c15_, c16_, c17_, c18_, c19_, c20_, c21_, c22_, c23_, c24_, c25_, c26_⟩ := K_H6.cells hK; obtain ⟨z0_, z1_, z2_, z3_, z4_, z5_, -⟩ := K_H6.zs hK; have HK := Lib.hid hK; clear hK
  go_wp2_with fail
  refine (RA.out _).mono ?_
  rintro e w8 ⟨rfl, hb⟩
  clear c0_ c1_ c2_ c3_ c4_ c5_ c6_ c7_ c8_ c9_ c10_ c11_ c12_ c13_ c14_ c15_ c16_ c17_ c18_ c19_ c20_ c21_ c22_ c23_ c24_ c25_ c26_ z0_ z1_ z2_ z3_ z4_ z5_
  have hK := K_H6.below hb HK.out
  clear hb HK
  obtain ⟨c0_, c1_, c2_, c3_, c4_, c5_, c6_, c7_, c8_, c9_, c10_, c11_, c12_, c13_, c14_, c15_, c16_, c17_, c18_, c19_, c20_, c21_, c22_, c23_, c24_, c25_, c26_⟩ := K_H6.cells hK; obtain ⟨z0_, z1_, z2_, z3_, z4_, z5_, -⟩ := K_H6.zs hK; have HK := Lib.hid hK; clear hK
  go_wp2_with fail
  have hk : K_H7 n0 n1 n2 n3 d m0 m1 m2 m3 f a c s.w s.x s.y s.z s.d t.w t.x t.y t.z t.d u.w u.x u.y u.z u.d s.w s.x s.y s.z s.d w.heap.size (w.heap.size + 1) (w.heap.size + 2) w2.heap.size w3.heap.size w4.heap.size w8.heap.size w (w8.alloc (.cells #[.int .i64 s.w, .int .i64 s.x, .int .i64 s.y, .int .i64 s.z, .int .i64 s.d] 25)) := KL.push5 HK.out s.w s.x s.y s.z s.d _ _ rfl
  have y0 : w.heap.size < w8.heap.size := by omega
  have y1 : w.heap.size + 1 < w8.heap.size := by omega
  have y2 : w.heap.size + 2 < w8.heap.size := by omega
  have y3 : w2.heap.size < w8.heap.size := by omega
  have y4 : w3.heap.size < w8.heap.size := by omega
  have y5 : w4.heap.size < w8.heap.size := by omega
  clear c0_ c1_ c2_ c3_ c4_ c5_ c6_ c7_ c8_ c9_ c10_ c11_ c12_ c13_ c14_ c15_ c16_ c17_ c18_ c19_ c20_ c21_ c22_ c23_ c24_ c25_ c26_ z0_ z1_ z2_ z3_ z4_ z5_
  clear HK
  go_region_held3 (fun w' => (w'.cell? ⟨w8.heap.size, 0, none⟩ = some (.int .i64 s.w) ∧ w'.cell? ⟨w8.heap.size, 1, none⟩ = some (.int .i64 s.x) ∧ w'.cell? ⟨w8.heap.size, 2, none⟩ = some (.int .i64 s.y) ∧ w'.cell? ⟨w8.heap.size, 3, none⟩ = some (.int .i64 s.z) ∧ w'.cell? ⟨w8.heap.size, 4, none⟩ = some (.int .i64 s.d) ∧ w'.cell? ⟨w4.heap.size, 0, none⟩ = some (.int .i64 u.w) ∧ w'.cell? ⟨w4.heap.size, 1, none⟩ = some (.int .i64 u.x) ∧ w'.cell? ⟨w4.heap.size, 2, none⟩ = some (.int .i64 u.y) ∧ w'.cell? ⟨w4.heap.size, 3, none⟩ = some (.int .i64 u.z) ∧ w'.cell? ⟨w4.heap.size, 4, none⟩ = some (.int .i64 u.d) ∧ w'.cell? ⟨w3.heap.size, 0, none⟩ = some (.int .i64 t.w) ∧ w'.cell? ⟨w3.heap.size, 1, none⟩ = some (.int .i64 t.x) ∧ w'.cell? ⟨w3.heap.size, 2, none⟩ = some (.int .i64 t.y) ∧ w'.cell? ⟨w3.heap.size, 3, none⟩ = some (.int .i64 t.z) ∧ w'.cell? ⟨w3.heap.size, 4, none⟩ = some (.int .i64 t.d) ∧ w'.cell? ⟨w2.heap.size, 0, none⟩ = some (.int .i64 s.w) ∧ w'.cell? ⟨w2.heap.size, 1, none⟩ = some (.int .i64 s.x) ∧ w'.cell? ⟨w2.heap.size, 2, none⟩ = some (.int .i64 s.y) ∧ w'.cell? ⟨w2.heap.size, 3, none⟩ = some (.int .i64 s.z) ∧ w'.cell? ⟨w2.heap.size, 4, none⟩ = some (.int .i64 s.d) ∧ w'.cell? ⟨(w.heap.size + 2), 0, none⟩ = some (.int .i64 a) ∧ w'.cell? ⟨(w.heap.size + 2), 1, none⟩ = some (.int .i64 c) ∧ w'.cell? ⟨(w.heap.size + 1), 0, none⟩ = some (.int .i64 m0) ∧ w'.cell? ⟨(w.heap.size + 1), 1, none⟩ = some (.int .i64 m1) ∧ w'.cell? ⟨(w.heap.size + 1), 2, none⟩ = some (.int .i64 m2) ∧ w'.cell? ⟨(w.heap.size + 1), 3, none⟩ = some (.int .i64 m3) ∧ w'.cell? ⟨(w.heap.size + 1), 4, none⟩ = some (.int .i64 f) ∧ w'.cell? ⟨w.heap.size, 0, none⟩ = some (.int .i64 n0) ∧ w'.cell? ⟨w.heap.size, 1, none⟩ = some (.int .i64 n1) ∧ w'.cell? ⟨w.heap.size, 2, none⟩ = some (.int .i64 n2) ∧ w'.cell? ⟨w.heap.size, 3, none⟩ = some (.int .i64 n3) ∧ w'.cell? ⟨w.heap.size, 4, none⟩ = some (.int .i64 d)) ∧ K_H7 n0 n1 n2 n3 d m0 m1 m2 m3 f a c s.w s.x s.y s.z s.d t.w t.x t.y t.z t.d u.w u.x u.y u.z u.d s.w s.x s.y s.z s.d w.heap.size (w.heap.size + 1) (w.heap.size + 2) w2.heap.size w3.heap.size w4.heap.size w8.heap.size w w') ((refine K_H7.ks ?_; repeat (first | (with_reducible assumption) | (with_reducible refine K_H7.draws _ ?_) | (with_reducible refine K_H7.drew ?_) | (with_reducible refine K_H7.alloc _ ?_) | (with_reducible refine K_H7.set ?_ _ _ _ (by omega)))))
    (first
      | (go_at_call 24; (with_reducible refine (NG.out _).mono ?_); rintro e w' ⟨rfl, hbel⟩; have hk' := K_H7.below hbel (And.right (by assumption)); (first | (have hz : K_Z 0 0 0 0 0 (w8.heap.size + 1) w w' := KL.below hbel (KL.draws 1 (KL.push5w (KL.sub0 hk) 0 0 0 0 0 _ _ (by simp)))) | skip); clear hbel)
      | (go_at_call 23; have hold := hk'; (with_reducible refine (RS.out _).mono ?_); rintro e w'' ⟨rfl, hbel⟩; have hk2 := K_H7.below hbel (And.right (by assumption)); obtain ⟨z0_, z1_, z2_, z3_, z4_, z5_, z6_, -⟩ := K_H7.zs hold; obtain ⟨x0_, x1_, x2_, x3_, x4_, x5_, x6_, -⟩ := K_H7.zs hk2; (first | (have hz2 : K_Z 0 0 0 0 0 w'.heap.size w w'' := KL.below hbel (KL.push5w (KL.sub0 hold) 0 0 0 0 0 _ _ rfl); obtain ⟨c0_, c1_, c2_, c3_, c4_, f0_, f1_, f2_, f3_, f4_⟩ := K_Z.cells hz2) | (have hz2 := K_Z.below hbel hz; obtain ⟨c0_, c1_, c2_, c3_, c4_, f0_, f1_, f2_, f3_, f4_⟩ := K_Z.cells hz2) | skip); clear hbel))
  all_goals go_outline
  · rename_i hh
    clear hh
    have hK : K_H8 n0 n1 n2 n3 d m0 m1 m2 m3 f a c s.w s.x s.y s.z s.d t.w t.x t.y t.z t.d u.w u.x u.y u.z u.d s.w s.x s.y s.z s.d t.w t.x t.y t.z t.d w.heap.size (w.heap.size + 1) (w.heap.size + 2) w2.heap.size w3.heap.size w4.heap.size w8.heap.size w''.heap.size w (w''.alloc (.cells #[.int .i64 t.w, .int .i64 t.x, .int .i64 t.y, .int .i64 t.z, .int .i64 t.d] 25)) := KL.push5 hk2 t.w t.x t.y t.z t.d _ _ rfl
    clear hk hk' hold hk2 z0_ x0_ z1_ x1_ z2_ x2_ z3_ x3_ z4_ x4_ z5_ x5_ z6_ x6_
    generalize (w''.alloc (.cells #[.int .i64 t.w, .int .i64 t.x, .int .i64 t.y, .int .i64 t.z, .int .i64 t.d] 25)) = w9 at hK ⊢
    obtain ⟨c0_, c1_, c2_, c3_, c4_, c5_, c6_, c7_, c8_, c9_, c10_, c11_, c12_, c13_, c14_, c15_, c16_, c17_, c18_, c19_, c20_, c21_, c22_, c23_, c24_, c25_, c26_, c27_, c28_, c29_, c30_, c31_, c32_, c33_, c34_, c35_, c36_⟩ := K_H8.cells hK; obtain ⟨z0_, z1_, z2_, z3_, z4_, z5_, z6_, z7_, -⟩ := K_H8.zs hK; have HK := Lib.hid hK; clear hK
    go_wp2_with fail
    refine (same_refl _ _ _ _ _ _ _).mono ?_
    rintro e w10 ⟨rfl, hb⟩
    clear c0_ c1_ c2_ c3_ c4_ c5_ c6_ c7_ c8_ c9_ c10_ c11_ c12_ c13_ c14_ c15_ c16_ c17_ c18_ c19_ c20_ c21_ c22_ c23_ c24_ c25_ c26_ c27_ c28_ c29_ c30_ c31_ c32_ c33_ c34_ c35_ c36_ z0_ z1_ z2_ z3_ z4_ z5_ z6_ z7_
    have hK := K_H8.below hb HK.out
    clear hb HK
    obtain ⟨c0_, c1_, c2_, c3_, c4_, c5_, c6_, c7_, c8_, c9_, c10_, c11_, c12_, c13_, c14_, c15_, c16_, c17_, c18_, c19_, c20_, c21_, c22_, c23_, c24_, c25_, c26_, c27_, c28_, c29_, c30_, c31_, c32_, c33_, c34_, c35_, c36_⟩ := K_H8.cells hK; obtain ⟨z0_, z1_, z2_, z3_, z4_, z5_, z6_, z7_, -⟩ := K_H8.zs hK; have HK := Lib.hid hK; clear hK
    go_wp2_with fail
    refine (same_refl _ _ _ _ _ _ _).mono ?_
    rintro e w11 ⟨rfl, hb⟩
    clear c0_ c1_ c2_ c3_ c4_ c5_ c6_ c7_ c8_ c9_ c10_ c11_ c12_ c13_ c14_ c15_ c16_ c17_ c18_ c19_ c20_ c21_ c22_ c23_ c24_ c25_ c26_ c27_ c28_ c29_ c30_ c31_ c32_ c33_ c34_ c35_ c36_ z0_ z1_ z2_ z3_ z4_ z5_ z6_ z7_
    have hK := K_H8.below hb HK.out
    clear hb HK
    obtain ⟨c0_, c1_, c2_, c3_, c4_, c5_, c6_, c7_, c8_, c9_, c10_, c11_, c12_, c13_, c14_, c15_, c16_, c17_, c18_, c19_, c20_, c21_, c22_, c23_, c24_, c25_, c26_, c27_, c28_, c29_, c30_, c31_, c32_, c33_, c34_, c35_, c36_⟩ := K_H8.cells hK; obtain ⟨z0_, z1_, z2_, z3_, z4_, z5_, z6_, z7_, -⟩ := K_H8.zs hK; have HK := Lib.hid hK; clear hK
    go_wp2_with fail
    refine (RC.out _).mono ?_
    rintro e w12 ⟨rfl, hb⟩
    clear c0_ c1_ c2_ c3_ c4_ c5_ c6_ c7_ c8_ c9_ c10_ c11_ c12_ c13_ c14_ c15_ c16_ c17_ c18_ c19_ c20_ c21_ c22_ c23_ c24_ c25_ c26_ c27_ c28_ c29_ c30_ c31_ c32_ c33_ c34_ c35_ c36_ z0_ z1_ z2_ z3_ z4_ z5_ z6_ z7_
    have hK := K_H8.below hb HK.out
    clear hb HK
    obtain ⟨c0_, c1_, c2_, c3_, c4_, c5_, c6_, c7_, c8_, c9_, c10_, c11_, c12_, c13_, c14_, c15_, c16_, c17_, c18_, c19_, c20_, c21_, c22_, c23_, c24_, c25_, c26_, c27_, c28_, c29_, c30_, c31_, c32_, c33_, c34_, c35_, c36_⟩ := K_H8.cells hK; obtain ⟨z0_, z1_, z2_, z3_, z4_, z5_, z6_, z7_, -⟩ := K_H8.zs hK; have HK := Lib.hid hK; clear hK
    go_wp2_with fail
    refine (same_refl _ _ _ _ _ _ _).mono ?_
    rintro e w13 ⟨rfl, hb⟩
    clear c0_ c1_ c2_ c3_ c4_ c5_ c6_ c7_ c8_ c9_ c10_ c11_ c12_ c13_ c14_ c15_ c16_ c17_ c18_ c19_ c20_ c21_ c22_ c23_ c24_ c25_ c26_ c27_ c28_ c29_ c30_ c31_ c32_ c33_ c34_ c35_ c36_ z0_ z1_ z2_ z3_ z4_ z5_ z6_ z7_
    have hK := KL.below hb (KL.alloc _ HK.out)
    clear hb HK
    go_wp2
    go_ret
    exact ⟨rfl, KL.bel hK⟩
  · rename_i hh
    obtain ⟨-, hk3⟩ := hh
    have hK : K_H8 n0 n1 n2 n3 d m0 m1 m2 m3 f a c s.w s.x s.y s.z s.d t.w t.x t.y t.z t.d u.w u.x u.y u.z u.d s.w s.x s.y s.z s.d t.w t.x t.y t.z t.d w.heap.size (w.heap.size + 1) (w.heap.size + 2) w2.heap.size w3.heap.size w4.heap.size w8.heap.size w'.heap.size w ((((((((((w'').setCell ⟨w'.heap.size, 0, none⟩ (.int .i64 (t).w))).setCell ⟨w'.heap.size, 1, none⟩ (.int .i64 (t).x))).setCell ⟨w'.heap.size, 2, none⟩ (.int .i64 (t).y))).setCell ⟨w'.heap.size, 3, none⟩ (.int .i64 (t).z))).setCell ⟨w'.heap.size, 4, none⟩ (.int .i64 (t).d)) := KL.cons5 hk3 _ t.w t.x t.y t.z t.d (by simp [go_sem, c0_, c1_, c2_, c3_, c4_, f0_, f1_, f2_, f3_, f4_]) (by simp [go_sem, c0_, c1_, c2_, c3_, c4_, f0_, f1_, f2_, f3_, f4_]) (by simp [go_sem, c0_, c1_, c2_, c3_, c4_, f0_, f1_, f2_, f3_, f4_]) (by simp [go_sem, c0_, c1_, c2_, c3_, c4_, f0_, f1_, f2_, f3_, f4_]) (by simp [go_sem, c0_, c1_, c2_, c3_, c4_, f0_, f1_, f2_, f3_, f4_])
    clear hk hk' hold hk2 hk3 z0_ x0_ z1_ x1_ z2_ x2_ z3_ x3_ z4_ x4_ z5_ x5_ z6_ x6_
    (try clear hz)
    clear hz2 c0_ c1_ c2_ c3_ c4_ f0_ f1_ f2_ f3_ f4_
    generalize ((((((((((w'').setCell ⟨w'.heap.size, 0, none⟩ (.int .i64 (t).w))).setCell ⟨w'.heap.size, 1, none⟩ (.int .i64 (t).x))).setCell ⟨w'.heap.size, 2, none⟩ (.int .i64 (t).y))).setCell ⟨w'.heap.size, 3, none⟩ (.int .i64 (t).z))).setCell ⟨w'.heap.size, 4, none⟩ (.int .i64 (t).d)) = w9 at hK ⊢
    obtain ⟨c0_, c1_, c2_, c3_, c4_, c5_, c6_, c7_, c8_, c9_, c10_, c11_, c12_, c13_, c14_, c15_, c16_, c17_, c18_, c19_, c20_, c21_, c22_, c23_, c24_, c25_, c26_, c27_, c28_, c29_, c30_, c31_, c32_, c33_, c34_, c35_, c36_⟩ := K_H8.cells hK; obtain ⟨z0_, z1_, z2_, z3_, z4_, z5_, z6_, z7_, -⟩ := K_H8.zs hK; have HK := Lib.hid hK; clear hK
    go_wp2_with fail
    refine (same_refl _ _ _ _ _ _ _).mono ?_
    rintro e w10 ⟨rfl, hb⟩
    clear c0_ c1_ c2_ c3_ c4_ c5_ c6_ c7_ c8_ c9_ c10_ c11_ c12_ c13_ c14_ c15_ c16_ c17_ c18_ c19_ c20_ c21_ c22_ c23_ c24_ c25_ c26_ c27_ c28_ c29_ c30_ c31_ c32_ c33_ c34_ c35_ c36_ z0_ z1_ z2_ z3_ z4_ z5_ z6_ z7_
    have hK := K_H8.below hb HK.out
    clear hb HK
    obtain ⟨c0_, c1_, c2_, c3_, c4_, c5_, c6_, c7_, c8_, c9_, c10_, c11_, c12_, c13_, c14_, c15_, c16_, c17_, c18_, c19_, c20_, c21_, c22_, c23_, c24_, c25_, c26_, c27_, c28_, c29_, c30_, c31_, c32_, c33_, c34_, c35_, c36_⟩ := K_H8.cells hK; obtain ⟨z0_, z1_, z2_, z3_, z4_, z5_, z6_, z7_, -⟩ := K_H8.zs hK; have HK := Lib.hid hK; clear hK
    go_wp2_with fail
    refine (same_refl _ _ _ _ _ _ _).mono ?_
    rintro e w11 ⟨rfl, hb⟩
    clear c0_ c1_ c2_ c3_ c4_ c5_ c6_ c7_ c8_ c9_ c10_ c11_ c12_ c13_ c14_ c15_ c16_ c17_ c18_ c19_ c20_ c21_ c22_ c23_ c24_ c25_ c26_ c27_ c28_ c29_ c30_ c31_ c32_ c33_ c34_ c35_ c36_ z0_ z1_ z2_ z3_ z4_ z5_ z6_ z7_
    have hK := K_H8.below hb HK.out
    clear hb HK
    obtain ⟨c0_, c1_, c2_, c3_, c4_, c5_, c6_, c7_, c8_, c9_, c10_, c11_, c12_, c13_, c14_, c15_, c16_, c17_, c18_, c19_, c20_, c21_, c22_, c23_, c24_, c25_, c26_, c27_, c28_, c29_, c30_, c31_, c32_, c33_, c34_, c35_, c36_⟩ := K_H8.cells hK; obtain ⟨z0_, z1_, z2_, z3_, z4_, z5_, z6_, z7_, -⟩ := K_H8.zs hK; have HK := Lib.hid hK; clear hK
    go_wp2_with fail
    refine (RC.out _).mono ?_
    rintro e w12 ⟨rfl, hb⟩
    clear c0_ c1_ c2_ c3_ c4_ c5_ c6_ c7_ c8_ c9_ c10_ c11_ c12_ c13_ c14_ c15_ c16_ c17_ c18_ c19_ c20_ c21_ c22_ c23_ c24_ c25_ c26_ c27_ c28_ c29_ c30_ c31_ c32_ c33_ c34_ c35_ c36_ z0_ z1_ z2_ z3_ z4_ z5_ z6_ z7_
    have hK := K_H8.below hb HK.out
    clear hb HK
    obtain ⟨c0_, c1_, c2_, c3_, c4_, c5_, c6_, c7_, c8_, c9_, c10_, c11_, c12_, c13_, c14_, c15_, c16_, c17_, c18_, c19_, c20_, c21_, c22_, c23_, c24_, c25_, c26_, c27_, c28_, c29_, c30_, c31_, c32_, c33_, c34_, c35_, c36_⟩ := K_H8.cells hK; obtain ⟨z0_, z1_, z2_, z3_, z4_, z5_, z6_, z7_, -⟩ := K_H8.zs hK; have HK := Lib.hid hK; clear hK
    go_wp2_with fail
    refine (same_refl _ _ _ _ _ _ _).mono ?_
    rintro e w13 ⟨rfl, hb⟩
    clear c0_ c1_ c2_ c3_ c4_ c5_ c6_ c7_ c8_ c9_ c10_ c11_ c12_ c13_ c14_ c15_ c16_ c17_ c18_ c19_ c20_ c21_ c22_ c23_ c24_ c25_ c26_ c27_ c28_ c29_ c30_ c31_ c32_ c33_ c34_ c35_ c36_ z0_ z1_ z2_ z3_ z4_ z5_ z6_ z7_
    have hK := KL.below hb (KL.alloc _ HK.out)
    clear hb HK
    go_wp2
    go_ret
    exact ⟨rfl, KL.bel hK⟩
  · rename_i hh
    obtain ⟨-, hk3⟩ := hh
    have hK : K_H8 n0 n1 n2 n3 d m0 m1 m2 m3 f a c s.w s.x s.y s.z s.d t.w t.x t.y t.z t.d u.w u.x u.y u.z u.d s.w s.x s.y s.z s.d t.w t.x t.y t.z t.d w.heap.size (w.heap.size + 1) (w.heap.size + 2) w2.heap.size w3.heap.size w4.heap.size w8.heap.size (w8.heap.size + 1) w ((((((((((w'').setCell ⟨(w8.heap.size + 1), 0, none⟩ (.int .i64 (t).w))).setCell ⟨(w8.heap.size + 1), 1, none⟩ (.int .i64 (t).x))).setCell ⟨(w8.heap.size + 1), 2, none⟩ (.int .i64 (t).y))).setCell ⟨(w8.heap.size + 1), 3, none⟩ (.int .i64 (t).z))).setCell ⟨(w8.heap.size + 1), 4, none⟩ (.int .i64 (t).d)) := KL.cons5 hk3 _ t.w t.x t.y t.z t.d (by simp [go_sem, c0_, c1_, c2_, c3_, c4_, f0_, f1_, f2_, f3_, f4_]) (by simp [go_sem, c0_, c1_, c2_, c3_, c4_, f0_, f1_, f2_, f3_, f4_]) (by simp [go_sem, c0_, c1_, c2_, c3_, c4_, f0_, f1_, f2_, f3_, f4_]) (by simp [go_sem, c0_, c1_, c2_, c3_, c4_, f0_, f1_, f2_, f3_, f4_]) (by simp [go_sem, c0_, c1_, c2_, c3_, c4_, f0_, f1_, f2_, f3_, f4_])
    clear hk hk' hold hk2 hk3 z0_ x0_ z1_ x1_ z2_ x2_ z3_ x3_ z4_ x4_ z5_ x5_ z6_ x6_
    (try clear hz)
    clear hz2 c0_ c1_ c2_ c3_ c4_ f0_ f1_ f2_ f3_ f4_
    generalize ((((((((((w'').setCell ⟨(w8.heap.size + 1), 0, none⟩ (.int .i64 (t).w))).setCell ⟨(w8.heap.size + 1), 1, none⟩ (.int .i64 (t).x))).setCell ⟨(w8.heap.size + 1), 2, none⟩ (.int .i64 (t).y))).setCell ⟨(w8.heap.size + 1), 3, none⟩ (.int .i64 (t).z))).setCell ⟨(w8.heap.size + 1), 4, none⟩ (.int .i64 (t).d)) = w9 at hK ⊢
    obtain ⟨c0_, c1_, c2_, c3_, c4_, c5_, c6_, c7_, c8_, c9_, c10_, c11_, c12_, c13_, c14_, c15_, c16_, c17_, c18_, c19_, c20_, c21_, c22_, c23_, c24_, c25_, c26_, c27_, c28_, c29_, c30_, c31_, c32_, c33_, c34_, c35_, c36_⟩ := K_H8.cells hK; obtain ⟨z0_, z1_, z2_, z3_, z4_, z5_, z6_, z7_, -⟩ := K_H8.zs hK; have HK := Lib.hid hK; clear hK
    go_wp2_with fail
    refine (same_refl _ _ _ _ _ _ _).mono ?_
    rintro e w10 ⟨rfl, hb⟩
    clear c0_ c1_ c2_ c3_ c4_ c5_ c6_ c7_ c8_ c9_ c10_ c11_ c12_ c13_ c14_ c15_ c16_ c17_ c18_ c19_ c20_ c21_ c22_ c23_ c24_ c25_ c26_ c27_ c28_ c29_ c30_ c31_ c32_ c33_ c34_ c35_ c36_ z0_ z1_ z2_ z3_ z4_ z5_ z6_ z7_
    have hK := K_H8.below hb HK.out
    clear hb HK
    obtain ⟨c0_, c1_, c2_, c3_, c4_, c5_, c6_, c7_, c8_, c9_, c10_, c11_, c12_, c13_, c14_, c15_, c16_, c17_, c18_, c19_, c20_, c21_, c22_, c23_, c24_, c25_, c26_, c27_, c28_, c29_, c30_, c31_, c32_, c33_, c34_, c35_, c36_⟩ := K_H8.cells hK; obtain ⟨z0_, z1_, z2_, z3_, z4_, z5_, z6_, z7_, -⟩ := K_H8.zs hK; have HK := Lib.hid hK; clear hK
    go_wp2_with fail
    refine (same_refl _ _ _ _ _ _ _).mono ?_
    rintro e w11 ⟨rfl, hb⟩
    clear c0_ c1_ c2_ c3_ c4_ c5_ c6_ c7_ c8_ c9_ c10_ c11_ c12_ c13_ c14_ c15_ c16_ c17_ c18_ c19_ c20_ c21_ c22_ c23_ c24_ c25_ c26_ c27_ c28_ c29_ c30_ c31_ c32_ c33_ c34_ c35_ c36_ z0_ z1_ z2_ z3_ z4_ z5_ z6_ z7_
    have hK := K_H8.below hb HK.out
    clear hb HK
    obtain ⟨c0_, c1_, c2_, c3_, c4_, c5_, c6_, c7_, c8_, c9_, c10_, c11_, c12_, c13_, c14_, c15_, c16_, c17_, c18_, c19_, c20_, c21_, c22_, c23_, c24_, c25_, c26_, c27_, c28_, c29_, c30_, c31_, c32_, c33_, c34_, c35_, c36_⟩ := K_H8.cells hK; obtain ⟨z0_, z1_, z2_, z3_, z4_, z5_, z6_, z7_, -⟩ := K_H8.zs hK; have HK := Lib.hid hK; clear hK
    go_wp2_with fail
    refine (RC.out _).mono ?_
    rintro e w12 ⟨rfl, hb⟩
    clear c0_ c1_ c2_ c3_ c4_ c5_ c6_ c7_ c8_ c9_ c10_ c11_ c12_ c13_ c14_ c15_ c16_ c17_ c18_ c19_ c20_ c21_ c22_ c23_ c24_ c25_ c26_ c27_ c28_ c29_ c30_ c31_ c32_ c33_ c34_ c35_ c36_ z0_ z1_ z2_ z3_ z4_ z5_ z6_ z7_
    have hK := K_H8.below hb HK.out
    clear hb HK
    obtain ⟨c0_, c1_, c2_, c3_, c4_, c5_, c6_, c7_, c8_, c9_, c10_, c11_, c12_, c13_, c14_, c15_, c16_, c17_, c18_, c19_, c20_, c21_, c22_, c23_, c24_, c25_, c26_, c27_, c28_, c29_, c30_, c31_, c32_, c33_, c34_, c35_, c36_⟩ := K_H8.cells hK; obtain ⟨z0_, z1_, z2_, z3_, z4_, z5_, z6_, z7_, -⟩ := K_H8.zs hK; have HK := Lib.hid hK; clear hK
    go_wp2_with fail
    refine (same_refl _ _ _ _ _ _ _).mono ?_
    rintro e w13 ⟨rfl, hb⟩
    clear c0_ c1_ c2_ c3_ c4_ c5_ c6_ c7_ c8_ c9_ c10_ c11_ c12_ c13_ c14_ c15_ c16_ c17_ c18_ c19_ c20_ c21_ c22_ c23_ c24_ c25_ c26_ c27_ c28_ c29_ c30_ c31_ c32_ c33_ c34_ c35_ c36_ z0_ z1_ z2_ z3_ z4_ z5_ z6_ z7_
    have hK := KL.below hb (KL.alloc _ HK.out)
    clear hb HK
    go_wp2
    go_ret
    exact ⟨rfl, KL.bel hK⟩
theorem walk_sums (n0 n1 n2 n3 d m0 m1 m2 m3 f a c : Int) (w : World) : Calls Tryd.prog 4 #[.agg #[.int .i64 n0, .int .i64 n1, .int .i64 n2, .int .i64 n3, .int .i64 d], .agg #[.int .i64 m0, .int .i64 m1, .int .i64 m2, .int .i64 m3, .int .i64 f], .agg #[.int .i64 a, .int .i64 c]] w fun e w' => e = .returned (.bool true) ∧ Below w.heap.size w w' := by
  by_cases hp : chkQ n0 n1 n2 n3 d = 0
  · by_cases hq : chkQ m0 m1 m2 m3 f = 0
    · rcases hf : frB a c with _ | _
      · exact sums_Cn n0 n1 n2 n3 d m0 m1 m2 m3 f a c w hp hq hf
      · exact sums_Cf n0 n1 n2 n3 d m0 m1 m2 m3 f a c w hp hq hf
    · rcases hf : frB a c with _ | _
      · exact sums_Bn n0 n1 n2 n3 d m0 m1 m2 m3 f a c w hp hq hf
      · exact sums_Bf n0 n1 n2 n3 d m0 m1 m2 m3 f a c w hp hq hf
  · exact sums_A n0 n1 n2 n3 d m0 m1 m2 m3 f a c w hp
end Go.Proofs.YtjloanplhbbomaaDoor.Al
