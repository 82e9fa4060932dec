/-
  WALKS: the matrix of a rotation, the program's.
  WALKS: rotations that fit, Matrix, the program's.
  WALKS: the example with which every law begins.
  WALKS: the example with which every law begins.
-/
import Derived.Test.YteiflfmpkfhkoaaRu4
import Derived.Test.YteiflfmpkfhkoaaRtV
import Derived.Test.YteiflfmpkfhkoaaRtJ
namespace Go.Proofs.Yteiflfmpkfhkoaa.Rt
open Go.RowKit
open Alm Hwm Al
set_option linter.unusedVariables false
set_option linter.unusedSimpArgs false
set_option maxRecDepth 100000
/-- what a walk keeps: cells, and that nothing that was there has turned -/
def K_Mx (t0 t1 t2 t3 : Int) (p R : Nat) (w w' : World) : Prop := KL w [(p, 0, .int .i64 t0), (p, 1, .int .i64 t1), (p, 2, .int .i64 t2), (p, 3, .int .i64 t3)] [(R, 0), (R, 1), (R, 2), (R, 3), (R, 4), (R, 5), (R, 6), (R, 7), (R, 8), (R, 9)] w'
theorem K_Mx.below {t0 t1 t2 t3 : Int} {p R : Nat} {w w1 w2 : World} (hb : Below w1.heap.size w1 w2) (h : K_Mx t0 t1 t2 t3 p R w w1) : K_Mx t0 t1 t2 t3 p R w w2 := KL.below hb h
theorem K_Mx.draws {t0 t1 t2 t3 : Int} {p R : Nat} {w w1 : World} (n : Nat) (h : K_Mx t0 t1 t2 t3 p R w w1) : K_Mx t0 t1 t2 t3 p R w (w1.drewN n) := KL.draws n h
theorem K_Mx.drew {t0 t1 t2 t3 : Int} {p R : Nat} {w w1 : World} (h : K_Mx t0 t1 t2 t3 p R w w1) : K_Mx t0 t1 t2 t3 p R w w1.drew := KL.draws 1 h
theorem K_Mx.alloc {t0 t1 t2 t3 : Int} {p R : Nat} {w w1 : World} (o : Obj) (h : K_Mx t0 t1 t2 t3 p R w w1) : K_Mx t0 t1 t2 t3 p R w (w1.alloc o) := KL.alloc o h
theorem K_Mx.set {t0 t1 t2 t3 : Int} {p R : Nat} {w w1 : World} (h : K_Mx t0 t1 t2 t3 p R w w1) (b i : Nat) (v : Value) (hb : b ≠ p ∧ w.heap.size ≤ b) : K_Mx t0 t1 t2 t3 p R w (w1.setCell ⟨b, i, none⟩ v) :=
  KL.set h b i v (by intro x hx; simp only [List.mem_cons, List.not_mem_nil, or_false] at hx; rcases hx with rfl | rfl | rfl | rfl <;> simp only [] <;> omega) (by omega)
theorem K_Mx.bel {t0 t1 t2 t3 : Int} {p R : Nat} {w w1 : World} (h : K_Mx t0 t1 t2 t3 p R w w1) : Below w.heap.size w w1 := KL.bel h
theorem K_Mx.cells {t0 t1 t2 t3 : Int} {p R : Nat} {w w' : World} (h : K_Mx t0 t1 t2 t3 p R w w') : w'.cell? ⟨p, 0, none⟩ = some (.int .i64 t0) ∧ w'.cell? ⟨p, 1, none⟩ = some (.int .i64 t1) ∧ w'.cell? ⟨p, 2, none⟩ = some (.int .i64 t2) ∧ w'.cell? ⟨p, 3, none⟩ = some (.int .i64 t3) ∧ w'.cell? ⟨R, 0, none⟩ = some (cv w' R 0) ∧ w'.frozen? ⟨R, 0, none⟩ = false ∧ w'.cell? ⟨R, 1, none⟩ = some (cv w' R 1) ∧ w'.frozen? ⟨R, 1, none⟩ = false ∧ w'.cell? ⟨R, 2, none⟩ = some (cv w' R 2) ∧ w'.frozen? ⟨R, 2, none⟩ = false ∧ w'.cell? ⟨R, 3, none⟩ = some (cv w' R 3) ∧ w'.frozen? ⟨R, 3, none⟩ = false ∧ w'.cell? ⟨R, 4, none⟩ = some (cv w' R 4) ∧ w'.frozen? ⟨R, 4, none⟩ = false ∧ w'.cell? ⟨R, 5, none⟩ = some (cv w' R 5) ∧ w'.frozen? ⟨R, 5, none⟩ = false ∧ w'.cell? ⟨R, 6, none⟩ = some (cv w' R 6) ∧ w'.frozen? ⟨R, 6, none⟩ = false ∧ w'.cell? ⟨R, 7, none⟩ = some (cv w' R 7) ∧ w'.frozen? ⟨R, 7, none⟩ = false ∧ w'.cell? ⟨R, 8, none⟩ = some (cv w' R 8) ∧ w'.frozen? ⟨R, 8, none⟩ = false ∧ w'.cell? ⟨R, 9, none⟩ = some (cv w' R 9) ∧ w'.frozen? ⟨R, 9, none⟩ = false := ⟨h.c (p, 0, .int .i64 t0) (by simp), h.c (p, 1, .int .i64 t1) (by simp), h.c (p, 2, .int .i64 t2) (by simp), h.c (p, 3, .int .i64 t3) (by simp), h.d (R, 0) (by simp), h.f (R, 0) (by simp), h.d (R, 1) (by simp), h.f (R, 1) (by simp), h.d (R, 2) (by simp), h.f (R, 2) (by simp), h.d (R, 3) (by simp), h.f (R, 3) (by simp), h.d (R, 4) (by simp), h.f (R, 4) (by simp), h.d (R, 5) (by simp), h.f (R, 5) (by simp), h.d (R, 6) (by simp), h.f (R, 6) (by simp), h.d (R, 7) (by simp), h.f (R, 7) (by simp), h.d (R, 8) (by simp), h.f (R, 8) (by simp), h.d (R, 9) (by simp), h.f (R, 9) (by simp)⟩
theorem K_Mx.zs {t0 t1 t2 t3 : Int} {p R : Nat} {w w' : World} (h : K_Mx t0 t1 t2 t3 p R w w') : p < w'.heap.size ∧ R < w'.heap.size ∧ True := ⟨KL.z h (x := (p, 0, .int .i64 t0)) (by simp), KL.zf h (x := (R, 0)) (by simp), trivial⟩
theorem K_Mx.ks {t0 t1 t2 t3 : Int} {p R : Nat} {w w' : World} (h : K_Mx t0 t1 t2 t3 p R w w') : (w'.cell? ⟨p, 0, none⟩ = some (.int .i64 t0) ∧ w'.cell? ⟨p, 1, none⟩ = some (.int .i64 t1) ∧ w'.cell? ⟨p, 2, none⟩ = some (.int .i64 t2) ∧ w'.cell? ⟨p, 3, none⟩ = some (.int .i64 t3) ∧ w'.cell? ⟨R, 0, none⟩ = some (cv w' R 0) ∧ w'.frozen? ⟨R, 0, none⟩ = false ∧ w'.cell? ⟨R, 1, none⟩ = some (cv w' R 1) ∧ w'.frozen? ⟨R, 1, none⟩ = false ∧ w'.cell? ⟨R, 2, none⟩ = some (cv w' R 2) ∧ w'.frozen? ⟨R, 2, none⟩ = false ∧ w'.cell? ⟨R, 3, none⟩ = some (cv w' R 3) ∧ w'.frozen? ⟨R, 3, none⟩ = false ∧ w'.cell? ⟨R, 4, none⟩ = some (cv w' R 4) ∧ w'.frozen? ⟨R, 4, none⟩ = false ∧ w'.cell? ⟨R, 5, none⟩ = some (cv w' R 5) ∧ w'.frozen? ⟨R, 5, none⟩ = false ∧ w'.cell? ⟨R, 6, none⟩ = some (cv w' R 6) ∧ w'.frozen? ⟨R, 6, none⟩ = false ∧ w'.cell? ⟨R, 7, none⟩ = some (cv w' R 7) ∧ w'.frozen? ⟨R, 7, none⟩ = false ∧ w'.cell? ⟨R, 8, none⟩ = some (cv w' R 8) ∧ w'.frozen? ⟨R, 8, none⟩ = false ∧ w'.cell? ⟨R, 9, none⟩ = some (cv w' R 9) ∧ w'.frozen? ⟨R, 9, none⟩ = false) ∧ K_Mx t0 t1 t2 t3 p R w w' := ⟨h.cells, h⟩
/-- what a walk keeps: cells, and that nothing that was there has turned -/
def K_My (e0 e1 e2 e3 e4 e5 e6 e7 e8 t0 t1 t2 t3 : Int) (q p R : Nat) (w w' : World) : Prop := KL w [(q, 0, .int .i64 e0), (q, 1, .int .i64 e1), (q, 2, .int .i64 e2), (q, 3, .int .i64 e3), (q, 4, .int .i64 e4), (q, 5, .int .i64 e5), (q, 6, .int .i64 e6), (q, 7, .int .i64 e7), (q, 8, .int .i64 e8), (p, 0, .int .i64 t0), (p, 1, .int .i64 t1), (p, 2, .int .i64 t2), (p, 3, .int .i64 t3)] [(R, 0), (R, 1), (R, 2), (R, 3), (R, 4), (R, 5), (R, 6), (R, 7), (R, 8), (R, 9)] w'
theorem K_My.below {e0 e1 e2 e3 e4 e5 e6 e7 e8 t0 t1 t2 t3 : Int} {q p R : Nat} {w w1 w2 : World} (hb : Below w1.heap.size w1 w2) (h : K_My e0 e1 e2 e3 e4 e5 e6 e7 e8 t0 t1 t2 t3 q p R w w1) : K_My e0 e1 e2 e3 e4 e5 e6 e7 e8 t0 t1 t2 t3 q p R w w2 := KL.below hb h
theorem K_My.draws {e0 e1 e2 e3 e4 e5 e6 e7 e8 t0 t1 t2 t3 : Int} {q p R : Nat} {w w1 : World} (n : Nat) (h : K_My e0 e1 e2 e3 e4 e5 e6 e7 e8 t0 t1 t2 t3 q p R w w1) : K_My e0 e1 e2 e3 e4 e5 e6 e7 e8 t0 t1 t2 t3 q p R w (w1.drewN n) := KL.draws n h
theorem K_My.drew {e0 e1 e2 e3 e4 e5 e6 e7 e8 t0 t1 t2 t3 : Int} {q p R : Nat} {w w1 : World} (h : K_My e0 e1 e2 e3 e4 e5 e6 e7 e8 t0 t1 t2 t3 q p R w w1) : K_My e0 e1 e2 e3 e4 e5 e6 e7 e8 t0 t1 t2 t3 q p R w w1.drew := KL.draws 1 h
theorem K_My.alloc {e0 e1 e2 e3 e4 e5 e6 e7 e8 t0 t1 t2 t3 : Int} {q p R : Nat} {w w1 : World} (o : Obj) (h : K_My e0 e1 e2 e3 e4 e5 e6 e7 e8 t0 t1 t2 t3 q p R w w1) : K_My e0 e1 e2 e3 e4 e5 e6 e7 e8 t0 t1 t2 t3 q p R w (w1.alloc o) := KL.alloc o h
theorem K_My.set {e0 e1 e2 e3 e4 e5 e6 e7 e8 t0 t1 t2 t3 : Int} {q p R : Nat} {w w1 : World} (h : K_My e0 e1 e2 e3 e4 e5 e6 e7 e8 t0 t1 t2 t3 q p R w w1) (b i : Nat) (v : Value) (hb : b ≠ q ∧ b ≠ p ∧ w.heap.size ≤ b) : K_My e0 e1 e2 e3 e4 e5 e6 e7 e8 t0 t1 t2 t3 q p R w (w1.setCell ⟨b, i, none⟩ v) :=
  KL.set h b i v (by intro x hx; simp only [List.mem_cons, List.not_mem_nil, or_false] at hx; rcases hx with rfl | rfl | rfl | rfl | rfl | rfl | rfl | rfl | rfl | rfl | rfl | rfl | rfl <;> simp only [] <;> omega) (by omega)
theorem K_My.bel {e0 e1 e2 e3 e4 e5 e6 e7 e8 t0 t1 t2 t3 : Int} {q p R : Nat} {w w1 : World} (h : K_My e0 e1 e2 e3 e4 e5 e6 e7 e8 t0 t1 t2 t3 q p R w w1) : Below w.heap.size w w1 := KL.bel h
theorem K_My.cells {e0 e1 e2 e3 e4 e5 e6 e7 e8 t0 t1 t2 t3 : Int} {q p R : Nat} {w w' : World} (h : K_My e0 e1 e2 e3 e4 e5 e6 e7 e8 t0 t1 t2 t3 q p R w w') : w'.cell? ⟨q, 0, none⟩ = some (.int .i64 e0) ∧ w'.cell? ⟨q, 1, none⟩ = some (.int .i64 e1) ∧ w'.cell? ⟨q, 2, none⟩ = some (.int .i64 e2) ∧ w'.cell? ⟨q, 3, none⟩ = some (.int .i64 e3) ∧ w'.cell? ⟨q, 4, none⟩ = some (.int .i64 e4) ∧ w'.cell? ⟨q, 5, none⟩ = some (.int .i64 e5) ∧ w'.cell? ⟨q, 6, none⟩ = some (.int .i64 e6) ∧ w'.cell? ⟨q, 7, none⟩ = some (.int .i64 e7) ∧ w'.cell? ⟨q, 8, none⟩ = some (.int .i64 e8) ∧ w'.cell? ⟨p, 0, none⟩ = some (.int .i64 t0) ∧ w'.cell? ⟨p, 1, none⟩ = some (.int .i64 t1) ∧ w'.cell? ⟨p, 2, none⟩ = some (.int .i64 t2) ∧ w'.cell? ⟨p, 3, none⟩ = some (.int .i64 t3) ∧ w'.cell? ⟨R, 0, none⟩ = some (cv w' R 0) ∧ w'.frozen? ⟨R, 0, none⟩ = false ∧ w'.cell? ⟨R, 1, none⟩ = some (cv w' R 1) ∧ w'.frozen? ⟨R, 1, none⟩ = false ∧ w'.cell? ⟨R, 2, none⟩ = some (cv w' R 2) ∧ w'.frozen? ⟨R, 2, none⟩ = false ∧ w'.cell? ⟨R, 3, none⟩ = some (cv w' R 3) ∧ w'.frozen? ⟨R, 3, none⟩ = false ∧ w'.cell? ⟨R, 4, none⟩ = some (cv w' R 4) ∧ w'.frozen? ⟨R, 4, none⟩ = false ∧ w'.cell? ⟨R, 5, none⟩ = some (cv w' R 5) ∧ w'.frozen? ⟨R, 5, none⟩ = false ∧ w'.cell? ⟨R, 6, none⟩ = some (cv w' R 6) ∧ w'.frozen? ⟨R, 6, none⟩ = false ∧ w'.cell? ⟨R, 7, none⟩ = some (cv w' R 7) ∧ w'.frozen? ⟨R, 7, none⟩ = false ∧ w'.cell? ⟨R, 8, none⟩ = some (cv w' R 8) ∧ w'.frozen? ⟨R, 8, none⟩ = false ∧ w'.cell? ⟨R, 9, none⟩ = some (cv w' R 9) ∧ w'.frozen? ⟨R, 9, none⟩ = false := ⟨h.c (q, 0, .int .i64 e0) (by simp), h.c (q, 1, .int .i64 e1) (by simp), h.c (q, 2, .int .i64 e2) (by simp), h.c (q, 3, .int .i64 e3) (by simp), h.c (q, 4, .int .i64 e4) (by simp), h.c (q, 5, .int .i64 e5) (by simp), h.c (q, 6, .int .i64 e6) (by simp), h.c (q, 7, .int .i64 e7) (by simp), h.c (q, 8, .int .i64 e8) (by simp), h.c (p, 0, .int .i64 t0) (by simp), h.c (p, 1, .int .i64 t1) (by simp), h.c (p, 2, .int .i64 t2) (by simp), h.c (p, 3, .int .i64 t3) (by simp), h.d (R, 0) (by simp), h.f (R, 0) (by simp), h.d (R, 1) (by simp), h.f (R, 1) (by simp), h.d (R, 2) (by simp), h.f (R, 2) (by simp), h.d (R, 3) (by simp), h.f (R, 3) (by simp), h.d (R, 4) (by simp), h.f (R, 4) (by simp), h.d (R, 5) (by simp), h.f (R, 5) (by simp), h.d (R, 6) (by simp), h.f (R, 6) (by simp), h.d (R, 7) (by simp), h.f (R, 7) (by simp), h.d (R, 8) (by simp), h.f (R, 8) (by simp), h.d (R, 9) (by simp), h.f (R, 9) (by simp)⟩
theorem K_My.zs {e0 e1 e2 e3 e4 e5 e6 e7 e8 t0 t1 t2 t3 : Int} {q p R : Nat} {w w' : World} (h : K_My e0 e1 e2 e3 e4 e5 e6 e7 e8 t0 t1 t2 t3 q p R w w') : q < w'.heap.size ∧ p < w'.heap.size ∧ R < w'.heap.size ∧ True := ⟨KL.z h (x := (q, 0, .int .i64 e0)) (by simp), KL.z h (x := (p, 0, .int .i64 t0)) (by simp), KL.zf h (x := (R, 0)) (by simp), trivial⟩
theorem K_My.ks {e0 e1 e2 e3 e4 e5 e6 e7 e8 t0 t1 t2 t3 : Int} {q p R : Nat} {w w' : World} (h : K_My e0 e1 e2 e3 e4 e5 e6 e7 e8 t0 t1 t2 t3 q p R w w') : (w'.cell? ⟨q, 0, none⟩ = some (.int .i64 e0) ∧ w'.cell? ⟨q, 1, none⟩ = some (.int .i64 e1) ∧ w'.cell? ⟨q, 2, none⟩ = some (.int .i64 e2) ∧ w'.cell? ⟨q, 3, none⟩ = some (.int .i64 e3) ∧ w'.cell? ⟨q, 4, none⟩ = some (.int .i64 e4) ∧ w'.cell? ⟨q, 5, none⟩ = some (.int .i64 e5) ∧ w'.cell? ⟨q, 6, none⟩ = some (.int .i64 e6) ∧ w'.cell? ⟨q, 7, none⟩ = some (.int .i64 e7) ∧ w'.cell? ⟨q, 8, none⟩ = some (.int .i64 e8) ∧ w'.cell? ⟨p, 0, none⟩ = some (.int .i64 t0) ∧ w'.cell? ⟨p, 1, none⟩ = some (.int .i64 t1) ∧ w'.cell? ⟨p, 2, none⟩ = some (.int .i64 t2) ∧ w'.cell? ⟨p, 3, none⟩ = some (.int .i64 t3) ∧ w'.cell? ⟨R, 0, none⟩ = some (cv w' R 0) ∧ w'.frozen? ⟨R, 0, none⟩ = false ∧ w'.cell? ⟨R, 1, none⟩ = some (cv w' R 1) ∧ w'.frozen? ⟨R, 1, none⟩ = false ∧ w'.cell? ⟨R, 2, none⟩ = some (cv w' R 2) ∧ w'.frozen? ⟨R, 2, none⟩ = false ∧ w'.cell? ⟨R, 3, none⟩ = some (cv w' R 3) ∧ w'.frozen? ⟨R, 3, none⟩ = false ∧ w'.cell? ⟨R, 4, none⟩ = some (cv w' R 4) ∧ w'.frozen? ⟨R, 4, none⟩ = false ∧ w'.cell? ⟨R, 5, none⟩ = some (cv w' R 5) ∧ w'.frozen? ⟨R, 5, none⟩ = false ∧ w'.cell? ⟨R, 6, none⟩ = some (cv w' R 6) ∧ w'.frozen? ⟨R, 6, none⟩ = false ∧ w'.cell? ⟨R, 7, none⟩ = some (cv w' R 7) ∧ w'.frozen? ⟨R, 7, none⟩ = false ∧ w'.cell? ⟨R, 8, none⟩ = some (cv w' R 8) ∧ w'.frozen? ⟨R, 8, none⟩ = false ∧ w'.cell? ⟨R, 9, none⟩ = some (cv w' R 9) ∧ w'.frozen? ⟨R, 9, none⟩ = false) ∧ K_My e0 e1 e2 e3 e4 e5 e6 e7 e8 t0 t1 t2 t3 q p R w w' := ⟨h.cells, h⟩
theorem KL.push9 {w0 : World} {cs : List (Nat × Nat × Value)} {fs : List (Nat × Nat)} {w : World} (h : KL w0 cs fs w) (e0 e1 e2 e3 e4 e5 e6 e7 e8 : Int) (T : TypeId) (p : Nat) (hp : p = w.heap.size) : KL w0 ((p, 0, .int .i64 e0) :: (p, 1, .int .i64 e1) :: (p, 2, .int .i64 e2) :: (p, 3, .int .i64 e3) :: (p, 4, .int .i64 e4) :: (p, 5, .int .i64 e5) :: (p, 6, .int .i64 e6) :: (p, 7, .int .i64 e7) :: (p, 8, .int .i64 e8) :: cs) fs (w.alloc (.cells #[.int .i64 e0, .int .i64 e1, .int .i64 e2, .int .i64 e3, .int .i64 e4, .int .i64 e5, .int .i64 e6, .int .i64 e7, .int .i64 e8] T)) := by
  subst hp
  have h1 := h.alloc (.cells #[.int .i64 e0, .int .i64 e1, .int .i64 e2, .int .i64 e3, .int .i64 e4, .int .i64 e5, .int .i64 e6, .int .i64 e7, .int .i64 e8] T)
  refine ⟨fun x hx => ?_, h1.g, h1.f, h1.bel⟩
  simp only [List.mem_cons] at hx
  rcases hx with rfl | rfl | rfl | rfl | rfl | rfl | rfl | rfl | rfl | hx
  · simp [go_sem]
  · simp [go_sem]
  · simp [go_sem]
  · simp [go_sem]
  · simp [go_sem]
  · simp [go_sem]
  · simp [go_sem]
  · simp [go_sem]
  · simp [go_sem]
  · exact h1.c x hx
/-- the matrix of a quaternion, over its norm -/
def rmat (t : H) : R10 := ⟨t.w * t.w + t.x * t.x - t.y * t.y - t.z * t.z, 2 * (t.x * t.y - t.w * t.z), 2 * (t.x * t.z + t.w * t.y), 2 * (t.x * t.y + t.w * t.z), t.w * t.w - t.x * t.x + t.y * t.y - t.z * t.z, 2 * (t.y * t.z - t.w * t.x), 2 * (t.x * t.z - t.w * t.y), 2 * (t.y * t.z + t.w * t.x), t.w * t.w - t.x * t.x - t.y * t.y + t.z * t.z, nn t⟩
theorem rmat_fit (t : H) (h : HB 1000000 t) (hz : 0 < nn t) : (rmat t).fit 1000000000000000 := by
  obtain ⟨t0, t1, t2, t3⟩ := t
  obtain ⟨h0, h1, h2, h3⟩ := h
  simp only [] at h0 h1 h2 h3
  obtain ⟨q0, r0⟩ := Bn.mul 1000000000000 h0 h0 rfl
  obtain ⟨q1, r1⟩ := Bn.mul 1000000000000 h1 h1 rfl
  obtain ⟨q2, r2⟩ := Bn.mul 1000000000000 h2 h2 rfl
  obtain ⟨q3, r3⟩ := Bn.mul 1000000000000 h3 h3 rfl
  obtain ⟨q4, r4⟩ := Bn.mul 1000000000000 h1 h2 rfl
  obtain ⟨q5, r5⟩ := Bn.mul 1000000000000 h0 h3 rfl
  obtain ⟨q6, r6⟩ := Bn.mul 1000000000000 h1 h3 rfl
  obtain ⟨q7, r7⟩ := Bn.mul 1000000000000 h0 h2 rfl
  obtain ⟨q8, r8⟩ := Bn.mul 1000000000000 h2 h3 rfl
  obtain ⟨q9, r9⟩ := Bn.mul 1000000000000 h0 h1 rfl
  unfold R10.fit rmat
  unfold nn at hz ⊢
  simp only [] at hz ⊢
  exact ⟨⟨by omega, by omega⟩, ⟨by omega, by omega⟩, ⟨by omega, by omega⟩, ⟨by omega, by omega⟩, ⟨by omega, by omega⟩, ⟨by omega, by omega⟩, ⟨by omega, by omega⟩, ⟨by omega, by omega⟩, ⟨by omega, by omega⟩, by omega, by omega⟩
set_option maxHeartbeats 25600000 in
theorem matrix_any (t : H) (w : World) (h : HB 1000000 t) (hz : 0 < nn t) :
    Calls Try.prog 104 #[.agg #[.int .i64 (t).w, .int .i64 (t).x, .int .i64 (t).y, .int .i64 (t).z]] w fun e w' => e = .returned (.agg #[.int .i64 ((rmat t).low.a0), .int .i64 ((rmat t).low.a1), .int .i64 ((rmat t).low.a2), .int .i64 ((rmat t).low.a3), .int .i64 ((rmat t).low.a4), .int .i64 ((rmat t).low.a5), .int .i64 ((rmat t).low.a6), .int .i64 ((rmat t).low.a7), .int .i64 ((rmat t).low.a8), .int .i64 ((rmat t).low.d)]) ∧ Below w.heap.size w w' := by
  have IL := Lib.hid (fun W => inLowest_R (rmat t) W (rmat_fit t h hz))
  have SQ := Lib.hid (fun W => squares_f t.w t.x t.y t.z W (by have := h.1; omega) (by have := h.2.1; omega) (by have := h.2.2.1; omega) (by have := h.2.2.2; omega))
  rw [show ∀ q : H, H.mk q.w q.x q.y q.z = q from fun _ => rfl] at SQ
  rw [show (rmat t).d = nn t from rfl] at IL
  obtain ⟨h0, h1, h2, h3⟩ := h
  clear hz
  have ea0 : (rmat t).a0 = t.w * t.w + t.x * t.x - t.y * t.y - t.z * t.z := rfl
  have ea1 : (rmat t).a1 = 2 * (t.x * t.y - t.w * t.z) := rfl
  have ea2 : (rmat t).a2 = 2 * (t.x * t.z + t.w * t.y) := rfl
  have ea3 : (rmat t).a3 = 2 * (t.x * t.y + t.w * t.z) := rfl
  have ea4 : (rmat t).a4 = t.w * t.w - t.x * t.x + t.y * t.y - t.z * t.z := rfl
  have ea5 : (rmat t).a5 = 2 * (t.y * t.z - t.w * t.x) := rfl
  have ea6 : (rmat t).a6 = 2 * (t.x * t.z - t.w * t.y) := rfl
  have ea7 : (rmat t).a7 = 2 * (t.y * t.z + t.w * t.x) := rfl
  have ea8 : (rmat t).a8 = t.w * t.w - t.x * t.x - t.y * t.y + t.z * t.z := rfl
  generalize (rmat t).low = lo at *
  generalize nn t = d at *
  rw [ea0] at IL
  rw [ea1] at IL
  rw [ea2] at IL
  rw [ea3] at IL
  rw [ea4] at IL
  rw [ea5] at IL
  rw [ea6] at IL
  rw [ea7] at IL
  rw [ea8] at IL
  clear ea0 ea1 ea2 ea3 ea4 ea5 ea6 ea7 ea8
  obtain ⟨t0, t1, t2, t3⟩ := t
  obtain ⟨l0, l1, l2, l3, l4, l5, l6, l7, l8, l9⟩ := lo
  simp only [] at h0 h1 h2 h3 IL SQ ⊢
  obtain ⟨q0, r0⟩ := Bn.mul 1000000000000 h0 h0 rfl
  obtain ⟨q1, r1⟩ := Bn.mul 1000000000000 h1 h1 rfl
  obtain ⟨q2, r2⟩ := Bn.mul 1000000000000 h2 h2 rfl
  obtain ⟨q3, r3⟩ := Bn.mul 1000000000000 h3 h3 rfl
  obtain ⟨q4, r4⟩ := Bn.mul 1000000000000 h1 h2 rfl
  obtain ⟨q5, r5⟩ := Bn.mul 1000000000000 h0 h3 rfl
  obtain ⟨q6, r6⟩ := Bn.mul 1000000000000 h1 h3 rfl
  obtain ⟨q7, r7⟩ := Bn.mul 1000000000000 h0 h2 rfl
  obtain ⟨q8, r8⟩ := Bn.mul 1000000000000 h2 h3 rfl
  obtain ⟨q9, r9⟩ := Bn.mul 1000000000000 h0 h1 rfl
  have w0 := IntWalk.i64_in (t0 * t0) (by omega)
  have w1 := IntWalk.i64_in (t1 * t1) (by omega)
  have w2 := IntWalk.i64_in (t2 * t2) (by omega)
  have w3 := IntWalk.i64_in (t3 * t3) (by omega)
  have w4 := IntWalk.i64_in (t1 * t2) (by omega)
  have w5 := IntWalk.i64_in (t0 * t3) (by omega)
  have w6 := IntWalk.i64_in (t1 * t3) (by omega)
  have w7 := IntWalk.i64_in (t0 * t2) (by omega)
  have w8 := IntWalk.i64_in (t2 * t3) (by omega)
  have w9 := IntWalk.i64_in (t0 * t1) (by omega)
  have w10 := IntWalk.i64_in (t0 * t0 + t1 * t1) (by omega)
  have w11 := IntWalk.i64_in (t0 * t0 + t1 * t1 - t2 * t2) (by omega)
  have w12 := IntWalk.i64_in (t0 * t0 + t1 * t1 - t2 * t2 - t3 * t3) (by omega)
  have w13 := IntWalk.i64_in (t1 * t2 - t0 * t3) (by omega)
  have w14 := IntWalk.i64_in (2 * (t1 * t2 - t0 * t3)) (by omega)
  have w15 := IntWalk.i64_in (t1 * t3 + t0 * t2) (by omega)
  have w16 := IntWalk.i64_in (2 * (t1 * t3 + t0 * t2)) (by omega)
  have w17 := IntWalk.i64_in (2 * (t1 * t2 + t0 * t3)) (by omega)
  have w18 := IntWalk.i64_in (t1 * t2 + t0 * t3) (by omega)
  have w19 := IntWalk.i64_in (t0 * t0 - t1 * t1) (by omega)
  have w20 := IntWalk.i64_in (t0 * t0 - t1 * t1 + t2 * t2) (by omega)
  have w21 := IntWalk.i64_in (t0 * t0 - t1 * t1 + t2 * t2 - t3 * t3) (by omega)
  have w22 := IntWalk.i64_in (t2 * t3 - t0 * t1) (by omega)
  have w23 := IntWalk.i64_in (2 * (t2 * t3 - t0 * t1)) (by omega)
  have w24 := IntWalk.i64_in (t1 * t3 - t0 * t2) (by omega)
  have w25 := IntWalk.i64_in (2 * (t1 * t3 - t0 * t2)) (by omega)
  have w26 := IntWalk.i64_in (t2 * t3 + t0 * t1) (by omega)
  have w27 := IntWalk.i64_in (2 * (t2 * t3 + t0 * t1)) (by omega)
  have w28 := IntWalk.i64_in (t0 * t0 - t1 * t1 - t2 * t2) (by omega)
  have w29 := IntWalk.i64_in (t0 * t0 - t1 * t1 - t2 * t2 + t3 * t3) (by omega)
  clear q0 r0 q1 r1 q2 r2 q3 r3 q4 r4 q5 r5 q6 r6 q7 r7 q8 r8 q9 r9 h0 h1 h2 h3
  go_enter Try.func104, Try.ntmps104
  go_wp2_with fail
  have hk : K_Mx t0 t1 t2 t3 w.heap.size (w.heap.size + 1) w ((w.alloc (.cells #[.int .i64 t0, .int .i64 t1, .int .i64 t2, .int .i64 t3] 129)).alloc (.cells #[.int .i64 0, .int .i64 0, .int .i64 0, .int .i64 0, .int .i64 0, .int .i64 0, .int .i64 0, .int .i64 0, .int .i64 0, .int .i64 0] 83)) := ⟨by simp [go_sem], by simp [go_sem], by simp [go_sem], by (repeat (first | (with_reducible exact Below.refl _ _) | (with_reducible exact HB.out) | (with_reducible refine below_draws ?_ _) | (with_reducible refine Below.alloc ?_ (by go_size) _) | (with_reducible refine Below.setCell ?_ (by go_size) _) | (with_reducible refine Below.alloc ?_ (by simp <;> omega) _) | (with_reducible refine Below.setCell ?_ (by simp <;> omega) _)))⟩
  generalize ((w.alloc (.cells #[.int .i64 t0, .int .i64 t1, .int .i64 t2, .int .i64 t3] 129)).alloc (.cells #[.int .i64 0, .int .i64 0, .int .i64 0, .int .i64 0, .int .i64 0, .int .i64 0, .int .i64 0, .int .i64 0, .int .i64 0, .int .i64 0] 83)) = W0 at hk ⊢
  go_region_held3 (fun w' => (w'.cell? ⟨w.heap.size, 0, none⟩ = some (.int .i64 t0) ∧ w'.cell? ⟨w.heap.size, 1, none⟩ = some (.int .i64 t1) ∧ w'.cell? ⟨w.heap.size, 2, none⟩ = some (.int .i64 t2) ∧ w'.cell? ⟨w.heap.size, 3, none⟩ = some (.int .i64 t3) ∧ w'.cell? ⟨(w.heap.size + 1), 0, none⟩ = some (cv w' ((w.heap.size + 1)) 0) ∧ w'.frozen? ⟨(w.heap.size + 1), 0, none⟩ = false ∧ w'.cell? ⟨(w.heap.size + 1), 1, none⟩ = some (cv w' ((w.heap.size + 1)) 1) ∧ w'.frozen? ⟨(w.heap.size + 1), 1, none⟩ = false ∧ w'.cell? ⟨(w.heap.size + 1), 2, none⟩ = some (cv w' ((w.heap.size + 1)) 2) ∧ w'.frozen? ⟨(w.heap.size + 1), 2, none⟩ = false ∧ w'.cell? ⟨(w.heap.size + 1), 3, none⟩ = some (cv w' ((w.heap.size + 1)) 3) ∧ w'.frozen? ⟨(w.heap.size + 1), 3, none⟩ = false ∧ w'.cell? ⟨(w.heap.size + 1), 4, none⟩ = some (cv w' ((w.heap.size + 1)) 4) ∧ w'.frozen? ⟨(w.heap.size + 1), 4, none⟩ = false ∧ w'.cell? ⟨(w.heap.size + 1), 5, none⟩ = some (cv w' ((w.heap.size + 1)) 5) ∧ w'.frozen? ⟨(w.heap.size + 1), 5, none⟩ = false ∧ w'.cell? ⟨(w.heap.size + 1), 6, none⟩ = some (cv w' ((w.heap.size + 1)) 6) ∧ w'.frozen? ⟨(w.heap.size + 1), 6, none⟩ = false ∧ w'.cell? ⟨(w.heap.size + 1), 7, none⟩ = some (cv w' ((w.heap.size + 1)) 7) ∧ w'.frozen? ⟨(w.heap.size + 1), 7, none⟩ = false ∧ w'.cell? ⟨(w.heap.size + 1), 8, none⟩ = some (cv w' ((w.heap.size + 1)) 8) ∧ w'.frozen? ⟨(w.heap.size + 1), 8, none⟩ = false ∧ w'.cell? ⟨(w.heap.size + 1), 9, none⟩ = some (cv w' ((w.heap.size + 1)) 9) ∧ w'.frozen? ⟨(w.heap.size + 1), 9, none⟩ = false) ∧ K_Mx t0 t1 t2 t3 w.heap.size (w.heap.size + 1) w w') ((refine K_Mx.ks ?_; repeat (first | (with_reducible assumption) | (with_reducible refine K_Mx.draws _ ?_) | (with_reducible refine K_Mx.drew ?_) | (with_reducible refine K_Mx.alloc _ ?_) | (with_reducible refine K_Mx.set ?_ _ _ _ (by omega))))) (fail)
  have hK := K_Mx.drew hk
  clear hk
  generalize W0.drew = W1 at hK ⊢
  have hk : K_My (t0 * t0 + t1 * t1 - t2 * t2 - t3 * t3) (2 * (t1 * t2 - t0 * t3)) (2 * (t1 * t3 + t0 * t2)) (2 * (t1 * t2 + t0 * t3)) (t0 * t0 - t1 * t1 + t2 * t2 - t3 * t3) (2 * (t2 * t3 - t0 * t1)) (2 * (t1 * t3 - t0 * t2)) (2 * (t2 * t3 + t0 * t1)) (t0 * t0 - t1 * t1 - t2 * t2 + t3 * t3) t0 t1 t2 t3 W1.heap.size w.heap.size (w.heap.size + 1) w (W1.alloc (.cells #[.int .i64 (t0 * t0 + t1 * t1 - t2 * t2 - t3 * t3), .int .i64 (2 * (t1 * t2 - t0 * t3)), .int .i64 (2 * (t1 * t3 + t0 * t2)), .int .i64 (2 * (t1 * t2 + t0 * t3)), .int .i64 (t0 * t0 - t1 * t1 + t2 * t2 - t3 * t3), .int .i64 (2 * (t2 * t3 - t0 * t1)), .int .i64 (2 * (t1 * t3 - t0 * t2)), .int .i64 (2 * (t2 * t3 + t0 * t1)), .int .i64 (t0 * t0 - t1 * t1 - t2 * t2 + t3 * t3)] 81)) := KL.push9 hK _ _ _ _ _ _ _ _ _ _ _ rfl
  obtain ⟨zz1, zz2, -⟩ := K_Mx.zs hK
  clear hK
  go_wp2_with fail
  clear w0 w1 w2 w3 w4 w5 w6 w7 w8 w9 w10 w11 w12 w13 w14 w15 w16 w17 w18 w19 w20 w21 w22 w23 w24 w25 w26 w27 w28 w29
  generalize (W1.alloc (.cells #[.int .i64 (t0 * t0 + t1 * t1 - t2 * t2 - t3 * t3), .int .i64 (2 * (t1 * t2 - t0 * t3)), .int .i64 (2 * (t1 * t3 + t0 * t2)), .int .i64 (2 * (t1 * t2 + t0 * t3)), .int .i64 (t0 * t0 - t1 * t1 + t2 * t2 - t3 * t3), .int .i64 (2 * (t2 * t3 - t0 * t1)), .int .i64 (2 * (t1 * t3 - t0 * t2)), .int .i64 (2 * (t2 * t3 + t0 * t1)), .int .i64 (t0 * t0 - t1 * t1 - t2 * t2 + t3 * t3)] 81)) = W2 at hk ⊢
  generalize W1.heap.size = q at *
  generalize t0 * t0 + t1 * t1 - t2 * t2 - t3 * t3 = e0 at *
  generalize 2 * (t1 * t2 - t0 * t3) = e1 at *
  generalize 2 * (t1 * t3 + t0 * t2) = e2 at *
  generalize 2 * (t1 * t2 + t0 * t3) = e3 at *
  generalize t0 * t0 - t1 * t1 + t2 * t2 - t3 * t3 = e4 at *
  generalize 2 * (t2 * t3 - t0 * t1) = e5 at *
  generalize 2 * (t1 * t3 - t0 * t2) = e6 at *
  generalize 2 * (t2 * t3 + t0 * t1) = e7 at *
  generalize t0 * t0 - t1 * t1 - t2 * t2 + t3 * t3 = e8 at *
  go_region_held3 (fun w' => (w'.cell? ⟨q, 0, none⟩ = some (.int .i64 e0) ∧ w'.cell? ⟨q, 1, none⟩ = some (.int .i64 e1) ∧ w'.cell? ⟨q, 2, none⟩ = some (.int .i64 e2) ∧ w'.cell? ⟨q, 3, none⟩ = some (.int .i64 e3) ∧ w'.cell? ⟨q, 4, none⟩ = some (.int .i64 e4) ∧ w'.cell? ⟨q, 5, none⟩ = some (.int .i64 e5) ∧ w'.cell? ⟨q, 6, none⟩ = some (.int .i64 e6) ∧ w'.cell? ⟨q, 7, none⟩ = some (.int .i64 e7) ∧ w'.cell? ⟨q, 8, none⟩ = some (.int .i64 e8) ∧ w'.cell? ⟨w.heap.size, 0, none⟩ = some (.int .i64 t0) ∧ w'.cell? ⟨w.heap.size, 1, none⟩ = some (.int .i64 t1) ∧ w'.cell? ⟨w.heap.size, 2, none⟩ = some (.int .i64 t2) ∧ w'.cell? ⟨w.heap.size, 3, none⟩ = some (.int .i64 t3) ∧ w'.cell? ⟨(w.heap.size + 1), 0, none⟩ = some (cv w' ((w.heap.size + 1)) 0) ∧ w'.frozen? ⟨(w.heap.size + 1), 0, none⟩ = false ∧ w'.cell? ⟨(w.heap.size + 1), 1, none⟩ = some (cv w' ((w.heap.size + 1)) 1) ∧ w'.frozen? ⟨(w.heap.size + 1), 1, none⟩ = false ∧ w'.cell? ⟨(w.heap.size + 1), 2, none⟩ = some (cv w' ((w.heap.size + 1)) 2) ∧ w'.frozen? ⟨(w.heap.size + 1), 2, none⟩ = false ∧ w'.cell? ⟨(w.heap.size + 1), 3, none⟩ = some (cv w' ((w.heap.size + 1)) 3) ∧ w'.frozen? ⟨(w.heap.size + 1), 3, none⟩ = false ∧ w'.cell? ⟨(w.heap.size + 1), 4, none⟩ = some (cv w' ((w.heap.size + 1)) 4) ∧ w'.frozen? ⟨(w.heap.size + 1), 4, none⟩ = false ∧ w'.cell? ⟨(w.heap.size + 1), 5, none⟩ = some (cv w' ((w.heap.size + 1)) 5) ∧ w'.frozen? ⟨(w.heap.size + 1), 5, none⟩ = false ∧ w'.cell? ⟨(w.heap.size + 1), 6, none⟩ = some (cv w' ((w.heap.size + 1)) 6) ∧ w'.frozen? ⟨(w.heap.size + 1), 6, none⟩ = false ∧ w'.cell? ⟨(w.heap.size + 1), 7, none⟩ = some (cv w' ((w.heap.size + 1)) 7) ∧ w'.frozen? ⟨(w.heap.size + 1), 7, none⟩ = false ∧ w'.cell? ⟨(w.heap.size + 1), 8, none⟩ = some (cv w' ((w.heap.size + 1)) 8) ∧ w'.frozen? ⟨(w.heap.size + 1), 8, none⟩ = false ∧ w'.cell? ⟨(w.heap.size + 1), 9, none⟩ = some (cv w' ((w.heap.size + 1)) 9) ∧ w'.frozen? ⟨(w.heap.size + 1), 9, none⟩ = false) ∧ K_My e0 e1 e2 e3 e4 e5 e6 e7 e8 t0 t1 t2 t3 q w.heap.size (w.heap.size + 1) w w') ((refine K_My.ks ?_; repeat (first | (with_reducible assumption) | (with_reducible refine K_My.draws _ ?_) | (with_reducible refine K_My.drew ?_) | (with_reducible refine K_My.alloc _ ?_) | (with_reducible refine K_My.set ?_ _ _ _ (by omega)))))
    (first
      | (go_at_call 119; (with_reducible refine (SQ.out _).mono ?_); rintro e w' ⟨rfl, hbel⟩; have hk' := K_My.below hbel (And.right (by assumption)); clear hbel)
      | (go_at_call 117; (with_reducible refine (IL.out _).mono ?_); rintro e w'' ⟨rfl, hbel⟩; have hk'' := K_My.below hbel (And.right (by assumption)); clear hbel))
  all_goals
    have HP := KL.put10n (p := w.heap.size + 1) hk'' (by simp) (by intro x hx; simp only [List.mem_cons, List.not_mem_nil, or_false] at hx; rcases hx with rfl | rfl | rfl | rfl | rfl | rfl | rfl | rfl | rfl | rfl | rfl | rfl | rfl <;> (simp only []; omega)) (by omega) l0 l1 l2 l3 l4 l5 l6 l7 l8 l9
    have hQ : K_D1v l0 l1 l2 l3 l4 l5 l6 l7 l8 l9 (w.heap.size + 1) w _ := KL.sub HP (fun x hx => by simp only [List.mem_cons, List.not_mem_nil, or_false] at hx ⊢; rcases hx with rfl | rfl | rfl | rfl | rfl | rfl | rfl | rfl | rfl | rfl <;> simp) (fun x hx => by simp at hx)
    clear HP hk hk' hk''
    generalize ((((((((((w''.setCell ⟨w.heap.size + 1, 0, none⟩ (.int .i64 l0)).setCell ⟨w.heap.size + 1, 1, none⟩ (.int .i64 l1)).setCell ⟨w.heap.size + 1, 2, none⟩ (.int .i64 l2)).setCell ⟨w.heap.size + 1, 3, none⟩ (.int .i64 l3)).setCell ⟨w.heap.size + 1, 4, none⟩ (.int .i64 l4)).setCell ⟨w.heap.size + 1, 5, none⟩ (.int .i64 l5)).setCell ⟨w.heap.size + 1, 6, none⟩ (.int .i64 l6)).setCell ⟨w.heap.size + 1, 7, none⟩ (.int .i64 l7)).setCell ⟨w.heap.size + 1, 8, none⟩ (.int .i64 l8)).setCell ⟨w.heap.size + 1, 9, none⟩ (.int .i64 l9)) = W9 at hQ ⊢
    have hK := hQ
    clear hQ
    obtain ⟨c0_, c1_, c2_, c3_, c4_, c5_, c6_, c7_, c8_, c9_⟩ := K_D1v.cells hK; obtain ⟨z0_, -⟩ := K_D1v.zs hK; have HK := Lib.hid hK; clear hK
    have HB := Lib.hid (K_D1v.bel HK.out)
    go_wp2
    exact bodyPost_ret (v := .agg #[.int .i64 l0, .int .i64 l1, .int .i64 l2, .int .i64 l3, .int .i64 l4, .int .i64 l5, .int .i64 l6, .int .i64 l7, .int .i64 l8, .int .i64 l9]) (by simp [results, Try.results104, go_sem, c0_, c1_, c2_, c3_, c4_, c5_, c6_, c7_, c8_, c9_, z0_]) rfl ⟨rfl, by (repeat (first | (with_reducible exact Below.refl _ _) | (with_reducible exact HB.out) | (with_reducible refine below_draws ?_ _) | (with_reducible refine Below.alloc ?_ (by go_size) _) | (with_reducible refine Below.setCell ?_ (by go_size) _) | (with_reducible refine Below.alloc ?_ (by simp <;> omega) _) | (with_reducible refine Below.setCell ?_ (by simp <;> omega) _)))⟩
end Go.Proofs.Yteiflfmpkfhkoaa.Rt
namespace Go.Proofs.Yteiflfmpkfhkoaa.Rt
open Go.RowKit
open Alm Hwm Al
set_option linter.unusedVariables false
set_option linter.unusedSimpArgs false
set_option maxRecDepth 100000
set_option maxHeartbeats 3200000 in
theorem fitting_large (l0 l1 l2 l3 l4 l5 l6 l7 l8 l9 : Int) (w : World) (h : 1000000 < l9) :
    Calls Try.prog 103 #[.agg #[.int .i64 l0, .int .i64 l1, .int .i64 l2, .int .i64 l3, .int .i64 l4, .int .i64 l5, .int .i64 l6, .int .i64 l7, .int .i64 l8, .int .i64 l9]] w fun e w' => e = .returned (.tuple #[.agg #[.int .i64 0, .int .i64 0, .int .i64 0, .int .i64 0, .int .i64 0, .int .i64 0, .int .i64 0, .int .i64 0, .int .i64 0, .int .i64 0], .int .i64 8]) ∧ Below w.heap.size w w' := by
  have t1 : decide (l9 > 1000000) = true := decide_eq_true h
  have t2 : decide (1000000 < l9) = true := t1
  clear h
  go_enter Try.func103, Try.ntmps103
  go_upto_region 1 with (fail)
  have hK : K_Il l0 l1 l2 l3 l4 l5 l6 l7 l8 l9 w.heap.size (w.heap.size + 1) w ((w.alloc (.cells #[.int .i64 l0, .int .i64 l1, .int .i64 l2, .int .i64 l3, .int .i64 l4, .int .i64 l5, .int .i64 l6, .int .i64 l7, .int .i64 l8, .int .i64 l9] 83)).alloc (.cells #[.int .i64 0, .int .i64 0, .int .i64 0, .int .i64 0, .int .i64 0, .int .i64 0, .int .i64 0, .int .i64 0, .int .i64 0, .int .i64 0] 83)) := ⟨by simp [go_sem], by simp [go_sem], by simp [go_sem], by (repeat (first | (with_reducible exact Below.refl _ _) | (with_reducible exact HB.out) | (with_reducible refine below_draws ?_ _) | (with_reducible refine Below.alloc ?_ (by go_size) _) | (with_reducible refine Below.setCell ?_ (by go_size) _) | (with_reducible refine Below.alloc ?_ (by simp <;> omega) _) | (with_reducible refine Below.setCell ?_ (by simp <;> omega) _)))⟩
  generalize ((w.alloc (.cells #[.int .i64 l0, .int .i64 l1, .int .i64 l2, .int .i64 l3, .int .i64 l4, .int .i64 l5, .int .i64 l6, .int .i64 l7, .int .i64 l8, .int .i64 l9] 83)).alloc (.cells #[.int .i64 0, .int .i64 0, .int .i64 0, .int .i64 0, .int .i64 0, .int .i64 0, .int .i64 0, .int .i64 0, .int .i64 0, .int .i64 0] 83)) = W0 at hK ⊢
  obtain ⟨c0_, c1_, c2_, c3_, c4_, c5_, c6_, c7_, c8_, c9_, f0_, f1_, f2_, f3_, f4_, f5_, f6_, f7_, f8_, f9_, d10_, f10_, d11_, f11_, d12_, f12_, d13_, f13_, d14_, f14_, d15_, f15_, d16_, f16_, d17_, f17_, d18_, f18_, d19_, f19_⟩ := K_Il.cells hK; obtain ⟨z0_, z1_, -⟩ := K_Il.zs hK; have HK := Lib.hid hK; clear hK
  have HP := Lib.hid (KL.put10n (p := w.heap.size + 1) HK.out (by simp) (by intro x hx; simp only [List.mem_cons, List.not_mem_nil, or_false] at hx; rcases hx with rfl | rfl | rfl | rfl | rfl | rfl | rfl | rfl | rfl | rfl <;> (simp only []; omega)) (by omega) 0 0 0 0 0 0 0 0 0 0)
  go_wp2
  clear c0_ c1_ c2_ c3_ c4_ c5_ c6_ c7_ c8_ c9_ f0_ f1_ f2_ f3_ f4_ f5_ f6_ f7_ f8_ f9_ d10_ f10_ d11_ f11_ d12_ f12_ d13_ f13_ d14_ f14_ d15_ f15_ d16_ f16_ d17_ f17_ d18_ f18_ d19_ f19_ z0_ z1_
  clear HK
  have hQ : K_D1v 0 0 0 0 0 0 0 0 0 0 (w.heap.size + 1) w _ := KL.sub HP.out (fun x hx => by simp only [List.mem_cons, List.not_mem_nil, or_false] at hx ⊢; rcases hx with rfl | rfl | rfl | rfl | rfl | rfl | rfl | rfl | rfl | rfl <;> simp) (fun x hx => by simp at hx)
  clear HP
  generalize ((((((((((W0.setCell ⟨w.heap.size + 1, 0, none⟩ (.int .i64 0)).setCell ⟨w.heap.size + 1, 1, none⟩ (.int .i64 0)).setCell ⟨w.heap.size + 1, 2, none⟩ (.int .i64 0)).setCell ⟨w.heap.size + 1, 3, none⟩ (.int .i64 0)).setCell ⟨w.heap.size + 1, 4, none⟩ (.int .i64 0)).setCell ⟨w.heap.size + 1, 5, none⟩ (.int .i64 0)).setCell ⟨w.heap.size + 1, 6, none⟩ (.int .i64 0)).setCell ⟨w.heap.size + 1, 7, none⟩ (.int .i64 0)).setCell ⟨w.heap.size + 1, 8, none⟩ (.int .i64 0)).setCell ⟨w.heap.size + 1, 9, none⟩ (.int .i64 0)) = W9 at hQ ⊢
  have hK := hQ
  clear hQ
  obtain ⟨c0_, c1_, c2_, c3_, c4_, c5_, c6_, c7_, c8_, c9_⟩ := K_D1v.cells hK; obtain ⟨z0_, -⟩ := K_D1v.zs hK; have HK := Lib.hid hK; clear hK
  have HB := Lib.hid (K_D1v.bel HK.out)
  exact bodyPost_ret (v := .tuple #[.agg #[.int .i64 0, .int .i64 0, .int .i64 0, .int .i64 0, .int .i64 0, .int .i64 0, .int .i64 0, .int .i64 0, .int .i64 0, .int .i64 0], .int .i64 8]) (by simp [results, Try.results103, go_sem, c0_, c1_, c2_, c3_, c4_, c5_, c6_, c7_, c8_, c9_, z0_]) rfl ⟨rfl, by (repeat (first | (with_reducible exact Below.refl _ _) | (with_reducible exact HB.out) | (with_reducible refine below_draws ?_ _) | (with_reducible refine Below.alloc ?_ (by go_size) _) | (with_reducible refine Below.setCell ?_ (by go_size) _) | (with_reducible refine Below.alloc ?_ (by simp <;> omega) _) | (with_reducible refine Below.setCell ?_ (by simp <;> omega) _)))⟩
set_option maxHeartbeats 6400000 in
theorem fitting_ok (l0 l1 l2 l3 l4 l5 l6 l7 l8 l9 : Int) (w : World) (h : l9 ≤ 1000000) :
    Calls Try.prog 103 #[.agg #[.int .i64 l0, .int .i64 l1, .int .i64 l2, .int .i64 l3, .int .i64 l4, .int .i64 l5, .int .i64 l6, .int .i64 l7, .int .i64 l8, .int .i64 l9]] w fun e w' => e = .returned (.tuple #[.agg #[.int .i64 l0, .int .i64 l1, .int .i64 l2, .int .i64 l3, .int .i64 l4, .int .i64 l5, .int .i64 l6, .int .i64 l7, .int .i64 l8, .int .i64 l9], .int .i64 0]) ∧ Below w.heap.size w w' := by
  have t1 : decide (l9 > 1000000) = false := decide_eq_false (by omega)
  have t2 : decide (1000000 < l9) = false := t1
  clear h
  go_enter Try.func103, Try.ntmps103
  go_upto_region 1 with (fail)
  have hK : K_Il l0 l1 l2 l3 l4 l5 l6 l7 l8 l9 w.heap.size (w.heap.size + 1) w ((w.alloc (.cells #[.int .i64 l0, .int .i64 l1, .int .i64 l2, .int .i64 l3, .int .i64 l4, .int .i64 l5, .int .i64 l6, .int .i64 l7, .int .i64 l8, .int .i64 l9] 83)).alloc (.cells #[.int .i64 0, .int .i64 0, .int .i64 0, .int .i64 0, .int .i64 0, .int .i64 0, .int .i64 0, .int .i64 0, .int .i64 0, .int .i64 0] 83)) := ⟨by simp [go_sem], by simp [go_sem], by simp [go_sem], by (repeat (first | (with_reducible exact Below.refl _ _) | (with_reducible exact HB.out) | (with_reducible refine below_draws ?_ _) | (with_reducible refine Below.alloc ?_ (by go_size) _) | (with_reducible refine Below.setCell ?_ (by go_size) _) | (with_reducible refine Below.alloc ?_ (by simp <;> omega) _) | (with_reducible refine Below.setCell ?_ (by simp <;> omega) _)))⟩
  generalize ((w.alloc (.cells #[.int .i64 l0, .int .i64 l1, .int .i64 l2, .int .i64 l3, .int .i64 l4, .int .i64 l5, .int .i64 l6, .int .i64 l7, .int .i64 l8, .int .i64 l9] 83)).alloc (.cells #[.int .i64 0, .int .i64 0, .int .i64 0, .int .i64 0, .int .i64 0, .int .i64 0, .int .i64 0, .int .i64 0, .int .i64 0, .int .i64 0] 83)) = W0 at hK ⊢
  obtain ⟨c0_, c1_, c2_, c3_, c4_, c5_, c6_, c7_, c8_, c9_, f0_, f1_, f2_, f3_, f4_, f5_, f6_, f7_, f8_, f9_, d10_, f10_, d11_, f11_, d12_, f12_, d13_, f13_, d14_, f14_, d15_, f15_, d16_, f16_, d17_, f17_, d18_, f18_, d19_, f19_⟩ := K_Il.cells hK; obtain ⟨z0_, z1_, -⟩ := K_Il.zs hK; have HK := Lib.hid hK; clear hK
  have HP := Lib.hid (KL.put10n (p := w.heap.size + 1) HK.out (by simp) (by intro x hx; simp only [List.mem_cons, List.not_mem_nil, or_false] at hx; rcases hx with rfl | rfl | rfl | rfl | rfl | rfl | rfl | rfl | rfl | rfl <;> (simp only []; omega)) (by omega) l0 l1 l2 l3 l4 l5 l6 l7 l8 l9)
  go_wp2
  clear c0_ c1_ c2_ c3_ c4_ c5_ c6_ c7_ c8_ c9_ f0_ f1_ f2_ f3_ f4_ f5_ f6_ f7_ f8_ f9_ d10_ f10_ d11_ f11_ d12_ f12_ d13_ f13_ d14_ f14_ d15_ f15_ d16_ f16_ d17_ f17_ d18_ f18_ d19_ f19_ z0_ z1_
  clear HK
  have hQ : K_D1v l0 l1 l2 l3 l4 l5 l6 l7 l8 l9 (w.heap.size + 1) w _ := KL.sub HP.out (fun x hx => by simp only [List.mem_cons, List.not_mem_nil, or_false] at hx ⊢; rcases hx with rfl | rfl | rfl | rfl | rfl | rfl | rfl | rfl | rfl | rfl <;> simp) (fun x hx => by simp at hx)
  clear HP
  generalize ((((((((((W0.setCell ⟨w.heap.size + 1, 0, none⟩ (.int .i64 l0)).setCell ⟨w.heap.size + 1, 1, none⟩ (.int .i64 l1)).setCell ⟨w.heap.size + 1, 2, none⟩ (.int .i64 l2)).setCell ⟨w.heap.size + 1, 3, none⟩ (.int .i64 l3)).setCell ⟨w.heap.size + 1, 4, none⟩ (.int .i64 l4)).setCell ⟨w.heap.size + 1, 5, none⟩ (.int .i64 l5)).setCell ⟨w.heap.size + 1, 6, none⟩ (.int .i64 l6)).setCell ⟨w.heap.size + 1, 7, none⟩ (.int .i64 l7)).setCell ⟨w.heap.size + 1, 8, none⟩ (.int .i64 l8)).setCell ⟨w.heap.size + 1, 9, none⟩ (.int .i64 l9)) = W9 at hQ ⊢
  have hK := hQ
  clear hQ
  obtain ⟨c0_, c1_, c2_, c3_, c4_, c5_, c6_, c7_, c8_, c9_⟩ := K_D1v.cells hK; obtain ⟨z0_, -⟩ := K_D1v.zs hK; have HK := Lib.hid hK; clear hK
  have HB := Lib.hid (K_D1v.bel HK.out)
  exact bodyPost_ret (v := .tuple #[.agg #[.int .i64 l0, .int .i64 l1, .int .i64 l2, .int .i64 l3, .int .i64 l4, .int .i64 l5, .int .i64 l6, .int .i64 l7, .int .i64 l8, .int .i64 l9], .int .i64 0]) (by simp [results, Try.results103, go_sem, c0_, c1_, c2_, c3_, c4_, c5_, c6_, c7_, c8_, c9_, z0_]) rfl ⟨rfl, by (repeat (first | (with_reducible exact Below.refl _ _) | (with_reducible exact HB.out) | (with_reducible refine below_draws ?_ _) | (with_reducible refine Below.alloc ?_ (by go_size) _) | (with_reducible refine Below.setCell ?_ (by go_size) _) | (with_reducible refine Below.alloc ?_ (by simp <;> omega) _) | (with_reducible refine Below.setCell ?_ (by simp <;> omega) _)))⟩
set_option maxHeartbeats 6400000 in
theorem Matrix_ok (n0 n1 n2 n3 d : Int) (w : World) (h : chkQ n0 n1 n2 n3 d = 0) (hz : zeroB ⟨n0, n1, n2, n3⟩ = false) (hn : 0 < nn (trn ⟨n0, n1, n2, n3⟩)) (hf : (rmat (trn ⟨n0, n1, n2, n3⟩)).low.d ≤ 1000000) :
    Calls Try.prog 59 #[.agg #[.int .i64 n0, .int .i64 n1, .int .i64 n2, .int .i64 n3, .int .i64 d]] w fun e w' => e = .returned (.tuple #[.agg #[.int .i64 ((rmat (trn ⟨n0, n1, n2, n3⟩)).low.a0), .int .i64 ((rmat (trn ⟨n0, n1, n2, n3⟩)).low.a1), .int .i64 ((rmat (trn ⟨n0, n1, n2, n3⟩)).low.a2), .int .i64 ((rmat (trn ⟨n0, n1, n2, n3⟩)).low.a3), .int .i64 ((rmat (trn ⟨n0, n1, n2, n3⟩)).low.a4), .int .i64 ((rmat (trn ⟨n0, n1, n2, n3⟩)).low.a5), .int .i64 ((rmat (trn ⟨n0, n1, n2, n3⟩)).low.a6), .int .i64 ((rmat (trn ⟨n0, n1, n2, n3⟩)).low.a7), .int .i64 ((rmat (trn ⟨n0, n1, n2, n3⟩)).low.a8), .int .i64 ((rmat (trn ⟨n0, n1, n2, n3⟩)).low.d)], .int .i64 0]) ∧ Below w.heap.size w w' := by
  have AT := Lib.hid (fun W => acceptTurn_ok n0 n1 n2 n3 d W h hz)
  have MA := Lib.hid (fun W => matrix_any (trn ⟨n0, n1, n2, n3⟩) W (trn_hb (n_bd h).1) hn)
  have FI := Lib.hid (fun W => fitting_ok (rmat (trn ⟨n0, n1, n2, n3⟩)).low.a0 (rmat (trn ⟨n0, n1, n2, n3⟩)).low.a1 (rmat (trn ⟨n0, n1, n2, n3⟩)).low.a2 (rmat (trn ⟨n0, n1, n2, n3⟩)).low.a3 (rmat (trn ⟨n0, n1, n2, n3⟩)).low.a4 (rmat (trn ⟨n0, n1, n2, n3⟩)).low.a5 (rmat (trn ⟨n0, n1, n2, n3⟩)).low.a6 (rmat (trn ⟨n0, n1, n2, n3⟩)).low.a7 (rmat (trn ⟨n0, n1, n2, n3⟩)).low.a8 (rmat (trn ⟨n0, n1, n2, n3⟩)).low.d W hf)
  clear h hz hn hf
  generalize (rmat (trn ⟨n0, n1, n2, n3⟩)).low = lo at *
  generalize trn ⟨n0, n1, n2, n3⟩ = t at *
  obtain ⟨t0, t1, t2, t3⟩ := t
  obtain ⟨l0, l1, l2, l3, l4, l5, l6, l7, l8, l9⟩ := lo
  simp only [] at AT MA FI ⊢
  go_enter Try.func59, Try.ntmps59
  go_wp2_with fail
  refine (AT.out _).mono ?_
  rintro e w1 ⟨rfl, hb⟩
  have hK : K_D1 (w.heap.size + 1) w w1 := K_D1.below hb ⟨by simp, by simp [go_sem], by simp [go_sem], by (repeat (first | (with_reducible exact Below.refl _ _) | (with_reducible exact HB.out) | (with_reducible refine below_draws ?_ _) | (with_reducible refine Below.alloc ?_ (by go_size) _) | (with_reducible refine Below.setCell ?_ (by go_size) _) | (with_reducible refine Below.alloc ?_ (by simp <;> omega) _) | (with_reducible refine Below.setCell ?_ (by simp <;> omega) _)))⟩
  clear hb
  go_wp2_with fail
  refine (MA.out _).mono ?_
  rintro e w2 ⟨rfl, hb⟩
  have hK := K_D1.below hb (K_D1.alloc _ hK)
  clear hb
  go_wp2_with fail
  refine (FI.out _).mono ?_
  rintro e w3 ⟨rfl, hb⟩
  have hK := K_D1.below hb hK
  clear hb
  obtain ⟨d0_, f0_, d1_, f1_, d2_, f2_, d3_, f3_, d4_, f4_, d5_, f5_, d6_, f6_, d7_, f7_, d8_, f8_, d9_, f9_⟩ := K_D1.cells hK; obtain ⟨z0_, -⟩ := K_D1.zs hK; have HK := Lib.hid hK; clear hK
  have HP := Lib.hid (KL.put10n (p := w.heap.size + 1) HK.out (by simp) (by intro x hx; simp at hx) (by omega) l0 l1 l2 l3 l4 l5 l6 l7 l8 l9)
  go_wp2
  clear d0_ f0_ d1_ f1_ d2_ f2_ d3_ f3_ d4_ f4_ d5_ f5_ d6_ f6_ d7_ f7_ d8_ f8_ d9_ f9_ z0_
  clear HK
  have hQ : K_D1v l0 l1 l2 l3 l4 l5 l6 l7 l8 l9 (w.heap.size + 1) w _ := KL.sub HP.out (fun x hx => by simp only [List.mem_cons, List.not_mem_nil, or_false] at hx ⊢; rcases hx with rfl | rfl | rfl | rfl | rfl | rfl | rfl | rfl | rfl | rfl <;> simp) (fun x hx => by simp at hx)
  clear HP
  generalize ((((((((((w3.setCell ⟨w.heap.size + 1, 0, none⟩ (.int .i64 l0)).setCell ⟨w.heap.size + 1, 1, none⟩ (.int .i64 l1)).setCell ⟨w.heap.size + 1, 2, none⟩ (.int .i64 l2)).setCell ⟨w.heap.size + 1, 3, none⟩ (.int .i64 l3)).setCell ⟨w.heap.size + 1, 4, none⟩ (.int .i64 l4)).setCell ⟨w.heap.size + 1, 5, none⟩ (.int .i64 l5)).setCell ⟨w.heap.size + 1, 6, none⟩ (.int .i64 l6)).setCell ⟨w.heap.size + 1, 7, none⟩ (.int .i64 l7)).setCell ⟨w.heap.size + 1, 8, none⟩ (.int .i64 l8)).setCell ⟨w.heap.size + 1, 9, none⟩ (.int .i64 l9)) = W9 at hQ ⊢
  have hK := hQ
  clear hQ
  obtain ⟨c0_, c1_, c2_, c3_, c4_, c5_, c6_, c7_, c8_, c9_⟩ := K_D1v.cells hK; obtain ⟨z0_, -⟩ := K_D1v.zs hK; have HK := Lib.hid hK; clear hK
  have HB := Lib.hid (K_D1v.bel HK.out)
  exact bodyPost_ret (v := .tuple #[.agg #[.int .i64 l0, .int .i64 l1, .int .i64 l2, .int .i64 l3, .int .i64 l4, .int .i64 l5, .int .i64 l6, .int .i64 l7, .int .i64 l8, .int .i64 l9], .int .i64 0]) (by simp [results, Try.results59, go_sem, c0_, c1_, c2_, c3_, c4_, c5_, c6_, c7_, c8_, c9_, z0_]) rfl ⟨rfl, by (repeat (first | (with_reducible exact Below.refl _ _) | (with_reducible exact HB.out) | (with_reducible refine below_draws ?_ _) | (with_reducible refine Below.alloc ?_ (by go_size) _) | (with_reducible refine Below.setCell ?_ (by go_size) _) | (with_reducible refine Below.alloc ?_ (by simp <;> omega) _) | (with_reducible refine Below.setCell ?_ (by simp <;> omega) _)))⟩
end Go.Proofs.Yteiflfmpkfhkoaa.Rt
namespace Go.Proofs.Yteiflfmpkfhkoaa.Rt
open Go.RowKit
open Alm Hwm Al
set_option linter.unusedVariables false
set_option linter.unusedSimpArgs false
set_option maxRecDepth 100000
theorem quat_any (a b c d : Int) (w : World) :
    Calls Try.prog 57 #[.int .i64 a, .int .i64 b, .int .i64 c, .int .i64 d] w fun e w' => e = .returned (.agg #[.int .i64 a, .int .i64 b, .int .i64 c, .int .i64 d, .int .i64 1]) ∧ Below w.heap.size w w' := by
  go_enter Try.func57, Try.ntmps57
  go_wp2
  exact bodyPost_ret (v := .agg #[.int .i64 a, .int .i64 b, .int .i64 c, .int .i64 d, .int .i64 1]) (by simp [results, Try.results57, go_sem]) rfl ⟨rfl, by (repeat (first | (with_reducible exact Below.refl _ _) | (with_reducible exact HB.out) | (with_reducible refine below_draws ?_ _) | (with_reducible refine Below.alloc ?_ (by go_size) _) | (with_reducible refine Below.setCell ?_ (by go_size) _) | (with_reducible refine Below.alloc ?_ (by simp <;> omega) _) | (with_reducible refine Below.setCell ?_ (by simp <;> omega) _)))⟩
set_option maxHeartbeats 3200000 in
theorem OfNorm_any (n : Nat) (w : World) (h1 : 1 ≤ n) (h2 : n ≤ 50) (hx : ∀ x ∈ CO n, HB 100000000000000000 x) (hl : (CO n).length ≤ 100000) :
    Calls Try.prog 40 #[.int .i64 n] w fun e w' => ∃ v, e = .returned (.tuple #[v, .int .i64 0]) ∧ w'.ownsRow w.heap.size 23 5 v ((CO n).map toQ).length (flatQ ((CO n).map toQ)) ∧ Below w.heap.size w w' := by
  have CN := Lib.hid (fun W => canonicalOf_any n W h2)
  have RS := Lib.hid (fun B A c W h h3 h4 => results_any (CO n) B A c W h hx hl h3 h4)
  have t1 : decide ((n : Int) < 1) = false := decide_eq_false (by omega)
  have t2 : decide ((n : Int) > 500) = false := decide_eq_false (by omega)
  have t3 : decide (500 < (n : Int)) = false := t2
  clear hx hl
  go_enter Try.func40, Try.ntmps40
  go_wp2_with fail
  refine (CN.out _).mono ?_
  rintro e w1 ⟨v, rfl, hown, hb⟩
  obtain ⟨Aa, c, rfl, hLH, hc, hlc⟩ := LH.of hown
  have HB := Lib.hid hb
  clear hb hown
  go_wp2_with fail
  refine (RS.out _ _ _ _ hLH hc hlc).mono ?_
  rintro e w2 ⟨v, rfl, hown, hb⟩
  have HO := Lib.hid (ownsRow_base' hown HB.out.size)
  have HB2 := Lib.hid (HB.out.trans (hb.mono HB.out.size))
  clear hb hown hLH hc hlc
  go_wp2
  go_ret2
  exact ⟨v, rfl, HO.out, HB2.out⟩
theorem co_two : CO 2 = [⟨2, 2, 0, 0⟩] := by kernel_rfl
theorem OfNorm_two (w : World) :
    Calls Try.prog 40 #[.int .i64 2] w fun e w' => ∃ A c, e = .returned (.tuple #[.slice A 1 c, .int .i64 0]) ∧ RQ w' A [⟨1, 1, 0, 0, 1⟩] ∧ 1 ≤ c ∧ c ≤ 9223372036854775807 ∧ Below w.heap.size w w' := by
  refine (OfNorm_any 2 w (by decide) (by decide) (by rw [co_two]; intro x hx; simp only [List.mem_cons, List.not_mem_nil, or_false] at hx; subst hx; exact ⟨by decide, by decide, by decide, by decide⟩) (by rw [co_two]; decide)).mono ?_
  rintro e w' ⟨v, rfl, hown, hb⟩
  rw [co_two] at hown
  obtain ⟨A, c, rfl, hq, hc, hl⟩ := RQ.of hown
  exact ⟨A, c, rfl, hq, hl, hc, hb⟩
theorem Divide_eg (w : World) :
    Calls Try.prog 34 #[.agg #[.int .i64 1, .int .i64 1, .int .i64 1, .int .i64 1, .int .i64 1], .agg #[.int .i64 2, .int .i64 0, .int .i64 0, .int .i64 0, .int .i64 1]] w fun e w' => e = .returned (.tuple #[.agg #[.int .i64 1, .int .i64 1, .int .i64 1, .int .i64 1, .int .i64 2, .int .i64 0, .int .i64 0, .int .i64 0, .int .i64 0, .int .i64 1], .int .i64 0]) ∧ Below w.heap.size w w' := by
  have h := Divide_ok 1 1 1 1 1 2 0 0 0 1 w (by decide +kernel) (by decide +kernel)
  have e1 : toQ (quo (acX ⟨1, 1, 1, 1, 1⟩ ⟨2, 0, 0, 0, 1⟩) (acY ⟨1, 1, 1, 1, 1⟩ ⟨2, 0, 0, 0, 1⟩)) = ⟨1, 1, 1, 1, 2⟩ := by kernel_rfl
  have e2 : toQ (rem (acX ⟨1, 1, 1, 1, 1⟩ ⟨2, 0, 0, 0, 1⟩) (acY ⟨1, 1, 1, 1, 1⟩ ⟨2, 0, 0, 0, 1⟩)) = ⟨0, 0, 0, 0, 1⟩ := by kernel_rfl
  rw [e1, e2] at h
  exact h
theorem Matrix_eg (w : World) :
    Calls Try.prog 59 #[.agg #[.int .i64 2, .int .i64 1, .int .i64 0, .int .i64 0, .int .i64 1]] w fun e w' => e = .returned (.tuple #[.agg #[.int .i64 5, .int .i64 0, .int .i64 0, .int .i64 0, .int .i64 3, .int .i64 (-4), .int .i64 0, .int .i64 4, .int .i64 3, .int .i64 5], .int .i64 0]) ∧ Below w.heap.size w w' := by
  have h := Matrix_ok 2 1 0 0 1 w (by decide +kernel) (by decide +kernel) (by decide +kernel) (by decide +kernel)
  have e1 : (rmat (trn ⟨2, 1, 0, 0⟩)).low = ⟨5, 0, 0, 0, 3, -4, 0, 4, 3, 5⟩ := by kernel_rfl
  rw [e1] at h
  exact h
end Go.Proofs.Yteiflfmpkfhkoaa.Rt
namespace Go.Proofs.Yteiflfmpkfhkoaa.Rt
open Go.RowKit
open Alm Hwm Al
set_option linter.unusedVariables false
set_option linter.unusedSimpArgs false
set_option maxRecDepth 100000
theorem KL.push10 {w0 : World} {cs : List (Nat × Nat × Value)} {fs : List (Nat × Nat)} {w : World} (h : KL w0 cs fs w) (e0 e1 e2 e3 e4 e5 e6 e7 e8 e9 : Int) (T : TypeId) (p : Nat) (hp : p = w.heap.size) : KL w0 ((p, 0, .int .i64 e0) :: (p, 1, .int .i64 e1) :: (p, 2, .int .i64 e2) :: (p, 3, .int .i64 e3) :: (p, 4, .int .i64 e4) :: (p, 5, .int .i64 e5) :: (p, 6, .int .i64 e6) :: (p, 7, .int .i64 e7) :: (p, 8, .int .i64 e8) :: (p, 9, .int .i64 e9) :: cs) fs (w.alloc (.cells #[.int .i64 e0, .int .i64 e1, .int .i64 e2, .int .i64 e3, .int .i64 e4, .int .i64 e5, .int .i64 e6, .int .i64 e7, .int .i64 e8, .int .i64 e9] T)) := by
  subst hp
  have h1 := h.alloc (.cells #[.int .i64 e0, .int .i64 e1, .int .i64 e2, .int .i64 e3, .int .i64 e4, .int .i64 e5, .int .i64 e6, .int .i64 e7, .int .i64 e8, .int .i64 e9] T)
  refine ⟨fun x hx => ?_, h1.g, h1.f, h1.bel⟩
  simp only [List.mem_cons] at hx
  rcases hx with rfl | rfl | rfl | rfl | rfl | rfl | rfl | rfl | rfl | rfl | hx
  · simp [go_sem]
  · simp [go_sem]
  · simp [go_sem]
  · simp [go_sem]
  · simp [go_sem]
  · simp [go_sem]
  · simp [go_sem]
  · simp [go_sem]
  · simp [go_sem]
  · simp [go_sem]
  · exact h1.c x hx
/-- what a walk keeps: cells, and that nothing that was there has turned -/
def K_A1 (bb : Nat) (w w' : World) : Prop := KL w [(bb, 0, .int .i64 1), (bb, 1, .int .i64 1), (bb, 2, .int .i64 0), (bb, 3, .int .i64 0), (bb, 4, .int .i64 1)] [] w'
theorem K_A1.below {bb : Nat} {w w1 w2 : World} (hb : Below w1.heap.size w1 w2) (h : K_A1 bb w w1) : K_A1 bb w w2 := KL.below hb h
theorem K_A1.draws {bb : Nat} {w w1 : World} (n : Nat) (h : K_A1 bb w w1) : K_A1 bb w (w1.drewN n) := KL.draws n h
theorem K_A1.drew {bb : Nat} {w w1 : World} (h : K_A1 bb w w1) : K_A1 bb w w1.drew := KL.draws 1 h
theorem K_A1.alloc {bb : Nat} {w w1 : World} (o : Obj) (h : K_A1 bb w w1) : K_A1 bb w (w1.alloc o) := KL.alloc o h
theorem K_A1.set {bb : Nat} {w w1 : World} (h : K_A1 bb w w1) (b i : Nat) (v : Value) (hb : b ≠ bb ∧ w.heap.size ≤ b) : K_A1 bb w (w1.setCell ⟨b, i, none⟩ v) :=
  KL.set h b i v (by intro x hx; simp only [List.mem_cons, List.not_mem_nil, or_false] at hx; rcases hx with rfl | rfl | rfl | rfl | rfl <;> simp only [] <;> omega) (by omega)
theorem K_A1.bel {bb : Nat} {w w1 : World} (h : K_A1 bb w w1) : Below w.heap.size w w1 := KL.bel h
theorem K_A1.cells {bb : Nat} {w w' : World} (h : K_A1 bb w w') : w'.cell? ⟨bb, 0, none⟩ = some (.int .i64 1) ∧ w'.cell? ⟨bb, 1, none⟩ = some (.int .i64 1) ∧ w'.cell? ⟨bb, 2, none⟩ = some (.int .i64 0) ∧ w'.cell? ⟨bb, 3, none⟩ = some (.int .i64 0) ∧ w'.cell? ⟨bb, 4, none⟩ = some (.int .i64 1) := ⟨h.c (bb, 0, .int .i64 1) (by simp), h.c (bb, 1, .int .i64 1) (by simp), h.c (bb, 2, .int .i64 0) (by simp), h.c (bb, 3, .int .i64 0) (by simp), h.c (bb, 4, .int .i64 1) (by simp)⟩
theorem K_A1.zs {bb : Nat} {w w' : World} (h : K_A1 bb w w') : bb < w'.heap.size ∧ True := ⟨KL.z h (x := (bb, 0, .int .i64 1)) (by simp), trivial⟩
theorem K_A1.ks {bb : Nat} {w w' : World} (h : K_A1 bb w w') : (w'.cell? ⟨bb, 0, none⟩ = some (.int .i64 1) ∧ w'.cell? ⟨bb, 1, none⟩ = some (.int .i64 1) ∧ w'.cell? ⟨bb, 2, none⟩ = some (.int .i64 0) ∧ w'.cell? ⟨bb, 3, none⟩ = some (.int .i64 0) ∧ w'.cell? ⟨bb, 4, none⟩ = some (.int .i64 1)) ∧ K_A1 bb w w' := ⟨h.cells, h⟩
/-- what a walk keeps: cells, and that nothing that was there has turned -/
def K_A2 (p bb : Nat) (w w' : World) : Prop := KL w [(p, 0, .int .i64 1), (p, 1, .int .i64 1), (p, 2, .int .i64 1), (p, 3, .int .i64 1), (p, 4, .int .i64 2), (p, 5, .int .i64 0), (p, 6, .int .i64 0), (p, 7, .int .i64 0), (p, 8, .int .i64 0), (p, 9, .int .i64 1), (bb, 0, .int .i64 1), (bb, 1, .int .i64 1), (bb, 2, .int .i64 0), (bb, 3, .int .i64 0), (bb, 4, .int .i64 1)] [] w'
theorem K_A2.below {p bb : Nat} {w w1 w2 : World} (hb : Below w1.heap.size w1 w2) (h : K_A2 p bb w w1) : K_A2 p bb w w2 := KL.below hb h
theorem K_A2.draws {p bb : Nat} {w w1 : World} (n : Nat) (h : K_A2 p bb w w1) : K_A2 p bb w (w1.drewN n) := KL.draws n h
theorem K_A2.drew {p bb : Nat} {w w1 : World} (h : K_A2 p bb w w1) : K_A2 p bb w w1.drew := KL.draws 1 h
theorem K_A2.alloc {p bb : Nat} {w w1 : World} (o : Obj) (h : K_A2 p bb w w1) : K_A2 p bb w (w1.alloc o) := KL.alloc o h
theorem K_A2.set {p bb : Nat} {w w1 : World} (h : K_A2 p bb w w1) (b i : Nat) (v : Value) (hb : b ≠ p ∧ b ≠ bb ∧ w.heap.size ≤ b) : K_A2 p bb w (w1.setCell ⟨b, i, none⟩ v) :=
  KL.set h b i v (by intro x hx; simp only [List.mem_cons, List.not_mem_nil, or_false] at hx; rcases hx with rfl | rfl | rfl | rfl | rfl | rfl | rfl | rfl | rfl | rfl | rfl | rfl | rfl | rfl | rfl <;> simp only [] <;> omega) (by omega)
theorem K_A2.bel {p bb : Nat} {w w1 : World} (h : K_A2 p bb w w1) : Below w.heap.size w w1 := KL.bel h
theorem K_A2.cells {p bb : Nat} {w w' : World} (h : K_A2 p bb w w') : w'.cell? ⟨p, 0, none⟩ = some (.int .i64 1) ∧ w'.cell? ⟨p, 1, none⟩ = some (.int .i64 1) ∧ w'.cell? ⟨p, 2, none⟩ = some (.int .i64 1) ∧ w'.cell? ⟨p, 3, none⟩ = some (.int .i64 1) ∧ w'.cell? ⟨p, 4, none⟩ = some (.int .i64 2) ∧ w'.cell? ⟨p, 5, none⟩ = some (.int .i64 0) ∧ w'.cell? ⟨p, 6, none⟩ = some (.int .i64 0) ∧ w'.cell? ⟨p, 7, none⟩ = some (.int .i64 0) ∧ w'.cell? ⟨p, 8, none⟩ = some (.int .i64 0) ∧ w'.cell? ⟨p, 9, none⟩ = some (.int .i64 1) ∧ w'.cell? ⟨bb, 0, none⟩ = some (.int .i64 1) ∧ w'.cell? ⟨bb, 1, none⟩ = some (.int .i64 1) ∧ w'.cell? ⟨bb, 2, none⟩ = some (.int .i64 0) ∧ w'.cell? ⟨bb, 3, none⟩ = some (.int .i64 0) ∧ w'.cell? ⟨bb, 4, none⟩ = some (.int .i64 1) := ⟨h.c (p, 0, .int .i64 1) (by simp), h.c (p, 1, .int .i64 1) (by simp), h.c (p, 2, .int .i64 1) (by simp), h.c (p, 3, .int .i64 1) (by simp), h.c (p, 4, .int .i64 2) (by simp), h.c (p, 5, .int .i64 0) (by simp), h.c (p, 6, .int .i64 0) (by simp), h.c (p, 7, .int .i64 0) (by simp), h.c (p, 8, .int .i64 0) (by simp), h.c (p, 9, .int .i64 1) (by simp), h.c (bb, 0, .int .i64 1) (by simp), h.c (bb, 1, .int .i64 1) (by simp), h.c (bb, 2, .int .i64 0) (by simp), h.c (bb, 3, .int .i64 0) (by simp), h.c (bb, 4, .int .i64 1) (by simp)⟩
theorem K_A2.zs {p bb : Nat} {w w' : World} (h : K_A2 p bb w w') : p < w'.heap.size ∧ bb < w'.heap.size ∧ True := ⟨KL.z h (x := (p, 0, .int .i64 1)) (by simp), KL.z h (x := (bb, 0, .int .i64 1)) (by simp), trivial⟩
theorem K_A2.ks {p bb : Nat} {w w' : World} (h : K_A2 p bb w w') : (w'.cell? ⟨p, 0, none⟩ = some (.int .i64 1) ∧ w'.cell? ⟨p, 1, none⟩ = some (.int .i64 1) ∧ w'.cell? ⟨p, 2, none⟩ = some (.int .i64 1) ∧ w'.cell? ⟨p, 3, none⟩ = some (.int .i64 1) ∧ w'.cell? ⟨p, 4, none⟩ = some (.int .i64 2) ∧ w'.cell? ⟨p, 5, none⟩ = some (.int .i64 0) ∧ w'.cell? ⟨p, 6, none⟩ = some (.int .i64 0) ∧ w'.cell? ⟨p, 7, none⟩ = some (.int .i64 0) ∧ w'.cell? ⟨p, 8, none⟩ = some (.int .i64 0) ∧ w'.cell? ⟨p, 9, none⟩ = some (.int .i64 1) ∧ w'.cell? ⟨bb, 0, none⟩ = some (.int .i64 1) ∧ w'.cell? ⟨bb, 1, none⟩ = some (.int .i64 1) ∧ w'.cell? ⟨bb, 2, none⟩ = some (.int .i64 0) ∧ w'.cell? ⟨bb, 3, none⟩ = some (.int .i64 0) ∧ w'.cell? ⟨bb, 4, none⟩ = some (.int .i64 1)) ∧ K_A2 p bb w w' := ⟨h.cells, h⟩
/-- what a walk keeps: cells, and that nothing that was there has turned -/
def K_A3 (q p bb : Nat) (w w' : World) : Prop := KL w [(q, 0, .int .i64 5), (q, 1, .int .i64 0), (q, 2, .int .i64 0), (q, 3, .int .i64 0), (q, 4, .int .i64 3), (q, 5, .int .i64 (-4)), (q, 6, .int .i64 0), (q, 7, .int .i64 4), (q, 8, .int .i64 3), (q, 9, .int .i64 5), (p, 0, .int .i64 1), (p, 1, .int .i64 1), (p, 2, .int .i64 1), (p, 3, .int .i64 1), (p, 4, .int .i64 2), (p, 5, .int .i64 0), (p, 6, .int .i64 0), (p, 7, .int .i64 0), (p, 8, .int .i64 0), (p, 9, .int .i64 1), (bb, 0, .int .i64 1), (bb, 1, .int .i64 1), (bb, 2, .int .i64 0), (bb, 3, .int .i64 0), (bb, 4, .int .i64 1)] [] w'
theorem K_A3.below {q p bb : Nat} {w w1 w2 : World} (hb : Below w1.heap.size w1 w2) (h : K_A3 q p bb w w1) : K_A3 q p bb w w2 := KL.below hb h
theorem K_A3.draws {q p bb : Nat} {w w1 : World} (n : Nat) (h : K_A3 q p bb w w1) : K_A3 q p bb w (w1.drewN n) := KL.draws n h
theorem K_A3.drew {q p bb : Nat} {w w1 : World} (h : K_A3 q p bb w w1) : K_A3 q p bb w w1.drew := KL.draws 1 h
theorem K_A3.alloc {q p bb : Nat} {w w1 : World} (o : Obj) (h : K_A3 q p bb w w1) : K_A3 q p bb w (w1.alloc o) := KL.alloc o h
theorem K_A3.set {q p bb : Nat} {w w1 : World} (h : K_A3 q p bb w w1) (b i : Nat) (v : Value) (hb : b ≠ q ∧ b ≠ p ∧ b ≠ bb ∧ w.heap.size ≤ b) : K_A3 q p bb w (w1.setCell ⟨b, i, none⟩ v) :=
  KL.set h b i v (by intro x hx; simp only [List.mem_cons, List.not_mem_nil, or_false] at hx; rcases hx with rfl | rfl | rfl | rfl | rfl | rfl | rfl | rfl | rfl | rfl | rfl | rfl | rfl | rfl | rfl | rfl | rfl | rfl | rfl | rfl | rfl | rfl | rfl | rfl | rfl <;> simp only [] <;> omega) (by omega)
theorem K_A3.bel {q p bb : Nat} {w w1 : World} (h : K_A3 q p bb w w1) : Below w.heap.size w w1 := KL.bel h
theorem K_A3.cells {q p bb : Nat} {w w' : World} (h : K_A3 q p bb w w') : w'.cell? ⟨q, 0, none⟩ = some (.int .i64 5) ∧ w'.cell? ⟨q, 1, none⟩ = some (.int .i64 0) ∧ w'.cell? ⟨q, 2, none⟩ = some (.int .i64 0) ∧ w'.cell? ⟨q, 3, none⟩ = some (.int .i64 0) ∧ w'.cell? ⟨q, 4, none⟩ = some (.int .i64 3) ∧ w'.cell? ⟨q, 5, none⟩ = some (.int .i64 (-4)) ∧ w'.cell? ⟨q, 6, none⟩ = some (.int .i64 0) ∧ w'.cell? ⟨q, 7, none⟩ = some (.int .i64 4) ∧ w'.cell? ⟨q, 8, none⟩ = some (.int .i64 3) ∧ w'.cell? ⟨q, 9, none⟩ = some (.int .i64 5) ∧ w'.cell? ⟨p, 0, none⟩ = some (.int .i64 1) ∧ w'.cell? ⟨p, 1, none⟩ = some (.int .i64 1) ∧ w'.cell? ⟨p, 2, none⟩ = some (.int .i64 1) ∧ w'.cell? ⟨p, 3, none⟩ = some (.int .i64 1) ∧ w'.cell? ⟨p, 4, none⟩ = some (.int .i64 2) ∧ w'.cell? ⟨p, 5, none⟩ = some (.int .i64 0) ∧ w'.cell? ⟨p, 6, none⟩ = some (.int .i64 0) ∧ w'.cell? ⟨p, 7, none⟩ = some (.int .i64 0) ∧ w'.cell? ⟨p, 8, none⟩ = some (.int .i64 0) ∧ w'.cell? ⟨p, 9, none⟩ = some (.int .i64 1) ∧ w'.cell? ⟨bb, 0, none⟩ = some (.int .i64 1) ∧ w'.cell? ⟨bb, 1, none⟩ = some (.int .i64 1) ∧ w'.cell? ⟨bb, 2, none⟩ = some (.int .i64 0) ∧ w'.cell? ⟨bb, 3, none⟩ = some (.int .i64 0) ∧ w'.cell? ⟨bb, 4, none⟩ = some (.int .i64 1) := ⟨h.c (q, 0, .int .i64 5) (by simp), h.c (q, 1, .int .i64 0) (by simp), h.c (q, 2, .int .i64 0) (by simp), h.c (q, 3, .int .i64 0) (by simp), h.c (q, 4, .int .i64 3) (by simp), h.c (q, 5, .int .i64 (-4)) (by simp), h.c (q, 6, .int .i64 0) (by simp), h.c (q, 7, .int .i64 4) (by simp), h.c (q, 8, .int .i64 3) (by simp), h.c (q, 9, .int .i64 5) (by simp), h.c (p, 0, .int .i64 1) (by simp), h.c (p, 1, .int .i64 1) (by simp), h.c (p, 2, .int .i64 1) (by simp), h.c (p, 3, .int .i64 1) (by simp), h.c (p, 4, .int .i64 2) (by simp), h.c (p, 5, .int .i64 0) (by simp), h.c (p, 6, .int .i64 0) (by simp), h.c (p, 7, .int .i64 0) (by simp), h.c (p, 8, .int .i64 0) (by simp), h.c (p, 9, .int .i64 1) (by simp), h.c (bb, 0, .int .i64 1) (by simp), h.c (bb, 1, .int .i64 1) (by simp), h.c (bb, 2, .int .i64 0) (by simp), h.c (bb, 3, .int .i64 0) (by simp), h.c (bb, 4, .int .i64 1) (by simp)⟩
theorem K_A3.zs {q p bb : Nat} {w w' : World} (h : K_A3 q p bb w w') : q < w'.heap.size ∧ p < w'.heap.size ∧ bb < w'.heap.size ∧ True := ⟨KL.z h (x := (q, 0, .int .i64 5)) (by simp), KL.z h (x := (p, 0, .int .i64 1)) (by simp), KL.z h (x := (bb, 0, .int .i64 1)) (by simp), trivial⟩
theorem K_A3.ks {q p bb : Nat} {w w' : World} (h : K_A3 q p bb w w') : (w'.cell? ⟨q, 0, none⟩ = some (.int .i64 5) ∧ w'.cell? ⟨q, 1, none⟩ = some (.int .i64 0) ∧ w'.cell? ⟨q, 2, none⟩ = some (.int .i64 0) ∧ w'.cell? ⟨q, 3, none⟩ = some (.int .i64 0) ∧ w'.cell? ⟨q, 4, none⟩ = some (.int .i64 3) ∧ w'.cell? ⟨q, 5, none⟩ = some (.int .i64 (-4)) ∧ w'.cell? ⟨q, 6, none⟩ = some (.int .i64 0) ∧ w'.cell? ⟨q, 7, none⟩ = some (.int .i64 4) ∧ w'.cell? ⟨q, 8, none⟩ = some (.int .i64 3) ∧ w'.cell? ⟨q, 9, none⟩ = some (.int .i64 5) ∧ w'.cell? ⟨p, 0, none⟩ = some (.int .i64 1) ∧ w'.cell? ⟨p, 1, none⟩ = some (.int .i64 1) ∧ w'.cell? ⟨p, 2, none⟩ = some (.int .i64 1) ∧ w'.cell? ⟨p, 3, none⟩ = some (.int .i64 1) ∧ w'.cell? ⟨p, 4, none⟩ = some (.int .i64 2) ∧ w'.cell? ⟨p, 5, none⟩ = some (.int .i64 0) ∧ w'.cell? ⟨p, 6, none⟩ = some (.int .i64 0) ∧ w'.cell? ⟨p, 7, none⟩ = some (.int .i64 0) ∧ w'.cell? ⟨p, 8, none⟩ = some (.int .i64 0) ∧ w'.cell? ⟨p, 9, none⟩ = some (.int .i64 1) ∧ w'.cell? ⟨bb, 0, none⟩ = some (.int .i64 1) ∧ w'.cell? ⟨bb, 1, none⟩ = some (.int .i64 1) ∧ w'.cell? ⟨bb, 2, none⟩ = some (.int .i64 0) ∧ w'.cell? ⟨bb, 3, none⟩ = some (.int .i64 0) ∧ w'.cell? ⟨bb, 4, none⟩ = some (.int .i64 1)) ∧ K_A3 q p bb w w' := ⟨h.cells, h⟩
def q110 : Q := ⟨1, 1, 0, 0, 1⟩
theorem rq_one {w : World} {bb : Nat} (h0 : w.cell? ⟨bb, 0, none⟩ = some (.int .i64 1)) (h1 : w.cell? ⟨bb, 1, none⟩ = some (.int .i64 1)) (h2 : w.cell? ⟨bb, 2, none⟩ = some (.int .i64 0)) (h3 : w.cell? ⟨bb, 3, none⟩ = some (.int .i64 0)) (h4 : w.cell? ⟨bb, 4, none⟩ = some (.int .i64 1)) : RQ w (some ⟨bb, 0, none⟩) [q110] := by
  intro j q hj
  match j with
  | 0 => simp at hj; subst hj; exact ⟨bb, rfl, h0, h1, h2, h3, h4⟩
  | j + 1 => simp at hj
theorem rq_K {q p bb : Nat} {w w' : World} (h : K_A3 q p bb w w') : RQ w' (some ⟨bb, 0, none⟩) [q110] :=
  rq_one (h.c (bb, 0, .int .i64 1) (by simp)) (h.c (bb, 1, .int .i64 1) (by simp)) (h.c (bb, 2, .int .i64 0) (by simp)) (h.c (bb, 3, .int .i64 0) (by simp)) (h.c (bb, 4, .int .i64 1) (by simp))
theorem rq_new (w : World) (T : TypeId) (n : Nat) (hn : n = w.heap.size) : RQ (w.alloc (.cells #[.int .i64 1, .int .i64 1, .int .i64 0, .int .i64 0, .int .i64 1] T)) (some ⟨n, 0, none⟩) [q110] := by
  subst hn
  exact rq_one (by simp [go_sem]) (by simp [go_sem]) (by simp [go_sem]) (by simp [go_sem]) (by simp [go_sem])
theorem rq_drew {w : World} {A : Option Addr} {L : List Q} (h : RQ w A L) : RQ w.drew A L := h
theorem same_110 (bb n c : Nat) (w : World) (h1 : RQ w (some ⟨bb, 0, none⟩) [q110]) (h2 : RQ w (some ⟨n, 0, none⟩) [q110]) (hc : c ≤ 9223372036854775807) (hl : 1 ≤ c) :
    Calls Try.prog 28 #[.slice (some ⟨bb, 0, none⟩) 1 c, .slice (some ⟨n, 0, none⟩) 1 1] w fun e w' => e = .returned (.bool true) ∧ Below w.heap.size w w' :=
  SameQuats_same [q110] _ _ c 1 w h1 h2 (by simp) hc (by simpa using hl) (by decide) (by simp)
set_option maxHeartbeats 25600000 in
theorem awake_any (w : World) : Calls Try.prog 15 #[] w fun e w' => e = .returned (.bool true) ∧ Below w.heap.size w w' := by
  have q49 : ∀ W : World, (Op.equalIn 10000 49 (.agg #[.int .i64 1, .int .i64 1, .int .i64 1, .int .i64 1, .int .i64 2, .int .i64 0, .int .i64 0, .int .i64 0, .int .i64 0, .int .i64 1]) (.agg #[.int .i64 1, .int .i64 1, .int .i64 1, .int .i64 1, .int .i64 2, .int .i64 0, .int .i64 0, .int .i64 0, .int .i64 0, .int .i64 1])).run Try.prog W = .ok true W := fun W => by kernel_rfl
  have q83 : ∀ W : World, (Op.equalIn 10000 83 (.agg #[.int .i64 5, .int .i64 0, .int .i64 0, .int .i64 0, .int .i64 3, .int .i64 (-4), .int .i64 0, .int .i64 4, .int .i64 3, .int .i64 5]) (.agg #[.int .i64 5, .int .i64 0, .int .i64 0, .int .i64 0, .int .i64 3, .int .i64 (-4), .int .i64 0, .int .i64 4, .int .i64 3, .int .i64 5])).run Try.prog W = .ok true W := fun W => by kernel_rfl
  have H49 := Lib.hid q49
  have H83 := Lib.hid q83
  clear q49 q83
  go_enter Try.func15, Try.ntmps15
  go_wp2_with fail
  refine (OfNorm_two _).mono ?_
  rintro e w1 ⟨A, c, rfl, hq, hl, hc, hb⟩
  obtain ⟨bb, rfl, d0, d1, d2, d3, d4⟩ := hq 0 _ rfl
  simp only [Nat.zero_mul, Nat.zero_add] at d0 d1 d2 d3 d4
  have hK : K_A1 bb w w1 := ⟨by intro x hx; simp only [List.mem_cons, List.not_mem_nil, or_false] at hx; rcases hx with rfl | rfl | rfl | rfl | rfl; exact d0; exact d1; exact d2; exact d3; exact d4, by simp, by simp, hb⟩
  clear hq d0 d1 d2 d3 d4 hb
  go_wp2_with fail
  refine (quat_any _ _ _ _ _).mono ?_
  rintro e w2 ⟨rfl, hb⟩
  have hK := K_A1.below hb hK
  clear hb
  go_wp2_with fail
  refine (quat_any _ _ _ _ _).mono ?_
  rintro e w3 ⟨rfl, hb⟩
  have hK := K_A1.below hb hK
  clear hb
  go_wp2_with fail
  refine (Divide_eg _).mono ?_
  rintro e w4 ⟨rfl, hb⟩
  have hK : K_A2 w4.heap.size bb w _ := KL.push10 (K_A1.below hb hK) 1 1 1 1 2 0 0 0 0 1 49 _ rfl
  clear hb
  go_wp2_with fail
  refine (quat_any _ _ _ _ _).mono ?_
  rintro e w5 ⟨rfl, hb⟩
  have hK := K_A2.below hb hK
  clear hb
  go_wp2_with fail
  refine (Matrix_eg _).mono ?_
  rintro e w6 ⟨rfl, hb⟩
  have hK : K_A3 w6.heap.size w4.heap.size bb w _ := KL.push10 (K_A2.below hb hK) 5 0 0 0 3 (-4) 0 4 3 5 83 _ rfl
  clear hb
  go_wp2_with fail
  generalize w6.alloc (.cells #[.int .i64 5, .int .i64 0, .int .i64 0, .int .i64 0, .int .i64 3, .int .i64 (-4), .int .i64 0, .int .i64 4, .int .i64 3, .int .i64 5] 83) = W7 at hK ⊢
  generalize w6.heap.size = q at hK ⊢
  generalize w4.heap.size = p at hK ⊢
  have hk := hK
  clear hK
  have q49 := H49.out
  have q83 := H83.out
  clear H49 H83
  go_region_held3 (fun w' => (w'.cell? ⟨q, 0, none⟩ = some (.int .i64 5) ∧ w'.cell? ⟨q, 1, none⟩ = some (.int .i64 0) ∧ w'.cell? ⟨q, 2, none⟩ = some (.int .i64 0) ∧ w'.cell? ⟨q, 3, none⟩ = some (.int .i64 0) ∧ w'.cell? ⟨q, 4, none⟩ = some (.int .i64 3) ∧ w'.cell? ⟨q, 5, none⟩ = some (.int .i64 (-4)) ∧ w'.cell? ⟨q, 6, none⟩ = some (.int .i64 0) ∧ w'.cell? ⟨q, 7, none⟩ = some (.int .i64 4) ∧ w'.cell? ⟨q, 8, none⟩ = some (.int .i64 3) ∧ w'.cell? ⟨q, 9, none⟩ = some (.int .i64 5) ∧ w'.cell? ⟨p, 0, none⟩ = some (.int .i64 1) ∧ w'.cell? ⟨p, 1, none⟩ = some (.int .i64 1) ∧ w'.cell? ⟨p, 2, none⟩ = some (.int .i64 1) ∧ w'.cell? ⟨p, 3, none⟩ = some (.int .i64 1) ∧ w'.cell? ⟨p, 4, none⟩ = some (.int .i64 2) ∧ w'.cell? ⟨p, 5, none⟩ = some (.int .i64 0) ∧ w'.cell? ⟨p, 6, none⟩ = some (.int .i64 0) ∧ w'.cell? ⟨p, 7, none⟩ = some (.int .i64 0) ∧ w'.cell? ⟨p, 8, none⟩ = some (.int .i64 0) ∧ w'.cell? ⟨p, 9, none⟩ = some (.int .i64 1) ∧ w'.cell? ⟨bb, 0, none⟩ = some (.int .i64 1) ∧ w'.cell? ⟨bb, 1, none⟩ = some (.int .i64 1) ∧ w'.cell? ⟨bb, 2, none⟩ = some (.int .i64 0) ∧ w'.cell? ⟨bb, 3, none⟩ = some (.int .i64 0) ∧ w'.cell? ⟨bb, 4, none⟩ = some (.int .i64 1)) ∧ K_A3 q p bb w w') ((refine K_A3.ks ?_; repeat (first | (with_reducible assumption) | (with_reducible refine K_A3.draws _ ?_) | (with_reducible refine K_A3.drew ?_) | (with_reducible refine K_A3.alloc _ ?_) | (with_reducible refine K_A3.set ?_ _ _ _ (by omega)))))
    (first
      | (go_at_call 57; (with_reducible refine (quat_any _ _ _ _ _).mono ?_); rintro e w' ⟨rfl, hbel⟩; have hk' := K_A3.below hbel (And.right (by assumption)); clear hbel)
      | (go_at_call 28; (with_reducible refine Calls.mono (same_110 bb _ c _ (rq_K (And.right (by assumption))) (by first | exact rq_drew (rq_new _ _ _ rfl) | exact rq_new _ _ _ rfl | exact rq_drew (rq_new _ _ _ (by simp)) | exact rq_new _ _ _ (by simp)) hc hl) ?_); rintro e w'' ⟨rfl, hbel⟩; have hk'' := K_A3.below hbel (And.right (by assumption)); clear hbel))
  all_goals
    go_wp2
    go_ret
    exact ⟨rfl, by first | exact K_A3.bel hk'' | exact K_A3.bel hk' | exact K_A3.bel (And.right (by assumption)) | exact below_draws (K_A3.bel hk') 1⟩
end Go.Proofs.Yteiflfmpkfhkoaa.Rt
