/-
  WALK: moved, the image of an element, put together step by step.
-/
import Derived.Test.YtgbnmnkgelklbaaIk1
import Derived.Test.YtgbnmnkgelklbaaAlM
import Derived.Test.YtgbnmnkgelklbaaAlT
import Derived.Test.YtgbnmnkgelklbaaAlS
namespace Go.Proofs.Ytgbnmnkgelklbaa.Ik
open Go.RowKit
open Alm Al
set_option linter.unusedVariables false
set_option linter.unusedSimpArgs false
set_option maxRecDepth 100000
/-- what a walk keeps: cells, and that nothing that was there has turned -/
def K_Mb (C D w0 a0 b0 c0 f x0 x1 x2 x3 x4 y0 y1 y2 y3 y4 : Int) (b1 bq bx by_ R : Nat) (w w' : World) : Prop := KL w [(b1, 0, .int .i64 C), (b1, 1, .int .i64 D), (bq, 0, .int .i64 w0), (bq, 1, .int .i64 a0), (bq, 2, .int .i64 b0), (bq, 3, .int .i64 c0), (bq, 4, .int .i64 f), (bx, 0, .int .i64 x0), (bx, 1, .int .i64 x1), (bx, 2, .int .i64 x2), (bx, 3, .int .i64 x3), (bx, 4, .int .i64 x4), (by_, 0, .int .i64 y0), (by_, 1, .int .i64 y1), (by_, 2, .int .i64 y2), (by_, 3, .int .i64 y3), (by_, 4, .int .i64 y4)] [(R, 0), (R, 1), (R, 2), (R, 3), (R, 4)] w'
theorem K_Mb.below {C D w0 a0 b0 c0 f x0 x1 x2 x3 x4 y0 y1 y2 y3 y4 : Int} {b1 bq bx by_ R : Nat} {w w1 w2 : World} (hb : Below w1.heap.size w1 w2) (h : K_Mb C D w0 a0 b0 c0 f x0 x1 x2 x3 x4 y0 y1 y2 y3 y4 b1 bq bx by_ R w w1) : K_Mb C D w0 a0 b0 c0 f x0 x1 x2 x3 x4 y0 y1 y2 y3 y4 b1 bq bx by_ R w w2 := KL.below hb h
theorem K_Mb.draws {C D w0 a0 b0 c0 f x0 x1 x2 x3 x4 y0 y1 y2 y3 y4 : Int} {b1 bq bx by_ R : Nat} {w w1 : World} (n : Nat) (h : K_Mb C D w0 a0 b0 c0 f x0 x1 x2 x3 x4 y0 y1 y2 y3 y4 b1 bq bx by_ R w w1) : K_Mb C D w0 a0 b0 c0 f x0 x1 x2 x3 x4 y0 y1 y2 y3 y4 b1 bq bx by_ R w (w1.drewN n) := KL.draws n h
theorem K_Mb.drew {C D w0 a0 b0 c0 f x0 x1 x2 x3 x4 y0 y1 y2 y3 y4 : Int} {b1 bq bx by_ R : Nat} {w w1 : World} (h : K_Mb C D w0 a0 b0 c0 f x0 x1 x2 x3 x4 y0 y1 y2 y3 y4 b1 bq bx by_ R w w1) : K_Mb C D w0 a0 b0 c0 f x0 x1 x2 x3 x4 y0 y1 y2 y3 y4 b1 bq bx by_ R w w1.drew := KL.draws 1 h
theorem K_Mb.alloc {C D w0 a0 b0 c0 f x0 x1 x2 x3 x4 y0 y1 y2 y3 y4 : Int} {b1 bq bx by_ R : Nat} {w w1 : World} (o : Obj) (h : K_Mb C D w0 a0 b0 c0 f x0 x1 x2 x3 x4 y0 y1 y2 y3 y4 b1 bq bx by_ R w w1) : K_Mb C D w0 a0 b0 c0 f x0 x1 x2 x3 x4 y0 y1 y2 y3 y4 b1 bq bx by_ R w (w1.alloc o) := KL.alloc o h
theorem K_Mb.set {C D w0 a0 b0 c0 f x0 x1 x2 x3 x4 y0 y1 y2 y3 y4 : Int} {b1 bq bx by_ R : Nat} {w w1 : World} (h : K_Mb C D w0 a0 b0 c0 f x0 x1 x2 x3 x4 y0 y1 y2 y3 y4 b1 bq bx by_ R w w1) (b i : Nat) (v : Value) (hb : b ≠ b1 ∧ b ≠ bq ∧ b ≠ bx ∧ b ≠ by_ ∧ w.heap.size ≤ b) : K_Mb C D w0 a0 b0 c0 f x0 x1 x2 x3 x4 y0 y1 y2 y3 y4 b1 bq bx by_ R w (w1.setCell ⟨b, i, none⟩ v) :=
  KL.set h b i v (by intro x hx; simp only [List.mem_cons, List.not_mem_nil, or_false] at hx; rcases hx with rfl | rfl | rfl | rfl | rfl | rfl | rfl | rfl | rfl | rfl | rfl | rfl | rfl | rfl | rfl | rfl | rfl <;> simp only [] <;> omega) (by omega)
theorem K_Mb.bel {C D w0 a0 b0 c0 f x0 x1 x2 x3 x4 y0 y1 y2 y3 y4 : Int} {b1 bq bx by_ R : Nat} {w w1 : World} (h : K_Mb C D w0 a0 b0 c0 f x0 x1 x2 x3 x4 y0 y1 y2 y3 y4 b1 bq bx by_ R w w1) : Below w.heap.size w w1 := KL.bel h
theorem K_Mb.cells {C D w0 a0 b0 c0 f x0 x1 x2 x3 x4 y0 y1 y2 y3 y4 : Int} {b1 bq bx by_ R : Nat} {w w' : World} (h : K_Mb C D w0 a0 b0 c0 f x0 x1 x2 x3 x4 y0 y1 y2 y3 y4 b1 bq bx by_ R w w') : w'.cell? ⟨b1, 0, none⟩ = some (.int .i64 C) ∧ w'.cell? ⟨b1, 1, none⟩ = some (.int .i64 D) ∧ w'.cell? ⟨bq, 0, none⟩ = some (.int .i64 w0) ∧ w'.cell? ⟨bq, 1, none⟩ = some (.int .i64 a0) ∧ w'.cell? ⟨bq, 2, none⟩ = some (.int .i64 b0) ∧ w'.cell? ⟨bq, 3, none⟩ = some (.int .i64 c0) ∧ w'.cell? ⟨bq, 4, none⟩ = some (.int .i64 f) ∧ w'.cell? ⟨bx, 0, none⟩ = some (.int .i64 x0) ∧ w'.cell? ⟨bx, 1, none⟩ = some (.int .i64 x1) ∧ w'.cell? ⟨bx, 2, none⟩ = some (.int .i64 x2) ∧ w'.cell? ⟨bx, 3, none⟩ = some (.int .i64 x3) ∧ w'.cell? ⟨bx, 4, none⟩ = some (.int .i64 x4) ∧ w'.cell? ⟨by_, 0, none⟩ = some (.int .i64 y0) ∧ w'.cell? ⟨by_, 1, none⟩ = some (.int .i64 y1) ∧ w'.cell? ⟨by_, 2, none⟩ = some (.int .i64 y2) ∧ w'.cell? ⟨by_, 3, none⟩ = some (.int .i64 y3) ∧ w'.cell? ⟨by_, 4, none⟩ = some (.int .i64 y4) ∧ w'.cell? ⟨R, 0, none⟩ = some (cv w' R 0) ∧ w'.frozen? ⟨R, 0, none⟩ = false ∧ w'.cell? ⟨R, 1, none⟩ = some (cv w' R 1) ∧ w'.frozen? ⟨R, 1, none⟩ = false ∧ w'.cell? ⟨R, 2, none⟩ = some (cv w' R 2) ∧ w'.frozen? ⟨R, 2, none⟩ = false ∧ w'.cell? ⟨R, 3, none⟩ = some (cv w' R 3) ∧ w'.frozen? ⟨R, 3, none⟩ = false ∧ w'.cell? ⟨R, 4, none⟩ = some (cv w' R 4) ∧ w'.frozen? ⟨R, 4, none⟩ = false := ⟨h.c (b1, 0, .int .i64 C) (by simp), h.c (b1, 1, .int .i64 D) (by simp), h.c (bq, 0, .int .i64 w0) (by simp), h.c (bq, 1, .int .i64 a0) (by simp), h.c (bq, 2, .int .i64 b0) (by simp), h.c (bq, 3, .int .i64 c0) (by simp), h.c (bq, 4, .int .i64 f) (by simp), h.c (bx, 0, .int .i64 x0) (by simp), h.c (bx, 1, .int .i64 x1) (by simp), h.c (bx, 2, .int .i64 x2) (by simp), h.c (bx, 3, .int .i64 x3) (by simp), h.c (bx, 4, .int .i64 x4) (by simp), h.c (by_, 0, .int .i64 y0) (by simp), h.c (by_, 1, .int .i64 y1) (by simp), h.c (by_, 2, .int .i64 y2) (by simp), h.c (by_, 3, .int .i64 y3) (by simp), h.c (by_, 4, .int .i64 y4) (by simp), h.d (R, 0) (by simp), h.f (R, 0) (by simp), h.d (R, 1) (by simp), h.f (R, 1) (by simp), h.d (R, 2) (by simp), h.f (R, 2) (by simp), h.d (R, 3) (by simp), h.f (R, 3) (by simp), h.d (R, 4) (by simp), h.f (R, 4) (by simp)⟩
theorem K_Mb.zs {C D w0 a0 b0 c0 f x0 x1 x2 x3 x4 y0 y1 y2 y3 y4 : Int} {b1 bq bx by_ R : Nat} {w w' : World} (h : K_Mb C D w0 a0 b0 c0 f x0 x1 x2 x3 x4 y0 y1 y2 y3 y4 b1 bq bx by_ R w w') : b1 < w'.heap.size ∧ bq < w'.heap.size ∧ bx < w'.heap.size ∧ by_ < w'.heap.size ∧ R < w'.heap.size ∧ True := ⟨KL.z h (x := (b1, 0, .int .i64 C)) (by simp), KL.z h (x := (bq, 0, .int .i64 w0)) (by simp), KL.z h (x := (bx, 0, .int .i64 x0)) (by simp), KL.z h (x := (by_, 0, .int .i64 y0)) (by simp), KL.zf h (x := (R, 0)) (by simp), trivial⟩
theorem K_Mb.ks {C D w0 a0 b0 c0 f x0 x1 x2 x3 x4 y0 y1 y2 y3 y4 : Int} {b1 bq bx by_ R : Nat} {w w' : World} (h : K_Mb C D w0 a0 b0 c0 f x0 x1 x2 x3 x4 y0 y1 y2 y3 y4 b1 bq bx by_ R w w') : (w'.cell? ⟨b1, 0, none⟩ = some (.int .i64 C) ∧ w'.cell? ⟨b1, 1, none⟩ = some (.int .i64 D) ∧ w'.cell? ⟨bq, 0, none⟩ = some (.int .i64 w0) ∧ w'.cell? ⟨bq, 1, none⟩ = some (.int .i64 a0) ∧ w'.cell? ⟨bq, 2, none⟩ = some (.int .i64 b0) ∧ w'.cell? ⟨bq, 3, none⟩ = some (.int .i64 c0) ∧ w'.cell? ⟨bq, 4, none⟩ = some (.int .i64 f) ∧ w'.cell? ⟨bx, 0, none⟩ = some (.int .i64 x0) ∧ w'.cell? ⟨bx, 1, none⟩ = some (.int .i64 x1) ∧ w'.cell? ⟨bx, 2, none⟩ = some (.int .i64 x2) ∧ w'.cell? ⟨bx, 3, none⟩ = some (.int .i64 x3) ∧ w'.cell? ⟨bx, 4, none⟩ = some (.int .i64 x4) ∧ w'.cell? ⟨by_, 0, none⟩ = some (.int .i64 y0) ∧ w'.cell? ⟨by_, 1, none⟩ = some (.int .i64 y1) ∧ w'.cell? ⟨by_, 2, none⟩ = some (.int .i64 y2) ∧ w'.cell? ⟨by_, 3, none⟩ = some (.int .i64 y3) ∧ w'.cell? ⟨by_, 4, none⟩ = some (.int .i64 y4) ∧ w'.cell? ⟨R, 0, none⟩ = some (cv w' R 0) ∧ w'.frozen? ⟨R, 0, none⟩ = false ∧ w'.cell? ⟨R, 1, none⟩ = some (cv w' R 1) ∧ w'.frozen? ⟨R, 1, none⟩ = false ∧ w'.cell? ⟨R, 2, none⟩ = some (cv w' R 2) ∧ w'.frozen? ⟨R, 2, none⟩ = false ∧ w'.cell? ⟨R, 3, none⟩ = some (cv w' R 3) ∧ w'.frozen? ⟨R, 3, none⟩ = false ∧ w'.cell? ⟨R, 4, none⟩ = some (cv w' R 4) ∧ w'.frozen? ⟨R, 4, none⟩ = false) ∧ K_Mb C D w0 a0 b0 c0 f x0 x1 x2 x3 x4 y0 y1 y2 y3 y4 b1 bq bx by_ R w w' := ⟨h.cells, h⟩
/-- what a walk keeps: cells, and that nothing that was there has turned -/
def K_Mk (w0 a0 b0 c0 f x0 x1 x2 x3 x4 y0 y1 y2 y3 y4 k0 k1 k2 k3 k4 : Int) (bq bx by_ bk R : Nat) (w w' : World) : Prop := KL w [(bq, 0, .int .i64 w0), (bq, 1, .int .i64 a0), (bq, 2, .int .i64 b0), (bq, 3, .int .i64 c0), (bq, 4, .int .i64 f), (bx, 0, .int .i64 x0), (bx, 1, .int .i64 x1), (bx, 2, .int .i64 x2), (bx, 3, .int .i64 x3), (bx, 4, .int .i64 x4), (by_, 0, .int .i64 y0), (by_, 1, .int .i64 y1), (by_, 2, .int .i64 y2), (by_, 3, .int .i64 y3), (by_, 4, .int .i64 y4), (bk, 0, .int .i64 k0), (bk, 1, .int .i64 k1), (bk, 2, .int .i64 k2), (bk, 3, .int .i64 k3), (bk, 4, .int .i64 k4)] [(R, 0), (R, 1), (R, 2), (R, 3), (R, 4)] w'
theorem K_Mk.below {w0 a0 b0 c0 f x0 x1 x2 x3 x4 y0 y1 y2 y3 y4 k0 k1 k2 k3 k4 : Int} {bq bx by_ bk R : Nat} {w w1 w2 : World} (hb : Below w1.heap.size w1 w2) (h : K_Mk w0 a0 b0 c0 f x0 x1 x2 x3 x4 y0 y1 y2 y3 y4 k0 k1 k2 k3 k4 bq bx by_ bk R w w1) : K_Mk w0 a0 b0 c0 f x0 x1 x2 x3 x4 y0 y1 y2 y3 y4 k0 k1 k2 k3 k4 bq bx by_ bk R w w2 := KL.below hb h
theorem K_Mk.draws {w0 a0 b0 c0 f x0 x1 x2 x3 x4 y0 y1 y2 y3 y4 k0 k1 k2 k3 k4 : Int} {bq bx by_ bk R : Nat} {w w1 : World} (n : Nat) (h : K_Mk w0 a0 b0 c0 f x0 x1 x2 x3 x4 y0 y1 y2 y3 y4 k0 k1 k2 k3 k4 bq bx by_ bk R w w1) : K_Mk w0 a0 b0 c0 f x0 x1 x2 x3 x4 y0 y1 y2 y3 y4 k0 k1 k2 k3 k4 bq bx by_ bk R w (w1.drewN n) := KL.draws n h
theorem K_Mk.drew {w0 a0 b0 c0 f x0 x1 x2 x3 x4 y0 y1 y2 y3 y4 k0 k1 k2 k3 k4 : Int} {bq bx by_ bk R : Nat} {w w1 : World} (h : K_Mk w0 a0 b0 c0 f x0 x1 x2 x3 x4 y0 y1 y2 y3 y4 k0 k1 k2 k3 k4 bq bx by_ bk R w w1) : K_Mk w0 a0 b0 c0 f x0 x1 x2 x3 x4 y0 y1 y2 y3 y4 k0 k1 k2 k3 k4 bq bx by_ bk R w w1.drew := KL.draws 1 h
theorem K_Mk.alloc {w0 a0 b0 c0 f x0 x1 x2 x3 x4 y0 y1 y2 y3 y4 k0 k1 k2 k3 k4 : Int} {bq bx by_ bk R : Nat} {w w1 : World} (o : Obj) (h : K_Mk w0 a0 b0 c0 f x0 x1 x2 x3 x4 y0 y1 y2 y3 y4 k0 k1 k2 k3 k4 bq bx by_ bk R w w1) : K_Mk w0 a0 b0 c0 f x0 x1 x2 x3 x4 y0 y1 y2 y3 y4 k0 k1 k2 k3 k4 bq bx by_ bk R w (w1.alloc o) := KL.alloc o h
theorem K_Mk.set {w0 a0 b0 c0 f x0 x1 x2 x3 x4 y0 y1 y2 y3 y4 k0 k1 k2 k3 k4 : Int} {bq bx by_ bk R : Nat} {w w1 : World} (h : K_Mk w0 a0 b0 c0 f x0 x1 x2 x3 x4 y0 y1 y2 y3 y4 k0 k1 k2 k3 k4 bq bx by_ bk R w w1) (b i : Nat) (v : Value) (hb : b ≠ bq ∧ b ≠ bx ∧ b ≠ by_ ∧ b ≠ bk ∧ w.heap.size ≤ b) : K_Mk w0 a0 b0 c0 f x0 x1 x2 x3 x4 y0 y1 y2 y3 y4 k0 k1 k2 k3 k4 bq bx by_ bk R w (w1.setCell ⟨b, i, none⟩ v) :=
  KL.set h b i v (by intro x hx; simp only [List.mem_cons, List.not_mem_nil, or_false] at hx; rcases hx with rfl | rfl | rfl | rfl | rfl | rfl | rfl | rfl | rfl | rfl | rfl | rfl | rfl | rfl | rfl | rfl | rfl | rfl | rfl | rfl <;> simp only [] <;> omega) (by omega)
theorem K_Mk.bel {w0 a0 b0 c0 f x0 x1 x2 x3 x4 y0 y1 y2 y3 y4 k0 k1 k2 k3 k4 : Int} {bq bx by_ bk R : Nat} {w w1 : World} (h : K_Mk w0 a0 b0 c0 f x0 x1 x2 x3 x4 y0 y1 y2 y3 y4 k0 k1 k2 k3 k4 bq bx by_ bk R w w1) : Below w.heap.size w w1 := KL.bel h
theorem K_Mk.cells {w0 a0 b0 c0 f x0 x1 x2 x3 x4 y0 y1 y2 y3 y4 k0 k1 k2 k3 k4 : Int} {bq bx by_ bk R : Nat} {w w' : World} (h : K_Mk w0 a0 b0 c0 f x0 x1 x2 x3 x4 y0 y1 y2 y3 y4 k0 k1 k2 k3 k4 bq bx by_ bk R w w') : w'.cell? ⟨bq, 0, none⟩ = some (.int .i64 w0) ∧ w'.cell? ⟨bq, 1, none⟩ = some (.int .i64 a0) ∧ w'.cell? ⟨bq, 2, none⟩ = some (.int .i64 b0) ∧ w'.cell? ⟨bq, 3, none⟩ = some (.int .i64 c0) ∧ w'.cell? ⟨bq, 4, none⟩ = some (.int .i64 f) ∧ w'.cell? ⟨bx, 0, none⟩ = some (.int .i64 x0) ∧ w'.cell? ⟨bx, 1, none⟩ = some (.int .i64 x1) ∧ w'.cell? ⟨bx, 2, none⟩ = some (.int .i64 x2) ∧ w'.cell? ⟨bx, 3, none⟩ = some (.int .i64 x3) ∧ w'.cell? ⟨bx, 4, none⟩ = some (.int .i64 x4) ∧ w'.cell? ⟨by_, 0, none⟩ = some (.int .i64 y0) ∧ w'.cell? ⟨by_, 1, none⟩ = some (.int .i64 y1) ∧ w'.cell? ⟨by_, 2, none⟩ = some (.int .i64 y2) ∧ w'.cell? ⟨by_, 3, none⟩ = some (.int .i64 y3) ∧ w'.cell? ⟨by_, 4, none⟩ = some (.int .i64 y4) ∧ w'.cell? ⟨bk, 0, none⟩ = some (.int .i64 k0) ∧ w'.cell? ⟨bk, 1, none⟩ = some (.int .i64 k1) ∧ w'.cell? ⟨bk, 2, none⟩ = some (.int .i64 k2) ∧ w'.cell? ⟨bk, 3, none⟩ = some (.int .i64 k3) ∧ w'.cell? ⟨bk, 4, none⟩ = some (.int .i64 k4) ∧ w'.cell? ⟨R, 0, none⟩ = some (cv w' R 0) ∧ w'.frozen? ⟨R, 0, none⟩ = false ∧ w'.cell? ⟨R, 1, none⟩ = some (cv w' R 1) ∧ w'.frozen? ⟨R, 1, none⟩ = false ∧ w'.cell? ⟨R, 2, none⟩ = some (cv w' R 2) ∧ w'.frozen? ⟨R, 2, none⟩ = false ∧ w'.cell? ⟨R, 3, none⟩ = some (cv w' R 3) ∧ w'.frozen? ⟨R, 3, none⟩ = false ∧ w'.cell? ⟨R, 4, none⟩ = some (cv w' R 4) ∧ w'.frozen? ⟨R, 4, none⟩ = false := ⟨h.c (bq, 0, .int .i64 w0) (by simp), h.c (bq, 1, .int .i64 a0) (by simp), h.c (bq, 2, .int .i64 b0) (by simp), h.c (bq, 3, .int .i64 c0) (by simp), h.c (bq, 4, .int .i64 f) (by simp), h.c (bx, 0, .int .i64 x0) (by simp), h.c (bx, 1, .int .i64 x1) (by simp), h.c (bx, 2, .int .i64 x2) (by simp), h.c (bx, 3, .int .i64 x3) (by simp), h.c (bx, 4, .int .i64 x4) (by simp), h.c (by_, 0, .int .i64 y0) (by simp), h.c (by_, 1, .int .i64 y1) (by simp), h.c (by_, 2, .int .i64 y2) (by simp), h.c (by_, 3, .int .i64 y3) (by simp), h.c (by_, 4, .int .i64 y4) (by simp), h.c (bk, 0, .int .i64 k0) (by simp), h.c (bk, 1, .int .i64 k1) (by simp), h.c (bk, 2, .int .i64 k2) (by simp), h.c (bk, 3, .int .i64 k3) (by simp), h.c (bk, 4, .int .i64 k4) (by simp), h.d (R, 0) (by simp), h.f (R, 0) (by simp), h.d (R, 1) (by simp), h.f (R, 1) (by simp), h.d (R, 2) (by simp), h.f (R, 2) (by simp), h.d (R, 3) (by simp), h.f (R, 3) (by simp), h.d (R, 4) (by simp), h.f (R, 4) (by simp)⟩
theorem K_Mk.zs {w0 a0 b0 c0 f x0 x1 x2 x3 x4 y0 y1 y2 y3 y4 k0 k1 k2 k3 k4 : Int} {bq bx by_ bk R : Nat} {w w' : World} (h : K_Mk w0 a0 b0 c0 f x0 x1 x2 x3 x4 y0 y1 y2 y3 y4 k0 k1 k2 k3 k4 bq bx by_ bk R w w') : bq < w'.heap.size ∧ bx < w'.heap.size ∧ by_ < w'.heap.size ∧ bk < w'.heap.size ∧ R < w'.heap.size ∧ True := ⟨KL.z h (x := (bq, 0, .int .i64 w0)) (by simp), KL.z h (x := (bx, 0, .int .i64 x0)) (by simp), KL.z h (x := (by_, 0, .int .i64 y0)) (by simp), KL.z h (x := (bk, 0, .int .i64 k0)) (by simp), KL.zf h (x := (R, 0)) (by simp), trivial⟩
theorem K_Mk.ks {w0 a0 b0 c0 f x0 x1 x2 x3 x4 y0 y1 y2 y3 y4 k0 k1 k2 k3 k4 : Int} {bq bx by_ bk R : Nat} {w w' : World} (h : K_Mk w0 a0 b0 c0 f x0 x1 x2 x3 x4 y0 y1 y2 y3 y4 k0 k1 k2 k3 k4 bq bx by_ bk R w w') : (w'.cell? ⟨bq, 0, none⟩ = some (.int .i64 w0) ∧ w'.cell? ⟨bq, 1, none⟩ = some (.int .i64 a0) ∧ w'.cell? ⟨bq, 2, none⟩ = some (.int .i64 b0) ∧ w'.cell? ⟨bq, 3, none⟩ = some (.int .i64 c0) ∧ w'.cell? ⟨bq, 4, none⟩ = some (.int .i64 f) ∧ w'.cell? ⟨bx, 0, none⟩ = some (.int .i64 x0) ∧ w'.cell? ⟨bx, 1, none⟩ = some (.int .i64 x1) ∧ w'.cell? ⟨bx, 2, none⟩ = some (.int .i64 x2) ∧ w'.cell? ⟨bx, 3, none⟩ = some (.int .i64 x3) ∧ w'.cell? ⟨bx, 4, none⟩ = some (.int .i64 x4) ∧ w'.cell? ⟨by_, 0, none⟩ = some (.int .i64 y0) ∧ w'.cell? ⟨by_, 1, none⟩ = some (.int .i64 y1) ∧ w'.cell? ⟨by_, 2, none⟩ = some (.int .i64 y2) ∧ w'.cell? ⟨by_, 3, none⟩ = some (.int .i64 y3) ∧ w'.cell? ⟨by_, 4, none⟩ = some (.int .i64 y4) ∧ w'.cell? ⟨bk, 0, none⟩ = some (.int .i64 k0) ∧ w'.cell? ⟨bk, 1, none⟩ = some (.int .i64 k1) ∧ w'.cell? ⟨bk, 2, none⟩ = some (.int .i64 k2) ∧ w'.cell? ⟨bk, 3, none⟩ = some (.int .i64 k3) ∧ w'.cell? ⟨bk, 4, none⟩ = some (.int .i64 k4) ∧ w'.cell? ⟨R, 0, none⟩ = some (cv w' R 0) ∧ w'.frozen? ⟨R, 0, none⟩ = false ∧ w'.cell? ⟨R, 1, none⟩ = some (cv w' R 1) ∧ w'.frozen? ⟨R, 1, none⟩ = false ∧ w'.cell? ⟨R, 2, none⟩ = some (cv w' R 2) ∧ w'.frozen? ⟨R, 2, none⟩ = false ∧ w'.cell? ⟨R, 3, none⟩ = some (cv w' R 3) ∧ w'.frozen? ⟨R, 3, none⟩ = false ∧ w'.cell? ⟨R, 4, none⟩ = some (cv w' R 4) ∧ w'.frozen? ⟨R, 4, none⟩ = false) ∧ K_Mk w0 a0 b0 c0 f x0 x1 x2 x3 x4 y0 y1 y2 y3 y4 k0 k1 k2 k3 k4 bq bx by_ bk R w w' := ⟨h.cells, h⟩
/-- what a walk keeps: cells, and that nothing that was there has turned -/
def K_Mv (f l0 l1 l2 l3 l4 m0 m1 m2 m3 m4 n0 n1 n2 n3 n4 c0 c1 c2 o0 o1 o2 o3 o4 : Int) (bq oq R bo bl bc : Nat) (w w' : World) : Prop := KL w [(bq, oq, .int .i64 f), (bl, 0, .int .i64 l0), (bl, 1, .int .i64 l1), (bl, 2, .int .i64 l2), (bl, 3, .int .i64 l3), (bl, 4, .int .i64 l4), (bl, 5, .int .i64 m0), (bl, 6, .int .i64 m1), (bl, 7, .int .i64 m2), (bl, 8, .int .i64 m3), (bl, 9, .int .i64 m4), (bl, 10, .int .i64 n0), (bl, 11, .int .i64 n1), (bl, 12, .int .i64 n2), (bl, 13, .int .i64 n3), (bl, 14, .int .i64 n4), (bc, 0, .int .i64 c0), (bc, 1, .int .i64 c1), (bc, 2, .int .i64 c2), (bo, 0, .int .i64 o0), (bo, 1, .int .i64 o1), (bo, 2, .int .i64 o2), (bo, 3, .int .i64 o3), (bo, 4, .int .i64 o4)] [(bo, 0), (bo, 1), (bo, 2), (bo, 3), (bo, 4), (R, 0), (R, 1), (R, 2), (R, 3), (R, 4)] w'
theorem K_Mv.below {f l0 l1 l2 l3 l4 m0 m1 m2 m3 m4 n0 n1 n2 n3 n4 c0 c1 c2 o0 o1 o2 o3 o4 : Int} {bq oq R bo bl bc : Nat} {w w1 w2 : World} (hb : Below w1.heap.size w1 w2) (h : K_Mv f l0 l1 l2 l3 l4 m0 m1 m2 m3 m4 n0 n1 n2 n3 n4 c0 c1 c2 o0 o1 o2 o3 o4 bq oq R bo bl bc w w1) : K_Mv f l0 l1 l2 l3 l4 m0 m1 m2 m3 m4 n0 n1 n2 n3 n4 c0 c1 c2 o0 o1 o2 o3 o4 bq oq R bo bl bc w w2 := KL.below hb h
theorem K_Mv.draws {f l0 l1 l2 l3 l4 m0 m1 m2 m3 m4 n0 n1 n2 n3 n4 c0 c1 c2 o0 o1 o2 o3 o4 : Int} {bq oq R bo bl bc : Nat} {w w1 : World} (n : Nat) (h : K_Mv f l0 l1 l2 l3 l4 m0 m1 m2 m3 m4 n0 n1 n2 n3 n4 c0 c1 c2 o0 o1 o2 o3 o4 bq oq R bo bl bc w w1) : K_Mv f l0 l1 l2 l3 l4 m0 m1 m2 m3 m4 n0 n1 n2 n3 n4 c0 c1 c2 o0 o1 o2 o3 o4 bq oq R bo bl bc w (w1.drewN n) := KL.draws n h
theorem K_Mv.drew {f l0 l1 l2 l3 l4 m0 m1 m2 m3 m4 n0 n1 n2 n3 n4 c0 c1 c2 o0 o1 o2 o3 o4 : Int} {bq oq R bo bl bc : Nat} {w w1 : World} (h : K_Mv f l0 l1 l2 l3 l4 m0 m1 m2 m3 m4 n0 n1 n2 n3 n4 c0 c1 c2 o0 o1 o2 o3 o4 bq oq R bo bl bc w w1) : K_Mv f l0 l1 l2 l3 l4 m0 m1 m2 m3 m4 n0 n1 n2 n3 n4 c0 c1 c2 o0 o1 o2 o3 o4 bq oq R bo bl bc w w1.drew := KL.draws 1 h
theorem K_Mv.alloc {f l0 l1 l2 l3 l4 m0 m1 m2 m3 m4 n0 n1 n2 n3 n4 c0 c1 c2 o0 o1 o2 o3 o4 : Int} {bq oq R bo bl bc : Nat} {w w1 : World} (o : Obj) (h : K_Mv f l0 l1 l2 l3 l4 m0 m1 m2 m3 m4 n0 n1 n2 n3 n4 c0 c1 c2 o0 o1 o2 o3 o4 bq oq R bo bl bc w w1) : K_Mv f l0 l1 l2 l3 l4 m0 m1 m2 m3 m4 n0 n1 n2 n3 n4 c0 c1 c2 o0 o1 o2 o3 o4 bq oq R bo bl bc w (w1.alloc o) := KL.alloc o h
theorem K_Mv.set {f l0 l1 l2 l3 l4 m0 m1 m2 m3 m4 n0 n1 n2 n3 n4 c0 c1 c2 o0 o1 o2 o3 o4 : Int} {bq oq R bo bl bc : Nat} {w w1 : World} (h : K_Mv f l0 l1 l2 l3 l4 m0 m1 m2 m3 m4 n0 n1 n2 n3 n4 c0 c1 c2 o0 o1 o2 o3 o4 bq oq R bo bl bc w w1) (b i : Nat) (v : Value) (hb : b ≠ bq ∧ b ≠ bl ∧ b ≠ bc ∧ b ≠ bo ∧ w.heap.size ≤ b) : K_Mv f l0 l1 l2 l3 l4 m0 m1 m2 m3 m4 n0 n1 n2 n3 n4 c0 c1 c2 o0 o1 o2 o3 o4 bq oq R bo bl bc w (w1.setCell ⟨b, i, none⟩ v) :=
  KL.set h b i v (by intro x hx; simp only [List.mem_cons, List.not_mem_nil, or_false] at hx; rcases hx with rfl | rfl | rfl | rfl | rfl | rfl | rfl | rfl | rfl | rfl | rfl | rfl | rfl | rfl | rfl | rfl | rfl | rfl | rfl | rfl | rfl | rfl | rfl | rfl <;> simp only [] <;> omega) (by omega)
theorem K_Mv.bel {f l0 l1 l2 l3 l4 m0 m1 m2 m3 m4 n0 n1 n2 n3 n4 c0 c1 c2 o0 o1 o2 o3 o4 : Int} {bq oq R bo bl bc : Nat} {w w1 : World} (h : K_Mv f l0 l1 l2 l3 l4 m0 m1 m2 m3 m4 n0 n1 n2 n3 n4 c0 c1 c2 o0 o1 o2 o3 o4 bq oq R bo bl bc w w1) : Below w.heap.size w w1 := KL.bel h
theorem K_Mv.cells {f l0 l1 l2 l3 l4 m0 m1 m2 m3 m4 n0 n1 n2 n3 n4 c0 c1 c2 o0 o1 o2 o3 o4 : Int} {bq oq R bo bl bc : Nat} {w w' : World} (h : K_Mv f l0 l1 l2 l3 l4 m0 m1 m2 m3 m4 n0 n1 n2 n3 n4 c0 c1 c2 o0 o1 o2 o3 o4 bq oq R bo bl bc w w') : w'.cell? ⟨bq, oq, none⟩ = some (.int .i64 f) ∧ w'.cell? ⟨bl, 0, none⟩ = some (.int .i64 l0) ∧ w'.cell? ⟨bl, 1, none⟩ = some (.int .i64 l1) ∧ w'.cell? ⟨bl, 2, none⟩ = some (.int .i64 l2) ∧ w'.cell? ⟨bl, 3, none⟩ = some (.int .i64 l3) ∧ w'.cell? ⟨bl, 4, none⟩ = some (.int .i64 l4) ∧ w'.cell? ⟨bl, 5, none⟩ = some (.int .i64 m0) ∧ w'.cell? ⟨bl, 6, none⟩ = some (.int .i64 m1) ∧ w'.cell? ⟨bl, 7, none⟩ = some (.int .i64 m2) ∧ w'.cell? ⟨bl, 8, none⟩ = some (.int .i64 m3) ∧ w'.cell? ⟨bl, 9, none⟩ = some (.int .i64 m4) ∧ w'.cell? ⟨bl, 10, none⟩ = some (.int .i64 n0) ∧ w'.cell? ⟨bl, 11, none⟩ = some (.int .i64 n1) ∧ w'.cell? ⟨bl, 12, none⟩ = some (.int .i64 n2) ∧ w'.cell? ⟨bl, 13, none⟩ = some (.int .i64 n3) ∧ w'.cell? ⟨bl, 14, none⟩ = some (.int .i64 n4) ∧ w'.cell? ⟨bc, 0, none⟩ = some (.int .i64 c0) ∧ w'.cell? ⟨bc, 1, none⟩ = some (.int .i64 c1) ∧ w'.cell? ⟨bc, 2, none⟩ = some (.int .i64 c2) ∧ w'.cell? ⟨bo, 0, none⟩ = some (.int .i64 o0) ∧ w'.cell? ⟨bo, 1, none⟩ = some (.int .i64 o1) ∧ w'.cell? ⟨bo, 2, none⟩ = some (.int .i64 o2) ∧ w'.cell? ⟨bo, 3, none⟩ = some (.int .i64 o3) ∧ w'.cell? ⟨bo, 4, none⟩ = some (.int .i64 o4) ∧ w'.frozen? ⟨bo, 0, none⟩ = false ∧ w'.frozen? ⟨bo, 1, none⟩ = false ∧ w'.frozen? ⟨bo, 2, none⟩ = false ∧ w'.frozen? ⟨bo, 3, none⟩ = false ∧ w'.frozen? ⟨bo, 4, none⟩ = false ∧ w'.cell? ⟨R, 0, none⟩ = some (cv w' R 0) ∧ w'.frozen? ⟨R, 0, none⟩ = false ∧ w'.cell? ⟨R, 1, none⟩ = some (cv w' R 1) ∧ w'.frozen? ⟨R, 1, none⟩ = false ∧ w'.cell? ⟨R, 2, none⟩ = some (cv w' R 2) ∧ w'.frozen? ⟨R, 2, none⟩ = false ∧ w'.cell? ⟨R, 3, none⟩ = some (cv w' R 3) ∧ w'.frozen? ⟨R, 3, none⟩ = false ∧ w'.cell? ⟨R, 4, none⟩ = some (cv w' R 4) ∧ w'.frozen? ⟨R, 4, none⟩ = false := ⟨h.c (bq, oq, .int .i64 f) (by simp), h.c (bl, 0, .int .i64 l0) (by simp), h.c (bl, 1, .int .i64 l1) (by simp), h.c (bl, 2, .int .i64 l2) (by simp), h.c (bl, 3, .int .i64 l3) (by simp), h.c (bl, 4, .int .i64 l4) (by simp), h.c (bl, 5, .int .i64 m0) (by simp), h.c (bl, 6, .int .i64 m1) (by simp), h.c (bl, 7, .int .i64 m2) (by simp), h.c (bl, 8, .int .i64 m3) (by simp), h.c (bl, 9, .int .i64 m4) (by simp), h.c (bl, 10, .int .i64 n0) (by simp), h.c (bl, 11, .int .i64 n1) (by simp), h.c (bl, 12, .int .i64 n2) (by simp), h.c (bl, 13, .int .i64 n3) (by simp), h.c (bl, 14, .int .i64 n4) (by simp), h.c (bc, 0, .int .i64 c0) (by simp), h.c (bc, 1, .int .i64 c1) (by simp), h.c (bc, 2, .int .i64 c2) (by simp), h.c (bo, 0, .int .i64 o0) (by simp), h.c (bo, 1, .int .i64 o1) (by simp), h.c (bo, 2, .int .i64 o2) (by simp), h.c (bo, 3, .int .i64 o3) (by simp), h.c (bo, 4, .int .i64 o4) (by simp), h.f (bo, 0) (by simp), h.f (bo, 1) (by simp), h.f (bo, 2) (by simp), h.f (bo, 3) (by simp), h.f (bo, 4) (by simp), h.d (R, 0) (by simp), h.f (R, 0) (by simp), h.d (R, 1) (by simp), h.f (R, 1) (by simp), h.d (R, 2) (by simp), h.f (R, 2) (by simp), h.d (R, 3) (by simp), h.f (R, 3) (by simp), h.d (R, 4) (by simp), h.f (R, 4) (by simp)⟩
theorem K_Mv.zs {f l0 l1 l2 l3 l4 m0 m1 m2 m3 m4 n0 n1 n2 n3 n4 c0 c1 c2 o0 o1 o2 o3 o4 : Int} {bq oq R bo bl bc : Nat} {w w' : World} (h : K_Mv f l0 l1 l2 l3 l4 m0 m1 m2 m3 m4 n0 n1 n2 n3 n4 c0 c1 c2 o0 o1 o2 o3 o4 bq oq R bo bl bc w w') : bq < w'.heap.size ∧ bl < w'.heap.size ∧ bc < w'.heap.size ∧ bo < w'.heap.size ∧ R < w'.heap.size ∧ True := ⟨KL.z h (x := (bq, oq, .int .i64 f)) (by simp), KL.z h (x := (bl, 0, .int .i64 l0)) (by simp), KL.z h (x := (bc, 0, .int .i64 c0)) (by simp), KL.z h (x := (bo, 0, .int .i64 o0)) (by simp), KL.zf h (x := (R, 0)) (by simp), trivial⟩
theorem K_Mv.ks {f l0 l1 l2 l3 l4 m0 m1 m2 m3 m4 n0 n1 n2 n3 n4 c0 c1 c2 o0 o1 o2 o3 o4 : Int} {bq oq R bo bl bc : Nat} {w w' : World} (h : K_Mv f l0 l1 l2 l3 l4 m0 m1 m2 m3 m4 n0 n1 n2 n3 n4 c0 c1 c2 o0 o1 o2 o3 o4 bq oq R bo bl bc w w') : (w'.cell? ⟨bq, oq, none⟩ = some (.int .i64 f) ∧ w'.cell? ⟨bl, 0, none⟩ = some (.int .i64 l0) ∧ w'.cell? ⟨bl, 1, none⟩ = some (.int .i64 l1) ∧ w'.cell? ⟨bl, 2, none⟩ = some (.int .i64 l2) ∧ w'.cell? ⟨bl, 3, none⟩ = some (.int .i64 l3) ∧ w'.cell? ⟨bl, 4, none⟩ = some (.int .i64 l4) ∧ w'.cell? ⟨bl, 5, none⟩ = some (.int .i64 m0) ∧ w'.cell? ⟨bl, 6, none⟩ = some (.int .i64 m1) ∧ w'.cell? ⟨bl, 7, none⟩ = some (.int .i64 m2) ∧ w'.cell? ⟨bl, 8, none⟩ = some (.int .i64 m3) ∧ w'.cell? ⟨bl, 9, none⟩ = some (.int .i64 m4) ∧ w'.cell? ⟨bl, 10, none⟩ = some (.int .i64 n0) ∧ w'.cell? ⟨bl, 11, none⟩ = some (.int .i64 n1) ∧ w'.cell? ⟨bl, 12, none⟩ = some (.int .i64 n2) ∧ w'.cell? ⟨bl, 13, none⟩ = some (.int .i64 n3) ∧ w'.cell? ⟨bl, 14, none⟩ = some (.int .i64 n4) ∧ w'.cell? ⟨bc, 0, none⟩ = some (.int .i64 c0) ∧ w'.cell? ⟨bc, 1, none⟩ = some (.int .i64 c1) ∧ w'.cell? ⟨bc, 2, none⟩ = some (.int .i64 c2) ∧ w'.cell? ⟨bo, 0, none⟩ = some (.int .i64 o0) ∧ w'.cell? ⟨bo, 1, none⟩ = some (.int .i64 o1) ∧ w'.cell? ⟨bo, 2, none⟩ = some (.int .i64 o2) ∧ w'.cell? ⟨bo, 3, none⟩ = some (.int .i64 o3) ∧ w'.cell? ⟨bo, 4, none⟩ = some (.int .i64 o4) ∧ w'.frozen? ⟨bo, 0, none⟩ = false ∧ w'.frozen? ⟨bo, 1, none⟩ = false ∧ w'.frozen? ⟨bo, 2, none⟩ = false ∧ w'.frozen? ⟨bo, 3, none⟩ = false ∧ w'.frozen? ⟨bo, 4, none⟩ = false ∧ w'.cell? ⟨R, 0, none⟩ = some (cv w' R 0) ∧ w'.frozen? ⟨R, 0, none⟩ = false ∧ w'.cell? ⟨R, 1, none⟩ = some (cv w' R 1) ∧ w'.frozen? ⟨R, 1, none⟩ = false ∧ w'.cell? ⟨R, 2, none⟩ = some (cv w' R 2) ∧ w'.frozen? ⟨R, 2, none⟩ = false ∧ w'.cell? ⟨R, 3, none⟩ = some (cv w' R 3) ∧ w'.frozen? ⟨R, 3, none⟩ = false ∧ w'.cell? ⟨R, 4, none⟩ = some (cv w' R 4) ∧ w'.frozen? ⟨R, 4, none⟩ = false) ∧ K_Mv f l0 l1 l2 l3 l4 m0 m1 m2 m3 m4 n0 n1 n2 n3 n4 c0 c1 c2 o0 o1 o2 o3 o4 bq oq R bo bl bc w w' := ⟨h.cells, h⟩
/-- what a walk keeps: cells, and that nothing that was there has turned -/
def K_Mr (f l0 l1 l2 l3 l4 c : Int) (bq oq bl il bc ic : Nat) (w w' : World) : Prop := KL w [(bq, oq, .int .i64 f), (bl, il, .int .i64 l0), (bl, il + 1, .int .i64 l1), (bl, il + 2, .int .i64 l2), (bl, il + 3, .int .i64 l3), (bl, il + 4, .int .i64 l4), (bc, ic, .int .i64 c)] [] w'
theorem K_Mr.below {f l0 l1 l2 l3 l4 c : Int} {bq oq bl il bc ic : Nat} {w w1 w2 : World} (hb : Below w1.heap.size w1 w2) (h : K_Mr f l0 l1 l2 l3 l4 c bq oq bl il bc ic w w1) : K_Mr f l0 l1 l2 l3 l4 c bq oq bl il bc ic w w2 := KL.below hb h
theorem K_Mr.draws {f l0 l1 l2 l3 l4 c : Int} {bq oq bl il bc ic : Nat} {w w1 : World} (n : Nat) (h : K_Mr f l0 l1 l2 l3 l4 c bq oq bl il bc ic w w1) : K_Mr f l0 l1 l2 l3 l4 c bq oq bl il bc ic w (w1.drewN n) := KL.draws n h
theorem K_Mr.drew {f l0 l1 l2 l3 l4 c : Int} {bq oq bl il bc ic : Nat} {w w1 : World} (h : K_Mr f l0 l1 l2 l3 l4 c bq oq bl il bc ic w w1) : K_Mr f l0 l1 l2 l3 l4 c bq oq bl il bc ic w w1.drew := KL.draws 1 h
theorem K_Mr.alloc {f l0 l1 l2 l3 l4 c : Int} {bq oq bl il bc ic : Nat} {w w1 : World} (o : Obj) (h : K_Mr f l0 l1 l2 l3 l4 c bq oq bl il bc ic w w1) : K_Mr f l0 l1 l2 l3 l4 c bq oq bl il bc ic w (w1.alloc o) := KL.alloc o h
theorem K_Mr.set {f l0 l1 l2 l3 l4 c : Int} {bq oq bl il bc ic : Nat} {w w1 : World} (h : K_Mr f l0 l1 l2 l3 l4 c bq oq bl il bc ic w w1) (b i : Nat) (v : Value) (hb : b ≠ bq ∧ b ≠ bl ∧ b ≠ bc ∧ w.heap.size ≤ b) : K_Mr f l0 l1 l2 l3 l4 c bq oq bl il bc ic w (w1.setCell ⟨b, i, none⟩ v) :=
  KL.set h b i v (by intro x hx; simp only [List.mem_cons, List.not_mem_nil, or_false] at hx; rcases hx with rfl | rfl | rfl | rfl | rfl | rfl | rfl <;> simp only [] <;> omega) (by omega)
theorem K_Mr.bel {f l0 l1 l2 l3 l4 c : Int} {bq oq bl il bc ic : Nat} {w w1 : World} (h : K_Mr f l0 l1 l2 l3 l4 c bq oq bl il bc ic w w1) : Below w.heap.size w w1 := KL.bel h
theorem K_Mr.cells {f l0 l1 l2 l3 l4 c : Int} {bq oq bl il bc ic : Nat} {w w' : World} (h : K_Mr f l0 l1 l2 l3 l4 c bq oq bl il bc ic w w') : w'.cell? ⟨bq, oq, none⟩ = some (.int .i64 f) ∧ w'.cell? ⟨bl, il, none⟩ = some (.int .i64 l0) ∧ w'.cell? ⟨bl, il + 1, none⟩ = some (.int .i64 l1) ∧ w'.cell? ⟨bl, il + 2, none⟩ = some (.int .i64 l2) ∧ w'.cell? ⟨bl, il + 3, none⟩ = some (.int .i64 l3) ∧ w'.cell? ⟨bl, il + 4, none⟩ = some (.int .i64 l4) ∧ w'.cell? ⟨bc, ic, none⟩ = some (.int .i64 c) := ⟨h.c (bq, oq, .int .i64 f) (by simp), h.c (bl, il, .int .i64 l0) (by simp), h.c (bl, il + 1, .int .i64 l1) (by simp), h.c (bl, il + 2, .int .i64 l2) (by simp), h.c (bl, il + 3, .int .i64 l3) (by simp), h.c (bl, il + 4, .int .i64 l4) (by simp), h.c (bc, ic, .int .i64 c) (by simp)⟩
theorem K_Mr.zs {f l0 l1 l2 l3 l4 c : Int} {bq oq bl il bc ic : Nat} {w w' : World} (h : K_Mr f l0 l1 l2 l3 l4 c bq oq bl il bc ic w w') : bq < w'.heap.size ∧ bl < w'.heap.size ∧ bc < w'.heap.size ∧ True := ⟨KL.z h (x := (bq, oq, .int .i64 f)) (by simp), KL.z h (x := (bl, il, .int .i64 l0)) (by simp), KL.z h (x := (bc, ic, .int .i64 c)) (by simp), trivial⟩
theorem K_Mr.ks {f l0 l1 l2 l3 l4 c : Int} {bq oq bl il bc ic : Nat} {w w' : World} (h : K_Mr f l0 l1 l2 l3 l4 c bq oq bl il bc ic w w') : (w'.cell? ⟨bq, oq, none⟩ = some (.int .i64 f) ∧ w'.cell? ⟨bl, il, none⟩ = some (.int .i64 l0) ∧ w'.cell? ⟨bl, il + 1, none⟩ = some (.int .i64 l1) ∧ w'.cell? ⟨bl, il + 2, none⟩ = some (.int .i64 l2) ∧ w'.cell? ⟨bl, il + 3, none⟩ = some (.int .i64 l3) ∧ w'.cell? ⟨bl, il + 4, none⟩ = some (.int .i64 l4) ∧ w'.cell? ⟨bc, ic, none⟩ = some (.int .i64 c)) ∧ K_Mr f l0 l1 l2 l3 l4 c bq oq bl il bc ic w w' := ⟨h.cells, h⟩
/-- what a walk keeps: cells, and that nothing that was there has turned -/
def K_Mp (p0 p1 p2 p3 p4 : Int) (zp : Nat) (w w' : World) : Prop := KL w [(zp, 0, .int .i64 p0), (zp, 1, .int .i64 p1), (zp, 2, .int .i64 p2), (zp, 3, .int .i64 p3), (zp, 4, .int .i64 p4)] [] w'
theorem K_Mp.below {p0 p1 p2 p3 p4 : Int} {zp : Nat} {w w1 w2 : World} (hb : Below w1.heap.size w1 w2) (h : K_Mp p0 p1 p2 p3 p4 zp w w1) : K_Mp p0 p1 p2 p3 p4 zp w w2 := KL.below hb h
theorem K_Mp.draws {p0 p1 p2 p3 p4 : Int} {zp : Nat} {w w1 : World} (n : Nat) (h : K_Mp p0 p1 p2 p3 p4 zp w w1) : K_Mp p0 p1 p2 p3 p4 zp w (w1.drewN n) := KL.draws n h
theorem K_Mp.drew {p0 p1 p2 p3 p4 : Int} {zp : Nat} {w w1 : World} (h : K_Mp p0 p1 p2 p3 p4 zp w w1) : K_Mp p0 p1 p2 p3 p4 zp w w1.drew := KL.draws 1 h
theorem K_Mp.alloc {p0 p1 p2 p3 p4 : Int} {zp : Nat} {w w1 : World} (o : Obj) (h : K_Mp p0 p1 p2 p3 p4 zp w w1) : K_Mp p0 p1 p2 p3 p4 zp w (w1.alloc o) := KL.alloc o h
theorem K_Mp.set {p0 p1 p2 p3 p4 : Int} {zp : Nat} {w w1 : World} (h : K_Mp p0 p1 p2 p3 p4 zp w w1) (b i : Nat) (v : Value) (hb : b ≠ zp ∧ w.heap.size ≤ b) : K_Mp p0 p1 p2 p3 p4 zp w (w1.setCell ⟨b, i, none⟩ v) :=
  KL.set h b i v (by intro x hx; simp only [List.mem_cons, List.not_mem_nil, or_false] at hx; rcases hx with rfl | rfl | rfl | rfl | rfl <;> simp only [] <;> omega) (by omega)
theorem K_Mp.bel {p0 p1 p2 p3 p4 : Int} {zp : Nat} {w w1 : World} (h : K_Mp p0 p1 p2 p3 p4 zp w w1) : Below w.heap.size w w1 := KL.bel h
theorem K_Mp.cells {p0 p1 p2 p3 p4 : Int} {zp : Nat} {w w' : World} (h : K_Mp p0 p1 p2 p3 p4 zp w w') : w'.cell? ⟨zp, 0, none⟩ = some (.int .i64 p0) ∧ w'.cell? ⟨zp, 1, none⟩ = some (.int .i64 p1) ∧ w'.cell? ⟨zp, 2, none⟩ = some (.int .i64 p2) ∧ w'.cell? ⟨zp, 3, none⟩ = some (.int .i64 p3) ∧ w'.cell? ⟨zp, 4, none⟩ = some (.int .i64 p4) := ⟨h.c (zp, 0, .int .i64 p0) (by simp), h.c (zp, 1, .int .i64 p1) (by simp), h.c (zp, 2, .int .i64 p2) (by simp), h.c (zp, 3, .int .i64 p3) (by simp), h.c (zp, 4, .int .i64 p4) (by simp)⟩
theorem K_Mp.zs {p0 p1 p2 p3 p4 : Int} {zp : Nat} {w w' : World} (h : K_Mp p0 p1 p2 p3 p4 zp w w') : zp < w'.heap.size ∧ True := ⟨KL.z h (x := (zp, 0, .int .i64 p0)) (by simp), trivial⟩
theorem K_Mp.ks {p0 p1 p2 p3 p4 : Int} {zp : Nat} {w w' : World} (h : K_Mp p0 p1 p2 p3 p4 zp w w') : (w'.cell? ⟨zp, 0, none⟩ = some (.int .i64 p0) ∧ w'.cell? ⟨zp, 1, none⟩ = some (.int .i64 p1) ∧ w'.cell? ⟨zp, 2, none⟩ = some (.int .i64 p2) ∧ w'.cell? ⟨zp, 3, none⟩ = some (.int .i64 p3) ∧ w'.cell? ⟨zp, 4, none⟩ = some (.int .i64 p4)) ∧ K_Mp p0 p1 p2 p3 p4 zp w w' := ⟨h.cells, h⟩
/-- what a walk keeps: cells, and that nothing that was there has turned -/
def K_Zs (a0 a1 a2 a3 a4 : Int) (nb : Nat) (w w' : World) : Prop := KL w [(nb, 0, .int .i64 a0), (nb, 1, .int .i64 a1), (nb, 2, .int .i64 a2), (nb, 3, .int .i64 a3), (nb, 4, .int .i64 a4)] [(nb, 0), (nb, 1), (nb, 2), (nb, 3), (nb, 4)] w'
theorem K_Zs.below {a0 a1 a2 a3 a4 : Int} {nb : Nat} {w w1 w2 : World} (hb : Below w1.heap.size w1 w2) (h : K_Zs a0 a1 a2 a3 a4 nb w w1) : K_Zs a0 a1 a2 a3 a4 nb w w2 := KL.below hb h
theorem K_Zs.draws {a0 a1 a2 a3 a4 : Int} {nb : Nat} {w w1 : World} (n : Nat) (h : K_Zs a0 a1 a2 a3 a4 nb w w1) : K_Zs a0 a1 a2 a3 a4 nb w (w1.drewN n) := KL.draws n h
theorem K_Zs.drew {a0 a1 a2 a3 a4 : Int} {nb : Nat} {w w1 : World} (h : K_Zs a0 a1 a2 a3 a4 nb w w1) : K_Zs a0 a1 a2 a3 a4 nb w w1.drew := KL.draws 1 h
theorem K_Zs.alloc {a0 a1 a2 a3 a4 : Int} {nb : Nat} {w w1 : World} (o : Obj) (h : K_Zs a0 a1 a2 a3 a4 nb w w1) : K_Zs a0 a1 a2 a3 a4 nb w (w1.alloc o) := KL.alloc o h
theorem K_Zs.set {a0 a1 a2 a3 a4 : Int} {nb : Nat} {w w1 : World} (h : K_Zs a0 a1 a2 a3 a4 nb w w1) (b i : Nat) (v : Value) (hb : b ≠ nb ∧ w.heap.size ≤ b) : K_Zs a0 a1 a2 a3 a4 nb w (w1.setCell ⟨b, i, none⟩ v) :=
  KL.set h b i v (by intro x hx; simp only [List.mem_cons, List.not_mem_nil, or_false] at hx; rcases hx with rfl | rfl | rfl | rfl | rfl <;> simp only [] <;> omega) (by omega)
theorem K_Zs.bel {a0 a1 a2 a3 a4 : Int} {nb : Nat} {w w1 : World} (h : K_Zs a0 a1 a2 a3 a4 nb w w1) : Below w.heap.size w w1 := KL.bel h
theorem K_Zs.cells {a0 a1 a2 a3 a4 : Int} {nb : Nat} {w w' : World} (h : K_Zs a0 a1 a2 a3 a4 nb w w') : w'.cell? ⟨nb, 0, none⟩ = some (.int .i64 a0) ∧ w'.cell? ⟨nb, 1, none⟩ = some (.int .i64 a1) ∧ w'.cell? ⟨nb, 2, none⟩ = some (.int .i64 a2) ∧ w'.cell? ⟨nb, 3, none⟩ = some (.int .i64 a3) ∧ w'.cell? ⟨nb, 4, none⟩ = some (.int .i64 a4) ∧ w'.frozen? ⟨nb, 0, none⟩ = false ∧ w'.frozen? ⟨nb, 1, none⟩ = false ∧ w'.frozen? ⟨nb, 2, none⟩ = false ∧ w'.frozen? ⟨nb, 3, none⟩ = false ∧ w'.frozen? ⟨nb, 4, none⟩ = false := ⟨h.c (nb, 0, .int .i64 a0) (by simp), h.c (nb, 1, .int .i64 a1) (by simp), h.c (nb, 2, .int .i64 a2) (by simp), h.c (nb, 3, .int .i64 a3) (by simp), h.c (nb, 4, .int .i64 a4) (by simp), h.f (nb, 0) (by simp), h.f (nb, 1) (by simp), h.f (nb, 2) (by simp), h.f (nb, 3) (by simp), h.f (nb, 4) (by simp)⟩
theorem K_Zs.zs {a0 a1 a2 a3 a4 : Int} {nb : Nat} {w w' : World} (h : K_Zs a0 a1 a2 a3 a4 nb w w') : nb < w'.heap.size ∧ True := ⟨KL.z h (x := (nb, 0, .int .i64 a0)) (by simp), trivial⟩
theorem K_Zs.ks {a0 a1 a2 a3 a4 : Int} {nb : Nat} {w w' : World} (h : K_Zs a0 a1 a2 a3 a4 nb w w') : (w'.cell? ⟨nb, 0, none⟩ = some (.int .i64 a0) ∧ w'.cell? ⟨nb, 1, none⟩ = some (.int .i64 a1) ∧ w'.cell? ⟨nb, 2, none⟩ = some (.int .i64 a2) ∧ w'.cell? ⟨nb, 3, none⟩ = some (.int .i64 a3) ∧ w'.cell? ⟨nb, 4, none⟩ = some (.int .i64 a4) ∧ w'.frozen? ⟨nb, 0, none⟩ = false ∧ w'.frozen? ⟨nb, 1, none⟩ = false ∧ w'.frozen? ⟨nb, 2, none⟩ = false ∧ w'.frozen? ⟨nb, 3, none⟩ = false ∧ w'.frozen? ⟨nb, 4, none⟩ = false) ∧ K_Zs a0 a1 a2 a3 a4 nb w w' := ⟨h.cells, h⟩
def sel3 {α : Type} (a b c : α) : Nat → α
  | 0 => a
  | 1 => b
  | _ => c
/-- five cells, written anew -/
theorem KL.put5m {w0 : World} {cs : List (Nat × Nat × Value)} {fs : List (Nat × Nat)} {w : World} {p : Nat} (a' b' c' d' e' : Int) (h : KL w0 cs fs w) (hf : (p, 0) ∈ fs ∧ (p, 1) ∈ fs ∧ (p, 2) ∈ fs ∧ (p, 3) ∈ fs ∧ (p, 4) ∈ fs) (hp : ∀ x ∈ cs, p ≠ x.1) (hw : w0.heap.size ≤ p) :
    KL w0 ((p, 0, .int .i64 a') :: (p, 1, .int .i64 b') :: (p, 2, .int .i64 c') :: (p, 3, .int .i64 d') :: (p, 4, .int .i64 e') :: cs) fs (((((w.setCell ⟨p, 0, none⟩ (.int .i64 a')).setCell ⟨p, 1, none⟩ (.int .i64 b')).setCell ⟨p, 2, none⟩ (.int .i64 c')).setCell ⟨p, 3, none⟩ (.int .i64 d')).setCell ⟨p, 4, none⟩ (.int .i64 e')) := by
  have c0 := h.d (p, 0) hf.1
  have c1 := h.d (p, 1) hf.2.1
  have c2 := h.d (p, 2) hf.2.2.1
  have c3 := h.d (p, 3) hf.2.2.2.1
  have c4 := h.d (p, 4) hf.2.2.2.2
  simp only [] at c0 c1 c2 c3 c4
  have h1 := ((((h.set p 0 (.int .i64 a') hp hw).set p 1 (.int .i64 b') hp hw).set p 2 (.int .i64 c') hp hw).set p 3 (.int .i64 d') hp hw).set p 4 (.int .i64 e') hp hw
  refine ⟨fun x hx => ?_, h1.g, h1.f, h1.bel⟩
  simp only [List.mem_cons] at hx
  rcases hx with rfl | rfl | rfl | rfl | rfl | hx
  · simp [go_sem, c0, c1, c2, c3, c4]
  · simp [go_sem, c0, c1, c2, c3, c4]
  · simp [go_sem, c0, c1, c2, c3, c4]
  · simp [go_sem, c0, c1, c2, c3, c4]
  · simp [go_sem, c0, c1, c2, c3, c4]
  · exact h1.c x hx
theorem Mv_put {x y k q o o' : Q} {bq oq R bo bl bc : Nat} {w W : World} (h : K_Mv q.d x.w x.x x.y x.z x.d y.w y.x y.y y.z y.d k.w k.x k.y k.z k.d q.x q.y q.z o.w o.x o.y o.z o.d bq oq R bo bl bc w W) (n1 : bo ≠ bq) (n2 : bo ≠ bl) (n3 : bo ≠ bc) (hw : w.heap.size ≤ bo) : K_Mv q.d x.w x.x x.y x.z x.d y.w y.x y.y y.z y.d k.w k.x k.y k.z k.d q.x q.y q.z o'.w o'.x o'.y o'.z o'.d bq oq R bo bl bc w (((((W.setCell ⟨bo, 0, none⟩ (.int .i64 o'.w)).setCell ⟨bo, 1, none⟩ (.int .i64 o'.x)).setCell ⟨bo, 2, none⟩ (.int .i64 o'.y)).setCell ⟨bo, 3, none⟩ (.int .i64 o'.z)).setCell ⟨bo, 4, none⟩ (.int .i64 o'.d)) := by
  have h0 : KL w [(bq, oq, .int .i64 q.d), (bl, 0, .int .i64 x.w), (bl, 1, .int .i64 x.x), (bl, 2, .int .i64 x.y), (bl, 3, .int .i64 x.z), (bl, 4, .int .i64 x.d), (bl, 5, .int .i64 y.w), (bl, 6, .int .i64 y.x), (bl, 7, .int .i64 y.y), (bl, 8, .int .i64 y.z), (bl, 9, .int .i64 y.d), (bl, 10, .int .i64 k.w), (bl, 11, .int .i64 k.x), (bl, 12, .int .i64 k.y), (bl, 13, .int .i64 k.z), (bl, 14, .int .i64 k.d), (bc, 0, .int .i64 q.x), (bc, 1, .int .i64 q.y), (bc, 2, .int .i64 q.z)] [(bo, 0), (bo, 1), (bo, 2), (bo, 3), (bo, 4), (R, 0), (R, 1), (R, 2), (R, 3), (R, 4)] W :=
    ⟨fun v hv => h.c v (by simp only [List.mem_cons, List.not_mem_nil, or_false] at hv; rcases hv with rfl | rfl | rfl | rfl | rfl | rfl | rfl | rfl | rfl | rfl | rfl | rfl | rfl | rfl | rfl | rfl | rfl | rfl | rfl <;> simp), h.g, h.f, h.bel⟩
  have h1 := KL.put5m (p := bo) o'.w o'.x o'.y o'.z o'.d h0 (by simp) (by intro v hv; simp only [List.mem_cons, List.not_mem_nil, or_false] at hv; rcases hv with rfl | rfl | rfl | rfl | rfl | rfl | rfl | rfl | rfl | rfl | rfl | rfl | rfl | rfl | rfl | rfl | rfl | rfl | rfl <;> assumption) hw
  exact ⟨fun v hv => h1.c v (by simp only [List.mem_cons, List.not_mem_nil, or_false] at hv; rcases hv with rfl | rfl | rfl | rfl | rfl | rfl | rfl | rfl | rfl | rfl | rfl | rfl | rfl | rfl | rfl | rfl | rfl | rfl | rfl | rfl | rfl | rfl | rfl | rfl <;> simp), h1.g, h1.f, h1.bel⟩
theorem merge_r {Goal : Prop} {K : Nat → World → Prop} (G : Nat → World → Prop) (main : Hid (∀ p w, K p w → G p w) → Goal) (rest : ∀ p w, K p w → G p w) : Goal := main (Lib.hid rest)
theorem Mv_at {x y k q o : Q} {bq oq R bo bl bc : Nat} {w W : World} (h : K_Mv q.d x.w x.x x.y x.z x.d y.w y.x y.y y.z y.d k.w k.x k.y k.z k.d q.x q.y q.z o.w o.x o.y o.z o.d bq oq R bo bl bc w W) {i : Nat} (hi : i < 3) : K_Mr q.d (sel3 x y k i).w (sel3 x y k i).x (sel3 x y k i).y (sel3 x y k i).z (sel3 x y k i).d (sel3 q.x q.y q.z i) bq oq bl (i * 5) bc i W W := by
  refine ⟨fun v hv => ?_, by simp, by simp, Below.refl _ _⟩
  have hf := h.c (bq, oq, .int .i64 q.d) (by simp)
  match i, hi with
  | 0, _ =>
    simp only [List.mem_cons, List.not_mem_nil, or_false] at hv
    rcases hv with rfl | rfl | rfl | rfl | rfl | rfl | rfl
    · exact hf
    · exact h.c (bl, 0, .int .i64 x.w) (by simp)
    · exact h.c (bl, 1, .int .i64 x.x) (by simp)
    · exact h.c (bl, 2, .int .i64 x.y) (by simp)
    · exact h.c (bl, 3, .int .i64 x.z) (by simp)
    · exact h.c (bl, 4, .int .i64 x.d) (by simp)
    · exact h.c (bc, 0, .int .i64 q.x) (by simp)
  | 1, _ =>
    simp only [List.mem_cons, List.not_mem_nil, or_false] at hv
    rcases hv with rfl | rfl | rfl | rfl | rfl | rfl | rfl
    · exact hf
    · exact h.c (bl, 5, .int .i64 y.w) (by simp)
    · exact h.c (bl, 6, .int .i64 y.x) (by simp)
    · exact h.c (bl, 7, .int .i64 y.y) (by simp)
    · exact h.c (bl, 8, .int .i64 y.z) (by simp)
    · exact h.c (bl, 9, .int .i64 y.d) (by simp)
    · exact h.c (bc, 1, .int .i64 q.y) (by simp)
  | 2, _ =>
    simp only [List.mem_cons, List.not_mem_nil, or_false] at hv
    rcases hv with rfl | rfl | rfl | rfl | rfl | rfl | rfl
    · exact hf
    · exact h.c (bl, 10, .int .i64 k.w) (by simp)
    · exact h.c (bl, 11, .int .i64 k.x) (by simp)
    · exact h.c (bl, 12, .int .i64 k.y) (by simp)
    · exact h.c (bl, 13, .int .i64 k.z) (by simp)
    · exact h.c (bl, 14, .int .i64 k.d) (by simp)
    · exact h.c (bc, 2, .int .i64 q.z) (by simp)
set_option maxHeartbeats 8000000 in
theorem moved_walk (C D : Int) (x y k q : Q) (O P : Nat → Q) (w : World)
    (MU : Hid (∀ W : World, Calls Try.prog 18 #[.agg #[.int .i64 C, .int .i64 D], .agg #[.int .i64 (x).w, .int .i64 (x).x, .int .i64 (x).y, .int .i64 (x).z, .int .i64 (x).d], .agg #[.int .i64 (y).w, .int .i64 (y).x, .int .i64 (y).y, .int .i64 (y).z, .int .i64 (y).d]] W fun e w' => e = .returned (.tuple #[.agg #[.int .i64 (k).w, .int .i64 (k).x, .int .i64 (k).y, .int .i64 (k).z, .int .i64 (k).d], .int .i64 0]) ∧ Below W.heap.size W w'))
    (S0 : Hid (∀ W : World, Calls Try.prog 47 #[.agg #[.int .i64 1, .int .i64 0, .int .i64 0, .int .i64 0, .int .i64 1], .agg #[.int .i64 (q.w), .int .i64 (q.d)]] W fun e w' => e = .returned (.tuple #[.agg #[.int .i64 ((O 0)).w, .int .i64 ((O 0)).x, .int .i64 ((O 0)).y, .int .i64 ((O 0)).z, .int .i64 ((O 0)).d], .int .i64 0]) ∧ Below W.heap.size W w'))
    (SC : Hid (∀ (i : Nat) (W : World), i < 3 → Calls Try.prog 47 #[.agg #[.int .i64 ((sel3 x y k i)).w, .int .i64 ((sel3 x y k i)).x, .int .i64 ((sel3 x y k i)).y, .int .i64 ((sel3 x y k i)).z, .int .i64 ((sel3 x y k i)).d], .agg #[.int .i64 (sel3 q.x q.y q.z i), .int .i64 (q.d)]] W fun e w' => e = .returned (.tuple #[.agg #[.int .i64 ((P i)).w, .int .i64 ((P i)).x, .int .i64 ((P i)).y, .int .i64 ((P i)).z, .int .i64 ((P i)).d], .int .i64 0]) ∧ Below W.heap.size W w'))
    (AD : Hid (∀ (i : Nat) (W : World), i < 3 → Calls Try.prog 48 #[.agg #[.int .i64 ((O i)).w, .int .i64 ((O i)).x, .int .i64 ((O i)).y, .int .i64 ((O i)).z, .int .i64 ((O i)).d], .agg #[.int .i64 ((P i)).w, .int .i64 ((P i)).x, .int .i64 ((P i)).y, .int .i64 ((P i)).z, .int .i64 ((P i)).d]] W fun e w' => e = .returned (.tuple #[.agg #[.int .i64 ((O (i + 1))).w, .int .i64 ((O (i + 1))).x, .int .i64 ((O (i + 1))).y, .int .i64 ((O (i + 1))).z, .int .i64 ((O (i + 1))).d], .int .i64 0]) ∧ Below W.heap.size W w')) :
    Calls Try.prog 19 #[.agg #[.int .i64 C, .int .i64 D], .agg #[.int .i64 (q).w, .int .i64 (q).x, .int .i64 (q).y, .int .i64 (q).z, .int .i64 (q).d], .agg #[.int .i64 (x).w, .int .i64 (x).x, .int .i64 (x).y, .int .i64 (x).z, .int .i64 (x).d], .agg #[.int .i64 (y).w, .int .i64 (y).x, .int .i64 (y).y, .int .i64 (y).z, .int .i64 (y).d]] w fun e w' => e = .returned (.tuple #[.agg #[.int .i64 ((O 3)).w, .int .i64 ((O 3)).x, .int .i64 ((O 3)).y, .int .i64 ((O 3)).z, .int .i64 ((O 3)).d], .bool true]) ∧ Below w.heap.size w w' := by
  go_enter Try.func19, Try.ntmps19
  go_wp2_with fail
  refine (MU.out _).mono ?_
  rintro e w1 ⟨rfl, hb⟩
  have hK : K_Mb C D q.w q.x q.y q.z q.d x.w x.x x.y x.z x.d y.w y.x y.y y.z y.d w.heap.size (w.heap.size + 1) (w.heap.size + 2) (w.heap.size + 3) (w.heap.size + 4) w w1 := K_Mb.below hb ⟨by simp [go_sem], by simp [go_sem], by simp [go_sem], by (repeat (first | (with_reducible exact Below.refl _ _) | (with_reducible exact HB.out) | (with_reducible refine below_draws ?_ _) | (with_reducible refine Below.alloc ?_ (by go_size) _) | (with_reducible refine Below.setCell ?_ (by go_size) _) | (with_reducible refine Below.alloc ?_ (by simp <;> omega) _) | (with_reducible refine Below.setCell ?_ (by simp <;> omega) _)))⟩
  clear hb
  obtain ⟨c0_, c1_, c2_, c3_, c4_, c5_, c6_, c7_, c8_, c9_, c10_, c11_, c12_, c13_, c14_, c15_, c16_, d0_, f0_, d1_, f1_, d2_, f2_, d3_, f3_, d4_, f4_⟩ := K_Mb.cells hK; obtain ⟨z0_, z1_, z2_, z3_, z4_, -⟩ := K_Mb.zs hK; have HK := Lib.hid hK; clear hK
  go_wp2_with fail
  refine (S0.out _).mono ?_
  rintro e w2 ⟨rfl, hb⟩
  clear c0_ c1_ c2_ c3_ c4_ c5_ c6_ c7_ c8_ c9_ c10_ c11_ c12_ c13_ c14_ c15_ c16_ d0_ f0_ d1_ f1_ d2_ f2_ d3_ f3_ d4_ f4_ z0_ z1_ z2_ z3_ z4_
  have hk1 := KL.push5 HK.out k.w k.x k.y k.z k.d 35 _ rfl
  have hK : K_Mk q.w q.x q.y q.z q.d x.w x.x x.y x.z x.d y.w y.x y.y y.z y.d k.w k.x k.y k.z k.d (w.heap.size + 1) (w.heap.size + 2) (w.heap.size + 3) w1.heap.size (w.heap.size + 4) w w2 := by
    have h2 := KL.below hb hk1
    exact ⟨fun v hv => h2.c v (by simp only [List.mem_cons, List.not_mem_nil, or_false] at hv; rcases hv with rfl | rfl | rfl | rfl | rfl | rfl | rfl | rfl | rfl | rfl | rfl | rfl | rfl | rfl | rfl | rfl | rfl | rfl | rfl | rfl <;> simp), h2.g, h2.f, h2.bel⟩
  clear hb HK hk1
  obtain ⟨c0_, c1_, c2_, c3_, c4_, c5_, c6_, c7_, c8_, c9_, c10_, c11_, c12_, c13_, c14_, c15_, c16_, c17_, c18_, c19_, d0_, f0_, d1_, f1_, d2_, f2_, d3_, f3_, d4_, f4_⟩ := K_Mk.cells hK; obtain ⟨z0_, z1_, z2_, z3_, z4_, -⟩ := K_Mk.zs hK; have HK := Lib.hid hK; clear hK
  have zz : w.heap.size < w2.heap.size := by omega
  go_wp2_with fail
  have hV : K_Mv q.d x.w x.x x.y x.z x.d y.w y.x y.y y.z y.d k.w k.x k.y k.z k.d q.x q.y q.z (O 0).w (O 0).x (O 0).y (O 0).z (O 0).d (w.heap.size + 1) 4 (w.heap.size + 4) w2.heap.size (w2.heap.size + 1) (w2.heap.size + 2) w (((w2.alloc (.cells #[.int .i64 (O 0).w, .int .i64 (O 0).x, .int .i64 (O 0).y, .int .i64 (O 0).z, .int .i64 (O 0).d] 35)).alloc (.cells #[.int .i64 x.w, .int .i64 x.x, .int .i64 x.y, .int .i64 x.z, .int .i64 x.d, .int .i64 y.w, .int .i64 y.x, .int .i64 y.y, .int .i64 y.z, .int .i64 y.d, .int .i64 k.w, .int .i64 k.x, .int .i64 k.y, .int .i64 k.z, .int .i64 k.d] 85)).alloc (.cells #[.int .i64 q.x, .int .i64 q.y, .int .i64 q.z] 86)) := by
    have hk := HK.out
    have hb5 : Below w2.heap.size w2 (((w2.alloc (.cells #[.int .i64 (O 0).w, .int .i64 (O 0).x, .int .i64 (O 0).y, .int .i64 (O 0).z, .int .i64 (O 0).d] 35)).alloc (.cells #[.int .i64 x.w, .int .i64 x.x, .int .i64 x.y, .int .i64 x.z, .int .i64 x.d, .int .i64 y.w, .int .i64 y.x, .int .i64 y.y, .int .i64 y.z, .int .i64 y.d, .int .i64 k.w, .int .i64 k.x, .int .i64 k.y, .int .i64 k.z, .int .i64 k.d] 85)).alloc (.cells #[.int .i64 q.x, .int .i64 q.y, .int .i64 q.z] 86)) := by (repeat (first | (with_reducible exact Below.refl _ _) | (with_reducible exact HB.out) | (with_reducible refine below_draws ?_ _) | (with_reducible refine Below.alloc ?_ (by go_size) _) | (with_reducible refine Below.setCell ?_ (by go_size) _) | (with_reducible refine Below.alloc ?_ (by simp <;> omega) _) | (with_reducible refine Below.setCell ?_ (by simp <;> omega) _)))
    refine ⟨fun v hv => ?_, fun v hv => ?_, fun v hv => ?_, hk.bel.trans (hb5.mono hk.bel.size)⟩
    · simp only [List.mem_cons, List.not_mem_nil, or_false] at hv
      rcases hv with rfl | hv
      · exact (hb5.cell (p := ⟨w.heap.size + 1, 4, none⟩) (by simp only []; omega)).trans (hk.c (w.heap.size + 1, 4, .int .i64 q.d) (by simp))
      · clear hk hb5
        rcases hv with rfl | rfl | rfl | rfl | rfl | rfl | rfl | rfl | rfl | rfl | rfl | rfl | rfl | rfl | rfl | rfl | rfl | rfl | rfl | rfl | rfl | rfl | rfl <;> simp [go_sem]
    · simp only [List.mem_cons, List.not_mem_nil, or_false] at hv
      rcases hv with rfl | rfl | rfl | rfl | rfl | hv
      · simp [go_sem]
      · simp [go_sem]
      · simp [go_sem]
      · simp [go_sem]
      · simp [go_sem]
      · rcases hv with rfl | rfl | rfl | rfl | rfl
        · show (World.cell? _ _).isSome = true
          rw [hb5.cell (p := ⟨w.heap.size + 4, 0, none⟩) (by simp only []; omega)]; exact hk.g (_, 0) (by simp)
        · show (World.cell? _ _).isSome = true
          rw [hb5.cell (p := ⟨w.heap.size + 4, 1, none⟩) (by simp only []; omega)]; exact hk.g (_, 1) (by simp)
        · show (World.cell? _ _).isSome = true
          rw [hb5.cell (p := ⟨w.heap.size + 4, 2, none⟩) (by simp only []; omega)]; exact hk.g (_, 2) (by simp)
        · show (World.cell? _ _).isSome = true
          rw [hb5.cell (p := ⟨w.heap.size + 4, 3, none⟩) (by simp only []; omega)]; exact hk.g (_, 3) (by simp)
        · show (World.cell? _ _).isSome = true
          rw [hb5.cell (p := ⟨w.heap.size + 4, 4, none⟩) (by simp only []; omega)]; exact hk.g (_, 4) (by simp)
    · simp only [List.mem_cons, List.not_mem_nil, or_false] at hv
      rcases hv with rfl | rfl | rfl | rfl | rfl | hv
      · simp [go_sem]
      · simp [go_sem]
      · simp [go_sem]
      · simp [go_sem]
      · simp [go_sem]
      · rcases hv with rfl | rfl | rfl | rfl | rfl
        · exact (hb5.frozen (p := ⟨w.heap.size + 4, 0, none⟩) (by simp only []; omega)).trans (hk.f (_, 0) (by simp))
        · exact (hb5.frozen (p := ⟨w.heap.size + 4, 1, none⟩) (by simp only []; omega)).trans (hk.f (_, 1) (by simp))
        · exact (hb5.frozen (p := ⟨w.heap.size + 4, 2, none⟩) (by simp only []; omega)).trans (hk.f (_, 2) (by simp))
        · exact (hb5.frozen (p := ⟨w.heap.size + 4, 3, none⟩) (by simp only []; omega)).trans (hk.f (_, 3) (by simp))
        · exact (hb5.frozen (p := ⟨w.heap.size + 4, 4, none⟩) (by simp only []; omega)).trans (hk.f (_, 4) (by simp))
  have n1 : w.heap.size + 4 < w2.heap.size := by omega
  clear zz
  clear c0_ c1_ c2_ c3_ c4_ c5_ c6_ c7_ c8_ c9_ c10_ c11_ c12_ c13_ c14_ c15_ c16_ c17_ c18_ c19_ d0_ f0_ d1_ f1_ d2_ f2_ d3_ f3_ d4_ f4_ z0_ z1_ z2_ z3_ z4_
  clear HK
  generalize (((w2.alloc (.cells #[.int .i64 (O 0).w, .int .i64 (O 0).x, .int .i64 (O 0).y, .int .i64 (O 0).z, .int .i64 (O 0).d] 35)).alloc (.cells #[.int .i64 x.w, .int .i64 x.x, .int .i64 x.y, .int .i64 x.z, .int .i64 x.d, .int .i64 y.w, .int .i64 y.x, .int .i64 y.y, .int .i64 y.z, .int .i64 y.d, .int .i64 k.w, .int .i64 k.x, .int .i64 k.y, .int .i64 k.z, .int .i64 k.d] 85)).alloc (.cells #[.int .i64 q.x, .int .i64 q.y, .int .i64 q.z] 86)) = wr0 at hV ⊢
  have e1 : w2.heap.size + 1 + 1 = w2.heap.size + 2 := rfl
  rw [e1]
  clear e1
  have n2 : w2.heap.size ≠ w2.heap.size + 1 := by omega
  have n3 : w2.heap.size ≠ w2.heap.size + 2 := by omega
  generalize w2.heap.size + 2 = bc at hV n3 ⊢
  generalize w2.heap.size + 1 = bl at hV n2 ⊢
  generalize w2.heap.size = bo at *
  go_loopw [14, 17] (fun t14 t17 wr => ∃ i : Nat, (i ≤ 3 ∧ K_Mv q.d x.w x.x x.y x.z x.d y.w y.x y.y y.z y.d k.w k.x k.y k.z k.d q.x q.y q.z (O i).w (O i).x (O i).y (O i).z (O i).d (w.heap.size + 1) 4 (w.heap.size + 4) bo bl bc w wr) ∧ t14 = .bool true ∧ t17 = .int .i64 i) (fun _ t17 _ => 3 - (intOf t17).toNat)
  case atStart => exact ⟨0, ⟨by omega, hV⟩, rfl, rfl⟩
  case round =>
    clear hV
    obtain ⟨i, ⟨hi3, hV⟩, rfl, rfl⟩ := hrel
    obtain ⟨wo, rfl⟩ : ∃ wo : World, wo = wr := ⟨_, rfl⟩
    by_cases hi : i < 3
    · have hk : K_Mr q.d (sel3 x y k i).w (sel3 x y k i).x (sel3 x y k i).y (sel3 x y k i).z (sel3 x y k i).d (sel3 q.x q.y q.z i) (w.heap.size + 1) 4 bl (i * 5) bc i wo wo := Mv_at hV hi
      have HV := Lib.hid hV
      clear hV
      have SI := Lib.hid (fun W => SC.out i W hi)
      have AI := Lib.hid (fun W => AD.out i W hi)
      go_wp2_with fail
      obtain ⟨c0_, c1_, c2_, c3_, c4_, c5_, c6_⟩ := K_Mr.cells hk
      obtain ⟨z0_, z1_, z2_, -⟩ := K_Mr.zs hk
      refine merge_r (K := fun zp w9 => K_Mp (P i).w (P i).x (P i).y (P i).z (P i).d zp wo w9) ?G ?main ?rest
      case main =>
        intro REST
        go_region_held3 (fun w' => (w'.cell? ⟨(w.heap.size + 1), 4, none⟩ = some (.int .i64 q.d) ∧ w'.cell? ⟨bl, (i * 5), none⟩ = some (.int .i64 (sel3 x y k i).w) ∧ w'.cell? ⟨bl, (i * 5) + 1, none⟩ = some (.int .i64 (sel3 x y k i).x) ∧ w'.cell? ⟨bl, (i * 5) + 2, none⟩ = some (.int .i64 (sel3 x y k i).y) ∧ w'.cell? ⟨bl, (i * 5) + 3, none⟩ = some (.int .i64 (sel3 x y k i).z) ∧ w'.cell? ⟨bl, (i * 5) + 4, none⟩ = some (.int .i64 (sel3 x y k i).d) ∧ w'.cell? ⟨bc, i, none⟩ = some (.int .i64 (sel3 q.x q.y q.z i))) ∧ K_Mr q.d (sel3 x y k i).w (sel3 x y k i).x (sel3 x y k i).y (sel3 x y k i).z (sel3 x y k i).d (sel3 q.x q.y q.z i) (w.heap.size + 1) 4 bl (i * 5) bc i wo w') ((refine K_Mr.ks ?_; repeat (first | (with_reducible assumption) | (with_reducible refine K_Mr.draws _ ?_) | (with_reducible refine K_Mr.drew ?_) | (with_reducible refine K_Mr.alloc _ ?_) | (with_reducible refine K_Mr.set ?_ _ _ _ (by omega)))))
          (first
            | (go_at_call 47; (with_reducible refine (SI.out _).mono ?_); rintro e w' ⟨rfl, hbel⟩; have hk' := K_Mr.below hbel (And.right (by assumption)); (first | (have hz : K_Zs 0 0 0 0 0 wo.heap.size wo w' := KL.below hbel (KL.draws 1 (KL.push5w (KL.nil wo) 0 0 0 0 0 _ _ rfl)); obtain ⟨c0_, c1_, c2_, c3_, c4_, f0_, f1_, f2_, f3_, f4_⟩ := K_Zs.cells hz) | (have hz : K_Zs 0 0 0 0 0 wo.heap.size wo w' := KL.below hbel (KL.push5w (KL.nil wo) 0 0 0 0 0 _ _ rfl); obtain ⟨c0_, c1_, c2_, c3_, c4_, f0_, f1_, f2_, f3_, f4_⟩ := K_Zs.cells hz) | skip); clear hbel))
        · have hK : K_Mp (P i).w (P i).x (P i).y (P i).z (P i).d w'.heap.size wo (w'.alloc (.cells #[.int .i64 (P i).w, .int .i64 (P i).x, .int .i64 (P i).y, .int .i64 (P i).z, .int .i64 (P i).d] 35)) := KL.push5 (cs := []) (fs := []) ⟨by simp, by simp, by simp, hk'.bel⟩ _ _ _ _ _ _ _ rfl
          generalize (w'.alloc (.cells #[.int .i64 (P i).w, .int .i64 (P i).x, .int .i64 (P i).y, .int .i64 (P i).z, .int .i64 (P i).d] 35)) = w9 at hK ⊢
          generalize w'.heap.size = zc at hK ⊢
          exact REST.out _ _ hK
        · have hK : K_Mp (P i).w (P i).x (P i).y (P i).z (P i).d wo.heap.size wo (((((w'.setCell ⟨wo.heap.size, 0, none⟩ (.int .i64 (P i).w)).setCell ⟨wo.heap.size, 1, none⟩ (.int .i64 (P i).x)).setCell ⟨wo.heap.size, 2, none⟩ (.int .i64 (P i).y)).setCell ⟨wo.heap.size, 3, none⟩ (.int .i64 (P i).z)).setCell ⟨wo.heap.size, 4, none⟩ (.int .i64 (P i).d)) := by
            have h0 : KL wo [] [(wo.heap.size, 0), (wo.heap.size, 1), (wo.heap.size, 2), (wo.heap.size, 3), (wo.heap.size, 4)] w' := ⟨by simp, hz.g, hz.f, hz.bel⟩
            have h1 := KL.put5m (p := wo.heap.size) (P i).w (P i).x (P i).y (P i).z (P i).d h0 (by simp) (by simp) (Nat.le_refl _)
            exact ⟨h1.c, by simp, by simp, h1.bel⟩
          generalize (((((w'.setCell ⟨wo.heap.size, 0, none⟩ (.int .i64 (P i).w)).setCell ⟨wo.heap.size, 1, none⟩ (.int .i64 (P i).x)).setCell ⟨wo.heap.size, 2, none⟩ (.int .i64 (P i).y)).setCell ⟨wo.heap.size, 3, none⟩ (.int .i64 (P i).z)).setCell ⟨wo.heap.size, 4, none⟩ (.int .i64 (P i).d)) = w9 at hK ⊢
          generalize wo.heap.size = zc at hK ⊢
          exact REST.out _ _ hK
      case rest =>
        intro zp w9 hK9
        have hV9 := K_Mv.below (K_Mp.bel hK9) HV.out
        clear hk c0_ c1_ c2_ c3_ c4_ c5_ c6_ z0_ z1_ z2_
        obtain ⟨p0_, p1_, p2_, p3_, p4_⟩ := K_Mp.cells hK9
        have hK := hV9
        clear hV9
        obtain ⟨c0_, c1_, c2_, c3_, c4_, c5_, c6_, c7_, c8_, c9_, c10_, c11_, c12_, c13_, c14_, c15_, c16_, c17_, c18_, c19_, c20_, c21_, c22_, c23_, f0_, f1_, f2_, f3_, f4_, d5_, f5_, d6_, f6_, d7_, f7_, d8_, f8_, d9_, f9_⟩ := K_Mv.cells hK; obtain ⟨z0_, z1_, z2_, z3_, z4_, -⟩ := K_Mv.zs hK; have HK := Lib.hid hK; clear hK
        go_wp2_with fail
        refine (AI.out _).mono ?_
        rintro e w10 ⟨rfl, hb⟩
        clear c0_ c1_ c2_ c3_ c4_ c5_ c6_ c7_ c8_ c9_ c10_ c11_ c12_ c13_ c14_ c15_ c16_ c17_ c18_ c19_ c20_ c21_ c22_ c23_ f0_ f1_ f2_ f3_ f4_ d5_ f5_ d6_ f6_ d7_ f7_ d8_ f8_ d9_ f9_ z0_ z1_ z2_ z3_ z4_
        have hV10 := K_Mv.below hb HK.out
        clear hb HK hK9 p0_ p1_ p2_ p3_ p4_
        have hP := K_Mv.alloc (.cells #[.int .i64 (O (i + 1)).w, .int .i64 (O (i + 1)).x, .int .i64 (O (i + 1)).y, .int .i64 (O (i + 1)).z, .int .i64 (O (i + 1)).d] 35) (Mv_put (o' := O (i + 1)) hV10 (by omega) n2 n3 (by omega))
        have hK := hV10
        clear hV10
        have HP := Lib.hid hP
        clear hP
        obtain ⟨c0_, c1_, c2_, c3_, c4_, c5_, c6_, c7_, c8_, c9_, c10_, c11_, c12_, c13_, c14_, c15_, c16_, c17_, c18_, c19_, c20_, c21_, c22_, c23_, f0_, f1_, f2_, f3_, f4_, d5_, f5_, d6_, f6_, d7_, f7_, d8_, f8_, d9_, f9_⟩ := K_Mv.cells hK; obtain ⟨z0_, z1_, z2_, z3_, z4_, -⟩ := K_Mv.zs hK; have HK := Lib.hid hK; clear hK
        go_wp2_with fail
        go_roundw
        case rel => exact ⟨i + 1, ⟨by omega, HP.out⟩, rfl, by go_num⟩
        case measure => simp [intOf]; omega
    · have h3 : Hid (i = 3) := Lib.hid (by omega)
      have hK := hV
      clear hV
      have hF : K_Mp (O i).w (O i).x (O i).y (O i).z (O i).d (w.heap.size + 1 + 1 + 1 + 1) w (((((wo.setCell ⟨w.heap.size + 1 + 1 + 1 + 1, 0, none⟩ (.int .i64 (O i).w)).setCell ⟨w.heap.size + 1 + 1 + 1 + 1, 1, none⟩ (.int .i64 (O i).x)).setCell ⟨w.heap.size + 1 + 1 + 1 + 1, 2, none⟩ (.int .i64 (O i).y)).setCell ⟨w.heap.size + 1 + 1 + 1 + 1, 3, none⟩ (.int .i64 (O i).z)).setCell ⟨w.heap.size + 1 + 1 + 1 + 1, 4, none⟩ (.int .i64 (O i).d)) := by
        have h0 : KL w [] [(w.heap.size + 1 + 1 + 1 + 1, 0), (w.heap.size + 1 + 1 + 1 + 1, 1), (w.heap.size + 1 + 1 + 1 + 1, 2), (w.heap.size + 1 + 1 + 1 + 1, 3), (w.heap.size + 1 + 1 + 1 + 1, 4)] wo := ⟨by simp, fun v hv => hK.g v (by simp only [List.mem_cons, List.not_mem_nil, or_false] at hv; rcases hv with rfl | rfl | rfl | rfl | rfl <;> simp), fun v hv => hK.f v (by simp only [List.mem_cons, List.not_mem_nil, or_false] at hv; rcases hv with rfl | rfl | rfl | rfl | rfl <;> simp), hK.bel⟩
        have h1 := KL.put5m (p := w.heap.size + 1 + 1 + 1 + 1) (O i).w (O i).x (O i).y (O i).z (O i).d h0 (by simp) (by simp) (by omega)
        exact ⟨h1.c, by simp, by simp, h1.bel⟩
      have HF := Lib.hid hF
      clear hF
      obtain ⟨c0_, c1_, c2_, c3_, c4_, c5_, c6_, c7_, c8_, c9_, c10_, c11_, c12_, c13_, c14_, c15_, c16_, c17_, c18_, c19_, c20_, c21_, c22_, c23_, f0_, f1_, f2_, f3_, f4_, d5_, f5_, d6_, f6_, d7_, f7_, d8_, f8_, d9_, f9_⟩ := K_Mv.cells hK; obtain ⟨z0_, z1_, z2_, z3_, z4_, -⟩ := K_Mv.zs hK; have HK := Lib.hid hK; clear hK
      go_wp2_with fail
      clear c0_ c1_ c2_ c3_ c4_ c5_ c6_ c7_ c8_ c9_ c10_ c11_ c12_ c13_ c14_ c15_ c16_ c17_ c18_ c19_ c20_ c21_ c22_ c23_ f0_ f1_ f2_ f3_ f4_ d5_ f5_ d6_ f6_ d7_ f7_ d8_ f8_ d9_ f9_ z0_ z1_ z2_ z3_ z4_
      clear HK
      have hF := HF.out
      clear HF
      generalize (((((wo.setCell ⟨w.heap.size + 1 + 1 + 1 + 1, 0, none⟩ (.int .i64 (O i).w)).setCell ⟨w.heap.size + 1 + 1 + 1 + 1, 1, none⟩ (.int .i64 (O i).x)).setCell ⟨w.heap.size + 1 + 1 + 1 + 1, 2, none⟩ (.int .i64 (O i).y)).setCell ⟨w.heap.size + 1 + 1 + 1 + 1, 3, none⟩ (.int .i64 (O i).z)).setCell ⟨w.heap.size + 1 + 1 + 1 + 1, 4, none⟩ (.int .i64 (O i).d)) = wf at hF ⊢
      obtain ⟨c0_, c1_, c2_, c3_, c4_⟩ := K_Mp.cells hF
      exact bodyPost_ret (v := .tuple #[.agg #[.int .i64 ((O i)).w, .int .i64 ((O i)).x, .int .i64 ((O i)).y, .int .i64 ((O i)).z, .int .i64 ((O i)).d], .bool true]) (by simp [results, Try.results19, go_sem, c0_, c1_, c2_, c3_, c4_]) rfl ⟨by rw [h3.out], K_Mp.bel hF⟩
end Go.Proofs.Ytgbnmnkgelklbaa.Ik
