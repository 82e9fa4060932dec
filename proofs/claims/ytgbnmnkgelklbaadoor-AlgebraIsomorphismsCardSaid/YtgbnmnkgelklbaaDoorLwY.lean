/-
  WALK of the law AlgebraIsomorphisms: it returns true for all arguments.
-/
import Derived.Test.YtgbnmnkgelklbaaDoorIs6
import Derived.Test.YtgbnmnkgelklbaaDoorIs8
import Derived.Test.YtgbnmnkgelklbaaDoorMgAw
namespace Go.Proofs.YtgbnmnkgelklbaaDoor.Iso
open Go.RowKit
open Alm Al
set_option linter.unusedVariables false
set_option linter.unusedSimpArgs false
set_option maxRecDepth 100000
/-- what a walk keeps: cells, and that nothing that was there has turned -/
def K_Y1 (A B C D x0 x1 x2 x3 x4 y0 y1 y2 y3 y4 : Int) (b1 b2 bx by_ : Nat) (w w' : World) : Prop := KL w [(b1, 0, .int .i64 A), (b1, 1, .int .i64 B), (b2, 0, .int .i64 C), (b2, 1, .int .i64 D), (bx, 0, .int .i64 x0), (bx, 1, .int .i64 x1), (bx, 2, .int .i64 x2), (bx, 3, .int .i64 x3), (bx, 4, .int .i64 x4), (by_, 0, .int .i64 y0), (by_, 1, .int .i64 y1), (by_, 2, .int .i64 y2), (by_, 3, .int .i64 y3), (by_, 4, .int .i64 y4)] [] w'
theorem K_Y1.below {A B C D x0 x1 x2 x3 x4 y0 y1 y2 y3 y4 : Int} {b1 b2 bx by_ : Nat} {w w1 w2 : World} (hb : Below w1.heap.size w1 w2) (h : K_Y1 A B C D x0 x1 x2 x3 x4 y0 y1 y2 y3 y4 b1 b2 bx by_ w w1) : K_Y1 A B C D x0 x1 x2 x3 x4 y0 y1 y2 y3 y4 b1 b2 bx by_ w w2 := KL.below hb h
theorem K_Y1.draws {A B C D x0 x1 x2 x3 x4 y0 y1 y2 y3 y4 : Int} {b1 b2 bx by_ : Nat} {w w1 : World} (n : Nat) (h : K_Y1 A B C D x0 x1 x2 x3 x4 y0 y1 y2 y3 y4 b1 b2 bx by_ w w1) : K_Y1 A B C D x0 x1 x2 x3 x4 y0 y1 y2 y3 y4 b1 b2 bx by_ w (w1.drewN n) := KL.draws n h
theorem K_Y1.drew {A B C D x0 x1 x2 x3 x4 y0 y1 y2 y3 y4 : Int} {b1 b2 bx by_ : Nat} {w w1 : World} (h : K_Y1 A B C D x0 x1 x2 x3 x4 y0 y1 y2 y3 y4 b1 b2 bx by_ w w1) : K_Y1 A B C D x0 x1 x2 x3 x4 y0 y1 y2 y3 y4 b1 b2 bx by_ w w1.drew := KL.draws 1 h
theorem K_Y1.alloc {A B C D x0 x1 x2 x3 x4 y0 y1 y2 y3 y4 : Int} {b1 b2 bx by_ : Nat} {w w1 : World} (o : Obj) (h : K_Y1 A B C D x0 x1 x2 x3 x4 y0 y1 y2 y3 y4 b1 b2 bx by_ w w1) : K_Y1 A B C D x0 x1 x2 x3 x4 y0 y1 y2 y3 y4 b1 b2 bx by_ w (w1.alloc o) := KL.alloc o h
theorem K_Y1.set {A B C D x0 x1 x2 x3 x4 y0 y1 y2 y3 y4 : Int} {b1 b2 bx by_ : Nat} {w w1 : World} (h : K_Y1 A B C D x0 x1 x2 x3 x4 y0 y1 y2 y3 y4 b1 b2 bx by_ w w1) (b i : Nat) (v : Value) (hb : b ≠ b1 ∧ b ≠ b2 ∧ b ≠ bx ∧ b ≠ by_ ∧ w.heap.size ≤ b) : K_Y1 A B C D x0 x1 x2 x3 x4 y0 y1 y2 y3 y4 b1 b2 bx by_ w (w1.setCell ⟨b, i, none⟩ v) :=
  KL.set h b i v (by intro x hx; simp only [List.mem_cons, List.not_mem_nil, or_false] at hx; rcases hx with rfl | rfl | rfl | rfl | rfl | rfl | rfl | rfl | rfl | rfl | rfl | rfl | rfl | rfl <;> simp only [] <;> omega) (by omega)
theorem K_Y1.bel {A B C D x0 x1 x2 x3 x4 y0 y1 y2 y3 y4 : Int} {b1 b2 bx by_ : Nat} {w w1 : World} (h : K_Y1 A B C D x0 x1 x2 x3 x4 y0 y1 y2 y3 y4 b1 b2 bx by_ w w1) : Below w.heap.size w w1 := KL.bel h
theorem K_Y1.cells {A B C D x0 x1 x2 x3 x4 y0 y1 y2 y3 y4 : Int} {b1 b2 bx by_ : Nat} {w w' : World} (h : K_Y1 A B C D x0 x1 x2 x3 x4 y0 y1 y2 y3 y4 b1 b2 bx by_ w w') : w'.cell? ⟨b1, 0, none⟩ = some (.int .i64 A) ∧ w'.cell? ⟨b1, 1, none⟩ = some (.int .i64 B) ∧ w'.cell? ⟨b2, 0, none⟩ = some (.int .i64 C) ∧ w'.cell? ⟨b2, 1, none⟩ = some (.int .i64 D) ∧ w'.cell? ⟨bx, 0, none⟩ = some (.int .i64 x0) ∧ w'.cell? ⟨bx, 1, none⟩ = some (.int .i64 x1) ∧ w'.cell? ⟨bx, 2, none⟩ = some (.int .i64 x2) ∧ w'.cell? ⟨bx, 3, none⟩ = some (.int .i64 x3) ∧ w'.cell? ⟨bx, 4, none⟩ = some (.int .i64 x4) ∧ w'.cell? ⟨by_, 0, none⟩ = some (.int .i64 y0) ∧ w'.cell? ⟨by_, 1, none⟩ = some (.int .i64 y1) ∧ w'.cell? ⟨by_, 2, none⟩ = some (.int .i64 y2) ∧ w'.cell? ⟨by_, 3, none⟩ = some (.int .i64 y3) ∧ w'.cell? ⟨by_, 4, none⟩ = some (.int .i64 y4) := ⟨h.c (b1, 0, .int .i64 A) (by simp), h.c (b1, 1, .int .i64 B) (by simp), h.c (b2, 0, .int .i64 C) (by simp), h.c (b2, 1, .int .i64 D) (by simp), h.c (bx, 0, .int .i64 x0) (by simp), h.c (bx, 1, .int .i64 x1) (by simp), h.c (bx, 2, .int .i64 x2) (by simp), h.c (bx, 3, .int .i64 x3) (by simp), h.c (bx, 4, .int .i64 x4) (by simp), h.c (by_, 0, .int .i64 y0) (by simp), h.c (by_, 1, .int .i64 y1) (by simp), h.c (by_, 2, .int .i64 y2) (by simp), h.c (by_, 3, .int .i64 y3) (by simp), h.c (by_, 4, .int .i64 y4) (by simp)⟩
theorem K_Y1.zs {A B C D x0 x1 x2 x3 x4 y0 y1 y2 y3 y4 : Int} {b1 b2 bx by_ : Nat} {w w' : World} (h : K_Y1 A B C D x0 x1 x2 x3 x4 y0 y1 y2 y3 y4 b1 b2 bx by_ w w') : b1 < w'.heap.size ∧ b2 < w'.heap.size ∧ bx < w'.heap.size ∧ by_ < w'.heap.size ∧ True := ⟨KL.z h (x := (b1, 0, .int .i64 A)) (by simp), KL.z h (x := (b2, 0, .int .i64 C)) (by simp), KL.z h (x := (bx, 0, .int .i64 x0)) (by simp), KL.z h (x := (by_, 0, .int .i64 y0)) (by simp), trivial⟩
theorem K_Y1.ks {A B C D x0 x1 x2 x3 x4 y0 y1 y2 y3 y4 : Int} {b1 b2 bx by_ : Nat} {w w' : World} (h : K_Y1 A B C D x0 x1 x2 x3 x4 y0 y1 y2 y3 y4 b1 b2 bx by_ w w') : (w'.cell? ⟨b1, 0, none⟩ = some (.int .i64 A) ∧ w'.cell? ⟨b1, 1, none⟩ = some (.int .i64 B) ∧ w'.cell? ⟨b2, 0, none⟩ = some (.int .i64 C) ∧ w'.cell? ⟨b2, 1, none⟩ = some (.int .i64 D) ∧ w'.cell? ⟨bx, 0, none⟩ = some (.int .i64 x0) ∧ w'.cell? ⟨bx, 1, none⟩ = some (.int .i64 x1) ∧ w'.cell? ⟨bx, 2, none⟩ = some (.int .i64 x2) ∧ w'.cell? ⟨bx, 3, none⟩ = some (.int .i64 x3) ∧ w'.cell? ⟨bx, 4, none⟩ = some (.int .i64 x4) ∧ w'.cell? ⟨by_, 0, none⟩ = some (.int .i64 y0) ∧ w'.cell? ⟨by_, 1, none⟩ = some (.int .i64 y1) ∧ w'.cell? ⟨by_, 2, none⟩ = some (.int .i64 y2) ∧ w'.cell? ⟨by_, 3, none⟩ = some (.int .i64 y3) ∧ w'.cell? ⟨by_, 4, none⟩ = some (.int .i64 y4)) ∧ K_Y1 A B C D x0 x1 x2 x3 x4 y0 y1 y2 y3 y4 b1 b2 bx by_ w w' := ⟨h.cells, h⟩
/-- what a walk keeps: cells, and that nothing that was there has turned -/
def K_Y2 (A B C D x0 x1 x2 x3 x4 y0 y1 y2 y3 y4 : Int) (b1 b2 bx by_ bu bv : Nat) (w w' : World) : Prop := KL w [(b1, 0, .int .i64 A), (b1, 1, .int .i64 B), (b2, 0, .int .i64 C), (b2, 1, .int .i64 D), (bx, 0, .int .i64 x0), (bx, 1, .int .i64 x1), (bx, 2, .int .i64 x2), (bx, 3, .int .i64 x3), (bx, 4, .int .i64 x4), (by_, 0, .int .i64 y0), (by_, 1, .int .i64 y1), (by_, 2, .int .i64 y2), (by_, 3, .int .i64 y3), (by_, 4, .int .i64 y4), (bu, 0, .int .i64 x0), (bu, 1, .int .i64 x1), (bu, 2, .int .i64 x2), (bu, 3, .int .i64 x3), (bu, 4, .int .i64 x4), (bv, 0, .int .i64 y0), (bv, 1, .int .i64 y1), (bv, 2, .int .i64 y2), (bv, 3, .int .i64 y3), (bv, 4, .int .i64 y4)] [] w'
theorem K_Y2.below {A B C D x0 x1 x2 x3 x4 y0 y1 y2 y3 y4 : Int} {b1 b2 bx by_ bu bv : Nat} {w w1 w2 : World} (hb : Below w1.heap.size w1 w2) (h : K_Y2 A B C D x0 x1 x2 x3 x4 y0 y1 y2 y3 y4 b1 b2 bx by_ bu bv w w1) : K_Y2 A B C D x0 x1 x2 x3 x4 y0 y1 y2 y3 y4 b1 b2 bx by_ bu bv w w2 := KL.below hb h
theorem K_Y2.draws {A B C D x0 x1 x2 x3 x4 y0 y1 y2 y3 y4 : Int} {b1 b2 bx by_ bu bv : Nat} {w w1 : World} (n : Nat) (h : K_Y2 A B C D x0 x1 x2 x3 x4 y0 y1 y2 y3 y4 b1 b2 bx by_ bu bv w w1) : K_Y2 A B C D x0 x1 x2 x3 x4 y0 y1 y2 y3 y4 b1 b2 bx by_ bu bv w (w1.drewN n) := KL.draws n h
theorem K_Y2.drew {A B C D x0 x1 x2 x3 x4 y0 y1 y2 y3 y4 : Int} {b1 b2 bx by_ bu bv : Nat} {w w1 : World} (h : K_Y2 A B C D x0 x1 x2 x3 x4 y0 y1 y2 y3 y4 b1 b2 bx by_ bu bv w w1) : K_Y2 A B C D x0 x1 x2 x3 x4 y0 y1 y2 y3 y4 b1 b2 bx by_ bu bv w w1.drew := KL.draws 1 h
theorem K_Y2.alloc {A B C D x0 x1 x2 x3 x4 y0 y1 y2 y3 y4 : Int} {b1 b2 bx by_ bu bv : Nat} {w w1 : World} (o : Obj) (h : K_Y2 A B C D x0 x1 x2 x3 x4 y0 y1 y2 y3 y4 b1 b2 bx by_ bu bv w w1) : K_Y2 A B C D x0 x1 x2 x3 x4 y0 y1 y2 y3 y4 b1 b2 bx by_ bu bv w (w1.alloc o) := KL.alloc o h
theorem K_Y2.set {A B C D x0 x1 x2 x3 x4 y0 y1 y2 y3 y4 : Int} {b1 b2 bx by_ bu bv : Nat} {w w1 : World} (h : K_Y2 A B C D x0 x1 x2 x3 x4 y0 y1 y2 y3 y4 b1 b2 bx by_ bu bv w w1) (b i : Nat) (v : Value) (hb : b ≠ b1 ∧ b ≠ b2 ∧ b ≠ bx ∧ b ≠ by_ ∧ b ≠ bu ∧ b ≠ bv ∧ w.heap.size ≤ b) : K_Y2 A B C D x0 x1 x2 x3 x4 y0 y1 y2 y3 y4 b1 b2 bx by_ bu bv w (w1.setCell ⟨b, i, none⟩ v) :=
  KL.set h b i v (by intro x hx; simp only [List.mem_cons, List.not_mem_nil, or_false] at hx; rcases hx with rfl | rfl | rfl | rfl | rfl | rfl | rfl | rfl | rfl | rfl | rfl | rfl | rfl | rfl | rfl | rfl | rfl | rfl | rfl | rfl | rfl | rfl | rfl | rfl <;> simp only [] <;> omega) (by omega)
theorem K_Y2.bel {A B C D x0 x1 x2 x3 x4 y0 y1 y2 y3 y4 : Int} {b1 b2 bx by_ bu bv : Nat} {w w1 : World} (h : K_Y2 A B C D x0 x1 x2 x3 x4 y0 y1 y2 y3 y4 b1 b2 bx by_ bu bv w w1) : Below w.heap.size w w1 := KL.bel h
theorem K_Y2.cells {A B C D x0 x1 x2 x3 x4 y0 y1 y2 y3 y4 : Int} {b1 b2 bx by_ bu bv : Nat} {w w' : World} (h : K_Y2 A B C D x0 x1 x2 x3 x4 y0 y1 y2 y3 y4 b1 b2 bx by_ bu bv w w') : w'.cell? ⟨b1, 0, none⟩ = some (.int .i64 A) ∧ w'.cell? ⟨b1, 1, none⟩ = some (.int .i64 B) ∧ w'.cell? ⟨b2, 0, none⟩ = some (.int .i64 C) ∧ w'.cell? ⟨b2, 1, none⟩ = some (.int .i64 D) ∧ w'.cell? ⟨bx, 0, none⟩ = some (.int .i64 x0) ∧ w'.cell? ⟨bx, 1, none⟩ = some (.int .i64 x1) ∧ w'.cell? ⟨bx, 2, none⟩ = some (.int .i64 x2) ∧ w'.cell? ⟨bx, 3, none⟩ = some (.int .i64 x3) ∧ w'.cell? ⟨bx, 4, none⟩ = some (.int .i64 x4) ∧ w'.cell? ⟨by_, 0, none⟩ = some (.int .i64 y0) ∧ w'.cell? ⟨by_, 1, none⟩ = some (.int .i64 y1) ∧ w'.cell? ⟨by_, 2, none⟩ = some (.int .i64 y2) ∧ w'.cell? ⟨by_, 3, none⟩ = some (.int .i64 y3) ∧ w'.cell? ⟨by_, 4, none⟩ = some (.int .i64 y4) ∧ w'.cell? ⟨bu, 0, none⟩ = some (.int .i64 x0) ∧ w'.cell? ⟨bu, 1, none⟩ = some (.int .i64 x1) ∧ w'.cell? ⟨bu, 2, none⟩ = some (.int .i64 x2) ∧ w'.cell? ⟨bu, 3, none⟩ = some (.int .i64 x3) ∧ w'.cell? ⟨bu, 4, none⟩ = some (.int .i64 x4) ∧ w'.cell? ⟨bv, 0, none⟩ = some (.int .i64 y0) ∧ w'.cell? ⟨bv, 1, none⟩ = some (.int .i64 y1) ∧ w'.cell? ⟨bv, 2, none⟩ = some (.int .i64 y2) ∧ w'.cell? ⟨bv, 3, none⟩ = some (.int .i64 y3) ∧ w'.cell? ⟨bv, 4, none⟩ = some (.int .i64 y4) := ⟨h.c (b1, 0, .int .i64 A) (by simp), h.c (b1, 1, .int .i64 B) (by simp), h.c (b2, 0, .int .i64 C) (by simp), h.c (b2, 1, .int .i64 D) (by simp), h.c (bx, 0, .int .i64 x0) (by simp), h.c (bx, 1, .int .i64 x1) (by simp), h.c (bx, 2, .int .i64 x2) (by simp), h.c (bx, 3, .int .i64 x3) (by simp), h.c (bx, 4, .int .i64 x4) (by simp), h.c (by_, 0, .int .i64 y0) (by simp), h.c (by_, 1, .int .i64 y1) (by simp), h.c (by_, 2, .int .i64 y2) (by simp), h.c (by_, 3, .int .i64 y3) (by simp), h.c (by_, 4, .int .i64 y4) (by simp), h.c (bu, 0, .int .i64 x0) (by simp), h.c (bu, 1, .int .i64 x1) (by simp), h.c (bu, 2, .int .i64 x2) (by simp), h.c (bu, 3, .int .i64 x3) (by simp), h.c (bu, 4, .int .i64 x4) (by simp), h.c (bv, 0, .int .i64 y0) (by simp), h.c (bv, 1, .int .i64 y1) (by simp), h.c (bv, 2, .int .i64 y2) (by simp), h.c (bv, 3, .int .i64 y3) (by simp), h.c (bv, 4, .int .i64 y4) (by simp)⟩
theorem K_Y2.zs {A B C D x0 x1 x2 x3 x4 y0 y1 y2 y3 y4 : Int} {b1 b2 bx by_ bu bv : Nat} {w w' : World} (h : K_Y2 A B C D x0 x1 x2 x3 x4 y0 y1 y2 y3 y4 b1 b2 bx by_ bu bv w w') : b1 < w'.heap.size ∧ b2 < w'.heap.size ∧ bx < w'.heap.size ∧ by_ < w'.heap.size ∧ bu < w'.heap.size ∧ bv < w'.heap.size ∧ True := ⟨KL.z h (x := (b1, 0, .int .i64 A)) (by simp), KL.z h (x := (b2, 0, .int .i64 C)) (by simp), KL.z h (x := (bx, 0, .int .i64 x0)) (by simp), KL.z h (x := (by_, 0, .int .i64 y0)) (by simp), KL.z h (x := (bu, 0, .int .i64 x0)) (by simp), KL.z h (x := (bv, 0, .int .i64 y0)) (by simp), trivial⟩
theorem K_Y2.ks {A B C D x0 x1 x2 x3 x4 y0 y1 y2 y3 y4 : Int} {b1 b2 bx by_ bu bv : Nat} {w w' : World} (h : K_Y2 A B C D x0 x1 x2 x3 x4 y0 y1 y2 y3 y4 b1 b2 bx by_ bu bv w w') : (w'.cell? ⟨b1, 0, none⟩ = some (.int .i64 A) ∧ w'.cell? ⟨b1, 1, none⟩ = some (.int .i64 B) ∧ w'.cell? ⟨b2, 0, none⟩ = some (.int .i64 C) ∧ w'.cell? ⟨b2, 1, none⟩ = some (.int .i64 D) ∧ w'.cell? ⟨bx, 0, none⟩ = some (.int .i64 x0) ∧ w'.cell? ⟨bx, 1, none⟩ = some (.int .i64 x1) ∧ w'.cell? ⟨bx, 2, none⟩ = some (.int .i64 x2) ∧ w'.cell? ⟨bx, 3, none⟩ = some (.int .i64 x3) ∧ w'.cell? ⟨bx, 4, none⟩ = some (.int .i64 x4) ∧ w'.cell? ⟨by_, 0, none⟩ = some (.int .i64 y0) ∧ w'.cell? ⟨by_, 1, none⟩ = some (.int .i64 y1) ∧ w'.cell? ⟨by_, 2, none⟩ = some (.int .i64 y2) ∧ w'.cell? ⟨by_, 3, none⟩ = some (.int .i64 y3) ∧ w'.cell? ⟨by_, 4, none⟩ = some (.int .i64 y4) ∧ w'.cell? ⟨bu, 0, none⟩ = some (.int .i64 x0) ∧ w'.cell? ⟨bu, 1, none⟩ = some (.int .i64 x1) ∧ w'.cell? ⟨bu, 2, none⟩ = some (.int .i64 x2) ∧ w'.cell? ⟨bu, 3, none⟩ = some (.int .i64 x3) ∧ w'.cell? ⟨bu, 4, none⟩ = some (.int .i64 x4) ∧ w'.cell? ⟨bv, 0, none⟩ = some (.int .i64 y0) ∧ w'.cell? ⟨bv, 1, none⟩ = some (.int .i64 y1) ∧ w'.cell? ⟨bv, 2, none⟩ = some (.int .i64 y2) ∧ w'.cell? ⟨bv, 3, none⟩ = some (.int .i64 y3) ∧ w'.cell? ⟨bv, 4, none⟩ = some (.int .i64 y4)) ∧ K_Y2 A B C D x0 x1 x2 x3 x4 y0 y1 y2 y3 y4 b1 b2 bx by_ bu bv w w' := ⟨h.cells, h⟩
theorem Y1_new {A B C D : Int} {b1 b2 : Nat} {w W : World} (h : K_X0 A B C D b1 b2 w W) (x0 x1 x2 x3 x4 y0 y1 y2 y3 y4 : Int) : K_Y1 A B C D x0 x1 x2 x3 x4 y0 y1 y2 y3 y4 b1 b2 W.heap.size (W.heap.size + 1) w ((W.alloc (.cells #[.int .i64 x0, .int .i64 x1, .int .i64 x2, .int .i64 x3, .int .i64 x4] 39)).alloc (.cells #[.int .i64 y0, .int .i64 y1, .int .i64 y2, .int .i64 y3, .int .i64 y4] 39)) := by
  have h2 : KL w _ _ _ := KL.push5 (KL.push5 h x0 x1 x2 x3 x4 39 _ rfl) y0 y1 y2 y3 y4 39 (W.heap.size + 1) (by simp)
  exact ⟨fun v hv => h2.c v (by simp only [List.mem_cons, List.not_mem_nil, or_false] at hv; rcases hv with rfl | rfl | rfl | rfl | rfl | rfl | rfl | rfl | rfl | rfl | rfl | rfl | rfl | rfl <;> simp), by simp, by simp, h2.bel⟩
theorem Y2_new {A B C D x0 x1 x2 x3 x4 y0 y1 y2 y3 y4 : Int} {b1 b2 bx by_ : Nat} {w W : World} (h : K_Y1 A B C D x0 x1 x2 x3 x4 y0 y1 y2 y3 y4 b1 b2 bx by_ w W) : K_Y2 A B C D x0 x1 x2 x3 x4 y0 y1 y2 y3 y4 b1 b2 bx by_ W.heap.size (W.heap.size + 1) w ((W.alloc (.cells #[.int .i64 x0, .int .i64 x1, .int .i64 x2, .int .i64 x3, .int .i64 x4] 39)).alloc (.cells #[.int .i64 y0, .int .i64 y1, .int .i64 y2, .int .i64 y3, .int .i64 y4] 39)) := by
  have h2 : KL w _ _ _ := KL.push5 (KL.push5 h x0 x1 x2 x3 x4 39 _ rfl) y0 y1 y2 y3 y4 39 (W.heap.size + 1) (by simp)
  exact ⟨fun v hv => h2.c v (by simp only [List.mem_cons, List.not_mem_nil, or_false] at hv; rcases hv with rfl | rfl | rfl | rfl | rfl | rfl | rfl | rfl | rfl | rfl | rfl | rfl | rfl | rfl | rfl | rfl | rfl | rfl | rfl | rfl | rfl | rfl | rfl | rfl <;> simp), by simp, by simp, h2.bel⟩
theorem U2_new (W : World) (x0 x1 x2 x3 x4 y0 y1 y2 y3 y4 : Int) : K_U2 x0 x1 x2 x3 x4 y0 y1 y2 y3 y4 W.heap.size 0 (W.alloc (.cells #[.int .i64 x0, .int .i64 x1, .int .i64 x2, .int .i64 x3, .int .i64 x4, .int .i64 y0, .int .i64 y1, .int .i64 y2, .int .i64 y3, .int .i64 y4] 39)) (W.alloc (.cells #[.int .i64 x0, .int .i64 x1, .int .i64 x2, .int .i64 x3, .int .i64 x4, .int .i64 y0, .int .i64 y1, .int .i64 y2, .int .i64 y3, .int .i64 y4] 39)) := ⟨by simp [go_sem], by simp, by simp, Below.refl _ _⟩
set_option maxHeartbeats 3200000 in
theorem iso_A (A B C D : Int) (w : World) (hA : chkA A B ≠ 0)
    (IS : Hid (∀ W : World, Calls Tryd.prog 15 #[.agg #[.int .i64 A, .int .i64 B], .agg #[.int .i64 C, .int .i64 D]] W fun e w' => e = .returned (.tuple #[.bool false, .int .i64 (chkA A B)]) ∧ Below W.heap.size W w'))
    (IM : Hid (∀ W : World, Calls Tryd.prog 16 #[.agg #[.int .i64 A, .int .i64 B], .agg #[.int .i64 C, .int .i64 D]] W fun e w' => e = .returned (.tuple #[.agg #[.int .i64 0, .int .i64 0, .int .i64 0, .int .i64 0, .int .i64 0], .agg #[.int .i64 0, .int .i64 0, .int .i64 0, .int .i64 0, .int .i64 0], .int .i64 (chkA A B)]) ∧ Below W.heap.size W w')) : Calls Tryd.prog 4 #[.agg #[.int .i64 A, .int .i64 B], .agg #[.int .i64 C, .int .i64 D]] w fun e w' => e = .returned (.bool true) ∧ Below w.heap.size w w' := by
  have ha : (chkA A B != 0) = true := by rw [bne_iff_ne]; exact hA
  have hz : (chkA A B == 0) = false := by rw [beq_eq_false_iff_ne]; exact hA
  clear hA
  skip
  go_enter Tryd.func4, Tryd.ntmps4
  go_wp2_with fail
  refine (awake_any _).mono ?_
  rintro e w1 ⟨rfl, hb⟩
  have hK : K_X0 A B C D w.heap.size (w.heap.size + 1) w w1 := K_X0.below hb ⟨by simp [go_sem], by simp [go_sem], by simp [go_sem], by (repeat (first | (with_reducible exact Below.refl _ _) | (with_reducible exact HB.out) | (with_reducible refine below_draws ?_ _) | (with_reducible refine Below.alloc ?_ (by go_size) _) | (with_reducible refine Below.setCell ?_ (by go_size) _) | (with_reducible refine Below.alloc ?_ (by simp <;> omega) _) | (with_reducible refine Below.setCell ?_ (by simp <;> omega) _)))⟩
  clear hb
  obtain ⟨c0_, c1_, c2_, c3_⟩ := K_X0.cells hK; obtain ⟨z0_, z1_, -⟩ := K_X0.zs hK; have HK := Lib.hid hK; clear hK
  go_wp2_with fail
  refine (IS.out _).mono ?_
  rintro e w2 ⟨rfl, hb⟩
  clear c0_ c1_ c2_ c3_ z0_ z1_
  have hK := K_X0.below hb HK.out
  clear hb HK
  obtain ⟨c0_, c1_, c2_, c3_⟩ := K_X0.cells hK; obtain ⟨z0_, z1_, -⟩ := K_X0.zs hK; have HK := Lib.hid hK; clear hK
  go_wp2_with fail
  refine (IM.out _).mono ?_
  rintro e w3 ⟨rfl, hb⟩
  clear c0_ c1_ c2_ c3_ z0_ z1_
  have hK := K_X0.below hb HK.out
  clear hb HK
  have hY := Y1_new hK (0) (0) (0) (0) (0) (0) (0) (0) (0) (0)
  obtain ⟨c0_, c1_, c2_, c3_⟩ := K_X0.cells hK; obtain ⟨z0_, z1_, -⟩ := K_X0.zs hK; have HK := Lib.hid hK; clear hK
  go_wp2_with fail
  clear c0_ c1_ c2_ c3_ z0_ z1_
  clear HK
  have hK := hY
  clear hY
  generalize ((w3.alloc (.cells #[.int .i64 0, .int .i64 0, .int .i64 0, .int .i64 0, .int .i64 0] 39)).alloc (.cells #[.int .i64 0, .int .i64 0, .int .i64 0, .int .i64 0, .int .i64 0] 39)) = w4 at hK ⊢
  generalize w3.heap.size + 1 = by_ at hK ⊢
  generalize w3.heap.size = bx at hK ⊢
  obtain ⟨c0_, c1_, c2_, c3_, c4_, c5_, c6_, c7_, c8_, c9_, c10_, c11_, c12_, c13_⟩ := K_Y1.cells hK; obtain ⟨z0_, z1_, z2_, z3_, -⟩ := K_Y1.zs hK; have HK := Lib.hid hK; clear hK
  refine (rCheck_any _ _ _).mono ?_
  rintro e w5 ⟨rfl, hb⟩
  clear c0_ c1_ c2_ c3_ c4_ c5_ c6_ c7_ c8_ c9_ c10_ c11_ c12_ c13_ z0_ z1_ z2_ z3_
  have hK := K_Y1.below hb HK.out
  clear hb HK
  obtain ⟨c0_, c1_, c2_, c3_, c4_, c5_, c6_, c7_, c8_, c9_, c10_, c11_, c12_, c13_⟩ := K_Y1.cells hK; obtain ⟨z0_, z1_, z2_, z3_, -⟩ := K_Y1.zs hK; have HK := Lib.hid hK; clear hK
  go_wp2
  go_ret
  exact ⟨by simp, K_Y1.bel HK.out⟩
set_option maxHeartbeats 3200000 in
theorem iso_C (A B C D : Int) (w : World) (hA : chkA A B = 0) (hC : chkA C D ≠ 0)
    (IS : Hid (∀ W : World, Calls Tryd.prog 15 #[.agg #[.int .i64 A, .int .i64 B], .agg #[.int .i64 C, .int .i64 D]] W fun e w' => e = .returned (.tuple #[.bool false, .int .i64 (chkA C D)]) ∧ Below W.heap.size W w'))
    (IM : Hid (∀ W : World, Calls Tryd.prog 16 #[.agg #[.int .i64 A, .int .i64 B], .agg #[.int .i64 C, .int .i64 D]] W fun e w' => e = .returned (.tuple #[.agg #[.int .i64 0, .int .i64 0, .int .i64 0, .int .i64 0, .int .i64 0], .agg #[.int .i64 0, .int .i64 0, .int .i64 0, .int .i64 0, .int .i64 0], .int .i64 (chkA C D)]) ∧ Below W.heap.size W w')) : Calls Tryd.prog 4 #[.agg #[.int .i64 A, .int .i64 B], .agg #[.int .i64 C, .int .i64 D]] w fun e w' => e = .returned (.bool true) ∧ Below w.heap.size w w' := by
  have ha : (chkA C D != 0) = true := by rw [bne_iff_ne]; exact hC
  have hz : (chkA C D == 0) = false := by rw [beq_eq_false_iff_ne]; exact hC
  have HA := Lib.hid hA
  clear hA hC
  go_enter Tryd.func4, Tryd.ntmps4
  go_wp2_with fail
  refine (awake_any _).mono ?_
  rintro e w1 ⟨rfl, hb⟩
  have hK : K_X0 A B C D w.heap.size (w.heap.size + 1) w w1 := K_X0.below hb ⟨by simp [go_sem], by simp [go_sem], by simp [go_sem], by (repeat (first | (with_reducible exact Below.refl _ _) | (with_reducible exact HB.out) | (with_reducible refine below_draws ?_ _) | (with_reducible refine Below.alloc ?_ (by go_size) _) | (with_reducible refine Below.setCell ?_ (by go_size) _) | (with_reducible refine Below.alloc ?_ (by simp <;> omega) _) | (with_reducible refine Below.setCell ?_ (by simp <;> omega) _)))⟩
  clear hb
  obtain ⟨c0_, c1_, c2_, c3_⟩ := K_X0.cells hK; obtain ⟨z0_, z1_, -⟩ := K_X0.zs hK; have HK := Lib.hid hK; clear hK
  go_wp2_with fail
  refine (IS.out _).mono ?_
  rintro e w2 ⟨rfl, hb⟩
  clear c0_ c1_ c2_ c3_ z0_ z1_
  have hK := K_X0.below hb HK.out
  clear hb HK
  obtain ⟨c0_, c1_, c2_, c3_⟩ := K_X0.cells hK; obtain ⟨z0_, z1_, -⟩ := K_X0.zs hK; have HK := Lib.hid hK; clear hK
  go_wp2_with fail
  refine (IM.out _).mono ?_
  rintro e w3 ⟨rfl, hb⟩
  clear c0_ c1_ c2_ c3_ z0_ z1_
  have hK := K_X0.below hb HK.out
  clear hb HK
  have hY := Y1_new hK (0) (0) (0) (0) (0) (0) (0) (0) (0) (0)
  obtain ⟨c0_, c1_, c2_, c3_⟩ := K_X0.cells hK; obtain ⟨z0_, z1_, -⟩ := K_X0.zs hK; have HK := Lib.hid hK; clear hK
  go_wp2_with fail
  clear c0_ c1_ c2_ c3_ z0_ z1_
  clear HK
  have hK := hY
  clear hY
  generalize ((w3.alloc (.cells #[.int .i64 0, .int .i64 0, .int .i64 0, .int .i64 0, .int .i64 0] 39)).alloc (.cells #[.int .i64 0, .int .i64 0, .int .i64 0, .int .i64 0, .int .i64 0] 39)) = w4 at hK ⊢
  generalize w3.heap.size + 1 = by_ at hK ⊢
  generalize w3.heap.size = bx at hK ⊢
  obtain ⟨c0_, c1_, c2_, c3_, c4_, c5_, c6_, c7_, c8_, c9_, c10_, c11_, c12_, c13_⟩ := K_Y1.cells hK; obtain ⟨z0_, z1_, z2_, z3_, -⟩ := K_Y1.zs hK; have HK := Lib.hid hK; clear hK
  refine (rCheck_any _ _ _).mono ?_
  rintro e w5 ⟨rfl, hb⟩
  rw [HA.out]
  clear c0_ c1_ c2_ c3_ c4_ c5_ c6_ c7_ c8_ c9_ c10_ c11_ c12_ c13_ z0_ z1_ z2_ z3_
  have hK := K_Y1.below hb HK.out
  clear hb HK
  obtain ⟨c0_, c1_, c2_, c3_, c4_, c5_, c6_, c7_, c8_, c9_, c10_, c11_, c12_, c13_⟩ := K_Y1.cells hK; obtain ⟨z0_, z1_, z2_, z3_, -⟩ := K_Y1.zs hK; have HK := Lib.hid hK; clear hK
  go_wp2_with fail
  refine (rCheck_any _ _ _).mono ?_
  rintro e w6 ⟨rfl, hb⟩
  clear c0_ c1_ c2_ c3_ c4_ c5_ c6_ c7_ c8_ c9_ c10_ c11_ c12_ c13_ z0_ z1_ z2_ z3_
  have hK := K_Y1.below hb HK.out
  clear hb HK
  obtain ⟨c0_, c1_, c2_, c3_, c4_, c5_, c6_, c7_, c8_, c9_, c10_, c11_, c12_, c13_⟩ := K_Y1.cells hK; obtain ⟨z0_, z1_, z2_, z3_, -⟩ := K_Y1.zs hK; have HK := Lib.hid hK; clear hK
  go_wp2
  go_ret
  exact ⟨by simp, K_Y1.bel HK.out⟩
set_option maxHeartbeats 6400000 in
theorem iso_go (A B C D F : Int) (is : Bool) (p q : Q) (w : World) (hA : chkA A B = 0) (hC : chkA C D = 0) (hF : F ≠ 0 ∨ F = 0)
    (IS : Hid (∀ W : World, Calls Tryd.prog 15 #[.agg #[.int .i64 A, .int .i64 B], .agg #[.int .i64 C, .int .i64 D]] W fun e w' => e = .returned (.tuple #[.bool is, .int .i64 0]) ∧ Below W.heap.size W w'))
    (IM : Hid (∀ W : World, Calls Tryd.prog 16 #[.agg #[.int .i64 A, .int .i64 B], .agg #[.int .i64 C, .int .i64 D]] W fun e w' => e = .returned (.tuple #[.agg #[.int .i64 (p).w, .int .i64 (p).x, .int .i64 (p).y, .int .i64 (p).z, .int .i64 (p).d], .agg #[.int .i64 (q).w, .int .i64 (q).x, .int .i64 (q).y, .int .i64 (q).z, .int .i64 (q).d], .int .i64 F]) ∧ Below W.heap.size W w'))
    (RM : Hid (∀ W : World, Calls Tryd.prog 17 #[.agg #[.int .i64 A, .int .i64 B], .agg #[.int .i64 C, .int .i64 D]] W fun e w' => e = .returned (.tuple #[.agg #[.int .i64 (p).w, .int .i64 (p).x, .int .i64 (p).y, .int .i64 (p).z, .int .i64 (p).d], .agg #[.int .i64 (q).w, .int .i64 (q).x, .int .i64 (q).y, .int .i64 (q).z, .int .i64 (q).d], .int .i64 F]) ∧ Below W.heap.size W w'))
    (RI : Hid (∀ W : World, Calls Tryd.prog 18 #[.agg #[.int .i64 A, .int .i64 B], .agg #[.int .i64 C, .int .i64 D]] W fun e w' => e = .returned (.bool is) ∧ Below W.heap.size W w'))
    (CI : Hid (F = 0 → ∀ (b : Nat) (W : World), K_U2 p.w p.x p.y p.z p.d q.w q.x q.y q.z q.d b 0 W W → Calls Tryd.prog 19 #[.agg #[.int .i64 A, .int .i64 B], .agg #[.int .i64 C, .int .i64 D], .slice (some ⟨b, 0, none⟩) 2 2] W fun e w' => e = .returned (.int .i64 0) ∧ Below W.heap.size W w')) : Calls Tryd.prog 4 #[.agg #[.int .i64 A, .int .i64 B], .agg #[.int .i64 C, .int .i64 D]] w fun e w' => e = .returned (.bool true) ∧ Below w.heap.size w w' := by
  have HA := Lib.hid hA
  have HC := Lib.hid hC
  have HF := Lib.hid hF
  clear hA hC hF
  go_enter Tryd.func4, Tryd.ntmps4
  go_wp2_with fail
  refine (awake_any _).mono ?_
  rintro e w1 ⟨rfl, hb⟩
  have hK : K_X0 A B C D w.heap.size (w.heap.size + 1) w w1 := K_X0.below hb ⟨by simp [go_sem], by simp [go_sem], by simp [go_sem], by (repeat (first | (with_reducible exact Below.refl _ _) | (with_reducible exact HB.out) | (with_reducible refine below_draws ?_ _) | (with_reducible refine Below.alloc ?_ (by go_size) _) | (with_reducible refine Below.setCell ?_ (by go_size) _) | (with_reducible refine Below.alloc ?_ (by simp <;> omega) _) | (with_reducible refine Below.setCell ?_ (by simp <;> omega) _)))⟩
  clear hb
  obtain ⟨c0_, c1_, c2_, c3_⟩ := K_X0.cells hK; obtain ⟨z0_, z1_, -⟩ := K_X0.zs hK; have HK := Lib.hid hK; clear hK
  go_wp2_with fail
  refine (IS.out _).mono ?_
  rintro e w2 ⟨rfl, hb⟩
  clear c0_ c1_ c2_ c3_ z0_ z1_
  have hK := K_X0.below hb HK.out
  clear hb HK
  obtain ⟨c0_, c1_, c2_, c3_⟩ := K_X0.cells hK; obtain ⟨z0_, z1_, -⟩ := K_X0.zs hK; have HK := Lib.hid hK; clear hK
  go_wp2_with fail
  refine (IM.out _).mono ?_
  rintro e w3 ⟨rfl, hb⟩
  clear c0_ c1_ c2_ c3_ z0_ z1_
  have hK := K_X0.below hb HK.out
  clear hb HK
  have hY := Y1_new hK p.w p.x p.y p.z p.d q.w q.x q.y q.z q.d
  obtain ⟨c0_, c1_, c2_, c3_⟩ := K_X0.cells hK; obtain ⟨z0_, z1_, -⟩ := K_X0.zs hK; have HK := Lib.hid hK; clear hK
  go_wp2_with fail
  clear c0_ c1_ c2_ c3_ z0_ z1_
  clear HK
  have hK := hY
  clear hY
  generalize ((w3.alloc (.cells #[.int .i64 p.w, .int .i64 p.x, .int .i64 p.y, .int .i64 p.z, .int .i64 p.d] 39)).alloc (.cells #[.int .i64 q.w, .int .i64 q.x, .int .i64 q.y, .int .i64 q.z, .int .i64 q.d] 39)) = w4 at hK ⊢
  generalize w3.heap.size + 1 = by_ at hK ⊢
  generalize w3.heap.size = bx at hK ⊢
  obtain ⟨c0_, c1_, c2_, c3_, c4_, c5_, c6_, c7_, c8_, c9_, c10_, c11_, c12_, c13_⟩ := K_Y1.cells hK; obtain ⟨z0_, z1_, z2_, z3_, -⟩ := K_Y1.zs hK; have HK := Lib.hid hK; clear hK
  refine (rCheck_any _ _ _).mono ?_
  rintro e w5 ⟨rfl, hb⟩
  rw [HA.out]
  clear c0_ c1_ c2_ c3_ c4_ c5_ c6_ c7_ c8_ c9_ c10_ c11_ c12_ c13_ z0_ z1_ z2_ z3_
  have hK := K_Y1.below hb HK.out
  clear hb HK
  obtain ⟨c0_, c1_, c2_, c3_, c4_, c5_, c6_, c7_, c8_, c9_, c10_, c11_, c12_, c13_⟩ := K_Y1.cells hK; obtain ⟨z0_, z1_, z2_, z3_, -⟩ := K_Y1.zs hK; have HK := Lib.hid hK; clear hK
  go_wp2_with fail
  refine (rCheck_any _ _ _).mono ?_
  rintro e w6 ⟨rfl, hb⟩
  rw [HC.out]
  clear c0_ c1_ c2_ c3_ c4_ c5_ c6_ c7_ c8_ c9_ c10_ c11_ c12_ c13_ z0_ z1_ z2_ z3_
  have hK := K_Y1.below hb HK.out
  clear hb HK
  obtain ⟨c0_, c1_, c2_, c3_, c4_, c5_, c6_, c7_, c8_, c9_, c10_, c11_, c12_, c13_⟩ := K_Y1.cells hK; obtain ⟨z0_, z1_, z2_, z3_, -⟩ := K_Y1.zs hK; have HK := Lib.hid hK; clear hK
  go_wp2_with fail
  refine (RM.out _).mono ?_
  rintro e w7 ⟨rfl, hb⟩
  clear c0_ c1_ c2_ c3_ c4_ c5_ c6_ c7_ c8_ c9_ c10_ c11_ c12_ c13_ z0_ z1_ z2_ z3_
  have hK := K_Y1.below hb HK.out
  clear hb HK
  have hY := Y2_new hK
  obtain ⟨c0_, c1_, c2_, c3_, c4_, c5_, c6_, c7_, c8_, c9_, c10_, c11_, c12_, c13_⟩ := K_Y1.cells hK; obtain ⟨z0_, z1_, z2_, z3_, -⟩ := K_Y1.zs hK; have HK := Lib.hid hK; clear hK
  go_wp2_with fail
  clear c0_ c1_ c2_ c3_ c4_ c5_ c6_ c7_ c8_ c9_ c10_ c11_ c12_ c13_ z0_ z1_ z2_ z3_
  clear HK
  have hK := hY
  clear hY
  generalize ((w7.alloc (.cells #[.int .i64 p.w, .int .i64 p.x, .int .i64 p.y, .int .i64 p.z, .int .i64 p.d] 39)).alloc (.cells #[.int .i64 q.w, .int .i64 q.x, .int .i64 q.y, .int .i64 q.z, .int .i64 q.d] 39)) = w8 at hK ⊢
  generalize w7.heap.size + 1 = bv at hK ⊢
  generalize w7.heap.size = bu at hK ⊢
  obtain ⟨c0_, c1_, c2_, c3_, c4_, c5_, c6_, c7_, c8_, c9_, c10_, c11_, c12_, c13_, c14_, c15_, c16_, c17_, c18_, c19_, c20_, c21_, c22_, c23_⟩ := K_Y2.cells hK; obtain ⟨z0_, z1_, z2_, z3_, z4_, z5_, -⟩ := K_Y2.zs hK; have HK := Lib.hid hK; clear hK
  refine (RI.out _).mono ?_
  rintro e w9 ⟨rfl, hb⟩
  clear c0_ c1_ c2_ c3_ c4_ c5_ c6_ c7_ c8_ c9_ c10_ c11_ c12_ c13_ c14_ c15_ c16_ c17_ c18_ c19_ c20_ c21_ c22_ c23_ z0_ z1_ z2_ z3_ z4_ z5_
  have hK := K_Y2.below hb HK.out
  clear hb HK
  obtain ⟨c0_, c1_, c2_, c3_, c4_, c5_, c6_, c7_, c8_, c9_, c10_, c11_, c12_, c13_, c14_, c15_, c16_, c17_, c18_, c19_, c20_, c21_, c22_, c23_⟩ := K_Y2.cells hK; obtain ⟨z0_, z1_, z2_, z3_, z4_, z5_, -⟩ := K_Y2.zs hK; have HK := Lib.hid hK; clear hK
  rcases HF.out with hf | hf
  · have hn : (F != 0) = true := by rw [bne_iff_ne]; exact hf
    clear hf
    go_wp2
    go_ret
    exact ⟨by simp, K_Y2.bel HK.out⟩
  · have CJ := Lib.hid (CI.out hf)
    have hn : (F != 0) = false := by rw [hf]; rfl
    clear hf
    go_wp2_with fail
    refine (CJ.out w9.heap.size _ (U2_new w9 p.w p.x p.y p.z p.d q.w q.x q.y q.z q.d)).mono ?_
    rintro e w10 ⟨rfl, hb⟩
    clear c0_ c1_ c2_ c3_ c4_ c5_ c6_ c7_ c8_ c9_ c10_ c11_ c12_ c13_ c14_ c15_ c16_ c17_ c18_ c19_ c20_ c21_ c22_ c23_ z0_ z1_ z2_ z3_ z4_ z5_
    have hK := K_Y2.below hb (K_Y2.alloc _ HK.out)
    clear hb HK
    go_wp2
    go_ret
    exact ⟨by simp, K_Y2.bel hK⟩
theorem walk_isomorphisms (A B C D : Int) (w : World) : Calls Tryd.prog 4 #[.agg #[.int .i64 A, .int .i64 B], .agg #[.int .i64 C, .int .i64 D]] w fun e w' => e = .returned (.bool true) ∧ Below w.heap.size w w' := by
  by_cases hA : chkA A B = 0
  · by_cases hC : chkA C D = 0
    · rcases hI : isoB A B C D with _ | _
      · refine iso_go A B C D 12 false ⟨0, 0, 0, 0, 0⟩ ⟨0, 0, 0, 0, 0⟩ w hA hC (.inl (by decide)) (Lib.hid fun W => ?_) (Lib.hid fun W => Ism_none A B C D W hA hC hI) (Lib.hid fun W => rIsm_none A B C D W hA hC hI) (Lib.hid fun W => ?_) (Lib.hid fun h => absurd h (by decide))
        · have := Isc_ok A B C D W hA hC
          rw [hI] at this
          exact this
        · have := rIsomorphic_any A B C D W hA hC
          rw [hI] at this
          exact this
      · rcases hf : ff (tnB C D) (Dl (pf C D A) 2) (Dl (pf C D B) 2) with _ | ⟨p, q⟩
        · refine iso_go A B C D 21 true ⟨0, 0, 0, 0, 0⟩ ⟨0, 0, 0, 0, 0⟩ w hA hC (.inl (by decide)) (Lib.hid fun W => ?_) (Lib.hid fun W => ?_) (Lib.hid fun W => ?_) (Lib.hid fun W => ?_) (Lib.hid fun h => absurd h (by decide))
          · have := Isc_ok A B C D W hA hC
            rw [hI] at this
            exact this
          · have := Ism_ok A B C D W hA hC hI
            rw [hf] at this
            exact this
          · have := rIsm_ok A B C D W hA hC hI
            rw [hf] at this
            exact this
          · have := rIsomorphic_any A B C D W hA hC
            rw [hI] at this
            exact this
        · obtain ⟨hp, hq, ht⟩ := ff_mem hf
          have cp := Dl_chk hp
          have cq := Dl_chk hq
          have sp : sqB C D p A = true := by have := (Dl_mem hp).2.2.2.2.2; unfold pf at this; rw [Bool.and_eq_true] at this; exact this.2
          have sq : sqB C D q B = true := by have := (Dl_mem hq).2.2.2.2.2; unfold pf at this; rw [Bool.and_eq_true] at this; exact this.2
          have bA := Bn_A hA
          have bC := Bn_A hC
          refine iso_go A B C D 0 true p q w hA hC (.inr rfl) (Lib.hid fun W => ?_) (Lib.hid fun W => ?_) (Lib.hid fun W => ?_) (Lib.hid fun W => ?_) (Lib.hid fun _ b W hU => ?_)
          · have := Isc_ok A B C D W hA hC
            rw [hI] at this
            exact this
          · have := Ism_ok A B C D W hA hC hI
            rw [hf] at this
            exact this
          · have := rIsm_ok A B C D W hA hC hI
            rw [hf] at this
            exact this
          · have := rIsomorphic_any A B C D W hA hC
            rw [hI] at this
            exact this
          · have := Iso_two A B C D p.w p.x p.y p.z p.d q.w q.x q.y q.z q.d true true true b 0 2 W hU (by omega) (by omega) hA hC cp cq (Lib.hid fun V => by have := isRoot_any C D p.w p.x p.y p.z p.d A V bC.1 bC.2 cp bA.1; rw [show sqB C D ⟨p.w, p.x, p.y, p.z, p.d⟩ A = true from sp] at this; exact this) (Lib.hid fun V => by have := isRoot_any C D q.w q.x q.y q.z q.d B V bC.1 bC.2 cq bA.2; rw [show sqB C D ⟨q.w, q.x, q.y, q.z, q.d⟩ B = true from sq] at this; exact this) (Lib.hid fun V => by have := changeSign_any C D p.w p.x p.y p.z p.d q.w q.x q.y q.z q.d V bC.1 bC.2 cp cq; rw [show tnB C D ⟨p.w, p.x, p.y, p.z, p.d⟩ ⟨q.w, q.x, q.y, q.z, q.d⟩ = true from ht] at this; exact this)
            exact this
    · have e : or2 (chkA A B) (chkA C D) = chkA C D := by rw [hA, or2_z]
      refine iso_C A B C D w hA hC (Lib.hid fun W => ?_) (Lib.hid fun W => ?_)
      · have := Isc_err A B C D W (by rw [e]; exact hC)
        rw [e] at this
        exact this
      · have := Ism_err A B C D W (by rw [e]; exact hC)
        rw [e] at this
        exact this
  · have e : or2 (chkA A B) (chkA C D) = chkA A B := or2_ne hA
    refine iso_A A B C D w hA (Lib.hid fun W => ?_) (Lib.hid fun W => ?_)
    · have := Isc_err A B C D W (by rw [e]; exact hA)
      rw [e] at this
      exact this
    · have := Ism_err A B C D W (by rw [e]; exact hA)
      rw [e] at this
      exact this
end Go.Proofs.YtgbnmnkgelklbaaDoor.Iso
