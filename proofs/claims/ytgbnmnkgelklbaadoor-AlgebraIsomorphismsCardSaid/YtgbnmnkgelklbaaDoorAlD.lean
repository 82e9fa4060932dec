/-
  WALKS: the images of i and j, the program's side.
-/
import Derived.Test.YtgbnmnkgelklbaaDoorAlO
import Derived.Test.YtgbnmnkgelklbaaDoorAlC
import Derived.Test.YtgbnmnkgelklbaaDoorMgAk
namespace Go.Proofs.YtgbnmnkgelklbaaDoor.Al
open Go.RowKit
open Alm
set_option linter.unusedVariables false
set_option linter.unusedSimpArgs false
set_option maxRecDepth 100000
theorem KL.left {w0 : World} {cs cs' : List (Nat × Nat × Value)} {fs : List (Nat × Nat)} {w : World} (h : KL w0 (cs ++ cs') fs w) : KL w cs [] w := ⟨fun x hx => h.c x (List.mem_append_left _ hx), by simp, by simp, Below.refl _ _⟩
def isoE (A B C D : Int) (x y : Q) : Int := if sqB C D x A && (sqB C D y B && tnB C D x y) then 0 else 18
/-- what a walk keeps: cells, and that nothing that was there has turned -/
def K_X0 (A B C D : Int) (b1 b2 : Nat) (w w' : World) : Prop := KL w [(b1, 0, .int .i64 A), (b1, 1, .int .i64 B), (b2, 0, .int .i64 C), (b2, 1, .int .i64 D)] [] w'
theorem K_X0.below {A B C D : Int} {b1 b2 : Nat} {w w1 w2 : World} (hb : Below w1.heap.size w1 w2) (h : K_X0 A B C D b1 b2 w w1) : K_X0 A B C D b1 b2 w w2 := KL.below hb h
theorem K_X0.draws {A B C D : Int} {b1 b2 : Nat} {w w1 : World} (n : Nat) (h : K_X0 A B C D b1 b2 w w1) : K_X0 A B C D b1 b2 w (w1.drewN n) := KL.draws n h
theorem K_X0.drew {A B C D : Int} {b1 b2 : Nat} {w w1 : World} (h : K_X0 A B C D b1 b2 w w1) : K_X0 A B C D b1 b2 w w1.drew := KL.draws 1 h
theorem K_X0.alloc {A B C D : Int} {b1 b2 : Nat} {w w1 : World} (o : Obj) (h : K_X0 A B C D b1 b2 w w1) : K_X0 A B C D b1 b2 w (w1.alloc o) := KL.alloc o h
theorem K_X0.set {A B C D : Int} {b1 b2 : Nat} {w w1 : World} (h : K_X0 A B C D b1 b2 w w1) (b i : Nat) (v : Value) (hb : b ≠ b1 ∧ b ≠ b2 ∧ w.heap.size ≤ b) : K_X0 A B C D b1 b2 w (w1.setCell ⟨b, i, none⟩ v) :=
  KL.set h b i v (by intro x hx; simp only [List.mem_cons, List.not_mem_nil, or_false] at hx; rcases hx with rfl | rfl | rfl | rfl <;> simp only [] <;> omega) (by omega)
theorem K_X0.bel {A B C D : Int} {b1 b2 : Nat} {w w1 : World} (h : K_X0 A B C D b1 b2 w w1) : Below w.heap.size w w1 := KL.bel h
theorem K_X0.cells {A B C D : Int} {b1 b2 : Nat} {w w' : World} (h : K_X0 A B C D b1 b2 w w') : w'.cell? ⟨b1, 0, none⟩ = some (.int .i64 A) ∧ w'.cell? ⟨b1, 1, none⟩ = some (.int .i64 B) ∧ w'.cell? ⟨b2, 0, none⟩ = some (.int .i64 C) ∧ w'.cell? ⟨b2, 1, none⟩ = some (.int .i64 D) := ⟨h.c (b1, 0, .int .i64 A) (by simp), h.c (b1, 1, .int .i64 B) (by simp), h.c (b2, 0, .int .i64 C) (by simp), h.c (b2, 1, .int .i64 D) (by simp)⟩
theorem K_X0.zs {A B C D : Int} {b1 b2 : Nat} {w w' : World} (h : K_X0 A B C D b1 b2 w w') : b1 < w'.heap.size ∧ b2 < w'.heap.size ∧ True := ⟨KL.z h (x := (b1, 0, .int .i64 A)) (by simp), KL.z h (x := (b2, 0, .int .i64 C)) (by simp), trivial⟩
theorem K_X0.ks {A B C D : Int} {b1 b2 : Nat} {w w' : World} (h : K_X0 A B C D b1 b2 w w') : (w'.cell? ⟨b1, 0, none⟩ = some (.int .i64 A) ∧ w'.cell? ⟨b1, 1, none⟩ = some (.int .i64 B) ∧ w'.cell? ⟨b2, 0, none⟩ = some (.int .i64 C) ∧ w'.cell? ⟨b2, 1, none⟩ = some (.int .i64 D)) ∧ K_X0 A B C D b1 b2 w w' := ⟨h.cells, h⟩
/-- what a walk keeps: cells, and that nothing that was there has turned -/
def K_X1 (x0 x1 x2 x3 x4 y0 y1 y2 y3 y4 A B C D : Int) (bu ou b1 b2 : Nat) (w w' : World) : Prop := KL w [(bu, ou, .int .i64 x0), (bu, ou + 1, .int .i64 x1), (bu, ou + 2, .int .i64 x2), (bu, ou + 3, .int .i64 x3), (bu, ou + 4, .int .i64 x4), (bu, ou + 5, .int .i64 y0), (bu, ou + 6, .int .i64 y1), (bu, ou + 7, .int .i64 y2), (bu, ou + 8, .int .i64 y3), (bu, ou + 9, .int .i64 y4), (b1, 0, .int .i64 A), (b1, 1, .int .i64 B), (b2, 0, .int .i64 C), (b2, 1, .int .i64 D)] [] w'
theorem K_X1.below {x0 x1 x2 x3 x4 y0 y1 y2 y3 y4 A B C D : Int} {bu ou b1 b2 : Nat} {w w1 w2 : World} (hb : Below w1.heap.size w1 w2) (h : K_X1 x0 x1 x2 x3 x4 y0 y1 y2 y3 y4 A B C D bu ou b1 b2 w w1) : K_X1 x0 x1 x2 x3 x4 y0 y1 y2 y3 y4 A B C D bu ou b1 b2 w w2 := KL.below hb h
theorem K_X1.draws {x0 x1 x2 x3 x4 y0 y1 y2 y3 y4 A B C D : Int} {bu ou b1 b2 : Nat} {w w1 : World} (n : Nat) (h : K_X1 x0 x1 x2 x3 x4 y0 y1 y2 y3 y4 A B C D bu ou b1 b2 w w1) : K_X1 x0 x1 x2 x3 x4 y0 y1 y2 y3 y4 A B C D bu ou b1 b2 w (w1.drewN n) := KL.draws n h
theorem K_X1.drew {x0 x1 x2 x3 x4 y0 y1 y2 y3 y4 A B C D : Int} {bu ou b1 b2 : Nat} {w w1 : World} (h : K_X1 x0 x1 x2 x3 x4 y0 y1 y2 y3 y4 A B C D bu ou b1 b2 w w1) : K_X1 x0 x1 x2 x3 x4 y0 y1 y2 y3 y4 A B C D bu ou b1 b2 w w1.drew := KL.draws 1 h
theorem K_X1.alloc {x0 x1 x2 x3 x4 y0 y1 y2 y3 y4 A B C D : Int} {bu ou b1 b2 : Nat} {w w1 : World} (o : Obj) (h : K_X1 x0 x1 x2 x3 x4 y0 y1 y2 y3 y4 A B C D bu ou b1 b2 w w1) : K_X1 x0 x1 x2 x3 x4 y0 y1 y2 y3 y4 A B C D bu ou b1 b2 w (w1.alloc o) := KL.alloc o h
theorem K_X1.set {x0 x1 x2 x3 x4 y0 y1 y2 y3 y4 A B C D : Int} {bu ou b1 b2 : Nat} {w w1 : World} (h : K_X1 x0 x1 x2 x3 x4 y0 y1 y2 y3 y4 A B C D bu ou b1 b2 w w1) (b i : Nat) (v : Value) (hb : b ≠ bu ∧ b ≠ b1 ∧ b ≠ b2 ∧ w.heap.size ≤ b) : K_X1 x0 x1 x2 x3 x4 y0 y1 y2 y3 y4 A B C D bu ou b1 b2 w (w1.setCell ⟨b, i, none⟩ v) :=
  KL.set h b i v (by intro x hx; simp only [List.mem_cons, List.not_mem_nil, or_false] at hx; rcases hx with rfl | rfl | rfl | rfl | rfl | rfl | rfl | rfl | rfl | rfl | rfl | rfl | rfl | rfl <;> simp only [] <;> omega) (by omega)
theorem K_X1.bel {x0 x1 x2 x3 x4 y0 y1 y2 y3 y4 A B C D : Int} {bu ou b1 b2 : Nat} {w w1 : World} (h : K_X1 x0 x1 x2 x3 x4 y0 y1 y2 y3 y4 A B C D bu ou b1 b2 w w1) : Below w.heap.size w w1 := KL.bel h
theorem K_X1.cells {x0 x1 x2 x3 x4 y0 y1 y2 y3 y4 A B C D : Int} {bu ou b1 b2 : Nat} {w w' : World} (h : K_X1 x0 x1 x2 x3 x4 y0 y1 y2 y3 y4 A B C D bu ou b1 b2 w w') : w'.cell? ⟨bu, ou, none⟩ = some (.int .i64 x0) ∧ w'.cell? ⟨bu, ou + 1, none⟩ = some (.int .i64 x1) ∧ w'.cell? ⟨bu, ou + 2, none⟩ = some (.int .i64 x2) ∧ w'.cell? ⟨bu, ou + 3, none⟩ = some (.int .i64 x3) ∧ w'.cell? ⟨bu, ou + 4, none⟩ = some (.int .i64 x4) ∧ w'.cell? ⟨bu, ou + 5, none⟩ = some (.int .i64 y0) ∧ w'.cell? ⟨bu, ou + 6, none⟩ = some (.int .i64 y1) ∧ w'.cell? ⟨bu, ou + 7, none⟩ = some (.int .i64 y2) ∧ w'.cell? ⟨bu, ou + 8, none⟩ = some (.int .i64 y3) ∧ w'.cell? ⟨bu, ou + 9, none⟩ = some (.int .i64 y4) ∧ w'.cell? ⟨b1, 0, none⟩ = some (.int .i64 A) ∧ w'.cell? ⟨b1, 1, none⟩ = some (.int .i64 B) ∧ w'.cell? ⟨b2, 0, none⟩ = some (.int .i64 C) ∧ w'.cell? ⟨b2, 1, none⟩ = some (.int .i64 D) := ⟨h.c (bu, ou, .int .i64 x0) (by simp), h.c (bu, ou + 1, .int .i64 x1) (by simp), h.c (bu, ou + 2, .int .i64 x2) (by simp), h.c (bu, ou + 3, .int .i64 x3) (by simp), h.c (bu, ou + 4, .int .i64 x4) (by simp), h.c (bu, ou + 5, .int .i64 y0) (by simp), h.c (bu, ou + 6, .int .i64 y1) (by simp), h.c (bu, ou + 7, .int .i64 y2) (by simp), h.c (bu, ou + 8, .int .i64 y3) (by simp), h.c (bu, ou + 9, .int .i64 y4) (by simp), h.c (b1, 0, .int .i64 A) (by simp), h.c (b1, 1, .int .i64 B) (by simp), h.c (b2, 0, .int .i64 C) (by simp), h.c (b2, 1, .int .i64 D) (by simp)⟩
theorem K_X1.zs {x0 x1 x2 x3 x4 y0 y1 y2 y3 y4 A B C D : Int} {bu ou b1 b2 : Nat} {w w' : World} (h : K_X1 x0 x1 x2 x3 x4 y0 y1 y2 y3 y4 A B C D bu ou b1 b2 w w') : bu < w'.heap.size ∧ b1 < w'.heap.size ∧ b2 < w'.heap.size ∧ True := ⟨KL.z h (x := (bu, ou, .int .i64 x0)) (by simp), KL.z h (x := (b1, 0, .int .i64 A)) (by simp), KL.z h (x := (b2, 0, .int .i64 C)) (by simp), trivial⟩
theorem K_X1.ks {x0 x1 x2 x3 x4 y0 y1 y2 y3 y4 A B C D : Int} {bu ou b1 b2 : Nat} {w w' : World} (h : K_X1 x0 x1 x2 x3 x4 y0 y1 y2 y3 y4 A B C D bu ou b1 b2 w w') : (w'.cell? ⟨bu, ou, none⟩ = some (.int .i64 x0) ∧ w'.cell? ⟨bu, ou + 1, none⟩ = some (.int .i64 x1) ∧ w'.cell? ⟨bu, ou + 2, none⟩ = some (.int .i64 x2) ∧ w'.cell? ⟨bu, ou + 3, none⟩ = some (.int .i64 x3) ∧ w'.cell? ⟨bu, ou + 4, none⟩ = some (.int .i64 x4) ∧ w'.cell? ⟨bu, ou + 5, none⟩ = some (.int .i64 y0) ∧ w'.cell? ⟨bu, ou + 6, none⟩ = some (.int .i64 y1) ∧ w'.cell? ⟨bu, ou + 7, none⟩ = some (.int .i64 y2) ∧ w'.cell? ⟨bu, ou + 8, none⟩ = some (.int .i64 y3) ∧ w'.cell? ⟨bu, ou + 9, none⟩ = some (.int .i64 y4) ∧ w'.cell? ⟨b1, 0, none⟩ = some (.int .i64 A) ∧ w'.cell? ⟨b1, 1, none⟩ = some (.int .i64 B) ∧ w'.cell? ⟨b2, 0, none⟩ = some (.int .i64 C) ∧ w'.cell? ⟨b2, 1, none⟩ = some (.int .i64 D)) ∧ K_X1 x0 x1 x2 x3 x4 y0 y1 y2 y3 y4 A B C D bu ou b1 b2 w w' := ⟨h.cells, h⟩
/-- what a walk keeps: cells, and that nothing that was there has turned -/
def K_X2 (x0 x1 x2 x3 x4 y0 y1 y2 y3 y4 A B C D : Int) (bx bz bu ou b1 b2 : Nat) (w w' : World) : Prop := KL w [(bz, 0, .int .i64 y0), (bz, 1, .int .i64 y1), (bz, 2, .int .i64 y2), (bz, 3, .int .i64 y3), (bz, 4, .int .i64 y4), (bx, 0, .int .i64 x0), (bx, 1, .int .i64 x1), (bx, 2, .int .i64 x2), (bx, 3, .int .i64 x3), (bx, 4, .int .i64 x4), (bu, ou, .int .i64 x0), (bu, ou + 1, .int .i64 x1), (bu, ou + 2, .int .i64 x2), (bu, ou + 3, .int .i64 x3), (bu, ou + 4, .int .i64 x4), (bu, ou + 5, .int .i64 y0), (bu, ou + 6, .int .i64 y1), (bu, ou + 7, .int .i64 y2), (bu, ou + 8, .int .i64 y3), (bu, ou + 9, .int .i64 y4), (b1, 0, .int .i64 A), (b1, 1, .int .i64 B), (b2, 0, .int .i64 C), (b2, 1, .int .i64 D)] [] w'
theorem K_X2.below {x0 x1 x2 x3 x4 y0 y1 y2 y3 y4 A B C D : Int} {bx bz bu ou b1 b2 : Nat} {w w1 w2 : World} (hb : Below w1.heap.size w1 w2) (h : K_X2 x0 x1 x2 x3 x4 y0 y1 y2 y3 y4 A B C D bx bz bu ou b1 b2 w w1) : K_X2 x0 x1 x2 x3 x4 y0 y1 y2 y3 y4 A B C D bx bz bu ou b1 b2 w w2 := KL.below hb h
theorem K_X2.draws {x0 x1 x2 x3 x4 y0 y1 y2 y3 y4 A B C D : Int} {bx bz bu ou b1 b2 : Nat} {w w1 : World} (n : Nat) (h : K_X2 x0 x1 x2 x3 x4 y0 y1 y2 y3 y4 A B C D bx bz bu ou b1 b2 w w1) : K_X2 x0 x1 x2 x3 x4 y0 y1 y2 y3 y4 A B C D bx bz bu ou b1 b2 w (w1.drewN n) := KL.draws n h
theorem K_X2.drew {x0 x1 x2 x3 x4 y0 y1 y2 y3 y4 A B C D : Int} {bx bz bu ou b1 b2 : Nat} {w w1 : World} (h : K_X2 x0 x1 x2 x3 x4 y0 y1 y2 y3 y4 A B C D bx bz bu ou b1 b2 w w1) : K_X2 x0 x1 x2 x3 x4 y0 y1 y2 y3 y4 A B C D bx bz bu ou b1 b2 w w1.drew := KL.draws 1 h
theorem K_X2.alloc {x0 x1 x2 x3 x4 y0 y1 y2 y3 y4 A B C D : Int} {bx bz bu ou b1 b2 : Nat} {w w1 : World} (o : Obj) (h : K_X2 x0 x1 x2 x3 x4 y0 y1 y2 y3 y4 A B C D bx bz bu ou b1 b2 w w1) : K_X2 x0 x1 x2 x3 x4 y0 y1 y2 y3 y4 A B C D bx bz bu ou b1 b2 w (w1.alloc o) := KL.alloc o h
theorem K_X2.set {x0 x1 x2 x3 x4 y0 y1 y2 y3 y4 A B C D : Int} {bx bz bu ou b1 b2 : Nat} {w w1 : World} (h : K_X2 x0 x1 x2 x3 x4 y0 y1 y2 y3 y4 A B C D bx bz bu ou b1 b2 w w1) (b i : Nat) (v : Value) (hb : b ≠ bz ∧ b ≠ bx ∧ b ≠ bu ∧ b ≠ b1 ∧ b ≠ b2 ∧ w.heap.size ≤ b) : K_X2 x0 x1 x2 x3 x4 y0 y1 y2 y3 y4 A B C D bx bz bu ou b1 b2 w (w1.setCell ⟨b, i, none⟩ v) :=
  KL.set h b i v (by intro x hx; simp only [List.mem_cons, List.not_mem_nil, or_false] at hx; rcases hx with rfl | rfl | rfl | rfl | rfl | rfl | rfl | rfl | rfl | rfl | rfl | rfl | rfl | rfl | rfl | rfl | rfl | rfl | rfl | rfl | rfl | rfl | rfl | rfl <;> simp only [] <;> omega) (by omega)
theorem K_X2.bel {x0 x1 x2 x3 x4 y0 y1 y2 y3 y4 A B C D : Int} {bx bz bu ou b1 b2 : Nat} {w w1 : World} (h : K_X2 x0 x1 x2 x3 x4 y0 y1 y2 y3 y4 A B C D bx bz bu ou b1 b2 w w1) : Below w.heap.size w w1 := KL.bel h
theorem K_X2.cells {x0 x1 x2 x3 x4 y0 y1 y2 y3 y4 A B C D : Int} {bx bz bu ou b1 b2 : Nat} {w w' : World} (h : K_X2 x0 x1 x2 x3 x4 y0 y1 y2 y3 y4 A B C D bx bz bu ou b1 b2 w w') : w'.cell? ⟨bz, 0, none⟩ = some (.int .i64 y0) ∧ w'.cell? ⟨bz, 1, none⟩ = some (.int .i64 y1) ∧ w'.cell? ⟨bz, 2, none⟩ = some (.int .i64 y2) ∧ w'.cell? ⟨bz, 3, none⟩ = some (.int .i64 y3) ∧ w'.cell? ⟨bz, 4, none⟩ = some (.int .i64 y4) ∧ w'.cell? ⟨bx, 0, none⟩ = some (.int .i64 x0) ∧ w'.cell? ⟨bx, 1, none⟩ = some (.int .i64 x1) ∧ w'.cell? ⟨bx, 2, none⟩ = some (.int .i64 x2) ∧ w'.cell? ⟨bx, 3, none⟩ = some (.int .i64 x3) ∧ w'.cell? ⟨bx, 4, none⟩ = some (.int .i64 x4) ∧ w'.cell? ⟨bu, ou, none⟩ = some (.int .i64 x0) ∧ w'.cell? ⟨bu, ou + 1, none⟩ = some (.int .i64 x1) ∧ w'.cell? ⟨bu, ou + 2, none⟩ = some (.int .i64 x2) ∧ w'.cell? ⟨bu, ou + 3, none⟩ = some (.int .i64 x3) ∧ w'.cell? ⟨bu, ou + 4, none⟩ = some (.int .i64 x4) ∧ w'.cell? ⟨bu, ou + 5, none⟩ = some (.int .i64 y0) ∧ w'.cell? ⟨bu, ou + 6, none⟩ = some (.int .i64 y1) ∧ w'.cell? ⟨bu, ou + 7, none⟩ = some (.int .i64 y2) ∧ w'.cell? ⟨bu, ou + 8, none⟩ = some (.int .i64 y3) ∧ w'.cell? ⟨bu, ou + 9, none⟩ = some (.int .i64 y4) ∧ w'.cell? ⟨b1, 0, none⟩ = some (.int .i64 A) ∧ w'.cell? ⟨b1, 1, none⟩ = some (.int .i64 B) ∧ w'.cell? ⟨b2, 0, none⟩ = some (.int .i64 C) ∧ w'.cell? ⟨b2, 1, none⟩ = some (.int .i64 D) := ⟨h.c (bz, 0, .int .i64 y0) (by simp), h.c (bz, 1, .int .i64 y1) (by simp), h.c (bz, 2, .int .i64 y2) (by simp), h.c (bz, 3, .int .i64 y3) (by simp), h.c (bz, 4, .int .i64 y4) (by simp), h.c (bx, 0, .int .i64 x0) (by simp), h.c (bx, 1, .int .i64 x1) (by simp), h.c (bx, 2, .int .i64 x2) (by simp), h.c (bx, 3, .int .i64 x3) (by simp), h.c (bx, 4, .int .i64 x4) (by simp), h.c (bu, ou, .int .i64 x0) (by simp), h.c (bu, ou + 1, .int .i64 x1) (by simp), h.c (bu, ou + 2, .int .i64 x2) (by simp), h.c (bu, ou + 3, .int .i64 x3) (by simp), h.c (bu, ou + 4, .int .i64 x4) (by simp), h.c (bu, ou + 5, .int .i64 y0) (by simp), h.c (bu, ou + 6, .int .i64 y1) (by simp), h.c (bu, ou + 7, .int .i64 y2) (by simp), h.c (bu, ou + 8, .int .i64 y3) (by simp), h.c (bu, ou + 9, .int .i64 y4) (by simp), h.c (b1, 0, .int .i64 A) (by simp), h.c (b1, 1, .int .i64 B) (by simp), h.c (b2, 0, .int .i64 C) (by simp), h.c (b2, 1, .int .i64 D) (by simp)⟩
theorem K_X2.zs {x0 x1 x2 x3 x4 y0 y1 y2 y3 y4 A B C D : Int} {bx bz bu ou b1 b2 : Nat} {w w' : World} (h : K_X2 x0 x1 x2 x3 x4 y0 y1 y2 y3 y4 A B C D bx bz bu ou b1 b2 w w') : bz < w'.heap.size ∧ bx < w'.heap.size ∧ bu < w'.heap.size ∧ b1 < w'.heap.size ∧ b2 < w'.heap.size ∧ True := ⟨KL.z h (x := (bz, 0, .int .i64 y0)) (by simp), KL.z h (x := (bx, 0, .int .i64 x0)) (by simp), KL.z h (x := (bu, ou, .int .i64 x0)) (by simp), KL.z h (x := (b1, 0, .int .i64 A)) (by simp), KL.z h (x := (b2, 0, .int .i64 C)) (by simp), trivial⟩
theorem K_X2.ks {x0 x1 x2 x3 x4 y0 y1 y2 y3 y4 A B C D : Int} {bx bz bu ou b1 b2 : Nat} {w w' : World} (h : K_X2 x0 x1 x2 x3 x4 y0 y1 y2 y3 y4 A B C D bx bz bu ou b1 b2 w w') : (w'.cell? ⟨bz, 0, none⟩ = some (.int .i64 y0) ∧ w'.cell? ⟨bz, 1, none⟩ = some (.int .i64 y1) ∧ w'.cell? ⟨bz, 2, none⟩ = some (.int .i64 y2) ∧ w'.cell? ⟨bz, 3, none⟩ = some (.int .i64 y3) ∧ w'.cell? ⟨bz, 4, none⟩ = some (.int .i64 y4) ∧ w'.cell? ⟨bx, 0, none⟩ = some (.int .i64 x0) ∧ w'.cell? ⟨bx, 1, none⟩ = some (.int .i64 x1) ∧ w'.cell? ⟨bx, 2, none⟩ = some (.int .i64 x2) ∧ w'.cell? ⟨bx, 3, none⟩ = some (.int .i64 x3) ∧ w'.cell? ⟨bx, 4, none⟩ = some (.int .i64 x4) ∧ w'.cell? ⟨bu, ou, none⟩ = some (.int .i64 x0) ∧ w'.cell? ⟨bu, ou + 1, none⟩ = some (.int .i64 x1) ∧ w'.cell? ⟨bu, ou + 2, none⟩ = some (.int .i64 x2) ∧ w'.cell? ⟨bu, ou + 3, none⟩ = some (.int .i64 x3) ∧ w'.cell? ⟨bu, ou + 4, none⟩ = some (.int .i64 x4) ∧ w'.cell? ⟨bu, ou + 5, none⟩ = some (.int .i64 y0) ∧ w'.cell? ⟨bu, ou + 6, none⟩ = some (.int .i64 y1) ∧ w'.cell? ⟨bu, ou + 7, none⟩ = some (.int .i64 y2) ∧ w'.cell? ⟨bu, ou + 8, none⟩ = some (.int .i64 y3) ∧ w'.cell? ⟨bu, ou + 9, none⟩ = some (.int .i64 y4) ∧ w'.cell? ⟨b1, 0, none⟩ = some (.int .i64 A) ∧ w'.cell? ⟨b1, 1, none⟩ = some (.int .i64 B) ∧ w'.cell? ⟨b2, 0, none⟩ = some (.int .i64 C) ∧ w'.cell? ⟨b2, 1, none⟩ = some (.int .i64 D)) ∧ K_X2 x0 x1 x2 x3 x4 y0 y1 y2 y3 y4 A B C D bx bz bu ou b1 b2 w w' := ⟨h.cells, h⟩
set_option maxHeartbeats 3200000 in
theorem Iso_err (A B C D : Int) (L : Option Addr) (n c : Nat) (w : World) (h : or2 (chkA A B) (chkA C D) ≠ 0) :
    Calls Tryd.prog 19 #[.agg #[.int .i64 A, .int .i64 B], .agg #[.int .i64 C, .int .i64 D], .slice L n c] w fun e w' => e = .returned (.int .i64 (or2 (chkA A B) (chkA C D))) ∧ Below w.heap.size w w' := by
  have ok : (or2 (chkA A B) (chkA C D) != 0) = true := by rw [bne_iff_ne]; exact h
  clear h
  go_enter Tryd.func19, Tryd.ntmps19
  go_wp2_with fail
  have hk : K_X0 A B C D w.heap.size (w.heap.size + 1) w ((w.alloc (.cells #[.int .i64 A, .int .i64 B] 23)).alloc (.cells #[.int .i64 C, .int .i64 D] 23)) := ⟨by simp [go_sem], by simp [go_sem], by simp [go_sem], by (repeat (first | (with_reducible exact Below.refl _ _) | (with_reducible exact HB.out) | (with_reducible refine below_draws ?_ _) | (with_reducible refine Below.alloc ?_ (by go_size) _) | (with_reducible refine Below.setCell ?_ (by go_size) _) | (with_reducible refine Below.alloc ?_ (by simp <;> omega) _) | (with_reducible refine Below.setCell ?_ (by simp <;> omega) _)))⟩
  go_region_held3 (fun w' => (w'.cell? ⟨w.heap.size, 0, none⟩ = some (.int .i64 A) ∧ w'.cell? ⟨w.heap.size, 1, none⟩ = some (.int .i64 B) ∧ w'.cell? ⟨(w.heap.size + 1), 0, none⟩ = some (.int .i64 C) ∧ w'.cell? ⟨(w.heap.size + 1), 1, none⟩ = some (.int .i64 D)) ∧ K_X0 A B C D w.heap.size (w.heap.size + 1) w w') ((refine K_X0.ks ?_; repeat (first | (with_reducible assumption) | (with_reducible refine K_X0.draws _ ?_) | (with_reducible refine K_X0.drew ?_) | (with_reducible refine K_X0.alloc _ ?_) | (with_reducible refine K_X0.set ?_ _ _ _ (by omega)))))
    (first
      | (go_at_call 25; (with_reducible refine (Check_any _ _ _).mono ?_); rintro e w' ⟨rfl, hbel⟩; have hk' := K_X0.below hbel (And.right (by assumption)); clear hbel)
      | (go_at_call 31; (with_reducible refine (Or_new _ _ _ _ _ ?_).mono ?_); rfl; rintro e w'' ⟨rfl, rfl⟩))
  all_goals
    go_wp2
    go_ret
    exact ⟨rfl, K_X0.bel (K_X0.alloc _ hk')⟩
set_option maxHeartbeats 3200000 in
theorem Iso_len (A B C D : Int) (L : Option Addr) (n c : Nat) (w : World) (hA : chkA A B = 0) (hC : chkA C D = 0) (hn : n ≠ 2) :
    Calls Tryd.prog 19 #[.agg #[.int .i64 A, .int .i64 B], .agg #[.int .i64 C, .int .i64 D], .slice L n c] w fun e w' => e = .returned (.int .i64 9) ∧ Below w.heap.size w w' := by
  have OK := Lib.hid (or2_ok hA hC)
  have ht : ((n : Int) != 2) = true := by rw [bne_iff_ne]; omega
  clear hA hC hn
  go_enter Tryd.func19, Tryd.ntmps19
  go_wp2_with fail
  have hk : K_X0 A B C D w.heap.size (w.heap.size + 1) w ((w.alloc (.cells #[.int .i64 A, .int .i64 B] 23)).alloc (.cells #[.int .i64 C, .int .i64 D] 23)) := ⟨by simp [go_sem], by simp [go_sem], by simp [go_sem], by (repeat (first | (with_reducible exact Below.refl _ _) | (with_reducible exact HB.out) | (with_reducible refine below_draws ?_ _) | (with_reducible refine Below.alloc ?_ (by go_size) _) | (with_reducible refine Below.setCell ?_ (by go_size) _) | (with_reducible refine Below.alloc ?_ (by simp <;> omega) _) | (with_reducible refine Below.setCell ?_ (by simp <;> omega) _)))⟩
  go_region_held3 (fun w' => (w'.cell? ⟨w.heap.size, 0, none⟩ = some (.int .i64 A) ∧ w'.cell? ⟨w.heap.size, 1, none⟩ = some (.int .i64 B) ∧ w'.cell? ⟨(w.heap.size + 1), 0, none⟩ = some (.int .i64 C) ∧ w'.cell? ⟨(w.heap.size + 1), 1, none⟩ = some (.int .i64 D)) ∧ K_X0 A B C D w.heap.size (w.heap.size + 1) w w') ((refine K_X0.ks ?_; repeat (first | (with_reducible assumption) | (with_reducible refine K_X0.draws _ ?_) | (with_reducible refine K_X0.drew ?_) | (with_reducible refine K_X0.alloc _ ?_) | (with_reducible refine K_X0.set ?_ _ _ _ (by omega)))))
    (first
      | (go_at_call 25; (with_reducible refine (Check_any _ _ _).mono ?_); rintro e w' ⟨rfl, hbel⟩; have hk' := K_X0.below hbel (And.right (by assumption)); clear hbel)
      | (go_at_call 31; (with_reducible refine (Or_new _ _ _ _ _ ?_).mono ?_); rfl; rintro e w'' ⟨rfl, rfl⟩))
  all_goals
    rw [OK.out]
    go_wp2
    go_ret
    exact ⟨rfl, K_X0.bel (K_X0.alloc _ hk')⟩
set_option maxHeartbeats 6400000 in
theorem Iso_q (A B C D x0 x1 x2 x3 x4 y0 y1 y2 y3 y4 : Int) (b o c : Nat) (w : World) (h : K_U2 x0 x1 x2 x3 x4 y0 y1 y2 y3 y4 b o w w) (hc : 2 ≤ c) (hc' : c ≤ 9223372036854775807) (hA : chkA A B = 0) (hC : chkA C D = 0) (hq : or2 (chkQ x0 x1 x2 x3 x4) (chkQ y0 y1 y2 y3 y4) ≠ 0) :
    Calls Tryd.prog 19 #[.agg #[.int .i64 A, .int .i64 B], .agg #[.int .i64 C, .int .i64 D], .slice (some ⟨b, o, none⟩) 2 c] w fun e w' => e = .returned (.int .i64 (or2 (chkQ x0 x1 x2 x3 x4) (chkQ y0 y1 y2 y3 y4))) ∧ Below w.heap.size w w' := by
  have OK := Lib.hid (or2_ok hA hC)
  obtain ⟨E, hE⟩ : ∃ E, or2 (chkQ x0 x1 x2 x3 x4) (chkQ y0 y1 y2 y3 y4) = E := ⟨_, rfl⟩
  have HE := Lib.hid hE
  rw [hE] at hq ⊢
  have ht : (E != 0) = true := by rw [bne_iff_ne]; exact hq
  clear hA hC hq hE
  go_enter Tryd.func19, Tryd.ntmps19
  go_wp2_with fail
  have hk : K_X1 x0 x1 x2 x3 x4 y0 y1 y2 y3 y4 A B C D b o w.heap.size (w.heap.size + 1) w ((w.alloc (.cells #[.int .i64 A, .int .i64 B] 23)).alloc (.cells #[.int .i64 C, .int .i64 D] 23)) := by
    have h2 : KL w _ _ _ := KL.push2 (KL.push2 h A B 23 _ rfl) C D 23 (w.heap.size + 1) (by simp)
    exact ⟨fun x hx => h2.c x (by simp only [List.mem_cons, List.not_mem_nil, or_false] at hx ⊢; grind), by simp, by simp, h2.bel⟩
  clear h
  go_region_held3 (fun w' => (w'.cell? ⟨b, o, none⟩ = some (.int .i64 x0) ∧ w'.cell? ⟨b, o + 1, none⟩ = some (.int .i64 x1) ∧ w'.cell? ⟨b, o + 2, none⟩ = some (.int .i64 x2) ∧ w'.cell? ⟨b, o + 3, none⟩ = some (.int .i64 x3) ∧ w'.cell? ⟨b, o + 4, none⟩ = some (.int .i64 x4) ∧ w'.cell? ⟨b, o + 5, none⟩ = some (.int .i64 y0) ∧ w'.cell? ⟨b, o + 6, none⟩ = some (.int .i64 y1) ∧ w'.cell? ⟨b, o + 7, none⟩ = some (.int .i64 y2) ∧ w'.cell? ⟨b, o + 8, none⟩ = some (.int .i64 y3) ∧ w'.cell? ⟨b, o + 9, none⟩ = some (.int .i64 y4) ∧ w'.cell? ⟨w.heap.size, 0, none⟩ = some (.int .i64 A) ∧ w'.cell? ⟨w.heap.size, 1, none⟩ = some (.int .i64 B) ∧ w'.cell? ⟨(w.heap.size + 1), 0, none⟩ = some (.int .i64 C) ∧ w'.cell? ⟨(w.heap.size + 1), 1, none⟩ = some (.int .i64 D)) ∧ K_X1 x0 x1 x2 x3 x4 y0 y1 y2 y3 y4 A B C D b o w.heap.size (w.heap.size + 1) w w') ((refine K_X1.ks ?_; repeat (first | (with_reducible assumption) | (with_reducible refine K_X1.draws _ ?_) | (with_reducible refine K_X1.drew ?_) | (with_reducible refine K_X1.alloc _ ?_) | (with_reducible refine K_X1.set ?_ _ _ _ (by omega)))))
    (first
      | (go_at_call 25; (with_reducible refine (Check_any _ _ _).mono ?_); rintro e w' ⟨rfl, hbel⟩; have hk' := K_X1.below hbel (And.right (by assumption)); clear hbel)
      | (go_at_call 31; (with_reducible refine (Or_new _ _ _ _ _ ?_).mono ?_); rfl; rintro e w'' ⟨rfl, rfl⟩))
  all_goals
    rename_i hh
    clear hh hk
    rw [OK.out]
    have hK := hk'
    clear hk'
    obtain ⟨c0_, c1_, c2_, c3_, c4_, c5_, c6_, c7_, c8_, c9_, c10_, c11_, c12_, c13_⟩ := K_X1.cells hK; obtain ⟨z0_, z1_, z2_, -⟩ := K_X1.zs hK; have HK := Lib.hid hK; clear hK
    go_wp2_with fail
    have hK := K_X1.alloc (.cells #[.int .i64 (chkA A B), .int .i64 (chkA C D)] 26) HK.out
    refine (checkQuats_off x0 x1 x2 x3 x4 y0 y1 y2 y3 y4 b o c _ (KL.left hK) hc hc').mono ?_
    rintro e w2 ⟨rfl, hb⟩
    rw [HE.out]
    clear c0_ c1_ c2_ c3_ c4_ c5_ c6_ c7_ c8_ c9_ c10_ c11_ c12_ c13_ z0_ z1_ z2_
    have hK := K_X1.below hb hK
    clear hb HK
    go_wp2
    go_ret
    exact ⟨rfl, K_X1.bel hK⟩
set_option maxHeartbeats 12800000 in
theorem Iso_two (A B C D x0 x1 x2 x3 x4 y0 y1 y2 y3 y4 : Int) (s1 s2 s3 : Bool) (b o c : Nat) (w : World) (h : K_U2 x0 x1 x2 x3 x4 y0 y1 y2 y3 y4 b o w w) (hc : 2 ≤ c) (hc' : c ≤ 9223372036854775807) (hA : chkA A B = 0) (hC : chkA C D = 0) (hx : chkQ x0 x1 x2 x3 x4 = 0) (hy : chkQ y0 y1 y2 y3 y4 = 0)
    (R1 : Hid (∀ W : World, Calls Tryd.prog 34 #[.agg #[.int .i64 C, .int .i64 D], .agg #[.int .i64 x0, .int .i64 x1, .int .i64 x2, .int .i64 x3, .int .i64 x4], .int .i64 A] W fun e w' => e = .returned (.bool s1) ∧ Below W.heap.size W w'))
    (R2 : Hid (∀ W : World, Calls Tryd.prog 34 #[.agg #[.int .i64 C, .int .i64 D], .agg #[.int .i64 y0, .int .i64 y1, .int .i64 y2, .int .i64 y3, .int .i64 y4], .int .i64 B] W fun e w' => e = .returned (.bool s2) ∧ Below W.heap.size W w'))
    (R3 : Hid (∀ W : World, Calls Tryd.prog 35 #[.agg #[.int .i64 C, .int .i64 D], .agg #[.int .i64 x0, .int .i64 x1, .int .i64 x2, .int .i64 x3, .int .i64 x4], .agg #[.int .i64 y0, .int .i64 y1, .int .i64 y2, .int .i64 y3, .int .i64 y4]] W fun e w' => e = .returned (.bool s3) ∧ Below W.heap.size W w')) :
    Calls Tryd.prog 19 #[.agg #[.int .i64 A, .int .i64 B], .agg #[.int .i64 C, .int .i64 D], .slice (some ⟨b, o, none⟩) 2 c] w fun e w' => e = .returned (.int .i64 (if s1 && (s2 && s3) then 0 else 18)) ∧ Below w.heap.size w w' := by
  have OK := Lib.hid (or2_ok hA hC)
  have OQ := Lib.hid (or2_ok hx hy)
  clear hA hC hx hy
  go_enter Tryd.func19, Tryd.ntmps19
  go_wp2_with fail
  have hk : K_X1 x0 x1 x2 x3 x4 y0 y1 y2 y3 y4 A B C D b o w.heap.size (w.heap.size + 1) w ((w.alloc (.cells #[.int .i64 A, .int .i64 B] 23)).alloc (.cells #[.int .i64 C, .int .i64 D] 23)) := by
    have h2 : KL w _ _ _ := KL.push2 (KL.push2 h A B 23 _ rfl) C D 23 (w.heap.size + 1) (by simp)
    exact ⟨fun x hx => h2.c x (by simp only [List.mem_cons, List.not_mem_nil, or_false] at hx ⊢; grind), by simp, by simp, h2.bel⟩
  clear h
  go_region_held3 (fun w' => (w'.cell? ⟨b, o, none⟩ = some (.int .i64 x0) ∧ w'.cell? ⟨b, o + 1, none⟩ = some (.int .i64 x1) ∧ w'.cell? ⟨b, o + 2, none⟩ = some (.int .i64 x2) ∧ w'.cell? ⟨b, o + 3, none⟩ = some (.int .i64 x3) ∧ w'.cell? ⟨b, o + 4, none⟩ = some (.int .i64 x4) ∧ w'.cell? ⟨b, o + 5, none⟩ = some (.int .i64 y0) ∧ w'.cell? ⟨b, o + 6, none⟩ = some (.int .i64 y1) ∧ w'.cell? ⟨b, o + 7, none⟩ = some (.int .i64 y2) ∧ w'.cell? ⟨b, o + 8, none⟩ = some (.int .i64 y3) ∧ w'.cell? ⟨b, o + 9, none⟩ = some (.int .i64 y4) ∧ w'.cell? ⟨w.heap.size, 0, none⟩ = some (.int .i64 A) ∧ w'.cell? ⟨w.heap.size, 1, none⟩ = some (.int .i64 B) ∧ w'.cell? ⟨(w.heap.size + 1), 0, none⟩ = some (.int .i64 C) ∧ w'.cell? ⟨(w.heap.size + 1), 1, none⟩ = some (.int .i64 D)) ∧ K_X1 x0 x1 x2 x3 x4 y0 y1 y2 y3 y4 A B C D b o w.heap.size (w.heap.size + 1) w w') ((refine K_X1.ks ?_; repeat (first | (with_reducible assumption) | (with_reducible refine K_X1.draws _ ?_) | (with_reducible refine K_X1.drew ?_) | (with_reducible refine K_X1.alloc _ ?_) | (with_reducible refine K_X1.set ?_ _ _ _ (by omega)))))
    (first
      | (go_at_call 25; (with_reducible refine (Check_any _ _ _).mono ?_); rintro e w' ⟨rfl, hbel⟩; have hk' := K_X1.below hbel (And.right (by assumption)); clear hbel)
      | (go_at_call 31; (with_reducible refine (Or_new _ _ _ _ _ ?_).mono ?_); rfl; rintro e w'' ⟨rfl, rfl⟩))
  all_goals
    rename_i hh
    clear hh hk
    rw [OK.out]
    have hK := hk'
    clear hk'
    obtain ⟨c0_, c1_, c2_, c3_, c4_, c5_, c6_, c7_, c8_, c9_, c10_, c11_, c12_, c13_⟩ := K_X1.cells hK; obtain ⟨z0_, z1_, z2_, -⟩ := K_X1.zs hK; have HK := Lib.hid hK; clear hK
    go_wp2_with fail
    have hK := K_X1.alloc (.cells #[.int .i64 (chkA A B), .int .i64 (chkA C D)] 26) HK.out
    refine (checkQuats_off x0 x1 x2 x3 x4 y0 y1 y2 y3 y4 b o c _ (KL.left hK) hc hc').mono ?_
    rintro e w2 ⟨rfl, hb⟩
    rw [OQ.out]
    clear c0_ c1_ c2_ c3_ c4_ c5_ c6_ c7_ c8_ c9_ c10_ c11_ c12_ c13_ z0_ z1_ z2_
    have hK := K_X1.below hb hK
    clear hb HK
    obtain ⟨c0_, c1_, c2_, c3_, c4_, c5_, c6_, c7_, c8_, c9_, c10_, c11_, c12_, c13_⟩ := K_X1.cells hK; obtain ⟨z0_, z1_, z2_, -⟩ := K_X1.zs hK; have HK := Lib.hid hK; clear hK
    go_wp2_with fail
    have hk := HK.out
    clear c0_ c1_ c2_ c3_ c4_ c5_ c6_ c7_ c8_ c9_ c10_ c11_ c12_ c13_ z0_ z1_ z2_
    clear HK
    refine merge_rest2 (K := fun p q w9 => K_X2 x0 x1 x2 x3 x4 y0 y1 y2 y3 y4 A B C D p q b o w.heap.size (w.heap.size + 1) w w9) ?G ?main ?rest
    case main =>
      intro REST
      go_region_held3 (fun w' => (w'.cell? ⟨b, o, none⟩ = some (.int .i64 x0) ∧ w'.cell? ⟨b, o + 1, none⟩ = some (.int .i64 x1) ∧ w'.cell? ⟨b, o + 2, none⟩ = some (.int .i64 x2) ∧ w'.cell? ⟨b, o + 3, none⟩ = some (.int .i64 x3) ∧ w'.cell? ⟨b, o + 4, none⟩ = some (.int .i64 x4) ∧ w'.cell? ⟨b, o + 5, none⟩ = some (.int .i64 y0) ∧ w'.cell? ⟨b, o + 6, none⟩ = some (.int .i64 y1) ∧ w'.cell? ⟨b, o + 7, none⟩ = some (.int .i64 y2) ∧ w'.cell? ⟨b, o + 8, none⟩ = some (.int .i64 y3) ∧ w'.cell? ⟨b, o + 9, none⟩ = some (.int .i64 y4) ∧ w'.cell? ⟨w.heap.size, 0, none⟩ = some (.int .i64 A) ∧ w'.cell? ⟨w.heap.size, 1, none⟩ = some (.int .i64 B) ∧ w'.cell? ⟨(w.heap.size + 1), 0, none⟩ = some (.int .i64 C) ∧ w'.cell? ⟨(w.heap.size + 1), 1, none⟩ = some (.int .i64 D)) ∧ K_X1 x0 x1 x2 x3 x4 y0 y1 y2 y3 y4 A B C D b o w.heap.size (w.heap.size + 1) w w') ((refine K_X1.ks ?_; repeat (first | (with_reducible assumption) | (with_reducible refine K_X1.draws _ ?_) | (with_reducible refine K_X1.drew ?_) | (with_reducible refine K_X1.alloc _ ?_) | (with_reducible refine K_X1.set ?_ _ _ _ (by omega))))) (fail)
      · rename_i hh
        clear hh
        have hK : K_X2 x0 x1 x2 x3 x4 y0 y1 y2 y3 y4 A B C D w2.heap.size (w2.heap.size + 1) b o w.heap.size (w.heap.size + 1) w (World.drew ((w2.alloc (.cells #[.int .i64 x0, .int .i64 x1, .int .i64 x2, .int .i64 x3, .int .i64 x4] 39)).alloc (.cells #[.int .i64 y0, .int .i64 y1, .int .i64 y2, .int .i64 y3, .int .i64 y4] 39))) := KL.draws 1 (KL.push5 (KL.push5 hk x0 x1 x2 x3 x4 _ _ rfl) y0 y1 y2 y3 y4 _ _ (by simp))
        generalize (World.drew ((w2.alloc (.cells #[.int .i64 x0, .int .i64 x1, .int .i64 x2, .int .i64 x3, .int .i64 x4] 39)).alloc (.cells #[.int .i64 y0, .int .i64 y1, .int .i64 y2, .int .i64 y3, .int .i64 y4] 39))) = w9 at hK ⊢
        generalize w2.heap.size + 1 = q at hK ⊢
        generalize w2.heap.size = p at hK ⊢
        exact REST.out _ _ _ hK
      · rename_i hh
        clear hh
        have h9 : KL w _ _ (World.drew ((w2.alloc (.cells #[.int .i64 y0, .int .i64 y1, .int .i64 y2, .int .i64 y3, .int .i64 y4] 39)).alloc (.cells #[.int .i64 x0, .int .i64 x1, .int .i64 x2, .int .i64 x3, .int .i64 x4] 39))) := KL.draws 1 (KL.push5 (KL.push5 hk y0 y1 y2 y3 y4 _ w2.heap.size rfl) x0 x1 x2 x3 x4 _ (w2.heap.size + 1) (by simp))
        have hK : K_X2 x0 x1 x2 x3 x4 y0 y1 y2 y3 y4 A B C D (w2.heap.size + 1) w2.heap.size b o w.heap.size (w.heap.size + 1) w (World.drew ((w2.alloc (.cells #[.int .i64 y0, .int .i64 y1, .int .i64 y2, .int .i64 y3, .int .i64 y4] 39)).alloc (.cells #[.int .i64 x0, .int .i64 x1, .int .i64 x2, .int .i64 x3, .int .i64 x4] 39))) := KL.subf h9 (by clear h9 REST; intro x hx; simp only [List.mem_cons, List.not_mem_nil, or_false] at hx ⊢; rcases hx with rfl | rfl | rfl | rfl | rfl | rfl | rfl | rfl | rfl | rfl | rfl | rfl | rfl | rfl | rfl | rfl | rfl | rfl | rfl | rfl | rfl | rfl | rfl | rfl <;> simp)
        exact REST.out _ _ _ hK
    case rest =>
      clear hk
      intro p q w3 hK
      rcases s1 with _ | _
      · obtain ⟨c0_, c1_, c2_, c3_, c4_, c5_, c6_, c7_, c8_, c9_, c10_, c11_, c12_, c13_, c14_, c15_, c16_, c17_, c18_, c19_, c20_, c21_, c22_, c23_⟩ := K_X2.cells hK; obtain ⟨z0_, z1_, z2_, z3_, z4_, -⟩ := K_X2.zs hK; have HK := Lib.hid hK; clear hK
        go_wp2_with fail
        refine (R1.out _).mono ?_
        rintro e w4 ⟨rfl, hb⟩
        clear c0_ c1_ c2_ c3_ c4_ c5_ c6_ c7_ c8_ c9_ c10_ c11_ c12_ c13_ c14_ c15_ c16_ c17_ c18_ c19_ c20_ c21_ c22_ c23_ z0_ z1_ z2_ z3_ z4_
        have hK := K_X2.below hb HK.out
        clear hb HK
        obtain ⟨c0_, c1_, c2_, c3_, c4_, c5_, c6_, c7_, c8_, c9_, c10_, c11_, c12_, c13_, c14_, c15_, c16_, c17_, c18_, c19_, c20_, c21_, c22_, c23_⟩ := K_X2.cells hK; obtain ⟨z0_, z1_, z2_, z3_, z4_, -⟩ := K_X2.zs hK; have HK := Lib.hid hK; clear hK
        go_wp2
        go_ret
        exact ⟨rfl, K_X2.bel HK.out⟩
      rcases s2 with _ | _
      · obtain ⟨c0_, c1_, c2_, c3_, c4_, c5_, c6_, c7_, c8_, c9_, c10_, c11_, c12_, c13_, c14_, c15_, c16_, c17_, c18_, c19_, c20_, c21_, c22_, c23_⟩ := K_X2.cells hK; obtain ⟨z0_, z1_, z2_, z3_, z4_, -⟩ := K_X2.zs hK; have HK := Lib.hid hK; clear hK
        go_wp2_with fail
        refine (R1.out _).mono ?_
        rintro e w4 ⟨rfl, hb⟩
        clear c0_ c1_ c2_ c3_ c4_ c5_ c6_ c7_ c8_ c9_ c10_ c11_ c12_ c13_ c14_ c15_ c16_ c17_ c18_ c19_ c20_ c21_ c22_ c23_ z0_ z1_ z2_ z3_ z4_
        have hK := K_X2.below hb HK.out
        clear hb HK
        obtain ⟨c0_, c1_, c2_, c3_, c4_, c5_, c6_, c7_, c8_, c9_, c10_, c11_, c12_, c13_, c14_, c15_, c16_, c17_, c18_, c19_, c20_, c21_, c22_, c23_⟩ := K_X2.cells hK; obtain ⟨z0_, z1_, z2_, z3_, z4_, -⟩ := K_X2.zs hK; have HK := Lib.hid hK; clear hK
        go_wp2_with fail
        refine (R2.out _).mono ?_
        rintro e w5 ⟨rfl, hb⟩
        clear c0_ c1_ c2_ c3_ c4_ c5_ c6_ c7_ c8_ c9_ c10_ c11_ c12_ c13_ c14_ c15_ c16_ c17_ c18_ c19_ c20_ c21_ c22_ c23_ z0_ z1_ z2_ z3_ z4_
        have hK := K_X2.below hb HK.out
        clear hb HK
        obtain ⟨c0_, c1_, c2_, c3_, c4_, c5_, c6_, c7_, c8_, c9_, c10_, c11_, c12_, c13_, c14_, c15_, c16_, c17_, c18_, c19_, c20_, c21_, c22_, c23_⟩ := K_X2.cells hK; obtain ⟨z0_, z1_, z2_, z3_, z4_, -⟩ := K_X2.zs hK; have HK := Lib.hid hK; clear hK
        go_wp2
        go_ret
        exact ⟨rfl, K_X2.bel HK.out⟩
      rcases s3 with _ | _
      all_goals
        obtain ⟨c0_, c1_, c2_, c3_, c4_, c5_, c6_, c7_, c8_, c9_, c10_, c11_, c12_, c13_, c14_, c15_, c16_, c17_, c18_, c19_, c20_, c21_, c22_, c23_⟩ := K_X2.cells hK; obtain ⟨z0_, z1_, z2_, z3_, z4_, -⟩ := K_X2.zs hK; have HK := Lib.hid hK; clear hK
        go_wp2_with fail
        refine (R1.out _).mono ?_
        rintro e w4 ⟨rfl, hb⟩
        clear c0_ c1_ c2_ c3_ c4_ c5_ c6_ c7_ c8_ c9_ c10_ c11_ c12_ c13_ c14_ c15_ c16_ c17_ c18_ c19_ c20_ c21_ c22_ c23_ z0_ z1_ z2_ z3_ z4_
        have hK := K_X2.below hb HK.out
        clear hb HK
        obtain ⟨c0_, c1_, c2_, c3_, c4_, c5_, c6_, c7_, c8_, c9_, c10_, c11_, c12_, c13_, c14_, c15_, c16_, c17_, c18_, c19_, c20_, c21_, c22_, c23_⟩ := K_X2.cells hK; obtain ⟨z0_, z1_, z2_, z3_, z4_, -⟩ := K_X2.zs hK; have HK := Lib.hid hK; clear hK
        go_wp2_with fail
        refine (R2.out _).mono ?_
        rintro e w5 ⟨rfl, hb⟩
        clear c0_ c1_ c2_ c3_ c4_ c5_ c6_ c7_ c8_ c9_ c10_ c11_ c12_ c13_ c14_ c15_ c16_ c17_ c18_ c19_ c20_ c21_ c22_ c23_ z0_ z1_ z2_ z3_ z4_
        have hK := K_X2.below hb HK.out
        clear hb HK
        obtain ⟨c0_, c1_, c2_, c3_, c4_, c5_, c6_, c7_, c8_, c9_, c10_, c11_, c12_, c13_, c14_, c15_, c16_, c17_, c18_, c19_, c20_, c21_, c22_, c23_⟩ := K_X2.cells hK; obtain ⟨z0_, z1_, z2_, z3_, z4_, -⟩ := K_X2.zs hK; have HK := Lib.hid hK; clear hK
        go_wp2_with fail
        refine (R3.out _).mono ?_
        rintro e w6 ⟨rfl, hb⟩
        clear c0_ c1_ c2_ c3_ c4_ c5_ c6_ c7_ c8_ c9_ c10_ c11_ c12_ c13_ c14_ c15_ c16_ c17_ c18_ c19_ c20_ c21_ c22_ c23_ z0_ z1_ z2_ z3_ z4_
        have hK := K_X2.below hb HK.out
        clear hb HK
        obtain ⟨c0_, c1_, c2_, c3_, c4_, c5_, c6_, c7_, c8_, c9_, c10_, c11_, c12_, c13_, c14_, c15_, c16_, c17_, c18_, c19_, c20_, c21_, c22_, c23_⟩ := K_X2.cells hK; obtain ⟨z0_, z1_, z2_, z3_, z4_, -⟩ := K_X2.zs hK; have HK := Lib.hid hK; clear hK
        go_wp2
        go_ret
        exact ⟨rfl, K_X2.bel HK.out⟩
end Go.Proofs.YtgbnmnkgelklbaaDoor.Al
