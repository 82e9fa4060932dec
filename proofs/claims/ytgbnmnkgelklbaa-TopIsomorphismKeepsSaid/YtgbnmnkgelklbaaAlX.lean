/-
  WALKS: minimal polynomials.
-/
import Derived.Test.YtgbnmnkgelklbaaAlE
namespace Go.Proofs.Ytgbnmnkgelklbaa.Al
open Go.RowKit
open Alm
set_option linter.unusedVariables false
set_option linter.unusedSimpArgs false
set_option maxRecDepth 100000
/-- what a walk keeps: cells, and that nothing that was there has turned -/
def K_Pr (A B n0 n1 n2 n3 d o1 o2 r0 r1 r2 r3 : Int) (b1 b2 b3 b4 : Nat) (w w' : World) : Prop := KL w [(b4, 0, .int .i64 r0), (b4, 1, .int .i64 r1), (b4, 2, .int .i64 r2), (b4, 3, .int .i64 r3), (b3, 0, .int .i64 o1), (b3, 1, .int .i64 o2), (b1, 0, .int .i64 A), (b1, 1, .int .i64 B), (b2, 0, .int .i64 n0), (b2, 1, .int .i64 n1), (b2, 2, .int .i64 n2), (b2, 3, .int .i64 n3), (b2, 4, .int .i64 d)] [] w'
theorem K_Pr.below {A B n0 n1 n2 n3 d o1 o2 r0 r1 r2 r3 : Int} {b1 b2 b3 b4 : Nat} {w w1 w2 : World} (hb : Below w1.heap.size w1 w2) (h : K_Pr A B n0 n1 n2 n3 d o1 o2 r0 r1 r2 r3 b1 b2 b3 b4 w w1) : K_Pr A B n0 n1 n2 n3 d o1 o2 r0 r1 r2 r3 b1 b2 b3 b4 w w2 := KL.below hb h
theorem K_Pr.draws {A B n0 n1 n2 n3 d o1 o2 r0 r1 r2 r3 : Int} {b1 b2 b3 b4 : Nat} {w w1 : World} (n : Nat) (h : K_Pr A B n0 n1 n2 n3 d o1 o2 r0 r1 r2 r3 b1 b2 b3 b4 w w1) : K_Pr A B n0 n1 n2 n3 d o1 o2 r0 r1 r2 r3 b1 b2 b3 b4 w (w1.drewN n) := KL.draws n h
theorem K_Pr.drew {A B n0 n1 n2 n3 d o1 o2 r0 r1 r2 r3 : Int} {b1 b2 b3 b4 : Nat} {w w1 : World} (h : K_Pr A B n0 n1 n2 n3 d o1 o2 r0 r1 r2 r3 b1 b2 b3 b4 w w1) : K_Pr A B n0 n1 n2 n3 d o1 o2 r0 r1 r2 r3 b1 b2 b3 b4 w w1.drew := KL.draws 1 h
theorem K_Pr.alloc {A B n0 n1 n2 n3 d o1 o2 r0 r1 r2 r3 : Int} {b1 b2 b3 b4 : Nat} {w w1 : World} (o : Obj) (h : K_Pr A B n0 n1 n2 n3 d o1 o2 r0 r1 r2 r3 b1 b2 b3 b4 w w1) : K_Pr A B n0 n1 n2 n3 d o1 o2 r0 r1 r2 r3 b1 b2 b3 b4 w (w1.alloc o) := KL.alloc o h
theorem K_Pr.set {A B n0 n1 n2 n3 d o1 o2 r0 r1 r2 r3 : Int} {b1 b2 b3 b4 : Nat} {w w1 : World} (h : K_Pr A B n0 n1 n2 n3 d o1 o2 r0 r1 r2 r3 b1 b2 b3 b4 w w1) (b i : Nat) (v : Value) (hb : b ≠ b4 ∧ b ≠ b3 ∧ b ≠ b1 ∧ b ≠ b2 ∧ w.heap.size ≤ b) : K_Pr A B n0 n1 n2 n3 d o1 o2 r0 r1 r2 r3 b1 b2 b3 b4 w (w1.setCell ⟨b, i, none⟩ v) :=
  KL.set h b i v (by intro x hx; simp only [List.mem_cons, List.not_mem_nil, or_false] at hx; rcases hx with rfl | rfl | rfl | rfl | rfl | rfl | rfl | rfl | rfl | rfl | rfl | rfl | rfl <;> simp only [] <;> omega) (by omega)
theorem K_Pr.bel {A B n0 n1 n2 n3 d o1 o2 r0 r1 r2 r3 : Int} {b1 b2 b3 b4 : Nat} {w w1 : World} (h : K_Pr A B n0 n1 n2 n3 d o1 o2 r0 r1 r2 r3 b1 b2 b3 b4 w w1) : Below w.heap.size w w1 := KL.bel h
theorem K_Pr.cells {A B n0 n1 n2 n3 d o1 o2 r0 r1 r2 r3 : Int} {b1 b2 b3 b4 : Nat} {w w' : World} (h : K_Pr A B n0 n1 n2 n3 d o1 o2 r0 r1 r2 r3 b1 b2 b3 b4 w w') : w'.cell? ⟨b4, 0, none⟩ = some (.int .i64 r0) ∧ w'.cell? ⟨b4, 1, none⟩ = some (.int .i64 r1) ∧ w'.cell? ⟨b4, 2, none⟩ = some (.int .i64 r2) ∧ w'.cell? ⟨b4, 3, none⟩ = some (.int .i64 r3) ∧ w'.cell? ⟨b3, 0, none⟩ = some (.int .i64 o1) ∧ w'.cell? ⟨b3, 1, none⟩ = some (.int .i64 o2) ∧ w'.cell? ⟨b1, 0, none⟩ = some (.int .i64 A) ∧ w'.cell? ⟨b1, 1, none⟩ = some (.int .i64 B) ∧ w'.cell? ⟨b2, 0, none⟩ = some (.int .i64 n0) ∧ w'.cell? ⟨b2, 1, none⟩ = some (.int .i64 n1) ∧ w'.cell? ⟨b2, 2, none⟩ = some (.int .i64 n2) ∧ w'.cell? ⟨b2, 3, none⟩ = some (.int .i64 n3) ∧ w'.cell? ⟨b2, 4, none⟩ = some (.int .i64 d) := ⟨h.c (b4, 0, .int .i64 r0) (by simp), h.c (b4, 1, .int .i64 r1) (by simp), h.c (b4, 2, .int .i64 r2) (by simp), h.c (b4, 3, .int .i64 r3) (by simp), h.c (b3, 0, .int .i64 o1) (by simp), h.c (b3, 1, .int .i64 o2) (by simp), h.c (b1, 0, .int .i64 A) (by simp), h.c (b1, 1, .int .i64 B) (by simp), h.c (b2, 0, .int .i64 n0) (by simp), h.c (b2, 1, .int .i64 n1) (by simp), h.c (b2, 2, .int .i64 n2) (by simp), h.c (b2, 3, .int .i64 n3) (by simp), h.c (b2, 4, .int .i64 d) (by simp)⟩
theorem K_Pr.zs {A B n0 n1 n2 n3 d o1 o2 r0 r1 r2 r3 : Int} {b1 b2 b3 b4 : Nat} {w w' : World} (h : K_Pr A B n0 n1 n2 n3 d o1 o2 r0 r1 r2 r3 b1 b2 b3 b4 w w') : b4 < w'.heap.size ∧ b3 < w'.heap.size ∧ b1 < w'.heap.size ∧ b2 < w'.heap.size ∧ True := ⟨KL.z h (x := (b4, 0, .int .i64 r0)) (by simp), KL.z h (x := (b3, 0, .int .i64 o1)) (by simp), KL.z h (x := (b1, 0, .int .i64 A)) (by simp), KL.z h (x := (b2, 0, .int .i64 n0)) (by simp), trivial⟩
theorem K_Pr.ks {A B n0 n1 n2 n3 d o1 o2 r0 r1 r2 r3 : Int} {b1 b2 b3 b4 : Nat} {w w' : World} (h : K_Pr A B n0 n1 n2 n3 d o1 o2 r0 r1 r2 r3 b1 b2 b3 b4 w w') : (w'.cell? ⟨b4, 0, none⟩ = some (.int .i64 r0) ∧ w'.cell? ⟨b4, 1, none⟩ = some (.int .i64 r1) ∧ w'.cell? ⟨b4, 2, none⟩ = some (.int .i64 r2) ∧ w'.cell? ⟨b4, 3, none⟩ = some (.int .i64 r3) ∧ w'.cell? ⟨b3, 0, none⟩ = some (.int .i64 o1) ∧ w'.cell? ⟨b3, 1, none⟩ = some (.int .i64 o2) ∧ w'.cell? ⟨b1, 0, none⟩ = some (.int .i64 A) ∧ w'.cell? ⟨b1, 1, none⟩ = some (.int .i64 B) ∧ w'.cell? ⟨b2, 0, none⟩ = some (.int .i64 n0) ∧ w'.cell? ⟨b2, 1, none⟩ = some (.int .i64 n1) ∧ w'.cell? ⟨b2, 2, none⟩ = some (.int .i64 n2) ∧ w'.cell? ⟨b2, 3, none⟩ = some (.int .i64 n3) ∧ w'.cell? ⟨b2, 4, none⟩ = some (.int .i64 d)) ∧ K_Pr A B n0 n1 n2 n3 d o1 o2 r0 r1 r2 r3 b1 b2 b3 b4 w w' := ⟨h.cells, h⟩
theorem KL.push4 {w0 : World} {cs : List (Nat × Nat × Value)} {fs : List (Nat × Nat)} {w : World} (h : KL w0 cs fs w) (a b c d : Int) (T : TypeId) (p : Nat) (hp : p = w.heap.size) : KL w0 ((p, 0, .int .i64 a) :: (p, 1, .int .i64 b) :: (p, 2, .int .i64 c) :: (p, 3, .int .i64 d) :: cs) fs (w.alloc (.cells #[.int .i64 a, .int .i64 b, .int .i64 c, .int .i64 d] T)) := by
  subst hp
  have h1 := h.alloc (.cells #[.int .i64 a, .int .i64 b, .int .i64 c, .int .i64 d] T)
  refine ⟨fun x hx => ?_, h1.g, h1.f, h1.bel⟩
  simp only [List.mem_cons] at hx
  rcases hx with rfl | rfl | rfl | rfl | hx
  · simp [go_sem]
  · simp [go_sem]
  · simp [go_sem]
  · simp [go_sem]
  · exact h1.c x hx
theorem KL.sub1 {w0 : World} {cs : List (Nat × Nat × Value)} {fs : List (Nat × Nat)} {w : World} (h : KL w0 cs fs w) : KL w0 [] [] w := ⟨by simp, by simp, by simp, h.bel⟩
end Go.Proofs.Ytgbnmnkgelklbaa.Al
