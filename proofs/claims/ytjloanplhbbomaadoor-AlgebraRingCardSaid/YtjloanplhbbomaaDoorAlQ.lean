/-
  Orders of a region that make a box, brought together again.
-/
import Derived.Test.YtjloanplhbbomaaDoorAlK
import Derived.Test.YtjloanplhbbomaaDoorAlX
namespace Go.Proofs.YtjloanplhbbomaaDoor.Al
open Go.RowKit
open Alm
set_option linter.unusedVariables false
set_option linter.unusedSimpArgs false
set_option maxRecDepth 100000
theorem merge_rest {Goal : Prop} {K : Nat → World → Prop} (G : Nat → World → Prop) (main : Hid (∀ p w, K p w → G p w) → Goal) (rest : ∀ p w, K p w → G p w) : Goal := main (Lib.hid rest)
theorem KL.cons5f {w0 : World} {cs : List (Nat × Nat × Value)} {fs : List (Nat × Nat)} {w : World} (h : KL w0 cs fs w) (p : Nat) (a b c d e : Int) (h0 : w.cell? ⟨p, 0, none⟩ = some (.int .i64 a)) (h1 : w.cell? ⟨p, 1, none⟩ = some (.int .i64 b)) (h2 : w.cell? ⟨p, 2, none⟩ = some (.int .i64 c)) (h3 : w.cell? ⟨p, 3, none⟩ = some (.int .i64 d)) (h4 : w.cell? ⟨p, 4, none⟩ = some (.int .i64 e)) : KL w0 ((p, 0, .int .i64 a) :: (p, 1, .int .i64 b) :: (p, 2, .int .i64 c) :: (p, 3, .int .i64 d) :: (p, 4, .int .i64 e) :: cs) fs w := by
  refine ⟨fun x hx => ?_, h.g, h.f, h.bel⟩
  simp only [List.mem_cons] at hx
  rcases hx with rfl | rfl | rfl | rfl | rfl | hx
  · exact h0
  · exact h1
  · exact h2
  · exact h3
  · exact h4
  · exact h.c x hx
/-- what a walk keeps: cells, and that nothing that was there has turned -/
def K_Zr (a0 a1 a2 a3 a4 : Int) (nb : Nat) (w w' : World) : Prop := KL w [(nb, 0, .int .i64 a0), (nb, 1, .int .i64 a1), (nb, 2, .int .i64 a2), (nb, 3, .int .i64 a3), (nb, 4, .int .i64 a4)] [(nb, 0), (nb, 1), (nb, 2), (nb, 3), (nb, 4)] w'
theorem K_Zr.below {a0 a1 a2 a3 a4 : Int} {nb : Nat} {w w1 w2 : World} (hb : Below w1.heap.size w1 w2) (h : K_Zr a0 a1 a2 a3 a4 nb w w1) : K_Zr a0 a1 a2 a3 a4 nb w w2 := KL.below hb h
theorem K_Zr.draws {a0 a1 a2 a3 a4 : Int} {nb : Nat} {w w1 : World} (n : Nat) (h : K_Zr a0 a1 a2 a3 a4 nb w w1) : K_Zr a0 a1 a2 a3 a4 nb w (w1.drewN n) := KL.draws n h
theorem K_Zr.drew {a0 a1 a2 a3 a4 : Int} {nb : Nat} {w w1 : World} (h : K_Zr a0 a1 a2 a3 a4 nb w w1) : K_Zr a0 a1 a2 a3 a4 nb w w1.drew := KL.draws 1 h
theorem K_Zr.alloc {a0 a1 a2 a3 a4 : Int} {nb : Nat} {w w1 : World} (o : Obj) (h : K_Zr a0 a1 a2 a3 a4 nb w w1) : K_Zr a0 a1 a2 a3 a4 nb w (w1.alloc o) := KL.alloc o h
theorem K_Zr.set {a0 a1 a2 a3 a4 : Int} {nb : Nat} {w w1 : World} (h : K_Zr a0 a1 a2 a3 a4 nb w w1) (b i : Nat) (v : Value) (hb : b ≠ nb ∧ w.heap.size ≤ b) : K_Zr a0 a1 a2 a3 a4 nb w (w1.setCell ⟨b, i, none⟩ v) :=
  KL.set h b i v (by intro x hx; simp only [List.mem_cons, List.not_mem_nil, or_false] at hx; rcases hx with rfl | rfl | rfl | rfl | rfl <;> simp only [] <;> omega) (by omega)
theorem K_Zr.bel {a0 a1 a2 a3 a4 : Int} {nb : Nat} {w w1 : World} (h : K_Zr a0 a1 a2 a3 a4 nb w w1) : Below w.heap.size w w1 := KL.bel h
theorem K_Zr.cells {a0 a1 a2 a3 a4 : Int} {nb : Nat} {w w' : World} (h : K_Zr a0 a1 a2 a3 a4 nb w w') : w'.cell? ⟨nb, 0, none⟩ = some (.int .i64 a0) ∧ w'.cell? ⟨nb, 1, none⟩ = some (.int .i64 a1) ∧ w'.cell? ⟨nb, 2, none⟩ = some (.int .i64 a2) ∧ w'.cell? ⟨nb, 3, none⟩ = some (.int .i64 a3) ∧ w'.cell? ⟨nb, 4, none⟩ = some (.int .i64 a4) ∧ w'.frozen? ⟨nb, 0, none⟩ = false ∧ w'.frozen? ⟨nb, 1, none⟩ = false ∧ w'.frozen? ⟨nb, 2, none⟩ = false ∧ w'.frozen? ⟨nb, 3, none⟩ = false ∧ w'.frozen? ⟨nb, 4, none⟩ = false := ⟨h.c (nb, 0, .int .i64 a0) (by simp), h.c (nb, 1, .int .i64 a1) (by simp), h.c (nb, 2, .int .i64 a2) (by simp), h.c (nb, 3, .int .i64 a3) (by simp), h.c (nb, 4, .int .i64 a4) (by simp), h.f (nb, 0) (by simp), h.f (nb, 1) (by simp), h.f (nb, 2) (by simp), h.f (nb, 3) (by simp), h.f (nb, 4) (by simp)⟩
theorem K_Zr.zs {a0 a1 a2 a3 a4 : Int} {nb : Nat} {w w' : World} (h : K_Zr a0 a1 a2 a3 a4 nb w w') : nb < w'.heap.size ∧ True := ⟨KL.z h (x := (nb, 0, .int .i64 a0)) (by simp), trivial⟩
theorem K_Zr.ks {a0 a1 a2 a3 a4 : Int} {nb : Nat} {w w' : World} (h : K_Zr a0 a1 a2 a3 a4 nb w w') : (w'.cell? ⟨nb, 0, none⟩ = some (.int .i64 a0) ∧ w'.cell? ⟨nb, 1, none⟩ = some (.int .i64 a1) ∧ w'.cell? ⟨nb, 2, none⟩ = some (.int .i64 a2) ∧ w'.cell? ⟨nb, 3, none⟩ = some (.int .i64 a3) ∧ w'.cell? ⟨nb, 4, none⟩ = some (.int .i64 a4) ∧ w'.frozen? ⟨nb, 0, none⟩ = false ∧ w'.frozen? ⟨nb, 1, none⟩ = false ∧ w'.frozen? ⟨nb, 2, none⟩ = false ∧ w'.frozen? ⟨nb, 3, none⟩ = false ∧ w'.frozen? ⟨nb, 4, none⟩ = false) ∧ K_Zr a0 a1 a2 a3 a4 nb w w' := ⟨h.cells, h⟩
end Go.Proofs.YtjloanplhbbomaaDoor.Al
