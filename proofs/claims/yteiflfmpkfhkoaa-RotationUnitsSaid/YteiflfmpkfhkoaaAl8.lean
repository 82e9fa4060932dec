/-
  WALKS: what fits; equality with the reference; conjugates.
-/
import Derived.Test.YteiflfmpkfhkoaaAl6
import Derived.Test.YteiflfmpkfhkoaaAl7
namespace Go.Proofs.Yteiflfmpkfhkoaa.Al
open Go.RowKit
open Alm
set_option linter.unusedVariables false
set_option linter.unusedSimpArgs false
set_option maxRecDepth 100000
/-- what a walk keeps: cells, and that nothing that was there has turned -/
def K_F (B R : Nat) (w w' : World) : Prop := KL w [] [(B, 0), (B, 1), (B, 2), (B, 3), (B, 4), (R, 0), (R, 1), (R, 2), (R, 3), (R, 4)] w'
theorem K_F.below {B R : Nat} {w w1 w2 : World} (hb : Below w1.heap.size w1 w2) (h : K_F B R w w1) : K_F B R w w2 := KL.below hb h
theorem K_F.draws {B R : Nat} {w w1 : World} (n : Nat) (h : K_F B R w w1) : K_F B R w (w1.drewN n) := KL.draws n h
theorem K_F.drew {B R : Nat} {w w1 : World} (h : K_F B R w w1) : K_F B R w w1.drew := KL.draws 1 h
theorem K_F.alloc {B R : Nat} {w w1 : World} (o : Obj) (h : K_F B R w w1) : K_F B R w (w1.alloc o) := KL.alloc o h
theorem K_F.set {B R : Nat} {w w1 : World} (h : K_F B R w w1) (b i : Nat) (v : Value) (hb : w.heap.size ≤ b) : K_F B R w (w1.setCell ⟨b, i, none⟩ v) :=
  KL.set h b i v (by intro x hx; simp at hx) (by omega)
theorem K_F.bel {B R : Nat} {w w1 : World} (h : K_F B R w w1) : Below w.heap.size w w1 := KL.bel h
theorem K_F.cells {B R : Nat} {w w' : World} (h : K_F B R w w') : w'.cell? ⟨B, 0, none⟩ = some (cv w' B 0) ∧ w'.frozen? ⟨B, 0, none⟩ = false ∧ w'.cell? ⟨B, 1, none⟩ = some (cv w' B 1) ∧ w'.frozen? ⟨B, 1, none⟩ = false ∧ w'.cell? ⟨B, 2, none⟩ = some (cv w' B 2) ∧ w'.frozen? ⟨B, 2, none⟩ = false ∧ w'.cell? ⟨B, 3, none⟩ = some (cv w' B 3) ∧ w'.frozen? ⟨B, 3, none⟩ = false ∧ w'.cell? ⟨B, 4, none⟩ = some (cv w' B 4) ∧ w'.frozen? ⟨B, 4, none⟩ = false ∧ w'.cell? ⟨R, 0, none⟩ = some (cv w' R 0) ∧ w'.frozen? ⟨R, 0, none⟩ = false ∧ w'.cell? ⟨R, 1, none⟩ = some (cv w' R 1) ∧ w'.frozen? ⟨R, 1, none⟩ = false ∧ w'.cell? ⟨R, 2, none⟩ = some (cv w' R 2) ∧ w'.frozen? ⟨R, 2, none⟩ = false ∧ w'.cell? ⟨R, 3, none⟩ = some (cv w' R 3) ∧ w'.frozen? ⟨R, 3, none⟩ = false ∧ w'.cell? ⟨R, 4, none⟩ = some (cv w' R 4) ∧ w'.frozen? ⟨R, 4, none⟩ = false := ⟨h.d (B, 0) (by simp), h.f (B, 0) (by simp), h.d (B, 1) (by simp), h.f (B, 1) (by simp), h.d (B, 2) (by simp), h.f (B, 2) (by simp), h.d (B, 3) (by simp), h.f (B, 3) (by simp), h.d (B, 4) (by simp), h.f (B, 4) (by simp), h.d (R, 0) (by simp), h.f (R, 0) (by simp), h.d (R, 1) (by simp), h.f (R, 1) (by simp), h.d (R, 2) (by simp), h.f (R, 2) (by simp), h.d (R, 3) (by simp), h.f (R, 3) (by simp), h.d (R, 4) (by simp), h.f (R, 4) (by simp)⟩
theorem K_F.zs {B R : Nat} {w w' : World} (h : K_F B R w w') : B < w'.heap.size ∧ R < w'.heap.size ∧ True := ⟨KL.zf h (x := (B, 0)) (by simp), KL.zf h (x := (R, 0)) (by simp), trivial⟩
theorem K_F.ks {B R : Nat} {w w' : World} (h : K_F B R w w') : (w'.cell? ⟨B, 0, none⟩ = some (cv w' B 0) ∧ w'.frozen? ⟨B, 0, none⟩ = false ∧ w'.cell? ⟨B, 1, none⟩ = some (cv w' B 1) ∧ w'.frozen? ⟨B, 1, none⟩ = false ∧ w'.cell? ⟨B, 2, none⟩ = some (cv w' B 2) ∧ w'.frozen? ⟨B, 2, none⟩ = false ∧ w'.cell? ⟨B, 3, none⟩ = some (cv w' B 3) ∧ w'.frozen? ⟨B, 3, none⟩ = false ∧ w'.cell? ⟨B, 4, none⟩ = some (cv w' B 4) ∧ w'.frozen? ⟨B, 4, none⟩ = false ∧ w'.cell? ⟨R, 0, none⟩ = some (cv w' R 0) ∧ w'.frozen? ⟨R, 0, none⟩ = false ∧ w'.cell? ⟨R, 1, none⟩ = some (cv w' R 1) ∧ w'.frozen? ⟨R, 1, none⟩ = false ∧ w'.cell? ⟨R, 2, none⟩ = some (cv w' R 2) ∧ w'.frozen? ⟨R, 2, none⟩ = false ∧ w'.cell? ⟨R, 3, none⟩ = some (cv w' R 3) ∧ w'.frozen? ⟨R, 3, none⟩ = false ∧ w'.cell? ⟨R, 4, none⟩ = some (cv w' R 4) ∧ w'.frozen? ⟨R, 4, none⟩ = false) ∧ K_F B R w w' := ⟨h.cells, h⟩
end Go.Proofs.Yteiflfmpkfhkoaa.Al
