/-
  WALKS: products of numerators.
-/
import Derived.Test.YteiflfmpkfhkoaaAl5
namespace Go.Proofs.Yteiflfmpkfhkoaa.Al
open Go.RowKit
open Alm
set_option linter.unusedVariables false
set_option linter.unusedSimpArgs false
set_option maxRecDepth 100000
/-- numbers of at most n -/
abbrev Bn (n : Nat) (a : Int) : Prop := -(n : Int) ≤ a ∧ a ≤ n
theorem Bn.mul {m n : Nat} {a b : Int} (k : Nat) (h : Bn m a) (h' : Bn n b) (hk : m * n = k) : Bn k (a * b) := by
  subst hk; exact mb m n h h'
theorem mul_bds {A B n0 n1 n2 n3 m0 m1 m2 m3 : Int} (hA : Bn 1000 A) (hB : Bn 1000 B) (h0 : Bn 1000000 n0) (h1 : Bn 1000000 n1) (h2 : Bn 1000000 n2) (h3 : Bn 1000000 n3) (k0 : Bn 1000000 m0) (k1 : Bn 1000000 m1) (k2 : Bn 1000000 m2) (k3 : Bn 1000000 m3) :
    Bn 1002001000000000000 (pw A B n0 n1 n2 n3 m0 m1 m2 m3) ∧ Bn 2002000000000000 (px B n0 n1 n2 n3 m0 m1 m2 m3) ∧ Bn 2002000000000000 (py A n0 n1 n2 n3 m0 m1 m2 m3) ∧ Bn 4000000000000 (pz n0 n1 n2 n3 m0 m1 m2 m3) := by
  have a1 := Bn.mul 1000000000000 h0 k0 rfl
  have a3 := Bn.mul 1000000000000000 (Bn.mul 1000000000 hA h1 rfl) k1 rfl
  have a5 := Bn.mul 1000000000000000 (Bn.mul 1000000000 hB h2 rfl) k2 rfl
  have a8 := Bn.mul 1000000000000000000 (Bn.mul 1000000000000 (Bn.mul 1000000 hA hB rfl) h3 rfl) k3 rfl
  have b1 := Bn.mul 1000000000000 h0 k1 rfl
  have b2 := Bn.mul 1000000000000 h1 k0 rfl
  have b3 := Bn.mul 1000000000000 h3 k2 rfl
  have b4 := Bn.mul 1000000000000 h2 k3 rfl
  have t5 : Bn 2000000000000 (n3 * m2 - n2 * m3) := ⟨by omega, by omega⟩
  have b5 := Bn.mul 2000000000000000 hB t5 rfl
  have c1 := Bn.mul 1000000000000 h0 k2 rfl
  have c2 := Bn.mul 1000000000000 h2 k0 rfl
  have c3 := Bn.mul 1000000000000 h1 k3 rfl
  have c4 := Bn.mul 1000000000000 h3 k1 rfl
  have t6 : Bn 2000000000000 (n1 * m3 - n3 * m1) := ⟨by omega, by omega⟩
  have c5 := Bn.mul 2000000000000000 hA t6 rfl
  have d1 := Bn.mul 1000000000000 h0 k3 rfl
  have d2 := Bn.mul 1000000000000 h3 k0 rfl
  have d3 := Bn.mul 1000000000000 h1 k2 rfl
  have d4 := Bn.mul 1000000000000 h2 k1 rfl
  unfold pw px py pz Bn
  omega
end Go.Proofs.Yteiflfmpkfhkoaa.Al
