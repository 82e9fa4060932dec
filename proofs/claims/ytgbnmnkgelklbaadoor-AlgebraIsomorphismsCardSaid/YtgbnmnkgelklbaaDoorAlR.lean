/-
  WALKS: the reference's products, conjugates and errors.
-/
import Derived.Test.YtgbnmnkgelklbaaDoorAlM
namespace Go.Proofs.YtgbnmnkgelklbaaDoor.Al
open Go.RowKit
open Alm
set_option linter.unusedVariables false
set_option linter.unusedSimpArgs false
set_option maxRecDepth 100000
theorem px' (B w x y z w' x' y' z' : Int) : w * x' + x * w' - B * y * z' + B * z * y' = px B w x y z w' x' y' z' := by unfold px; grind
theorem py' (A w x y z w' x' y' z' : Int) : w * y' + y * w' + A * x * z' - A * z * x' = py A w x y z w' x' y' z' := by unfold py; grind
set_option maxHeartbeats 4000000 in
theorem Product_any (A B n0 n1 n2 n3 d m0 m1 m2 m3 f : Int) (w : World) (hA : Bn 1000 A) (hB : Bn 1000 B) (h0 : Bn 1000000 n0) (h1 : Bn 1000000 n1) (h2 : Bn 1000000 n2) (h3 : Bn 1000000 n3) (hd : Bn 1000000 d) (k0 : Bn 1000000 m0) (k1 : Bn 1000000 m1) (k2 : Bn 1000000 m2) (k3 : Bn 1000000 m3) (hf : Bn 1000000 f) :
    Calls Tryd.prog 63 #[.agg #[.int .i64 A, .int .i64 B], .agg #[.int .i64 n0, .int .i64 n1, .int .i64 n2, .int .i64 n3, .int .i64 d], .agg #[.int .i64 m0, .int .i64 m1, .int .i64 m2, .int .i64 m3, .int .i64 f]] w fun e w' => e = .returned (.agg #[.int .i64 (pw A B n0 n1 n2 n3 m0 m1 m2 m3), .int .i64 (px B n0 n1 n2 n3 m0 m1 m2 m3), .int .i64 (py A n0 n1 n2 n3 m0 m1 m2 m3), .int .i64 (pz n0 n1 n2 n3 m0 m1 m2 m3), .int .i64 (d * f)]) ∧ Below w.heap.size w w' := by
  obtain ⟨a1, a1'⟩ := Bn.mul 1000000000000 h0 k0 rfl
  have t1 := Bn.mul 1000000000 hA h1 rfl
  obtain ⟨a2, a2'⟩ := id t1
  obtain ⟨a3, a3'⟩ := Bn.mul 1000000000000000 t1 k1 rfl
  obtain ⟨a3x, a3x'⟩ := Bn.mul 1000000000000000 t1 k3 rfl
  have t2 := Bn.mul 1000000000 hB h2 rfl
  obtain ⟨a4, a4'⟩ := id t2
  obtain ⟨a5, a5'⟩ := Bn.mul 1000000000000000 t2 k2 rfl
  obtain ⟨a5x, a5x'⟩ := Bn.mul 1000000000000000 t2 k3 rfl
  have t3 := Bn.mul 1000000 hA hB rfl
  obtain ⟨a6, a6'⟩ := id t3
  have t4 := Bn.mul 1000000000000 t3 h3 rfl
  obtain ⟨a7, a7'⟩ := id t4
  obtain ⟨a8, a8'⟩ := Bn.mul 1000000000000000000 t4 k3 rfl
  obtain ⟨b1, b1'⟩ := Bn.mul 1000000000000 h0 k1 rfl
  obtain ⟨b2, b2'⟩ := Bn.mul 1000000000000 h1 k0 rfl
  have t5 := Bn.mul 1000000000 hB h3 rfl
  obtain ⟨b3, b3'⟩ := id t5
  obtain ⟨b4, b4'⟩ := Bn.mul 1000000000000000 t5 k2 rfl
  obtain ⟨c1, c1'⟩ := Bn.mul 1000000000000 h0 k2 rfl
  obtain ⟨c2, c2'⟩ := Bn.mul 1000000000000 h2 k0 rfl
  have t6 := Bn.mul 1000000000 hA h3 rfl
  obtain ⟨c3, c3'⟩ := id t6
  obtain ⟨c4, c4'⟩ := Bn.mul 1000000000000000 t6 k1 rfl
  obtain ⟨d1, d1'⟩ := Bn.mul 1000000000000 h0 k3 rfl
  obtain ⟨d2, d2'⟩ := Bn.mul 1000000000000 h3 k0 rfl
  obtain ⟨d3, d3'⟩ := Bn.mul 1000000000000 h1 k2 rfl
  obtain ⟨d4, d4'⟩ := Bn.mul 1000000000000 h2 k1 rfl
  obtain ⟨f1, f1'⟩ := Bn.mul 1000000000000 hd hf rfl
  clear t1 t2 t3 t4 t5 t6 hA hB h0 h1 h2 h3 k0 k1 k2 k3 hd hf
  go_enter Tryd.func63, Tryd.ntmps63
  go_wp2
  exact bodyPost_ret (v := .agg #[.int .i64 (n0 * m0 + A * n1 * m1 + B * n2 * m2 - A * B * n3 * m3), .int .i64 (n0 * m1 + n1 * m0 - B * n2 * m3 + B * n3 * m2), .int .i64 (n0 * m2 + n2 * m0 + A * n1 * m3 - A * n3 * m1), .int .i64 (n0 * m3 + n3 * m0 + n1 * m2 - n2 * m1), .int .i64 (d * f)]) (by simp [results, Tryd.results63, go_sem]) rfl ⟨by rw [px', py']; rfl, by go_grown⟩
end Go.Proofs.YtgbnmnkgelklbaaDoor.Al
