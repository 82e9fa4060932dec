/-
  Arrays of four numbers, compared.
-/
import Derived.Test.YtgbnmnkgelklbaaAlW
import Derived.DeepKeys
namespace Go.Proofs.Ytgbnmnkgelklbaa.Al
open Go.RowKit
open Alm
set_option linter.unusedVariables false
set_option linter.unusedSimpArgs false
set_option maxRecDepth 100000
theorem Try.eq4 (a b c d x y z t : Int) (w : World) : (Op.equalIn 10000 73 (.agg #[.int .i64 a, .int .i64 b, .int .i64 c, .int .i64 d]) (.agg #[.int .i64 x, .int .i64 y, .int .i64 z, .int .i64 t])).run Try.prog w = .ok (a == x && (b == y && (c == z && d == t))) w := by
  have hu : Try.prog.underlying 73 = some (.array 4 3) := by kernel_rfl
  have h3 : Try.prog.underlying 3 = some (.int .i64) := by kernel_rfl
  obtain ⟨i, hin⟩ := info_of_underlying h3
  have hc : Try.prog.cellsOf 3 = 1 := by kernel_rfl
  have hi : ∀ (p q : Int) (w : World), (Op.equalIn 9999 3 (.int .i64 p) (.int .i64 q)).run Try.prog w = .ok (p == q) w := fun p q w => run_equalIn_int w 9998 3 .i64 .i64 p q h3
  have p0 : ∀ (a b c d : Value) (w : World), (part 3 #[a, b, c, d] 0).run Try.prog w = .ok a w := fun a b c d w => by kernel_rfl
  have p1 : ∀ (a b c d : Value) (w : World), (part 3 #[a, b, c, d] 1).run Try.prog w = .ok b w := fun a b c d w => by kernel_rfl
  have p2 : ∀ (a b c d : Value) (w : World), (part 3 #[a, b, c, d] 2).run Try.prog w = .ok c w := fun a b c d w => by kernel_rfl
  have p3 : ∀ (a b c d : Value) (w : World), (part 3 #[a, b, c, d] 3).run Try.prog w = .ok d w := fun a b c d w => by kernel_rfl
  have e := run_equalIn_array w 9999 #[.int .i64 a, .int .i64 b, .int .i64 c, .int .i64 d] #[.int .i64 x, .int .i64 y, .int .i64 z, .int .i64 t] hu hin
  rw [show List.range 4 = [0, 1, 2, 3] from rfl, hc] at e
  refine Eq.trans e ?_
  simp only [Op.eqItems, Sem.run_bind, Result.andThen_ok, Nat.zero_mul, Nat.one_mul, Nat.mul_one, p0, p1, p2, p3, hi]
  by_cases g0 : a = x <;> by_cases g1 : b = y <;> by_cases g2 : c = z <;> by_cases g3 : d = t <;> simp [p0, p1, p2, p3, hi, g0, g1, g2, g3]
end Go.Proofs.Ytgbnmnkgelklbaa.Al
