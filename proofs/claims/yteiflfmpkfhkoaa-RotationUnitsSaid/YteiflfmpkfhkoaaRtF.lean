/-
  WALKS: square roots by floating point, at small numbers.
-/
import Derived.Test.YteiflfmpkfhkoaaRt1
import Derived.Laws.Externs
import Derived.Laws.FloatArith
import Derived.Laws.Cover2
namespace Go.Proofs.Yteiflfmpkfhkoaa.Rt
open Go.RowKit
open Alm Hwm Al
set_option linter.unusedVariables false
set_option linter.unusedSimpArgs false
set_option maxRecDepth 100000
/-- the greatest number whose square is at most n (n below 225) -/
def isq (n : Nat) : Nat := ((List.range 14).filter fun r => decide ((r + 1) * (r + 1) ≤ n)).length
def rootB (n : Nat) : Bool := match FloatKind.f64.format.sqrt (floatOfInt .f64 n) with
  | some r => floatToIntVal .f64 r .i64 == some (isq n : Int)
  | none => false
theorem root_tab : ((List.range 201).all rootB) = true := by decide +kernel
theorem isq_tab : ((List.range 201).all fun n => decide (isq n * isq n ≤ n ∧ n < (isq n + 1) * (isq n + 1) ∧ isq n ≤ 14)) = true := by decide +kernel
theorem isq_ok {n : Nat} (hn : n ≤ 200) : isq n * isq n ≤ n ∧ n < (isq n + 1) * (isq n + 1) ∧ isq n ≤ 14 := of_decide_eq_true (List.all_eq_true.1 isq_tab n (List.mem_range.2 (by omega)))
theorem root_ok {n : Nat} (hn : n ≤ 200) : ∃ r, FloatKind.f64.format.sqrt (floatOfInt .f64 n) = some r ∧ floatToIntVal .f64 r .i64 = some (isq n : Int) := by
  have h := List.all_eq_true.1 root_tab n (List.mem_range.2 (by omega))
  unfold rootB at h
  split at h
  · rename_i r hr; exact ⟨r, hr, by simpa using h⟩
  · cases h
theorem sqrt_call (x r : Nat) (h : FloatKind.f64.format.sqrt x = some r) (w : World) : (callFunc 146 #[.float .f64 x]).run Try.prog w = .ok (.value (.float .f64 r)) w := by
  rw [run_callFunc_extern Try.func146 (by kernel_rfl) (by kernel_rfl) (by kernel_rfl) (e := Extern.MathSqrt.sqrt) (by kernel_rfl)]
  have e : Extern.MathSqrt.sqrt #[.float .f64 x] = (match FloatKind.f64.format.sqrt x with | some r => pure (.float .f64 r) | none => do pure (.float .f64 (← choose (.nanBits .f64 x x)))) := rfl
  rw [e, h]
  rfl
theorem Sqrt_any (x r : Nat) (h : FloatKind.f64.format.sqrt x = some r) (w : World) :
    Calls Try.prog 142 #[.float .f64 x] w fun e w' => e = .returned (.float .f64 r) ∧ w = w' := by
  have sc := sqrt_call x r h
  clear h
  go_enter Try.func142, Try.ntmps142
  go_wp2
  go_ret
  exact ⟨rfl, rfl⟩
theorem root_any (n : Nat) (w : World) (hn : n ≤ 200) :
    Calls Try.prog 131 #[.int .i64 n] w fun e w' => e = .returned (.int .i64 (isq n)) ∧ w = w' := by
  obtain ⟨r, h1, h2⟩ := root_ok hn
  have SQ := Lib.hid (fun W => Sqrt_any _ r h1 W)
  have cv := fun w => run_convert_float_int (P := Try.prog) w 163 3 .f64 .i64 r (isq n) (by kernel_rfl) (by kernel_rfl) h2
  clear h1 h2 hn
  go_enter Try.func131, Try.ntmps131
  go_wp2_with fail
  refine (SQ.out _).mono ?_
  rintro e w1 ⟨rfl, rfl⟩
  go_wp2
  go_ret
  exact ⟨rfl, rfl⟩
end Go.Proofs.Yteiflfmpkfhkoaa.Rt
