/-
  WALK of the law IntegerSymbols: it returns true for all arguments.
-/
import Derived.Test.YtcbdnnboddahkaaSym
import Derived.Test.YtcbdnnboddahkaaAwake
namespace Go.Proofs.Ytcbdnnboddahkaa.integerSymbols
open Go.RowKit
set_option linter.unusedVariables false
set_option maxRecDepth 100000
set_option maxHeartbeats 2000000 in
theorem walk (a0 a1 a2 : Int) (h1 : -9223372036854775808 ≤ a0) (h2 : a0 ≤ 9223372036854775807) (w : World) :
    Calls Try.prog 11 #[.int .i64 a0, .int .i64 a1, .int .i64 a2] w fun e w' => e = .returned (.bool true) ∧ Below w.heap.size w w' := by
  go_enter Try.func11, Try.ntmps11
  go_wp2_with fail
  refine (vl56 a0 a1 w h1 h2).mono ?_
  rintro e w' ⟨⟨x1, l1, rfl, r1⟩, rfl⟩
  have R1 := Lib.hid r1; clear r1
  go_wp2_with fail
  refine (vl57 a0 a1 _ h1 h2).mono ?_
  rintro e w' ⟨⟨y1, m1, rfl, q1⟩, rfl⟩
  obtain ⟨rfl, rfl⟩ := R1.out.unique q1
  clear q1 R1
  go_wp2_with fail
  refine (lg58 a0 a1 _).mono ?_
  rintro e w' ⟨⟨x2, l2, rfl, r2⟩, rfl⟩
  have R2 := Lib.hid r2; clear r2
  go_wp2_with fail
  refine (lg59 a0 a1 _).mono ?_
  rintro e w' ⟨⟨y2, m2, rfl, q2⟩, rfl⟩
  obtain ⟨rfl, rfl⟩ := R2.out.unique q2
  clear q2 R2
  go_wp2_with fail
  refine (jc60 a0 a2 _).mono ?_
  rintro e w' ⟨⟨x3, l3, rfl, r3⟩, rfl⟩
  have R3 := Lib.hid r3; clear r3
  go_wp2_with fail
  refine (jc61 a0 a2 _).mono ?_
  rintro e w' ⟨⟨y3, m3, rfl, q3⟩, hbel⟩
  obtain ⟨rfl, rfl⟩ := R3.out.unique q3
  have HB := Lib.hid hbel
  clear q3 R3 hbel
  go_wp2_with (go_at_call 20; refine (awake_any _).mono ?_; rintro e w' ⟨rfl, hA⟩)
  go_ret
  exact ⟨rfl, HB.out.trans (hA.mono HB.out.size)⟩
end Go.Proofs.Ytcbdnnboddahkaa.integerSymbols
