/-
  WALK: 'awake' of the laws on algebras returns true, and changes nothing that was there.
-/
import Derived.Test.YtgbnmnkgelklbaaDoorAlP
import Derived.Test.YtgbnmnkgelklbaaDoorAw2
import Derived.Test.YtgbnmnkgelklbaaDoorAw3
namespace Go.Proofs.YtgbnmnkgelklbaaDoor.Al
open Go.RowKit
open Alm
set_option linter.unusedVariables false
set_option linter.unusedSimpArgs false
set_option maxRecDepth 100000
theorem Power_ex (w : World) : Calls Tryd.prog 23 #[.agg #[.int .i64 (-1), .int .i64 (-1)], .agg #[.int .i64 1, .int .i64 1, .int .i64 1, .int .i64 1, .int .i64 2], .int .i64 3] w fun e w' => e = .returned (.tuple #[.agg #[.int .i64 (-1), .int .i64 0, .int .i64 0, .int .i64 0, .int .i64 1], .int .i64 0]) ∧ Below w.heap.size w w' := by
  have h := Power_nat (-1) (-1) 1 1 1 1 2 3 w (by decide) (by decide) (by decide)
  refine h.mono fun e w' ⟨he, hb⟩ => ⟨?_, hb⟩
  rw [he]
  unfold pwrQ pwrE
  rw [pwr_awake]
  rfl
set_option maxHeartbeats 3200000 in
theorem awake_any (w : World) : Calls Tryd.prog 6 #[] w fun e w' => e = .returned (.bool true) ∧ Below w.heap.size w w' := by
  have es : ((⟨#[40, 49, 32, 45, 32, 50, 105, 32, 43, 32, 107, 41, 47, 51]⟩ : ByteArray).toList == (⟨#[40, 49, 32, 45, 32, 50, 105, 32, 43, 32, 107, 41, 47, 51]⟩ : ByteArray).toList) = true := by kernel_rfl
  go_enter Tryd.func6, Tryd.ntmps6
  go_wp2_with fail
  refine (Power_ex _).mono ?_
  rintro e w1 ⟨rfl, hb⟩
  have HB := Lib.hid (below_up (B := w.heap.size) (w := w) hb (by (repeat (first | (with_reducible exact Below.refl _ _) | (with_reducible exact HB.out) | (with_reducible refine below_draws ?_ _) | (with_reducible refine Below.alloc ?_ (by go_size) _) | (with_reducible refine Below.setCell ?_ (by go_size) _) | (with_reducible refine Below.alloc ?_ (by simp <;> omega) _) | (with_reducible refine Below.setCell ?_ (by simp <;> omega) _)))) (by simp; omega))
  have z1 : w.heap.size ≤ w1.heap.size := HB.out.size
  clear hb
  go_wp2_with fail
  refine (Disc_ex _).mono ?_
  rintro e w2 ⟨rfl, hb⟩
  have hK : K_T (-1) 0 0 0 1 w1.heap.size w w2 := K_T.below hb ⟨by simp [go_sem], by simp, by simp, by (repeat (first | (with_reducible exact Below.refl _ _) | (with_reducible exact HB.out) | (with_reducible refine below_draws ?_ _) | (with_reducible refine Below.alloc ?_ (by go_size) _) | (with_reducible refine Below.setCell ?_ (by go_size) _) | (with_reducible refine Below.alloc ?_ (by simp <;> omega) _) | (with_reducible refine Below.setCell ?_ (by simp <;> omega) _)))⟩
  have HK := Lib.hid hK
  clear hb hK HB
  go_wp2_with fail
  refine (Format_ex _).mono ?_
  rintro e w3 ⟨rfl, hb⟩
  have hK := K_T.below hb HK.out
  obtain ⟨c0_, c1_, c2_, c3_, c4_⟩ := K_T.cells hK
  have HK2 := Lib.hid hK
  clear hb hK
  go_wp2
  go_ret
  exact ⟨rfl, K_T.bel HK2.out⟩
end Go.Proofs.YtgbnmnkgelklbaaDoor.Al
