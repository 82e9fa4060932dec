/-
  WALKS: the example, small elements.
-/
import Derived.Test.YtgbnmnkgelklbaaTm0
import Derived.Test.YtgbnmnkgelklbaaAlU
namespace Go.Proofs.Ytgbnmnkgelklbaa.Tm
open Go.RowKit
open Nt (Pr)
open Al
open Rm
set_option linter.unusedVariables false
set_option linter.unusedSimpArgs false
set_option maxRecDepth 100000
set_option maxHeartbeats 3200000 in
theorem ramifies_any (w : World) : Calls Try.prog 6 #[] w fun e w' => e = .returned (.bool true) ∧ Below w.heap.size w w' := by
  have RE := Lib.hid (fun W => Ramified_ok (-1) 3 W (by decide))
  have RE2 : Hid (∀ W : World, Calls Try.prog 8 #[.agg #[.int .i64 (-1), .int .i64 3]] W fun e w' => ∃ (Aa : Option Addr) (c : Nat), e = .returned (.tuple #[.slice Aa 2 c, .bool false, .int .i64 0]) ∧ LN W.heap.size w' Aa c [2, 3] ∧ c ≤ 9223372036854775807 ∧ 2 ≤ c ∧ Below W.heap.size W w') := Lib.hid fun W => (RE.out W).mono fun e w' ⟨v, he, hown, hbel⟩ => by
    rw [RL_ex] at hown
    obtain ⟨Aa, c, rfl, hLN, hc, hlc⟩ := LN.of hown
    exact ⟨Aa, c, by rw [he]; rfl, hLN, hc, hlc, hbel⟩
  have H3 : Hid (∀ W : World, Calls Try.prog 9 #[.int .i64 (-1), .int .i64 3, .int .i64 3] W fun e w' => e = .returned (.tuple #[.int .i64 (-1), .int .i64 0]) ∧ W = w') := Lib.hid fun W => (hil63 (-1) 3 3 W).mono fun e w' ⟨⟨x, l, he, hr⟩, hw⟩ => by
    obtain ⟨rfl, rfl⟩ := hr.unique res3
    exact ⟨he, hw⟩
  clear RE
  go_enter Try.func6, Try.ntmps6
  go_wp2_with fail
  refine (RE2.out _).mono ?_
  rintro e w2 ⟨Aa, c, rfl, hLN, hc, hlc, hb⟩
  have HB := Lib.hid hb
  have HL := Lib.hid hLN
  clear hb hLN
  go_wp2_with fail
  refine (H3.out _).mono ?_
  rintro e w3 ⟨rfl, rfl⟩
  have hlit : LN w2.heap.size (w2.alloc (.cells #[.int .i64 2, .int .i64 3] 3)) (some ⟨w2.heap.size, 0, none⟩) 2 [2, 3] := World.ownsRow_lit (base := w2.heap.size) (size := 1) (e := 3) w2 #[Value.int IntKind.i64 2, Value.int IntKind.i64 3] 2 (Nat.le_refl _) (by unfold maxLen; omega) rfl
  have hb2 : Below w2.heap.size w2 (w2.alloc (.cells #[.int .i64 2, .int .i64 3] 3)) := (Below.refl _ _).alloc (Nat.le_refl _) _
  have IS := Lib.hid (Ints_same [2, 3] _ _ Aa _ c 2 _ (LN.below HL.out hb2 (LN.lt HL.out)) hlit (by decide) hlc (by decide) hc (by decide))
  have HB2 := Lib.hid (HB.out.trans (hb2.mono HB.out.size))
  clear hlit hb2
  go_wp2_with fail
  refine IS.out.mono ?_
  rintro e w4 ⟨rfl, hb⟩
  have HB3 := Lib.hid (HB2.out.trans (hb.mono HB2.out.size))
  clear hb
  go_wp2
  go_ret
  exact ⟨by simp, HB3.out⟩
def tnyB (n0 n1 n2 n3 d : Int) : Bool := Al.withinB n0 (-3) 3 && (Al.withinB n1 (-3) 3 && (Al.withinB n2 (-3) 3 && (Al.withinB n3 (-3) 3 && Al.withinB d 1 3)))
theorem five (a b c d e : Bool) : a = false ∨ a = true ∧ (b = false ∨ b = true ∧ (c = false ∨ c = true ∧ (d = false ∨ d = true))) := by
  cases a <;> cases b <;> cases c <;> cases d <;> simp
set_option maxHeartbeats 3200000 in
theorem tiny_any (n0 n1 n2 n3 d : Int) (w : World) : Calls Try.prog 15 #[.agg #[.int .i64 n0, .int .i64 n1, .int .i64 n2, .int .i64 n3, .int .i64 d]] w fun e w' => e = .returned (.bool (tnyB n0 n1 n2 n3 d)) ∧ Below w.heap.size w w' := by
  unfold tnyB
  rcases five (Al.withinB n0 (-3) 3) (Al.withinB n1 (-3) 3) (Al.withinB n2 (-3) 3) (Al.withinB n3 (-3) 3) (Al.withinB d 1 3) with e1 | ⟨e1, e2 | ⟨e2, e3 | ⟨e3, e4 | e4⟩⟩⟩
  all_goals
    go_enter Try.func15, Try.ntmps15
    go_wp2_with (go_at_call 23; refine (Within_any _ _ _ _).mono ?_; rintro e w' ⟨rfl, rfl⟩)
    go_ret
    exact ⟨by simp [*], by (repeat (first | (with_reducible exact Below.refl _ _) | (with_reducible exact HB.out) | (with_reducible refine below_draws ?_ _) | (with_reducible refine Below.alloc ?_ (by go_size) _) | (with_reducible refine Below.setCell ?_ (by go_size) _) | (with_reducible refine Below.alloc ?_ (by simp <;> omega) _) | (with_reducible refine Below.setCell ?_ (by simp <;> omega) _)))⟩
end Go.Proofs.Ytgbnmnkgelklbaa.Tm
