/-
  WALKS: Bezout of both packages against one relation.
-/
import Derived.Test.YtcbdnnboddahkaaInv
namespace Go.Proofs.Ytcbdnnboddahkaa
open Go.RowKit
set_option linter.unusedVariables false
set_option maxRecDepth 100000

def inB (a : Int) : Bool := withinB a (-1000000000) 1000000000
/-- what Bezout hands back -/
def BzRes (a b g x y f : Int) : Prop :=
  ((inB a && inB b) = false ∧ g = 0 ∧ x = 0 ∧ y = 0 ∧ f = 2) ∨
  ((inB a && inB b) = true ∧ a = 0 ∧ b = 0 ∧ g = 0 ∧ x = 0 ∧ y = 0 ∧ f = 10) ∨
  ((inB a && inB b) = true ∧ a ≠ 0 ∧ b = 0 ∧ g = (a.natAbs : Int) ∧ x = (if a < 0 then -1 else 1) ∧ y = 0 ∧ f = 0) ∨
  ((inB a && inB b) = true ∧ b ≠ 0 ∧ g = Int.gcd a b ∧ BzX a b x ∧ y = ((Int.gcd a b : Int) - a * x).tdiv b ∧ f = 0)
theorem BzRes.unique {a b g x y f g' x' y' f' : Int} (h : BzRes a b g x y f) (h' : BzRes a b g' x' y' f') : g = g' ∧ x = x' ∧ y = y' ∧ f = f' := by
  rcases h with ⟨a1, rfl, rfl, rfl, rfl⟩ | ⟨a1, a2, a3, rfl, rfl, rfl, rfl⟩ | ⟨a1, a2, a3, rfl, rfl, rfl, rfl⟩ | ⟨a1, a2, rfl, a3, rfl, rfl⟩ <;> rcases h' with ⟨b1, rfl, rfl, rfl, rfl⟩ | ⟨b1, b2, b3, rfl, rfl, rfl, rfl⟩ | ⟨b1, b2, b3, rfl, rfl, rfl, rfl⟩ | ⟨b1, b2, rfl, b3, rfl, rfl⟩
  all_goals first
    | (exact ⟨rfl, rfl, rfl, rfl⟩)
    | (rw [a1] at b1; cases b1; done)
    | (exact absurd a2 b2)
    | (exact absurd b2 a2)
    | (exact absurd a3 b2)
    | (exact absurd b3 a2)
    | (obtain rfl := a3.unique a2 b3; exact ⟨rfl, rfl, rfl, rfl⟩)
def BzEnd (a b : Int) (e : Ending) : Prop := ∃ g x y f : Int, e = .returned (.tuple #[.int .i64 g, .int .i64 x, .int .i64 y, .int .i64 f]) ∧ BzRes a b g x y f

set_option maxHeartbeats 400000 in
theorem bez_bad1 (a b : Int) (w : World) (h : inB a = false) : Calls Try.prog 46 #[.int .i64 a, .int .i64 b] w fun e w' => e = .returned (.tuple #[.int .i64 0, .int .i64 0, .int .i64 0, .int .i64 2]) ∧ w = w' := by
  unfold inB at h
  go_enter Try.func46, Try.ntmps46
  go_wp2_with (go_at_call 112; refine (withinMod_any _ _).mono ?_; rintro e w' ⟨rfl, rfl⟩)
  refine bodyPost_ret (results_tmp4 rfl _ _ _) rfl ?_
  exact ⟨rfl, rfl⟩
set_option maxHeartbeats 400000 in
theorem bez_bad2 (a b : Int) (w : World) (h : inB a = true) (h' : inB b = false) : Calls Try.prog 46 #[.int .i64 a, .int .i64 b] w fun e w' => e = .returned (.tuple #[.int .i64 0, .int .i64 0, .int .i64 0, .int .i64 2]) ∧ w = w' := by
  unfold inB at h h'
  go_enter Try.func46, Try.ntmps46
  go_wp2_with (go_at_call 112; refine (withinMod_any _ _).mono ?_; rintro e w' ⟨rfl, rfl⟩)
  refine bodyPost_ret (results_tmp4 rfl _ _ _) rfl ?_
  exact ⟨rfl, rfl⟩
set_option maxHeartbeats 400000 in
theorem bez_zero (w : World) : Calls Try.prog 46 #[.int .i64 0, .int .i64 0] w fun e w' => e = .returned (.tuple #[.int .i64 0, .int .i64 0, .int .i64 0, .int .i64 10]) ∧ w = w' := by
  have h : withinB 0 (-1000000000) 1000000000 = true := by decide
  go_enter Try.func46, Try.ntmps46
  go_wp2_with (go_at_call 112; refine (withinMod_any _ _).mono ?_; rintro e w' ⟨rfl, rfl⟩)
  refine bodyPost_ret (results_tmp4 rfl _ _ _) rfl ?_
  exact ⟨rfl, rfl⟩
set_option maxHeartbeats 400000 in
theorem bez_b0 (a : Int) (w : World) (ha : a ≠ 0) (h : inB a = true) : Calls Try.prog 46 #[.int .i64 a, .int .i64 0] w fun e w' => e = .returned (.tuple #[.int .i64 (a.natAbs : Int), .int .i64 (if a < 0 then -1 else 1), .int .i64 0, .int .i64 0]) ∧ w = w' := by
  unfold inB at h
  obtain ⟨a1, a2⟩ := withinB_of h
  have h0 : withinB 0 (-1000000000) 1000000000 = true := by decide
  have hz : (a == 0) = false := by simp [ha]
  by_cases hn : a < 0
  · have e : (a.natAbs : Int) = -a := by omega
    rw [if_pos hn, e]
    clear ha e
    go_enter Try.func46, Try.ntmps46
    go_wp2_with (go_at_call 112; refine (withinMod_any _ _).mono ?_; rintro e w' ⟨rfl, rfl⟩)
    refine bodyPost_ret (results_tmp4 rfl _ _ _) rfl ?_
    exact ⟨rfl, rfl⟩
  · have e : (a.natAbs : Int) = a := by omega
    rw [if_neg hn, e]
    clear ha e
    go_enter Try.func46, Try.ntmps46
    go_wp2_with (go_at_call 112; refine (withinMod_any _ _).mono ?_; rintro e w' ⟨rfl, rfl⟩)
    refine bodyPost_ret (results_tmp4 rfl _ _ _) rfl ?_
    exact ⟨rfl, rfl⟩
theorem bez46 (a b : Int) (w : World) : Calls Try.prog 46 #[.int .i64 a, .int .i64 b] w fun e w' => BzEnd a b e ∧ Drew w w' := by
  rcases h1 : inB a with _ | _
  · exact (bez_bad1 a b w h1).mono fun e w' ⟨he, hw⟩ => ⟨⟨0, 0, 0, 2, he, .inl ⟨by simp [h1], rfl, rfl, rfl, rfl⟩⟩, hw ▸ Drew.refl _⟩
  rcases h2 : inB b with _ | _
  · exact (bez_bad2 a b w h1 h2).mono fun e w' ⟨he, hw⟩ => ⟨⟨0, 0, 0, 2, he, .inl ⟨by simp [h2], rfl, rfl, rfl, rfl⟩⟩, hw ▸ Drew.refl _⟩
  by_cases hb : b = 0
  · subst hb
    by_cases ha : a = 0
    · subst ha
      exact (bez_zero w).mono fun e w' ⟨he, hw⟩ => ⟨⟨0, 0, 0, 10, he, .inr (.inl ⟨by simp [h1], rfl, rfl, rfl, rfl, rfl, rfl⟩)⟩, hw ▸ Drew.refl _⟩
    · exact (bez_b0 a w ha h1).mono fun e w' ⟨he, hw⟩ => ⟨⟨_, _, _, _, he, .inr (.inr (.inl ⟨by simp [h1, h2], ha, rfl, rfl, rfl, rfl, rfl⟩))⟩, hw ▸ Drew.refl _⟩
  · exact (bez_ok a b w h1 h2 hb).mono fun e w' ⟨⟨x, he, hx⟩, hd⟩ => ⟨⟨_, _, _, _, he, .inr (.inr (.inr ⟨by simp [h1, h2], hb, rfl, hx, rfl, rfl⟩))⟩, hd⟩
end Go.Proofs.Ytcbdnnboddahkaa
