/-
  WALKS: the Hilbert symbol of the reference package.
-/
import Derived.Test.YtgbnmnkgelklbaaDoorHil2
namespace Go.Proofs.YtgbnmnkgelklbaaDoor
open Go.RowKit
set_option linter.unusedVariables false
set_option maxRecDepth 100000
open Nt (Pr leg sg Sgn)
def ChkRes (a b p e : Int) : Prop :=
  ((a = 0 ∨ b = 0) ∧ e = 10) ∨ (a ≠ 0 ∧ b ≠ 0 ∧ (inB' a && inB' b) = false ∧ e = 2) ∨
  (a ≠ 0 ∧ b ≠ 0 ∧ (inB' a && inB' b) = true ∧ p ≠ 0 ∧ prB p = false ∧ e = 11) ∨
  (a ≠ 0 ∧ b ≠ 0 ∧ (inB' a && inB' b) = true ∧ (p = 0 ∨ prB p = true) ∧ e = 0)
def ChkEnd (a b p : Int) (e : Ending) : Prop := ∃ l : Int, e = .returned (.int .i64 l) ∧ ChkRes a b p l
set_option maxHeartbeats 2000000 in
theorem chk135 (a b p : Int) (w : World) : Calls Tryd.prog 54 #[.int .i64 a, .int .i64 b, .int .i64 p] w fun e w' => ChkEnd a b p e ∧ w = w' := by
  rcases za : (a == 0) with _ | _
  case true =>
    have EA := Lib.hid (show a = 0 by simpa using za)
    go_enter Tryd.func54, Tryd.ntmps54
    go_wp2_with fail
    go_ret
    exact ⟨⟨10, rfl, .inl ⟨.inl EA.out, rfl⟩⟩, rfl⟩
  have EA := Lib.hid (show a ≠ 0 by simpa using za)
  rcases zb : (b == 0) with _ | _
  case true =>
    have EB := Lib.hid (show b = 0 by simpa using zb)
    go_enter Tryd.func54, Tryd.ntmps54
    go_wp2_with fail
    go_ret
    exact ⟨⟨10, rfl, .inl ⟨.inr EB.out, rfl⟩⟩, rfl⟩
  have EB := Lib.hid (show b ≠ 0 by simpa using zb)
  rcases ia : withinB a (-1000000000) 1000000000 with _ | _
  · go_enter Tryd.func54, Tryd.ntmps54
    go_wp2_with (go_at_call 77; refine (withinR_any _ _ _ _).mono ?_; rintro e w' ⟨rfl, rfl⟩)
    go_ret
    exact ⟨⟨2, rfl, .inr (.inl ⟨EA.out, EB.out, by unfold inB'; rw [ia]; rfl, rfl⟩)⟩, rfl⟩
  rcases ib : withinB b (-1000000000) 1000000000 with _ | _
  · go_enter Tryd.func54, Tryd.ntmps54
    go_wp2_with (go_at_call 77; refine (withinR_any _ _ _ _).mono ?_; rintro e w' ⟨rfl, rfl⟩)
    go_ret
    exact ⟨⟨2, rfl, .inr (.inl ⟨EA.out, EB.out, by unfold inB'; rw [ia, ib]; rfl, rfl⟩)⟩, rfl⟩
  have HIN := Lib.hid (show (inB' a && inB' b) = true by unfold inB'; rw [ia, ib]; rfl)
  by_cases p0 : p = 0
  · have z0 : (p != 0) = false := by rw [p0]; rfl
    have P0 := Lib.hid p0
    clear p0
    go_enter Tryd.func54, Tryd.ntmps54
    go_wp2_with (go_at_call 77; refine (withinR_any _ _ _ _).mono ?_; rintro e w' ⟨rfl, rfl⟩)
    go_ret
    exact ⟨⟨0, rfl, .inr (.inr (.inr ⟨EA.out, EB.out, HIN.out, .inl P0.out, rfl⟩))⟩, rfl⟩
  have z0 : (p != 0) = true := by rw [bne_iff_ne]; exact p0
  have P0 := Lib.hid p0
  clear p0
  rcases hp : prB p with _ | _
  · go_enter Tryd.func54, Tryd.ntmps54
    go_wp2_with (first | (go_at_call 77; refine (withinR_any _ _ _ _).mono ?_; rintro e w' ⟨rfl, rfl⟩) | (go_at_call 29; refine (risPrime_any _ _).mono ?_; rintro e w' ⟨rfl, rfl⟩))
    go_ret
    exact ⟨⟨11, rfl, .inr (.inr (.inl ⟨EA.out, EB.out, HIN.out, P0.out, hp, rfl⟩))⟩, rfl⟩
  · go_enter Tryd.func54, Tryd.ntmps54
    go_wp2_with (first | (go_at_call 77; refine (withinR_any _ _ _ _).mono ?_; rintro e w' ⟨rfl, rfl⟩) | (go_at_call 29; refine (risPrime_any _ _).mono ?_; rintro e w' ⟨rfl, rfl⟩))
    go_ret
    exact ⟨⟨0, rfl, .inr (.inr (.inr ⟨EA.out, EB.out, HIN.out, .inr hp, rfl⟩))⟩, rfl⟩
theorem chk_err (a b p l : Int) (hl : ChkRes a b p l) (h : l ≠ 0) : HilRes a b p 0 l := by
  rcases hl with ⟨h1, h2⟩ | ⟨h1, h2, h3, h4⟩ | ⟨h1, h2, h3, h4, h5, h6⟩ | ⟨h1, h2, h3, h4, h5⟩
  · exact .inl ⟨h1, rfl, h2⟩
  · exact .inr (.inl ⟨h1, h2, h3, rfl, h4⟩)
  · exact .inr (.inr (.inl ⟨h1, h2, h3, h4, h5, rfl, h6⟩))
  · exact absurd h5 h
theorem chk_ok {a b p : Int} (h : ChkRes a b p 0) : a ≠ 0 ∧ b ≠ 0 ∧ (inB' a && inB' b) = true ∧ (p = 0 ∨ prB p = true) := by
  rcases h with ⟨h1, h2⟩ | ⟨h1, h2, h3, h4⟩ | ⟨h1, h2, h3, h4, h5, h6⟩ | ⟨h1, h2, h3, h4, h5⟩
  · omega
  · omega
  · omega
  · exact ⟨h1, h2, h3, h4⟩

set_option maxHeartbeats 2000000 in
theorem rhil_err (a b p l : Int) (w : World) (hc : ChkRes a b p l) (hl : l ≠ 0) :
    Calls Tryd.prog 30 #[.int .i64 a, .int .i64 b, .int .i64 p] w fun e w' => HilEnd a b p e ∧ w = w' := by
  have HC := Lib.hid hc
  have HL := Lib.hid hl
  clear hc hl
  go_enter Tryd.func30, Tryd.ntmps30
  go_wp2_with fail
  refine (chk135 a b p _).mono ?_
  rintro e w' ⟨⟨l', rfl, hl'⟩, rfl⟩
  have hne : l' ≠ 0 := by
    rintro rfl
    obtain ⟨c1, c2, c3, c4⟩ := chk_ok hl'
    rcases HC.out with ⟨h1 | h1, h2⟩ | ⟨h1, h2, h3, h4⟩ | ⟨h1, h2, h3, h4, h5, h6⟩ | ⟨h1, h2, h3, h4, h5⟩
    · exact c1 h1
    · exact c2 h1
    · rw [c3] at h3; cases h3
    · rcases c4 with c4 | c4
      · exact h4 c4
      · rw [c4] at h5; cases h5
    · exact HL.out h5
  have ht : (l' != 0) = true := by rw [bne_iff_ne]; exact hne
  have HE := Lib.hid (chk_err a b p l' hl' hne)
  clear hl' hne
  go_wp2_with fail
  go_ret2
  exact ⟨⟨0, l', rfl, HE.out⟩, rfl⟩
end Go.Proofs.YtgbnmnkgelklbaaDoor
