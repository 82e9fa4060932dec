/-
  WALKS: which algebras and elements are little.
-/
import Derived.Test.YtjloanplhbbomaaDoorAlM
namespace Go.Proofs.YtjloanplhbbomaaDoor.Al
open Go.RowKit
open Alm
set_option linter.unusedVariables false
set_option linter.unusedSimpArgs false
set_option maxRecDepth 100000
def litB (A B : Int) : Bool := (chkA A B == 0) && (withinB A (-20) 20 && withinB B (-20) 20)
theorem little_any (A B : Int) (w : World) :
    Calls Tryd.prog 47 #[.agg #[.int .i64 A, .int .i64 B]] w fun e w' => e = .returned (.bool (litB A B)) ∧ Below w.heap.size w w' := by
  unfold litB
  rcases (show (chkA A B == 0) = false ∨ (chkA A B == 0) = true ∧ (withinB A (-20) 20 = false ∨ withinB A (-20) 20 = true ∧ (withinB B (-20) 20 = false ∨ withinB B (-20) 20 = true)) by
    cases (chkA A B == 0) <;> cases withinB A (-20) 20 <;> cases withinB B (-20) 20 <;> simp) with h0 | ⟨h0, h1 | ⟨h1, h2 | h2⟩⟩
  all_goals
    go_enter Tryd.func47, Tryd.ntmps47
    go_wp2_with fail
    refine (rCheck_any _ _ _).mono ?_
    rintro e w1 ⟨rfl, hb⟩
    obtain ⟨hc, hf⟩ := bcell hb
    have HB := Lib.hid (below_up (B := w.heap.size) (w := w) hb (by (repeat (first | (with_reducible exact Below.refl _ _) | (with_reducible exact HB.out) | (with_reducible refine below_draws ?_ _) | (with_reducible refine Below.alloc ?_ (by go_size) _) | (with_reducible refine Below.setCell ?_ (by go_size) _) | (with_reducible refine Below.alloc ?_ (by simp <;> omega) _) | (with_reducible refine Below.setCell ?_ (by simp <;> omega) _)))) (by simp))
    clear hb
    go_wp2_with (go_at_call 43; refine (Within_any _ _ _ _).mono ?_; rintro e w' ⟨rfl, rfl⟩)
    go_ret
    exact ⟨by simp [*], HB.out⟩
def smB (n0 n1 n2 n3 d : Int) : Bool := withinB n0 (-3) 3 && (withinB n1 (-3) 3 && (withinB n2 (-3) 3 && (withinB n3 (-3) 3 && withinB d 1 3)))
theorem smB_yes {n0 n1 n2 n3 d : Int} (h : smB n0 n1 n2 n3 d = true) : withinB n0 (-3) 3 = true ∧ withinB n1 (-3) 3 = true ∧ withinB n2 (-3) 3 = true ∧ withinB n3 (-3) 3 = true ∧ withinB d 1 3 = true := by
  unfold smB at h; simpa using h
theorem smB_no {n0 n1 n2 n3 d : Int} (h : smB n0 n1 n2 n3 d = false) : withinB n0 (-3) 3 = false ∨ withinB n0 (-3) 3 = true ∧ (withinB n1 (-3) 3 = false ∨ withinB n1 (-3) 3 = true ∧ (withinB n2 (-3) 3 = false ∨ withinB n2 (-3) 3 = true ∧ (withinB n3 (-3) 3 = false ∨ withinB n3 (-3) 3 = true ∧ withinB d 1 3 = false))) := by
  unfold smB at h
  revert h
  cases withinB n0 (-3) 3 <;> cases withinB n1 (-3) 3 <;> cases withinB n2 (-3) 3 <;> cases withinB n3 (-3) 3 <;> cases withinB d 1 3 <;> simp
set_option maxHeartbeats 3200000 in
theorem small_two (n0 n1 n2 n3 d m0 m1 m2 m3 f : Int) (b c : Nat) (w : World) (h : K_TT n0 n1 n2 n3 d m0 m1 m2 m3 f b w w) (hc : 2 ≤ c) (hc' : c ≤ 9223372036854775807) :
    Calls Tryd.prog 48 #[.slice (some ⟨b, 0, none⟩) 2 c] w fun e w' => e = .returned (.bool (smB n0 n1 n2 n3 d && smB m0 m1 m2 m3 f)) ∧ Below w.heap.size w w' := by
  have hK := h
  clear h
  rcases hp : smB n0 n1 n2 n3 d with _ | _
  · have hh := smB_no hp
    clear hp
    obtain ⟨c0_, c1_, c2_, c3_, c4_, c5_, c6_, c7_, c8_, c9_⟩ := K_TT.cells hK; obtain ⟨z0_, -⟩ := K_TT.zs hK; have HK := Lib.hid hK; clear hK
    rcases hh with a0 | ⟨a0, a1 | ⟨a1, a2 | ⟨a2, a3 | ⟨a3, a4⟩⟩⟩⟩
    all_goals
      go_enter Tryd.func48, Tryd.ntmps48
      go_wp2
      refine wp_loop_rounds 1 ?_
      rw [rounds_succ]
      go_wp2_with (go_at_call 43; refine (Within_any _ _ _ _).mono ?_; rintro e w' ⟨rfl, rfl⟩)
      go_ret
      exact ⟨rfl, by (repeat (first | (with_reducible exact Below.refl _ _) | (with_reducible exact HB.out) | (with_reducible refine below_draws ?_ _) | (with_reducible refine Below.alloc ?_ (by go_size) _) | (with_reducible refine Below.setCell ?_ (by go_size) _) | (with_reducible refine Below.alloc ?_ (by simp <;> omega) _) | (with_reducible refine Below.setCell ?_ (by simp <;> omega) _)))⟩
  · obtain ⟨a0, a1, a2, a3, a4⟩ := smB_yes hp
    clear hp
    rcases hq : smB m0 m1 m2 m3 f with _ | _
    · have hh := smB_no hq
      clear hq
      obtain ⟨c0_, c1_, c2_, c3_, c4_, c5_, c6_, c7_, c8_, c9_⟩ := K_TT.cells hK; obtain ⟨z0_, -⟩ := K_TT.zs hK; have HK := Lib.hid hK; clear hK
      rcases hh with e0 | ⟨e0, e1 | ⟨e1, e2 | ⟨e2, e3 | ⟨e3, e4⟩⟩⟩⟩
      all_goals
        go_enter Tryd.func48, Tryd.ntmps48
        go_wp2
        refine wp_loop_rounds 2 ?_
        rw [rounds_succ]
        go_wp2_with (go_at_call 43; refine (Within_any _ _ _ _).mono ?_; rintro e w' ⟨rfl, rfl⟩)
        rw [rounds_succ]
        go_wp2_with (go_at_call 43; refine (Within_any _ _ _ _).mono ?_; rintro e w' ⟨rfl, rfl⟩)
        go_ret
        exact ⟨rfl, by (repeat (first | (with_reducible exact Below.refl _ _) | (with_reducible exact HB.out) | (with_reducible refine below_draws ?_ _) | (with_reducible refine Below.alloc ?_ (by go_size) _) | (with_reducible refine Below.setCell ?_ (by go_size) _) | (with_reducible refine Below.alloc ?_ (by simp <;> omega) _) | (with_reducible refine Below.setCell ?_ (by simp <;> omega) _)))⟩
    · obtain ⟨e0, e1, e2, e3, e4⟩ := smB_yes hq
      clear hq
      obtain ⟨c0_, c1_, c2_, c3_, c4_, c5_, c6_, c7_, c8_, c9_⟩ := K_TT.cells hK; obtain ⟨z0_, -⟩ := K_TT.zs hK; have HK := Lib.hid hK; clear hK
      go_enter Tryd.func48, Tryd.ntmps48
      go_wp2
      refine wp_loop_rounds 3 ?_
      rw [rounds_succ]
      go_wp2_with (go_at_call 43; refine (Within_any _ _ _ _).mono ?_; rintro e w' ⟨rfl, rfl⟩)
      rw [rounds_succ]
      go_wp2_with (go_at_call 43; refine (Within_any _ _ _ _).mono ?_; rintro e w' ⟨rfl, rfl⟩)
      rw [rounds_succ]
      go_wp2
      go_ret
      exact ⟨rfl, by (repeat (first | (with_reducible exact Below.refl _ _) | (with_reducible exact HB.out) | (with_reducible refine below_draws ?_ _) | (with_reducible refine Below.alloc ?_ (by go_size) _) | (with_reducible refine Below.setCell ?_ (by go_size) _) | (with_reducible refine Below.alloc ?_ (by simp <;> omega) _) | (with_reducible refine Below.setCell ?_ (by simp <;> omega) _)))⟩
end Go.Proofs.YtjloanplhbbomaaDoor.Al
