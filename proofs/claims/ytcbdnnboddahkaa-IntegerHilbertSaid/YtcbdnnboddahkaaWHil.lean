/-
  WALK of the law IntegerHilbert: it returns true for all arguments.
-/
import Derived.Test.YtcbdnnboddahkaaHil5
import Derived.Test.YtcbdnnboddahkaaHilM
import Derived.Test.YtcbdnnboddahkaaAwake
namespace Go.Proofs.Ytcbdnnboddahkaa.integerHilbert
open Go.RowKit
set_option linter.unusedVariables false
set_option maxRecDepth 100000
open Nt (Pr leg sg Sgn)
theorem rhil64 (a b p : Int) (w : World) : Calls Try.prog 64 #[.int .i64 a, .int .i64 b, .int .i64 p] w fun e w' => HilEnd a b p e ∧ w = w' := by
  by_cases ha : a = 0
  · exact rhil_err a b p 10 w (.inl ⟨.inl ha, rfl⟩) (by omega)
  by_cases hb : b = 0
  · exact rhil_err a b p 10 w (.inl ⟨.inr hb, rfl⟩) (by omega)
  rcases hin : (inB' a && inB' b) with _ | _
  · exact rhil_err a b p 2 w (.inr (.inl ⟨ha, hb, hin, rfl⟩)) (by omega)
  have hin' := hin
  rw [Bool.and_eq_true] at hin'
  obtain ⟨a1, a2⟩ := withinB_of hin'.1
  obtain ⟨b1, b2⟩ := withinB_of hin'.2
  by_cases p0 : p = 0
  · subst p0; exact rhil_real a b w ha hb hin
  rcases hp : prB p with _ | _
  · exact rhil_err a b p 11 w (.inr (.inr (.inl ⟨ha, hb, hin, p0, hp, rfl⟩))) (by omega)
  by_cases p2 : p = 2
  · subst p2; exact rhil_two a b w ha hb hin a1 a2 b1 b2
  obtain ⟨c1, c2, c3⟩ := prB_of hp
  obtain ⟨k, rfl⟩ : ∃ k : Nat, p = k := ⟨p.toNat, by omega⟩
  rw [Int.toNat_natCast] at c3
  exact rhil_odd a b k w c3 (pr_odd c3 (fun h => p2 (by omega))) (by omega) ha hb hin a1 a2 b1 b2
theorem res_ok {a b p x : Int} (h : HilRes a b p x 0) : a ≠ 0 ∧ b ≠ 0 ∧ (inB' a && inB' b) = true ∧ (p = 0 ∨ prB p = true) := by
  rcases h with ⟨h1, h2, h3⟩ | ⟨h1, h2, h3, h4, h5⟩ | ⟨h1, h2, h3, h4, h5, h6, h7⟩ | ⟨h1, h2, h3, h4, h5, h6⟩
  · omega
  · omega
  · omega
  · exact ⟨h1, h2, h3, h4⟩
theorem res_neg {a p x e : Int} (ha : a ≠ 0) (hi : inB' a = true) (hp : p = 0 ∨ prB p = true) (h : HilRes a (-a) p x e) : x = 1 ∧ e = 0 := by
  have hi2 : inB' (-a) = true := by
    obtain ⟨h1, h2⟩ := withinB_of hi
    unfold inB' withinB; exact decide_eq_true (by omega)
  rcases h with ⟨h1, h2, h3⟩ | ⟨h1, h2, h3, h4, h5⟩ | ⟨h1, h2, h3, h4, h5, h6, h7⟩ | ⟨h1, h2, h3, h4, h5, h6⟩
  · omega
  · rw [hi, hi2] at h3; cases h3
  · exact (nope h4 h5 hp).elim
  · exact ⟨h5.neg ha, h6⟩
set_option maxHeartbeats 2000000 in
theorem walk (a0 : Int) (a1 : Int) (a2 : Int) (w : World) :
    Calls Try.prog 13 #[.int .i64 a0, .int .i64 a1, .int .i64 a2] w fun e w' => e = .returned (.bool true) ∧ Below w.heap.size w w' := by
  go_enter Try.func13, Try.ntmps13
  go_wp2_with fail
  refine (hil63 a0 a1 a2 w).mono ?_
  rintro e w' ⟨⟨x, l, rfl, hr⟩, rfl⟩
  have HR := Lib.hid hr; clear hr
  go_wp2_with fail
  refine (rhil64 a0 a1 a2 _).mono ?_
  rintro e w' ⟨⟨x', l', rfl, hr'⟩, rfl⟩
  obtain ⟨rfl, rfl⟩ := HR.out.unique hr'
  clear hr'
  by_cases hl : l = 0
  · have t1 : (l != 0) = false := by rw [hl]; rfl
    have hr := HR.out
    rw [hl] at hr
    obtain ⟨ha, hb, hin, hp⟩ := res_ok hr
    have hin' := hin
    rw [Bool.and_eq_true] at hin'
    obtain ⟨c1, c2⟩ := withinB_of hin'.1
    have HS := Lib.hid hr.symm
    have HI := Lib.hid hin'.1
    have HP := Lib.hid hp
    have EA := Lib.hid ha
    clear hl hr ha hb hin hp hin'
    go_wp2_with fail
    refine (hil63 a1 a0 a2 _).mono ?_
    rintro e w' ⟨⟨z, g, rfl, hz⟩, rfl⟩
    obtain ⟨ez, eg⟩ := HS.out.unique hz
    subst ez
    have t2 : (g == 0) = true := by rw [← eg]; rfl
    clear hz eg
    go_wp2_with fail
    refine (hil63 a0 (-a0) a2 _).mono ?_
    rintro e w' ⟨⟨y, h, rfl, hy⟩, rfl⟩
    obtain ⟨ey, eh⟩ := res_neg EA.out HI.out HP.out hy
    have t3 : (y == 1) = true := by rw [ey]; rfl
    have t4 : (h == 0) = true := by rw [eh]; rfl
    clear hy ey eh
    go_wp2_with (go_at_call 20; refine (awake_any _).mono ?_; rintro e w' ⟨rfl, hA⟩)
    go_ret
    exact ⟨rfl, hA⟩
  · have t1 : (l != 0) = true := by rw [bne_iff_ne]; exact hl
    clear hl
    go_wp2_with (go_at_call 20; refine (awake_any _).mono ?_; rintro e w' ⟨rfl, hA⟩)
    go_ret
    exact ⟨rfl, hA⟩
end Go.Proofs.Ytcbdnnboddahkaa.integerHilbert
