/-
  WALK of the law IntegerPowers: it returns true for all arguments.
-/
import Derived.Test.YtcbdnnboddahkaaAwake
import Derived.Test.YtcbdnnboddahkaaPowR
namespace Go.Proofs.Ytcbdnnboddahkaa.integerPowers
open Go.RowKit
set_option linter.unusedVariables false
set_option maxRecDepth 100000
theorem pw_addm' (a m : Int) (n k : Nat) : powM a (n + k) m = powM a n m * powM a k m % m := pw_addm a m n k
theorem powM_bd (a : Int) (n : Nat) (m : Int) (hm : 1 ≤ m) : 0 ≤ powM a n m ∧ powM a n m < m := ⟨Int.emod_nonneg _ (by omega), Int.emod_lt_of_pos _ (by omega)⟩
theorem withinB_t {n lo hi : Int} (h1 : lo ≤ n) (h2 : n ≤ hi) : withinB n lo hi = true := by unfold withinB; exact decide_eq_true ⟨h1, h2⟩
/-! ### STEP 1: THE WALK -/
set_option maxHeartbeats 2000000 in
theorem refused_any (a m n0 n1 : Int) (w : World) (b0 : n0 ≤ 9223372036854775807) (b1 : n1 ≤ 9223372036854775807) (h : n0 < 0 ∨ modB m = false) :
    Calls Try.prog 9 #[.int .i64 a, .int .i64 m, .agg #[.int .i64 n0, .int .i64 n1]] w fun e w' => e = .returned (.bool true) ∧ Below w.heap.size w w' := by
  have HH := Lib.hid h; clear h
  go_enter Try.func9, Try.ntmps9
  go_wp2_with fail
  refine (pow51 a n0 m _ b0).mono ?_
  rintro e w' ⟨⟨x, f, rfl, hr⟩, rfl⟩
  have HR := Lib.hid hr; clear hr
  go_wp2_with fail
  refine (pow52 a n0 m _ b0).mono ?_
  rintro e w' ⟨⟨x', f', rfl, hr'⟩, rfl⟩
  obtain ⟨rfl, rfl⟩ := HR.out.unique hr'
  clear hr'
  have ht : (f != 0) = true := by
    rcases HR.out with ⟨-, -, h3⟩ | ⟨h1, h2, -, -⟩
    · rw [h3]; rfl
    · rcases HH.out with h | h
      · omega
      · rw [h] at h2; cases h2
  go_wp2_with (go_at_call 20; refine (awake_any _).mono ?_; rintro e w' ⟨rfl, hA⟩)
  go_ret
  exact ⟨rfl, ((Below.refl _ _).alloc (Nat.le_refl _) _).trans (hA.mono (by simp))⟩
set_option maxHeartbeats 2000000 in
theorem outside_any (a m n0 n1 : Int) (w : World) (b0 : n0 ≤ 9223372036854775807) (b1 : n1 ≤ 9223372036854775807) (h0 : 0 ≤ n0) (hm : modB m = true) (h : withinB n0 0 1000000 = false ∨ (withinB n0 0 1000000 = true ∧ withinB n1 0 1000000 = false)) :
    Calls Try.prog 9 #[.int .i64 a, .int .i64 m, .agg #[.int .i64 n0, .int .i64 n1]] w fun e w' => e = .returned (.bool true) ∧ Below w.heap.size w w' := by
  have HM := Lib.hid hm; clear hm
  rcases h with h | ⟨h, h'⟩
  all_goals
    go_enter Try.func9, Try.ntmps9
    go_wp2_with fail
    refine (pow51 a n0 m _ b0).mono ?_
    rintro e w' ⟨⟨x, f, rfl, hr⟩, rfl⟩
    have HR := Lib.hid hr; clear hr
    go_wp2_with fail
    refine (pow52 a n0 m _ b0).mono ?_
    rintro e w' ⟨⟨x', f', rfl, hr'⟩, rfl⟩
    obtain ⟨rfl, rfl⟩ := HR.out.unique hr'
    clear hr'
    have ht : (f != 0) = false := by
      rcases HR.out with ⟨h1 | h1, -, h3⟩ | ⟨h1, h2, -, h3⟩
      · omega
      · rw [HM.out] at h1; cases h1
      · rw [h3]; rfl
    go_wp2_with (first | (go_at_call 20; refine (awake_any _).mono ?_; rintro e w' ⟨rfl, hA⟩) | (go_at_call 53; refine (within_any _ _ _ _).mono ?_; rintro e w' ⟨rfl, rfl⟩))
    go_ret
    exact ⟨rfl, ((Below.refl _ _).alloc (Nat.le_refl _) _).trans (hA.mono (by simp))⟩
set_option maxHeartbeats 2000000 in
theorem inside_any (a m n0 n1 : Int) (w : World) (hm : modB m = true) (h0 : withinB n0 0 1000000 = true) (h1 : withinB n1 0 1000000 = true) :
    Calls Try.prog 9 #[.int .i64 a, .int .i64 m, .agg #[.int .i64 n0, .int .i64 n1]] w fun e w' => e = .returned (.bool true) ∧ Below w.heap.size w w' := by
  obtain ⟨c0, c0'⟩ := withinB_of h0
  obtain ⟨c1, c1'⟩ := withinB_of h1
  obtain ⟨m1, m2⟩ := modB_of hm
  have HM := Lib.hid hm; clear hm
  go_enter Try.func9, Try.ntmps9
  go_wp2_with fail
  refine (pow51 a n0 m _ (by omega)).mono ?_
  rintro e w' ⟨⟨x, f, rfl, hr⟩, rfl⟩
  have HR := Lib.hid hr; clear hr
  go_wp2_with fail
  refine (pow52 a n0 m _ (by omega)).mono ?_
  rintro e w' ⟨⟨x', f', rfl, hr'⟩, rfl⟩
  obtain ⟨rfl, rfl⟩ := HR.out.unique hr'
  clear hr'
  have ok : ∀ (n x f : Int), 0 ≤ n → PwRes a n m x f → x = powM a n.toNat m ∧ f = 0 := by
    intro n x f hn h
    rcases h with ⟨h1 | h1, -, h3⟩ | ⟨h1, h2, h3, h4⟩
    · omega
    · rw [HM.out] at h1; cases h1
    · exact ⟨h3, h4⟩
  have OK := Lib.hid ok; clear ok
  have ht : (f != 0) = false := by rw [(OK.out _ _ _ c0 HR.out).2]; rfl
  go_wp2_with (first | (go_at_call 51; fail) | (go_at_call 53; refine (within_any _ _ _ _).mono ?_; rintro e w' ⟨rfl, rfl⟩))
  refine (pow51 a n1 m _ (by omega)).mono ?_
  rintro e w' ⟨⟨z, g, rfl, hz⟩, rfl⟩
  have HZ := Lib.hid hz; clear hz
  go_wp2_with fail
  refine (pow51 a (n0 + n1) m _ (by omega)).mono ?_
  rintro e w' ⟨⟨y, l, rfl, hy⟩, rfl⟩
  have HY := Lib.hid hy; clear hy
  obtain ⟨ex, -⟩ := OK.out _ _ _ c0 HR.out
  obtain ⟨ez, eg⟩ := OK.out _ _ _ c1 HZ.out
  obtain ⟨ey, el⟩ := OK.out _ _ _ (by omega) HY.out
  have bx := powM_bd a n0.toNat m m1
  have bz := powM_bd a n1.toNat m m1
  rw [← ex] at bx
  rw [← ez] at bz
  obtain ⟨bx1, bx2⟩ := bx
  obtain ⟨bz1, bz2⟩ := bz
  have hp := mul_bd bx1 bx2 bz1 bz2 m2
  have hfin : y = x * z % m := by
    rw [ey, ex, ez, Int.toNat_add c0 c1]
    exact pw_addm' a m n0.toNat n1.toNat
  have t1 : (g == 0) = true := by rw [eg]; rfl
  have t2 : (l == 0) = true := by rw [el]; rfl
  have t3 : withinB x 0 (m - 1) = true := withinB_t bx1 (by omega)
  have t4 : withinB z 0 (m - 1) = true := withinB_t bz1 (by omega)
  have t5 : (y == x * z % m) = true := by rw [hfin]; simp
  obtain ⟨hp1, hp2⟩ := hp
  clear ex ez ey eg el hfin HR HZ HY OK
  go_wp2_with (first | (go_at_call 20; refine (awake_any _).mono ?_; rintro e w' ⟨rfl, hA⟩) | (go_at_call 53; refine (within_any _ _ _ _).mono ?_; rintro e w' ⟨rfl, rfl⟩))
  go_ret
  exact ⟨rfl, ((Below.refl _ _).alloc (Nat.le_refl _) _).trans (hA.mono (by simp))⟩
theorem walk (a0 a1 n0 n1 : Int) (b0 : n0 ≤ 9223372036854775807) (b1 : n1 ≤ 9223372036854775807) (w : World) :
    Calls Try.prog 9 #[.int .i64 a0, .int .i64 a1, .agg #[.int .i64 n0, .int .i64 n1]] w fun e w' => e = .returned (.bool true) ∧ Below w.heap.size w w' := by
  by_cases h0 : n0 < 0
  · exact refused_any a0 a1 n0 n1 w b0 b1 (.inl h0)
  rcases hm : modB a1 with _ | _
  · exact refused_any a0 a1 n0 n1 w b0 b1 (.inr hm)
  rcases h1 : withinB n0 0 1000000 with _ | _
  · exact outside_any a0 a1 n0 n1 w b0 b1 (by omega) hm (.inl h1)
  rcases h2 : withinB n1 0 1000000 with _ | _
  · exact outside_any a0 a1 n0 n1 w b0 b1 (by omega) hm (.inr ⟨h1, h2⟩)
  · exact inside_any a0 a1 n0 n1 w hm h1 h2
end Go.Proofs.Ytcbdnnboddahkaa.integerPowers
