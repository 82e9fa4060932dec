/-
  WALK of the law IntegerReciprocity: it returns true for all arguments.
-/
import Derived.Test.YtcbdnnboddahkaaWJac
import Derived.Test.YtcbdnnboddahkaaAwake
namespace Go.Proofs.Ytcbdnnboddahkaa.integerReciprocity
open Go.RowKit
set_option linter.unusedVariables false
set_option maxRecDepth 100000
open Nt (jac rec4 Sgn)
set_option maxHeartbeats 400000 in
theorem jac60 (a N : Int) (n : Nat) (w : World) (hN : N = (n : Int)) (h1 : n % 2 = 1) (h2 : n ≤ 1000000000) :
    Calls Try.prog 60 #[.int .i64 a, .int .i64 N] w fun e w' => e = .returned (.tuple #[.int .i64 (jac a n), .int .i64 0]) ∧ w = w' := by
  subst hN
  have hm : modB (n : Int) = true := by unfold modB; exact decide_eq_true (by omega)
  have ho : ((n : Int) % 2 == 0) = false := by simp; omega
  have np : 0 < n := by omega
  have H1 := Lib.hid h1
  clear h1
  go_enter Try.func60, Try.ntmps60
  go_wp2_with (first | (go_at_call 118; refine (isMod_any _ _).mono ?_; rintro e w' ⟨rfl, rfl⟩) | (go_at_call 130; refine (jacobi_any _ _ _ H1.out h2).mono ?_; rintro e w' ⟨rfl, rfl⟩))
  go_ret2
  exact ⟨rfl, rfl⟩
set_option maxHeartbeats 400000 in
theorem bgcd_any (a m : Int) (w : World) (h0 : 0 ≤ a) (h1 : a ≤ 9223372036854775807) (h2 : 0 ≤ m) (h3 : m ≤ 9223372036854775807) :
    Calls Try.prog 62 #[.int .i64 a, .int .i64 m] w fun e w' => e = .returned (.int .i64 (Int.gcd a m)) ∧ Drew w w' := by
  go_enter Try.func62, Try.ntmps62
  go_wp2
  go_loopw [0, 1] (fun t0 t1 wr => ∃ r0 r1 : Int, (0 ≤ r0 ∧ r0 ≤ 9223372036854775807 ∧ 0 ≤ r1 ∧ r1 ≤ 9223372036854775807 ∧ Int.gcd r0 r1 = Int.gcd a m ∧ Drew w wr) ∧ t0 = .int .i64 r0 ∧ t1 = .int .i64 r1) (fun _ t1 _ => (intOf t1).toNat)
  case atStart => exact ⟨a, m, ⟨h0, h1, h2, h3, rfl, Drew.refl _⟩, rfl, rfl⟩
  case round =>
    obtain ⟨r0, r1, ⟨a0, a1, b0, b1, hg, hd⟩, rfl, rfl⟩ := hrel
    have HG := Lib.hid hg
    clear hg
    by_cases hz : 0 < r1
    · have hlt := Int.emod_lt_of_pos r0 (b := r1) hz
      have hnn := Int.emod_nonneg r0 (b := r1) (by omega)
      have ht : (r1 != 0) = true := by rw [bne_iff_ne]; omega
      go_wp2
      go_quiet (fail)
      go_wp2
      go_roundw
      case rel => exact ⟨r1, r0 % r1, ⟨b0, b1, by omega, by omega, by rw [gcd_emod, HG.out], hd.step _⟩, rfl, rfl⟩
      case measure => simp [intOf]; omega
    · have hz0 : r1 = 0 := by omega
      have ht : (r1 != 0) = false := by rw [hz0]; rfl
      have HZ := Lib.hid hz0
      clear hz0
      go_wp2_with (go_at_call 65; refine (babs_any _ _ (by omega)).mono ?_; rintro e w' ⟨rfl, rfl⟩)
      go_ret
      have hg := HG.out
      rw [HZ.out, Int.gcd_zero] at hg
      exact ⟨ret_int (by rw [← hg]), hd⟩
set_option maxHeartbeats 2000000 in
theorem outside_any (a m n : Int) (w : World) (h : withinB a (-30000) 30000 = false ∨ (withinB a (-30000) 30000 = true ∧ withinB m 1 30000 = false) ∨ (withinB a (-30000) 30000 = true ∧ withinB m 1 30000 = true ∧ withinB n 1 30000 = false) ∨
      (withinB a (-30000) 30000 = true ∧ withinB m 1 30000 = true ∧ withinB n 1 30000 = true ∧ m % 2 = 0) ∨ (withinB a (-30000) 30000 = true ∧ withinB m 1 30000 = true ∧ withinB n 1 30000 = true ∧ m % 2 ≠ 0 ∧ n % 2 = 0)) :
    Calls Try.prog 12 #[.int .i64 a, .int .i64 m, .int .i64 n] w fun e w' => e = .returned (.bool true) ∧ Below w.heap.size w w' := by
  rcases h with h1 | ⟨h1, h2⟩ | ⟨h1, h2, h3⟩ | ⟨h1, h2, h3, h4⟩ | ⟨h1, h2, h3, h4, h5⟩
  · go_enter Try.func12, Try.ntmps12
    go_wp2_with (first | (go_at_call 20; refine (awake_any _).mono ?_; rintro e w' ⟨rfl, hA⟩) | (go_at_call 53; refine (within_any _ _ _ _).mono ?_; rintro e w' ⟨rfl, rfl⟩))
    go_ret
    exact ⟨rfl, hA⟩
  · go_enter Try.func12, Try.ntmps12
    go_wp2_with (first | (go_at_call 20; refine (awake_any _).mono ?_; rintro e w' ⟨rfl, hA⟩) | (go_at_call 53; refine (within_any _ _ _ _).mono ?_; rintro e w' ⟨rfl, rfl⟩))
    go_ret
    exact ⟨rfl, hA⟩
  · go_enter Try.func12, Try.ntmps12
    go_wp2_with (first | (go_at_call 20; refine (awake_any _).mono ?_; rintro e w' ⟨rfl, hA⟩) | (go_at_call 53; refine (within_any _ _ _ _).mono ?_; rintro e w' ⟨rfl, rfl⟩))
    go_ret
    exact ⟨rfl, hA⟩
  · obtain ⟨m1, m2⟩ := withinB_of h2
    have ht : (m % 2 == 0) = true := by rw [h4]; rfl
    clear h4
    go_enter Try.func12, Try.ntmps12
    go_wp2_with (first | (go_at_call 20; refine (awake_any _).mono ?_; rintro e w' ⟨rfl, hA⟩) | (go_at_call 53; refine (within_any _ _ _ _).mono ?_; rintro e w' ⟨rfl, rfl⟩))
    go_ret
    exact ⟨rfl, hA⟩
  · obtain ⟨m1, m2⟩ := withinB_of h2
    obtain ⟨n1, n2⟩ := withinB_of h3
    have ht : (m % 2 == 0) = false := by simp; omega
    have ht' : (n % 2 == 0) = true := by rw [h5]; rfl
    clear h4 h5
    go_enter Try.func12, Try.ntmps12
    go_wp2_with (first | (go_at_call 20; refine (awake_any _).mono ?_; rintro e w' ⟨rfl, hA⟩) | (go_at_call 53; refine (within_any _ _ _ _).mono ?_; rintro e w' ⟨rfl, rfl⟩))
    go_ret
    exact ⟨rfl, hA⟩
theorem sgn_bd {x : Int} (h : Sgn x) : -1 ≤ x ∧ x ≤ 1 := by rcases h with rfl | rfl | rfl <;> omega
set_option maxHeartbeats 4000000 in
theorem inside_any (a : Int) (m n : Nat) (w : World) (ha : withinB a (-30000) 30000 = true) (hm : withinB (m : Int) 1 30000 = true) (hn : withinB (n : Int) 1 30000 = true) (om : m % 2 = 1) (on : n % 2 = 1) :
    Calls Try.prog 12 #[.int .i64 a, .int .i64 m, .int .i64 n] w fun e w' => e = .returned (.bool true) ∧ Below w.heap.size w w' := by
  obtain ⟨a1, a2⟩ := withinB_of ha
  obtain ⟨m1, m2⟩ := withinB_of hm
  obtain ⟨n1, n2⟩ := withinB_of hn
  have t1 : ((m : Int) % 2 == 0) = false := by simp; omega
  have t2 : ((n : Int) % 2 == 0) = false := by simp; omega
  have p1 := sm_bd (a := a) (x := (m : Int)) (M := 30000) (N := 30000) (by omega) (by omega) (by omega) (by omega) (by omega)
  have p2 := sm_bd (a := (m : Int)) (x := (n : Int)) (M := 30000) (N := 30000) (by omega) (by omega) (by omega) (by omega) (by omega)
  obtain ⟨p1, p1'⟩ := p1
  obtain ⟨p2, p2'⟩ := p2
  have omn : (m * n) % 2 = 1 := by rw [Nat.mul_mod, om, on]
  have hmn : ((m : Int) * n) = ((m * n : Nat) : Int) := by rw [Int.natCast_mul]
  have hmnl : m * n ≤ 1000000000 := by omega
  have B1 := Lib.hid (Nt.jac_mul on a (m : Int))
  have B2 := Lib.hid (Nt.jac_mul_right a om on)
  have OM := Lib.hid om
  have ON := Lib.hid on
  have OMN := Lib.hid omn
  have HMN := Lib.hid hmn
  have sx := sgn_bd (Nt.jac_sgn a n)
  have sy := sgn_bd (Nt.jac_sgn (m : Int) n)
  have sz := sgn_bd (Nt.jac_sgn (n : Int) m)
  have sl := sgn_bd (Nt.jac_sgn a m)
  have q1 := sgn_bd (Nt.Sgn.mul (Nt.jac_sgn a n) (Nt.jac_sgn (m : Int) n))
  have q2 := sgn_bd (Nt.Sgn.mul (Nt.jac_sgn a m) (Nt.jac_sgn a n))
  have q3 := sgn_bd (Nt.Sgn.mul (Nt.jac_sgn (m : Int) n) (Nt.jac_sgn (n : Int) m))
  have QR := Lib.hid (fun h => Nt.jac_qr om on h)
  have QN := Lib.hid (fun h => (⟨Nt.jac_none on h, Nt.jac_none om (by rw [Nat.gcd_comm]; exact h)⟩ : jac (m : Int) n = 0 ∧ jac (n : Int) m = 0))
  clear om on omn hmn
  go_enter Try.func12, Try.ntmps12
  go_wp2_with (first | (go_at_call 60; fail) | (go_at_call 53; refine (within_any _ _ _ _).mono ?_; rintro e w' ⟨rfl, rfl⟩))
  refine (jac60 a n n _ rfl ON.out (by omega)).mono ?_
  rintro e w' ⟨rfl, rfl⟩
  go_wp2_with fail
  refine (jac60 m n n _ rfl ON.out (by omega)).mono ?_
  rintro e w' ⟨rfl, rfl⟩
  go_wp2_with fail
  refine (jac60 n m m _ rfl OM.out (by omega)).mono ?_
  rintro e w' ⟨rfl, rfl⟩
  go_wp2_with fail
  refine (jac60 (a * m) n n _ rfl ON.out (by omega)).mono ?_
  rintro e w' ⟨rfl, rfl⟩
  go_wp2_with fail
  refine (jac60 a m m _ rfl OM.out (by omega)).mono ?_
  rintro e w' ⟨rfl, rfl⟩
  go_wp2_with fail
  refine (jac60 a (m * n) (m * n) _ HMN.out OMN.out hmnl).mono ?_
  rintro e w' ⟨rfl, rfl⟩
  have u1 : (jac (a * (m : Int)) n != jac a n * jac (m : Int) n) = false := by rw [B1.out]; simp
  have u2 : (jac a (m * n) != jac a m * jac a n) = false := by rw [B2.out]; simp
  generalize jac (a * (m : Int)) n = xb at *
  generalize jac a (m * n) = xu at *
  generalize jac a n = x at *
  generalize jac a m = xl at *
  generalize jac (m : Int) n = y at *
  generalize jac (n : Int) m = z at *
  obtain ⟨x1, x2⟩ := sx
  obtain ⟨y1, y2⟩ := sy
  obtain ⟨z1, z2⟩ := sz
  obtain ⟨l1, l2⟩ := sl
  obtain ⟨q1, q1'⟩ := q1
  obtain ⟨q2, q2'⟩ := q2
  obtain ⟨q3, q3'⟩ := q3
  clear p1 p1' p2 p2'
  go_wp2_with (go_at_call 62; fail)
  refine (bgcd_any (m : Int) (n : Int) _ (by omega) (by omega) (by omega) (by omega)).mono ?_
  rintro e w' ⟨rfl, nn, rfl⟩
  have hB : Below w.heap.size w (w.drewN nn) := below_draws (Below.refl _ _) _
  have HB := Lib.hid hB
  clear hB
  have hgg : ((Int.gcd (m : Int) (n : Int) : Nat) : Int) = (Nat.gcd m n : Nat) := by simp [Int.gcd]
  generalize ((Int.gcd (m : Int) (n : Int) : Nat) : Int) = G at *
  have HGG := Lib.hid hgg
  clear hgg
  by_cases hg : Nat.gcd m n = 1
  · have tg : (G != 1) = false := by rw [HGG.out, hg]; rfl
    have hq := QR.out hg
    have HQ := Lib.hid hq
    have hm4 : (m % 4 = 1 ∧ ((m : Int) % 4 == 3) = false) ∨ (m % 4 = 3 ∧ ((m : Int) % 4 == 3) = true) := by
      have h : m % 4 = 1 ∨ m % 4 = 3 := by have := OM.out; omega
      rcases h with h | h
      · exact .inl ⟨h, by simp; omega⟩
      · exact .inr ⟨h, by simp; omega⟩
    have hn4 : (n % 4 = 1 ∧ ((n : Int) % 4 == 3) = false) ∨ (n % 4 = 3 ∧ ((n : Int) % 4 == 3) = true) := by
      have h : n % 4 = 1 ∨ n % 4 = 3 := by have := ON.out; omega
      rcases h with h | h
      · exact .inl ⟨h, by simp; omega⟩
      · exact .inr ⟨h, by simp; omega⟩
    clear hg hq
    rcases hm4 with ⟨hm4, t4⟩ | ⟨hm4, t4⟩ <;> rcases hn4 with ⟨hn4, t5⟩ | ⟨hn4, t5⟩
    all_goals
      have hv : y * z = rec4 m n := HQ.out
      simp [Nt.rec4, hm4, hn4] at hv
      first
      | have t6 : (y * z == 1) = true := by rw [hv]; rfl
      | have t6 : (y * z == -1) = true := by rw [hv]; rfl
      clear hv hm4 hn4
      go_wp2_with (go_at_call 20; refine (awake_any _).mono ?_; rintro e w' ⟨rfl, hA⟩)
      go_ret
      exact ⟨rfl, HB.out.trans (hA.mono HB.out.size)⟩
  · have tg : (G != 1) = true := by rw [HGG.out, bne_iff_ne]; omega
    obtain ⟨hy, hz⟩ := QN.out hg
    have t6 : (y == 0) = true := by rw [hy]; rfl
    have t7 : (z == 0) = true := by rw [hz]; rfl
    clear hy hz hg
    go_wp2_with (go_at_call 20; refine (awake_any _).mono ?_; rintro e w' ⟨rfl, hA⟩)
    go_ret
    exact ⟨rfl, HB.out.trans (hA.mono HB.out.size)⟩
theorem walk (a0 : Int) (a1 : Int) (a2 : Int) (w : World) :
    Calls Try.prog 12 #[.int .i64 a0, .int .i64 a1, .int .i64 a2] w fun e w' => e = .returned (.bool true) ∧ Below w.heap.size w w' := by
  rcases h1 : withinB a0 (-30000) 30000 with _ | _
  · exact outside_any _ _ _ w (.inl h1)
  rcases h2 : withinB a1 1 30000 with _ | _
  · exact outside_any _ _ _ w (.inr (.inl ⟨h1, h2⟩))
  rcases h3 : withinB a2 1 30000 with _ | _
  · exact outside_any _ _ _ w (.inr (.inr (.inl ⟨h1, h2, h3⟩)))
  by_cases h4 : a1 % 2 = 0
  · exact outside_any _ _ _ w (.inr (.inr (.inr (.inl ⟨h1, h2, h3, h4⟩))))
  by_cases h5 : a2 % 2 = 0
  · exact outside_any _ _ _ w (.inr (.inr (.inr (.inr ⟨h1, h2, h3, h4, h5⟩))))
  obtain ⟨m1, m2⟩ := withinB_of h2
  obtain ⟨n1, n2⟩ := withinB_of h3
  obtain ⟨m, rfl⟩ : ∃ m : Nat, a1 = m := ⟨a1.toNat, by omega⟩
  obtain ⟨n, rfl⟩ : ∃ n : Nat, a2 = n := ⟨a2.toNat, by omega⟩
  exact inside_any a0 m n w h1 h2 h3 (by omega) (by omega)
end Go.Proofs.Ytcbdnnboddahkaa.integerReciprocity
