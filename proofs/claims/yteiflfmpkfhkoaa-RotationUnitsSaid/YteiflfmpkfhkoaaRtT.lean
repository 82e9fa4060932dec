/-
  WALKS: all Hurwitz quaternions of a norm, the reference's.
-/
import Derived.Test.YteiflfmpkfhkoaaRt5
import Derived.Test.YteiflfmpkfhkoaaRtF
import Derived.Test.YteiflfmpkfhkoaaRt3
namespace Go.Proofs.Yteiflfmpkfhkoaa.Rt
open Go.RowKit
open Alm Hwm Al
set_option linter.unusedVariables false
set_option linter.unusedSimpArgs false
set_option maxRecDepth 100000
theorem Mod_even (a : Int) (w : World) (h : a % 2 = 0) (hb : Bn 1000000 a) : Calls Try.prog 125 #[.int .i64 a, .int .i64 2] w fun e w' => e = .returned (.int .i64 0) ∧ w = w' := by
  have e : a.tmod 2 = 0 := Int.tmod_eq_zero_of_dvd (Int.dvd_of_emod_eq_zero h)
  clear h hb
  go_enter Try.func125, Try.ntmps125
  go_wp2
  go_ret
  exact ⟨rfl, rfl⟩
def fA (n : Nat) (h : H) : Bool := nn h == 4 * (n : Int)
/-- all quaternions of norm n, descending -/
def A_ (n : Nat) : List H := wL (fA n) (isq (4 * n)) (2 * isq (4 * n) + 1) (2 * isq (4 * n) + 1)
theorem A_one : A_ 1 = U24 := by kernel_rfl
theorem fA_par {n : Nat} {p x y z : Int} (h : fA n ⟨p, x, y, z⟩ = true) : (p - x) % 2 = 0 ∧ (p - y) % 2 = 0 ∧ (p - z) % 2 = 0 := by
  have h1 : nn ⟨p, x, y, z⟩ = 4 * (n : Int) := beq_iff_eq.1 h
  have h2 := nn4_par (a := ⟨p, x, y, z⟩) (by rw [h1]; omega)
  unfold par at h2
  simp only [] at h2
  omega
set_option maxHeartbeats 8000000 in
theorem all_any (n : Nat) (w : World) (hn : n ≤ 50) :
    Calls Try.prog 80 #[.int .i64 n] w fun e w' => ∃ v, e = .returned v ∧ w'.ownsRow w.heap.size 31 4 v (A_ n).length (flatH (A_ n)) ∧ Below w.heap.size w w' := by
  obtain ⟨i0, hi, hz0, hz1, hz2⟩ := info_parts infoU
  obtain ⟨b1, b2, b3⟩ := isq_ok (n := 4 * n) (by omega)
  unfold A_
  generalize isq (4 * n) = b at *
  obtain ⟨m, hm⟩ : ∃ m, 2 * b + 1 = m := ⟨_, rfl⟩
  rw [hm]
  have HM := Lib.hid hm
  have CB : Hid (∀ k : Nat, k ≤ b → (((k : Int) + 1) * ((k : Int) + 1) ≤ 300 ∧ 0 ≤ ((k : Int) + 1) * ((k : Int) + 1)) ∧ (k < b → ((k : Int) + 1) * ((k : Int) + 1) ≤ 4 * (n : Int)) ∧ (k = b → ¬ ((k : Int) + 1) * ((k : Int) + 1) ≤ 4 * (n : Int))) := Lib.hid (by
    intro k hk
    have c1 : (((k + 1) * (k + 1) : Nat) : Int) = ((k : Int) + 1) * ((k : Int) + 1) := by push_cast; rfl
    rw [← c1]
    refine ⟨⟨?_, by omega⟩, fun h => ?_, fun h => ?_⟩
    · have := Nat.mul_le_mul (show k + 1 ≤ 15 by omega) (show k + 1 ≤ 15 by omega); omega
    · have := Nat.mul_le_mul (show k + 1 ≤ b by omega) (show k + 1 ≤ b by omega); omega
    · subst h; omega)
  have B12 := Lib.hid (And.intro b1 b2)
  clear b1 b2 hm
  go_enter Try.func80, Try.ntmps80
  go_wp2_with fail
  go_loopw [4] (fun t4 wr => ∃ k : Nat, (k ≤ b ∧ w = wr) ∧ t4 = .int .i64 k) (fun t4 _ => b - (intOf t4).toNat)
  case atStart => exact ⟨0, ⟨by omega, rfl⟩, rfl⟩
  case round =>
    obtain ⟨k, ⟨hk, rfl⟩, rfl⟩ := hrel
    obtain ⟨⟨s1, s2⟩, s3, s4⟩ := CB.out k hk
    by_cases hlt : k < b
    · have t1 : decide (((k : Int) + 1) * ((k : Int) + 1) ≤ 4 * (n : Int)) = true := decide_eq_true (s3 hlt)
      clear s3 s4
      go_wp2
      go_roundw
      case rel => exact ⟨k + 1, ⟨by omega, by first | trivial | rfl⟩, by go_num⟩
      case measure => simp [intOf]; omega
    · obtain rfl : b = k := by omega
      have t1 : decide (((b : Int) + 1) * ((b : Int) + 1) ≤ 4 * (n : Int)) = false := decide_eq_false (by have := s4 rfl; omega)
      clear s3 s4 CB B12 hk hlt
      go_wp2_with fail
      go_loopw [3, 5] (fun t3 t5 wr => ∃ (k : Nat) (p : Int), (k ≤ m ∧ -(b : Int) - 1 ≤ p ∧ p ≤ b ∧ Hid (p = (b : Int) - (k : Int)) ∧ PH 31 w wr t3 (wL (fA n) b m k)) ∧ t5 = .int .i64 p) (fun _ t5 _ => (intOf t5 + b + 1).toNat)
      case atStart => exact ⟨0, b, ⟨by omega, by omega, by omega, Lib.hid (by omega), World.ownsRow_nil _ _ _ _, Below.refl _ _⟩, rfl⟩
      case round =>
        obtain ⟨k, p, ⟨hk5, gp1, gp2, HPP, hP⟩, rfl⟩ := hrel
        have HP := Lib.hid hP
        clear hP
        by_cases hpp : -(b : Int) ≤ p
        · have t_p : decide (-(b : Int) ≤ p) = true := decide_eq_true hpp
          have u_p : decide (p ≥ -(b : Int)) = true := decide_eq_true hpp
          have hk4 : k + 1 ≤ m := by have := HPP.out; have := HM.out; omega
          go_wp2_with fail
          go_loopw [3, 6] (fun t3 t6 wr => ∃ (i : Nat) (x : Int), (i ≤ m ∧ -(b : Int) - 1 ≤ x ∧ x ≤ b ∧ Hid (x = (b : Int) - (i : Int)) ∧ PH 31 w wr t3 (wL (fA n) b m k ++ xL (fA n) b m p i)) ∧ t6 = .int .i64 x) (fun _ t6 _ => (intOf t6 + b + 1).toNat)
          case atStart => exact ⟨0, b, ⟨by omega, by omega, by omega, Lib.hid (by omega), by rw [xL_zero, List.append_nil]; exact HP.out⟩, rfl⟩
          case round =>
            clear HP
            obtain ⟨i, x, ⟨hi5, gx1, gx2, HXX, hP⟩, rfl⟩ := hrel
            have HP := Lib.hid hP
            clear hP
            by_cases hxx : -(b : Int) ≤ x
            · have t_x : decide (-(b : Int) ≤ x) = true := decide_eq_true hxx
              have u_x : decide (x ≥ -(b : Int)) = true := decide_eq_true hxx
              have hi4 : i + 1 ≤ m := by have := HXX.out; have := HM.out; omega
              go_wp2_with fail
              go_loopw [3, 7] (fun t3 t7 wr => ∃ (j : Nat) (y : Int), (j ≤ m ∧ -(b : Int) - 1 ≤ y ∧ y ≤ b ∧ Hid (y = (b : Int) - (j : Int)) ∧ PH 31 w wr t3 (wL (fA n) b m k ++ xL (fA n) b m p i ++ yL (fA n) b m p x j)) ∧ t7 = .int .i64 y) (fun _ t7 _ => (intOf t7 + b + 1).toNat)
              case atStart => exact ⟨0, b, ⟨by omega, by omega, by omega, Lib.hid (by omega), by rw [yL_zero, List.append_nil]; exact HP.out⟩, rfl⟩
              case round =>
                clear HP
                obtain ⟨j, y, ⟨hj5, gy1, gy2, HYY, hP⟩, rfl⟩ := hrel
                have HP := Lib.hid hP
                clear hP
                by_cases hyy : -(b : Int) ≤ y
                · have t_y : decide (-(b : Int) ≤ y) = true := decide_eq_true hyy
                  have u_y : decide (y ≥ -(b : Int)) = true := decide_eq_true hyy
                  have hj4 : j + 1 ≤ m := by have := HYY.out; have := HM.out; omega
                  go_wp2_with fail
                  go_loopw [3, 8] (fun t3 t8 wr => ∃ (t : Nat) (z : Int), (t ≤ m ∧ -(b : Int) - 1 ≤ z ∧ z ≤ b ∧ Hid (z = (b : Int) - (t : Int)) ∧ PH 31 w wr t3 (wL (fA n) b m k ++ xL (fA n) b m p i ++ yL (fA n) b m p x j ++ zL (fA n) b p x y t)) ∧ t8 = .int .i64 z) (fun _ t8 _ => (intOf t8 + b + 1).toNat)
                  case atStart => exact ⟨0, b, ⟨by omega, by omega, by omega, Lib.hid (by omega), by rw [zL_zero, List.append_nil]; exact HP.out⟩, rfl⟩
                  case round =>
                    clear HP
                    obtain ⟨t, z, ⟨ht5, gz1, gz2, HZZ, hP⟩, rfl⟩ := hrel
                    obtain ⟨wo, rfl⟩ : ∃ wo : World, wo = wr := ⟨_, rfl⟩
                    have HP := Lib.hid hP
                    clear hP
                    by_cases hzz : -(b : Int) ≤ z
                    · have t_z : decide (-(b : Int) ≤ z) = true := decide_eq_true hzz
                      have u_z : decide (z ≥ -(b : Int)) = true := decide_eq_true hzz
                      have ht4 : t + 1 ≤ m := by have := HZZ.out; have := HM.out; omega
                      have q0 := Alm.mb 15 15 (a := p) (b := p) ⟨by omega, by omega⟩ ⟨by omega, by omega⟩
                      have q1 := Alm.mb 15 15 (a := x) (b := x) ⟨by omega, by omega⟩ ⟨by omega, by omega⟩
                      have q2 := Alm.mb 15 15 (a := y) (b := y) ⟨by omega, by omega⟩ ⟨by omega, by omega⟩
                      have q3 := Alm.mb 15 15 (a := z) (b := z) ⟨by omega, by omega⟩ ⟨by omega, by omega⟩
                      obtain ⟨q0, q0'⟩ := q0
                      obtain ⟨q1, q1'⟩ := q1
                      obtain ⟨q2, q2'⟩ := q2
                      obtain ⟨q3, q3'⟩ := q3
                      have hsz : w.heap.size ≤ wo.heap.size := HP.out.2.size
                      have hll : (wL (fA n) b m k ++ xL (fA n) b m p i ++ yL (fA n) b m p x j ++ zL (fA n) b p x y t).length ≤ 1000000 := by
                        have m1 : m ≤ 29 := by have := HM.out; omega
                        have m2 := Nat.mul_le_mul m1 m1
                        have m3 := Nat.mul_le_mul m1 m2
                        simp only [List.length_append]
                        have g1 := wL_len (fA n) b m k
                        have g2 := xL_len (fA n) b m p i
                        have g3 := yL_len (fA n) b m p x j
                        have g4 := zL_len (fA n) b p x y t
                        have k1 := Nat.mul_le_mul (show k ≤ 29 by omega) m3
                        have k2 := Nat.mul_le_mul (show i ≤ 29 by omega) m2
                        have k3 := Nat.mul_le_mul (show j ≤ 29 by omega) m1
                        omega
                      rcases hsq : fA n ⟨p, x, y, z⟩ with _ | _
                      · have tt : (p * p + x * x + y * y + z * z == 4 * (n : Int)) = false := hsq
                        have HSQ := Lib.hid hsq
                        have HP9 := Lib.hid (PH.next HP.out ((Below.refl wo.heap.size wo).alloc (Nat.le_refl _) (.cells #[.int .i64 p, .int .i64 x, .int .i64 y, .int .i64 z] 31)))
                        clear hsq
                        go_wp2
                        go_roundw
                        case rel => exact ⟨t + 1, z - 1, ⟨by omega, by omega, by omega, Lib.hid (by have := HZZ.out; omega), by rw [zL_no (by rw [← HZZ.out, HSQ.out])]; exact HP9.out⟩, rfl⟩
                        case measure => simp [intOf]; omega
                      · have tt : (p * p + x * x + y * y + z * z == 4 * (n : Int)) = true := hsq
                        have HSQ := Lib.hid hsq
                        obtain ⟨pa1, pa2, pa3⟩ := fA_par hsq
                        have M1 := Lib.hid (fun W => Mod_even (p - x) W pa1 ⟨by omega, by omega⟩)
                        have M2 := Lib.hid (fun W => Mod_even (p - y) W pa2 ⟨by omega, by omega⟩)
                        have M3 := Lib.hid (fun W => Mod_even (p - z) W pa3 ⟨by omega, by omega⟩)
                        have HP9 := Lib.hid (PH.next HP.out ((Below.refl wo.heap.size wo).alloc (Nat.le_refl _) (.cells #[.int .i64 p, .int .i64 x, .int .i64 y, .int .i64 z] 31)))
                        clear hsq pa1 pa2 pa3
                        go_wp2_with (first
                          | (go_at_call 125; (with_reducible refine (M1.out _).mono ?_); rintro e w' ⟨rfl, rfl⟩)
                          | (go_at_call 125; (with_reducible refine (M2.out _).mono ?_); rintro e w' ⟨rfl, rfl⟩)
                          | (go_at_call 125; (with_reducible refine (M3.out _).mono ?_); rintro e w' ⟨rfl, rfl⟩)
                          | (at_builtin; refine wpList_append_own _ rfl _ _ 43 rfl w.heap.size 31 i0 (.agg #[.int .i64 0, .int .i64 0, .int .i64 0, .int .i64 0]) 4 32 Try.underlying43 hi hz0 hz1 hz2 rfl (by decide) _ _ _ rfl (HP9.out.1.alloc _) ⟨wo.heap.size + 1, 0, none⟩ 1 1 [.int .i64 p, .int .i64 x, .int .i64 y, .int .i64 z] rfl rfl (four_new _ _ _ _ _ _ _ (by simp)) (by intro u hu; simp at hu; rcases hu with rfl | rfl | rfl | rfl <;> rfl) (by unfold maxLen; omega) (by omega) (by simp; omega) ?_))
                        intro v2 wn hown2 hgrow2 _
                        have hbel2 : Below w.heap.size w wn := (HP9.out.2.alloc (by simp; omega) _).grown hgrow2 (by simp; omega) (fun j hj => (HP9.out.1.lt j hj).1)
                        have hP2 : PH 31 w wn v2 (wL (fA n) b m k ++ xL (fA n) b m p i ++ yL (fA n) b m p x j ++ zL (fA n) b p x y (t + 1)) := by
                          rw [zL_yes (by rw [← HZZ.out, HSQ.out]), ← List.append_assoc, ← HZZ.out]
                          exact ⟨by simp only [flatH_app, List.length_append, List.append_assoc, Nat.add_assoc, flatH, List.length_cons, List.length_nil, Nat.zero_add] at hown2 ⊢; exact hown2, hbel2⟩
                        have HP3 := Lib.hid hP2
                        clear hown2 hgrow2 hbel2 hP2
                        go_wp2
                        go_roundw
                        case rel => exact ⟨t + 1, z - 1, ⟨by omega, by omega, by omega, Lib.hid (by have := HZZ.out; omega), HP3.out⟩, rfl⟩
                        case measure => simp [intOf]; omega
                    · have t_z : decide (-(b : Int) ≤ z) = false := decide_eq_false hzz
                      have u_z : decide (z ≥ -(b : Int)) = false := decide_eq_false hzz
                      have HT : Hid (t = m) := Lib.hid (by have := HZZ.out; have := HM.out; omega)
                      go_wp2
                      go_roundw
                      case rel => exact ⟨j + 1, y - 1, ⟨by omega, by omega, by omega, Lib.hid (by have := HYY.out; omega), by rw [yL_succ, ← HYY.out, ← List.append_assoc]; have h := HP.out; rw [HT.out] at h; exact h⟩, rfl⟩
                      case measure => simp [intOf]; omega
                · have t_y : decide (-(b : Int) ≤ y) = false := decide_eq_false hyy
                  have u_y : decide (y ≥ -(b : Int)) = false := decide_eq_false hyy
                  have HT : Hid (j = m) := Lib.hid (by have := HYY.out; have := HM.out; omega)
                  go_wp2
                  go_roundw
                  case rel => exact ⟨i + 1, x - 1, ⟨by omega, by omega, by omega, Lib.hid (by have := HXX.out; omega), by rw [xL_succ, ← HXX.out, ← List.append_assoc]; have h := HP.out; rw [HT.out] at h; exact h⟩, rfl⟩
                  case measure => simp [intOf]; omega
            · have t_x : decide (-(b : Int) ≤ x) = false := decide_eq_false hxx
              have u_x : decide (x ≥ -(b : Int)) = false := decide_eq_false hxx
              have HT : Hid (i = m) := Lib.hid (by have := HXX.out; have := HM.out; omega)
              go_wp2
              go_roundw
              case rel => exact ⟨k + 1, p - 1, ⟨by omega, by omega, by omega, Lib.hid (by have := HPP.out; omega), by rw [wL_succ, ← HPP.out]; have h := HP.out; rw [HT.out] at h; exact h⟩, rfl⟩
              case measure => simp [intOf]; omega
        · have t_p : decide (-(b : Int) ≤ p) = false := decide_eq_false hpp
          have u_p : decide (p ≥ -(b : Int)) = false := decide_eq_false hpp
          have HT : Hid (k = m) := Lib.hid (by have := HPP.out; have := HM.out; omega)
          go_wp2
          go_ret
          exact ⟨_, rfl, by have h := HP.out.1; rw [HT.out] at h; exact h, HP.out.2⟩
end Go.Proofs.Yteiflfmpkfhkoaa.Rt
