/-
  WALK: jacobi returns the Jacobi symbol, for each odd modulus.
-/
import Derived.Test.YtgbnmnkgelklbaaStrip
import Derived.Test.YtgbnmnkgelklbaaJac
namespace Go.Proofs.Ytgbnmnkgelklbaa
open Go.RowKit
set_option linter.unusedVariables false
set_option maxRecDepth 100000
open Nt (jac rec4)
/-- a round of the algorithm -/
theorem jac_round {m q k : Nat} (hm : m % 2 = 1) (hq : q % 2 = 1) :
    jac ((q : Int) * 2 ^ k) m = (if k % 2 = 1 ∧ (m % 8 = 3 ∨ m % 8 = 5) then -1 else 1) * (rec4 q m * jac ((m % q : Nat) : Int) q) := by
  rw [Nt.jac_twos hm, Nt.jac_flip hq hm, ← Nt.jac_mod hq (m : Int)]
  rw [← Int.natCast_emod]
def JRel (J : Int) (x m : Nat) (s : Int) : Prop := m % 2 = 1 ∧ m ≤ 1000000000 ∧ x ≤ 1000000000 ∧ (s = 1 ∨ s = -1) ∧ s * jac (x : Int) m = J
theorem strip2 (x : Nat) (w : World) (h0 : 0 < x) (h1 : x ≤ 1000000000) :
    Calls Try.prog 55 #[.int .i64 x, .int .i64 2] w fun e w' => (∃ q k : Nat, e = .returned (.tuple #[.int .i64 q, .int .i64 k]) ∧ (x : Int) = (q : Int) * 2 ^ k ∧ q % 2 = 1 ∧ q ≤ x ∧ k ≤ x) ∧ w = w' := by
  refine (strip_any (x : Int) 2 w (by omega) (by omega) (by omega) (by omega) (by omega)).mono fun e w' ⟨⟨r, k, he, ⟨h2, h3, h4, h5⟩, h6⟩, hw⟩ => ⟨?_, hw⟩
  obtain ⟨q, rfl⟩ : ∃ q : Nat, r = q := ⟨r.toNat, by have := h5.1 (by omega); omega⟩
  exact ⟨q, k, he, h2, by omega, by omega, by omega⟩
set_option maxHeartbeats 4000000 in
theorem jacobi_any (a : Int) (n : Nat) (w : World) (h1 : n % 2 = 1) (h2 : n ≤ 1000000000) :
    Calls Try.prog 57 #[.int .i64 a, .int .i64 n] w fun e w' => e = .returned (.int .i64 (jac a n)) ∧ w = w' := by
  have e0 := Int.emod_nonneg a (b := (n : Int)) (by omega)
  have e1 := Int.emod_lt_of_pos a (b := (n : Int)) (by omega)
  have HJ := Lib.hid (Nt.jac_mod h1 a)
  have H1 := Lib.hid h1
  generalize hJ : jac a n = J at *
  clear hJ
  go_enter Try.func57, Try.ntmps57
  go_wp2_with (go_at_call 56; refine (residue_any _ _ _ (by omega) (by omega)).mono ?_; rintro e w' ⟨rfl, rfl⟩)
  go_loop [0, 1, 5, 6, 7] (fun t0 t1 t5 _ _ => ∃ (x m : Nat) (s : Int), JRel J x m s ∧ t0 = .int .i64 x ∧ t1 = .int .i64 m ∧ t5 = .int .i64 s) (fun t0 _ _ _ _ => (intOf t0).toNat)
  case atStart => exact ⟨(a % (n : Int)).toNat, n, 1, ⟨H1.out, h2, by omega, .inl rfl, by rw [Int.toNat_of_nonneg e0, Int.one_mul]; exact HJ.out⟩, by rw [Int.toNat_of_nonneg e0], rfl, rfl⟩
  case round =>
    obtain ⟨x, m, s, hrel, rfl, rfl, rfl⟩ := hrel
    obtain ⟨m1, m2, x2, hs, hj⟩ := hrel
    have mp : 0 < m := by omega
    by_cases hx : x = 0
    · subst hx
      by_cases hm : 1 < m
      · have hz := Nt.jac_zero m1 hm
        have hJ0 : J = 0 := by rw [← hj]; simp [hz]
        have HJ0 := Lib.hid hJ0
        clear hJ0 hz hj hs m1 h1
        go_wp2
        go_ret
        exact ⟨ret_int HJ0.out.symm, rfl⟩
      · have hm1 : m = 1 := by omega
        have hJ0 : s = J := by rw [← hj, hm1, Nt.jac_one]; omega
        have HJ0 := Lib.hid hJ0
        clear hJ0 hj hs m1 hm1 h1
        go_wp2
        go_ret
        exact ⟨ret_int HJ0.out, rfl⟩
    · have xp : 0 < x := by omega
      have ht : ((x : Int) != 0) = true := by rw [bne_iff_ne]; omega
      have HR := Lib.hid (show JRel J x m s from ⟨m1, m2, x2, hs, hj⟩)
      clear hx hj h1
      go_wp2_with (go_at_call 55; fail)
      refine (strip2 x w xp x2).mono ?_
      rintro e w' ⟨⟨q, k, rfl, hxq, hq, hqx, hkx⟩, rfl⟩
      have hrd := jac_round (k := k) m1 hq
      rw [← hxq] at hrd
      have qp : 0 < q := by omega
      have hlt : (m : Int) % q < q := Int.emod_lt_of_pos _ (by omega)
      have hnn : 0 ≤ (m : Int) % q := Int.emod_nonneg _ (by omega)
      obtain ⟨z, hz⟩ : ∃ z, z = m % q := ⟨_, rfl⟩
      have hmq : ((m : Int) % q) = (z : Int) := by rw [hz]; exact (Int.natCast_emod m q).symm
      have hzq : z < q := by rw [hz]; exact Nat.mod_lt _ qp
      rw [← hz] at hrd
      have HMQ := Lib.hid hmq
      have HQ := Lib.hid hq
      have hk2 : (k % 2 = 0 ∧ ((k : Int) % 2 == 1) = false) ∨ (k % 2 = 1 ∧ ((k : Int) % 2 == 1) = true) := by
        rcases Nat.mod_two_eq_zero_or_one k with h | h
        · exact .inl ⟨h, by simp; omega⟩
        · exact .inr ⟨h, by simp; omega⟩
      have hm8 : (m % 8 = 1 ∧ m % 4 = 1 ∧ ((m : Int) % 8 == 3) = false ∧ ((m : Int) % 8 == 5) = false ∧ ((m : Int) % 4 == 3) = false) ∨
          (m % 8 = 3 ∧ m % 4 = 3 ∧ ((m : Int) % 8 == 3) = true ∧ ((m : Int) % 8 == 5) = false ∧ ((m : Int) % 4 == 3) = true) ∨
          (m % 8 = 5 ∧ m % 4 = 1 ∧ ((m : Int) % 8 == 3) = false ∧ ((m : Int) % 8 == 5) = true ∧ ((m : Int) % 4 == 3) = false) ∨
          (m % 8 = 7 ∧ m % 4 = 3 ∧ ((m : Int) % 8 == 3) = false ∧ ((m : Int) % 8 == 5) = false ∧ ((m : Int) % 4 == 3) = true) := by
        have h : m % 8 = 1 ∨ m % 8 = 3 ∨ m % 8 = 5 ∨ m % 8 = 7 := by omega
        rcases h with h | h | h | h
        · exact .inl ⟨h, by omega, by simp; omega, by simp; omega, by simp; omega⟩
        · exact .inr (.inl ⟨h, by omega, by simp; omega, by simp; omega, by simp; omega⟩)
        · exact .inr (.inr (.inl ⟨h, by omega, by simp; omega, by simp; omega, by simp; omega⟩))
        · exact .inr (.inr (.inr ⟨h, by omega, by simp; omega, by simp; omega, by simp; omega⟩))
      have hq4 : (q % 4 = 1 ∧ ((q : Int) % 4 == 3) = false) ∨ (q % 4 = 3 ∧ ((q : Int) % 4 == 3) = true) := by
        have h : q % 4 = 1 ∨ q % 4 = 3 := by omega
        rcases h with h | h
        · exact .inl ⟨h, by simp; omega⟩
        · exact .inr ⟨h, by simp; omega⟩
      clear hxq hmq hq m1 hz
      rcases hs with rfl | rfl <;> rcases hk2 with ⟨hk2, t1⟩ | ⟨hk2, t1⟩ <;> rcases hm8 with ⟨hm8, hm4, t2, t3, t4⟩ | ⟨hm8, hm4, t2, t3, t4⟩ | ⟨hm8, hm4, t2, t3, t4⟩ | ⟨hm8, hm4, t2, t3, t4⟩ <;> rcases hq4 with ⟨hq4, t5⟩ | ⟨hq4, t5⟩
      all_goals
        simp [Nt.rec4, hk2, hm8, hq4, hm4] at hrd
        have HRD := Lib.hid hrd
        clear hrd hm8 hk2 hq4 hm4
        go_wp2
        go_round
        case rel => exact ⟨z, q, _, ⟨HQ.out, by omega, by omega, by simp, by have g1 := HR.out.2.2.2.2; have g2 := HRD.out; omega⟩, congrArg (Value.int .i64) HMQ.out, rfl, rfl⟩
        case measure => simp [intOf]; omega
end Go.Proofs.Ytgbnmnkgelklbaa
