/-
  WALK: strip: the factors p of a number are taken out and counted.
-/
import Derived.Test.YtgbnmnkgelklbaaGcd
namespace Go.Proofs.Ytgbnmnkgelklbaa
open Go.RowKit
set_option linter.unusedVariables false
set_option maxRecDepth 100000
def StRel (n p r : Int) (k : Nat) : Prop := n = r * p ^ k ∧ r ≠ 0 ∧ k + r.natAbs ≤ n.natAbs ∧ (0 < n ↔ 0 < r)
theorem tdiv_mul_of {r p : Int} (h : r.tmod p = 0) : r.tdiv p * p = r := by
  have := Int.mul_tdiv_add_tmod r p; rw [h] at this; rw [Int.mul_comm]; omega
theorem StRel.step {n p r : Int} {k : Nat} (hp : 2 ≤ p) (h : StRel n p r k) (hd : r.tmod p = 0) : StRel n p (r.tdiv p) (k + 1) ∧ (r.tdiv p).natAbs < r.natAbs := by
  obtain ⟨h1, h2, h3, h4⟩ := h
  have e := tdiv_mul_of hd
  have hne : r.tdiv p ≠ 0 := by intro h0; rw [h0] at e; simp at e; exact h2 e.symm
  have hlt : (r.tdiv p).natAbs < r.natAbs := by
    have e2 : (r.tdiv p).natAbs * p.natAbs = r.natAbs := by rw [← Int.natAbs_mul, e]
    have : (r.tdiv p).natAbs * 2 ≤ (r.tdiv p).natAbs * p.natAbs := Nat.mul_le_mul_left _ (by omega)
    omega
  have hsg : 0 < r ↔ 0 < r.tdiv p := by
    constructor
    · intro h
      by_cases h5 : 0 < r.tdiv p
      · exact h5
      · have : r.tdiv p * p ≤ 0 := Int.mul_nonpos_of_nonpos_of_nonneg (by omega) (by omega)
        omega
    · intro h
      have : 0 < r.tdiv p * p := Int.mul_pos h (by omega)
      omega
  refine ⟨⟨?_, hne, by omega, h4.trans hsg⟩, hlt⟩
  rw [Int.pow_succ, h1]
  conv => lhs; rw [← e]
  rw [Int.mul_assoc, Int.mul_comm p]
def StEnd (n p : Int) (e : Ending) : Prop := ∃ (r : Int) (k : Nat), e = .returned (.tuple #[.int .i64 r, .int .i64 k]) ∧ StRel n p r k ∧ ¬ p ∣ r
set_option maxHeartbeats 400000 in
theorem strip_any (n p : Int) (w : World) (hn : n ≠ 0) (hp : 2 ≤ p) (h1 : -9223372036854775808 ≤ n) (h2 : n ≤ 9223372036854775807) (h3 : p ≤ 9223372036854775807) :
    Calls Try.prog 55 #[.int .i64 n, .int .i64 p] w fun e w' => StEnd n p e ∧ w = w' := by
  have HN := Lib.hid hn
  clear hn
  go_enter Try.func55, Try.ntmps55
  go_wp2
  go_loop [4, 5] (fun t4 t5 => ∃ (r : Int) (k : Nat), StRel n p r k ∧ t4 = .int .i64 r ∧ t5 = .int .i64 k) (fun t4 _ => (intOf t4).natAbs)
  case atStart => exact ⟨n, 0, ⟨by simp, HN.out, by omega, Iff.rfl⟩, rfl, rfl⟩
  case round =>
    obtain ⟨r, k, hrel, rfl, rfl⟩ := hrel
    have hb := hrel.2.2.1
    have hsg := hrel.2.2.2
    have hr0 := hrel.2.1
    have b1 : -9223372036854775808 ≤ r := by omega
    have b2 : r ≤ 9223372036854775807 := by omega
    have HR := Lib.hid hrel
    clear hrel
    by_cases hd : r.tmod p = 0
    · have hst := HR.out.step hp hd
      have ht : (r.tmod p == 0) = true := by rw [hd]; rfl
      have b3 : (k : Int) < 9223372036854775807 := by
        have := hst.1.2.1; have := hst.2; omega
      have hmm : r.natAbs.div p.natAbs < r.natAbs := by have := hst.2; rw [Int.natAbs_tdiv] at this; exact this
      have HM := Lib.hid hmm
      have HS := Lib.hid hst
      clear hst hd hsg hr0 hb hmm
      go_wp2
      go_round
      case rel => exact ⟨_, k + 1, HS.out.1, rfl, by go_num⟩
      case measure => simp [intOf]; exact HM.out
    · have ht : (r.tmod p == 0) = false := by simp [hd]
      have HD := Lib.hid hd
      clear hd hsg hr0 hb
      go_wp2
      go_ret2
      exact ⟨⟨r, k, rfl, HR.out, fun hdv => HD.out (Int.tmod_eq_zero_of_dvd hdv)⟩, rfl⟩
end Go.Proofs.Ytgbnmnkgelklbaa
