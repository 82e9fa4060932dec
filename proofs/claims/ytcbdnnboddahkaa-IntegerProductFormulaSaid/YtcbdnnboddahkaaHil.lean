/-
  The Hilbert symbol: its formula, and WALKS of the small functions.
-/
import Derived.Test.YtcbdnnboddahkaaWPrime
import Derived.Test.YtcbdnnboddahkaaWJac
import Derived.Test.YtcbdnnboddahkaaPowR
namespace Go.Proofs.Ytcbdnnboddahkaa
open Go.RowKit
set_option linter.unusedVariables false
set_option maxRecDepth 100000
open Nt (Pr leg sg Sgn)
/-- what is left behind the factors p, and their number -/
def Val (n p u : Int) (s : Nat) : Prop := n = u * p ^ s ∧ ¬ p ∣ u
theorem Val.unique {n p u u' : Int} {s s' : Nat} (hp : 2 ≤ p) (h : Val n p u s) (h' : Val n p u' s') : u = u' ∧ s = s' := by
  have key : ∀ {u u' : Int} {s s' : Nat}, Val n p u s → Val n p u' s' → s < s' → False := by
    intro u u' s s' h h' hlt
    obtain ⟨k, rfl⟩ : ∃ k, s' = s + (k + 1) := ⟨s' - s - 1, by omega⟩
    have e := h.1.symm.trans h'.1
    rw [Int.pow_add, Int.mul_comm (p ^ s), ← Int.mul_assoc] at e
    have hne : p ^ s ≠ 0 := Int.pow_ne_zero (by omega)
    have := Int.eq_of_mul_eq_mul_right hne e
    exact h.2 (by rw [this, Int.pow_succ, ← Int.mul_assoc]; exact Int.dvd_mul_left _ _)
  have hs : s = s' := by
    rcases Nat.lt_trichotomy s s' with h1 | h1 | h1
    · exact (key h h' h1).elim
    · exact h1
    · exact (key h' h h1).elim
  subst hs
  refine ⟨?_, rfl⟩
  have e := h.1.symm.trans h'.1
  exact Int.eq_of_mul_eq_mul_right (Int.pow_ne_zero (by omega)) e
theorem Val.neg {n p u : Int} {s : Nat} (h : Val n p u s) : Val (-n) p (-u) s := ⟨by rw [h.1, Int.neg_mul], fun hd => h.2 (Int.dvd_neg.1 hd)⟩
theorem pow_small {p : Int} (hp : 2 ≤ p) : ∀ s : Nat, (2 : Int) ^ s ≤ p ^ s
  | 0 => by simp
  | s + 1 => by
    rw [Int.pow_succ, Int.pow_succ]
    have h := pow_small hp s
    have h0 : (0 : Int) ≤ 2 ^ s := Int.pow_nonneg (by omega)
    exact Int.mul_le_mul h hp (by omega) (by omega)
theorem two_pow_lt {s : Nat} (h : (2 : Int) ^ s ≤ 1000000000) : s ≤ 29 := by
  by_cases hs : s ≤ 29
  · exact hs
  · obtain ⟨k, rfl⟩ : ∃ k, s = 30 + k := ⟨s - 30, by omega⟩
    rw [Int.pow_add] at h
    have h1 : (1 : Int) ≤ 2 ^ k := by
      clear h hs
      induction k with
      | zero => simp
      | succ k ih => rw [Int.pow_succ]; omega
    have h2 : (2 : Int) ^ 30 = 1073741824 := by decide
    rw [h2] at h
    have : (1073741824 : Int) * 1 ≤ 1073741824 * 2 ^ k := Int.mul_le_mul_of_nonneg_left h1 (by omega)
    omega
theorem Val.small {n p u : Int} {s : Nat} (hp : 2 ≤ p) (h : Val n p u s) (hn : n ≠ 0) (h1 : -1000000000 ≤ n) (h2 : n ≤ 1000000000) : s ≤ 29 ∧ u ≠ 0 ∧ -1000000000 ≤ u ∧ u ≤ 1000000000 := by
  have hu : u ≠ 0 := by intro e; apply hn; rw [h.1, e, Int.zero_mul]
  have hps : 0 < p ^ s := Int.pow_pos (by omega)
  have e1 : n.natAbs = u.natAbs * (p ^ s).natAbs := by rw [← Int.natAbs_mul, ← h.1]
  have e2 : 1 * (p ^ s).natAbs ≤ u.natAbs * (p ^ s).natAbs := Nat.mul_le_mul_right _ (by omega)
  have e3 : u.natAbs * 1 ≤ u.natAbs * (p ^ s).natAbs := Nat.mul_le_mul_left _ (by omega)
  have h5 := pow_small hp s
  exact ⟨two_pow_lt (by omega), hu, by omega, by omega⟩
theorem strip_val (n p : Int) (w : World) (hn : n ≠ 0) (hp : 2 ≤ p) (hp' : p ≤ 1000000000) (h1 : -1000000000 ≤ n) (h2 : n ≤ 1000000000) :
    Calls Try.prog 128 #[.int .i64 n, .int .i64 p] w fun e w' => (∃ (u : Int) (s : Nat), e = .returned (.tuple #[.int .i64 u, .int .i64 s]) ∧ Val n p u s) ∧ w = w' :=
  (strip_any n p w hn hp (by omega) (by omega) (by omega)).mono fun e w' ⟨⟨r, k, he, hr, hd⟩, hw⟩ => ⟨⟨r, k, he, hr.1, hd⟩, hw⟩
/-- the symbol at 2, of odd numbers modulo 8 -/
def h2 (U V : Int) (s t : Nat) : Int :=
  (if U % 4 = 3 ∧ V % 4 = 3 then -1 else 1) * (if s % 2 = 1 ∧ (V = 3 ∨ V = 5) then -1 else 1) * (if t % 2 = 1 ∧ (U = 3 ∨ U = 5) then -1 else 1)
/-- the symbol at an odd prime -/
def hOdd (p : Nat) (u v : Int) (s t : Nat) : Int :=
  (if s % 2 = 1 ∧ t % 2 = 1 ∧ p % 4 = 3 then -1 else 1) * (if s % 2 = 1 then leg v p else 1) * (if t % 2 = 1 then leg u p else 1)
set_option maxHeartbeats 400000 in
theorem moi_t (w : World) : Calls Try.prog 132 #[.bool true] w fun e w' => e = .returned (.int .i64 (-1)) ∧ w = w' := by
  go_enter Try.func132, Try.ntmps132
  go_wp2
  go_ret
  exact ⟨rfl, rfl⟩
set_option maxHeartbeats 400000 in
theorem moi_f (w : World) : Calls Try.prog 132 #[.bool false] w fun e w' => e = .returned (.int .i64 1) ∧ w = w' := by
  go_enter Try.func132, Try.ntmps132
  go_wp2
  go_ret
  exact ⟨rfl, rfl⟩
def LegT (a : Int) (p : Nat) (T : Int) : Prop := leg a p = if T = 0 then 0 else if T = 1 then 1 else -1
theorem rpow_leg (a : Int) (p : Nat) (w : World) (hp : 3 ≤ p) (hp' : p ≤ 1000000000) :
    Calls Try.prog 122 #[.int .i64 a, .int .i64 (((p : Int) - 1) / 2), .int .i64 p] w fun e w' => (∃ T : Int, e = .returned (.int .i64 T) ∧ LegT a p T) ∧ w = w' := by
  refine (rpower_int a (((p : Int) - 1) / 2) p w (by omega) (by omega) (by omega) (by omega)).mono fun e w' ⟨he, hw⟩ => ⟨⟨_, he, ?_⟩, hw⟩
  have hh : (((p : Int) - 1) / 2).toNat = (p - 1) / 2 := by omega
  unfold LegT; rw [hh]; rfl
set_option maxHeartbeats 400000 in
theorem rleg_any (a : Int) (p : Nat) (w : World) (hp : 3 ≤ p) (hp' : p ≤ 1000000000) :
    Calls Try.prog 131 #[.int .i64 a, .int .i64 p] w fun e w' => e = .returned (.int .i64 (leg a p)) ∧ w = w' := by
  have hv0 : 0 ≤ ((p : Int) - 1) / 2 := by omega
  go_enter Try.func131, Try.ntmps131
  go_wp2_with fail
  refine (rpow_leg a p _ hp hp').mono ?_
  rintro e w' ⟨⟨T, rfl, hT⟩, rfl⟩
  have HT := Lib.hid hT
  clear hT
  by_cases h0 : T = 0
  · have t1 : (T == 0) = true := by rw [h0]; rfl
    have hv : leg a p = 0 := by rw [HT.out, if_pos h0]
    have HV := Lib.hid hv
    clear h0 hv
    go_wp2
    go_ret
    exact ⟨by rw [HV.out]; rfl, rfl⟩
  · have t1 : (T == 0) = false := by simp [h0]
    by_cases h1 : T = 1
    · have t2 : (T == 1) = true := by rw [h1]; rfl
      have hv : leg a p = 1 := by rw [HT.out, if_neg h0, if_pos h1]
      have HV := Lib.hid hv
      clear h0 h1 hv
      go_wp2
      go_ret
      exact ⟨by rw [HV.out]; rfl, rfl⟩
    · have t2 : (T == 1) = false := by simp [h1]
      have hv : leg a p = -1 := by rw [HT.out, if_neg h0, if_neg h1]
      have HV := Lib.hid hv
      clear h0 h1 hv
      go_wp2
      go_ret
      exact ⟨by rw [HV.out]; rfl, rfl⟩
theorem odd8 {u : Int} (h : ¬ (2 : Int) ∣ u) : u % 8 = 1 ∨ u % 8 = 3 ∨ u % 8 = 5 ∨ u % 8 = 7 := by omega
def HatEnd (a b : Int) (e : Ending) : Prop := ∃ (u v : Int) (s t : Nat), e = .returned (.int .i64 (h2 (u % 8) (v % 8) s t)) ∧ Val a 2 u s ∧ Val b 2 v t
set_option maxHeartbeats 8000000 in
theorem hat2 (a b : Int) (w : World) (ha : a ≠ 0) (hb : b ≠ 0) (a1 : -1000000000 ≤ a) (a2 : a ≤ 1000000000) (b1 : -1000000000 ≤ b) (b2 : b ≤ 1000000000) :
    Calls Try.prog 133 #[.int .i64 a, .int .i64 b] w fun e w' => HatEnd a b e ∧ w = w' := by
  go_enter Try.func133, Try.ntmps133
  go_wp2_with fail
  refine (strip_val a 2 _ ha (by omega) (by omega) a1 a2).mono ?_
  rintro e w' ⟨⟨u, s, rfl, hu⟩, rfl⟩
  go_wp2_with fail
  refine (strip_val b 2 _ hb (by omega) (by omega) b1 b2).mono ?_
  rintro e w' ⟨⟨v, t, rfl, hv⟩, rfl⟩
  have HU := Lib.hid hu
  have HV := Lib.hid hv
  have ou := odd8 hu.2
  have ov := odd8 hv.2
  have hs : (s % 2 = 0 ∧ ((s : Int) % 2 == 1) = false) ∨ (s % 2 = 1 ∧ ((s : Int) % 2 == 1) = true) := by
    rcases Nat.mod_two_eq_zero_or_one s with h | h
    · exact .inl ⟨h, by simp; omega⟩
    · exact .inr ⟨h, by simp; omega⟩
  have ht : (t % 2 = 0 ∧ ((t : Int) % 2 == 1) = false) ∨ (t % 2 = 1 ∧ ((t : Int) % 2 == 1) = true) := by
    rcases Nat.mod_two_eq_zero_or_one t with h | h
    · exact .inl ⟨h, by simp; omega⟩
    · exact .inr ⟨h, by simp; omega⟩
  clear hu hv ha hb
  rcases hs with ⟨hs, t1⟩ | ⟨hs, t1⟩ <;> rcases ht with ⟨ht, t2⟩ | ⟨ht, t2⟩ <;> rcases ou with eu | eu | eu | eu <;> rcases ov with ev | ev | ev | ev
  all_goals
    have HE := Lib.hid (⟨hs, ht, eu, ev⟩ : _ ∧ _ ∧ _ ∧ _)
    clear hs ht
    go_wp2_with (first | (go_at_call 114; refine (residue_any _ _ _ (by omega) (by omega)).mono ?_; rintro e w' ⟨rfl, rfl⟩) | (go_at_call 132; ((with_reducible refine (moi_t _).mono ?_); rintro e w' ⟨rfl, rfl⟩)) | (go_at_call 132; ((with_reducible refine (moi_f _).mono ?_); rintro e w' ⟨rfl, rfl⟩)))
    go_ret
    obtain ⟨hs, ht, eu', ev'⟩ := HE.out
    exact ⟨⟨u, v, s, t, ret_int (by rw [eu', ev']; simp [h2, hs, ht]), HU.out, HV.out⟩, rfl⟩
end Go.Proofs.Ytcbdnnboddahkaa
