/-
  The Hilbert symbol: its formula, and WALKS of the small functions.
  WALKS: the Hilbert symbol at an odd prime, and the whole function, in package integer.
  PLAIN MATHEMATICS: the Hilbert symbol is one number, symmetric, and 1 for a and -a.
  WALKS: the Hilbert symbol of the reference package.
  WALKS: the Hilbert symbol of the reference package, where there is no error.
  WALKS: the Hilbert symbol of the reference package, at an odd prime.
-/
import Derived.Test.YtgbnmnkgelklbaaWPrime
import Derived.Test.YtgbnmnkgelklbaaWJac
import Derived.Test.YtgbnmnkgelklbaaPowR
import Derived.Test.YtgbnmnkgelklbaaBez
namespace Go.Proofs.Ytgbnmnkgelklbaa
open Go.RowKit
set_option linter.unusedVariables false
set_option maxRecDepth 100000
open Nt (Pr leg sg Sgn)
/-- what is left behind the factors p, and their number -/
def Val (n p u : Int) (s : Nat) : Prop := n = u * p ^ s ∧ ¬ p ∣ u
theorem Val.unique {n p u u' : Int} {s s' : Nat} (hp : 2 ≤ p) (h : Val n p u s) (h' : Val n p u' s') : u = u' ∧ s = s' := by
  have key : ∀ {u u' : Int} {s s' : Nat}, Val n p u s → Val n p u' s' → s < s' → False := by
    intro u u' s s' h h' hlt
    obtain ⟨k, rfl⟩ : ∃ k, s' = s + (k + 1) := ⟨s' - s - 1, by omega⟩
    have e := h.1.symm.trans h'.1
    rw [Int.pow_add, Int.mul_comm (p ^ s), ← Int.mul_assoc] at e
    have hne : p ^ s ≠ 0 := Int.pow_ne_zero (by omega)
    have := Int.eq_of_mul_eq_mul_right hne e
    exact h.2 (by rw [this, Int.pow_succ, ← Int.mul_assoc]; exact Int.dvd_mul_left _ _)
  have hs : s = s' := by
    rcases Nat.lt_trichotomy s s' with h1 | h1 | h1
    · exact (key h h' h1).elim
    · exact h1
    · exact (key h' h h1).elim
  subst hs
  refine ⟨?_, rfl⟩
  have e := h.1.symm.trans h'.1
  exact Int.eq_of_mul_eq_mul_right (Int.pow_ne_zero (by omega)) e
theorem Val.neg {n p u : Int} {s : Nat} (h : Val n p u s) : Val (-n) p (-u) s := ⟨by rw [h.1, Int.neg_mul], fun hd => h.2 (Int.dvd_neg.1 hd)⟩
theorem pow_small {p : Int} (hp : 2 ≤ p) : ∀ s : Nat, (2 : Int) ^ s ≤ p ^ s
  | 0 => by simp
  | s + 1 => by
    rw [Int.pow_succ, Int.pow_succ]
    have h := pow_small hp s
    have h0 : (0 : Int) ≤ 2 ^ s := Int.pow_nonneg (by omega)
    exact Int.mul_le_mul h hp (by omega) (by omega)
theorem two_pow_lt {s : Nat} (h : (2 : Int) ^ s ≤ 1000000000) : s ≤ 29 := by
  by_cases hs : s ≤ 29
  · exact hs
  · obtain ⟨k, rfl⟩ : ∃ k, s = 30 + k := ⟨s - 30, by omega⟩
    rw [Int.pow_add] at h
    have h1 : (1 : Int) ≤ 2 ^ k := by
      clear h hs
      induction k with
      | zero => simp
      | succ k ih => rw [Int.pow_succ]; omega
    have h2 : (2 : Int) ^ 30 = 1073741824 := by decide
    rw [h2] at h
    have : (1073741824 : Int) * 1 ≤ 1073741824 * 2 ^ k := Int.mul_le_mul_of_nonneg_left h1 (by omega)
    omega
theorem Val.small {n p u : Int} {s : Nat} (hp : 2 ≤ p) (h : Val n p u s) (hn : n ≠ 0) (h1 : -1000000000 ≤ n) (h2 : n ≤ 1000000000) : s ≤ 29 ∧ u ≠ 0 ∧ -1000000000 ≤ u ∧ u ≤ 1000000000 := by
  have hu : u ≠ 0 := by intro e; apply hn; rw [h.1, e, Int.zero_mul]
  have hps : 0 < p ^ s := Int.pow_pos (by omega)
  have e1 : n.natAbs = u.natAbs * (p ^ s).natAbs := by rw [← Int.natAbs_mul, ← h.1]
  have e2 : 1 * (p ^ s).natAbs ≤ u.natAbs * (p ^ s).natAbs := Nat.mul_le_mul_right _ (by omega)
  have e3 : u.natAbs * 1 ≤ u.natAbs * (p ^ s).natAbs := Nat.mul_le_mul_left _ (by omega)
  have h5 := pow_small hp s
  exact ⟨two_pow_lt (by omega), hu, by omega, by omega⟩
theorem strip_val (n p : Int) (w : World) (hn : n ≠ 0) (hp : 2 ≤ p) (hp' : p ≤ 1000000000) (h1 : -1000000000 ≤ n) (h2 : n ≤ 1000000000) :
    Calls Try.prog 55 #[.int .i64 n, .int .i64 p] w fun e w' => (∃ (u : Int) (s : Nat), e = .returned (.tuple #[.int .i64 u, .int .i64 s]) ∧ Val n p u s) ∧ w = w' :=
  (strip_any n p w hn hp (by omega) (by omega) (by omega)).mono fun e w' ⟨⟨r, k, he, hr, hd⟩, hw⟩ => ⟨⟨r, k, he, hr.1, hd⟩, hw⟩
/-- the symbol at 2, of odd numbers modulo 8 -/
def h2 (U V : Int) (s t : Nat) : Int :=
  (if U % 4 = 3 ∧ V % 4 = 3 then -1 else 1) * (if s % 2 = 1 ∧ (V = 3 ∨ V = 5) then -1 else 1) * (if t % 2 = 1 ∧ (U = 3 ∨ U = 5) then -1 else 1)
/-- the symbol at an odd prime -/
def hOdd (p : Nat) (u v : Int) (s t : Nat) : Int :=
  (if s % 2 = 1 ∧ t % 2 = 1 ∧ p % 4 = 3 then -1 else 1) * (if s % 2 = 1 then leg v p else 1) * (if t % 2 = 1 then leg u p else 1)
set_option maxHeartbeats 400000 in
theorem moi_t (w : World) : Calls Try.prog 31 #[.bool true] w fun e w' => e = .returned (.int .i64 (-1)) ∧ w = w' := by
  go_enter Try.func31, Try.ntmps31
  go_wp2
  go_ret
  exact ⟨rfl, rfl⟩
set_option maxHeartbeats 400000 in
theorem moi_f (w : World) : Calls Try.prog 31 #[.bool false] w fun e w' => e = .returned (.int .i64 1) ∧ w = w' := by
  go_enter Try.func31, Try.ntmps31
  go_wp2
  go_ret
  exact ⟨rfl, rfl⟩
def LegT (a : Int) (p : Nat) (T : Int) : Prop := leg a p = if T = 0 then 0 else if T = 1 then 1 else -1
theorem odd8 {u : Int} (h : ¬ (2 : Int) ∣ u) : u % 8 = 1 ∨ u % 8 = 3 ∨ u % 8 = 5 ∨ u % 8 = 7 := by omega
def HatEnd (a b : Int) (e : Ending) : Prop := ∃ (u v : Int) (s t : Nat), e = .returned (.int .i64 (h2 (u % 8) (v % 8) s t)) ∧ Val a 2 u s ∧ Val b 2 v t
set_option maxHeartbeats 8000000 in
theorem hat2 (a b : Int) (w : World) (ha : a ≠ 0) (hb : b ≠ 0) (a1 : -1000000000 ≤ a) (a2 : a ≤ 1000000000) (b1 : -1000000000 ≤ b) (b2 : b ≤ 1000000000) :
    Calls Try.prog 32 #[.int .i64 a, .int .i64 b] w fun e w' => HatEnd a b e ∧ w = w' := by
  go_enter Try.func32, Try.ntmps32
  go_wp2_with fail
  refine (strip_val a 2 _ ha (by omega) (by omega) a1 a2).mono ?_
  rintro e w' ⟨⟨u, s, rfl, hu⟩, rfl⟩
  go_wp2_with fail
  refine (strip_val b 2 _ hb (by omega) (by omega) b1 b2).mono ?_
  rintro e w' ⟨⟨v, t, rfl, hv⟩, rfl⟩
  have HU := Lib.hid hu
  have HV := Lib.hid hv
  have ou := odd8 hu.2
  have ov := odd8 hv.2
  have hs : (s % 2 = 0 ∧ ((s : Int) % 2 == 1) = false) ∨ (s % 2 = 1 ∧ ((s : Int) % 2 == 1) = true) := by
    rcases Nat.mod_two_eq_zero_or_one s with h | h
    · exact .inl ⟨h, by simp; omega⟩
    · exact .inr ⟨h, by simp; omega⟩
  have ht : (t % 2 = 0 ∧ ((t : Int) % 2 == 1) = false) ∨ (t % 2 = 1 ∧ ((t : Int) % 2 == 1) = true) := by
    rcases Nat.mod_two_eq_zero_or_one t with h | h
    · exact .inl ⟨h, by simp; omega⟩
    · exact .inr ⟨h, by simp; omega⟩
  clear hu hv ha hb
  rcases hs with ⟨hs, t1⟩ | ⟨hs, t1⟩ <;> rcases ht with ⟨ht, t2⟩ | ⟨ht, t2⟩ <;> rcases ou with eu | eu | eu | eu <;> rcases ov with ev | ev | ev | ev
  all_goals
    have HE := Lib.hid (⟨hs, ht, eu, ev⟩ : _ ∧ _ ∧ _ ∧ _)
    clear hs ht
    go_wp2_with (first | (go_at_call 56; refine (residue_any _ _ _ (by omega) (by omega)).mono ?_; rintro e w' ⟨rfl, rfl⟩) | (go_at_call 31; ((with_reducible refine (moi_t _).mono ?_); rintro e w' ⟨rfl, rfl⟩)) | (go_at_call 31; ((with_reducible refine (moi_f _).mono ?_); rintro e w' ⟨rfl, rfl⟩)))
    go_ret
    obtain ⟨hs, ht, eu', ev'⟩ := HE.out
    exact ⟨⟨u, v, s, t, ret_int (by rw [eu', ev']; simp [h2, hs, ht]), HU.out, HV.out⟩, rfl⟩
end Go.Proofs.Ytgbnmnkgelklbaa
namespace Go.Proofs.Ytgbnmnkgelklbaa
open Go.RowKit
set_option linter.unusedVariables false
set_option maxRecDepth 100000
open Nt (Pr leg sg Sgn)
theorem jleg_any (a : Int) (p : Nat) (w : World) (hp : Pr p) (ho : p % 2 = 1) (hp' : p ≤ 1000000000) :
    Calls Try.prog 57 #[.int .i64 a, .int .i64 p] w fun e w' => e = .returned (.int .i64 (leg a p)) ∧ w = w' := by
  have h := jacobi_any a p w ho hp'
  rw [Nt.jac_prime a hp ho] at h
  exact h
theorem leg_pm {a : Int} {p : Nat} (hp : Pr p) (ho : p % 2 = 1) (h : ¬ (p : Int) ∣ a) : leg a p = 1 ∨ leg a p = -1 := by
  rcases Nt.leg_sgn a p with e | e | e
  · have := Nt.leg_sq hp ho h
    rw [e] at this; simp at this
  · exact .inl e
  · exact .inr e
def HaoEnd (a b : Int) (p : Nat) (e : Ending) : Prop := ∃ (u v : Int) (s t : Nat), e = .returned (.int .i64 (hOdd p u v s t)) ∧ Val a p u s ∧ Val b p v t
set_option maxHeartbeats 8000000 in
theorem hatOdd (a b : Int) (p : Nat) (w : World) (hp : Pr p) (ho : p % 2 = 1) (hp' : p ≤ 1000000000) (ha : a ≠ 0) (hb : b ≠ 0) (a1 : -1000000000 ≤ a) (a2 : a ≤ 1000000000) (b1 : -1000000000 ≤ b) (b2 : b ≤ 1000000000) :
    Calls Try.prog 33 #[.int .i64 a, .int .i64 b, .int .i64 p] w fun e w' => HaoEnd a b p e ∧ w = w' := by
  have p3 : 3 ≤ p := by have := hp.1; omega
  have p2 : (2 : Int) ≤ p := by omega
  have p9 : (p : Int) ≤ 1000000000 := by omega
  have HP := Lib.hid hp
  have HO := Lib.hid ho
  clear hp ho
  go_enter Try.func33, Try.ntmps33
  go_wp2_with fail
  refine (strip_val a p _ ha p2 p9 a1 a2).mono ?_
  rintro e w' ⟨⟨u, s, rfl, hu⟩, rfl⟩
  go_wp2_with fail
  refine (strip_val b p _ hb p2 p9 b1 b2).mono ?_
  rintro e w' ⟨⟨v, t, rfl, hv⟩, rfl⟩
  have HU := Lib.hid hu
  have HV := Lib.hid hv
  have lu := leg_pm HP.out HO.out hu.2
  have lv := leg_pm HP.out HO.out hv.2
  have hs : (s % 2 = 0 ∧ ((s : Int) % 2 == 1) = false) ∨ (s % 2 = 1 ∧ ((s : Int) % 2 == 1) = true) := by
    rcases Nat.mod_two_eq_zero_or_one s with h | h
    · exact .inl ⟨h, by simp; omega⟩
    · exact .inr ⟨h, by simp; omega⟩
  have ht : (t % 2 = 0 ∧ ((t : Int) % 2 == 1) = false) ∨ (t % 2 = 1 ∧ ((t : Int) % 2 == 1) = true) := by
    rcases Nat.mod_two_eq_zero_or_one t with h | h
    · exact .inl ⟨h, by simp; omega⟩
    · exact .inr ⟨h, by simp; omega⟩
  have h4 : (p % 4 = 1 ∧ ((p : Int) % 4 == 3) = false) ∨ (p % 4 = 3 ∧ ((p : Int) % 4 == 3) = true) := by
    have h : p % 4 = 1 ∨ p % 4 = 3 := by have := HO.out; omega
    rcases h with h | h
    · exact .inl ⟨h, by simp; omega⟩
    · exact .inr ⟨h, by simp; omega⟩
  clear hu hv ha hb
  rcases hs with ⟨hs, t1⟩ | ⟨hs, t1⟩ <;> rcases ht with ⟨ht, t2⟩ | ⟨ht, t2⟩ <;> rcases h4 with ⟨h4, t3⟩ | ⟨h4, t3⟩ <;> rcases lu with lu | lu <;> rcases lv with lv | lv
  all_goals
    have HE := Lib.hid (⟨hs, ht, h4, lu, lv⟩ : _ ∧ _ ∧ _ ∧ _ ∧ _)
    clear hs ht h4
    go_wp2_with (first | (go_at_call 57; refine (jleg_any _ _ _ HP.out HO.out hp').mono ?_; rintro e w' ⟨rfl, rfl⟩) | (go_at_call 31; ((with_reducible refine (moi_t _).mono ?_); rintro e w' ⟨rfl, rfl⟩)) | (go_at_call 31; ((with_reducible refine (moi_f _).mono ?_); rintro e w' ⟨rfl, rfl⟩)))
    go_ret
    obtain ⟨hs, ht, h4, lu', lv'⟩ := HE.out
    exact ⟨⟨u, v, s, t, ret_int (by unfold hOdd; rw [lu', lv']; simp [hs, ht, h4]), HU.out, HV.out⟩, rfl⟩
def inB' (a : Int) : Bool := withinB a (-1000000000) 1000000000
/-- the value of the symbol -/
def HV (a b p x : Int) : Prop :=
  (p = 0 ∧ x = if a < 0 ∧ b < 0 then -1 else 1) ∨
  (p = 2 ∧ ∃ (u v : Int) (s t : Nat), x = h2 (u % 8) (v % 8) s t ∧ Val a 2 u s ∧ Val b 2 v t) ∨
  (p ≠ 2 ∧ prB p = true ∧ ∃ (u v : Int) (s t : Nat), x = hOdd p.toNat u v s t ∧ Val a p u s ∧ Val b p v t)
/-- what Hilbert hands back -/
def HilRes (a b p x e : Int) : Prop :=
  ((a = 0 ∨ b = 0) ∧ x = 0 ∧ e = 10) ∨
  (a ≠ 0 ∧ b ≠ 0 ∧ (inB' a && inB' b) = false ∧ x = 0 ∧ e = 2) ∨
  (a ≠ 0 ∧ b ≠ 0 ∧ (inB' a && inB' b) = true ∧ p ≠ 0 ∧ prB p = false ∧ x = 0 ∧ e = 11) ∨
  (a ≠ 0 ∧ b ≠ 0 ∧ (inB' a && inB' b) = true ∧ (p = 0 ∨ prB p = true) ∧ HV a b p x ∧ e = 0)
def HilEnd (a b p : Int) (e : Ending) : Prop := ∃ x l : Int, e = .returned (.tuple #[.int .i64 x, .int .i64 l]) ∧ HilRes a b p x l
theorem pr_two : Pr 2 := ⟨by omega, fun d hd => by have := Nat.le_of_dvd (by omega) hd; have : d ≠ 0 := by rintro rfl; simp at hd
                                                   omega⟩
theorem prB_two : prB 2 = true := prB_t ⟨by omega, by omega, pr_two⟩
theorem pr_odd {p : Nat} (hp : Pr p) (h : p ≠ 2) : p % 2 = 1 := by
  rcases Nat.mod_two_eq_zero_or_one p with h0 | h0
  · rcases hp.2 2 (Nat.dvd_of_mod_eq_zero h0) with e | e <;> omega
  · exact h0
set_option maxHeartbeats 2000000 in
theorem hil63 (a b p : Int) (w : World) : Calls Try.prog 9 #[.int .i64 a, .int .i64 b, .int .i64 p] w fun e w' => HilEnd a b p e ∧ w = w' := by
  rcases za : (a == 0) with _ | _
  case true =>
    have ea : a = 0 := by simpa using za
    have EA := Lib.hid ea
    clear ea
    go_enter Try.func9, Try.ntmps9
    go_wp2_with fail
    go_ret2
    exact ⟨⟨0, 10, rfl, .inl ⟨.inl EA.out, rfl, rfl⟩⟩, rfl⟩
  have ea : a ≠ 0 := by simpa using za
  have EA := Lib.hid ea
  clear ea
  rcases zb : (b == 0) with _ | _
  case true =>
    have eb : b = 0 := by simpa using zb
    have EB := Lib.hid eb
    clear eb
    go_enter Try.func9, Try.ntmps9
    go_wp2_with fail
    go_ret2
    exact ⟨⟨0, 10, rfl, .inl ⟨.inr EB.out, rfl, rfl⟩⟩, rfl⟩
  have eb : b ≠ 0 := by simpa using zb
  have EB := Lib.hid eb
  clear eb
  rcases ia : withinB a (-1000000000) 1000000000 with _ | _
  · go_enter Try.func9, Try.ntmps9
    go_wp2_with (go_at_call 30; refine (withinMod_any _ _).mono ?_; rintro e w' ⟨rfl, rfl⟩)
    go_ret2
    exact ⟨⟨0, 2, rfl, .inr (.inl ⟨EA.out, EB.out, by unfold inB'; rw [ia]; rfl, rfl, rfl⟩)⟩, rfl⟩
  rcases ib : withinB b (-1000000000) 1000000000 with _ | _
  · go_enter Try.func9, Try.ntmps9
    go_wp2_with (go_at_call 30; refine (withinMod_any _ _).mono ?_; rintro e w' ⟨rfl, rfl⟩)
    go_ret2
    exact ⟨⟨0, 2, rfl, .inr (.inl ⟨EA.out, EB.out, by unfold inB'; rw [ia, ib]; rfl, rfl, rfl⟩)⟩, rfl⟩
  have hin : (inB' a && inB' b) = true := by unfold inB'; rw [ia, ib]; rfl
  have HIN := Lib.hid hin
  clear hin
  obtain ⟨a1, a2⟩ := withinB_of ia
  obtain ⟨b1, b2⟩ := withinB_of ib
  by_cases p0 : p = 0
  · subst p0
    rcases (show (a < 0 ∧ b < 0) ∨ (a < 0 ∧ ¬ b < 0) ∨ ¬ a < 0 by omega) with ⟨c1, c2⟩ | ⟨c1, c2⟩ | c1
    · have HC := Lib.hid (⟨c1, c2⟩ : a < 0 ∧ b < 0)
      go_enter Try.func9, Try.ntmps9
      go_wp2_with (first | (go_at_call 30; refine (withinMod_any _ _).mono ?_; rintro e w' ⟨rfl, rfl⟩) | (go_at_call 31; ((with_reducible refine (moi_t _).mono ?_); rintro e w' ⟨rfl, rfl⟩)) | (go_at_call 31; ((with_reducible refine (moi_f _).mono ?_); rintro e w' ⟨rfl, rfl⟩)))
      go_ret2
      exact ⟨⟨-1, 0, rfl, .inr (.inr (.inr ⟨EA.out, EB.out, HIN.out, .inl rfl, .inl ⟨rfl, by rw [if_pos HC.out]⟩, rfl⟩))⟩, rfl⟩
    · have HC := Lib.hid (fun h => c2 h.2 : ¬ (a < 0 ∧ b < 0))
      have tb : decide (b < 0) = false := decide_eq_false c2
      go_enter Try.func9, Try.ntmps9
      go_wp2_with (first | (go_at_call 30; refine (withinMod_any _ _).mono ?_; rintro e w' ⟨rfl, rfl⟩) | (go_at_call 31; ((with_reducible refine (moi_t _).mono ?_); rintro e w' ⟨rfl, rfl⟩)) | (go_at_call 31; ((with_reducible refine (moi_f _).mono ?_); rintro e w' ⟨rfl, rfl⟩)))
      go_ret2
      exact ⟨⟨1, 0, rfl, .inr (.inr (.inr ⟨EA.out, EB.out, HIN.out, .inl rfl, .inl ⟨rfl, by rw [if_neg HC.out]⟩, rfl⟩))⟩, rfl⟩
    · have HC := Lib.hid (fun h => c1 h.1 : ¬ (a < 0 ∧ b < 0))
      go_enter Try.func9, Try.ntmps9
      go_wp2_with (first | (go_at_call 30; refine (withinMod_any _ _).mono ?_; rintro e w' ⟨rfl, rfl⟩) | (go_at_call 31; ((with_reducible refine (moi_t _).mono ?_); rintro e w' ⟨rfl, rfl⟩)) | (go_at_call 31; ((with_reducible refine (moi_f _).mono ?_); rintro e w' ⟨rfl, rfl⟩)))
      go_ret2
      exact ⟨⟨1, 0, rfl, .inr (.inr (.inr ⟨EA.out, EB.out, HIN.out, .inl rfl, .inl ⟨rfl, by rw [if_neg HC.out]⟩, rfl⟩))⟩, rfl⟩
  by_cases p2 : p = 2
  · subst p2
    clear p0
    go_enter Try.func9, Try.ntmps9
    go_wp2_with (first | (go_at_call 30; refine (withinMod_any _ _).mono ?_; rintro e w' ⟨rfl, rfl⟩) | (go_at_call 32; refine (hat2 _ _ _ EA.out EB.out a1 a2 b1 b2).mono ?_; rintro e w' ⟨⟨u, v, s, t, rfl, hu, hv⟩, rfl⟩; replace hu := Lib.hid hu; replace hv := Lib.hid hv))
    go_ret2
    exact ⟨⟨_, 0, rfl, .inr (.inr (.inr ⟨EA.out, EB.out, HIN.out, .inr prB_two, .inr (.inl ⟨rfl, u, v, s, t, rfl, hu.out, hv.out⟩), rfl⟩))⟩, rfl⟩
  have z0 : (p == 0) = false := by simp [p0]
  have z2 : (p == 2) = false := by simp [p2]
  have P0 := Lib.hid p0
  have P2 := Lib.hid p2
  clear p0 p2
  rcases hp : prB p with _ | _
  · go_enter Try.func9, Try.ntmps9
    go_wp2_with (first | (go_at_call 30; refine (withinMod_any _ _).mono ?_; rintro e w' ⟨rfl, rfl⟩) | (go_at_call 10; refine (isPrime_any _ _).mono ?_; rintro e w' ⟨rfl, rfl⟩))
    go_ret2
    exact ⟨⟨0, 11, rfl, .inr (.inr (.inl ⟨EA.out, EB.out, HIN.out, P0.out, hp, rfl, rfl⟩))⟩, rfl⟩
  · obtain ⟨c1, c2, c3⟩ := prB_of hp
    obtain ⟨k, rfl⟩ : ∃ k : Nat, p = k := ⟨p.toNat, by omega⟩
    rw [Int.toNat_natCast] at c3
    have ko : k % 2 = 1 := pr_odd c3 (fun h => P2.out (by omega))
    have C3 := Lib.hid c3
    have KO := Lib.hid ko
    clear c3 ko
    go_enter Try.func9, Try.ntmps9
    go_wp2_with (first | (go_at_call 30; refine (withinMod_any _ _).mono ?_; rintro e w' ⟨rfl, rfl⟩) | (go_at_call 10; refine (isPrime_any _ _).mono ?_; rintro e w' ⟨rfl, rfl⟩) | (go_at_call 33; refine (hatOdd _ _ _ _ C3.out KO.out (by omega) EA.out EB.out a1 a2 b1 b2).mono ?_; rintro e w' ⟨⟨u, v, s, t, rfl, hu, hv⟩, rfl⟩; replace hu := Lib.hid hu; replace hv := Lib.hid hv))
    go_ret2
    exact ⟨⟨_, 0, rfl, .inr (.inr (.inr ⟨EA.out, EB.out, HIN.out, .inr hp, .inr (.inr ⟨P2.out, hp, u, v, s, t, rfl, hu.out, hv.out⟩), rfl⟩))⟩, rfl⟩
end Go.Proofs.Ytgbnmnkgelklbaa
namespace Go.Proofs.Ytgbnmnkgelklbaa
open Nt (Pr leg sg Sgn)
set_option linter.unusedVariables false
theorem nope {p : Int} (h4 : p ≠ 0) (h5 : prB p = false) (k4 : p = 0 ∨ prB p = true) : False := by
  rcases k4 with k | k
  · exact h4 k
  · rw [k] at h5; cases h5
theorem h2_symm (U V : Int) (s t : Nat) : h2 U V s t = h2 V U t s := by
  unfold h2
  have e : (U % 4 = 3 ∧ V % 4 = 3) ↔ (V % 4 = 3 ∧ U % 4 = 3) := And.comm
  simp only [e]; grind
theorem hOdd_symm (p : Nat) (u v : Int) (s t : Nat) : hOdd p u v s t = hOdd p v u t s := by
  unfold hOdd
  have e : (s % 2 = 1 ∧ t % 2 = 1 ∧ p % 4 = 3) ↔ (t % 2 = 1 ∧ s % 2 = 1 ∧ p % 4 = 3) := by omega
  simp only [e]; grind
theorem HV.unique {a b p x y : Int} (hp : p = 0 ∨ prB p = true) (hx : HV a b p x) (hy : HV a b p y) : x = y := by
  rcases hx with ⟨e1, e2⟩ | ⟨e1, u, v, s, t, e2, hu, hv⟩ | ⟨e1, e3, u, v, s, t, e2, hu, hv⟩ <;> rcases hy with ⟨f1, f2⟩ | ⟨f1, u', v', s', t', f2, hu', hv'⟩ | ⟨f1, f3, u', v', s', t', f2, hu', hv'⟩
  · rw [e2, f2]
  · omega
  · have := (prB_of f3).1; omega
  · omega
  · obtain ⟨rfl, rfl⟩ := hu.unique (by omega) hu'
    obtain ⟨rfl, rfl⟩ := hv.unique (by omega) hv'
    rw [e2, f2]
  · exact absurd e1 f1
  · have := (prB_of e3).1; omega
  · exact absurd f1 e1
  · have hp2 := (prB_of e3).1
    obtain ⟨rfl, rfl⟩ := hu.unique hp2 hu'
    obtain ⟨rfl, rfl⟩ := hv.unique hp2 hv'
    rw [e2, f2]
theorem HV.symm {a b p x : Int} (h : HV a b p x) : HV b a p x := by
  rcases h with ⟨e1, e2⟩ | ⟨e1, u, v, s, t, e2, hu, hv⟩ | ⟨e1, e3, u, v, s, t, e2, hu, hv⟩
  · refine .inl ⟨e1, ?_⟩
    rw [e2]; have e : (a < 0 ∧ b < 0) ↔ (b < 0 ∧ a < 0) := And.comm
    simp only [e]
  · exact .inr (.inl ⟨e1, v, u, t, s, by rw [e2, h2_symm], hv, hu⟩)
  · exact .inr (.inr ⟨e1, e3, v, u, t, s, by rw [e2, hOdd_symm], hv, hu⟩)
theorem HilRes.unique {a b p x e y f : Int} (h : HilRes a b p x e) (h' : HilRes a b p y f) : x = y ∧ e = f := by
  rcases h with ⟨h1, rfl, rfl⟩ | ⟨h1, h2, h3, rfl, rfl⟩ | ⟨h1, h2, h3, h4, h5, rfl, rfl⟩ | ⟨h1, h2, h3, h4, h5, rfl⟩ <;> rcases h' with ⟨k1, rfl, rfl⟩ | ⟨k1, k2, k3, rfl, rfl⟩ | ⟨k1, k2, k3, k4, k5, rfl, rfl⟩ | ⟨k1, k2, k3, k4, k5, rfl⟩
  all_goals first
    | exact ⟨rfl, rfl⟩
    | (rcases h1 with h1 | h1 <;> contradiction)
    | (rcases k1 with k1 | k1 <;> contradiction)
    | (rw [h3] at k3; cases k3; done)
    | exact (nope h4 h5 k4).elim
    | exact (nope k4 k5 h4).elim
    | exact ⟨HV.unique h4 h5 k5, rfl⟩
theorem HilRes.symm {a b p x e : Int} (h : HilRes a b p x e) : HilRes b a p x e := by
  rcases h with ⟨h1, h2, h3⟩ | ⟨h1, h2, h3, h4, h5⟩ | ⟨h1, h2, h3, h4, h5, h6, h7⟩ | ⟨h1, h2, h3, h4, h5, h6⟩
  · exact .inl ⟨h1.symm, h2, h3⟩
  · exact .inr (.inl ⟨h2, h1, by rw [Bool.and_comm]; exact h3, h4, h5⟩)
  · exact .inr (.inr (.inl ⟨h2, h1, by rw [Bool.and_comm]; exact h3, h4, h5, h6, h7⟩))
  · exact .inr (.inr (.inr ⟨h2, h1, by rw [Bool.and_comm]; exact h3, h4, h5.symm, h6⟩))
/-- the symbol of a and -a -/
theorem HV.neg {a p x : Int} (ha : a ≠ 0) (h : HV a (-a) p x) : x = 1 := by
  rcases h with ⟨e1, e2⟩ | ⟨e1, u, v, s, t, e2, hu, hv⟩ | ⟨e1, e3, u, v, s, t, e2, hu, hv⟩
  · rw [e2, if_neg (by omega)]
  · obtain ⟨rfl, rfl⟩ := hv.unique (by omega) hu.neg
    have hu2 := hu.2
    have ou : u % 8 = 1 ∨ u % 8 = 3 ∨ u % 8 = 5 ∨ u % 8 = 7 := by omega
    rw [e2]
    rcases ou with e | e | e | e
    · have e' : (-u) % 8 = 7 := by omega
      rw [e, e']; simp [h2]
    · have e' : (-u) % 8 = 5 := by omega
      rw [e, e']; simp [h2]; split <;> rfl
    · have e' : (-u) % 8 = 3 := by omega
      rw [e, e']; simp [h2]; split <;> rfl
    · have e' : (-u) % 8 = 1 := by omega
      rw [e, e']; simp [h2]
  · obtain ⟨p2, p9, hpr⟩ := prB_of e3
    obtain ⟨k, rfl⟩ : ∃ k : Nat, p = k := ⟨p.toNat, by omega⟩
    rw [Int.toNat_natCast] at hpr e2
    have ko : k % 2 = 1 := pr_odd hpr (fun h => e1 (by omega))
    obtain ⟨rfl, rfl⟩ := hv.unique p2 hu.neg
    rw [e2]
    unfold hOdd
    have hl : leg (-u) k = leg (-1) k * leg u k := by
      rw [← Nt.leg_mul hpr ko]; congr 1; omega
    have hsq := Nt.leg_sq hpr ko hu.2
    have h1 := Nt.leg_neg_one hpr ko
    rcases Nat.mod_two_eq_zero_or_one t with hs | hs
    · simp [hs]
    · have h4 : k % 4 = 1 ∨ k % 4 = 3 := by omega
      rcases h4 with h4 | h4
      · have h5 : (k - 1) / 2 % 2 = 0 := by omega
        rw [hl, h1]
        simp [hs, h4, Nt.sg, h5, hsq]
      · have h5 : (k - 1) / 2 % 2 = 1 := by omega
        rw [hl, h1]
        simp [hs, h4, Nt.sg, h5, hsq]
end Go.Proofs.Ytgbnmnkgelklbaa
namespace Go.Proofs.Ytgbnmnkgelklbaa
open Go.RowKit
set_option linter.unusedVariables false
set_option maxRecDepth 100000
open Nt (Pr leg sg Sgn)
def ChkRes (a b p e : Int) : Prop :=
  ((a = 0 ∨ b = 0) ∧ e = 10) ∨ (a ≠ 0 ∧ b ≠ 0 ∧ (inB' a && inB' b) = false ∧ e = 2) ∨
  (a ≠ 0 ∧ b ≠ 0 ∧ (inB' a && inB' b) = true ∧ p ≠ 0 ∧ prB p = false ∧ e = 11) ∨
  (a ≠ 0 ∧ b ≠ 0 ∧ (inB' a && inB' b) = true ∧ (p = 0 ∨ prB p = true) ∧ e = 0)
def ChkEnd (a b p : Int) (e : Ending) : Prop := ∃ l : Int, e = .returned (.int .i64 l) ∧ ChkRes a b p l
theorem chk_err (a b p l : Int) (hl : ChkRes a b p l) (h : l ≠ 0) : HilRes a b p 0 l := by
  rcases hl with ⟨h1, h2⟩ | ⟨h1, h2, h3, h4⟩ | ⟨h1, h2, h3, h4, h5, h6⟩ | ⟨h1, h2, h3, h4, h5⟩
  · exact .inl ⟨h1, rfl, h2⟩
  · exact .inr (.inl ⟨h1, h2, h3, rfl, h4⟩)
  · exact .inr (.inr (.inl ⟨h1, h2, h3, h4, h5, rfl, h6⟩))
  · exact absurd h5 h
theorem chk_ok {a b p : Int} (h : ChkRes a b p 0) : a ≠ 0 ∧ b ≠ 0 ∧ (inB' a && inB' b) = true ∧ (p = 0 ∨ prB p = true) := by
  rcases h with ⟨h1, h2⟩ | ⟨h1, h2, h3, h4⟩ | ⟨h1, h2, h3, h4, h5, h6⟩ | ⟨h1, h2, h3, h4, h5⟩
  · omega
  · omega
  · omega
  · exact ⟨h1, h2, h3, h4⟩

end Go.Proofs.Ytgbnmnkgelklbaa
namespace Go.Proofs.Ytgbnmnkgelklbaa
open Go.RowKit
set_option linter.unusedVariables false
set_option maxRecDepth 100000
open Nt (Pr leg sg Sgn)
theorem quo_small {r p : Int} (hp : 2 ≤ p) (h1 : -1000000000 ≤ r) (h2 : r ≤ 1000000000) : -1000000000 ≤ r.tdiv p ∧ r.tdiv p ≤ 1000000000 := by
  have : (r.tdiv p).natAbs ≤ r.natAbs := by rw [Int.natAbs_tdiv]; exact Nat.div_le_self _ _
  omega

theorem par (s : Nat) : ∃ k : Int, 0 ≤ k ∧ (2 * k + ((s % 2 : Nat) : Int) ≤ s ∧ (s : Int) ≤ 2 * k + ((s % 2 : Nat) : Int)) := ⟨((s / 2 : Nat) : Int), by omega, by omega, by omega⟩
end Go.Proofs.Ytgbnmnkgelklbaa
namespace Go.Proofs.Ytgbnmnkgelklbaa
open Go.RowKit
set_option linter.unusedVariables false
set_option maxRecDepth 100000
open Nt (Pr leg sg Sgn)
end Go.Proofs.Ytgbnmnkgelklbaa
