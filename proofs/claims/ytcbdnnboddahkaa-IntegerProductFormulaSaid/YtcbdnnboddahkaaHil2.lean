/-
  WALKS: the Hilbert symbol at an odd prime, and the whole function, in package integer.
-/
import Derived.Test.YtcbdnnboddahkaaHil
import Derived.Test.YtcbdnnboddahkaaBez
namespace Go.Proofs.Ytcbdnnboddahkaa
open Go.RowKit
set_option linter.unusedVariables false
set_option maxRecDepth 100000
open Nt (Pr leg sg Sgn)
theorem jleg_any (a : Int) (p : Nat) (w : World) (hp : Pr p) (ho : p % 2 = 1) (hp' : p ≤ 1000000000) :
    Calls Try.prog 130 #[.int .i64 a, .int .i64 p] w fun e w' => e = .returned (.int .i64 (leg a p)) ∧ w = w' := by
  have h := jacobi_any a p w ho hp'
  rw [Nt.jac_prime a hp ho] at h
  exact h
theorem leg_pm {a : Int} {p : Nat} (hp : Pr p) (ho : p % 2 = 1) (h : ¬ (p : Int) ∣ a) : leg a p = 1 ∨ leg a p = -1 := by
  rcases Nt.leg_sgn a p with e | e | e
  · have := Nt.leg_sq hp ho h
    rw [e] at this; simp at this
  · exact .inl e
  · exact .inr e
def HaoEnd (a b : Int) (p : Nat) (e : Ending) : Prop := ∃ (u v : Int) (s t : Nat), e = .returned (.int .i64 (hOdd p u v s t)) ∧ Val a p u s ∧ Val b p v t
set_option maxHeartbeats 8000000 in
theorem hatOdd (a b : Int) (p : Nat) (w : World) (hp : Pr p) (ho : p % 2 = 1) (hp' : p ≤ 1000000000) (ha : a ≠ 0) (hb : b ≠ 0) (a1 : -1000000000 ≤ a) (a2 : a ≤ 1000000000) (b1 : -1000000000 ≤ b) (b2 : b ≤ 1000000000) :
    Calls Try.prog 134 #[.int .i64 a, .int .i64 b, .int .i64 p] w fun e w' => HaoEnd a b p e ∧ w = w' := by
  have p3 : 3 ≤ p := by have := hp.1; omega
  have p2 : (2 : Int) ≤ p := by omega
  have p9 : (p : Int) ≤ 1000000000 := by omega
  have HP := Lib.hid hp
  have HO := Lib.hid ho
  clear hp ho
  go_enter Try.func134, Try.ntmps134
  go_wp2_with fail
  refine (strip_val a p _ ha p2 p9 a1 a2).mono ?_
  rintro e w' ⟨⟨u, s, rfl, hu⟩, rfl⟩
  go_wp2_with fail
  refine (strip_val b p _ hb p2 p9 b1 b2).mono ?_
  rintro e w' ⟨⟨v, t, rfl, hv⟩, rfl⟩
  have HU := Lib.hid hu
  have HV := Lib.hid hv
  have lu := leg_pm HP.out HO.out hu.2
  have lv := leg_pm HP.out HO.out hv.2
  have hs : (s % 2 = 0 ∧ ((s : Int) % 2 == 1) = false) ∨ (s % 2 = 1 ∧ ((s : Int) % 2 == 1) = true) := by
    rcases Nat.mod_two_eq_zero_or_one s with h | h
    · exact .inl ⟨h, by simp; omega⟩
    · exact .inr ⟨h, by simp; omega⟩
  have ht : (t % 2 = 0 ∧ ((t : Int) % 2 == 1) = false) ∨ (t % 2 = 1 ∧ ((t : Int) % 2 == 1) = true) := by
    rcases Nat.mod_two_eq_zero_or_one t with h | h
    · exact .inl ⟨h, by simp; omega⟩
    · exact .inr ⟨h, by simp; omega⟩
  have h4 : (p % 4 = 1 ∧ ((p : Int) % 4 == 3) = false) ∨ (p % 4 = 3 ∧ ((p : Int) % 4 == 3) = true) := by
    have h : p % 4 = 1 ∨ p % 4 = 3 := by have := HO.out; omega
    rcases h with h | h
    · exact .inl ⟨h, by simp; omega⟩
    · exact .inr ⟨h, by simp; omega⟩
  clear hu hv ha hb
  rcases hs with ⟨hs, t1⟩ | ⟨hs, t1⟩ <;> rcases ht with ⟨ht, t2⟩ | ⟨ht, t2⟩ <;> rcases h4 with ⟨h4, t3⟩ | ⟨h4, t3⟩ <;> rcases lu with lu | lu <;> rcases lv with lv | lv
  all_goals
    have HE := Lib.hid (⟨hs, ht, h4, lu, lv⟩ : _ ∧ _ ∧ _ ∧ _ ∧ _)
    clear hs ht h4
    go_wp2_with (first | (go_at_call 130; refine (jleg_any _ _ _ HP.out HO.out hp').mono ?_; rintro e w' ⟨rfl, rfl⟩) | (go_at_call 132; ((with_reducible refine (moi_t _).mono ?_); rintro e w' ⟨rfl, rfl⟩)) | (go_at_call 132; ((with_reducible refine (moi_f _).mono ?_); rintro e w' ⟨rfl, rfl⟩)))
    go_ret
    obtain ⟨hs, ht, h4, lu', lv'⟩ := HE.out
    exact ⟨⟨u, v, s, t, ret_int (by unfold hOdd; rw [lu', lv']; simp [hs, ht, h4]), HU.out, HV.out⟩, rfl⟩
def inB' (a : Int) : Bool := withinB a (-1000000000) 1000000000
/-- the value of the symbol -/
def HV (a b p x : Int) : Prop :=
  (p = 0 ∧ x = if a < 0 ∧ b < 0 then -1 else 1) ∨
  (p = 2 ∧ ∃ (u v : Int) (s t : Nat), x = h2 (u % 8) (v % 8) s t ∧ Val a 2 u s ∧ Val b 2 v t) ∨
  (p ≠ 2 ∧ prB p = true ∧ ∃ (u v : Int) (s t : Nat), x = hOdd p.toNat u v s t ∧ Val a p u s ∧ Val b p v t)
/-- what Hilbert hands back -/
def HilRes (a b p x e : Int) : Prop :=
  ((a = 0 ∨ b = 0) ∧ x = 0 ∧ e = 10) ∨
  (a ≠ 0 ∧ b ≠ 0 ∧ (inB' a && inB' b) = false ∧ x = 0 ∧ e = 2) ∨
  (a ≠ 0 ∧ b ≠ 0 ∧ (inB' a && inB' b) = true ∧ p ≠ 0 ∧ prB p = false ∧ x = 0 ∧ e = 11) ∨
  (a ≠ 0 ∧ b ≠ 0 ∧ (inB' a && inB' b) = true ∧ (p = 0 ∨ prB p = true) ∧ HV a b p x ∧ e = 0)
def HilEnd (a b p : Int) (e : Ending) : Prop := ∃ x l : Int, e = .returned (.tuple #[.int .i64 x, .int .i64 l]) ∧ HilRes a b p x l
theorem pr_two : Pr 2 := ⟨by omega, fun d hd => by have := Nat.le_of_dvd (by omega) hd; have : d ≠ 0 := by rintro rfl; simp at hd
                                                   omega⟩
theorem prB_two : prB 2 = true := prB_t ⟨by omega, by omega, pr_two⟩
theorem pr_odd {p : Nat} (hp : Pr p) (h : p ≠ 2) : p % 2 = 1 := by
  rcases Nat.mod_two_eq_zero_or_one p with h0 | h0
  · rcases hp.2 2 (Nat.dvd_of_mod_eq_zero h0) with e | e <;> omega
  · exact h0
set_option maxHeartbeats 2000000 in
theorem hil63 (a b p : Int) (w : World) : Calls Try.prog 63 #[.int .i64 a, .int .i64 b, .int .i64 p] w fun e w' => HilEnd a b p e ∧ w = w' := by
  rcases za : (a == 0) with _ | _
  case true =>
    have ea : a = 0 := by simpa using za
    have EA := Lib.hid ea
    clear ea
    go_enter Try.func63, Try.ntmps63
    go_wp2_with fail
    go_ret2
    exact ⟨⟨0, 10, rfl, .inl ⟨.inl EA.out, rfl, rfl⟩⟩, rfl⟩
  have ea : a ≠ 0 := by simpa using za
  have EA := Lib.hid ea
  clear ea
  rcases zb : (b == 0) with _ | _
  case true =>
    have eb : b = 0 := by simpa using zb
    have EB := Lib.hid eb
    clear eb
    go_enter Try.func63, Try.ntmps63
    go_wp2_with fail
    go_ret2
    exact ⟨⟨0, 10, rfl, .inl ⟨.inr EB.out, rfl, rfl⟩⟩, rfl⟩
  have eb : b ≠ 0 := by simpa using zb
  have EB := Lib.hid eb
  clear eb
  rcases ia : withinB a (-1000000000) 1000000000 with _ | _
  · go_enter Try.func63, Try.ntmps63
    go_wp2_with (go_at_call 112; refine (withinMod_any _ _).mono ?_; rintro e w' ⟨rfl, rfl⟩)
    go_ret2
    exact ⟨⟨0, 2, rfl, .inr (.inl ⟨EA.out, EB.out, by unfold inB'; rw [ia]; rfl, rfl, rfl⟩)⟩, rfl⟩
  rcases ib : withinB b (-1000000000) 1000000000 with _ | _
  · go_enter Try.func63, Try.ntmps63
    go_wp2_with (go_at_call 112; refine (withinMod_any _ _).mono ?_; rintro e w' ⟨rfl, rfl⟩)
    go_ret2
    exact ⟨⟨0, 2, rfl, .inr (.inl ⟨EA.out, EB.out, by unfold inB'; rw [ia, ib]; rfl, rfl, rfl⟩)⟩, rfl⟩
  have hin : (inB' a && inB' b) = true := by unfold inB'; rw [ia, ib]; rfl
  have HIN := Lib.hid hin
  clear hin
  obtain ⟨a1, a2⟩ := withinB_of ia
  obtain ⟨b1, b2⟩ := withinB_of ib
  by_cases p0 : p = 0
  · subst p0
    rcases (show (a < 0 ∧ b < 0) ∨ (a < 0 ∧ ¬ b < 0) ∨ ¬ a < 0 by omega) with ⟨c1, c2⟩ | ⟨c1, c2⟩ | c1
    · have HC := Lib.hid (⟨c1, c2⟩ : a < 0 ∧ b < 0)
      go_enter Try.func63, Try.ntmps63
      go_wp2_with (first | (go_at_call 112; refine (withinMod_any _ _).mono ?_; rintro e w' ⟨rfl, rfl⟩) | (go_at_call 132; ((with_reducible refine (moi_t _).mono ?_); rintro e w' ⟨rfl, rfl⟩)) | (go_at_call 132; ((with_reducible refine (moi_f _).mono ?_); rintro e w' ⟨rfl, rfl⟩)))
      go_ret2
      exact ⟨⟨-1, 0, rfl, .inr (.inr (.inr ⟨EA.out, EB.out, HIN.out, .inl rfl, .inl ⟨rfl, by rw [if_pos HC.out]⟩, rfl⟩))⟩, rfl⟩
    · have HC := Lib.hid (fun h => c2 h.2 : ¬ (a < 0 ∧ b < 0))
      have tb : decide (b < 0) = false := decide_eq_false c2
      go_enter Try.func63, Try.ntmps63
      go_wp2_with (first | (go_at_call 112; refine (withinMod_any _ _).mono ?_; rintro e w' ⟨rfl, rfl⟩) | (go_at_call 132; ((with_reducible refine (moi_t _).mono ?_); rintro e w' ⟨rfl, rfl⟩)) | (go_at_call 132; ((with_reducible refine (moi_f _).mono ?_); rintro e w' ⟨rfl, rfl⟩)))
      go_ret2
      exact ⟨⟨1, 0, rfl, .inr (.inr (.inr ⟨EA.out, EB.out, HIN.out, .inl rfl, .inl ⟨rfl, by rw [if_neg HC.out]⟩, rfl⟩))⟩, rfl⟩
    · have HC := Lib.hid (fun h => c1 h.1 : ¬ (a < 0 ∧ b < 0))
      go_enter Try.func63, Try.ntmps63
      go_wp2_with (first | (go_at_call 112; refine (withinMod_any _ _).mono ?_; rintro e w' ⟨rfl, rfl⟩) | (go_at_call 132; ((with_reducible refine (moi_t _).mono ?_); rintro e w' ⟨rfl, rfl⟩)) | (go_at_call 132; ((with_reducible refine (moi_f _).mono ?_); rintro e w' ⟨rfl, rfl⟩)))
      go_ret2
      exact ⟨⟨1, 0, rfl, .inr (.inr (.inr ⟨EA.out, EB.out, HIN.out, .inl rfl, .inl ⟨rfl, by rw [if_neg HC.out]⟩, rfl⟩))⟩, rfl⟩
  by_cases p2 : p = 2
  · subst p2
    clear p0
    go_enter Try.func63, Try.ntmps63
    go_wp2_with (first | (go_at_call 112; refine (withinMod_any _ _).mono ?_; rintro e w' ⟨rfl, rfl⟩) | (go_at_call 133; refine (hat2 _ _ _ EA.out EB.out a1 a2 b1 b2).mono ?_; rintro e w' ⟨⟨u, v, s, t, rfl, hu, hv⟩, rfl⟩; replace hu := Lib.hid hu; replace hv := Lib.hid hv))
    go_ret2
    exact ⟨⟨_, 0, rfl, .inr (.inr (.inr ⟨EA.out, EB.out, HIN.out, .inr prB_two, .inr (.inl ⟨rfl, u, v, s, t, rfl, hu.out, hv.out⟩), rfl⟩))⟩, rfl⟩
  have z0 : (p == 0) = false := by simp [p0]
  have z2 : (p == 2) = false := by simp [p2]
  have P0 := Lib.hid p0
  have P2 := Lib.hid p2
  clear p0 p2
  rcases hp : prB p with _ | _
  · go_enter Try.func63, Try.ntmps63
    go_wp2_with (first | (go_at_call 112; refine (withinMod_any _ _).mono ?_; rintro e w' ⟨rfl, rfl⟩) | (go_at_call 71; refine (isPrime_any _ _).mono ?_; rintro e w' ⟨rfl, rfl⟩))
    go_ret2
    exact ⟨⟨0, 11, rfl, .inr (.inr (.inl ⟨EA.out, EB.out, HIN.out, P0.out, hp, rfl, rfl⟩))⟩, rfl⟩
  · obtain ⟨c1, c2, c3⟩ := prB_of hp
    obtain ⟨k, rfl⟩ : ∃ k : Nat, p = k := ⟨p.toNat, by omega⟩
    rw [Int.toNat_natCast] at c3
    have ko : k % 2 = 1 := pr_odd c3 (fun h => P2.out (by omega))
    have C3 := Lib.hid c3
    have KO := Lib.hid ko
    clear c3 ko
    go_enter Try.func63, Try.ntmps63
    go_wp2_with (first | (go_at_call 112; refine (withinMod_any _ _).mono ?_; rintro e w' ⟨rfl, rfl⟩) | (go_at_call 71; refine (isPrime_any _ _).mono ?_; rintro e w' ⟨rfl, rfl⟩) | (go_at_call 134; refine (hatOdd _ _ _ _ C3.out KO.out (by omega) EA.out EB.out a1 a2 b1 b2).mono ?_; rintro e w' ⟨⟨u, v, s, t, rfl, hu, hv⟩, rfl⟩; replace hu := Lib.hid hu; replace hv := Lib.hid hv))
    go_ret2
    exact ⟨⟨_, 0, rfl, .inr (.inr (.inr ⟨EA.out, EB.out, HIN.out, .inr hp, .inr (.inr ⟨P2.out, hp, u, v, s, t, rfl, hu.out, hv.out⟩), rfl⟩))⟩, rfl⟩
end Go.Proofs.Ytcbdnnboddahkaa
