/-
  WALKS: the Hilbert symbol of the reference package, where there is no error.
-/
import Derived.Test.YtgbnmnkgelklbaaDoorHil3
namespace Go.Proofs.YtgbnmnkgelklbaaDoor
open Go.RowKit
set_option linter.unusedVariables false
set_option maxRecDepth 100000
open Nt (Pr leg sg Sgn)
set_option maxHeartbeats 2000000 in
theorem rhil_real (a b : Int) (w : World) (ha : a ≠ 0) (hb : b ≠ 0) (hin : (inB' a && inB' b) = true) :
    Calls Tryd.prog 30 #[.int .i64 a, .int .i64 b, .int .i64 0] w fun e w' => HilEnd a b 0 e ∧ w = w' := by
  have EA := Lib.hid ha
  have EB := Lib.hid hb
  have HIN := Lib.hid hin
  clear ha hb hin
  rcases (show (a < 0 ∧ b < 0) ∨ (a < 0 ∧ ¬ b < 0) ∨ ¬ a < 0 by omega) with ⟨c1, c2⟩ | ⟨c1, c2⟩ | c1
  · have HC := Lib.hid (⟨c1, c2⟩ : a < 0 ∧ b < 0)
    go_enter Tryd.func30, Tryd.ntmps30
    go_wp2_with fail
    refine (chk135 a b 0 _).mono ?_
    rintro e w' ⟨⟨l, rfl, hl⟩, rfl⟩
    have hz : l = 0 := by
      rcases hl with ⟨h1 | h1, h2⟩ | ⟨h1, h2, h3, h4⟩ | ⟨h1, h2, h3, h4, h5, h6⟩ | ⟨h1, h2, h3, h4, h5⟩
      · exact absurd h1 EA.out
      · exact absurd h1 EB.out
      · rw [HIN.out] at h3; cases h3
      · exact absurd rfl h4
      · exact h5
    subst hz
    clear hl
    go_wp2_with fail
    go_ret2
    exact ⟨⟨-1, 0, rfl, .inr (.inr (.inr ⟨EA.out, EB.out, HIN.out, .inl rfl, .inl ⟨rfl, by rw [if_pos HC.out]⟩, rfl⟩))⟩, rfl⟩
  · have HC := Lib.hid (fun h => c2 h.2 : ¬ (a < 0 ∧ b < 0))
    have tb : decide (b < 0) = false := decide_eq_false c2
    go_enter Tryd.func30, Tryd.ntmps30
    go_wp2_with fail
    refine (chk135 a b 0 _).mono ?_
    rintro e w' ⟨⟨l, rfl, hl⟩, rfl⟩
    have hz : l = 0 := by
      rcases hl with ⟨h1 | h1, h2⟩ | ⟨h1, h2, h3, h4⟩ | ⟨h1, h2, h3, h4, h5, h6⟩ | ⟨h1, h2, h3, h4, h5⟩
      · exact absurd h1 EA.out
      · exact absurd h1 EB.out
      · rw [HIN.out] at h3; cases h3
      · exact absurd rfl h4
      · exact h5
    subst hz
    clear hl
    go_wp2_with fail
    go_ret2
    exact ⟨⟨1, 0, rfl, .inr (.inr (.inr ⟨EA.out, EB.out, HIN.out, .inl rfl, .inl ⟨rfl, by rw [if_neg HC.out]⟩, rfl⟩))⟩, rfl⟩
  · have HC := Lib.hid (fun h => c1 h.1 : ¬ (a < 0 ∧ b < 0))
    go_enter Tryd.func30, Tryd.ntmps30
    go_wp2_with fail
    refine (chk135 a b 0 _).mono ?_
    rintro e w' ⟨⟨l, rfl, hl⟩, rfl⟩
    have hz : l = 0 := by
      rcases hl with ⟨h1 | h1, h2⟩ | ⟨h1, h2, h3, h4⟩ | ⟨h1, h2, h3, h4, h5, h6⟩ | ⟨h1, h2, h3, h4, h5⟩
      · exact absurd h1 EA.out
      · exact absurd h1 EB.out
      · rw [HIN.out] at h3; cases h3
      · exact absurd rfl h4
      · exact h5
    subst hz
    clear hl
    go_wp2_with fail
    go_ret2
    exact ⟨⟨1, 0, rfl, .inr (.inr (.inr ⟨EA.out, EB.out, HIN.out, .inl rfl, .inl ⟨rfl, by rw [if_neg HC.out]⟩, rfl⟩))⟩, rfl⟩
theorem quo_small {r p : Int} (hp : 2 ≤ p) (h1 : -1000000000 ≤ r) (h2 : r ≤ 1000000000) : -1000000000 ≤ r.tdiv p ∧ r.tdiv p ≤ 1000000000 := by
  have : (r.tdiv p).natAbs ≤ r.natAbs := by rw [Int.natAbs_tdiv]; exact Nat.div_le_self _ _
  omega

theorem par (s : Nat) : ∃ k : Int, 0 ≤ k ∧ (2 * k + ((s % 2 : Nat) : Int) ≤ s ∧ (s : Int) ≤ 2 * k + ((s % 2 : Nat) : Int)) := ⟨((s / 2 : Nat) : Int), by omega, by omega, by omega⟩
set_option maxHeartbeats 8000000 in
theorem rhil_two (a b : Int) (w : World) (ha : a ≠ 0) (hb : b ≠ 0) (hin : (inB' a && inB' b) = true) (a1 : -1000000000 ≤ a) (a2 : a ≤ 1000000000) (b1 : -1000000000 ≤ b) (b2 : b ≤ 1000000000) :
    Calls Tryd.prog 30 #[.int .i64 a, .int .i64 b, .int .i64 2] w fun e w' => HilEnd a b 2 e ∧ w = w' := by
  have EA := Lib.hid ha
  have EB := Lib.hid hb
  have HIN := Lib.hid hin
  clear ha hb hin
  go_enter Tryd.func30, Tryd.ntmps30
  go_wp2_with fail
  refine (chk135 a b 2 _).mono ?_
  rintro e w' ⟨⟨l, rfl, hl⟩, rfl⟩
  have hz : l = 0 := by
    rcases hl with ⟨h1 | h1, h2⟩ | ⟨h1, h2, h3, h4⟩ | ⟨h1, h2, h3, h4, h5, h6⟩ | ⟨h1, h2, h3, h4, h5⟩
    · exact absurd h1 EA.out
    · exact absurd h1 EB.out
    · rw [HIN.out] at h3; cases h3
    · rw [prB_two] at h5; cases h5
    · exact h5
  subst hz
  clear hl
  go_wp2_with fail
  go_loop [0, 9] (fun t0 t9 => ∃ (r : Int) (k : Nat), StRel a 2 r k ∧ t0 = .int .i64 r ∧ t9 = .int .i64 k) (fun t0 _ => (intOf t0).natAbs)
  case atStart => exact ⟨a, 0, ⟨by simp, EA.out, by omega, Iff.rfl⟩, rfl, rfl⟩
  case round =>
    obtain ⟨r, k, hrel, rfl, rfl⟩ := hrel
    have hb3 := hrel.2.2.1
    have r1 : -1000000000 ≤ r := by omega
    have r2 : r ≤ 1000000000 := by omega
    have k1 : (k : Int) ≤ 1000000000 := by omega
    obtain ⟨q1, q2⟩ := quo_small (r := r) (p := 2) (by omega) r1 r2
    have HR := Lib.hid hrel
    clear hrel hb3
    by_cases hd : r.tmod 2 = 0
    · have hst := HR.out.step (by omega) hd
      have ht : (r.tmod 2 == 0) = true := by rw [hd]; rfl
      have hmm : r.natAbs.div (2 : Int).natAbs < r.natAbs := by have := hst.2; rw [Int.natAbs_tdiv] at this; exact this
      have HM := Lib.hid hmm
      have HS := Lib.hid hst
      clear hst hd hmm
      go_wp2
      go_round
      case rel => exact ⟨_, k + 1, HS.out.1, rfl, by go_num⟩
      case measure => simp [intOf]; exact HM.out
    · have ht : (r.tmod 2 == 0) = false := by simp [hd]
      have HV0 := Lib.hid (show Val a 2 r k from ⟨HR.out.1, fun hdv => hd (Int.tmod_eq_zero_of_dvd hdv)⟩)
      clear hd
      go_wp2
      go_loop [1, 10] (fun t1 t10 => ∃ (r' : Int) (k' : Nat), StRel b 2 r' k' ∧ t1 = .int .i64 r' ∧ t10 = .int .i64 k') (fun t1 _ => (intOf t1).natAbs)
      case atStart => exact ⟨b, 0, ⟨by simp, EB.out, by omega, Iff.rfl⟩, rfl, rfl⟩
      case round =>
        obtain ⟨r', k', hrel', rfl, rfl⟩ := hrel
        have hb3' := hrel'.2.2.1
        have r1' : -1000000000 ≤ r' := by omega
        have r2' : r' ≤ 1000000000 := by omega
        have k1' : (k' : Int) ≤ 1000000000 := by omega
        obtain ⟨q1', q2'⟩ := quo_small (r := r') (p := 2) (by omega) r1' r2'
        have HR' := Lib.hid hrel'
        clear hrel' hb3'
        by_cases hd' : r'.tmod 2 = 0
        · have hst := HR'.out.step (by omega) hd'
          have ht' : (r'.tmod 2 == 0) = true := by rw [hd']; rfl
          have hmm : r'.natAbs.div (2 : Int).natAbs < r'.natAbs := by have := hst.2; rw [Int.natAbs_tdiv] at this; exact this
          have HM := Lib.hid hmm
          have HS := Lib.hid hst
          clear hst hd' hmm
          go_wp2
          go_round
          case rel => exact ⟨_, k' + 1, HS.out.1, rfl, by go_num⟩
          case measure => simp [intOf]; exact HM.out
        · have ht' : (r'.tmod 2 == 0) = false := by simp [hd']
          have HV1 := Lib.hid (show Val b 2 r' k' from ⟨HR'.out.1, fun hdv => hd' (Int.tmod_eq_zero_of_dvd hdv)⟩)
          clear hd'
          have s29 := (HV0.out.small (by omega) EA.out a1 a2).1
          have t29 := (HV1.out.small (by omega) EB.out b1 b2).1
          have ou := odd8 HV0.out.2
          have ov := odd8 HV1.out.2
          obtain ⟨ks, ks0, ks1, ks2⟩ := par k
          obtain ⟨kt, kt0, kt1, kt2⟩ := par k'
          have hs : k % 2 = 0 ∨ k % 2 = 1 := by omega
          have ht2 : k' % 2 = 0 ∨ k' % 2 = 1 := by omega
          rcases hs with hs | hs <;> rcases ht2 with ht2 | ht2 <;> rcases ou with eu | eu | eu | eu <;> rcases ov with ev | ev | ev | ev
          all_goals
            rw [hs] at ks1 ks2
            rw [ht2] at kt1 kt2
            simp at ks1 ks2 kt1 kt2
            have HE := Lib.hid (⟨hs, ht2, eu, ev⟩ : _ ∧ _ ∧ _ ∧ _)
            clear hs ht2
            go_wp2_with (go_at_call 55; refine (rmod_any _ _ _ (by omega) (by omega)).mono ?_; rintro e w' ⟨rfl, rfl⟩)
            go_ret2
            obtain ⟨hs, ht2, eu', ev'⟩ := HE.out
            exact ⟨⟨_, 0, rfl, .inr (.inr (.inr ⟨EA.out, EB.out, HIN.out, .inr prB_two, .inr (.inl ⟨rfl, r, r', k, k', by rw [eu', ev']; simp [h2, hs, ht2], HV0.out, HV1.out⟩), rfl⟩))⟩, rfl⟩
end Go.Proofs.YtgbnmnkgelklbaaDoor
