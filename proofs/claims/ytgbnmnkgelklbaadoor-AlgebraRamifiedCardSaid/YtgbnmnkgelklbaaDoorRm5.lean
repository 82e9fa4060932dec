/-
  WALKS: ramified primes, discriminants, and whether an algebra is definite, the reference's side.
-/
import Derived.Test.YtgbnmnkgelklbaaDoorRm4
import Derived.Test.YtgbnmnkgelklbaaDoorRm0
namespace Go.Proofs.YtgbnmnkgelklbaaDoor.Rm
open Go.RowKit
open Nt (Pr)
open Al
set_option linter.unusedVariables false
set_option linter.unusedSimpArgs false
set_option maxRecDepth 100000
theorem rDefinite_any (A B : Int) (w : World) : Calls Tryd.prog 13 #[.agg #[.int .i64 A, .int .i64 B]] w fun e w' => e = .returned (.bool (dfB A B)) ∧ Below w.heap.size w w' := by
  unfold dfB
  rcases (show decide (A < 0) = false ∨ decide (A < 0) = true ∧ (decide (B < 0) = false ∨ decide (B < 0) = true) by
    cases decide (A < 0) <;> cases decide (B < 0) <;> simp) with h0 | ⟨h0, h1 | h1⟩
  all_goals
    go_enter Tryd.func13, Tryd.ntmps13
    go_wp2
    go_ret
    exact ⟨by simp [*], by (repeat (first | (with_reducible exact Below.refl _ _) | (with_reducible exact HB.out) | (with_reducible refine below_draws ?_ _) | (with_reducible refine Below.alloc ?_ (by go_size) _) | (with_reducible refine Below.setCell ?_ (by go_size) _) | (with_reducible refine Below.alloc ?_ (by simp <;> omega) _) | (with_reducible refine Below.setCell ?_ (by simp <;> omega) _)))⟩
theorem RL_two (A B : Int) : RL A B 2 = [] := by
  have : RL A B 2 = RL A B 0 := filt_skip _ (by omega) fun q h1 h2 => by
    rw [Bool.eq_false_iff]; intro h3; have := (ramB_iff.1 h3).1.1; omega
  rw [this]; rfl
theorem RL_len (A B : Int) (n : Nat) : (RL A B n).length ≤ n := by
  unfold RL
  have := List.length_filter_le (ramB A B) (List.range n)
  rwa [List.length_range] at this
theorem RL_drop {A B : Int} {k : Nat} (h : ¬ (Pr k ∧ (k = 2 ∨ k ∣ A.natAbs ∨ k ∣ B.natAbs) ∧ (hv A B k).1 = -1)) : RL A B (k + 1) = RL A B k :=
  filt_drop _ (by rw [Bool.eq_false_iff]; intro h3; exact h (ramB_iff.1 h3))
theorem RL_take {A B : Int} {k : Nat} (h : Pr k ∧ (k = 2 ∨ k ∣ A.natAbs ∨ k ∣ B.natAbs) ∧ (hv A B k).1 = -1) : RL A B (k + 1) = RL A B k ++ [k] :=
  filt_take _ (ramB_iff.2 h)
theorem prB_pr {k : Nat} (h : prB (k : Int) = true) : Pr k := by
  have := (prB_of h).2.2
  rwa [Int.toNat_natCast] at this
theorem prB_no {k : Nat} (hk : k ≤ 1000) (h : prB (k : Int) = false) : ¬ Pr k := by
  intro hp
  have := prB_t (n := (k : Int)) ⟨by have := hp.1; omega, by omega, by rwa [Int.toNat_natCast]⟩
  rw [h] at this; cases this
theorem tmod_iff (A : Int) (k : Nat) : A.tmod k = 0 ↔ k ∣ A.natAbs := by
  rw [← Int.ofNat_dvd_left]
  exact ⟨Int.dvd_of_tmod_eq_zero, Int.tmod_eq_zero_of_dvd⟩
theorem rr_ways (A B : Int) (k : Nat) (hk : 2 ≤ k) : Hid ((k = 2 ∨ k ∣ A.natAbs ∨ k ∣ B.natAbs)) ∧ (decide ((2 : Int) < (k : Int)) = false ∨ decide ((2 : Int) < (k : Int)) = true ∧ ((A.tmod k != 0) = false ∨ (A.tmod k != 0) = true ∧ (B.tmod k != 0) = false)) ∨ Hid (¬ (k = 2 ∨ k ∣ A.natAbs ∨ k ∣ B.natAbs)) ∧ decide ((2 : Int) < (k : Int)) = true ∧ (A.tmod k != 0) = true ∧ (B.tmod k != 0) = true := by
  by_cases h2 : k = 2
  · exact .inl ⟨Lib.hid (.inl h2), .inl (decide_eq_false (by omega))⟩
  have t1 : decide ((2 : Int) < (k : Int)) = true := decide_eq_true (by omega)
  by_cases hA : k ∣ A.natAbs
  · exact .inl ⟨Lib.hid (.inr (.inl hA)), .inr ⟨t1, .inl (by simp [(tmod_iff A k).2 hA])⟩⟩
  have a1 : (A.tmod k != 0) = true := by rw [bne_iff_ne]; intro h; exact hA ((tmod_iff A k).1 h)
  by_cases hB : k ∣ B.natAbs
  · exact .inl ⟨Lib.hid (.inr (.inr hB)), .inr ⟨t1, .inr ⟨a1, by simp [(tmod_iff B k).2 hB]⟩⟩⟩
  have b1 : (B.tmod k != 0) = true := by rw [bne_iff_ne]; intro h; exact hB ((tmod_iff B k).1 h)
  exact .inr ⟨Lib.hid (by rintro (h | h | h); exact h2 h; exact hA h; exact hB h), t1, a1, b1⟩
set_option maxHeartbeats 8000000 in
theorem rRamified_any (A B : Int) (w : World) (h1 : -1000 ≤ A ∧ A ≤ 1000) (h2 : -1000 ≤ B ∧ B ≤ 1000) :
    Calls Tryd.prog 12 #[.agg #[.int .i64 A, .int .i64 B]] w fun e w' => RmEnd (RL A B 1001) w e w' := by
  obtain ⟨i0, hi, hz0, hz1, hz2⟩ := info_parts infoI
  obtain ⟨a1, a2⟩ := h1
  obtain ⟨b1, b2⟩ := h2
  go_enter Tryd.func12, Tryd.ntmps12
  go_wp2_with fail
  have hK : K_Rk A B w.heap.size w (w.alloc (.cells #[.int .i64 A, .int .i64 B] 23)) := ⟨by simp [go_sem], by simp, by simp, by (repeat (first | (with_reducible exact Below.refl _ _) | (with_reducible exact HB.out) | (with_reducible refine below_draws ?_ _) | (with_reducible refine Below.alloc ?_ (by go_size) _) | (with_reducible refine Below.setCell ?_ (by go_size) _) | (with_reducible refine Below.alloc ?_ (by simp <;> omega) _) | (with_reducible refine Below.setCell ?_ (by simp <;> omega) _)))⟩
  generalize (w.alloc (.cells #[.int .i64 A, .int .i64 B] 23)) = w2 at hK ⊢
  have HK := Lib.hid hK
  clear hK
  go_loopw [3, 4] (fun t3 t4 wr => ∃ k : Nat, (2 ≤ k ∧ k ≤ 1001 ∧ wr.ownsRow w2.heap.size 3 1 t3 (RL A B k).length (nvs (RL A B k)) ∧ Below w2.heap.size w2 wr) ∧ t4 = .int .i64 k) (fun _ t4 _ => 1001 - (intOf t4).toNat)
  case atStart => exact ⟨2, ⟨by omega, by omega, by rw [RL_two]; exact World.ownsRow_nil _ _ _ _, Below.refl _ _⟩, rfl⟩
  case round =>
    obtain ⟨k, ⟨hk2, hkl, hown, hbel⟩, rfl⟩ := hrel
    obtain ⟨wo, rfl⟩ : ∃ wo : World, wo = wr := ⟨_, rfl⟩
    have hK := K_Rk.below hbel HK.out
    have hll : (RL A B k).length ≤ k := RL_len A B k
    have HO := Lib.hid hown
    have HB := Lib.hid hbel
    clear hown hbel
    obtain ⟨c0_, c1_⟩ := K_Rk.cells hK
    obtain ⟨z0_, -⟩ := K_Rk.zs hK
    have HKK := Lib.hid hK
    clear hK
    by_cases hlt : k ≤ 1000
    · have RI := Lib.hid (risPrime_any k)
      rcases hp : prB (k : Int) with _ | _
      · have NX := Lib.hid (RL_drop (A := A) (B := B) (fun h => prB_no hlt hp h.1))
        rw [hp] at RI
        clear hp
        go_wp2_with fail
        refine (RI.out _).mono ?_
        rintro e w5 ⟨rfl, rfl⟩
        go_wp2
        go_roundw
        case rel => exact ⟨k + 1, ⟨by omega, by omega, by rw [NX.out]; exact HO.out, HB.out⟩, by go_num⟩
        case measure => simp [intOf]; omega
      · have HP := Lib.hid (prB_pr hp)
        rw [hp] at RI
        clear hp
        have HL := Lib.hid (rhil_any A B k)
        rcases (show Hid ((k = 2 ∨ k ∣ A.natAbs ∨ k ∣ B.natAbs)) ∧ (decide ((2 : Int) < (k : Int)) = false ∨ decide ((2 : Int) < (k : Int)) = true ∧ ((A.tmod k != 0) = false ∨ (A.tmod k != 0) = true ∧ (B.tmod k != 0) = false)) ∨ Hid (¬ (k = 2 ∨ k ∣ A.natAbs ∨ k ∣ B.natAbs)) ∧ decide ((2 : Int) < (k : Int)) = true ∧ (A.tmod k != 0) = true ∧ (B.tmod k != 0) = true from rr_ways A B k hk2) with ⟨HY, t1 | ⟨t1, t2 | ⟨t2, t3⟩⟩⟩ | ⟨HY, t1, t2, t3⟩
        rotate_left 3
        · have NX := Lib.hid (RL_drop (A := A) (B := B) (fun h => HY.out h.2.1))
          go_wp2_with fail
          refine (RI.out _).mono ?_
          rintro e w5 ⟨rfl, rfl⟩
          go_wp2
          go_roundw
          case rel => exact ⟨k + 1, ⟨by omega, by omega, by rw [NX.out]; exact HO.out, HB.out⟩, by go_num⟩
          case measure => simp [intOf]; omega
        all_goals
          go_wp2_with fail
          refine (RI.out _).mono ?_
          rintro e w5 ⟨rfl, rfl⟩
          go_wp2_with fail
          refine (HL.out _).mono ?_
          rintro e w6 ⟨he, rfl⟩
          obtain rfl := hil_v he
          clear he
          by_cases hh : (hv A B k).1 = -1
          · have ht : ((hv A B k).1 == -1) = true := by rw [hh]; rfl
            have NX := Lib.hid (RL_take (A := A) (B := B) ⟨HP.out, HY.out, hh⟩)
            clear hh
            go_wp2_with (at_builtin; refine wpList_append_own _ rfl _ _ 25 rfl w2.heap.size 3 i0 (.int .i64 0) 1 8 Tryd.underlying25 hi hz0 hz1 hz2 rfl (by decide) _ _ _ rfl (HO.out.alloc _) ⟨wo.heap.size, 0, none⟩ 1 1 [.int .i64 k] rfl rfl (one_new _ _ _ _ rfl) (by intro u hu; simp at hu; subst hu; rfl) (by unfold maxLen; omega) (by omega) (by have := HB.out.size; simp; omega) ?_)
            intro v2 wn hown2 hgrow2 _
            have hbel2 : Below w2.heap.size w2 wn := (HB.out.alloc HB.out.size _).grown hgrow2 (by have := HB.out.size; simp; omega) (fun j hj => (HO.out.lt j hj).1)
            have hown3 : wn.ownsRow w2.heap.size 3 1 v2 (RL A B (k + 1)).length (nvs (RL A B (k + 1))) := by rw [NX.out, List.length_append]; unfold nvs; rw [List.map_append]; exact hown2
            have H3 := Lib.hid hown3
            have HB2 := Lib.hid hbel2
            clear hown2 hgrow2 hbel2 hown3
            go_wp2
            go_roundw
            case rel => exact ⟨k + 1, ⟨by omega, by omega, H3.out, HB2.out⟩, by go_num⟩
            case measure => simp [intOf]; omega
          · have ht : ((hv A B k).1 == -1) = false := by rw [beq_eq_false_iff_ne]; exact hh
            have NX := Lib.hid (RL_drop (A := A) (B := B) (fun h => hh h.2.2))
            clear hh
            go_wp2
            go_roundw
            case rel => exact ⟨k + 1, ⟨by omega, by omega, by rw [NX.out]; exact HO.out, HB.out⟩, by go_num⟩
            case measure => simp [intOf]; omega
    · have hk : k = 1001 := by omega
      have HKL := Lib.hid hk
      clear hk
      go_wp2
      go_ret
      refine ⟨_, rfl, ?_, K_Rk.bel HKK.out⟩
      rw [← HKL.out]
      exact Go.Joins.ownsRow_le HO.out (K_Rk.bel HK.out).size
end Go.Proofs.YtgbnmnkgelklbaaDoor.Rm
