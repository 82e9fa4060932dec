/-
  WALKS: the reference's discriminant; lists compared.
-/
import Derived.Test.YtgbnmnkgelklbaaDoorRm5
namespace Go.Proofs.YtgbnmnkgelklbaaDoor.Rm
open Go.RowKit
open Nt (Pr)
open Al
set_option linter.unusedVariables false
set_option linter.unusedSimpArgs false
set_option maxRecDepth 100000
set_option maxHeartbeats 4000000 in
theorem rDiscriminant_any (A B : Int) (w : World) (h : chkA A B = 0) : Calls Tryd.prog 14 #[.agg #[.int .i64 A, .int .i64 B]] w fun e w' => e = .returned (.int .i64 (RL A B 1001).prod) ∧ Below w.heap.size w w' := by
  obtain ⟨b1, b2, b3, b4⟩ := chk_bds h
  have RA := Lib.hid (fun W => rRamified_any A B W b3 b4)
  have RP := Lib.hid (fun k => RL_prod b1 b2 b3 b4 1001 k)
  clear h b1 b2 b3 b4
  go_enter Tryd.func14, Tryd.ntmps14
  go_wp2_with fail
  refine (RA.out _).mono ?_
  rintro e w2 ⟨v, rfl, hown, hbel⟩
  have hK : K_Rk A B w.heap.size w w2 := K_Rk.below hbel ⟨by simp [go_sem], by simp, by simp, by (repeat (first | (with_reducible exact Below.refl _ _) | (with_reducible exact HB.out) | (with_reducible refine below_draws ?_ _) | (with_reducible refine Below.alloc ?_ (by go_size) _) | (with_reducible refine Below.setCell ?_ (by go_size) _) | (with_reducible refine Below.alloc ?_ (by simp <;> omega) _) | (with_reducible refine Below.setCell ?_ (by simp <;> omega) _)))⟩
  obtain ⟨Aa, c, rfl, hLN, hc, hlc⟩ := LN.of hown
  have HP := Lib.hid hLN
  clear hown hbel hLN
  have HK := Lib.hid hK
  clear hK
  go_wp2_with fail
  go_loopw [3, 5] (fun t3 t5 wr => ∃ k : Nat, (k ≤ (RL A B 1001).length ∧ Below w2.heap.size w2 wr) ∧ t3 = .int .i64 ((RL A B 1001).take k).prod ∧ t5 = .int .i64 k) (fun _ t5 _ => (RL A B 1001).length - (intOf t5).toNat)
  case atStart => exact ⟨0, ⟨Nat.zero_le _, Below.refl _ _⟩, by simp, rfl⟩
  case round =>
    obtain ⟨k, ⟨hkl, hbel⟩, rfl, rfl⟩ := hrel
    obtain ⟨wo, rfl⟩ : ∃ wo : World, wo = wr := ⟨_, rfl⟩
    have hP := LN.below HP.out hbel (LN.lt HP.out)
    have hK := K_Rk.below hbel HK.out
    have HB2 := Lib.hid hbel
    clear hbel
    by_cases hlt : k < (RL A B 1001).length
    · have hq : (RL A B 1001)[k]? = some (RL A B 1001)[k] := List.getElem?_eq_getElem hlt
      obtain ⟨b, rfl, g0, -, gz⟩ := LN.at_ hP hq
      have TP := Lib.hid (take_prod hq)
      have hb := RP.out (k + 1)
      have hb0 := RP.out k
      rw [TP.out] at hb
      obtain ⟨P, hPP⟩ : ∃ P, ((RL A B 1001).take k).prod = P := ⟨_, rfl⟩
      obtain ⟨q, hqq⟩ : ∃ q, (RL A B 1001)[k] = q := ⟨_, rfl⟩
      rw [hPP, hqq] at TP hb
      rw [hPP] at hb0 ⊢
      rw [hqq] at g0
      have e1 : (P : Int) * q = ((P * q : Nat) : Int) := by rw [Int.natCast_mul]
      have hc1 : (P : Int) * q ≤ 2000000 := by rw [e1]; omega
      have hc2 : 0 ≤ (P : Int) * q := by rw [e1]; omega
      have E1 := Lib.hid e1
      obtain ⟨hb0, hb0'⟩ := hb0
      clear hP hK hq hqq hPP e1 hb
      go_wp2
      go_roundw
      case rel => exact ⟨k + 1, ⟨by omega, HB2.out⟩, by rw [TP.out, ← E1.out], by go_num⟩
      case measure => simp [intOf]; omega
    · have hk : k = (RL A B 1001).length := by omega
      have HKL := Lib.hid hk
      have HKK := Lib.hid hK
      clear hk hP hK
      go_wp2
      go_ret
      refine ⟨?_, K_Rk.bel HKK.out⟩
      rw [HKL.out, List.take_length]
      rfl
/-- two lists of numbers, compared -/
theorem Ints_same (l : List Nat) (B1 B2 : Nat) (A1 A2 : Option Addr) (c1 c2 : Nat) (w : World) (h1 : LN B1 w A1 c1 l) (h2 : LN B2 w A2 c2 l) (hl : l.length ≤ 1001) (hc1 : l.length ≤ c1) (hc2 : l.length ≤ c2) (hm1 : c1 ≤ 9223372036854775807) (hm2 : c2 ≤ 9223372036854775807) :
    Calls Tryd.prog 11 #[.slice A1 l.length c1, .slice A2 l.length c2] w fun e w' => e = .returned (.bool true) ∧ Below w.heap.size w w' := by
  have H1 := Lib.hid h1
  have H2 := Lib.hid h2
  clear h1 h2
  go_enter Tryd.func11, Tryd.ntmps11
  go_wp2_with fail
  go_loopw [5] (fun t5 wr => ∃ k : Nat, (k ≤ l.length ∧ Below w.heap.size w wr) ∧ t5 = .int .i64 k) (fun t5 _ => l.length - (intOf t5).toNat)
  case atStart => exact ⟨0, ⟨Nat.zero_le _, Below.refl _ _⟩, rfl⟩
  case round =>
    obtain ⟨k, ⟨hkl, hbel⟩, rfl⟩ := hrel
    obtain ⟨wo, rfl⟩ : ∃ wo : World, wo = wr := ⟨_, rfl⟩
    have hP := LN.below H1.out hbel (LN.lt H1.out)
    have hQ := LN.below H2.out hbel (LN.lt H2.out)
    have HB := Lib.hid hbel
    clear hbel
    by_cases hlt : k < l.length
    · have hq : l[k]? = some l[k] := List.getElem?_eq_getElem hlt
      obtain ⟨b, rfl, g0, -, -⟩ := LN.at_ hP hq
      obtain ⟨b', rfl, g1, -, -⟩ := LN.at_ hQ hq
      generalize l[k] = q at g0 g1
      clear hq hP hQ
      go_wp2_with fail
      go_region
      go_wp2
      go_roundw
      case rel => exact ⟨k + 1, ⟨by omega, below_draws HB.out 1⟩, by go_num⟩
      case measure => simp [intOf]; omega
    · clear hP hQ
      go_wp2
      go_ret
      exact ⟨rfl, HB.out⟩
end Go.Proofs.YtgbnmnkgelklbaaDoor.Rm
