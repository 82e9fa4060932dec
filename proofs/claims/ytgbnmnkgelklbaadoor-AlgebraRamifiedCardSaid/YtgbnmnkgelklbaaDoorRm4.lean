/-
  WALKS: ramified primes, discriminants, and whether an algebra is definite, the program's side.
-/
import Derived.Test.YtgbnmnkgelklbaaDoorRm6
import Derived.Test.YtgbnmnkgelklbaaDoorLw0
namespace Go.Proofs.YtgbnmnkgelklbaaDoor.Rm
open Go.RowKit
open Nt (Pr)
open Al
set_option linter.unusedVariables false
set_option linter.unusedSimpArgs false
set_option maxRecDepth 100000
def dfB (A B : Int) : Bool := decide (A < 0) && decide (B < 0)
theorem isDefinite_any (A B : Int) (w : World) : Calls Tryd.prog 27 #[.agg #[.int .i64 A, .int .i64 B]] w fun e w' => e = .returned (.bool (dfB A B)) ∧ Below w.heap.size w w' := by
  unfold dfB
  rcases (show decide (A < 0) = false ∨ decide (A < 0) = true ∧ (decide (B < 0) = false ∨ decide (B < 0) = true) by
    cases decide (A < 0) <;> cases decide (B < 0) <;> simp) with h0 | ⟨h0, h1 | h1⟩
  all_goals
    go_enter Tryd.func27, Tryd.ntmps27
    go_wp2
    go_ret
    exact ⟨by simp [*], by (repeat (first | (with_reducible exact Below.refl _ _) | (with_reducible exact HB.out) | (with_reducible refine below_draws ?_ _) | (with_reducible refine Below.alloc ?_ (by go_size) _) | (with_reducible refine Below.setCell ?_ (by go_size) _) | (with_reducible refine Below.alloc ?_ (by simp <;> omega) _) | (with_reducible refine Below.setCell ?_ (by simp <;> omega) _)))⟩
set_option maxHeartbeats 1600000 in
theorem Ramified_err (A B : Int) (w : World) (h : chkA A B ≠ 0) : Calls Tryd.prog 7 #[.agg #[.int .i64 A, .int .i64 B]] w fun e w' => e = .returned (.tuple #[.slice none 0 0, .bool false, .int .i64 (chkA A B)]) ∧ Below w.heap.size w w' := by
  have ht : (chkA A B != 0) = true := by rw [bne_iff_ne]; exact h
  clear h
  go_enter Tryd.func7, Tryd.ntmps7
  go_wp2_with fail
  refine (Check_any _ _ _).mono ?_
  rintro e w1 ⟨rfl, hb⟩
  have hK : K_Rk A B w.heap.size w w1 := K_Rk.below hb ⟨by simp [go_sem], by simp, by simp, by (repeat (first | (with_reducible exact Below.refl _ _) | (with_reducible exact HB.out) | (with_reducible refine below_draws ?_ _) | (with_reducible refine Below.alloc ?_ (by go_size) _) | (with_reducible refine Below.setCell ?_ (by go_size) _) | (with_reducible refine Below.alloc ?_ (by simp <;> omega) _) | (with_reducible refine Below.setCell ?_ (by simp <;> omega) _)))⟩
  clear hb
  obtain ⟨c0_, c1_⟩ := K_Rk.cells hK; obtain ⟨z0_, -⟩ := K_Rk.zs hK; have HK := Lib.hid hK; clear hK
  go_wp2
  go_ret3
  exact ⟨rfl, K_Rk.bel HK.out⟩
set_option maxHeartbeats 1600000 in
theorem Discriminant_err (A B : Int) (w : World) (h : chkA A B ≠ 0) : Calls Tryd.prog 8 #[.agg #[.int .i64 A, .int .i64 B]] w fun e w' => e = .returned (.tuple #[.int .i64 0, .int .i64 (chkA A B)]) ∧ Below w.heap.size w w' := by
  have ht : (chkA A B != 0) = true := by rw [bne_iff_ne]; exact h
  clear h
  go_enter Tryd.func8, Tryd.ntmps8
  go_wp2_with fail
  refine (Check_any _ _ _).mono ?_
  rintro e w1 ⟨rfl, hb⟩
  have hK : K_Rk A B w.heap.size w w1 := K_Rk.below hb ⟨by simp [go_sem], by simp, by simp, by (repeat (first | (with_reducible exact Below.refl _ _) | (with_reducible exact HB.out) | (with_reducible refine below_draws ?_ _) | (with_reducible refine Below.alloc ?_ (by go_size) _) | (with_reducible refine Below.setCell ?_ (by go_size) _) | (with_reducible refine Below.alloc ?_ (by simp <;> omega) _) | (with_reducible refine Below.setCell ?_ (by simp <;> omega) _)))⟩
  clear hb
  obtain ⟨c0_, c1_⟩ := K_Rk.cells hK; obtain ⟨z0_, -⟩ := K_Rk.zs hK; have HK := Lib.hid hK; clear hK
  go_wp2
  go_ret2
  exact ⟨rfl, K_Rk.bel HK.out⟩
set_option maxHeartbeats 1600000 in
theorem Definite_err (A B : Int) (w : World) (h : chkA A B ≠ 0) : Calls Tryd.prog 9 #[.agg #[.int .i64 A, .int .i64 B]] w fun e w' => e = .returned (.tuple #[.bool false, .int .i64 (chkA A B)]) ∧ Below w.heap.size w w' := by
  have ht : (chkA A B != 0) = true := by rw [bne_iff_ne]; exact h
  clear h
  go_enter Tryd.func9, Tryd.ntmps9
  go_wp2_with fail
  refine (Check_any _ _ _).mono ?_
  rintro e w1 ⟨rfl, hb⟩
  have hK : K_Rk A B w.heap.size w w1 := K_Rk.below hb ⟨by simp [go_sem], by simp, by simp, by (repeat (first | (with_reducible exact Below.refl _ _) | (with_reducible exact HB.out) | (with_reducible refine below_draws ?_ _) | (with_reducible refine Below.alloc ?_ (by go_size) _) | (with_reducible refine Below.setCell ?_ (by go_size) _) | (with_reducible refine Below.alloc ?_ (by simp <;> omega) _) | (with_reducible refine Below.setCell ?_ (by simp <;> omega) _)))⟩
  clear hb
  obtain ⟨c0_, c1_⟩ := K_Rk.cells hK; obtain ⟨z0_, -⟩ := K_Rk.zs hK; have HK := Lib.hid hK; clear hK
  go_wp2
  go_ret2
  exact ⟨rfl, K_Rk.bel HK.out⟩
set_option maxHeartbeats 1600000 in
theorem Definite_ok (A B : Int) (w : World) (h : chkA A B = 0) : Calls Tryd.prog 9 #[.agg #[.int .i64 A, .int .i64 B]] w fun e w' => e = .returned (.tuple #[.bool (dfB A B), .int .i64 0]) ∧ Below w.heap.size w w' := by
  have HC := Lib.hid h
  clear h
  go_enter Tryd.func9, Tryd.ntmps9
  go_wp2_with fail
  refine (Check_any _ _ _).mono ?_
  rintro e w1 ⟨rfl, hb⟩
  rw [HC.out]
  have hK : K_Rk A B w.heap.size w w1 := K_Rk.below hb ⟨by simp [go_sem], by simp, by simp, by (repeat (first | (with_reducible exact Below.refl _ _) | (with_reducible exact HB.out) | (with_reducible refine below_draws ?_ _) | (with_reducible refine Below.alloc ?_ (by go_size) _) | (with_reducible refine Below.setCell ?_ (by go_size) _) | (with_reducible refine Below.alloc ?_ (by simp <;> omega) _) | (with_reducible refine Below.setCell ?_ (by simp <;> omega) _)))⟩
  clear hb
  obtain ⟨c0_, c1_⟩ := K_Rk.cells hK; obtain ⟨z0_, -⟩ := K_Rk.zs hK; have HK := Lib.hid hK; clear hK
  go_wp2_with fail
  refine (isDefinite_any _ _ _).mono ?_
  rintro e w2 ⟨rfl, hb⟩
  clear c0_ c1_ z0_
  have hK := K_Rk.below hb HK.out
  clear hb HK
  obtain ⟨c0_, c1_⟩ := K_Rk.cells hK; obtain ⟨z0_, -⟩ := K_Rk.zs hK; have HK := Lib.hid hK; clear hK
  go_wp2
  go_ret2
  exact ⟨rfl, K_Rk.bel HK.out⟩
theorem chk_bds {A B : Int} (h : chkA A B = 0) : A ≠ 0 ∧ B ≠ 0 ∧ (-1000 ≤ A ∧ A ≤ 1000) ∧ (-1000 ≤ B ∧ B ≤ 1000) := by
  obtain ⟨h1, h2, h3, h4⟩ := chkA_ok h
  exact ⟨h1, h2, withinB_of h3, withinB_of h4⟩
theorem row_below {B : Nat} {v : Value} {l : List Nat} {w w' : World} (h : w.ownsRow B 3 1 v l.length (nvs l)) (hb : Below w.heap.size w w') : w'.ownsRow B 3 1 v l.length (nvs l) := by
  obtain ⟨A, c, rfl, h1, -, -⟩ := LN.of h
  exact LN.below h1 hb (LN.lt h1)
def RtEnd (A B : Int) (w : World) (e : Ending) (w' : World) : Prop := ∃ v : Value, e = .returned (.tuple #[v, .bool (dfB A B), .int .i64 0]) ∧ w'.ownsRow w.heap.size 3 1 v (RL A B 1001).length (nvs (RL A B 1001)) ∧ Below w.heap.size w w'
set_option maxHeartbeats 1600000 in
theorem Ramified_ok (A B : Int) (w : World) (h : chkA A B = 0) : Calls Tryd.prog 7 #[.agg #[.int .i64 A, .int .i64 B]] w fun e w' => RtEnd A B w e w' := by
  obtain ⟨b1, b2, b3, b4⟩ := chk_bds h
  have RA := Lib.hid (fun W => ramified_any A B W b1 b2 b3 b4)
  have HC := Lib.hid h
  clear h b1 b2 b3 b4
  go_enter Tryd.func7, Tryd.ntmps7
  go_wp2_with fail
  refine (Check_any _ _ _).mono ?_
  rintro e w1 ⟨rfl, hb⟩
  rw [HC.out]
  have hK : K_Rk A B w.heap.size w w1 := K_Rk.below hb ⟨by simp [go_sem], by simp, by simp, by (repeat (first | (with_reducible exact Below.refl _ _) | (with_reducible exact HB.out) | (with_reducible refine below_draws ?_ _) | (with_reducible refine Below.alloc ?_ (by go_size) _) | (with_reducible refine Below.setCell ?_ (by go_size) _) | (with_reducible refine Below.alloc ?_ (by simp <;> omega) _) | (with_reducible refine Below.setCell ?_ (by simp <;> omega) _)))⟩
  clear hb
  obtain ⟨c0_, c1_⟩ := K_Rk.cells hK; obtain ⟨z0_, -⟩ := K_Rk.zs hK; have HK := Lib.hid hK; clear hK
  go_wp2_with fail
  have hk := HK.out
  clear c0_ c1_ z0_
  clear HK
  go_region_held3 (fun w' => (w'.cell? ⟨w.heap.size, 0, none⟩ = some (.int .i64 A) ∧ w'.cell? ⟨w.heap.size, 1, none⟩ = some (.int .i64 B)) ∧ K_Rk A B w.heap.size w w') ((refine K_Rk.ks ?_; repeat (first | (with_reducible assumption) | (with_reducible refine K_Rk.draws _ ?_) | (with_reducible refine K_Rk.drew ?_) | (with_reducible refine K_Rk.alloc _ ?_) | (with_reducible refine K_Rk.set ?_ _ _ _ (by omega)))))
    (first
      | (go_at_call 26; (with_reducible refine (RA.out _).mono ?_); rintro e w5 ⟨v, rfl, hown, hbel⟩; have hz := (K_Rk.bel (show K_Rk A B w.heap.size w _ from And.right (by assumption))).size; have hk' := K_Rk.below hbel (And.right (by assumption)); have HO := Lib.hid (Go.Joins.ownsRow_le hown hz); clear hbel hown hz)
      | (go_at_call 27; (with_reducible refine (isDefinite_any _ _ _).mono ?_); rintro e w6 ⟨rfl, hbel⟩; have hk' := K_Rk.below hbel (And.right (by assumption)); have HO2 := Lib.hid (row_below HO.out hbel); clear hbel HO))
  all_goals
    go_wp2
    go_ret3
    exact ⟨_, rfl, HO2.out, K_Rk.bel hk'⟩
set_option maxHeartbeats 1600000 in
theorem Discriminant_ok (A B : Int) (w : World) (h : chkA A B = 0) : Calls Tryd.prog 8 #[.agg #[.int .i64 A, .int .i64 B]] w fun e w' => e = .returned (.tuple #[.int .i64 (RL A B 1001).prod, .int .i64 0]) ∧ Below w.heap.size w w' := by
  obtain ⟨b1, b2, b3, b4⟩ := chk_bds h
  have RA := Lib.hid (fun W => ramified_any A B W b1 b2 b3 b4)
  have RP := Lib.hid (fun k => RL_prod b1 b2 b3 b4 1001 k)
  have HC := Lib.hid h
  clear h b1 b2 b3 b4
  go_enter Tryd.func8, Tryd.ntmps8
  go_wp2_with fail
  refine (Check_any _ _ _).mono ?_
  rintro e w1 ⟨rfl, hb⟩
  rw [HC.out]
  have hK : K_Rk A B w.heap.size w w1 := K_Rk.below hb ⟨by simp [go_sem], by simp, by simp, by (repeat (first | (with_reducible exact Below.refl _ _) | (with_reducible exact HB.out) | (with_reducible refine below_draws ?_ _) | (with_reducible refine Below.alloc ?_ (by go_size) _) | (with_reducible refine Below.setCell ?_ (by go_size) _) | (with_reducible refine Below.alloc ?_ (by simp <;> omega) _) | (with_reducible refine Below.setCell ?_ (by simp <;> omega) _)))⟩
  clear hb
  obtain ⟨c0_, c1_⟩ := K_Rk.cells hK; obtain ⟨z0_, -⟩ := K_Rk.zs hK; have HK := Lib.hid hK; clear hK
  go_wp2_with fail
  refine (RA.out _).mono ?_
  rintro e w2 ⟨v, rfl, hown, hbel⟩
  clear c0_ c1_ z0_
  have hK := K_Rk.below hbel HK.out
  clear HK
  obtain ⟨c0_, c1_⟩ := K_Rk.cells hK; obtain ⟨z0_, -⟩ := K_Rk.zs hK; have HK := Lib.hid hK; clear hK
  obtain ⟨Aa, c, rfl, hLN, hc, hlc⟩ := LN.of hown
  have HP := Lib.hid hLN
  have HB := Lib.hid hbel
  clear hown hbel hLN
  go_wp2_with fail
  go_loopw [5, 16] (fun t5 t16 wr => ∃ k : Nat, (k ≤ (RL A B 1001).length ∧ Below w2.heap.size w2 wr) ∧ t5 = .int .i64 ((RL A B 1001).take k).prod ∧ t16 = .int .i64 k) (fun _ t16 _ => (RL A B 1001).length - (intOf t16).toNat)
  case atStart => exact ⟨0, ⟨Nat.zero_le _, Below.refl _ _⟩, by simp, rfl⟩
  case round =>
    obtain ⟨k, ⟨hkl, hbel⟩, rfl, rfl⟩ := hrel
    obtain ⟨wo, rfl⟩ : ∃ wo : World, wo = wr := ⟨_, rfl⟩
    clear c0_ c1_ z0_
    have hP := LN.below HP.out hbel (LN.lt HP.out)
    have hK := K_Rk.below hbel HK.out
    have HB2 := Lib.hid hbel
    clear hbel
    by_cases hlt : k < (RL A B 1001).length
    · have hq : (RL A B 1001)[k]? = some (RL A B 1001)[k] := List.getElem?_eq_getElem hlt
      obtain ⟨b, rfl, g0, -, gz⟩ := LN.at_ hP hq
      have TP := Lib.hid (take_prod hq)
      have hb := RP.out (k + 1)
      have hb0 := RP.out k
      rw [TP.out] at hb
      obtain ⟨P, hPP⟩ : ∃ P, ((RL A B 1001).take k).prod = P := ⟨_, rfl⟩
      obtain ⟨q, hqq⟩ : ∃ q, (RL A B 1001)[k] = q := ⟨_, rfl⟩
      rw [hPP, hqq] at TP hb
      rw [hPP] at hb0 ⊢
      rw [hqq] at g0
      have e1 : (P : Int) * q = ((P * q : Nat) : Int) := by rw [Int.natCast_mul]
      have hc1 : (P : Int) * q ≤ 2000000 := by rw [e1]; omega
      have hc2 : 0 ≤ (P : Int) * q := by rw [e1]; omega
      have E1 := Lib.hid e1
      obtain ⟨hb0, hb0'⟩ := hb0
      clear hP hK hq hqq hPP e1 hb
      go_wp2
      go_roundw
      case rel => exact ⟨k + 1, ⟨by omega, HB2.out⟩, by rw [TP.out, ← E1.out], by go_num⟩
      case measure => simp [intOf]; omega
    · have hk : k = (RL A B 1001).length := by omega
      have HKL := Lib.hid hk
      have HKK := Lib.hid hK
      clear hk hP hK
      go_wp2
      go_ret2
      refine ⟨?_, K_Rk.bel HKK.out⟩
      rw [HKL.out, List.take_length]
      rfl
end Go.Proofs.YtgbnmnkgelklbaaDoor.Rm
