/-
  WALKS: the reference's lowest terms; equality with the reference; conjugates.
-/
import Derived.Test.YtgbnmnkgelklbaaDoorAl5
namespace Go.Proofs.YtgbnmnkgelklbaaDoor.Al
open Go.RowKit
open Alm
set_option linter.unusedVariables false
set_option linter.unusedSimpArgs false
set_option maxRecDepth 100000
theorem gcds_g5 (n0 n1 n2 n3 d : Int) : Int.gcd (((Int.gcd n0 n1).gcd (Int.gcd n2 n3) : Nat) : Int) d = g5 n0 n1 n2 n3 d := by
  simp [g5, Int.gcd]
theorem gcd_bd {a b : Int} (h : -9223372036854775807 ≤ a ∧ a ≤ 9223372036854775807) (k : -9223372036854775807 ≤ b ∧ b ≤ 9223372036854775807) : -9223372036854775807 ≤ (Int.gcd a b : Int) ∧ (Int.gcd a b : Int) ≤ 9223372036854775807 := by
  by_cases h0 : a = 0
  · subst h0; rw [Int.gcd_comm, Int.gcd_zero]; omega
  · have : Int.gcd a b ≤ a.natAbs := Nat.le_of_dvd (by omega) (Nat.gcd_dvd_left _ _)
    omega
set_option maxHeartbeats 4000000 in
theorem rNormal_any (n0 n1 n2 n3 d : Int) (w : World) (h0 : -9223372036854775807 ≤ n0 ∧ n0 ≤ 9223372036854775807) (h1 : -9223372036854775807 ≤ n1 ∧ n1 ≤ 9223372036854775807) (h2 : -9223372036854775807 ≤ n2 ∧ n2 ≤ 9223372036854775807) (h3 : -9223372036854775807 ≤ n3 ∧ n3 ≤ 9223372036854775807) (h4 : -9223372036854775807 ≤ d ∧ d ≤ 9223372036854775807) (hd : d ≠ 0) :
    Calls Tryd.prog 61 #[.agg #[.int .i64 n0, .int .i64 n1, .int .i64 n2, .int .i64 n3, .int .i64 d]] w fun e w' => e = .returned (.agg #[.int .i64 ((Q.mk n0 n1 n2 n3 d).low).w, .int .i64 ((Q.mk n0 n1 n2 n3 d).low).x, .int .i64 ((Q.mk n0 n1 n2 n3 d).low).y, .int .i64 ((Q.mk n0 n1 n2 n3 d).low).z, .int .i64 ((Q.mk n0 n1 n2 n3 d).low).d]) ∧ Below w.heap.size w w' := by
  have hgs := gs_ne (w := n0) (x := n1) (y := n2) (z := n3) hd
  have hgb := gs_bd (w := n0) (x := n1) (y := n2) (z := n3) hd
  have b0 := tdiv_bd n0 (gs n0 n1 n2 n3 d)
  have b1 := tdiv_bd n1 (gs n0 n1 n2 n3 d)
  have b2 := tdiv_bd n2 (gs n0 n1 n2 n3 d)
  have b3 := tdiv_bd n3 (gs n0 n1 n2 n3 d)
  have b4 := tdiv_bd d (gs n0 n1 n2 n3 d)
  have hle := g5_le (w := n0) (x := n1) (y := n2) (z := n3) hd
  have g1 := gcd_bd h0 h1
  have g2 := gcd_bd h2 h3
  have g3 := gcd_bd g1 g2
  rw [Int.gcd_natCast_natCast] at g3
  have HG := Lib.hid hgs
  have E5 := Lib.hid (gcds_g5 n0 n1 n2 n3 d)
  clear hd hgs
  rcases (show Hid (d < 0) ∧ Hid (-(g5 n0 n1 n2 n3 d : Int) = gs n0 n1 n2 n3 d) ∨ Hid (¬ d < 0) ∧ Hid ((g5 n0 n1 n2 n3 d : Int) = gs n0 n1 n2 n3 d) by
    by_cases hneg : d < 0
    · exact .inl ⟨Lib.hid hneg, Lib.hid (gs_neg hneg)⟩
    · exact .inr ⟨Lib.hid hneg, Lib.hid (gs_nonneg hneg)⟩) with ⟨HN, EG⟩ | ⟨HN, EG⟩
  all_goals
    have hneg := HN.out
    go_enter Tryd.func61, Tryd.ntmps61
    go_wp2
    go_quiet ((go_at_call 79; exact Calls.quiet_of (Gcd_any _ _ _ (by omega) (by omega) (by omega) (by omega))))
    rw [E5.out]
    have eg := EG.out
    go_wp2
    clear eg
    try rw [EG.out]
    have hgs := HG.out
    have e0 := IntWalk.i64_in (n0.tdiv (gs n0 n1 n2 n3 d)) (by omega)
    have e1 := IntWalk.i64_in (n1.tdiv (gs n0 n1 n2 n3 d)) (by omega)
    have e2 := IntWalk.i64_in (n2.tdiv (gs n0 n1 n2 n3 d)) (by omega)
    have e3 := IntWalk.i64_in (n3.tdiv (gs n0 n1 n2 n3 d)) (by omega)
    have e4 := IntWalk.i64_in (d.tdiv (gs n0 n1 n2 n3 d)) (by omega)
    go_region
    clear e0 e1 e2 e3 e4 hgs hneg HN EG HG
    go_wp2
    exact bodyPost_ret (v := .agg #[.int .i64 (n0.tdiv (gs n0 n1 n2 n3 d)), .int .i64 (n1.tdiv (gs n0 n1 n2 n3 d)), .int .i64 (n2.tdiv (gs n0 n1 n2 n3 d)), .int .i64 (n3.tdiv (gs n0 n1 n2 n3 d)), .int .i64 (d.tdiv (gs n0 n1 n2 n3 d))]) (by simp [results, Tryd.results61, go_sem]) rfl ⟨rfl, by (repeat (first | (with_reducible exact Below.refl _ _) | (with_reducible exact HB.out) | (with_reducible refine below_draws ?_ _) | (with_reducible refine Below.alloc ?_ (by go_size) _) | (with_reducible refine Below.setCell ?_ (by go_size) _) | (with_reducible refine Below.alloc ?_ (by simp <;> omega) _) | (with_reducible refine Below.setCell ?_ (by simp <;> omega) _)))⟩
end Go.Proofs.YtgbnmnkgelklbaaDoor.Al
