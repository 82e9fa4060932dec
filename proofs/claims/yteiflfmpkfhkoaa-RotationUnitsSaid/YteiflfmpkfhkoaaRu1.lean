/-
  WALKS: greatest common divisors, the program's (package rotation).
-/
import Derived.Test.YteiflfmpkfhkoaaRt7
namespace Go.Proofs.Yteiflfmpkfhkoaa.Rt
open Go.RowKit
open Alm Hwm Al
set_option linter.unusedVariables false
set_option linter.unusedSimpArgs false
set_option maxRecDepth 100000
set_option maxHeartbeats 2000000 in
theorem rcd_any (xs : List Int) (A : Option Addr) (c : Nat) (w : World) (hl : xs.length ≤ 100) (hc : xs.length ≤ c) (hc' : c ≤ 9223372036854775807) (hA : Ns w A xs)
    (hx : ∀ j, j < xs.length → -9223372036854775807 ≤ xs.getD j 0 ∧ xs.getD j 0 ≤ 9223372036854775807) :
    Calls Try.prog 94 #[.slice A xs.length c] w fun e w' => e = .returned (.int .i64 (cdl xs : Int)) ∧ Drew w w' := by
  have HX := Lib.hid hx
  have HA := Lib.hid hA
  clear hx hA
  go_enter Try.func94, Try.ntmps94
  go_wp2
  go_loopw [3, 5, 8] (fun t3 t5 t8 wr => ∃ (g : Int) (k : Nat), (-9223372036854775807 ≤ g ∧ g ≤ 9223372036854775807 ∧ k ≤ xs.length ∧ g.natAbs = cdl (xs.take k) ∧ Drew w wr) ∧ t3 = .int .i64 g ∧ t8 = .int .i64 k) (fun _ _ t8 _ => xs.length - (intOf t8).toNat)
  case atStart => exact ⟨0, 0, ⟨by omega, by omega, by omega, rfl, Drew.refl _⟩, rfl, rfl⟩
  case round =>
    obtain ⟨g, k, ⟨g1, g2, k1, hg, hd⟩, rfl, rfl⟩ := hrel
    obtain ⟨wo, rfl⟩ : ∃ wo : World, wo = wr := ⟨_, rfl⟩
    have HG := Lib.hid hg
    have HD := Lib.hid hd
    clear hg hd
    by_cases hk : k < xs.length
    · obtain ⟨b, rfl, hcell⟩ := HA.out (by omega)
      obtain ⟨x1, x2⟩ := HX.out k hk
      have HT := Lib.hid (cdl_take xs k hk)
      have hc0 : wo.cell? ⟨b, k, none⟩ = some (.int .i64 (xs.getD k 0)) := by
        obtain ⟨n, rfl⟩ := HD.out
        exact hcell k hk
      have HC := Lib.hid hc0
      clear hcell hc0
      generalize xs.getD k 0 = x at *
      have hc1 := HC.out
      go_wp2
      go_loopw [3, 5] (fun t3 t5 wr => ∃ r0 r1 : Int, (-9223372036854775807 ≤ r0 ∧ r0 ≤ 9223372036854775807 ∧ -9223372036854775807 ≤ r1 ∧ r1 ≤ 9223372036854775807 ∧ Int.gcd r0 r1 = Int.gcd g x ∧ Drew w wr) ∧ t3 = .int .i64 r0 ∧ t5 = .int .i64 r1) (fun _ t1 _ => (intOf t1).natAbs)
      case atStart => exact ⟨g, x, ⟨g1, g2, x1, x2, rfl, HD.out⟩, rfl, rfl⟩
      case round =>
        obtain ⟨r0, r1, ⟨a0, a1, b0, b1, hg, hd⟩, rfl, rfl⟩ := hrel
        have HG2 := Lib.hid hg
        clear hg
        by_cases hz : r1 = 0
        · have HZ := Lib.hid hz
          have ht : (r1 != 0) = false := by rw [hz]; rfl
          clear hz
          go_wp2
          go_roundw
          case rel => exact ⟨r0, k + 1, ⟨a0, a1, by omega, by rw [HT.out, ← HG.out]; have := HG2.out; rw [HZ.out, Int.gcd_zero] at this; rw [this]; rfl, hd⟩, rfl, by go_num⟩
          case measure => simp [intOf]; omega
        · have ht : (r1 != 0) = true := by rw [bne_iff_ne]; exact hz
          have he : (r1 == 0) = false := by rw [beq_eq_false_iff_ne]; exact hz
          have hb := tmod_bd (a := r0) hz
          have HN := Lib.hid (Nat.mod_lt r0.natAbs (show 0 < r1.natAbs by omega))
          clear hz
          go_wp2
          go_quiet (fail)
          go_wp2
          go_roundw
          case rel => exact ⟨r1, r0.tmod r1, ⟨b0, b1, by omega, by omega, by rw [gcd_tmod, HG2.out], hd.step _⟩, rfl, rfl⟩
          case measure => simp only [intOf, tmod_abs]; exact HN.out
    · have hkl : k = xs.length := by omega
      have HK := Lib.hid hkl
      have hlt : decide (k < xs.length) = false := decide_eq_false hk
      clear hkl
      by_cases hn : g < 0
      · go_wp2
        go_ret
        exact ⟨ret_int (by have := HG.out; rw [HK.out, List.take_length] at this; omega), HD.out⟩
      · go_wp2
        go_ret
        exact ⟨ret_int (by have := HG.out; rw [HK.out, List.take_length] at this; omega), HD.out⟩
end Go.Proofs.Yteiflfmpkfhkoaa.Rt
