/-
  WALKS of the small functions on numbers of elements: ranges, sizes, greatest common divisors.
-/
import Derived.Test.YteiflfmpkfhkoaaChecked
import Derived.Test.YteiflfmpkfhkoaaAlm
import Derived.WalkKit
import Derived.IntWalk
import Derived.Lib.Hide
import Derived.Below
import Derived.Outline
import Derived.RegionTactic
import Derived.ChangeAlike
import Derived.BigRegion
import Derived.LoopTactic
import Derived.Deep.QuietTactic
import Derived.BigQuiet
import Derived.Laws.NewBlocks
import Derived.Laws.Rows
import Derived.Deep.Draws
import Derived.Laws.StructEq
namespace Go.Proofs.Yteiflfmpkfhkoaa.Al
open Go.RowKit
open Alm
set_option linter.unusedVariables false
set_option maxRecDepth 100000
theorem ret_int {k : IntKind} {a b : Int} (h : a = b) : Ending.returned (.int k a) = .returned (.int k b) := by rw [h]
def Drew (w w' : World) : Prop := ∃ n, w' = w.drewN n
theorem Drew.refl (w : World) : Drew w w := ⟨0, rfl⟩
theorem Drew.step {w w' : World} (h : Drew w w') (n : Nat) : Drew w (w'.drewN n) := by
  obtain ⟨k, rfl⟩ := h; exact ⟨k + n, by rw [World.drewN_drewN]⟩
def withinB (n lo hi : Int) : Bool := decide (lo ≤ n ∧ n ≤ hi)
theorem withinB_of {n lo hi : Int} (h : withinB n lo hi = true) : lo ≤ n ∧ n ≤ hi := of_decide_eq_true h
theorem withinB_no {n lo hi : Int} (h : withinB n lo hi = false) : ¬ (lo ≤ n ∧ n ≤ hi) := of_decide_eq_false h
theorem Within_any (n lo hi : Int) (w : World) :
    Calls Try.prog 41 #[.int .i64 n, .int .i64 lo, .int .i64 hi] w fun e w' => e = .returned (.bool (withinB n lo hi)) ∧ w = w' := by
  by_cases h1 : lo ≤ n <;> by_cases h2 : n ≤ hi <;>
  · go_enter Try.func41, Try.ntmps41
    go_wp2
    go_ret
    exact ⟨by simp [withinB, *], rfl⟩
theorem isWithin_any (n m : Int) (w : World) (hm : 0 ≤ m) (hm' : m ≤ 9223372036854775807) :
    Calls Try.prog 137 #[.int .i64 n, .int .i64 m] w fun e w' => e = .returned (.bool (withinB n (-m) m)) ∧ w = w' := by
  by_cases h1 : -m ≤ n <;> by_cases h2 : n ≤ m <;>
  · go_enter Try.func137, Try.ntmps137
    go_wp2
    go_ret
    exact ⟨by simp [withinB, *], rfl⟩
theorem Abs_any (a : Int) (w : World) (h0 : -9223372036854775807 ≤ a) :
    Calls Try.prog 96 #[.int .i64 a] w fun e w' => e = .returned (.int .i64 (a.natAbs : Int)) ∧ w = w' := by
  by_cases hn : a < 0
  · go_enter Try.func96, Try.ntmps96
    go_wp2
    go_ret
    exact ⟨ret_int (by omega), rfl⟩
  · go_enter Try.func96, Try.ntmps96
    go_wp2
    go_ret
    exact ⟨ret_int (by omega), rfl⟩
theorem tmod_abs (a b : Int) : (a.tmod b).natAbs = a.natAbs % b.natAbs := Int.natAbs_tmod _ _
theorem gcd_tmod (a b : Int) : Int.gcd b (a.tmod b) = Int.gcd a b := by
  unfold Int.gcd; rw [tmod_abs, Nat.gcd_comm b.natAbs, ← Nat.gcd_rec, Nat.gcd_comm]
theorem tmod_bd {a b : Int} (hb : b ≠ 0) : -(b.natAbs : Int) < a.tmod b ∧ a.tmod b < b.natAbs := by
  have := tmod_abs a b
  have := Nat.mod_lt a.natAbs (show 0 < b.natAbs by omega)
  omega
set_option maxHeartbeats 800000 in
theorem Gcd_any (a m : Int) (w : World) (h0 : -9223372036854775807 ≤ a) (h1 : a ≤ 9223372036854775807) (h2 : -9223372036854775807 ≤ m) (h3 : m ≤ 9223372036854775807) :
    Calls Try.prog 50 #[.int .i64 a, .int .i64 m] w fun e w' => e = .returned (.int .i64 (Int.gcd a m)) ∧ Drew w w' := by
  go_enter Try.func50, Try.ntmps50
  go_wp2
  go_loopw [0, 1] (fun t0 t1 wr => ∃ r0 r1 : Int, (-9223372036854775807 ≤ r0 ∧ r0 ≤ 9223372036854775807 ∧ -9223372036854775807 ≤ r1 ∧ r1 ≤ 9223372036854775807 ∧ Int.gcd r0 r1 = Int.gcd a m ∧ Drew w wr) ∧ t0 = .int .i64 r0 ∧ t1 = .int .i64 r1) (fun _ t1 _ => (intOf t1).natAbs)
  case atStart => exact ⟨a, m, ⟨h0, h1, h2, h3, rfl, Drew.refl _⟩, rfl, rfl⟩
  case round =>
    obtain ⟨r0, r1, ⟨a0, a1, b0, b1, hg, hd⟩, rfl, rfl⟩ := hrel
    have HG := Lib.hid hg
    clear hg
    by_cases hz : r1 = 0
    · have HZ := Lib.hid hz
      have ht : (r1 != 0) = false := by rw [hz]; rfl
      clear hz
      go_wp2_with (go_at_call 96; refine (Abs_any _ _ (by omega)).mono ?_; rintro e w' ⟨rfl, rfl⟩)
      go_ret
      have hg := HG.out
      rw [HZ.out, Int.gcd_zero] at hg
      exact ⟨ret_int (by rw [← hg]), hd⟩
    · have ht : (r1 != 0) = true := by rw [bne_iff_ne]; exact hz
      have he : (r1 == 0) = false := by rw [beq_eq_false_iff_ne]; exact hz
      have hb := tmod_bd (a := r0) hz
      have HB := Lib.hid hz
      have HN := Lib.hid (Nat.mod_lt r0.natAbs (show 0 < r1.natAbs by omega))
      clear hz
      go_wp2
      go_quiet (fail)
      go_wp2
      go_roundw
      case rel => exact ⟨r1, r0.tmod r1, ⟨b0, b1, by omega, by omega, by rw [gcd_tmod, HG.out], hd.step _⟩, rfl, rfl⟩
      case measure => simp only [intOf, tmod_abs]; exact HN.out
/-- the cells of a slice of numbers -/
def Ns (w : World) (A : Option Addr) (xs : List Int) : Prop :=
  0 < xs.length → ∃ b, A = some ⟨b, 0, none⟩ ∧ ∀ j, j < xs.length → w.cell? ⟨b, j, none⟩ = some (.int .i64 (xs.getD j 0))
theorem cdl_take (xs : List Int) (k : Nat) (h : k < xs.length) : cdl (xs.take (k + 1)) = Nat.gcd (cdl (xs.take k)) (xs.getD k 0).natAbs := by
  rw [List.take_succ_eq_append_getElem h, cdl_snoc]
  congr 2
  rw [List.getD_eq_getElem?_getD, List.getElem?_eq_getElem h]; rfl
set_option maxHeartbeats 2000000 in
theorem cd_any (xs : List Int) (A : Option Addr) (c : Nat) (w : World) (hl : xs.length ≤ 100) (hc : xs.length ≤ c) (hc' : c ≤ 9223372036854775807) (hA : Ns w A xs)
    (hx : ∀ j, j < xs.length → -9223372036854775807 ≤ xs.getD j 0 ∧ xs.getD j 0 ≤ 9223372036854775807) :
    Calls Try.prog 145 #[.slice A xs.length c] w fun e w' => e = .returned (.int .i64 (cdl xs : Int)) ∧ Drew w w' := by
  have HX := Lib.hid hx
  have HA := Lib.hid hA
  clear hx hA
  go_enter Try.func145, Try.ntmps145
  go_wp2
  go_loopw [3, 5, 8] (fun t3 t5 t8 wr => ∃ (g : Int) (k : Nat), (-9223372036854775807 ≤ g ∧ g ≤ 9223372036854775807 ∧ k ≤ xs.length ∧ g.natAbs = cdl (xs.take k) ∧ Drew w wr) ∧ t3 = .int .i64 g ∧ t8 = .int .i64 k) (fun _ _ t8 _ => xs.length - (intOf t8).toNat)
  case atStart => exact ⟨0, 0, ⟨by omega, by omega, by omega, rfl, Drew.refl _⟩, rfl, rfl⟩
  case round =>
    obtain ⟨g, k, ⟨g1, g2, k1, hg, hd⟩, rfl, rfl⟩ := hrel
    obtain ⟨wo, rfl⟩ : ∃ wo : World, wo = wr := ⟨_, rfl⟩
    have HG := Lib.hid hg
    have HD := Lib.hid hd
    clear hg hd
    by_cases hk : k < xs.length
    · obtain ⟨b, rfl, hcell⟩ := HA.out (by omega)
      obtain ⟨x1, x2⟩ := HX.out k hk
      have HT := Lib.hid (cdl_take xs k hk)
      have hc0 : wo.cell? ⟨b, k, none⟩ = some (.int .i64 (xs.getD k 0)) := by
        obtain ⟨n, rfl⟩ := HD.out
        exact hcell k hk
      have HC := Lib.hid hc0
      clear hcell hc0
      generalize xs.getD k 0 = x at *
      have hc1 := HC.out
      go_wp2
      go_loopw [3, 5] (fun t3 t5 wr => ∃ r0 r1 : Int, (-9223372036854775807 ≤ r0 ∧ r0 ≤ 9223372036854775807 ∧ -9223372036854775807 ≤ r1 ∧ r1 ≤ 9223372036854775807 ∧ Int.gcd r0 r1 = Int.gcd g x ∧ Drew w wr) ∧ t3 = .int .i64 r0 ∧ t5 = .int .i64 r1) (fun _ t1 _ => (intOf t1).natAbs)
      case atStart => exact ⟨g, x, ⟨g1, g2, x1, x2, rfl, HD.out⟩, rfl, rfl⟩
      case round =>
        obtain ⟨r0, r1, ⟨a0, a1, b0, b1, hg, hd⟩, rfl, rfl⟩ := hrel
        have HG2 := Lib.hid hg
        clear hg
        by_cases hz : r1 = 0
        · have HZ := Lib.hid hz
          have ht : (r1 != 0) = false := by rw [hz]; rfl
          clear hz
          go_wp2
          go_roundw
          case rel => exact ⟨r0, k + 1, ⟨a0, a1, by omega, by rw [HT.out, ← HG.out]; have := HG2.out; rw [HZ.out, Int.gcd_zero] at this; rw [this]; rfl, hd⟩, rfl, by go_num⟩
          case measure => simp [intOf]; omega
        · have ht : (r1 != 0) = true := by rw [bne_iff_ne]; exact hz
          have he : (r1 == 0) = false := by rw [beq_eq_false_iff_ne]; exact hz
          have hb := tmod_bd (a := r0) hz
          have HN := Lib.hid (Nat.mod_lt r0.natAbs (show 0 < r1.natAbs by omega))
          clear hz
          go_wp2
          go_quiet (fail)
          go_wp2
          go_roundw
          case rel => exact ⟨r1, r0.tmod r1, ⟨b0, b1, by omega, by omega, by rw [gcd_tmod, HG2.out], hd.step _⟩, rfl, rfl⟩
          case measure => simp only [intOf, tmod_abs]; exact HN.out
    · have hkl : k = xs.length := by omega
      have HK := Lib.hid hkl
      have hlt : decide (k < xs.length) = false := decide_eq_false hk
      clear hkl
      by_cases hn : g < 0
      · go_wp2
        go_ret
        exact ⟨ret_int (by have := HG.out; rw [HK.out, List.take_length] at this; omega), HD.out⟩
      · go_wp2
        go_ret
        exact ⟨ret_int (by have := HG.out; rw [HK.out, List.take_length] at this; omega), HD.out⟩
end Go.Proofs.Yteiflfmpkfhkoaa.Al
