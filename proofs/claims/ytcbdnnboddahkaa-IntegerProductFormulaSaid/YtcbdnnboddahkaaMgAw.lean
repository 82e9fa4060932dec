/-
  WALKS at the one example of 'awake': the small functions on machine integers, round by round.
  WALKS at the one example of 'awake': a root modulo 7, lifted to 49.
  WALKS at the one example of 'awake': two numbers are sorted.
  WALKS at the one example of 'awake': the roots of 2 modulo 49.
  'awake' returns true, and changes nothing that was there.
-/
import Derived.Test.YtcbdnnboddahkaaBez
import Derived.Test.YtcbdnnboddahkaaAw5
import Derived.Outline
import Derived.Deep.RegionHeld3
namespace Go.Proofs.Ytcbdnnboddahkaa
open Go.RowKit
set_option linter.unusedVariables false
set_option maxRecDepth 100000
set_option maxHeartbeats 400000 in
theorem ld7 (w : World) : Calls Try.prog 143 #[.int .i64 7, .int .i64 2] w fun e w' => e = .returned (.int .i64 7) ∧ w = w' := by
  go_enter Try.func143, Try.ntmps143
  go_wp2
  refine wp_loop_rounds 2 ?_
  rw [rounds_succ]; go_wp2
  rw [rounds_succ]; go_wp2
  go_ret
  exact ⟨rfl, rfl⟩
set_option maxHeartbeats 400000 in
theorem isp7 (w : World) : Calls Try.prog 71 #[.int .i64 7] w fun e w' => e = .returned (.bool true) ∧ w = w' := by
  go_enter Try.func71, Try.ntmps71
  go_wp2_with (go_at_call 143; refine (ld7 _).mono ?_; rintro e w' ⟨rfl, rfl⟩)
  go_ret
  exact ⟨rfl, rfl⟩
set_option maxHeartbeats 400000 in
theorem pp72 (w : World) : Calls Try.prog 145 #[.int .i64 7, .int .i64 2] w fun e w' => e = .returned (.tuple #[.int .i64 49, .int .i64 0]) ∧ w = w' := by
  go_enter Try.func145, Try.ntmps145
  go_wp2_with (go_at_call 71; refine (isp7 _).mono ?_; rintro e w' ⟨rfl, rfl⟩)
  refine wp_loop_rounds 3 ?_
  rw [rounds_succ]; go_wp2
  rw [rounds_succ]; go_wp2
  rw [rounds_succ]; go_wp2
  go_ret2
  exact ⟨rfl, rfl⟩
set_option maxHeartbeats 400000 in
theorem strip27 (w : World) : Calls Try.prog 128 #[.int .i64 2, .int .i64 7] w fun e w' => e = .returned (.tuple #[.int .i64 2, .int .i64 0]) ∧ w = w' := by
  go_enter Try.func128, Try.ntmps128
  go_wp2
  refine wp_loop_rounds 1 ?_
  rw [rounds_succ]; go_wp2
  go_ret2
  exact ⟨rfl, rfl⟩
set_option maxHeartbeats 400000 in
theorem strip62 (w : World) : Calls Try.prog 128 #[.int .i64 6, .int .i64 2] w fun e w' => e = .returned (.tuple #[.int .i64 3, .int .i64 1]) ∧ w = w' := by
  go_enter Try.func128, Try.ntmps128
  go_wp2
  refine wp_loop_rounds 2 ?_
  rw [rounds_succ]; go_wp2
  rw [rounds_succ]; go_wp2
  go_ret2
  exact ⟨rfl, rfl⟩
set_option maxHeartbeats 400000 in
theorem strip12 (w : World) : Calls Try.prog 128 #[.int .i64 (-1), .int .i64 2] w fun e w' => e = .returned (.tuple #[.int .i64 (-1), .int .i64 0]) ∧ w = w' := by
  go_enter Try.func128, Try.ntmps128
  go_wp2
  refine wp_loop_rounds 1 ?_
  rw [rounds_succ]; go_wp2
  go_ret2
  exact ⟨rfl, rfl⟩
set_option maxHeartbeats 400000 in
theorem raise70 (w : World) : Calls Try.prog 159 #[.int .i64 7, .int .i64 0] w fun e w' => e = .returned (.int .i64 1) ∧ w = w' := by
  go_enter Try.func159, Try.ntmps159
  go_wp2
  refine wp_loop_rounds 1 ?_
  rw [rounds_succ]; go_wp2
  go_ret
  exact ⟨rfl, rfl⟩
set_option maxHeartbeats 400000 in
theorem power_lit (a n m r : Int) (w : World) (hn : 0 ≤ n) (h1 : 1 ≤ m) (h2 : m ≤ 1000000000) (h3 : n ≤ 1000000) (hr : powM a n.toNat m = r) :
    Calls Try.prog 121 #[.int .i64 a, .int .i64 n, .int .i64 m] w fun e w' => e = .returned (.int .i64 r) ∧ w = w' := by
  have h := power_any a m n.toNat w h1 h2 (by omega)
  rw [hr, Int.toNat_of_nonneg hn] at h
  exact h
set_option maxHeartbeats 400000 in
theorem hil2 (w : World) : Calls Try.prog 63 #[.int .i64 (-1), .int .i64 (-1), .int .i64 2] w fun e w' => e = .returned (.tuple #[.int .i64 (-1), .int .i64 0]) ∧ w = w' := by
  have q1 : withinB (-1) (-1000000000) 1000000000 = true := by decide
  go_enter Try.func63, Try.ntmps63
  go_wp2_with (first | (go_at_call 112; refine (withinMod_any _ _).mono ?_; rintro e w' ⟨rfl, rfl⟩) | (go_at_call 128; refine (strip12 _).mono ?_; rintro e w' ⟨rfl, rfl⟩) | (go_at_call 114; refine (residue_any _ _ _ (by omega) (by omega)).mono ?_; rintro e w' ⟨rfl, rfl⟩) | go_in)
  go_ret2
  exact ⟨rfl, rfl⟩
set_option maxHeartbeats 400000 in
theorem strip22 (w : World) : Calls Try.prog 128 #[.int .i64 2, .int .i64 2] w fun e w' => e = .returned (.tuple #[.int .i64 1, .int .i64 1]) ∧ w = w' := by
  go_enter Try.func128, Try.ntmps128
  go_wp2
  refine wp_loop_rounds 2 ?_
  rw [rounds_succ]; go_wp2
  rw [rounds_succ]; go_wp2
  go_ret2
  exact ⟨rfl, rfl⟩
set_option maxHeartbeats 400000 in
theorem strip32 (w : World) : Calls Try.prog 128 #[.int .i64 3, .int .i64 2] w fun e w' => e = .returned (.tuple #[.int .i64 3, .int .i64 0]) ∧ w = w' := by
  go_enter Try.func128, Try.ntmps128
  go_wp2
  refine wp_loop_rounds 1 ?_
  rw [rounds_succ]; go_wp2
  go_ret2
  exact ⟨rfl, rfl⟩
set_option maxHeartbeats 400000 in
theorem strip1 (w : World) : Calls Try.prog 128 #[.int .i64 1, .int .i64 2] w fun e w' => e = .returned (.tuple #[.int .i64 1, .int .i64 0]) ∧ w = w' := by
  go_enter Try.func128, Try.ntmps128
  go_wp2
  refine wp_loop_rounds 1 ?_
  rw [rounds_succ]; go_wp2
  go_ret2
  exact ⟨rfl, rfl⟩
set_option maxHeartbeats 400000 in
theorem jac27 (w : World) : Calls Try.prog 130 #[.int .i64 2, .int .i64 7] w fun e w' => e = .returned (.int .i64 1) ∧ w = w' := by
  go_enter Try.func130, Try.ntmps130
  go_wp2_with (go_at_call 114; refine (residue_any _ _ _ (by omega) (by omega)).mono ?_; rintro e w' ⟨rfl, rfl⟩)
  refine wp_loop_rounds 2 ?_
  rw [rounds_succ]; go_wp2_with (first | (go_at_call 128; ((with_reducible refine (strip22 _).mono ?_); rintro e w' ⟨rfl, rfl⟩)))
  rw [rounds_succ]; go_wp2_with (first | (go_at_call 128; ((with_reducible refine (strip22 _).mono ?_); rintro e w' ⟨rfl, rfl⟩)))
  go_ret
  exact ⟨rfl, rfl⟩
set_option maxHeartbeats 400000 in
theorem jac37 (w : World) : Calls Try.prog 130 #[.int .i64 3, .int .i64 7] w fun e w' => e = .returned (.int .i64 (-1)) ∧ w = w' := by
  go_enter Try.func130, Try.ntmps130
  go_wp2_with (go_at_call 114; refine (residue_any _ _ _ (by omega) (by omega)).mono ?_; rintro e w' ⟨rfl, rfl⟩)
  refine wp_loop_rounds 3 ?_
  rw [rounds_succ]; go_wp2_with (first | (go_at_call 128; ((with_reducible refine (strip32 _).mono ?_); rintro e w' ⟨rfl, rfl⟩)) | (go_at_call 128; ((with_reducible refine (strip1 _).mono ?_); rintro e w' ⟨rfl, rfl⟩)))
  rw [rounds_succ]; go_wp2_with (first | (go_at_call 128; ((with_reducible refine (strip32 _).mono ?_); rintro e w' ⟨rfl, rfl⟩)) | (go_at_call 128; ((with_reducible refine (strip1 _).mono ?_); rintro e w' ⟨rfl, rfl⟩)))
  rw [rounds_succ]; go_wp2_with (first | (go_at_call 128; ((with_reducible refine (strip32 _).mono ?_); rintro e w' ⟨rfl, rfl⟩)) | (go_at_call 128; ((with_reducible refine (strip1 _).mono ?_); rintro e w' ⟨rfl, rfl⟩)))
  go_ret
  exact ⟨rfl, rfl⟩
end Go.Proofs.Ytcbdnnboddahkaa
namespace Go.Proofs.Ytcbdnnboddahkaa
open Go.RowKit
set_option linter.unusedVariables false
set_option maxRecDepth 100000
set_option maxHeartbeats 400000 in
theorem cof849 (w : World) : Calls Try.prog 113 #[.int .i64 8, .int .i64 49] w fun e w' => e = .returned (.tuple #[.int .i64 1, .int .i64 (-6)]) ∧ w = w' := by
  go_enter Try.func113, Try.ntmps113
  go_wp2
  refine wp_loop_rounds 4 ?_
  rw [rounds_succ]; go_wp2
  rw [rounds_succ]; go_wp2
  rw [rounds_succ]; go_wp2
  rw [rounds_succ]; go_wp2
  go_ret2
  exact ⟨rfl, rfl⟩
theorem p227 (w : World) : Calls Try.prog 121 #[.int .i64 2, .int .i64 2, .int .i64 7] w fun e w' => e = .returned (.int .i64 4) ∧ w = w' :=
  power_lit 2 2 7 4 w (by omega) (by omega) (by omega) (by omega) (by decide +kernel)
theorem p237 (w : World) : Calls Try.prog 121 #[.int .i64 2, .int .i64 3, .int .i64 7] w fun e w' => e = .returned (.int .i64 1) ∧ w = w' :=
  power_lit 2 3 7 1 w (by omega) (by omega) (by omega) (by omega) (by decide +kernel)
theorem p337 (w : World) : Calls Try.prog 121 #[.int .i64 3, .int .i64 3, .int .i64 7] w fun e w' => e = .returned (.int .i64 6) ∧ w = w' :=
  power_lit 3 3 7 6 w (by omega) (by omega) (by omega) (by omega) (by decide +kernel)
set_option maxHeartbeats 400000 in
theorem lift7 (w : World) : Calls Try.prog 147 #[.int .i64 2, .int .i64 49, .int .i64 4] w fun e w' => e = .returned (.int .i64 39) ∧ w = w' := by
  go_enter Try.func147, Try.ntmps147
  go_wp2
  refine wp_loop_rounds 2 ?_
  rw [rounds_succ]; go_wp2_with (first | (go_at_call 113; refine (cof849 _).mono ?_; rintro e w' ⟨rfl, rfl⟩) | (go_at_call 114; refine (residue_any _ _ _ (by omega) (by omega)).mono ?_; rintro e w' ⟨rfl, rfl⟩))
  rw [rounds_succ]; go_wp2_with (go_at_call 114; refine (residue_any _ _ _ (by omega) (by omega)).mono ?_; rintro e w' ⟨rfl, rfl⟩)
  go_ret
  exact ⟨rfl, rfl⟩
set_option maxHeartbeats 400000 in
theorem rmp27 (w : World) : Calls Try.prog 180 #[.int .i64 2, .int .i64 7] w fun e w' => e = .returned (.int .i64 4) ∧ w = w' := by
  go_enter Try.func180, Try.ntmps180
  go_wp2_with (go_at_call 128; refine (strip62 _).mono ?_; rintro e w' ⟨rfl, rfl⟩)
  refine wp_loop_rounds 2 ?_
  rw [rounds_succ]; go_wp2_with (go_at_call 130; refine (jac27 _).mono ?_; rintro e w' ⟨rfl, rfl⟩)
  rw [rounds_succ]; go_wp2_with (first | (go_at_call 130; refine (jac37 _).mono ?_; rintro e w' ⟨rfl, rfl⟩) | (go_at_call 121; ((with_reducible refine (p227 _).mono ?_); rintro e w' ⟨rfl, rfl⟩)) | (go_at_call 121; ((with_reducible refine (p237 _).mono ?_); rintro e w' ⟨rfl, rfl⟩)) | (go_at_call 121; ((with_reducible refine (p337 _).mono ?_); rintro e w' ⟨rfl, rfl⟩)))
  refine wp_loop_rounds 1 ?_
  rw [rounds_succ]; go_wp2
  go_ret
  exact ⟨rfl, rfl⟩
end Go.Proofs.Ytcbdnnboddahkaa
namespace Go.Proofs.Ytcbdnnboddahkaa
open Go.RowKit
set_option linter.unusedVariables false
set_option maxRecDepth 100000
set_option maxHeartbeats 400000 in
theorem len2 (w : World) : Calls Try.prog 156 #[.int .u64 2] w fun e w' => (∃ x, e = .returned (.int .i64 x)) ∧ w = w' := by
  go_enter Try.func156, Try.ntmps156
  go_wp2
  go_ret
  exact ⟨⟨_, rfl⟩, rfl⟩
set_option maxHeartbeats 400000 in
theorem less_any (x y : Int) (w : World) : Calls Try.prog 175 #[.int .i64 x, .int .i64 y] w fun e w' => e = .returned (.bool (decide (x < y))) ∧ w' = w := by
  have e1 : ∀ z : Int, (z != z) = false := by simp
  by_cases h : x < y
  all_goals
    go_enter Try.func175, Try.ntmps175
    go_wp2
    go_ret
    exact ⟨by simp [h], rfl⟩
set_option maxHeartbeats 400000 in
theorem ins2 (b : Nat) (w : World) (h0 : w.cell? ⟨b, 0, none⟩ = some (.int .i64 39)) (h1 : w.cell? ⟨b, 1, none⟩ = some (.int .i64 10)) (f0 : w.frozen? ⟨b, 0, none⟩ = false) (f1 : w.frozen? ⟨b, 1, none⟩ = false) :
    Calls Try.prog 169 #[.slice (some ⟨b, 0, none⟩) 2 2, .int .i64 0, .int .i64 2] w fun e w' => e = .returned (.tuple #[]) ∧ w'.cell? ⟨b, 0, none⟩ = some (.int .i64 10) ∧ w'.cell? ⟨b, 1, none⟩ = some (.int .i64 39) ∧ w'.frozen? ⟨b, 0, none⟩ = false ∧ w'.frozen? ⟨b, 1, none⟩ = false ∧ Below b w w' := by
  go_enter Try.func169, Try.ntmps169
  go_wp2
  refine wp_loop_rounds 2 ?_
  rw [rounds_succ]; go_wp2
  refine wp_loop_rounds 2 ?_
  rw [rounds_succ]; go_wp2
  go_quiet ((go_at_call 175; exact Calls.quiet_of_same (less_any _ _ _)))
  go_wp2
  go_region
  go_wp2
  rw [rounds_succ]; go_wp2
  go_quiet (fail)
  go_wp2
  rw [rounds_succ]; go_wp2
  go_end0
  refine ⟨rfl, by simp [go_sem, h0], by simp [go_sem, h1], by simp [go_sem, f0], by simp [go_sem, f1], ?_⟩
  exact below_draws (((below_draws (Below.refl _ _) _).setCell (p := ⟨b, 1, none⟩) (Nat.le_refl _) _).setCell (p := ⟨b, 0, none⟩) (Nat.le_refl _) _) _
def Sorted2 (b : Nat) (w w' : World) : Prop := w'.cell? ⟨b, 0, none⟩ = some (.int .i64 10) ∧ w'.cell? ⟨b, 1, none⟩ = some (.int .i64 39) ∧ w'.frozen? ⟨b, 0, none⟩ = false ∧ w'.frozen? ⟨b, 1, none⟩ = false ∧ Below b w w'
set_option maxHeartbeats 400000 in
theorem pdq2 (b : Nat) (x : Int) (w : World) (h0 : w.cell? ⟨b, 0, none⟩ = some (.int .i64 39)) (h1 : w.cell? ⟨b, 1, none⟩ = some (.int .i64 10)) (f0 : w.frozen? ⟨b, 0, none⟩ = false) (f1 : w.frozen? ⟨b, 1, none⟩ = false) :
    Calls Try.prog 155 #[.slice (some ⟨b, 0, none⟩) 2 2, .int .i64 0, .int .i64 2, .int .i64 x] w fun e w' => e = .returned (.tuple #[]) ∧ Sorted2 b w w' := by
  go_enter Try.func155, Try.ntmps155
  go_wp2
  refine wp_loop_rounds 1 ?_
  rw [rounds_succ]; go_wp2_with (go_at_call 169; refine (ins2 b _ h0 h1 f0 f1).mono ?_; rintro e w1 ⟨rfl, hq⟩; replace hq := Lib.hid hq)
  refine bodyPost_ret (v := .tuple #[]) (by simp [results, Try.results155, go_sem]) rfl ?_
  exact ⟨rfl, hq.out⟩
set_option maxHeartbeats 400000 in
theorem sort2 (b : Nat) (w : World) (h0 : w.cell? ⟨b, 0, none⟩ = some (.int .i64 39)) (h1 : w.cell? ⟨b, 1, none⟩ = some (.int .i64 10)) (f0 : w.frozen? ⟨b, 0, none⟩ = false) (f1 : w.frozen? ⟨b, 1, none⟩ = false) :
    Calls Try.prog 139 #[.slice (some ⟨b, 0, none⟩) 2 2] w fun e w' => e = .returned (.tuple #[]) ∧ Sorted2 b w w' := by
  go_enter Try.func139, Try.ntmps139
  go_wp2_with (first | (go_at_call 156; refine (len2 _).mono ?_; rintro e w1 ⟨⟨x, rfl⟩, rfl⟩) | (go_at_call 155; refine (pdq2 b _ _ h0 h1 f0 f1).mono ?_; rintro e w1 ⟨rfl, hq⟩; replace hq := Lib.hid hq))
  go_end0
  exact ⟨rfl, hq.out⟩
set_option maxHeartbeats 400000 in
theorem unit27 (w : World) :
    Calls Try.prog 161 #[.int .i64 2, .int .i64 7, .int .i64 49] w fun e w' => e = .returned (.slice (some ⟨w.heap.size, 0, none⟩) 2 2) ∧ Sorted2 w.heap.size w w' ∧ w.heap.size < w'.heap.size := by
  go_enter Try.func161, Try.ntmps161
  go_wp2_with (first | (go_at_call 130; refine (jac27 _).mono ?_; rintro e w1 ⟨rfl, rfl⟩) | (go_at_call 180; refine (rmp27 _).mono ?_; rintro e w1 ⟨rfl, rfl⟩) | (go_at_call 147; refine (lift7 _).mono ?_; rintro e w1 ⟨rfl, rfl⟩) | (go_at_call 139; refine (sort2 w.heap.size _ (by simp [go_sem]) (by simp [go_sem]) (by simp [go_sem]) (by simp [go_sem])).mono ?_; rintro e w1 ⟨rfl, hq⟩; replace hq := Lib.hid hq))
  go_ret
  obtain ⟨a1, a2, a3, a4, a5⟩ := hq.out
  refine ⟨rfl, ⟨a1, a2, a3, a4, ?_⟩, ?_⟩
  · exact ((Below.refl _ _).alloc (Nat.le_refl _) _).trans a5
  · have := a5.size; simp at this; omega
end Go.Proofs.Ytcbdnnboddahkaa
namespace Go.Proofs.Ytcbdnnboddahkaa
open Go.RowKit
set_option linter.unusedVariables false
set_option maxRecDepth 100000
set_option maxHeartbeats 400000 in
theorem fr27 (w : World) :
    Calls Try.prog 146 #[.int .i64 2, .int .i64 7, .int .i64 2, .int .i64 49] w fun e w' => e = .returned (.tuple #[.slice (some ⟨w.heap.size, 0, none⟩) 2 2, .int .i64 49]) ∧ Sorted2 w.heap.size w w' ∧ w.heap.size < w'.heap.size := by
  go_enter Try.func146, Try.ntmps146
  go_wp2_with (first | (go_at_call 128; refine (strip27 _).mono ?_; rintro e w1 ⟨rfl, rfl⟩) | (go_at_call 159; refine (raise70 _).mono ?_; rintro e w1 ⟨rfl, rfl⟩) | (go_at_call 161; refine (unit27 _).mono ?_; rintro e w1 ⟨rfl, ⟨a1, a2, a3, a4, a5⟩, a6⟩; replace a5 := Lib.hid a5))
  refine wp_loop_rounds 3 ?_
  rw [rounds_succ]; go_wp2
  rw [rounds_succ]; go_wp2
  rw [rounds_succ]; go_wp2
  go_ret2
  refine ⟨rfl, ⟨by simp [go_sem, a1], by simp [go_sem, a2], by simp [go_sem, a3], by simp [go_sem, a4], ?_⟩, by simp; omega⟩
  exact (a5.out.setCell (p := ⟨w.heap.size, 0, none⟩) (Nat.le_refl _) _).setCell (p := ⟨w.heap.size, 1, none⟩) (Nat.le_refl _) _
theorem own_mono {w : World} {B B' T n k : Nat} {v : Value} {l : List Value} (h : w.ownsRow B T k v n l) (hB : B' ≤ B) : w.ownsRow B' T k v n l := by
  refine ⟨h.1, ?_⟩
  rcases h.2 with h | ⟨g, cap, cur, e, hb, r⟩
  · exact .inl h
  · exact .inr ⟨g, cap, cur, e, Nat.le_trans hB hb, r⟩
set_option maxHeartbeats 400000 in
theorem roots27 (w : World) :
    Calls Try.prog 84 #[.int .i64 2, .int .i64 7, .int .i64 2] w fun e w' => ∃ v, e = .returned (.tuple #[v, .int .i64 0]) ∧ w'.ownsRow w.heap.size 3 1 v 2 [.int .i64 10, .int .i64 39] ∧ Below w.heap.size w w' := by
  obtain ⟨i0, hi, hz0, hz1, hz2⟩ := info_parts Try.info3
  go_enter Try.func84, Try.ntmps84
  go_wp2_with (first | (go_at_call 145; refine (pp72 _).mono ?_; rintro e w1 ⟨rfl, rfl⟩) | (go_at_call 114; refine (residue_any _ _ _ (by omega) (by omega)).mono ?_; rintro e w' ⟨rfl, rfl⟩) | (go_at_call 146; refine (fr27 _).mono ?_; rintro e w1 ⟨rfl, ⟨a1, a2, -, -, a5⟩, a6⟩; replace a5 := Lib.hid a5))
  refine wp_loop_rounds 2 ?_
  rw [rounds_succ]; go_wp2
  refine wp_loop_rounds 3 ?_
  rw [rounds_succ]
  go_wp2_with (at_builtin; refine wpList_append_own _ rfl _ _ 74 rfl (w1.heap.size) 3 i0 (.int .i64 0) 1 8 Try.underlying74 hi hz0 hz1 hz2 rfl (by decide) _ _ _ rfl (World.ownsRow_nil _ _ _ _) ⟨w1.heap.size, 0, none⟩ 1 1 [.int .i64 10] rfl rfl (one_new _ _ _ _ (by simp)) (by intro u hu; simp at hu; subst hu; rfl) (by unfold maxLen; omega) (by omega) (by simp) ?_)
  intro v2 w2 hown2 hgrow2 _
  have hb2 : Below w1.heap.size w1 w2 := ((Below.refl _ _).alloc (Nat.le_refl _) _).grown hgrow2 (by simp) (by simp [Value.ownBlock])
  have c1 := cellB hb2 a6 a1
  have c2 := cellB hb2 a6 a2
  have s2 := hb2.size
  have HB2 := Lib.hid hb2
  clear a1 a2 hgrow2 hb2
  go_wp2
  rw [rounds_succ]
  go_wp2_with (at_builtin; refine wpList_append_own _ rfl _ _ 74 rfl (w1.heap.size) 3 i0 (.int .i64 0) 1 8 Try.underlying74 hi hz0 hz1 hz2 rfl (by decide) _ _ _ rfl (hown2.alloc _) ⟨w2.heap.size, 0, none⟩ 1 1 [.int .i64 39] rfl rfl (one_new _ _ _ _ (by simp)) (by intro u hu; simp at hu; subst hu; rfl) (by unfold maxLen; omega) (by omega) (by simp; omega) ?_)
  intro v3 w3 hown3 hgrow3 _
  go_wp2
  rw [rounds_succ]
  go_wp2
  rw [rounds_succ]
  go_wp2
  go_ret2
  have hB2 : Below w.heap.size w w2 := a5.out.trans (HB2.out.mono (by omega))
  refine ⟨v3, rfl, own_mono hown3 (by omega), ?_⟩
  refine (hB2.alloc (by omega) _).grown hgrow3 (by simp; omega) ?_
  intro k hk
  have := hown2.lt k hk
  omega
set_option maxHeartbeats 400000 in
theorem ints_ab (a b : Int) (g c g' c' : Nat) (w : World) (hc : 2 ≤ c) (hc' : 2 ≤ c') (h0 : w.cell? ⟨g, 0, none⟩ = some (.int .i64 a)) (h1 : w.cell? ⟨g, 1, none⟩ = some (.int .i64 b)) (k0 : w.cell? ⟨g', 0, none⟩ = some (.int .i64 a)) (k1 : w.cell? ⟨g', 1, none⟩ = some (.int .i64 b)) :
    Calls Try.prog 81 #[.slice (some ⟨g, 0, none⟩) 2 c, .slice (some ⟨g', 0, none⟩) 2 c'] w fun e w' => e = .returned (.bool true) ∧ Drew w w' := by
  go_enter Try.func81, Try.ntmps81
  go_wp2
  refine wp_loop_rounds 3 ?_
  rw [rounds_succ]; go_wp2
  go_quiet (fail)
  go_wp2
  rw [rounds_succ]; go_wp2
  go_quiet (fail)
  go_wp2
  rw [rounds_succ]; go_wp2
  go_ret
  exact ⟨rfl, ⟨_, rfl⟩⟩
end Go.Proofs.Ytcbdnnboddahkaa
namespace Go.Proofs.Ytcbdnnboddahkaa
open Go.RowKit
set_option linter.unusedVariables false
set_option maxRecDepth 100000
/-- Bezout of 12 and -18 -/
theorem bez_12 (w : World) : Calls Try.prog 46 #[.int .i64 12, .int .i64 (-18)] w fun e w' => e = .returned (.tuple #[.int .i64 6, .int .i64 2, .int .i64 1, .int .i64 0]) ∧ Drew w w' := by
  refine (bez_ok 12 (-18) w (by decide) (by decide) (by decide)).mono fun e w' ⟨⟨x, he, hx⟩, hd⟩ => ⟨?_, hd⟩
  have hg : (Int.gcd 12 (-18) : Int) = 6 := by decide
  obtain ⟨h1, h2, h3⟩ := hx
  rw [hg] at he h3 h2
  have h4 : ((-18 : Int).natAbs : Int) / 6 = 3 := by decide
  have h5 : ((-18 : Int).natAbs : Int) = 18 := by decide
  rw [h4] at h2
  rw [h5] at h3
  have hx2 : x = 2 := by omega
  subst hx2
  rw [he]; rfl
theorem own_two {w : World} {B T : Nat} {k : IntKind} {v : Value} {a b : Int} (h : w.ownsRow B T 1 v 2 [.int k a, .int k b]) : ∃ g c, v = .slice (some ⟨g, 0, none⟩) 2 c ∧ B ≤ g ∧ g < w.heap.size ∧ 2 ≤ c ∧ c ≤ 9223372036854775807 ∧ w.cell? ⟨g, 0, none⟩ = some (.int k a) ∧ w.cell? ⟨g, 1, none⟩ = some (.int k b) := by
  rcases h.2 with ⟨_, h0⟩ | ⟨g, cap, cur, rfl, hb, hg, h1, h2, h3, h4⟩
  · simp at h0
  · refine ⟨g, cap, rfl, hb, (h.lt g rfl).2, h1, h2, ?_, ?_⟩
    · rw [h.cellAt 0 (by omega)]; rfl
    · rw [h.cellAt 1 (by omega)]; rfl
/-- what stays as it is while 'awake' compares -/
structure Kp (w0 : World) (A b3 b4 g : Nat) (v3 v4 : Value) (w : World) : Prop where
  a0 : w.cell? ⟨A, 0, none⟩ = some (.bool true)
  a1 : w.cell? ⟨A, 1, none⟩ = some v3
  b0 : w.cell? ⟨A + 1, 0, none⟩ = some (.bool false)
  b1 : w.cell? ⟨A + 1, 1, none⟩ = some v4
  q : w.cell? ⟨b3, 0, none⟩ = some (.int .u32 4)
  r : w.cell? ⟨b4, 0, none⟩ = some (.int .u32 1)
  x : w.cell? ⟨g, 0, none⟩ = some (.int .i64 10)
  y : w.cell? ⟨g, 1, none⟩ = some (.int .i64 39)
  zA : A + 1 < w.heap.size
  z3 : b3 < w.heap.size
  z4 : b4 < w.heap.size
  zg : g < w.heap.size
  bel : Below w0.heap.size w0 w
theorem Kp.below {w0 : World} {A b3 b4 g : Nat} {v3 v4 : Value} {w w' : World} (hb : Below w.heap.size w w') (h : Kp w0 A b3 b4 g v3 v4 w) : Kp w0 A b3 b4 g v3 v4 w' := by
  have := h.zA; have := h.z3; have := h.z4; have := h.zg; have := hb.size
  exact ⟨cellB hb (by omega) h.a0, cellB hb (by omega) h.a1, cellB hb (by omega) h.b0, cellB hb (by omega) h.b1, cellB hb (by omega) h.q, cellB hb (by omega) h.r, cellB hb (by omega) h.x, cellB hb (by omega) h.y, by omega, by omega, by omega, by omega, h.bel.trans (hb.mono h.bel.size)⟩
theorem Kp.draws {w0 : World} {A b3 b4 g : Nat} {v3 v4 : Value} {w : World} (n : Nat) (h : Kp w0 A b3 b4 g v3 v4 w) : Kp w0 A b3 b4 g v3 v4 (w.drewN n) := h.below (below_draws (Below.refl _ _) n)
theorem Kp.drews {w0 : World} {A b3 b4 g : Nat} {v3 v4 : Value} {w w' : World} (hd : Drew w w') (h : Kp w0 A b3 b4 g v3 v4 w) : Kp w0 A b3 b4 g v3 v4 w' := by
  obtain ⟨n, rfl⟩ := hd; exact h.draws n
theorem ints_new (g c n : Nat) (w : World) (hc : 2 ≤ c) (hn : n = w.heap.size) (h0 : (w.alloc (.cells #[.int .i64 10, .int .i64 39] 3)).cell? ⟨g, 0, none⟩ = some (.int .i64 10)) (h1 : (w.alloc (.cells #[.int .i64 10, .int .i64 39] 3)).cell? ⟨g, 1, none⟩ = some (.int .i64 39)) :
    Calls Try.prog 81 #[.slice (some ⟨g, 0, none⟩) 2 c, .slice (some ⟨n, 0, none⟩) 2 2] (w.alloc (.cells #[.int .i64 10, .int .i64 39] 3)) fun e w' => e = .returned (.bool true) ∧ Drew (w.alloc (.cells #[.int .i64 10, .int .i64 39] 3)) w' := by
  subst hn
  exact ints_ab 10 39 g c w.heap.size 2 _ hc (by omega) h0 h1 (by simp [go_sem]) (by simp [go_sem])
theorem Kp.alloc {w0 : World} {A b3 b4 g : Nat} {v3 v4 : Value} {w : World} (o : Obj) (h : Kp w0 A b3 b4 g v3 v4 w) : Kp w0 A b3 b4 g v3 v4 (w.alloc o) := h.below ((Below.refl _ _).alloc (Nat.le_refl _) o)
def KS (A : Nat) (v3 v4 : Value) (w' : World) : Prop := w'.cell? ⟨A, 0, none⟩ = some (.bool true) ∧ w'.cell? ⟨A, 1, none⟩ = some v3 ∧ w'.cell? ⟨A + 1, 0, none⟩ = some (.bool false) ∧ w'.cell? ⟨A + 1, 1, none⟩ = some v4
theorem Kp.ks {w0 : World} {A b3 b4 g : Nat} {v3 v4 : Value} {w : World} (h : Kp w0 A b3 b4 g v3 v4 w) : (w.cell? ⟨A, 0, none⟩ = some (.bool true) ∧ w.cell? ⟨A, 1, none⟩ = some v3 ∧ w.cell? ⟨A + 1, 0, none⟩ = some (.bool false) ∧ w.cell? ⟨A + 1, 1, none⟩ = some v4) ∧ Kp w0 A b3 b4 g v3 v4 w := ⟨⟨h.a0, h.a1, h.b0, h.b1⟩, h⟩
set_option maxHeartbeats 4000000 in
theorem awake_any (w : World) : Calls Try.prog 20 #[] w fun e w' => e = .returned (.bool true) ∧ Below w.heap.size w w' := by
  go_enter Try.func20, Try.ntmps20
  go_wp2_with fail
  refine (of_m7 w).mono ?_
  rintro e w1 ⟨v, rfl, ⟨b1, c1, rfl, p1, p2, p3, p4, p5⟩, hb1⟩
  have HB1 := Lib.hid hb1
  go_wp2_with fail
  refine (of_2 w1).mono ?_
  rintro e w2 ⟨v, rfl, ⟨b2, c2, rfl, q1, q2, q3, q4, q5⟩, hb2⟩
  have p5' := cellB hb2 p2 p5
  have z2 := hb2.size
  have HB2 := Lib.hid hb2
  clear hb1 hb2
  go_wp2_with fail
  refine (divmod_72 b1 c1 b2 c2 w2 (by omega) q2 p3 p4 q3 q4 p5' q5).mono ?_
  rintro e w3 ⟨v, u, rfl, ⟨b3, c3, rfl, r1, r2, r3, r4, r5⟩, ⟨b4, c4, rfl, s1, s2, s3, s4, s5⟩, hb3⟩
  have z3 := hb3.size
  have HB3 := Lib.hid hb3
  have z1 := HB1.out.size
  clear hb3 p5' q5
  go_wp2_with fail
  refine (bez_12 _).mono ?_
  rintro e w4 ⟨rfl, n, rfl⟩
  go_wp2_with fail
  refine (hil2 _).mono ?_
  rintro e w5 ⟨rfl, rfl⟩
  go_wp2_with fail
  generalize hA : w3.heap.size = A at *
  have hs4 : Below w.heap.size w (((w3.alloc (Obj.cells #[Value.bool true, Value.slice (some { block := b3, off := 0 }) 1 c3] 24)).alloc (Obj.cells #[Value.bool false, Value.slice (some { block := b4, off := 0 }) 1 c4] 24)).drewN n) :=
    below_draws ((((HB1.out.trans (HB2.out.mono (by omega))).trans (HB3.out.mono (by omega))).alloc (by omega) _).alloc (by simp; omega) _) n
  have u3 : b3 < w3.heap.size := by omega
  have u3' : b3 < w3.heap.size + 1 := by omega
  have u4 : b4 < w3.heap.size := by omega
  have u4' : b4 < w3.heap.size + 1 := by omega
  have k1 : (((w3.alloc (Obj.cells #[Value.bool true, Value.slice (some { block := b3, off := 0 }) 1 c3] 24)).alloc (Obj.cells #[Value.bool false, Value.slice (some { block := b4, off := 0 }) 1 c4] 24)).drewN n).cell? ⟨A, 0, none⟩ = some (.bool true) := by subst hA; simp [go_sem]
  have k2 : (((w3.alloc (Obj.cells #[Value.bool true, Value.slice (some { block := b3, off := 0 }) 1 c3] 24)).alloc (Obj.cells #[Value.bool false, Value.slice (some { block := b4, off := 0 }) 1 c4] 24)).drewN n).cell? ⟨A, 1, none⟩ = some (.slice (some ⟨b3, 0, none⟩) 1 c3) := by subst hA; simp [go_sem]
  have k3 : (((w3.alloc (Obj.cells #[Value.bool true, Value.slice (some { block := b3, off := 0 }) 1 c3] 24)).alloc (Obj.cells #[Value.bool false, Value.slice (some { block := b4, off := 0 }) 1 c4] 24)).drewN n).cell? ⟨A + 1, 0, none⟩ = some (.bool false) := by subst hA; simp [go_sem]
  have k4 : (((w3.alloc (Obj.cells #[Value.bool true, Value.slice (some { block := b3, off := 0 }) 1 c3] 24)).alloc (Obj.cells #[Value.bool false, Value.slice (some { block := b4, off := 0 }) 1 c4] 24)).drewN n).cell? ⟨A + 1, 1, none⟩ = some (.slice (some ⟨b4, 0, none⟩) 1 c4) := by subst hA; simp [go_sem]
  have k5 : (((w3.alloc (Obj.cells #[Value.bool true, Value.slice (some { block := b3, off := 0 }) 1 c3] 24)).alloc (Obj.cells #[Value.bool false, Value.slice (some { block := b4, off := 0 }) 1 c4] 24)).drewN n).cell? ⟨b3, 0, none⟩ = some (.int .u32 4) := by simp [go_sem, r5, u3, u3']
  have k6 : (((w3.alloc (Obj.cells #[Value.bool true, Value.slice (some { block := b3, off := 0 }) 1 c3] 24)).alloc (Obj.cells #[Value.bool false, Value.slice (some { block := b4, off := 0 }) 1 c4] 24)).drewN n).cell? ⟨b4, 0, none⟩ = some (.int .u32 1) := by simp [go_sem, s5, u4, u4']
  have k7 : (((w3.alloc (Obj.cells #[Value.bool true, Value.slice (some { block := b3, off := 0 }) 1 c3] 24)).alloc (Obj.cells #[Value.bool false, Value.slice (some { block := b4, off := 0 }) 1 c4] 24)).drewN n).heap.size = A + 2 := by simp; omega
  have HS := Lib.hid hs4
  clear hs4 hA
  generalize ((w3.alloc (Obj.cells #[Value.bool true, Value.slice (some { block := b3, off := 0 }) 1 c3] 24)).alloc (Obj.cells #[Value.bool false, Value.slice (some { block := b4, off := 0 }) 1 c4] 24)).drewN n = w5 at *
  refine (roots27 w5).mono ?_
  rintro e w6 ⟨v, rfl, hown, hbel⟩
  obtain ⟨g, cg, rfl, g1, g2, g3, g4, g5, g6⟩ := own_two hown
  have z6 := hbel.size
  have hK : Kp w A b3 b4 g (.slice (some ⟨b3, 0, none⟩) 1 c3) (.slice (some ⟨b4, 0, none⟩) 1 c4) w6 :=
    ⟨cellB hbel (by omega) k1, cellB hbel (by omega) k2, cellB hbel (by omega) k3, cellB hbel (by omega) k4, cellB hbel (by omega) k5, cellB hbel (by omega) k6, g5, g6, by omega, by omega, by omega, g2, HS.out.trans (hbel.mono HS.out.size)⟩
  have HK := Lib.hid hK
  clear hK hown hbel k1 k2 k3 k4 k5 k6 k7 r5 s5 p5 HB1 HB2 HB3 HS
  go_wp2_with fail
  have hk0 := HK.out
  clear HK
  go_region_held3 (fun w' => (w'.cell? ⟨A, 0, none⟩ = some (.bool true) ∧ w'.cell? ⟨A, 1, none⟩ = some (.slice (some ⟨b3, 0, none⟩) 1 c3) ∧ w'.cell? ⟨A + 1, 0, none⟩ = some (.bool false) ∧ w'.cell? ⟨A + 1, 1, none⟩ = some (.slice (some ⟨b4, 0, none⟩) 1 c4)) ∧ Kp w A b3 b4 g (.slice (some ⟨b3, 0, none⟩) 1 c3) (.slice (some ⟨b4, 0, none⟩) 1 c4) w') (first | exact Kp.ks (by assumption) | exact Kp.ks (Kp.draws 1 (by assumption)) | exact Kp.ks (Kp.alloc _ (by assumption)))
    (first
      | (go_at_call 25; ((with_reducible refine (rof_m4 _).mono ?_); rintro e w' ⟨v, rfl, ⟨b, c, rfl, hv1, hv2, hv3, hv4, hv5⟩, hbel⟩; have hk' := Kp.below hbel (And.right (by assumption)); clear hbel))
      | (go_at_call 25; ((with_reducible refine (rof_1 _).mono ?_); rintro e w' ⟨v, rfl, ⟨b, c, rfl, hv1, hv2, hv3, hv4, hv5⟩, hbel⟩; have hk' := Kp.below hbel (And.right (by assumption)); clear hbel))
      | (go_at_call 24; ((with_reducible refine (same_one true 4 _ _ _ _ _ ?_ ?_ ?_ ?_ ?_ ?_ ?_ ?_).mono ?_)); (exact Kp.z3 (And.right (by assumption))); assumption; exact r3; exact r4; assumption; assumption; (exact Kp.q (And.right (by assumption))); assumption; rintro e w' ⟨rfl, hbel⟩; have hk' := Kp.below hbel (And.right (by assumption)); clear hbel)
      | (go_at_call 24; ((with_reducible refine (same_one false 1 _ _ _ _ _ ?_ ?_ ?_ ?_ ?_ ?_ ?_ ?_).mono ?_)); (exact Kp.z4 (And.right (by assumption))); assumption; exact s3; exact s4; assumption; assumption; (exact Kp.r (And.right (by assumption))); assumption; rintro e w' ⟨rfl, hbel⟩; have hk' := Kp.below hbel (And.right (by assumption)); clear hbel)
      | (go_at_call 81; (with_reducible refine (ints_new _ _ _ _ ?_ ?_ ?_ ?_).mono ?_); exact g3; rfl; (exact Kp.x (And.right (by assumption))); (exact Kp.y (And.right (by assumption))); rintro e w' ⟨rfl, hd⟩; have hk' := Kp.drews hd (And.right (by assumption)); clear hd))
  all_goals go_wp2
  all_goals go_ret
  all_goals exact ⟨rfl, Kp.bel (by assumption)⟩
end Go.Proofs.Ytcbdnnboddahkaa
