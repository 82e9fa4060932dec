/-
  WALKS at the one example of 'awake': the roots of 2 modulo 49.
-/
import Derived.Test.YtcbdnnboddahkaaAw8
import Derived.Outline
namespace Go.Proofs.Ytcbdnnboddahkaa
open Go.RowKit
set_option linter.unusedVariables false
set_option maxRecDepth 100000
set_option maxHeartbeats 400000 in
theorem fr27 (w : World) :
    Calls Try.prog 146 #[.int .i64 2, .int .i64 7, .int .i64 2, .int .i64 49] w fun e w' => e = .returned (.tuple #[.slice (some ⟨w.heap.size, 0, none⟩) 2 2, .int .i64 49]) ∧ Sorted2 w.heap.size w w' ∧ w.heap.size < w'.heap.size := by
  go_enter Try.func146, Try.ntmps146
  go_wp2_with (first | (go_at_call 128; refine (strip27 _).mono ?_; rintro e w1 ⟨rfl, rfl⟩) | (go_at_call 159; refine (raise70 _).mono ?_; rintro e w1 ⟨rfl, rfl⟩) | (go_at_call 161; refine (unit27 _).mono ?_; rintro e w1 ⟨rfl, ⟨a1, a2, a3, a4, a5⟩, a6⟩; replace a5 := Lib.hid a5))
  refine wp_loop_rounds 3 ?_
  rw [rounds_succ]; go_wp2
  rw [rounds_succ]; go_wp2
  rw [rounds_succ]; go_wp2
  go_ret2
  refine ⟨rfl, ⟨by simp [go_sem, a1], by simp [go_sem, a2], by simp [go_sem, a3], by simp [go_sem, a4], ?_⟩, by simp; omega⟩
  exact (a5.out.setCell (p := ⟨w.heap.size, 0, none⟩) (Nat.le_refl _) _).setCell (p := ⟨w.heap.size, 1, none⟩) (Nat.le_refl _) _
theorem own_mono {w : World} {B B' T n k : Nat} {v : Value} {l : List Value} (h : w.ownsRow B T k v n l) (hB : B' ≤ B) : w.ownsRow B' T k v n l := by
  refine ⟨h.1, ?_⟩
  rcases h.2 with h | ⟨g, cap, cur, e, hb, r⟩
  · exact .inl h
  · exact .inr ⟨g, cap, cur, e, Nat.le_trans hB hb, r⟩
set_option maxHeartbeats 400000 in
theorem roots27 (w : World) :
    Calls Try.prog 84 #[.int .i64 2, .int .i64 7, .int .i64 2] w fun e w' => ∃ v, e = .returned (.tuple #[v, .int .i64 0]) ∧ w'.ownsRow w.heap.size 3 1 v 2 [.int .i64 10, .int .i64 39] ∧ Below w.heap.size w w' := by
  obtain ⟨i0, hi, hz0, hz1, hz2⟩ := info_parts Try.info3
  go_enter Try.func84, Try.ntmps84
  go_wp2_with (first | (go_at_call 145; refine (pp72 _).mono ?_; rintro e w1 ⟨rfl, rfl⟩) | (go_at_call 114; refine (residue_any _ _ _ (by omega) (by omega)).mono ?_; rintro e w' ⟨rfl, rfl⟩) | (go_at_call 146; refine (fr27 _).mono ?_; rintro e w1 ⟨rfl, ⟨a1, a2, -, -, a5⟩, a6⟩; replace a5 := Lib.hid a5))
  refine wp_loop_rounds 2 ?_
  rw [rounds_succ]; go_wp2
  refine wp_loop_rounds 3 ?_
  rw [rounds_succ]
  go_wp2_with (at_builtin; refine wpList_append_own _ rfl _ _ 74 rfl (w1.heap.size) 3 i0 (.int .i64 0) 1 8 Try.underlying74 hi hz0 hz1 hz2 rfl (by decide) _ _ _ rfl (World.ownsRow_nil _ _ _ _) ⟨w1.heap.size, 0, none⟩ 1 1 [.int .i64 10] rfl rfl (one_new _ _ _ _ (by simp)) (by intro u hu; simp at hu; subst hu; rfl) (by unfold maxLen; omega) (by omega) (by simp) ?_)
  intro v2 w2 hown2 hgrow2 _
  have hb2 : Below w1.heap.size w1 w2 := ((Below.refl _ _).alloc (Nat.le_refl _) _).grown hgrow2 (by simp) (by simp [Value.ownBlock])
  have c1 := cellB hb2 a6 a1
  have c2 := cellB hb2 a6 a2
  have s2 := hb2.size
  have HB2 := Lib.hid hb2
  clear a1 a2 hgrow2 hb2
  go_wp2
  rw [rounds_succ]
  go_wp2_with (at_builtin; refine wpList_append_own _ rfl _ _ 74 rfl (w1.heap.size) 3 i0 (.int .i64 0) 1 8 Try.underlying74 hi hz0 hz1 hz2 rfl (by decide) _ _ _ rfl (hown2.alloc _) ⟨w2.heap.size, 0, none⟩ 1 1 [.int .i64 39] rfl rfl (one_new _ _ _ _ (by simp)) (by intro u hu; simp at hu; subst hu; rfl) (by unfold maxLen; omega) (by omega) (by simp; omega) ?_)
  intro v3 w3 hown3 hgrow3 _
  go_wp2
  rw [rounds_succ]
  go_wp2
  rw [rounds_succ]
  go_wp2
  go_ret2
  have hB2 : Below w.heap.size w w2 := a5.out.trans (HB2.out.mono (by omega))
  refine ⟨v3, rfl, own_mono hown3 (by omega), ?_⟩
  refine (hB2.alloc (by omega) _).grown hgrow3 (by simp; omega) ?_
  intro k hk
  have := hown2.lt k hk
  omega
set_option maxHeartbeats 400000 in
theorem ints_ab (a b : Int) (g c g' c' : Nat) (w : World) (hc : 2 ≤ c) (hc' : 2 ≤ c') (h0 : w.cell? ⟨g, 0, none⟩ = some (.int .i64 a)) (h1 : w.cell? ⟨g, 1, none⟩ = some (.int .i64 b)) (k0 : w.cell? ⟨g', 0, none⟩ = some (.int .i64 a)) (k1 : w.cell? ⟨g', 1, none⟩ = some (.int .i64 b)) :
    Calls Try.prog 81 #[.slice (some ⟨g, 0, none⟩) 2 c, .slice (some ⟨g', 0, none⟩) 2 c'] w fun e w' => e = .returned (.bool true) ∧ Drew w w' := by
  go_enter Try.func81, Try.ntmps81
  go_wp2
  refine wp_loop_rounds 3 ?_
  rw [rounds_succ]; go_wp2
  go_quiet (fail)
  go_wp2
  rw [rounds_succ]; go_wp2
  go_quiet (fail)
  go_wp2
  rw [rounds_succ]; go_wp2
  go_ret
  exact ⟨rfl, ⟨_, rfl⟩⟩
end Go.Proofs.Ytcbdnnboddahkaa
