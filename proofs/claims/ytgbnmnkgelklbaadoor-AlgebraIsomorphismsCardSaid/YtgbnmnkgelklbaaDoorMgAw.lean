/-
  WALKS at the examples of 'awake': machine integers, round by round.
  WALKS at the example of 'awake': the discriminant of (-1, 3).
  WALKS at the example of 'awake': the text of an element.
  WALK: 'awake' of the laws on algebras returns true, and changes nothing that was there.
-/
import Derived.Test.YtgbnmnkgelklbaaDoorAl5
import Derived.Test.YtgbnmnkgelklbaaDoorAl6
import Derived.OwnWalk
import Derived.ProofKit
import Derived.WalkSpells
import Derived.Test.YtgbnmnkgelklbaaDoorAlP
namespace Go.Proofs.YtgbnmnkgelklbaaDoor.Al
open Go.RowKit
open Alm
set_option linter.unusedVariables false
set_option linter.unusedSimpArgs false
set_option maxRecDepth 100000
set_option maxHeartbeats 400000 in
theorem ld62 (w : World) : Calls Tryd.prog 64 #[.int .i64 6, .int .i64 2] w fun e w' => e = .returned (.int .i64 2) ∧ w = w' := by
  go_enter Tryd.func64, Tryd.ntmps64
  go_wp2
  refine wp_loop_rounds 1 ?_
  rw [rounds_succ]; go_wp2
  go_ret
  exact ⟨rfl, rfl⟩
set_option maxHeartbeats 400000 in
theorem ld32 (w : World) : Calls Tryd.prog 64 #[.int .i64 3, .int .i64 2] w fun e w' => e = .returned (.int .i64 3) ∧ w = w' := by
  go_enter Tryd.func64, Tryd.ntmps64
  go_wp2
  refine wp_loop_rounds 1 ?_
  rw [rounds_succ]; go_wp2
  go_ret
  exact ⟨rfl, rfl⟩
set_option maxHeartbeats 400000 in
theorem st62 (w : World) : Calls Tryd.prog 84 #[.int .i64 6, .int .i64 2] w fun e w' => e = .returned (.tuple #[.int .i64 3, .int .i64 1]) ∧ w = w' := by
  go_enter Tryd.func84, Tryd.ntmps84
  go_wp2
  refine wp_loop_rounds 2 ?_
  rw [rounds_succ]; go_wp2
  rw [rounds_succ]; go_wp2
  go_ret2
  exact ⟨rfl, rfl⟩
set_option maxHeartbeats 400000 in
theorem st33 (w : World) : Calls Tryd.prog 84 #[.int .i64 3, .int .i64 3] w fun e w' => e = .returned (.tuple #[.int .i64 1, .int .i64 1]) ∧ w = w' := by
  go_enter Tryd.func84, Tryd.ntmps84
  go_wp2
  refine wp_loop_rounds 2 ?_
  rw [rounds_succ]; go_wp2
  rw [rounds_succ]; go_wp2
  go_ret2
  exact ⟨rfl, rfl⟩
set_option maxHeartbeats 400000 in
theorem stm12 (w : World) : Calls Tryd.prog 84 #[.int .i64 (-1), .int .i64 2] w fun e w' => e = .returned (.tuple #[.int .i64 (-1), .int .i64 0]) ∧ w = w' := by
  go_enter Tryd.func84, Tryd.ntmps84
  go_wp2
  refine wp_loop_rounds 1 ?_
  rw [rounds_succ]; go_wp2
  go_ret2
  exact ⟨rfl, rfl⟩
set_option maxHeartbeats 400000 in
theorem st32 (w : World) : Calls Tryd.prog 84 #[.int .i64 3, .int .i64 2] w fun e w' => e = .returned (.tuple #[.int .i64 3, .int .i64 0]) ∧ w = w' := by
  go_enter Tryd.func84, Tryd.ntmps84
  go_wp2
  refine wp_loop_rounds 1 ?_
  rw [rounds_succ]; go_wp2
  go_ret2
  exact ⟨rfl, rfl⟩
set_option maxHeartbeats 400000 in
theorem stm13 (w : World) : Calls Tryd.prog 84 #[.int .i64 (-1), .int .i64 3] w fun e w' => e = .returned (.tuple #[.int .i64 (-1), .int .i64 0]) ∧ w = w' := by
  go_enter Tryd.func84, Tryd.ntmps84
  go_wp2
  refine wp_loop_rounds 1 ?_
  rw [rounds_succ]; go_wp2
  go_ret2
  exact ⟨rfl, rfl⟩
set_option maxHeartbeats 400000 in
theorem st22 (w : World) : Calls Tryd.prog 84 #[.int .i64 2, .int .i64 2] w fun e w' => e = .returned (.tuple #[.int .i64 1, .int .i64 1]) ∧ w = w' := by
  go_enter Tryd.func84, Tryd.ntmps84
  go_wp2
  refine wp_loop_rounds 2 ?_
  rw [rounds_succ]; go_wp2
  rw [rounds_succ]; go_wp2
  go_ret2
  exact ⟨rfl, rfl⟩
set_option maxHeartbeats 400000 in
theorem rsm18 (w : World) : Calls Tryd.prog 82 #[.int .i64 (-1), .int .i64 8] w fun e w' => e = .returned (.int .i64 7) ∧ w = w' := by
  go_enter Tryd.func82, Tryd.ntmps82
  go_wp2
  go_ret
  exact ⟨rfl, rfl⟩
set_option maxHeartbeats 400000 in
theorem rs38 (w : World) : Calls Tryd.prog 82 #[.int .i64 3, .int .i64 8] w fun e w' => e = .returned (.int .i64 3) ∧ w = w' := by
  go_enter Tryd.func82, Tryd.ntmps82
  go_wp2
  go_ret
  exact ⟨rfl, rfl⟩
set_option maxHeartbeats 400000 in
theorem rsm13 (w : World) : Calls Tryd.prog 82 #[.int .i64 (-1), .int .i64 3] w fun e w' => e = .returned (.int .i64 2) ∧ w = w' := by
  go_enter Tryd.func82, Tryd.ntmps82
  go_wp2
  go_ret
  exact ⟨rfl, rfl⟩
set_option maxHeartbeats 400000 in
theorem mo_t (w : World) : Calls Tryd.prog 74 #[.bool true] w fun e w' => e = .returned (.int .i64 (-1)) ∧ w = w' := by
  go_enter Tryd.func74, Tryd.ntmps74
  go_wp2
  go_ret
  exact ⟨rfl, rfl⟩
set_option maxHeartbeats 400000 in
theorem mo_f (w : World) : Calls Tryd.prog 74 #[.bool false] w fun e w' => e = .returned (.int .i64 1) ∧ w = w' := by
  go_enter Tryd.func74, Tryd.ntmps74
  go_wp2
  go_ret
  exact ⟨rfl, rfl⟩
set_option maxHeartbeats 400000 in
theorem wm_m1 (w : World) : Calls Tryd.prog 73 #[.int .i64 (-1)] w fun e w' => e = .returned (.bool true) ∧ w = w' := by
  go_enter Tryd.func73, Tryd.ntmps73
  go_wp2
  go_ret
  exact ⟨rfl, rfl⟩
set_option maxHeartbeats 400000 in
theorem wm_3 (w : World) : Calls Tryd.prog 73 #[.int .i64 3] w fun e w' => e = .returned (.bool true) ∧ w = w' := by
  go_enter Tryd.func73, Tryd.ntmps73
  go_wp2
  go_ret
  exact ⟨rfl, rfl⟩
set_option maxHeartbeats 400000 in
theorem ism6 (w : World) : Calls Tryd.prog 71 #[.int .i64 6] w fun e w' => e = .returned (.bool true) ∧ w = w' := by
  go_enter Tryd.func71, Tryd.ntmps71
  go_wp2
  go_ret
  exact ⟨rfl, rfl⟩
set_option maxHeartbeats 400000 in
theorem isp3 (w : World) : Calls Tryd.prog 39 #[.int .i64 3] w fun e w' => e = .returned (.bool true) ∧ w = w' := by
  go_enter Tryd.func39, Tryd.ntmps39
  go_wp2_with (first | (go_at_call 64; ((with_reducible refine (ld32 _).mono ?_); rintro e w' ⟨rfl, rfl⟩)))
  go_ret
  exact ⟨rfl, rfl⟩
set_option maxHeartbeats 800000 in
theorem jacm13 (w : World) : Calls Tryd.prog 85 #[.int .i64 (-1), .int .i64 3] w fun e w' => e = .returned (.int .i64 (-1)) ∧ w = w' := by
  go_enter Tryd.func85, Tryd.ntmps85
  go_wp2_with (go_at_call 82; ((with_reducible refine (rsm13 _).mono ?_); rintro e w' ⟨rfl, rfl⟩))
  refine wp_loop_rounds 2 ?_
  rw [rounds_succ]; go_wp2_with (go_at_call 84; ((with_reducible refine (st22 _).mono ?_); rintro e w' ⟨rfl, rfl⟩))
  rw [rounds_succ]; go_wp2
  go_ret
  exact ⟨rfl, rfl⟩
set_option maxHeartbeats 400000 in
theorem hat2 (w : World) : Calls Tryd.prog 75 #[.int .i64 (-1), .int .i64 3] w fun e w' => e = .returned (.int .i64 (-1)) ∧ w = w' := by
  go_enter Tryd.func75, Tryd.ntmps75
  go_wp2_with (first | (go_at_call 84; ((with_reducible refine (stm12 _).mono ?_); rintro e w' ⟨rfl, rfl⟩)) | (go_at_call 84; ((with_reducible refine (st32 _).mono ?_); rintro e w' ⟨rfl, rfl⟩)) | (go_at_call 82; ((with_reducible refine (rsm18 _).mono ?_); rintro e w' ⟨rfl, rfl⟩)) | (go_at_call 82; ((with_reducible refine (rs38 _).mono ?_); rintro e w' ⟨rfl, rfl⟩)) | (go_at_call 74; ((with_reducible refine (mo_t _).mono ?_); rintro e w' ⟨rfl, rfl⟩)) | (go_at_call 74; ((with_reducible refine (mo_f _).mono ?_); rintro e w' ⟨rfl, rfl⟩)))
  go_ret
  exact ⟨rfl, rfl⟩
set_option maxHeartbeats 800000 in
theorem hao3 (w : World) : Calls Tryd.prog 76 #[.int .i64 (-1), .int .i64 3, .int .i64 3] w fun e w' => e = .returned (.int .i64 (-1)) ∧ w = w' := by
  go_enter Tryd.func76, Tryd.ntmps76
  go_wp2_with (first | (go_at_call 84; ((with_reducible refine (stm13 _).mono ?_); rintro e w' ⟨rfl, rfl⟩)) | (go_at_call 84; ((with_reducible refine (st33 _).mono ?_); rintro e w' ⟨rfl, rfl⟩)) | (go_at_call 85; ((with_reducible refine (jacm13 _).mono ?_); rintro e w' ⟨rfl, rfl⟩)) | (go_at_call 74; ((with_reducible refine (mo_f _).mono ?_); rintro e w' ⟨rfl, rfl⟩)))
  go_ret
  exact ⟨rfl, rfl⟩
set_option maxHeartbeats 800000 in
theorem hil2 (w : World) : Calls Tryd.prog 53 #[.int .i64 (-1), .int .i64 3, .int .i64 2] w fun e w' => e = .returned (.tuple #[.int .i64 (-1), .int .i64 0]) ∧ w = w' := by
  go_enter Tryd.func53, Tryd.ntmps53
  go_wp2_with (first | (go_at_call 73; ((with_reducible refine (wm_m1 _).mono ?_); rintro e w' ⟨rfl, rfl⟩)) | (go_at_call 73; ((with_reducible refine (wm_3 _).mono ?_); rintro e w' ⟨rfl, rfl⟩)) | (go_at_call 75; ((with_reducible refine (hat2 _).mono ?_); rintro e w' ⟨rfl, rfl⟩)))
  go_ret2
  exact ⟨rfl, rfl⟩
set_option maxHeartbeats 800000 in
theorem hil3 (w : World) : Calls Tryd.prog 53 #[.int .i64 (-1), .int .i64 3, .int .i64 3] w fun e w' => e = .returned (.tuple #[.int .i64 (-1), .int .i64 0]) ∧ w = w' := by
  go_enter Tryd.func53, Tryd.ntmps53
  go_wp2_with (first | (go_at_call 73; ((with_reducible refine (wm_m1 _).mono ?_); rintro e w' ⟨rfl, rfl⟩)) | (go_at_call 73; ((with_reducible refine (wm_3 _).mono ?_); rintro e w' ⟨rfl, rfl⟩)) | (go_at_call 39; ((with_reducible refine (isp3 _).mono ?_); rintro e w' ⟨rfl, rfl⟩)) | (go_at_call 76; ((with_reducible refine (hao3 _).mono ?_); rintro e w' ⟨rfl, rfl⟩)))
  go_ret2
  exact ⟨rfl, rfl⟩
end Go.Proofs.YtgbnmnkgelklbaaDoor.Al
namespace Go.Proofs.YtgbnmnkgelklbaaDoor.Al
open Go.RowKit
open Alm
set_option linter.unusedVariables false
set_option linter.unusedSimpArgs false
set_option maxRecDepth 100000
theorem Try.info3 : (Tryd.prog.info? 3).map (fun i => (i.zero, i.size, i.bytes)) = some (some (.int .i64 0), 1, 8) := by kernel_rfl
theorem Try.infoP : (Tryd.prog.info? 88).map (fun i => (i.zero, i.size, i.bytes)) = some (some (.agg #[.int .i64 0, .int .i64 0]), 2, 16) := by kernel_rfl
theorem one_new (w : World) (u : Value) (T : TypeId) (n : Nat) (hn : n = w.heap.size) : ∀ (j : Nat) (x : Value), [u][j]? = some x → (w.alloc (.cells #[u] T)).cell? ((⟨n, 0, none⟩ : Addr).add j) = some x := by
  subst hn
  intro j x hj
  match j with
  | 0 => simp at hj; subst hj; simp [go_sem]
  | j + 1 => simp at hj
theorem two_new (w : World) (u v : Value) (T : TypeId) (n : Nat) (hn : n = w.heap.size) : ∀ (j : Nat) (x : Value), [u, v][j]? = some x → (w.alloc (.cells #[u, v] T)).cell? ((⟨n, 0, none⟩ : Addr).add j) = some x := by
  subst hn
  intro j x hj
  match j with
  | 0 => simp at hj; subst hj; simp [go_sem]
  | 1 => simp at hj; subst hj; simp [go_sem]
  | j + 2 => simp at hj
theorem cellB {B : Nat} {w w' : World} {b o : Nat} {v : Value} (h : Below B w w') (hb : b < B) (hc : w.cell? ⟨b, o, none⟩ = some v) : w'.cell? ⟨b, o, none⟩ = some v := by
  rw [h.cell (p := ⟨b, o, none⟩) hb]; exact hc
theorem own_mono {w : World} {B B' T n k : Nat} {v : Value} {l : List Value} (h : w.ownsRow B T k v n l) (hB : B' ≤ B) : w.ownsRow B' T k v n l := by
  refine ⟨h.1, ?_⟩
  rcases h.2 with h | ⟨g, cap, cur, e, hb, r⟩
  · exact .inl h
  · exact .inr ⟨g, cap, cur, e, Nat.le_trans hB hb, r⟩
theorem own_two {w : World} {B T : Nat} {k : IntKind} {v : Value} {a b : Int} (h : w.ownsRow B T 1 v 2 [.int k a, .int k b]) : ∃ g c, v = .slice (some ⟨g, 0, none⟩) 2 c ∧ B ≤ g ∧ g < w.heap.size ∧ 2 ≤ c ∧ c ≤ 9223372036854775807 ∧ w.cell? ⟨g, 0, none⟩ = some (.int k a) ∧ w.cell? ⟨g, 1, none⟩ = some (.int k b) := by
  rcases h.2 with ⟨_, h0⟩ | ⟨g, cap, cur, rfl, hb, hg, h1, h2, h3, h4⟩
  · simp at h0
  · refine ⟨g, cap, rfl, hb, (h.lt g rfl).2, h1, h2, ?_, ?_⟩
    · rw [h.cellAt 0 (by omega)]; rfl
    · rw [h.cellAt 1 (by omega)]; rfl
theorem own_four {w : World} {B T : Nat} {v a b c d : Value} (h : w.ownsRow B T 2 v 2 [a, b, c, d]) : ∃ g n, v = .slice (some ⟨g, 0, none⟩) 2 n ∧ B ≤ g ∧ g < w.heap.size ∧ 2 ≤ n ∧ n ≤ 9223372036854775807 ∧ w.cell? ⟨g, 0, none⟩ = some a ∧ w.cell? ⟨g, 1, none⟩ = some b ∧ w.cell? ⟨g, 2, none⟩ = some c ∧ w.cell? ⟨g, 3, none⟩ = some d := by
  rcases h.2 with ⟨_, h0⟩ | ⟨g, cap, cur, rfl, hb, hg, h1, h2, h3, h4⟩
  · simp at h0
  · refine ⟨g, cap, rfl, hb, (h.lt g rfl).2, h1, h2, ?_, ?_, ?_, ?_⟩
    · rw [h.cellAt 0 (by simp)]; rfl
    · rw [h.cellAt 1 (by simp)]; rfl
    · rw [h.cellAt 2 (by simp)]; rfl
    · rw [h.cellAt 3 (by simp)]; rfl
set_option maxHeartbeats 1600000 in
theorem factor6 (w : World) :
    Calls Tryd.prog 72 #[.int .i64 6] w fun e w' => ∃ v, e = .returned v ∧ w'.ownsRow w.heap.size 88 2 v 2 [.int .i64 2, .int .i64 1, .int .i64 3, .int .i64 1] ∧ Below w.heap.size w w' := by
  obtain ⟨i0, hi, hz0, hz1, hz2⟩ := info_parts Try.infoP
  go_enter Tryd.func72, Tryd.ntmps72
  go_wp2
  refine wp_loop_rounds 3 ?_
  rw [rounds_succ]
  go_wp2_with (first | (go_at_call 64; ((with_reducible refine (ld62 _).mono ?_); rintro e w' ⟨rfl, rfl⟩)) | (go_at_call 84; ((with_reducible refine (st62 _).mono ?_); rintro e w' ⟨rfl, rfl⟩)) | (at_builtin; refine wpList_append_own _ rfl _ _ 84 rfl w.heap.size 88 i0 (.agg #[.int .i64 0, .int .i64 0]) 2 16 Tryd.underlying84 hi hz0 hz1 hz2 rfl (by decide) _ _ _ rfl (World.ownsRow_nil _ _ _ _) ⟨w.heap.size, 0, none⟩ 1 1 [.int .i64 2, .int .i64 1] rfl rfl (two_new _ _ _ _ _ rfl) (by intro u hu; simp at hu; rcases hu with rfl | rfl <;> rfl) (by unfold maxLen; omega) (by omega) (by simp) ?_))
  intro v2 w2 hown2 hgrow2 _
  have hb2 : Below w.heap.size w w2 := ((Below.refl _ _).alloc (Nat.le_refl _) _).grown hgrow2 (by simp) (by simp [Value.ownBlock])
  have s2 := hb2.size
  have HB2 := Lib.hid hb2
  clear hgrow2 hb2
  go_wp2
  rw [rounds_succ]
  go_wp2_with (first | (go_at_call 64; ((with_reducible refine (ld32 _).mono ?_); rintro e w' ⟨rfl, rfl⟩)) | (go_at_call 84; ((with_reducible refine (st33 _).mono ?_); rintro e w' ⟨rfl, rfl⟩)) | (at_builtin; refine wpList_append_own _ rfl _ _ 84 rfl w.heap.size 88 i0 (.agg #[.int .i64 0, .int .i64 0]) 2 16 Tryd.underlying84 hi hz0 hz1 hz2 rfl (by decide) _ _ _ rfl (hown2.alloc _) ⟨w2.heap.size, 0, none⟩ 1 1 [.int .i64 3, .int .i64 1] rfl rfl (two_new _ _ _ _ _ rfl) (by intro u hu; simp at hu; rcases hu with rfl | rfl <;> rfl) (by unfold maxLen; omega) (by omega) (by simp; omega) ?_))
  intro v3 w3 hown3 hgrow3 _
  have hb3 : Below w.heap.size w w3 := (HB2.out.alloc (by omega) _).grown hgrow3 (by simp; omega) (by intro k hk; have := hown2.lt k hk; omega)
  have HB3 := Lib.hid hb3
  have HO3 := Lib.hid hown3
  clear hgrow3 hb3 hown3 hown2
  go_wp2
  rw [rounds_succ]
  go_wp2
  go_ret
  exact ⟨v3, rfl, HO3.out, HB3.out⟩
set_option maxHeartbeats 400000 in
theorem Factor6 (w : World) :
    Calls Tryd.prog 52 #[.int .i64 6] w fun e w' => ∃ v, e = .returned (.tuple #[v, .int .i64 0]) ∧ w'.ownsRow w.heap.size 88 2 v 2 [.int .i64 2, .int .i64 1, .int .i64 3, .int .i64 1] ∧ Below w.heap.size w w' := by
  go_enter Tryd.func52, Tryd.ntmps52
  go_wp2_with (go_at_call 71; ((with_reducible refine (ism6 _).mono ?_); rintro e w' ⟨rfl, rfl⟩))
  refine (factor6 _).mono ?_
  rintro e w1 ⟨v, rfl, hown, hb⟩
  have HO := Lib.hid hown
  have HB := Lib.hid hb
  clear hown hb
  go_wp2
  go_ret2
  exact ⟨v, rfl, HO.out, HB.out⟩
set_option maxHeartbeats 1600000 in
theorem ramified_ex (w : World) :
    Calls Tryd.prog 26 #[.agg #[.int .i64 (-1), .int .i64 3]] w fun e w' => ∃ v, e = .returned v ∧ w'.ownsRow w.heap.size 3 1 v 2 [.int .i64 2, .int .i64 3] ∧ Below w.heap.size w w' := by
  obtain ⟨i0, hi, hz0, hz1, hz2⟩ := info_parts Try.info3
  go_enter Tryd.func26, Tryd.ntmps26
  go_wp2_with fail
  refine (Factor6 _).mono ?_
  rintro e w1 ⟨v, rfl, hown, hb⟩
  obtain ⟨g, c, rfl, g1, g2, g3, g4, k0, k1, k2, k3⟩ := own_four hown
  have a0 : w1.cell? ⟨w.heap.size, 0, none⟩ = some (.int .i64 (-1)) := cellB hb (by simp) (by simp [go_sem])
  have a1 : w1.cell? ⟨w.heap.size, 1, none⟩ = some (.int .i64 3) := cellB hb (by simp) (by simp [go_sem])
  have z1 : w.heap.size < w1.heap.size := by have := hb.size; simp at this; omega
  have HB := Lib.hid (below_up (B := w.heap.size) (w := w) hb (by (repeat (first | (with_reducible exact Below.refl _ _) | (with_reducible exact HB.out) | (with_reducible refine below_draws ?_ _) | (with_reducible refine Below.alloc ?_ (by go_size) _) | (with_reducible refine Below.setCell ?_ (by go_size) _) | (with_reducible refine Below.alloc ?_ (by simp <;> omega) _) | (with_reducible refine Below.setCell ?_ (by simp <;> omega) _)))) (by simp))
  clear hown hb
  go_wp2_with fail
  refine wp_loop_rounds 3 ?_
  rw [rounds_succ]
  go_wp2_with (first | (go_at_call 53; ((with_reducible refine (hil2 _).mono ?_); rintro e w' ⟨rfl, rfl⟩)) | (at_builtin; refine wpList_append_own _ rfl _ _ 25 rfl w1.heap.size 3 i0 (.int .i64 0) 1 8 Tryd.underlying25 hi hz0 hz1 hz2 rfl (by decide) _ _ _ rfl (World.ownsRow_nil _ _ _ _) ⟨w1.heap.size + 1, 0, none⟩ 1 1 [.int .i64 2] rfl rfl (one_new _ _ _ _ (by simp)) (by intro u hu; simp at hu; subst hu; rfl) (by unfold maxLen; omega) (by omega) (by simp; omega) ?_))
  intro v2 w2 hown2 hgrow2 _
  have hb2 : Below w1.heap.size w1 w2 := (((Below.refl _ _).alloc (Nat.le_refl _) _).alloc (by simp) _).grown hgrow2 (by simp; omega) (by simp [Value.ownBlock])
  have s2 := hb2.size
  have z2 : w.heap.size < w2.heap.size := by omega
  have z3 : g < w2.heap.size := by omega
  replace a0 := cellB hb2 z1 a0
  replace a1 := cellB hb2 z1 a1
  replace k2 := cellB hb2 g2 k2
  replace k3 := cellB hb2 g2 k3
  have HB2 := Lib.hid hb2
  clear hgrow2 hb2 k0 k1
  go_wp2
  rw [rounds_succ]
  go_wp2_with (first | (go_at_call 53; ((with_reducible refine (hil3 _).mono ?_); rintro e w' ⟨rfl, rfl⟩)) | (at_builtin; refine wpList_append_own _ rfl _ _ 25 rfl w1.heap.size 3 i0 (.int .i64 0) 1 8 Tryd.underlying25 hi hz0 hz1 hz2 rfl (by decide) _ _ _ rfl ((hown2.alloc _).alloc _) ⟨w2.heap.size + 1, 0, none⟩ 1 1 [.int .i64 3] rfl rfl (one_new _ _ _ _ (by simp)) (by intro u hu; simp at hu; subst hu; rfl) (by unfold maxLen; omega) (by omega) (by simp; omega) ?_))
  intro v3 w3 hown3 hgrow3 _
  have hb3 : Below w1.heap.size w1 w3 := ((HB2.out.alloc (by omega) _).alloc (by simp; omega) _).grown hgrow3 (by simp; omega) (by intro k hk; have := hown2.lt k hk; omega)
  have HB3 := Lib.hid (HB.out.trans (hb3.mono (by omega)))
  have HO3 := Lib.hid (own_mono hown3 (show w.heap.size ≤ w1.heap.size by omega))
  clear hgrow3 hb3 hown3 hown2 a0 a1 k2 k3
  go_wp2
  rw [rounds_succ]
  go_wp2
  go_ret
  exact ⟨v3, rfl, HO3.out, HB3.out⟩
theorem chkA_ex : chkA (-1) 3 = 0 := by decide
set_option maxHeartbeats 800000 in
theorem Disc_ex (w : World) :
    Calls Tryd.prog 8 #[.agg #[.int .i64 (-1), .int .i64 3]] w fun e w' => e = .returned (.tuple #[.int .i64 6, .int .i64 0]) ∧ Below w.heap.size w w' := by
  go_enter Tryd.func8, Tryd.ntmps8
  go_wp2_with fail
  refine (Check_any _ _ _).mono ?_
  rintro e w1 ⟨rfl, hb⟩
  rw [chkA_ex]
  have a0 : w1.cell? ⟨w.heap.size, 0, none⟩ = some (.int .i64 (-1)) := cellB hb (by simp) (by simp [go_sem])
  have a1 : w1.cell? ⟨w.heap.size, 1, none⟩ = some (.int .i64 3) := cellB hb (by simp) (by simp [go_sem])
  have HB := Lib.hid (below_up (B := w.heap.size) (w := w) hb (by (repeat (first | (with_reducible exact Below.refl _ _) | (with_reducible exact HB.out) | (with_reducible refine below_draws ?_ _) | (with_reducible refine Below.alloc ?_ (by go_size) _) | (with_reducible refine Below.setCell ?_ (by go_size) _) | (with_reducible refine Below.alloc ?_ (by simp <;> omega) _) | (with_reducible refine Below.setCell ?_ (by simp <;> omega) _)))) (by simp))
  clear hb
  go_wp2_with fail
  refine (ramified_ex _).mono ?_
  rintro e w2 ⟨v, rfl, hown, hb⟩
  obtain ⟨g, c, rfl, g1, g2, g3, g4, k0, k1⟩ := own_two hown
  have HB2 := Lib.hid (HB.out.trans (hb.mono HB.out.size))
  clear hown hb a0 a1
  go_wp2_with fail
  refine wp_loop_rounds 3 ?_
  rw [rounds_succ]; go_wp2
  rw [rounds_succ]; go_wp2
  rw [rounds_succ]; go_wp2
  go_ret2
  exact ⟨rfl, HB2.out⟩
end Go.Proofs.YtgbnmnkgelklbaaDoor.Al
namespace Go.Proofs.YtgbnmnkgelklbaaDoor.Al
open Go.RowKit
open Alm
set_option linter.unusedVariables false
set_option linter.unusedSimpArgs false
set_option maxRecDepth 100000
set_option maxHeartbeats 800000 in
theorem sm1 (w : World) : Calls Tryd.prog 90 #[.int .i64 1] w fun e w' => e = .returned (.string ⟨#[49]⟩) ∧ w = w' := by
  go_enter Tryd.func90, Tryd.ntmps90
  go_wp2
  go_ret
  exact ⟨rfl, rfl⟩
set_option maxHeartbeats 800000 in
theorem fi1 (w : World) : Calls Tryd.prog 83 #[.int .i64 1, .int .i64 10] w fun e w' => e = .returned (.string ⟨#[49]⟩) ∧ w = w' := by
  go_enter Tryd.func83, Tryd.ntmps83
  go_wp2_with (first | (go_at_call 90; ((with_reducible refine (sm1 _).mono ?_); rintro e w' ⟨rfl, rfl⟩)))
  go_ret
  exact ⟨rfl, rfl⟩
set_option maxHeartbeats 800000 in
theorem ii1 (w : World) : Calls Tryd.prog 70 #[.int .i64 1] w fun e w' => e = .returned (.string ⟨#[49]⟩) ∧ w = w' := by
  go_enter Tryd.func70, Tryd.ntmps70
  go_wp2_with (first | (go_at_call 83; ((with_reducible refine (fi1 _).mono ?_); rintro e w' ⟨rfl, rfl⟩)))
  go_ret
  exact ⟨rfl, rfl⟩
set_option maxHeartbeats 800000 in
theorem it1 (w : World) : Calls Tryd.prog 51 #[.int .i64 1] w fun e w' => e = .returned (.string ⟨#[49]⟩) ∧ w = w' := by
  go_enter Tryd.func51, Tryd.ntmps51
  go_wp2_with (first | (go_at_call 70; ((with_reducible refine (ii1 _).mono ?_); rintro e w' ⟨rfl, rfl⟩)))
  go_ret
  exact ⟨rfl, rfl⟩
set_option maxHeartbeats 800000 in
theorem sm2 (w : World) : Calls Tryd.prog 90 #[.int .i64 2] w fun e w' => e = .returned (.string ⟨#[50]⟩) ∧ w = w' := by
  go_enter Tryd.func90, Tryd.ntmps90
  go_wp2
  go_ret
  exact ⟨rfl, rfl⟩
set_option maxHeartbeats 800000 in
theorem fi2 (w : World) : Calls Tryd.prog 83 #[.int .i64 2, .int .i64 10] w fun e w' => e = .returned (.string ⟨#[50]⟩) ∧ w = w' := by
  go_enter Tryd.func83, Tryd.ntmps83
  go_wp2_with (first | (go_at_call 90; ((with_reducible refine (sm2 _).mono ?_); rintro e w' ⟨rfl, rfl⟩)))
  go_ret
  exact ⟨rfl, rfl⟩
set_option maxHeartbeats 800000 in
theorem ii2 (w : World) : Calls Tryd.prog 70 #[.int .i64 2] w fun e w' => e = .returned (.string ⟨#[50]⟩) ∧ w = w' := by
  go_enter Tryd.func70, Tryd.ntmps70
  go_wp2_with (first | (go_at_call 83; ((with_reducible refine (fi2 _).mono ?_); rintro e w' ⟨rfl, rfl⟩)))
  go_ret
  exact ⟨rfl, rfl⟩
set_option maxHeartbeats 800000 in
theorem it2 (w : World) : Calls Tryd.prog 51 #[.int .i64 2] w fun e w' => e = .returned (.string ⟨#[50]⟩) ∧ w = w' := by
  go_enter Tryd.func51, Tryd.ntmps51
  go_wp2_with (first | (go_at_call 70; ((with_reducible refine (ii2 _).mono ?_); rintro e w' ⟨rfl, rfl⟩)))
  go_ret
  exact ⟨rfl, rfl⟩
set_option maxHeartbeats 800000 in
theorem sm3 (w : World) : Calls Tryd.prog 90 #[.int .i64 3] w fun e w' => e = .returned (.string ⟨#[51]⟩) ∧ w = w' := by
  go_enter Tryd.func90, Tryd.ntmps90
  go_wp2
  go_ret
  exact ⟨rfl, rfl⟩
set_option maxHeartbeats 800000 in
theorem fi3 (w : World) : Calls Tryd.prog 83 #[.int .i64 3, .int .i64 10] w fun e w' => e = .returned (.string ⟨#[51]⟩) ∧ w = w' := by
  go_enter Tryd.func83, Tryd.ntmps83
  go_wp2_with (first | (go_at_call 90; ((with_reducible refine (sm3 _).mono ?_); rintro e w' ⟨rfl, rfl⟩)))
  go_ret
  exact ⟨rfl, rfl⟩
set_option maxHeartbeats 800000 in
theorem ii3 (w : World) : Calls Tryd.prog 70 #[.int .i64 3] w fun e w' => e = .returned (.string ⟨#[51]⟩) ∧ w = w' := by
  go_enter Tryd.func70, Tryd.ntmps70
  go_wp2_with (first | (go_at_call 83; ((with_reducible refine (fi3 _).mono ?_); rintro e w' ⟨rfl, rfl⟩)))
  go_ret
  exact ⟨rfl, rfl⟩
set_option maxHeartbeats 800000 in
theorem it3 (w : World) : Calls Tryd.prog 51 #[.int .i64 3] w fun e w' => e = .returned (.string ⟨#[51]⟩) ∧ w = w' := by
  go_enter Tryd.func51, Tryd.ntmps51
  go_wp2_with (first | (go_at_call 70; ((with_reducible refine (ii3 _).mono ?_); rintro e w' ⟨rfl, rfl⟩)))
  go_ret
  exact ⟨rfl, rfl⟩
set_option maxHeartbeats 800000 in
theorem t01 (w : World) : Calls Tryd.prog 69 #[.int .i64 0, .int .i64 1] w fun e w' => e = .returned (.string ⟨#[49]⟩) ∧ w = w' := by
  go_enter Tryd.func69, Tryd.ntmps69
  go_wp2_with (first | (go_at_call 51; ((with_reducible refine (it1 _).mono ?_); rintro e w' ⟨rfl, rfl⟩)))
  go_ret
  exact ⟨rfl, rfl⟩
set_option maxHeartbeats 800000 in
theorem t31 (w : World) : Calls Tryd.prog 69 #[.int .i64 3, .int .i64 1] w fun e w' => e = .returned (.string ⟨#[107]⟩) ∧ w = w' := by
  go_enter Tryd.func69, Tryd.ntmps69
  go_wp2
  go_ret
  exact ⟨rfl, rfl⟩
theorem quietE {f : FuncId} {args : Array Value} {w : World} {n : Nat} {v : Value} (h : Calls Tryd.prog f args (w.drewN n) fun e w' => e = .returned v ∧ w.drewN n = w') : Calls Tryd.prog f args (w.drewN n) fun e w'' => e = .returned v ∧ ∃ m, w'' = w.drewN m :=
  h.mono fun _ _ ⟨he, hm⟩ => ⟨he, n, hm.symm⟩
set_option maxHeartbeats 800000 in
theorem t12 (w : World) : Calls Tryd.prog 69 #[.int .i64 1, .int .i64 2] w fun e w' => e = .returned (.string ⟨#[50, 105]⟩) ∧ Drew w w' := by
  go_enter Tryd.func69, Tryd.ntmps69
  go_wp2
  go_quiet ((go_at_call 51; exact quietE (it2 _)))
  go_wp2
  go_ret
  exact ⟨rfl, ⟨_, rfl⟩⟩
set_option maxHeartbeats 1600000 in
theorem sum_ex (w : World) : Calls Tryd.prog 50 #[.agg #[.int .i64 1, .int .i64 (-2), .int .i64 0, .int .i64 1]] w fun e w' => e = .returned (.string ⟨#[49, 32, 45, 32, 50, 105, 32, 43, 32, 107]⟩) ∧ Below w.heap.size w w' := by
  have i0 := Try.i0 (.int .i64 1) (.int .i64 (-2)) (.int .i64 0) (.int .i64 1)
  have i1 := Try.i1 (.int .i64 1) (.int .i64 (-2)) (.int .i64 0) (.int .i64 1)
  have i2 := Try.i2 (.int .i64 1) (.int .i64 (-2)) (.int .i64 0) (.int .i64 1)
  have i3 := Try.i3 (.int .i64 1) (.int .i64 (-2)) (.int .i64 0) (.int .i64 1)
  have r0 : (⟨#[]⟩ : ByteArray) ++ (⟨#[49]⟩ : ByteArray) = (⟨#[49]⟩ : ByteArray) := rfl
  have r1 : (⟨#[32, 45, 32]⟩ : ByteArray) ++ (⟨#[50, 105]⟩ : ByteArray) = (⟨#[32, 45, 32, 50, 105]⟩ : ByteArray) := rfl
  have r2 : (⟨#[49]⟩ : ByteArray) ++ (⟨#[32, 45, 32, 50, 105]⟩ : ByteArray) = (⟨#[49, 32, 45, 32, 50, 105]⟩ : ByteArray) := rfl
  have r3 : (⟨#[32, 43, 32]⟩ : ByteArray) ++ (⟨#[107]⟩ : ByteArray) = (⟨#[32, 43, 32, 107]⟩ : ByteArray) := rfl
  have r4 : (⟨#[49, 32, 45, 32, 50, 105]⟩ : ByteArray) ++ (⟨#[32, 43, 32, 107]⟩ : ByteArray) = (⟨#[49, 32, 45, 32, 50, 105, 32, 43, 32, 107]⟩ : ByteArray) := rfl
  have e0 : (⟨#[49]⟩ : ByteArray).toList.isEmpty = false := by kernel_rfl
  have n0 : ((⟨#[49]⟩ : ByteArray).toList = []) = False := by apply eq_false; intro h; rw [h] at e0; cases e0
  have e1 : (⟨#[49, 32, 45, 32, 50, 105]⟩ : ByteArray).toList.isEmpty = false := by kernel_rfl
  have n1 : ((⟨#[49, 32, 45, 32, 50, 105]⟩ : ByteArray).toList = []) = False := by apply eq_false; intro h; rw [h] at e1; cases e1
  have e2 : (⟨#[49, 32, 45, 32, 50, 105, 32, 43, 32, 107]⟩ : ByteArray).toList.isEmpty = false := by kernel_rfl
  have n2 : ((⟨#[49, 32, 45, 32, 50, 105, 32, 43, 32, 107]⟩ : ByteArray).toList = []) = False := by apply eq_false; intro h; rw [h] at e2; cases e2
  go_enter Tryd.func50, Tryd.ntmps50
  go_wp2
  refine wp_loop_rounds 5 ?_
  rw [rounds_succ]; go_wp2_with (go_at_call 69; ((with_reducible refine (t01 _).mono ?_); rintro e w' ⟨rfl, rfl⟩))
  rw [rounds_succ]; go_wp2_with (go_at_call 69; (with_reducible refine (t12 _).mono ?_); rintro e w' ⟨rfl, n, rfl⟩)
  rw [rounds_succ]; go_wp2
  rw [rounds_succ]; go_wp2_with (go_at_call 69; ((with_reducible refine (t31 _).mono ?_); rintro e w' ⟨rfl, rfl⟩))
  rw [rounds_succ]; go_wp2
  go_ret
  exact ⟨rfl, by (repeat (first | (with_reducible exact Below.refl _ _) | (with_reducible exact HB.out) | (with_reducible refine below_draws ?_ _) | (with_reducible refine Below.alloc ?_ (by go_size) _) | (with_reducible refine Below.setCell ?_ (by go_size) _) | (with_reducible refine Below.alloc ?_ (by simp <;> omega) _) | (with_reducible refine Below.setCell ?_ (by simp <;> omega) _)))⟩
theorem fit_ex : fitQ ⟨1, -2, 0, 1, 3⟩ = ⟨1, -2, 0, 1, 3⟩ ∧ fitE ⟨1, -2, 0, 1, 3⟩ = 0 := ⟨by kernel_rfl, by kernel_rfl⟩
theorem Normal_ex (w : World) : Calls Tryd.prog 48 #[.agg #[.int .i64 1, .int .i64 (-2), .int .i64 0, .int .i64 1, .int .i64 3]] w fun e w' => e = .returned (.tuple #[.agg #[.int .i64 1, .int .i64 (-2), .int .i64 0, .int .i64 1, .int .i64 3], .int .i64 0]) ∧ Below w.heap.size w w' := by
  have h := Normal_ok 1 (-2) 0 1 3 w (by decide)
  rw [fit_ex.1, fit_ex.2] at h
  exact h
/-- what a walk keeps: cells, and that nothing that was there has turned -/
def K_T (n0 n1 n2 n3 d : Int) (B : Nat) (w w' : World) : Prop := KL w [(B, 0, .int .i64 n0), (B, 1, .int .i64 n1), (B, 2, .int .i64 n2), (B, 3, .int .i64 n3), (B, 4, .int .i64 d)] [] w'
theorem K_T.below {n0 n1 n2 n3 d : Int} {B : Nat} {w w1 w2 : World} (hb : Below w1.heap.size w1 w2) (h : K_T n0 n1 n2 n3 d B w w1) : K_T n0 n1 n2 n3 d B w w2 := KL.below hb h
theorem K_T.draws {n0 n1 n2 n3 d : Int} {B : Nat} {w w1 : World} (n : Nat) (h : K_T n0 n1 n2 n3 d B w w1) : K_T n0 n1 n2 n3 d B w (w1.drewN n) := KL.draws n h
theorem K_T.drew {n0 n1 n2 n3 d : Int} {B : Nat} {w w1 : World} (h : K_T n0 n1 n2 n3 d B w w1) : K_T n0 n1 n2 n3 d B w w1.drew := KL.draws 1 h
theorem K_T.alloc {n0 n1 n2 n3 d : Int} {B : Nat} {w w1 : World} (o : Obj) (h : K_T n0 n1 n2 n3 d B w w1) : K_T n0 n1 n2 n3 d B w (w1.alloc o) := KL.alloc o h
theorem K_T.set {n0 n1 n2 n3 d : Int} {B : Nat} {w w1 : World} (h : K_T n0 n1 n2 n3 d B w w1) (b i : Nat) (v : Value) (hb : b ≠ B ∧ w.heap.size ≤ b) : K_T n0 n1 n2 n3 d B w (w1.setCell ⟨b, i, none⟩ v) :=
  KL.set h b i v (by intro x hx; simp only [List.mem_cons, List.not_mem_nil, or_false] at hx; rcases hx with rfl | rfl | rfl | rfl | rfl <;> simp only [] <;> omega) (by omega)
theorem K_T.bel {n0 n1 n2 n3 d : Int} {B : Nat} {w w1 : World} (h : K_T n0 n1 n2 n3 d B w w1) : Below w.heap.size w w1 := KL.bel h
theorem K_T.cells {n0 n1 n2 n3 d : Int} {B : Nat} {w w' : World} (h : K_T n0 n1 n2 n3 d B w w') : w'.cell? ⟨B, 0, none⟩ = some (.int .i64 n0) ∧ w'.cell? ⟨B, 1, none⟩ = some (.int .i64 n1) ∧ w'.cell? ⟨B, 2, none⟩ = some (.int .i64 n2) ∧ w'.cell? ⟨B, 3, none⟩ = some (.int .i64 n3) ∧ w'.cell? ⟨B, 4, none⟩ = some (.int .i64 d) := ⟨h.c (B, 0, .int .i64 n0) (by simp), h.c (B, 1, .int .i64 n1) (by simp), h.c (B, 2, .int .i64 n2) (by simp), h.c (B, 3, .int .i64 n3) (by simp), h.c (B, 4, .int .i64 d) (by simp)⟩
theorem K_T.zs {n0 n1 n2 n3 d : Int} {B : Nat} {w w' : World} (h : K_T n0 n1 n2 n3 d B w w') : B < w'.heap.size ∧ True := ⟨KL.z h (x := (B, 0, .int .i64 n0)) (by simp), trivial⟩
theorem K_T.ks {n0 n1 n2 n3 d : Int} {B : Nat} {w w' : World} (h : K_T n0 n1 n2 n3 d B w w') : (w'.cell? ⟨B, 0, none⟩ = some (.int .i64 n0) ∧ w'.cell? ⟨B, 1, none⟩ = some (.int .i64 n1) ∧ w'.cell? ⟨B, 2, none⟩ = some (.int .i64 n2) ∧ w'.cell? ⟨B, 3, none⟩ = some (.int .i64 n3) ∧ w'.cell? ⟨B, 4, none⟩ = some (.int .i64 d)) ∧ K_T n0 n1 n2 n3 d B w w' := ⟨h.cells, h⟩
/-- what a walk keeps: cells, and that nothing that was there has turned -/
def K_U (B : Nat) (w w' : World) : Prop := KL w [] [(B, 0), (B, 1), (B, 2), (B, 3), (B, 4)] w'
theorem K_U.below {B : Nat} {w w1 w2 : World} (hb : Below w1.heap.size w1 w2) (h : K_U B w w1) : K_U B w w2 := KL.below hb h
theorem K_U.draws {B : Nat} {w w1 : World} (n : Nat) (h : K_U B w w1) : K_U B w (w1.drewN n) := KL.draws n h
theorem K_U.drew {B : Nat} {w w1 : World} (h : K_U B w w1) : K_U B w w1.drew := KL.draws 1 h
theorem K_U.alloc {B : Nat} {w w1 : World} (o : Obj) (h : K_U B w w1) : K_U B w (w1.alloc o) := KL.alloc o h
theorem K_U.set {B : Nat} {w w1 : World} (h : K_U B w w1) (b i : Nat) (v : Value) (hb : w.heap.size ≤ b) : K_U B w (w1.setCell ⟨b, i, none⟩ v) :=
  KL.set h b i v (by intro x hx; simp at hx) (by omega)
theorem K_U.bel {B : Nat} {w w1 : World} (h : K_U B w w1) : Below w.heap.size w w1 := KL.bel h
theorem K_U.cells {B : Nat} {w w' : World} (h : K_U B w w') : w'.cell? ⟨B, 0, none⟩ = some (cv w' B 0) ∧ w'.frozen? ⟨B, 0, none⟩ = false ∧ w'.cell? ⟨B, 1, none⟩ = some (cv w' B 1) ∧ w'.frozen? ⟨B, 1, none⟩ = false ∧ w'.cell? ⟨B, 2, none⟩ = some (cv w' B 2) ∧ w'.frozen? ⟨B, 2, none⟩ = false ∧ w'.cell? ⟨B, 3, none⟩ = some (cv w' B 3) ∧ w'.frozen? ⟨B, 3, none⟩ = false ∧ w'.cell? ⟨B, 4, none⟩ = some (cv w' B 4) ∧ w'.frozen? ⟨B, 4, none⟩ = false := ⟨h.d (B, 0) (by simp), h.f (B, 0) (by simp), h.d (B, 1) (by simp), h.f (B, 1) (by simp), h.d (B, 2) (by simp), h.f (B, 2) (by simp), h.d (B, 3) (by simp), h.f (B, 3) (by simp), h.d (B, 4) (by simp), h.f (B, 4) (by simp)⟩
theorem K_U.zs {B : Nat} {w w' : World} (h : K_U B w w') : B < w'.heap.size ∧ True := ⟨KL.zf h (x := (B, 0)) (by simp), trivial⟩
theorem K_U.ks {B : Nat} {w w' : World} (h : K_U B w w') : (w'.cell? ⟨B, 0, none⟩ = some (cv w' B 0) ∧ w'.frozen? ⟨B, 0, none⟩ = false ∧ w'.cell? ⟨B, 1, none⟩ = some (cv w' B 1) ∧ w'.frozen? ⟨B, 1, none⟩ = false ∧ w'.cell? ⟨B, 2, none⟩ = some (cv w' B 2) ∧ w'.frozen? ⟨B, 2, none⟩ = false ∧ w'.cell? ⟨B, 3, none⟩ = some (cv w' B 3) ∧ w'.frozen? ⟨B, 3, none⟩ = false ∧ w'.cell? ⟨B, 4, none⟩ = some (cv w' B 4) ∧ w'.frozen? ⟨B, 4, none⟩ = false) ∧ K_U B w w' := ⟨h.cells, h⟩
set_option maxHeartbeats 1600000 in
theorem Format_ex (w : World) : Calls Tryd.prog 24 #[.agg #[.int .i64 1, .int .i64 (-2), .int .i64 0, .int .i64 1, .int .i64 3]] w fun e w' => e = .returned (.tuple #[.string ⟨#[40, 49, 32, 45, 32, 50, 105, 32, 43, 32, 107, 41, 47, 51]⟩, .int .i64 0]) ∧ Below w.heap.size w w' := by
  have r0 : (⟨#[40]⟩ : ByteArray) ++ (⟨#[49, 32, 45, 32, 50, 105, 32, 43, 32, 107]⟩ : ByteArray) = (⟨#[40, 49, 32, 45, 32, 50, 105, 32, 43, 32, 107]⟩ : ByteArray) := rfl
  have r1 : (⟨#[40, 49, 32, 45, 32, 50, 105, 32, 43, 32, 107]⟩ : ByteArray) ++ (⟨#[41, 47]⟩ : ByteArray) = (⟨#[40, 49, 32, 45, 32, 50, 105, 32, 43, 32, 107, 41, 47]⟩ : ByteArray) := rfl
  have r2 : (⟨#[40, 49, 32, 45, 32, 50, 105, 32, 43, 32, 107, 41, 47]⟩ : ByteArray) ++ (⟨#[51]⟩ : ByteArray) = (⟨#[40, 49, 32, 45, 32, 50, 105, 32, 43, 32, 107, 41, 47, 51]⟩ : ByteArray) := rfl
  go_enter Tryd.func24, Tryd.ntmps24
  go_wp2_with fail
  refine (Normal_ex _).mono ?_
  rintro e w1 ⟨rfl, hb⟩
  have hK : K_U w.heap.size w w1 := K_U.below hb ⟨by simp, by simp [go_sem], by simp [go_sem], by (repeat (first | (with_reducible exact Below.refl _ _) | (with_reducible exact HB.out) | (with_reducible refine below_draws ?_ _) | (with_reducible refine Below.alloc ?_ (by go_size) _) | (with_reducible refine Below.setCell ?_ (by go_size) _) | (with_reducible refine Below.alloc ?_ (by simp <;> omega) _) | (with_reducible refine Below.setCell ?_ (by simp <;> omega) _)))⟩
  obtain ⟨d0_, f0_, d1_, f1_, d2_, f2_, d3_, f3_, d4_, f4_⟩ := K_U.cells hK
  have HK := Lib.hid hK
  clear hb hK
  go_wp2_with fail
  refine (numeratorsOf_any _ _ _ _ _ _).mono ?_
  rintro e w2 ⟨rfl, hb⟩
  have hK : K_T 1 (-2) 0 1 3 w.heap.size w w2 := K_T.below hb ⟨by simp [go_sem, d0_, f0_, d1_, f1_, d2_, f2_, d3_, f3_, d4_, f4_], by simp, by simp, by have HB := Lib.hid (K_U.bel HK.out); (repeat (first | (with_reducible exact Below.refl _ _) | (with_reducible exact HB.out) | (with_reducible refine below_draws ?_ _) | (with_reducible refine Below.alloc ?_ (by go_size) _) | (with_reducible refine Below.setCell ?_ (by go_size) _) | (with_reducible refine Below.alloc ?_ (by simp <;> omega) _) | (with_reducible refine Below.setCell ?_ (by simp <;> omega) _)))⟩
  clear hb d0_ f0_ d1_ f1_ d2_ f2_ d3_ f3_ d4_ f4_
  obtain ⟨c0_, c1_, c2_, c3_, c4_⟩ := K_T.cells hK
  have HK2 := Lib.hid hK
  clear hK
  go_wp2_with fail
  refine (sum_ex _).mono ?_
  rintro e w3 ⟨rfl, hb⟩
  have hK := K_T.below hb HK2.out
  clear hb c0_ c1_ c2_ c3_ c4_
  obtain ⟨c0_, c1_, c2_, c3_, c4_⟩ := K_T.cells hK
  have HK3 := Lib.hid hK
  clear hK
  go_wp2_with (go_at_call 51; ((with_reducible refine (it3 _).mono ?_); rintro e w' ⟨rfl, rfl⟩))
  go_ret2
  exact ⟨rfl, K_T.bel HK3.out⟩
end Go.Proofs.YtgbnmnkgelklbaaDoor.Al
namespace Go.Proofs.YtgbnmnkgelklbaaDoor.Al
open Go.RowKit
open Alm
set_option linter.unusedVariables false
set_option linter.unusedSimpArgs false
set_option maxRecDepth 100000
theorem Power_ex (w : World) : Calls Tryd.prog 23 #[.agg #[.int .i64 (-1), .int .i64 (-1)], .agg #[.int .i64 1, .int .i64 1, .int .i64 1, .int .i64 1, .int .i64 2], .int .i64 3] w fun e w' => e = .returned (.tuple #[.agg #[.int .i64 (-1), .int .i64 0, .int .i64 0, .int .i64 0, .int .i64 1], .int .i64 0]) ∧ Below w.heap.size w w' := by
  have h := Power_nat (-1) (-1) 1 1 1 1 2 3 w (by decide) (by decide) (by decide)
  refine h.mono fun e w' ⟨he, hb⟩ => ⟨?_, hb⟩
  rw [he]
  unfold pwrQ pwrE
  rw [pwr_awake]
  rfl
set_option maxHeartbeats 3200000 in
theorem awake_any (w : World) : Calls Tryd.prog 6 #[] w fun e w' => e = .returned (.bool true) ∧ Below w.heap.size w w' := by
  have es : ((⟨#[40, 49, 32, 45, 32, 50, 105, 32, 43, 32, 107, 41, 47, 51]⟩ : ByteArray).toList == (⟨#[40, 49, 32, 45, 32, 50, 105, 32, 43, 32, 107, 41, 47, 51]⟩ : ByteArray).toList) = true := by kernel_rfl
  go_enter Tryd.func6, Tryd.ntmps6
  go_wp2_with fail
  refine (Power_ex _).mono ?_
  rintro e w1 ⟨rfl, hb⟩
  have HB := Lib.hid (below_up (B := w.heap.size) (w := w) hb (by (repeat (first | (with_reducible exact Below.refl _ _) | (with_reducible exact HB.out) | (with_reducible refine below_draws ?_ _) | (with_reducible refine Below.alloc ?_ (by go_size) _) | (with_reducible refine Below.setCell ?_ (by go_size) _) | (with_reducible refine Below.alloc ?_ (by simp <;> omega) _) | (with_reducible refine Below.setCell ?_ (by simp <;> omega) _)))) (by simp; omega))
  have z1 : w.heap.size ≤ w1.heap.size := HB.out.size
  clear hb
  go_wp2_with fail
  refine (Disc_ex _).mono ?_
  rintro e w2 ⟨rfl, hb⟩
  have hK : K_T (-1) 0 0 0 1 w1.heap.size w w2 := K_T.below hb ⟨by simp [go_sem], by simp, by simp, by (repeat (first | (with_reducible exact Below.refl _ _) | (with_reducible exact HB.out) | (with_reducible refine below_draws ?_ _) | (with_reducible refine Below.alloc ?_ (by go_size) _) | (with_reducible refine Below.setCell ?_ (by go_size) _) | (with_reducible refine Below.alloc ?_ (by simp <;> omega) _) | (with_reducible refine Below.setCell ?_ (by simp <;> omega) _)))⟩
  have HK := Lib.hid hK
  clear hb hK HB
  go_wp2_with fail
  refine (Format_ex _).mono ?_
  rintro e w3 ⟨rfl, hb⟩
  have hK := K_T.below hb HK.out
  obtain ⟨c0_, c1_, c2_, c3_, c4_⟩ := K_T.cells hK
  have HK2 := Lib.hid hK
  clear hb hK
  go_wp2
  go_ret
  exact ⟨rfl, K_T.bel HK2.out⟩
end Go.Proofs.YtgbnmnkgelklbaaDoor.Al
