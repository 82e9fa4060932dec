/-
  WALKS at the example of 'awake': the discriminant of (-1, 3).
-/
import Derived.Test.YtgbnmnkgelklbaaDoorAw1
import Derived.Test.YtgbnmnkgelklbaaDoorAl6
import Derived.OwnWalk
import Derived.ProofKit
namespace Go.Proofs.YtgbnmnkgelklbaaDoor.Al
open Go.RowKit
open Alm
set_option linter.unusedVariables false
set_option linter.unusedSimpArgs false
set_option maxRecDepth 100000
theorem Try.info3 : (Tryd.prog.info? 3).map (fun i => (i.zero, i.size, i.bytes)) = some (some (.int .i64 0), 1, 8) := by kernel_rfl
theorem Try.infoP : (Tryd.prog.info? 88).map (fun i => (i.zero, i.size, i.bytes)) = some (some (.agg #[.int .i64 0, .int .i64 0]), 2, 16) := by kernel_rfl
theorem one_new (w : World) (u : Value) (T : TypeId) (n : Nat) (hn : n = w.heap.size) : ∀ (j : Nat) (x : Value), [u][j]? = some x → (w.alloc (.cells #[u] T)).cell? ((⟨n, 0, none⟩ : Addr).add j) = some x := by
  subst hn
  intro j x hj
  match j with
  | 0 => simp at hj; subst hj; simp [go_sem]
  | j + 1 => simp at hj
theorem two_new (w : World) (u v : Value) (T : TypeId) (n : Nat) (hn : n = w.heap.size) : ∀ (j : Nat) (x : Value), [u, v][j]? = some x → (w.alloc (.cells #[u, v] T)).cell? ((⟨n, 0, none⟩ : Addr).add j) = some x := by
  subst hn
  intro j x hj
  match j with
  | 0 => simp at hj; subst hj; simp [go_sem]
  | 1 => simp at hj; subst hj; simp [go_sem]
  | j + 2 => simp at hj
theorem cellB {B : Nat} {w w' : World} {b o : Nat} {v : Value} (h : Below B w w') (hb : b < B) (hc : w.cell? ⟨b, o, none⟩ = some v) : w'.cell? ⟨b, o, none⟩ = some v := by
  rw [h.cell (p := ⟨b, o, none⟩) hb]; exact hc
theorem own_mono {w : World} {B B' T n k : Nat} {v : Value} {l : List Value} (h : w.ownsRow B T k v n l) (hB : B' ≤ B) : w.ownsRow B' T k v n l := by
  refine ⟨h.1, ?_⟩
  rcases h.2 with h | ⟨g, cap, cur, e, hb, r⟩
  · exact .inl h
  · exact .inr ⟨g, cap, cur, e, Nat.le_trans hB hb, r⟩
theorem own_two {w : World} {B T : Nat} {k : IntKind} {v : Value} {a b : Int} (h : w.ownsRow B T 1 v 2 [.int k a, .int k b]) : ∃ g c, v = .slice (some ⟨g, 0, none⟩) 2 c ∧ B ≤ g ∧ g < w.heap.size ∧ 2 ≤ c ∧ c ≤ 9223372036854775807 ∧ w.cell? ⟨g, 0, none⟩ = some (.int k a) ∧ w.cell? ⟨g, 1, none⟩ = some (.int k b) := by
  rcases h.2 with ⟨_, h0⟩ | ⟨g, cap, cur, rfl, hb, hg, h1, h2, h3, h4⟩
  · simp at h0
  · refine ⟨g, cap, rfl, hb, (h.lt g rfl).2, h1, h2, ?_, ?_⟩
    · rw [h.cellAt 0 (by omega)]; rfl
    · rw [h.cellAt 1 (by omega)]; rfl
theorem own_four {w : World} {B T : Nat} {v a b c d : Value} (h : w.ownsRow B T 2 v 2 [a, b, c, d]) : ∃ g n, v = .slice (some ⟨g, 0, none⟩) 2 n ∧ B ≤ g ∧ g < w.heap.size ∧ 2 ≤ n ∧ n ≤ 9223372036854775807 ∧ w.cell? ⟨g, 0, none⟩ = some a ∧ w.cell? ⟨g, 1, none⟩ = some b ∧ w.cell? ⟨g, 2, none⟩ = some c ∧ w.cell? ⟨g, 3, none⟩ = some d := by
  rcases h.2 with ⟨_, h0⟩ | ⟨g, cap, cur, rfl, hb, hg, h1, h2, h3, h4⟩
  · simp at h0
  · refine ⟨g, cap, rfl, hb, (h.lt g rfl).2, h1, h2, ?_, ?_, ?_, ?_⟩
    · rw [h.cellAt 0 (by simp)]; rfl
    · rw [h.cellAt 1 (by simp)]; rfl
    · rw [h.cellAt 2 (by simp)]; rfl
    · rw [h.cellAt 3 (by simp)]; rfl
set_option maxHeartbeats 1600000 in
theorem factor6 (w : World) :
    Calls Tryd.prog 72 #[.int .i64 6] w fun e w' => ∃ v, e = .returned v ∧ w'.ownsRow w.heap.size 88 2 v 2 [.int .i64 2, .int .i64 1, .int .i64 3, .int .i64 1] ∧ Below w.heap.size w w' := by
  obtain ⟨i0, hi, hz0, hz1, hz2⟩ := info_parts Try.infoP
  go_enter Tryd.func72, Tryd.ntmps72
  go_wp2
  refine wp_loop_rounds 3 ?_
  rw [rounds_succ]
  go_wp2_with (first | (go_at_call 64; ((with_reducible refine (ld62 _).mono ?_); rintro e w' ⟨rfl, rfl⟩)) | (go_at_call 84; ((with_reducible refine (st62 _).mono ?_); rintro e w' ⟨rfl, rfl⟩)) | (at_builtin; refine wpList_append_own _ rfl _ _ 84 rfl w.heap.size 88 i0 (.agg #[.int .i64 0, .int .i64 0]) 2 16 Tryd.underlying84 hi hz0 hz1 hz2 rfl (by decide) _ _ _ rfl (World.ownsRow_nil _ _ _ _) ⟨w.heap.size, 0, none⟩ 1 1 [.int .i64 2, .int .i64 1] rfl rfl (two_new _ _ _ _ _ rfl) (by intro u hu; simp at hu; rcases hu with rfl | rfl <;> rfl) (by unfold maxLen; omega) (by omega) (by simp) ?_))
  intro v2 w2 hown2 hgrow2 _
  have hb2 : Below w.heap.size w w2 := ((Below.refl _ _).alloc (Nat.le_refl _) _).grown hgrow2 (by simp) (by simp [Value.ownBlock])
  have s2 := hb2.size
  have HB2 := Lib.hid hb2
  clear hgrow2 hb2
  go_wp2
  rw [rounds_succ]
  go_wp2_with (first | (go_at_call 64; ((with_reducible refine (ld32 _).mono ?_); rintro e w' ⟨rfl, rfl⟩)) | (go_at_call 84; ((with_reducible refine (st33 _).mono ?_); rintro e w' ⟨rfl, rfl⟩)) | (at_builtin; refine wpList_append_own _ rfl _ _ 84 rfl w.heap.size 88 i0 (.agg #[.int .i64 0, .int .i64 0]) 2 16 Tryd.underlying84 hi hz0 hz1 hz2 rfl (by decide) _ _ _ rfl (hown2.alloc _) ⟨w2.heap.size, 0, none⟩ 1 1 [.int .i64 3, .int .i64 1] rfl rfl (two_new _ _ _ _ _ rfl) (by intro u hu; simp at hu; rcases hu with rfl | rfl <;> rfl) (by unfold maxLen; omega) (by omega) (by simp; omega) ?_))
  intro v3 w3 hown3 hgrow3 _
  have hb3 : Below w.heap.size w w3 := (HB2.out.alloc (by omega) _).grown hgrow3 (by simp; omega) (by intro k hk; have := hown2.lt k hk; omega)
  have HB3 := Lib.hid hb3
  have HO3 := Lib.hid hown3
  clear hgrow3 hb3 hown3 hown2
  go_wp2
  rw [rounds_succ]
  go_wp2
  go_ret
  exact ⟨v3, rfl, HO3.out, HB3.out⟩
set_option maxHeartbeats 400000 in
theorem Factor6 (w : World) :
    Calls Tryd.prog 52 #[.int .i64 6] w fun e w' => ∃ v, e = .returned (.tuple #[v, .int .i64 0]) ∧ w'.ownsRow w.heap.size 88 2 v 2 [.int .i64 2, .int .i64 1, .int .i64 3, .int .i64 1] ∧ Below w.heap.size w w' := by
  go_enter Tryd.func52, Tryd.ntmps52
  go_wp2_with (go_at_call 71; ((with_reducible refine (ism6 _).mono ?_); rintro e w' ⟨rfl, rfl⟩))
  refine (factor6 _).mono ?_
  rintro e w1 ⟨v, rfl, hown, hb⟩
  have HO := Lib.hid hown
  have HB := Lib.hid hb
  clear hown hb
  go_wp2
  go_ret2
  exact ⟨v, rfl, HO.out, HB.out⟩
set_option maxHeartbeats 1600000 in
theorem ramified_ex (w : World) :
    Calls Tryd.prog 26 #[.agg #[.int .i64 (-1), .int .i64 3]] w fun e w' => ∃ v, e = .returned v ∧ w'.ownsRow w.heap.size 3 1 v 2 [.int .i64 2, .int .i64 3] ∧ Below w.heap.size w w' := by
  obtain ⟨i0, hi, hz0, hz1, hz2⟩ := info_parts Try.info3
  go_enter Tryd.func26, Tryd.ntmps26
  go_wp2_with fail
  refine (Factor6 _).mono ?_
  rintro e w1 ⟨v, rfl, hown, hb⟩
  obtain ⟨g, c, rfl, g1, g2, g3, g4, k0, k1, k2, k3⟩ := own_four hown
  have a0 : w1.cell? ⟨w.heap.size, 0, none⟩ = some (.int .i64 (-1)) := cellB hb (by simp) (by simp [go_sem])
  have a1 : w1.cell? ⟨w.heap.size, 1, none⟩ = some (.int .i64 3) := cellB hb (by simp) (by simp [go_sem])
  have z1 : w.heap.size < w1.heap.size := by have := hb.size; simp at this; omega
  have HB := Lib.hid (below_up (B := w.heap.size) (w := w) hb (by (repeat (first | (with_reducible exact Below.refl _ _) | (with_reducible exact HB.out) | (with_reducible refine below_draws ?_ _) | (with_reducible refine Below.alloc ?_ (by go_size) _) | (with_reducible refine Below.setCell ?_ (by go_size) _) | (with_reducible refine Below.alloc ?_ (by simp <;> omega) _) | (with_reducible refine Below.setCell ?_ (by simp <;> omega) _)))) (by simp))
  clear hown hb
  go_wp2_with fail
  refine wp_loop_rounds 3 ?_
  rw [rounds_succ]
  go_wp2_with (first | (go_at_call 53; ((with_reducible refine (hil2 _).mono ?_); rintro e w' ⟨rfl, rfl⟩)) | (at_builtin; refine wpList_append_own _ rfl _ _ 25 rfl w1.heap.size 3 i0 (.int .i64 0) 1 8 Tryd.underlying25 hi hz0 hz1 hz2 rfl (by decide) _ _ _ rfl (World.ownsRow_nil _ _ _ _) ⟨w1.heap.size + 1, 0, none⟩ 1 1 [.int .i64 2] rfl rfl (one_new _ _ _ _ (by simp)) (by intro u hu; simp at hu; subst hu; rfl) (by unfold maxLen; omega) (by omega) (by simp; omega) ?_))
  intro v2 w2 hown2 hgrow2 _
  have hb2 : Below w1.heap.size w1 w2 := (((Below.refl _ _).alloc (Nat.le_refl _) _).alloc (by simp) _).grown hgrow2 (by simp; omega) (by simp [Value.ownBlock])
  have s2 := hb2.size
  have z2 : w.heap.size < w2.heap.size := by omega
  have z3 : g < w2.heap.size := by omega
  replace a0 := cellB hb2 z1 a0
  replace a1 := cellB hb2 z1 a1
  replace k2 := cellB hb2 g2 k2
  replace k3 := cellB hb2 g2 k3
  have HB2 := Lib.hid hb2
  clear hgrow2 hb2 k0 k1
  go_wp2
  rw [rounds_succ]
  go_wp2_with (first | (go_at_call 53; ((with_reducible refine (hil3 _).mono ?_); rintro e w' ⟨rfl, rfl⟩)) | (at_builtin; refine wpList_append_own _ rfl _ _ 25 rfl w1.heap.size 3 i0 (.int .i64 0) 1 8 Tryd.underlying25 hi hz0 hz1 hz2 rfl (by decide) _ _ _ rfl ((hown2.alloc _).alloc _) ⟨w2.heap.size + 1, 0, none⟩ 1 1 [.int .i64 3] rfl rfl (one_new _ _ _ _ (by simp)) (by intro u hu; simp at hu; subst hu; rfl) (by unfold maxLen; omega) (by omega) (by simp; omega) ?_))
  intro v3 w3 hown3 hgrow3 _
  have hb3 : Below w1.heap.size w1 w3 := ((HB2.out.alloc (by omega) _).alloc (by simp; omega) _).grown hgrow3 (by simp; omega) (by intro k hk; have := hown2.lt k hk; omega)
  have HB3 := Lib.hid (HB.out.trans (hb3.mono (by omega)))
  have HO3 := Lib.hid (own_mono hown3 (show w.heap.size ≤ w1.heap.size by omega))
  clear hgrow3 hb3 hown3 hown2 a0 a1 k2 k3
  go_wp2
  rw [rounds_succ]
  go_wp2
  go_ret
  exact ⟨v3, rfl, HO3.out, HB3.out⟩
theorem chkA_ex : chkA (-1) 3 = 0 := by decide
set_option maxHeartbeats 800000 in
theorem Disc_ex (w : World) :
    Calls Tryd.prog 8 #[.agg #[.int .i64 (-1), .int .i64 3]] w fun e w' => e = .returned (.tuple #[.int .i64 6, .int .i64 0]) ∧ Below w.heap.size w w' := by
  go_enter Tryd.func8, Tryd.ntmps8
  go_wp2_with fail
  refine (Check_any _ _ _).mono ?_
  rintro e w1 ⟨rfl, hb⟩
  rw [chkA_ex]
  have a0 : w1.cell? ⟨w.heap.size, 0, none⟩ = some (.int .i64 (-1)) := cellB hb (by simp) (by simp [go_sem])
  have a1 : w1.cell? ⟨w.heap.size, 1, none⟩ = some (.int .i64 3) := cellB hb (by simp) (by simp [go_sem])
  have HB := Lib.hid (below_up (B := w.heap.size) (w := w) hb (by (repeat (first | (with_reducible exact Below.refl _ _) | (with_reducible exact HB.out) | (with_reducible refine below_draws ?_ _) | (with_reducible refine Below.alloc ?_ (by go_size) _) | (with_reducible refine Below.setCell ?_ (by go_size) _) | (with_reducible refine Below.alloc ?_ (by simp <;> omega) _) | (with_reducible refine Below.setCell ?_ (by simp <;> omega) _)))) (by simp))
  clear hb
  go_wp2_with fail
  refine (ramified_ex _).mono ?_
  rintro e w2 ⟨v, rfl, hown, hb⟩
  obtain ⟨g, c, rfl, g1, g2, g3, g4, k0, k1⟩ := own_two hown
  have HB2 := Lib.hid (HB.out.trans (hb.mono HB.out.size))
  clear hown hb a0 a1
  go_wp2_with fail
  refine wp_loop_rounds 3 ?_
  rw [rounds_succ]; go_wp2
  rw [rounds_succ]; go_wp2
  rw [rounds_succ]; go_wp2
  go_ret2
  exact ⟨rfl, HB2.out⟩
end Go.Proofs.YtgbnmnkgelklbaaDoor.Al
