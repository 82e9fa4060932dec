/-
  WALKS: lowest terms.
-/
import Derived.Test.YteiflfmpkfhkoaaAl3
namespace Go.Proofs.Yteiflfmpkfhkoaa.Al
open Go.RowKit
open Alm
set_option linter.unusedVariables false
set_option maxRecDepth 100000
set_option linter.unusedSimpArgs false
theorem gs_neg {a b c e d : Int} (h : d < 0) : -(g5 a b c e d : Int) = gs a b c e d := by unfold gs sgn; rw [if_pos h]
theorem gs_nonneg {a b c e d : Int} (h : ¬ d < 0) : (g5 a b c e d : Int) = gs a b c e d := by unfold gs sgn; rw [if_neg h]
theorem below_draws {B : Nat} {a w : World} (h : Below B a w) (n : Nat) : Below B a (w.drewN n) := ⟨h.os, h.tape, h.output, h.size, h.block⟩
theorem below_up {B : Nat} {w W w2 : World} (hb : Below W.heap.size W w2) (h : Below B w W) (hB : B ≤ W.heap.size) : Below B w w2 := h.trans (hb.mono hB)
theorem bcell {W w1 : World} (hb : Below W.heap.size W w1) : (∀ b o, b < W.heap.size → w1.cell? ⟨b, o, none⟩ = W.cell? ⟨b, o, none⟩) ∧ (∀ b o, b < W.heap.size → w1.frozen? ⟨b, o, none⟩ = W.frozen? ⟨b, o, none⟩) :=
  ⟨fun b o h => hb.cell (p := ⟨b, o, none⟩) h, fun b o h => hb.frozen (p := ⟨b, o, none⟩) h⟩
section
variable {n0 n1 n2 n3 d : Int}
theorem fit_no (h : qB ⟨n0.tdiv (gs n0 n1 n2 n3 d), n1.tdiv (gs n0 n1 n2 n3 d), n2.tdiv (gs n0 n1 n2 n3 d), n3.tdiv (gs n0 n1 n2 n3 d), d.tdiv (gs n0 n1 n2 n3 d)⟩ = false) : fitQ ⟨n0, n1, n2, n3, d⟩ = ⟨0, 0, 0, 0, 0⟩ := by
  unfold fitQ Q.low; rw [if_neg (by rw [h]; exact Bool.false_ne_true)]
theorem fitE_no (h : qB ⟨n0.tdiv (gs n0 n1 n2 n3 d), n1.tdiv (gs n0 n1 n2 n3 d), n2.tdiv (gs n0 n1 n2 n3 d), n3.tdiv (gs n0 n1 n2 n3 d), d.tdiv (gs n0 n1 n2 n3 d)⟩ = false) : fitE ⟨n0, n1, n2, n3, d⟩ = 8 := by
  unfold fitE Q.low; rw [if_neg (by rw [h]; exact Bool.false_ne_true)]
theorem fit_yes (h : qB ⟨n0.tdiv (gs n0 n1 n2 n3 d), n1.tdiv (gs n0 n1 n2 n3 d), n2.tdiv (gs n0 n1 n2 n3 d), n3.tdiv (gs n0 n1 n2 n3 d), d.tdiv (gs n0 n1 n2 n3 d)⟩ = true) : fitQ ⟨n0, n1, n2, n3, d⟩ = ⟨n0.tdiv (gs n0 n1 n2 n3 d), n1.tdiv (gs n0 n1 n2 n3 d), n2.tdiv (gs n0 n1 n2 n3 d), n3.tdiv (gs n0 n1 n2 n3 d), d.tdiv (gs n0 n1 n2 n3 d)⟩ := by
  unfold fitQ Q.low; rw [if_pos h]
theorem fitE_yes (h : qB ⟨n0.tdiv (gs n0 n1 n2 n3 d), n1.tdiv (gs n0 n1 n2 n3 d), n2.tdiv (gs n0 n1 n2 n3 d), n3.tdiv (gs n0 n1 n2 n3 d), d.tdiv (gs n0 n1 n2 n3 d)⟩ = true) : fitE ⟨n0, n1, n2, n3, d⟩ = 0 := by
  unfold fitE Q.low; rw [if_pos h]
end
theorem ns_new (w : World) (d n0 n1 n2 n3 : Int) (T : TypeId) (n : Nat) (hn : n = w.heap.size) : Ns (w.alloc (.cells #[.int .i64 d, .int .i64 n0, .int .i64 n1, .int .i64 n2, .int .i64 n3] T)) (some ⟨n, 0, none⟩) [d, n0, n1, n2, n3] := by
  subst hn
  intro _
  refine ⟨_, rfl, fun j hj => ?_⟩
  match j, hj with
  | 0, _ => simp [go_sem]
  | 1, _ => simp [go_sem]
  | 2, _ => simp [go_sem]
  | 3, _ => simp [go_sem]
  | 4, _ => simp [go_sem]
set_option maxHeartbeats 4000000 in
theorem over_any (n0 n1 n2 n3 d : Int) (w : World) (h0 : -9223372036854775807 ≤ n0 ∧ n0 ≤ 9223372036854775807) (h1 : -9223372036854775807 ≤ n1 ∧ n1 ≤ 9223372036854775807) (h2 : -9223372036854775807 ≤ n2 ∧ n2 ≤ 9223372036854775807) (h3 : -9223372036854775807 ≤ n3 ∧ n3 ≤ 9223372036854775807) (h4 : -9223372036854775807 ≤ d ∧ d ≤ 9223372036854775807) (hd : d ≠ 0) :
    Calls Try.prog 138 #[.agg #[.int .i64 n0, .int .i64 n1, .int .i64 n2, .int .i64 n3], .int .i64 d] w fun e w' => e = .returned (.tuple #[.agg #[.int .i64 (fitQ ⟨n0, n1, n2, n3, d⟩).w, .int .i64 (fitQ ⟨n0, n1, n2, n3, d⟩).x, .int .i64 (fitQ ⟨n0, n1, n2, n3, d⟩).y, .int .i64 (fitQ ⟨n0, n1, n2, n3, d⟩).z, .int .i64 (fitQ ⟨n0, n1, n2, n3, d⟩).d], .int .i64 (fitE ⟨n0, n1, n2, n3, d⟩)]) ∧ Below w.heap.size w w' := by
  have hgs := gs_ne (w := n0) (x := n1) (y := n2) (z := n3) hd
  have hgz : (gs n0 n1 n2 n3 d == 0) = false := by rw [beq_eq_false_iff_ne]; exact hgs
  have hgb := gs_bd (w := n0) (x := n1) (y := n2) (z := n3) hd
  have b0 := tdiv_bd n0 (gs n0 n1 n2 n3 d)
  have b1 := tdiv_bd n1 (gs n0 n1 n2 n3 d)
  have b2 := tdiv_bd n2 (gs n0 n1 n2 n3 d)
  have b3 := tdiv_bd n3 (gs n0 n1 n2 n3 d)
  have b4 := tdiv_bd d (gs n0 n1 n2 n3 d)
  have hle := g5_le (w := n0) (x := n1) (y := n2) (z := n3) hd
  have HD := Lib.hid hd
  have HG := Lib.hid hgs
  clear hd hgs
  rcases (show Hid (d < 0) ∧ Hid (-(g5 n0 n1 n2 n3 d : Int) = gs n0 n1 n2 n3 d) ∨ Hid (¬ d < 0) ∧ Hid ((g5 n0 n1 n2 n3 d : Int) = gs n0 n1 n2 n3 d) by
    by_cases hneg : d < 0
    · exact .inl ⟨Lib.hid hneg, Lib.hid (gs_neg hneg)⟩
    · exact .inr ⟨Lib.hid hneg, Lib.hid (gs_nonneg hneg)⟩) with ⟨HN, EG⟩ | ⟨HN, EG⟩
  all_goals
    have hneg := HN.out
    go_enter Try.func138, Try.ntmps138
    go_wp2_with fail
    refine (cd_any [d, n0, n1, n2, n3] _ _ _ (by simp) (by simp) (by decide) (ns_new _ _ _ _ _ _ _ _ (by simp)) (by intro j hj; match j, hj with | 0, _ => exact h4 | 1, _ => exact h0 | 2, _ => exact h1 | 3, _ => exact h2 | 4, _ => exact h3)).mono ?_
    rintro e w1 ⟨rfl, n, rfl⟩
    rw [cdl5]
    have eg := EG.out
    go_wp2
    clear eg
    have hgs := HG.out
    have e0 := IntWalk.i64_in (n0.tdiv (gs n0 n1 n2 n3 d)) (by omega)
    have e1 := IntWalk.i64_in (n1.tdiv (gs n0 n1 n2 n3 d)) (by omega)
    have e2 := IntWalk.i64_in (n2.tdiv (gs n0 n1 n2 n3 d)) (by omega)
    have e3 := IntWalk.i64_in (n3.tdiv (gs n0 n1 n2 n3 d)) (by omega)
    have e4 := IntWalk.i64_in (d.tdiv (gs n0 n1 n2 n3 d)) (by omega)
    go_region
    clear e0 e1 e2 e3 e4 hgs hneg HN EG HG HD
    rcases hq : qB ⟨n0.tdiv (gs n0 n1 n2 n3 d), n1.tdiv (gs n0 n1 n2 n3 d), n2.tdiv (gs n0 n1 n2 n3 d), n3.tdiv (gs n0 n1 n2 n3 d), d.tdiv (gs n0 n1 n2 n3 d)⟩ with _ | _
    · have HQ := Lib.hid hq
      clear hq
      go_wp2_with fail
      refine (CheckQuat_bad _ _ _ _ _ _ HQ.out).mono ?_
      rintro e w2 ⟨rfl, hb⟩
      obtain ⟨hc, hf⟩ := bcell hb
      have hz : w.heap.size + 4 ≤ w2.heap.size := by have := hb.size; simp at this; omega
      have HB := Lib.hid (below_up (B := w.heap.size) (w := w) hb (by (repeat (first | (with_reducible exact Below.refl _ _) | (with_reducible exact HB.out) | (with_reducible refine below_draws ?_ _) | (with_reducible refine Below.alloc ?_ (by go_size) _) | (with_reducible refine Below.setCell ?_ (by go_size) _) | (with_reducible refine Below.alloc ?_ (by simp <;> omega) _) | (with_reducible refine Below.setCell ?_ (by simp <;> omega) _)))) (by simp; omega))
      clear hb
      go_wp2
      exact bodyPost_ret (v := .tuple #[.agg #[.int .i64 0, .int .i64 0, .int .i64 0, .int .i64 0, .int .i64 0], .int .i64 8]) (by simp [results, Try.results138, go_sem, hc, hf, hz]) rfl ⟨by rw [fit_no HQ.out, fitE_no HQ.out], by (repeat (first | (with_reducible exact Below.refl _ _) | (with_reducible exact HB.out) | (with_reducible refine below_draws ?_ _) | (with_reducible refine Below.alloc ?_ (by go_size) _) | (with_reducible refine Below.setCell ?_ (by go_size) _) | (with_reducible refine Below.alloc ?_ (by simp <;> omega) _) | (with_reducible refine Below.setCell ?_ (by simp <;> omega) _)))⟩
    · have HQ := Lib.hid hq
      clear hq
      go_wp2_with fail
      refine (CheckQuat_ok _ _ _ _ _ _ HQ.out).mono ?_
      rintro e w2 ⟨rfl, hb⟩
      obtain ⟨hc, hf⟩ := bcell hb
      have hz : w.heap.size + 4 ≤ w2.heap.size := by have := hb.size; simp at this; omega
      have HB := Lib.hid (below_up (B := w.heap.size) (w := w) hb (by (repeat (first | (with_reducible exact Below.refl _ _) | (with_reducible exact HB.out) | (with_reducible refine below_draws ?_ _) | (with_reducible refine Below.alloc ?_ (by go_size) _) | (with_reducible refine Below.setCell ?_ (by go_size) _) | (with_reducible refine Below.alloc ?_ (by simp <;> omega) _) | (with_reducible refine Below.setCell ?_ (by simp <;> omega) _)))) (by simp; omega))
      clear hb
      go_wp2
      exact bodyPost_ret (v := .tuple #[.agg #[.int .i64 (n0.tdiv (gs n0 n1 n2 n3 d)), .int .i64 (n1.tdiv (gs n0 n1 n2 n3 d)), .int .i64 (n2.tdiv (gs n0 n1 n2 n3 d)), .int .i64 (n3.tdiv (gs n0 n1 n2 n3 d)), .int .i64 (d.tdiv (gs n0 n1 n2 n3 d))], .int .i64 0]) (by simp [results, Try.results138, go_sem, hc, hf, hz]) rfl ⟨by rw [fit_yes HQ.out, fitE_yes HQ.out], by (repeat (first | (with_reducible exact Below.refl _ _) | (with_reducible exact HB.out) | (with_reducible refine below_draws ?_ _) | (with_reducible refine Below.alloc ?_ (by go_size) _) | (with_reducible refine Below.setCell ?_ (by go_size) _) | (with_reducible refine Below.alloc ?_ (by simp <;> omega) _) | (with_reducible refine Below.setCell ?_ (by simp <;> omega) _)))⟩
end Go.Proofs.Yteiflfmpkfhkoaa.Al
