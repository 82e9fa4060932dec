/-
  WALKS: minimal polynomials of elements that are not rational.
-/
import Derived.Test.YtjloanplhbbomaaDoorAlX
namespace Go.Proofs.YtjloanplhbbomaaDoor.Al
open Go.RowKit
open Alm
set_option linter.unusedVariables false
set_option linter.unusedSimpArgs false
set_option maxRecDepth 100000
theorem KL.push6 {w0 : World} {cs : List (Nat × Nat × Value)} {fs : List (Nat × Nat)} {w : World} (h : KL w0 cs fs w) (a b c d e f : Int) (T : TypeId) (p : Nat) (hp : p = w.heap.size) : KL w0 ((p, 0, .int .i64 a) :: (p, 1, .int .i64 b) :: (p, 2, .int .i64 c) :: (p, 3, .int .i64 d) :: (p, 4, .int .i64 e) :: (p, 5, .int .i64 f) :: cs) fs (w.alloc (.cells #[.int .i64 a, .int .i64 b, .int .i64 c, .int .i64 d, .int .i64 e, .int .i64 f] T)) := by
  subst hp
  have h1 := h.alloc (.cells #[.int .i64 a, .int .i64 b, .int .i64 c, .int .i64 d, .int .i64 e, .int .i64 f] T)
  refine ⟨fun x hx => ?_, h1.g, h1.f, h1.bel⟩
  simp only [List.mem_cons] at hx
  rcases hx with rfl | rfl | rfl | rfl | rfl | rfl | hx
  · simp [go_sem]
  · simp [go_sem]
  · simp [go_sem]
  · simp [go_sem]
  · simp [go_sem]
  · simp [go_sem]
  · exact h1.c x hx
set_option maxHeartbeats 6400000 in
theorem Poly_gen (A B n0 n1 n2 n3 d : Int) (w : World) (hA : chkA A B = 0) (hq : chkQ n0 n1 n2 n3 d = 0) (hr : (n1 == 0 && (n2 == 0 && n3 == 0)) = false) :
    Calls Tryd.prog 34 #[.agg #[.int .i64 A, .int .i64 B], .agg #[.int .i64 n0, .int .i64 n1, .int .i64 n2, .int .i64 n3, .int .i64 d]] w fun e w' => ∃ b, e = .returned (.tuple #[.slice (some ⟨b, 0, none⟩) 3 3, .int .i64 0]) ∧ KL w [(b, 0, .int .i64 (fn (nm A B n0 n1 n2 n3) (d * d))), (b, 1, .int .i64 (fd (nm A B n0 n1 n2 n3) (d * d))), (b, 2, .int .i64 (fn (-2 * n0) d)), (b, 3, .int .i64 (fd (-2 * n0) d)), (b, 4, .int .i64 1), (b, 5, .int .i64 1)] [] w' := by
  obtain ⟨a0, a1, a2, a3, a4, a5⟩ := qin_of hq
  have FR := Lib.hid (fun W => fraction_any (-2 * n0) d W ⟨by omega, by omega⟩ ⟨by omega, by omega⟩)
  have ok : (or2 (chkA A B) (chkQ n0 n1 n2 n3 d) != 0) = false := by rw [or2_ok hA hq]; rfl
  have EF := Lib.hid (IntWalk.i64_in (-2 * n0) (by omega))
  have NV := Lib.hid (fun W => norm_v A B n0 n1 n2 n3 d W hA hq)
  have EQ := Lib.hid (fun W => Try.eq4 n0 n1 n2 n3 n0 0 0 0 W)
  rw [hr, Bool.and_false] at EQ
  obtain ⟨k0, hk0⟩ : ∃ k, fn (-2 * n0) d = k := ⟨_, rfl⟩
  obtain ⟨k1, hk1⟩ : ∃ k, fd (-2 * n0) d = k := ⟨_, rfl⟩
  obtain ⟨k2, hk2⟩ : ∃ k, fn (nm A B n0 n1 n2 n3) (d * d) = k := ⟨_, rfl⟩
  obtain ⟨k3, hk3⟩ : ∃ k, fd (nm A B n0 n1 n2 n3) (d * d) = k := ⟨_, rfl⟩
  rw [hk0, hk1] at FR ⊢
  rw [hk2, hk3] at NV ⊢
  clear hA hq hr a0 a1 a2 a3 a4 a5 hk0 hk1 hk2 hk3
  go_enter Tryd.func34, Tryd.ntmps34
  go_wp2_with fail
  have hk : K_Nd A B n0 n1 n2 n3 d w.heap.size (w.heap.size + 1) w ((w.alloc (.cells #[.int .i64 A, .int .i64 B] 23)).alloc (.cells #[.int .i64 n0, .int .i64 n1, .int .i64 n2, .int .i64 n3, .int .i64 d] 25)) := ⟨by simp [go_sem], by simp [go_sem], by simp [go_sem], by (repeat (first | (with_reducible exact Below.refl _ _) | (with_reducible exact HB.out) | (with_reducible refine below_draws ?_ _) | (with_reducible refine Below.alloc ?_ (by go_size) _) | (with_reducible refine Below.setCell ?_ (by go_size) _) | (with_reducible refine Below.alloc ?_ (by simp <;> omega) _) | (with_reducible refine Below.setCell ?_ (by simp <;> omega) _)))⟩
  go_region_held3 (fun w' => (w'.cell? ⟨w.heap.size, 0, none⟩ = some (.int .i64 A) ∧ w'.cell? ⟨w.heap.size, 1, none⟩ = some (.int .i64 B) ∧ w'.cell? ⟨(w.heap.size + 1), 0, none⟩ = some (.int .i64 n0) ∧ w'.cell? ⟨(w.heap.size + 1), 1, none⟩ = some (.int .i64 n1) ∧ w'.cell? ⟨(w.heap.size + 1), 2, none⟩ = some (.int .i64 n2) ∧ w'.cell? ⟨(w.heap.size + 1), 3, none⟩ = some (.int .i64 n3) ∧ w'.cell? ⟨(w.heap.size + 1), 4, none⟩ = some (.int .i64 d)) ∧ K_Nd A B n0 n1 n2 n3 d w.heap.size (w.heap.size + 1) w w') ((refine K_Nd.ks ?_; repeat (first | (with_reducible assumption) | (with_reducible refine K_Nd.draws _ ?_) | (with_reducible refine K_Nd.drew ?_) | (with_reducible refine K_Nd.alloc _ ?_) | (with_reducible refine K_Nd.set ?_ _ _ _ (by omega)))))
    (first
      | (go_at_call 15; (with_reducible refine (Check_any _ _ _).mono ?_); rintro e w' ⟨rfl, hbel⟩; have hk' := K_Nd.below hbel (And.right (by assumption)); clear hbel)
      | (go_at_call 17; (with_reducible refine (CheckQuat_any _ _ _ _ _ _).mono ?_); rintro e w' ⟨rfl, hbel⟩; have hk' := K_Nd.below hbel (And.right (by assumption)); clear hbel)
      | (go_at_call 64; (with_reducible refine (Or_new _ _ _ _ _ ?_).mono ?_); rfl; rintro e w'' ⟨rfl, rfl⟩))
  all_goals
    (rename_i hh_; clear hh_; obtain ⟨c0_, c1_, c2_, c3_, c4_, c5_, c6_⟩ := K_Nd.cells hk')
    obtain ⟨z0, z1, -⟩ := K_Nd.zs hk'
    have hold := hk'
    rename World => wa
    have eq := EQ.out
    clear hk
    go_wp2_with fail
    have hk : K_Pr A B n0 n1 n2 n3 d 1 1 n0 0 0 0 w.heap.size (w.heap.size + 1) (wa.heap.size + 1) (wa.heap.size + 2) w (((wa.alloc (.cells #[.int .i64 (chkA A B), .int .i64 (chkQ n0 n1 n2 n3 d)] 27)).alloc (.cells #[.int .i64 1, .int .i64 1] 38)).alloc (.cells #[.int .i64 n0, .int .i64 0, .int .i64 0, .int .i64 0] 84)) := KL.push4 (KL.push2 (KL.alloc _ hold) 1 1 _ _ (by simp)) n0 0 0 0 _ _ (by simp)
    clear hk' hold c0_ c1_ c2_ c3_ c4_ c5_ c6_
    go_region_held3 (fun w' => (w'.cell? ⟨(wa.heap.size + 2), 0, none⟩ = some (.int .i64 n0) ∧ w'.cell? ⟨(wa.heap.size + 2), 1, none⟩ = some (.int .i64 0) ∧ w'.cell? ⟨(wa.heap.size + 2), 2, none⟩ = some (.int .i64 0) ∧ w'.cell? ⟨(wa.heap.size + 2), 3, none⟩ = some (.int .i64 0) ∧ w'.cell? ⟨(wa.heap.size + 1), 0, none⟩ = some (.int .i64 1) ∧ w'.cell? ⟨(wa.heap.size + 1), 1, none⟩ = some (.int .i64 1) ∧ w'.cell? ⟨w.heap.size, 0, none⟩ = some (.int .i64 A) ∧ w'.cell? ⟨w.heap.size, 1, none⟩ = some (.int .i64 B) ∧ w'.cell? ⟨(w.heap.size + 1), 0, none⟩ = some (.int .i64 n0) ∧ w'.cell? ⟨(w.heap.size + 1), 1, none⟩ = some (.int .i64 n1) ∧ w'.cell? ⟨(w.heap.size + 1), 2, none⟩ = some (.int .i64 n2) ∧ w'.cell? ⟨(w.heap.size + 1), 3, none⟩ = some (.int .i64 n3) ∧ w'.cell? ⟨(w.heap.size + 1), 4, none⟩ = some (.int .i64 d)) ∧ K_Pr A B n0 n1 n2 n3 d 1 1 n0 0 0 0 w.heap.size (w.heap.size + 1) (wa.heap.size + 1) (wa.heap.size + 2) w w') ((refine K_Pr.ks ?_; repeat (first | (with_reducible assumption) | (with_reducible refine K_Pr.draws _ ?_) | (with_reducible refine K_Pr.drew ?_) | (with_reducible refine K_Pr.alloc _ ?_) | (with_reducible refine K_Pr.set ?_ _ _ _ (by omega)))))
      (first
        | (go_at_call 53; (with_reducible refine (numeratorsOf_any _ _ _ _ _ _).mono ?_); rintro e wq ⟨rfl, hbel⟩; have hk' := K_Pr.below hbel (And.right (by assumption)); clear hbel))
    all_goals
      rename_i hh
      clear hh
      clear hk eq z0 z1
      have hk := hk'
      clear hk'
      have ef := EF.out
      go_wp2_with fail
      go_region_held3 (fun w' => (w'.cell? ⟨(wa.heap.size + 2), 0, none⟩ = some (.int .i64 n0) ∧ w'.cell? ⟨(wa.heap.size + 2), 1, none⟩ = some (.int .i64 0) ∧ w'.cell? ⟨(wa.heap.size + 2), 2, none⟩ = some (.int .i64 0) ∧ w'.cell? ⟨(wa.heap.size + 2), 3, none⟩ = some (.int .i64 0) ∧ w'.cell? ⟨(wa.heap.size + 1), 0, none⟩ = some (.int .i64 1) ∧ w'.cell? ⟨(wa.heap.size + 1), 1, none⟩ = some (.int .i64 1) ∧ w'.cell? ⟨w.heap.size, 0, none⟩ = some (.int .i64 A) ∧ w'.cell? ⟨w.heap.size, 1, none⟩ = some (.int .i64 B) ∧ w'.cell? ⟨(w.heap.size + 1), 0, none⟩ = some (.int .i64 n0) ∧ w'.cell? ⟨(w.heap.size + 1), 1, none⟩ = some (.int .i64 n1) ∧ w'.cell? ⟨(w.heap.size + 1), 2, none⟩ = some (.int .i64 n2) ∧ w'.cell? ⟨(w.heap.size + 1), 3, none⟩ = some (.int .i64 n3) ∧ w'.cell? ⟨(w.heap.size + 1), 4, none⟩ = some (.int .i64 d)) ∧ K_Pr A B n0 n1 n2 n3 d 1 1 n0 0 0 0 w.heap.size (w.heap.size + 1) (wa.heap.size + 1) (wa.heap.size + 2) w w') ((refine K_Pr.ks ?_; repeat (first | (with_reducible assumption) | (with_reducible refine K_Pr.draws _ ?_) | (with_reducible refine K_Pr.drew ?_) | (with_reducible refine K_Pr.alloc _ ?_) | (with_reducible refine K_Pr.set ?_ _ _ _ (by omega)))))
        (first
          | (go_at_call 68; (with_reducible refine (NV.out _).mono ?_); rintro e wn ⟨rfl, hbel⟩; have hk' := K_Pr.below hbel (And.right (by assumption)); clear hbel)
          | (go_at_call 69; (with_reducible refine (FR.out _).mono ?_); rintro e wf ⟨rfl, hbel⟩; have hk' := K_Pr.below hbel (And.right (by assumption)); clear hbel))
      all_goals
        rename_i hh
        clear hh ef
        go_wp2
        exact bodyPost_ret (v := .tuple #[.slice (some ⟨wf.heap.size, 0, none⟩) 3 3, .int .i64 0]) (by simp [results, Tryd.results34, go_sem]) rfl ⟨wf.heap.size, rfl, KL.push6 (KL.sub1 hk') k2 k3 k0 k1 1 1 _ _ rfl⟩
end Go.Proofs.YtjloanplhbbomaaDoor.Al
