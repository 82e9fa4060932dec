/-
  WALKS: the reference's minimal polynomials.
-/
import Derived.Test.YtjloanplhbbomaaDoorAlY
namespace Go.Proofs.YtjloanplhbbomaaDoor.Al
open Go.RowKit
open Alm
set_option linter.unusedVariables false
set_option linter.unusedSimpArgs false
set_option maxRecDepth 100000
set_option maxHeartbeats 1600000 in
theorem Rational_any (n0 n1 n2 n3 d : Int) (w : World) :
    Calls Tryd.prog 71 #[.agg #[.int .i64 n0, .int .i64 n1, .int .i64 n2, .int .i64 n3, .int .i64 d]] w fun e w' => e = .returned (.bool (n1 == 0 && (n2 == 0 && n3 == 0))) ∧ Below w.heap.size w w' := by
  rcases h1 : n1 == 0
  · go_enter Tryd.func71, Tryd.ntmps71
    go_wp2
    go_ret
    exact ⟨rfl, by (repeat (first | (with_reducible exact Below.refl _ _) | (with_reducible exact HB.out) | (with_reducible refine below_draws ?_ _) | (with_reducible refine Below.alloc ?_ (by go_size) _) | (with_reducible refine Below.setCell ?_ (by go_size) _) | (with_reducible refine Below.alloc ?_ (by simp <;> omega) _) | (with_reducible refine Below.setCell ?_ (by simp <;> omega) _)))⟩
  · rcases h2 : n2 == 0
    · go_enter Tryd.func71, Tryd.ntmps71
      go_wp2
      go_ret
      exact ⟨rfl, by (repeat (first | (with_reducible exact Below.refl _ _) | (with_reducible exact HB.out) | (with_reducible refine below_draws ?_ _) | (with_reducible refine Below.alloc ?_ (by go_size) _) | (with_reducible refine Below.setCell ?_ (by go_size) _) | (with_reducible refine Below.alloc ?_ (by simp <;> omega) _) | (with_reducible refine Below.setCell ?_ (by simp <;> omega) _)))⟩
    · go_enter Tryd.func71, Tryd.ntmps71
      go_wp2
      go_ret
      exact ⟨rfl, by (repeat (first | (with_reducible exact Below.refl _ _) | (with_reducible exact HB.out) | (with_reducible refine below_draws ?_ _) | (with_reducible refine Below.alloc ?_ (by go_size) _) | (with_reducible refine Below.setCell ?_ (by go_size) _) | (with_reducible refine Below.alloc ?_ (by simp <;> omega) _) | (with_reducible refine Below.setCell ?_ (by simp <;> omega) _)))⟩
set_option maxHeartbeats 3200000 in
theorem rPoly_rat (A B n0 n1 n2 n3 d : Int) (w : World) (hA : chkA A B = 0) (hq : chkQ n0 n1 n2 n3 d = 0) (hr : (n1 == 0 && (n2 == 0 && n3 == 0)) = true) :
    Calls Tryd.prog 38 #[.agg #[.int .i64 A, .int .i64 B], .agg #[.int .i64 n0, .int .i64 n1, .int .i64 n2, .int .i64 n3, .int .i64 d]] w fun e w' => ∃ b, e = .returned (.slice (some ⟨b, 0, none⟩) 2 2) ∧ KL w [(b, 0, .int .i64 (fn (-n0) d)), (b, 1, .int .i64 (fd (-n0) d)), (b, 2, .int .i64 1), (b, 3, .int .i64 1)] [] w' := by
  obtain ⟨a0, a1, a2, a3, a4, a5⟩ := qin_of hq
  have FR := Lib.hid (fun W => Lowest_any (-n0) d W ⟨by omega, by omega⟩ ⟨by omega, by omega⟩)
  have EF := Lib.hid (IntWalk.i64_in (-n0) (by omega))
  have RA := Lib.hid (fun W => Rational_any n0 n1 n2 n3 d W)
  rw [hr] at RA
  obtain ⟨k0, hk0⟩ : ∃ k, fn (-n0) d = k := ⟨_, rfl⟩
  obtain ⟨k1, hk1⟩ : ∃ k, fd (-n0) d = k := ⟨_, rfl⟩
  rw [hk0, hk1] at FR ⊢
  clear hA hq hr a0 a1 a2 a3 a4 a5 hk0 hk1
  go_enter Tryd.func38, Tryd.ntmps38
  go_wp2_with fail
  refine (RA.out _).mono ?_
  rintro e w1 ⟨rfl, hb⟩
  have hk : K_Nd A B n0 n1 n2 n3 d w.heap.size (w.heap.size + 1) w w1 := K_Nd.below hb ⟨by simp [go_sem], by simp [go_sem], by simp [go_sem], by (repeat (first | (with_reducible exact Below.refl _ _) | (with_reducible exact HB.out) | (with_reducible refine below_draws ?_ _) | (with_reducible refine Below.alloc ?_ (by go_size) _) | (with_reducible refine Below.setCell ?_ (by go_size) _) | (with_reducible refine Below.alloc ?_ (by simp <;> omega) _) | (with_reducible refine Below.setCell ?_ (by simp <;> omega) _)))⟩
  clear hb
  have hK := hk
  clear hk
  obtain ⟨c0_, c1_, c2_, c3_, c4_, c5_, c6_⟩ := K_Nd.cells hK; obtain ⟨z0_, z1_, -⟩ := K_Nd.zs hK; have HK := Lib.hid hK; clear hK
  have ef := EF.out
  go_wp2_with fail
  refine (FR.out _).mono ?_
  rintro e wf ⟨rfl, hb⟩
  clear c0_ c1_ c2_ c3_ c4_ c5_ c6_ z0_ z1_
  have hk' := K_Nd.below hb HK.out
  clear hb HK ef
  go_wp2
  exact bodyPost_ret (v := .slice (some ⟨wf.heap.size, 0, none⟩) 2 2) (by simp [results, Tryd.results38, go_sem]) rfl ⟨wf.heap.size, rfl, KL.push4 (KL.sub1 hk') k0 k1 1 1 _ _ rfl⟩
set_option maxHeartbeats 3200000 in
theorem rPoly_gen (A B n0 n1 n2 n3 d : Int) (w : World) (hA : chkA A B = 0) (hq : chkQ n0 n1 n2 n3 d = 0) (hr : (n1 == 0 && (n2 == 0 && n3 == 0)) = false) :
    Calls Tryd.prog 38 #[.agg #[.int .i64 A, .int .i64 B], .agg #[.int .i64 n0, .int .i64 n1, .int .i64 n2, .int .i64 n3, .int .i64 d]] w fun e w' => ∃ b, e = .returned (.slice (some ⟨b, 0, none⟩) 3 3) ∧ KL w [(b, 0, .int .i64 (fn (nm A B n0 n1 n2 n3) (d * d))), (b, 1, .int .i64 (fd (nm A B n0 n1 n2 n3) (d * d))), (b, 2, .int .i64 (fn (-2 * n0) d)), (b, 3, .int .i64 (fd (-2 * n0) d)), (b, 4, .int .i64 1), (b, 5, .int .i64 1)] [] w' := by
  obtain ⟨a0, a1, a2, a3, a4, a5⟩ := qin_of hq
  have FR := Lib.hid (fun W => Lowest_any (-2 * n0) d W ⟨by omega, by omega⟩ ⟨by omega, by omega⟩)
  have EF := Lib.hid (IntWalk.i64_in (-2 * n0) (by omega))
  have RA := Lib.hid (fun W => Rational_any n0 n1 n2 n3 d W)
  rw [hr] at RA
  have NV := Lib.hid (fun W => rNorm_v A B n0 n1 n2 n3 d W hA hq)
  obtain ⟨k0, hk0⟩ : ∃ k, fn (-2 * n0) d = k := ⟨_, rfl⟩
  obtain ⟨k1, hk1⟩ : ∃ k, fd (-2 * n0) d = k := ⟨_, rfl⟩
  rw [hk0, hk1] at FR ⊢
  obtain ⟨k2, hk2⟩ : ∃ k, fn (nm A B n0 n1 n2 n3) (d * d) = k := ⟨_, rfl⟩
  obtain ⟨k3, hk3⟩ : ∃ k, fd (nm A B n0 n1 n2 n3) (d * d) = k := ⟨_, rfl⟩
  rw [hk2, hk3] at NV ⊢
  clear hk2 hk3
  clear hA hq hr a0 a1 a2 a3 a4 a5 hk0 hk1
  go_enter Tryd.func38, Tryd.ntmps38
  go_wp2_with fail
  refine (RA.out _).mono ?_
  rintro e w1 ⟨rfl, hb⟩
  have hk : K_Nd A B n0 n1 n2 n3 d w.heap.size (w.heap.size + 1) w w1 := K_Nd.below hb ⟨by simp [go_sem], by simp [go_sem], by simp [go_sem], by (repeat (first | (with_reducible exact Below.refl _ _) | (with_reducible exact HB.out) | (with_reducible refine below_draws ?_ _) | (with_reducible refine Below.alloc ?_ (by go_size) _) | (with_reducible refine Below.setCell ?_ (by go_size) _) | (with_reducible refine Below.alloc ?_ (by simp <;> omega) _) | (with_reducible refine Below.setCell ?_ (by simp <;> omega) _)))⟩
  clear hb
  have ef := EF.out
  obtain ⟨c0_, c1_, c2_, c3_, c4_, c5_, c6_⟩ := K_Nd.cells hk
  obtain ⟨z0, z1, -⟩ := K_Nd.zs hk
  go_wp2_with fail
  clear c0_ c1_ c2_ c3_ c4_ c5_ c6_ z0 z1
  go_region_held3 (fun w' => (w'.cell? ⟨w.heap.size, 0, none⟩ = some (.int .i64 A) ∧ w'.cell? ⟨w.heap.size, 1, none⟩ = some (.int .i64 B) ∧ w'.cell? ⟨(w.heap.size + 1), 0, none⟩ = some (.int .i64 n0) ∧ w'.cell? ⟨(w.heap.size + 1), 1, none⟩ = some (.int .i64 n1) ∧ w'.cell? ⟨(w.heap.size + 1), 2, none⟩ = some (.int .i64 n2) ∧ w'.cell? ⟨(w.heap.size + 1), 3, none⟩ = some (.int .i64 n3) ∧ w'.cell? ⟨(w.heap.size + 1), 4, none⟩ = some (.int .i64 d)) ∧ K_Nd A B n0 n1 n2 n3 d w.heap.size (w.heap.size + 1) w w') ((refine K_Nd.ks ?_; repeat (first | (with_reducible assumption) | (with_reducible refine K_Nd.draws _ ?_) | (with_reducible refine K_Nd.drew ?_) | (with_reducible refine K_Nd.alloc _ ?_) | (with_reducible refine K_Nd.set ?_ _ _ _ (by omega)))))
    (first
      | (go_at_call 36; (with_reducible refine (NV.out _).mono ?_); rintro e wn ⟨rfl, hbel⟩; have hk' := K_Nd.below hbel (And.right (by assumption)); clear hbel)
      | (go_at_call 49; (with_reducible refine (FR.out _).mono ?_); rintro e wf ⟨rfl, hbel⟩; have hk' := K_Nd.below hbel (And.right (by assumption)); clear hbel))
  all_goals
    rename_i hh
    clear hh ef
    go_wp2
    exact bodyPost_ret (v := .slice (some ⟨wf.heap.size, 0, none⟩) 3 3) (by simp [results, Tryd.results38, go_sem]) rfl ⟨wf.heap.size, rfl, KL.push6 (KL.sub1 hk') k2 k3 k0 k1 1 1 _ _ rfl⟩
end Go.Proofs.YtjloanplhbbomaaDoor.Al
