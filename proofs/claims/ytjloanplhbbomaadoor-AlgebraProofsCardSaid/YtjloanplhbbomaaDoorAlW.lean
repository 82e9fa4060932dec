/-
  WALKS: which elements are integral.
-/
import Derived.Test.YtjloanplhbbomaaDoorAlV
namespace Go.Proofs.YtjloanplhbbomaaDoor.Al
open Go.RowKit
open Alm
set_option linter.unusedVariables false
set_option linter.unusedSimpArgs false
set_option maxRecDepth 100000
theorem Try.f1 (a b : Value) : ∀ w, (Instr.field 38 (.agg #[a, b]) 1).run Tryd.prog w = .ok b w := fun _ => by kernel_rfl
/-- an element is integral: its trace and its norm are integers -/
def itB (A B n0 n1 n2 n3 d : Int) : Bool := fd (2 * n0) d == 1 && fd (nm A B n0 n1 n2 n3) (d * d) == 1
set_option maxHeartbeats 3200000 in
theorem rIntegral_v (A B n0 n1 n2 n3 d : Int) (w : World) (hA : chkA A B = 0) (hq : chkQ n0 n1 n2 n3 d = 0) :
    Calls Tryd.prog 39 #[.agg #[.int .i64 A, .int .i64 B], .agg #[.int .i64 n0, .int .i64 n1, .int .i64 n2, .int .i64 n3, .int .i64 d]] w fun e w' => e = .returned (.bool (itB A B n0 n1 n2 n3 d)) ∧ Below w.heap.size w w' := by
  have TV := Lib.hid (fun W => rTrace_v n0 n1 n2 n3 d W hq)
  have NV := Lib.hid (fun W => rNorm_v A B n0 n1 n2 n3 d W hA hq)
  unfold itB
  obtain ⟨k0, hk0⟩ : ∃ k, fn (2 * n0) d = k := ⟨_, rfl⟩
  obtain ⟨k1, hk1⟩ : ∃ k, fd (2 * n0) d = k := ⟨_, rfl⟩
  obtain ⟨k2, hk2⟩ : ∃ k, fn (nm A B n0 n1 n2 n3) (d * d) = k := ⟨_, rfl⟩
  obtain ⟨k3, hk3⟩ : ∃ k, fd (nm A B n0 n1 n2 n3) (d * d) = k := ⟨_, rfl⟩
  rw [hk0, hk1] at TV
  rw [hk2, hk3] at NV
  rw [hk1, hk3]
  clear hA hq hk0 hk1 hk2 hk3
  obtain ⟨t1, ht1⟩ : ∃ b, (k1 == 1) = b := ⟨_, rfl⟩
  rw [ht1]
  have fi1 := Try.f1 (.int .i64 k0) (.int .i64 k1)
  have fi2 := Try.f1 (.int .i64 k2) (.int .i64 k3)
  cases t1
  · go_enter Tryd.func39, Tryd.ntmps39
    go_wp2_with fail
    refine (TV.out _).mono ?_
    rintro e w1 ⟨rfl, hb⟩
    have hK : K_Nd A B n0 n1 n2 n3 d w.heap.size (w.heap.size + 1) w w1 := K_Nd.below hb ⟨by simp [go_sem], by simp [go_sem], by simp [go_sem], by (repeat (first | (with_reducible exact Below.refl _ _) | (with_reducible exact HB.out) | (with_reducible refine below_draws ?_ _) | (with_reducible refine Below.alloc ?_ (by go_size) _) | (with_reducible refine Below.setCell ?_ (by go_size) _) | (with_reducible refine Below.alloc ?_ (by simp <;> omega) _) | (with_reducible refine Below.setCell ?_ (by simp <;> omega) _)))⟩
    clear hb
    obtain ⟨c0_, c1_, c2_, c3_, c4_, c5_, c6_⟩ := K_Nd.cells hK; obtain ⟨z0_, z1_, -⟩ := K_Nd.zs hK; have HK := Lib.hid hK; clear hK
    go_wp2
    go_ret
    exact ⟨rfl, K_Nd.bel HK.out⟩
  · go_enter Tryd.func39, Tryd.ntmps39
    go_wp2_with fail
    refine (TV.out _).mono ?_
    rintro e w1 ⟨rfl, hb⟩
    have hK : K_Nd A B n0 n1 n2 n3 d w.heap.size (w.heap.size + 1) w w1 := K_Nd.below hb ⟨by simp [go_sem], by simp [go_sem], by simp [go_sem], by (repeat (first | (with_reducible exact Below.refl _ _) | (with_reducible exact HB.out) | (with_reducible refine below_draws ?_ _) | (with_reducible refine Below.alloc ?_ (by go_size) _) | (with_reducible refine Below.setCell ?_ (by go_size) _) | (with_reducible refine Below.alloc ?_ (by simp <;> omega) _) | (with_reducible refine Below.setCell ?_ (by simp <;> omega) _)))⟩
    clear hb
    obtain ⟨c0_, c1_, c2_, c3_, c4_, c5_, c6_⟩ := K_Nd.cells hK; obtain ⟨z0_, z1_, -⟩ := K_Nd.zs hK; have HK := Lib.hid hK; clear hK
    go_wp2_with fail
    refine (NV.out _).mono ?_
    rintro e w2 ⟨rfl, hb⟩
    clear c0_ c1_ c2_ c3_ c4_ c5_ c6_ z0_ z1_
    have hK := K_Nd.below hb HK.out
    clear hb HK
    obtain ⟨c0_, c1_, c2_, c3_, c4_, c5_, c6_⟩ := K_Nd.cells hK; obtain ⟨z0_, z1_, -⟩ := K_Nd.zs hK; have HK := Lib.hid hK; clear hK
    go_wp2
    go_ret
    exact ⟨rfl, K_Nd.bel HK.out⟩
set_option maxHeartbeats 3200000 in
theorem Integral_err (A B n0 n1 n2 n3 d : Int) (w : World) (h : or2 (chkA A B) (chkQ n0 n1 n2 n3 d) ≠ 0) :
    Calls Tryd.prog 35 #[.agg #[.int .i64 A, .int .i64 B], .agg #[.int .i64 n0, .int .i64 n1, .int .i64 n2, .int .i64 n3, .int .i64 d]] w fun e w' => e = .returned (.tuple #[.bool false, .int .i64 (or2 (chkA A B) (chkQ n0 n1 n2 n3 d))]) ∧ Below w.heap.size w w' := by
  have ok : (or2 (chkA A B) (chkQ n0 n1 n2 n3 d) != 0) = true := by rw [bne_iff_ne]; exact h
  clear h
  go_enter Tryd.func35, Tryd.ntmps35
  go_wp2_with fail
  have hk : K_Nd A B n0 n1 n2 n3 d w.heap.size (w.heap.size + 1) w ((w.alloc (.cells #[.int .i64 A, .int .i64 B] 23)).alloc (.cells #[.int .i64 n0, .int .i64 n1, .int .i64 n2, .int .i64 n3, .int .i64 d] 25)) := ⟨by simp [go_sem], by simp [go_sem], by simp [go_sem], by (repeat (first | (with_reducible exact Below.refl _ _) | (with_reducible exact HB.out) | (with_reducible refine below_draws ?_ _) | (with_reducible refine Below.alloc ?_ (by go_size) _) | (with_reducible refine Below.setCell ?_ (by go_size) _) | (with_reducible refine Below.alloc ?_ (by simp <;> omega) _) | (with_reducible refine Below.setCell ?_ (by simp <;> omega) _)))⟩
  go_region_held3 (fun w' => (w'.cell? ⟨w.heap.size, 0, none⟩ = some (.int .i64 A) ∧ w'.cell? ⟨w.heap.size, 1, none⟩ = some (.int .i64 B) ∧ w'.cell? ⟨(w.heap.size + 1), 0, none⟩ = some (.int .i64 n0) ∧ w'.cell? ⟨(w.heap.size + 1), 1, none⟩ = some (.int .i64 n1) ∧ w'.cell? ⟨(w.heap.size + 1), 2, none⟩ = some (.int .i64 n2) ∧ w'.cell? ⟨(w.heap.size + 1), 3, none⟩ = some (.int .i64 n3) ∧ w'.cell? ⟨(w.heap.size + 1), 4, none⟩ = some (.int .i64 d)) ∧ K_Nd A B n0 n1 n2 n3 d w.heap.size (w.heap.size + 1) w w') ((refine K_Nd.ks ?_; repeat (first | (with_reducible assumption) | (with_reducible refine K_Nd.draws _ ?_) | (with_reducible refine K_Nd.drew ?_) | (with_reducible refine K_Nd.alloc _ ?_) | (with_reducible refine K_Nd.set ?_ _ _ _ (by omega)))))
    (first
      | (go_at_call 15; (with_reducible refine (Check_any _ _ _).mono ?_); rintro e w' ⟨rfl, hbel⟩; have hk' := K_Nd.below hbel (And.right (by assumption)); clear hbel)
      | (go_at_call 17; (with_reducible refine (CheckQuat_any _ _ _ _ _ _).mono ?_); rintro e w' ⟨rfl, hbel⟩; have hk' := K_Nd.below hbel (And.right (by assumption)); clear hbel)
      | (go_at_call 64; (with_reducible refine (Or_new _ _ _ _ _ ?_).mono ?_); rfl; rintro e w'' ⟨rfl, rfl⟩))
  all_goals
    (rename_i hh_; clear hh_)
    go_wp2
    exact bodyPost_ret (v := .tuple #[.bool false, .int .i64 (or2 (chkA A B) (chkQ n0 n1 n2 n3 d))]) (by simp [results, Tryd.results35, go_sem]) rfl ⟨rfl, K_Nd.bel (K_Nd.alloc _ hk')⟩
set_option maxHeartbeats 6400000 in
theorem Integral_v (A B n0 n1 n2 n3 d : Int) (w : World) (hA : chkA A B = 0) (hq : chkQ n0 n1 n2 n3 d = 0) :
    Calls Tryd.prog 35 #[.agg #[.int .i64 A, .int .i64 B], .agg #[.int .i64 n0, .int .i64 n1, .int .i64 n2, .int .i64 n3, .int .i64 d]] w fun e w' => e = .returned (.tuple #[.bool (itB A B n0 n1 n2 n3 d), .int .i64 0]) ∧ Below w.heap.size w w' := by
  have TV := Lib.hid (fun W => trace_v n0 n1 n2 n3 d W hq)
  have NV := Lib.hid (fun W => norm_v A B n0 n1 n2 n3 d W hA hq)
  unfold itB
  obtain ⟨k0, hk0⟩ : ∃ k, fn (2 * n0) d = k := ⟨_, rfl⟩
  obtain ⟨k1, hk1⟩ : ∃ k, fd (2 * n0) d = k := ⟨_, rfl⟩
  obtain ⟨k2, hk2⟩ : ∃ k, fn (nm A B n0 n1 n2 n3) (d * d) = k := ⟨_, rfl⟩
  obtain ⟨k3, hk3⟩ : ∃ k, fd (nm A B n0 n1 n2 n3) (d * d) = k := ⟨_, rfl⟩
  rw [hk0, hk1] at TV
  rw [hk2, hk3] at NV
  rw [hk1, hk3]
  have ok : (or2 (chkA A B) (chkQ n0 n1 n2 n3 d) != 0) = false := by rw [or2_ok hA hq]; rfl
  clear hA hq hk0 hk1 hk2 hk3
  obtain ⟨t1, ht1⟩ : ∃ b, (k1 == 1) = b := ⟨_, rfl⟩
  rw [ht1]
  have fi1 := Try.f1 (.int .i64 k0) (.int .i64 k1)
  have fi2 := Try.f1 (.int .i64 k2) (.int .i64 k3)
  cases t1
  · go_enter Tryd.func35, Tryd.ntmps35
    go_wp2_with fail
    have hk : K_Nd A B n0 n1 n2 n3 d w.heap.size (w.heap.size + 1) w ((w.alloc (.cells #[.int .i64 A, .int .i64 B] 23)).alloc (.cells #[.int .i64 n0, .int .i64 n1, .int .i64 n2, .int .i64 n3, .int .i64 d] 25)) := ⟨by simp [go_sem], by simp [go_sem], by simp [go_sem], by (repeat (first | (with_reducible exact Below.refl _ _) | (with_reducible exact HB.out) | (with_reducible refine below_draws ?_ _) | (with_reducible refine Below.alloc ?_ (by go_size) _) | (with_reducible refine Below.setCell ?_ (by go_size) _) | (with_reducible refine Below.alloc ?_ (by simp <;> omega) _) | (with_reducible refine Below.setCell ?_ (by simp <;> omega) _)))⟩
    go_region_held3 (fun w' => (w'.cell? ⟨w.heap.size, 0, none⟩ = some (.int .i64 A) ∧ w'.cell? ⟨w.heap.size, 1, none⟩ = some (.int .i64 B) ∧ w'.cell? ⟨(w.heap.size + 1), 0, none⟩ = some (.int .i64 n0) ∧ w'.cell? ⟨(w.heap.size + 1), 1, none⟩ = some (.int .i64 n1) ∧ w'.cell? ⟨(w.heap.size + 1), 2, none⟩ = some (.int .i64 n2) ∧ w'.cell? ⟨(w.heap.size + 1), 3, none⟩ = some (.int .i64 n3) ∧ w'.cell? ⟨(w.heap.size + 1), 4, none⟩ = some (.int .i64 d)) ∧ K_Nd A B n0 n1 n2 n3 d w.heap.size (w.heap.size + 1) w w') ((refine K_Nd.ks ?_; repeat (first | (with_reducible assumption) | (with_reducible refine K_Nd.draws _ ?_) | (with_reducible refine K_Nd.drew ?_) | (with_reducible refine K_Nd.alloc _ ?_) | (with_reducible refine K_Nd.set ?_ _ _ _ (by omega)))))
      (first
        | (go_at_call 15; (with_reducible refine (Check_any _ _ _).mono ?_); rintro e w' ⟨rfl, hbel⟩; have hk' := K_Nd.below hbel (And.right (by assumption)); clear hbel)
        | (go_at_call 17; (with_reducible refine (CheckQuat_any _ _ _ _ _ _).mono ?_); rintro e w' ⟨rfl, hbel⟩; have hk' := K_Nd.below hbel (And.right (by assumption)); clear hbel)
        | (go_at_call 64; (with_reducible refine (Or_new _ _ _ _ _ ?_).mono ?_); rfl; rintro e w'' ⟨rfl, rfl⟩))
    all_goals
      (rename_i hh_; clear hh_; obtain ⟨c0_, c1_, c2_, c3_, c4_, c5_, c6_⟩ := K_Nd.cells hk')
      obtain ⟨z0, z1, -⟩ := K_Nd.zs hk'
      go_wp2_with fail
      refine (TV.out _).mono ?_
      rintro e w2 ⟨rfl, hb⟩
      have hK := K_Nd.below hb (K_Nd.alloc _ hk')
      clear hb c0_ c1_ c2_ c3_ c4_ c5_ c6_ hk hk' z0 z1
      obtain ⟨c0_, c1_, c2_, c3_, c4_, c5_, c6_⟩ := K_Nd.cells hK; obtain ⟨z0_, z1_, -⟩ := K_Nd.zs hK; have HK := Lib.hid hK; clear hK
      go_wp2
      exact bodyPost_ret (v := .tuple #[.bool false, .int .i64 0]) (by simp [results, Tryd.results35, go_sem]) rfl ⟨rfl, K_Nd.bel HK.out⟩
  · go_enter Tryd.func35, Tryd.ntmps35
    go_wp2_with fail
    have hk : K_Nd A B n0 n1 n2 n3 d w.heap.size (w.heap.size + 1) w ((w.alloc (.cells #[.int .i64 A, .int .i64 B] 23)).alloc (.cells #[.int .i64 n0, .int .i64 n1, .int .i64 n2, .int .i64 n3, .int .i64 d] 25)) := ⟨by simp [go_sem], by simp [go_sem], by simp [go_sem], by (repeat (first | (with_reducible exact Below.refl _ _) | (with_reducible exact HB.out) | (with_reducible refine below_draws ?_ _) | (with_reducible refine Below.alloc ?_ (by go_size) _) | (with_reducible refine Below.setCell ?_ (by go_size) _) | (with_reducible refine Below.alloc ?_ (by simp <;> omega) _) | (with_reducible refine Below.setCell ?_ (by simp <;> omega) _)))⟩
    go_region_held3 (fun w' => (w'.cell? ⟨w.heap.size, 0, none⟩ = some (.int .i64 A) ∧ w'.cell? ⟨w.heap.size, 1, none⟩ = some (.int .i64 B) ∧ w'.cell? ⟨(w.heap.size + 1), 0, none⟩ = some (.int .i64 n0) ∧ w'.cell? ⟨(w.heap.size + 1), 1, none⟩ = some (.int .i64 n1) ∧ w'.cell? ⟨(w.heap.size + 1), 2, none⟩ = some (.int .i64 n2) ∧ w'.cell? ⟨(w.heap.size + 1), 3, none⟩ = some (.int .i64 n3) ∧ w'.cell? ⟨(w.heap.size + 1), 4, none⟩ = some (.int .i64 d)) ∧ K_Nd A B n0 n1 n2 n3 d w.heap.size (w.heap.size + 1) w w') ((refine K_Nd.ks ?_; repeat (first | (with_reducible assumption) | (with_reducible refine K_Nd.draws _ ?_) | (with_reducible refine K_Nd.drew ?_) | (with_reducible refine K_Nd.alloc _ ?_) | (with_reducible refine K_Nd.set ?_ _ _ _ (by omega)))))
      (first
        | (go_at_call 15; (with_reducible refine (Check_any _ _ _).mono ?_); rintro e w' ⟨rfl, hbel⟩; have hk' := K_Nd.below hbel (And.right (by assumption)); clear hbel)
        | (go_at_call 17; (with_reducible refine (CheckQuat_any _ _ _ _ _ _).mono ?_); rintro e w' ⟨rfl, hbel⟩; have hk' := K_Nd.below hbel (And.right (by assumption)); clear hbel)
        | (go_at_call 64; (with_reducible refine (Or_new _ _ _ _ _ ?_).mono ?_); rfl; rintro e w'' ⟨rfl, rfl⟩))
    all_goals
      (rename_i hh_; clear hh_; obtain ⟨c0_, c1_, c2_, c3_, c4_, c5_, c6_⟩ := K_Nd.cells hk')
      obtain ⟨z0, z1, -⟩ := K_Nd.zs hk'
      go_wp2_with fail
      refine (TV.out _).mono ?_
      rintro e w2 ⟨rfl, hb⟩
      have hK := K_Nd.below hb (K_Nd.alloc _ hk')
      clear hb c0_ c1_ c2_ c3_ c4_ c5_ c6_ hk hk' z0 z1
      obtain ⟨c0_, c1_, c2_, c3_, c4_, c5_, c6_⟩ := K_Nd.cells hK; obtain ⟨z0_, z1_, -⟩ := K_Nd.zs hK; have HK := Lib.hid hK; clear hK
      go_wp2_with fail
      refine (NV.out _).mono ?_
      rintro e w3 ⟨rfl, hb⟩
      clear c0_ c1_ c2_ c3_ c4_ c5_ c6_ z0_ z1_
      have hK := K_Nd.below hb HK.out
      clear hb HK
      obtain ⟨c0_, c1_, c2_, c3_, c4_, c5_, c6_⟩ := K_Nd.cells hK; obtain ⟨z0_, z1_, -⟩ := K_Nd.zs hK; have HK := Lib.hid hK; clear hK
      go_wp2
      exact bodyPost_ret (v := .tuple #[.bool (k3 == 1), .int .i64 0]) (by simp [results, Tryd.results35, go_sem]) rfl ⟨rfl, K_Nd.bel HK.out⟩
end Go.Proofs.YtjloanplhbbomaaDoor.Al
