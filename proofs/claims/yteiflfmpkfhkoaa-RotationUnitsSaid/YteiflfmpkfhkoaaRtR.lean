/-
  WALKS: elements as Hurwitz quaternions, and their errors, the reference's.
-/
import Derived.Test.YteiflfmpkfhkoaaRt3
import Derived.Test.YteiflfmpkfhkoaaHwp
namespace Go.Proofs.Yteiflfmpkfhkoaa.Rt
open Go.RowKit
open Alm Hwm Al
set_option linter.unusedVariables false
set_option linter.unusedSimpArgs false
set_option maxRecDepth 100000
set_option maxHeartbeats 4000000 in
theorem rLowest_any (n0 n1 n2 n3 d : Int) (w : World) (h0 : -9223372036854775807 ≤ n0 ∧ n0 ≤ 9223372036854775807) (h1 : -9223372036854775807 ≤ n1 ∧ n1 ≤ 9223372036854775807) (h2 : -9223372036854775807 ≤ n2 ∧ n2 ≤ 9223372036854775807) (h3 : -9223372036854775807 ≤ n3 ∧ n3 ≤ 9223372036854775807) (h4 : 0 < d ∧ d ≤ 9223372036854775807) :
    Calls Try.prog 74 #[.agg #[.int .i64 n0, .int .i64 n1, .int .i64 n2, .int .i64 n3, .int .i64 d]] w fun e w' => e = .returned (.agg #[.int .i64 ((Q.mk n0 n1 n2 n3 d).low).w, .int .i64 ((Q.mk n0 n1 n2 n3 d).low).x, .int .i64 ((Q.mk n0 n1 n2 n3 d).low).y, .int .i64 ((Q.mk n0 n1 n2 n3 d).low).z, .int .i64 ((Q.mk n0 n1 n2 n3 d).low).d]) ∧ Below w.heap.size w w' := by
  have hd : d ≠ 0 := by omega
  have hgs := gs_ne (w := n0) (x := n1) (y := n2) (z := n3) hd
  have hgb := gs_bd (w := n0) (x := n1) (y := n2) (z := n3) hd
  have b0 := tdiv_bd n0 (gs n0 n1 n2 n3 d)
  have b1 := tdiv_bd n1 (gs n0 n1 n2 n3 d)
  have b2 := tdiv_bd n2 (gs n0 n1 n2 n3 d)
  have b3 := tdiv_bd n3 (gs n0 n1 n2 n3 d)
  have b4 := tdiv_bd d (gs n0 n1 n2 n3 d)
  have hle := g5_le (w := n0) (x := n1) (y := n2) (z := n3) hd
  have g1 := gcd_bd h0 h1
  have g2 := gcd_bd h2 h3
  have g3 := gcd_bd g1 g2
  rw [Int.gcd_natCast_natCast] at g3
  have E5 := Lib.hid (gcds_g5 n0 n1 n2 n3 d)
  have EG := Lib.hid (gs_nonneg (a := n0) (b := n1) (c := n2) (e := n3) (d := d) (by omega))
  have HG := Lib.hid hgs
  have h4' : -9223372036854775807 ≤ d ∧ d ≤ 9223372036854775807 := ⟨by omega, h4.2⟩
  clear hd hgs h4
  go_enter Try.func74, Try.ntmps74
  go_wp2
  go_quiet ((go_at_call 50; exact Calls.quiet_of (Gcd_any _ _ _ (by omega) (by omega) (by omega) (by omega))))
  rw [E5.out, EG.out]
  have hgs := HG.out
  have e0 := IntWalk.i64_in (n0.tdiv (gs n0 n1 n2 n3 d)) (by omega)
  have e1 := IntWalk.i64_in (n1.tdiv (gs n0 n1 n2 n3 d)) (by omega)
  have e2 := IntWalk.i64_in (n2.tdiv (gs n0 n1 n2 n3 d)) (by omega)
  have e3 := IntWalk.i64_in (n3.tdiv (gs n0 n1 n2 n3 d)) (by omega)
  have e4 := IntWalk.i64_in (d.tdiv (gs n0 n1 n2 n3 d)) (by omega)
  go_wp2
  go_region
  clear e0 e1 e2 e3 e4 hgs EG HG
  go_wp2
  exact bodyPost_ret (v := .agg #[.int .i64 (n0.tdiv (gs n0 n1 n2 n3 d)), .int .i64 (n1.tdiv (gs n0 n1 n2 n3 d)), .int .i64 (n2.tdiv (gs n0 n1 n2 n3 d)), .int .i64 (n3.tdiv (gs n0 n1 n2 n3 d)), .int .i64 (d.tdiv (gs n0 n1 n2 n3 d))]) (by simp [results, Try.results74, go_sem]) rfl ⟨rfl, by (repeat (first | (with_reducible exact Below.refl _ _) | (with_reducible exact HB.out) | (with_reducible refine below_draws ?_ _) | (with_reducible refine Below.alloc ?_ (by go_size) _) | (with_reducible refine Below.setCell ?_ (by go_size) _) | (with_reducible refine Below.alloc ?_ (by simp <;> omega) _) | (with_reducible refine Below.setCell ?_ (by simp <;> omega) _)))⟩
set_option maxHeartbeats 4000000 in
theorem rQuatErr_any (n0 n1 n2 n3 d : Int) (w : World) :
    Calls Try.prog 73 #[.agg #[.int .i64 n0, .int .i64 n1, .int .i64 n2, .int .i64 n3, .int .i64 d]] w fun e w' => e = .returned (.int .i64 (chkQ n0 n1 n2 n3 d)) ∧ Below w.heap.size w w' := by
  unfold chkQ
  rcases hq : qB ⟨n0, n1, n2, n3, d⟩ with _ | _
  · have h := qB_no hq
    have hh : (withinB n0 (-1000000) 1000000 = false) ∨ (withinB n0 (-1000000) 1000000 = true ∧ withinB n1 (-1000000) 1000000 = false) ∨ (withinB n0 (-1000000) 1000000 = true ∧ withinB n1 (-1000000) 1000000 = true ∧ withinB n2 (-1000000) 1000000 = false) ∨ (withinB n0 (-1000000) 1000000 = true ∧ withinB n1 (-1000000) 1000000 = true ∧ withinB n2 (-1000000) 1000000 = true ∧ withinB n3 (-1000000) 1000000 = false) ∨ (withinB n0 (-1000000) 1000000 = true ∧ withinB n1 (-1000000) 1000000 = true ∧ withinB n2 (-1000000) 1000000 = true ∧ withinB n3 (-1000000) 1000000 = true ∧ withinB d 1 1000000 = false) := by
      unfold qin at h
      simp only [] at h
      unfold withinB
      simp only [decide_eq_false_iff_not, decide_eq_true_eq]
      omega
    rw [if_neg (by simp)]
    clear h hq
    rcases hh with a0 | ⟨a0, a1⟩ | ⟨a0, a1, a2⟩ | ⟨a0, a1, a2, a3⟩ | ⟨a0, a1, a2, a3, a4⟩
    · go_enter Try.func73, Try.ntmps73
      go_wp2_with fail
      refine wp_loop_rounds 1 ?_
      rw [rounds_succ]; go_wp2_with (first | (go_at_call 41; refine (Within_any _ _ _ _).mono ?_; rintro e w' ⟨rfl, rfl⟩))
      go_ret
      exact ⟨rfl, by (repeat (first | (with_reducible exact Below.refl _ _) | (with_reducible exact HB.out) | (with_reducible refine below_draws ?_ _) | (with_reducible refine Below.alloc ?_ (by go_size) _) | (with_reducible refine Below.setCell ?_ (by go_size) _) | (with_reducible refine Below.alloc ?_ (by simp <;> omega) _) | (with_reducible refine Below.setCell ?_ (by simp <;> omega) _)))⟩
    · go_enter Try.func73, Try.ntmps73
      go_wp2_with fail
      refine wp_loop_rounds 2 ?_
      rw [rounds_succ]; go_wp2_with (first | (go_at_call 41; refine (Within_any _ _ _ _).mono ?_; rintro e w' ⟨rfl, rfl⟩))
      rw [rounds_succ]; go_wp2_with (first | (go_at_call 41; refine (Within_any _ _ _ _).mono ?_; rintro e w' ⟨rfl, rfl⟩))
      go_ret
      exact ⟨rfl, by (repeat (first | (with_reducible exact Below.refl _ _) | (with_reducible exact HB.out) | (with_reducible refine below_draws ?_ _) | (with_reducible refine Below.alloc ?_ (by go_size) _) | (with_reducible refine Below.setCell ?_ (by go_size) _) | (with_reducible refine Below.alloc ?_ (by simp <;> omega) _) | (with_reducible refine Below.setCell ?_ (by simp <;> omega) _)))⟩
    · go_enter Try.func73, Try.ntmps73
      go_wp2_with fail
      refine wp_loop_rounds 3 ?_
      rw [rounds_succ]; go_wp2_with (first | (go_at_call 41; refine (Within_any _ _ _ _).mono ?_; rintro e w' ⟨rfl, rfl⟩))
      rw [rounds_succ]; go_wp2_with (first | (go_at_call 41; refine (Within_any _ _ _ _).mono ?_; rintro e w' ⟨rfl, rfl⟩))
      rw [rounds_succ]; go_wp2_with (first | (go_at_call 41; refine (Within_any _ _ _ _).mono ?_; rintro e w' ⟨rfl, rfl⟩))
      go_ret
      exact ⟨rfl, by (repeat (first | (with_reducible exact Below.refl _ _) | (with_reducible exact HB.out) | (with_reducible refine below_draws ?_ _) | (with_reducible refine Below.alloc ?_ (by go_size) _) | (with_reducible refine Below.setCell ?_ (by go_size) _) | (with_reducible refine Below.alloc ?_ (by simp <;> omega) _) | (with_reducible refine Below.setCell ?_ (by simp <;> omega) _)))⟩
    · go_enter Try.func73, Try.ntmps73
      go_wp2_with fail
      refine wp_loop_rounds 4 ?_
      rw [rounds_succ]; go_wp2_with (first | (go_at_call 41; refine (Within_any _ _ _ _).mono ?_; rintro e w' ⟨rfl, rfl⟩))
      rw [rounds_succ]; go_wp2_with (first | (go_at_call 41; refine (Within_any _ _ _ _).mono ?_; rintro e w' ⟨rfl, rfl⟩))
      rw [rounds_succ]; go_wp2_with (first | (go_at_call 41; refine (Within_any _ _ _ _).mono ?_; rintro e w' ⟨rfl, rfl⟩))
      rw [rounds_succ]; go_wp2_with (first | (go_at_call 41; refine (Within_any _ _ _ _).mono ?_; rintro e w' ⟨rfl, rfl⟩))
      go_ret
      exact ⟨rfl, by (repeat (first | (with_reducible exact Below.refl _ _) | (with_reducible exact HB.out) | (with_reducible refine below_draws ?_ _) | (with_reducible refine Below.alloc ?_ (by go_size) _) | (with_reducible refine Below.setCell ?_ (by go_size) _) | (with_reducible refine Below.alloc ?_ (by simp <;> omega) _) | (with_reducible refine Below.setCell ?_ (by simp <;> omega) _)))⟩
    · go_enter Try.func73, Try.ntmps73
      go_wp2_with fail
      refine wp_loop_rounds 5 ?_
      rw [rounds_succ]; go_wp2_with (first | (go_at_call 41; refine (Within_any _ _ _ _).mono ?_; rintro e w' ⟨rfl, rfl⟩))
      rw [rounds_succ]; go_wp2_with (first | (go_at_call 41; refine (Within_any _ _ _ _).mono ?_; rintro e w' ⟨rfl, rfl⟩))
      rw [rounds_succ]; go_wp2_with (first | (go_at_call 41; refine (Within_any _ _ _ _).mono ?_; rintro e w' ⟨rfl, rfl⟩))
      rw [rounds_succ]; go_wp2_with (first | (go_at_call 41; refine (Within_any _ _ _ _).mono ?_; rintro e w' ⟨rfl, rfl⟩))
      rw [rounds_succ]; go_wp2_with (first | (go_at_call 41; refine (Within_any _ _ _ _).mono ?_; rintro e w' ⟨rfl, rfl⟩))
      go_ret
      exact ⟨rfl, by (repeat (first | (with_reducible exact Below.refl _ _) | (with_reducible exact HB.out) | (with_reducible refine below_draws ?_ _) | (with_reducible refine Below.alloc ?_ (by go_size) _) | (with_reducible refine Below.setCell ?_ (by go_size) _) | (with_reducible refine Below.alloc ?_ (by simp <;> omega) _) | (with_reducible refine Below.setCell ?_ (by simp <;> omega) _)))⟩
  · obtain ⟨⟨d1, d2⟩, a0, a1, a2, a3⟩ := yes_ways hq
    have a4 : withinB d 1 1000000 = true := decide_eq_true ⟨d1, d2⟩
    rw [if_pos rfl]
    clear hq
    go_enter Try.func73, Try.ntmps73
    go_wp2_with fail
    refine wp_loop_rounds 5 ?_
    rw [rounds_succ]; go_wp2_with (first | (go_at_call 41; refine (Within_any _ _ _ _).mono ?_; rintro e w' ⟨rfl, rfl⟩))
    rw [rounds_succ]; go_wp2_with (first | (go_at_call 41; refine (Within_any _ _ _ _).mono ?_; rintro e w' ⟨rfl, rfl⟩))
    rw [rounds_succ]; go_wp2_with (first | (go_at_call 41; refine (Within_any _ _ _ _).mono ?_; rintro e w' ⟨rfl, rfl⟩))
    rw [rounds_succ]; go_wp2_with (first | (go_at_call 41; refine (Within_any _ _ _ _).mono ?_; rintro e w' ⟨rfl, rfl⟩))
    rw [rounds_succ]; go_wp2_with (first | (go_at_call 41; refine (Within_any _ _ _ _).mono ?_; rintro e w' ⟨rfl, rfl⟩))
    go_ret
    exact ⟨rfl, by (repeat (first | (with_reducible exact Below.refl _ _) | (with_reducible exact HB.out) | (with_reducible refine below_draws ?_ _) | (with_reducible refine Below.alloc ?_ (by go_size) _) | (with_reducible refine Below.setCell ?_ (by go_size) _) | (with_reducible refine Below.alloc ?_ (by simp <;> omega) _) | (with_reducible refine Below.setCell ?_ (by simp <;> omega) _)))⟩
/-- what a walk keeps: cells, and that nothing that was there has turned -/
def K_Q5r (R : Nat) (w w' : World) : Prop := KL w [] [(R, 0), (R, 1), (R, 2), (R, 3), (R, 4)] w'
theorem K_Q5r.below {R : Nat} {w w1 w2 : World} (hb : Below w1.heap.size w1 w2) (h : K_Q5r R w w1) : K_Q5r R w w2 := KL.below hb h
theorem K_Q5r.draws {R : Nat} {w w1 : World} (n : Nat) (h : K_Q5r R w w1) : K_Q5r R w (w1.drewN n) := KL.draws n h
theorem K_Q5r.drew {R : Nat} {w w1 : World} (h : K_Q5r R w w1) : K_Q5r R w w1.drew := KL.draws 1 h
theorem K_Q5r.alloc {R : Nat} {w w1 : World} (o : Obj) (h : K_Q5r R w w1) : K_Q5r R w (w1.alloc o) := KL.alloc o h
theorem K_Q5r.set {R : Nat} {w w1 : World} (h : K_Q5r R w w1) (b i : Nat) (v : Value) (hb : w.heap.size ≤ b) : K_Q5r R w (w1.setCell ⟨b, i, none⟩ v) :=
  KL.set h b i v (by intro x hx; simp at hx) (by omega)
theorem K_Q5r.bel {R : Nat} {w w1 : World} (h : K_Q5r R w w1) : Below w.heap.size w w1 := KL.bel h
theorem K_Q5r.cells {R : Nat} {w w' : World} (h : K_Q5r R w w') : w'.cell? ⟨R, 0, none⟩ = some (cv w' R 0) ∧ w'.frozen? ⟨R, 0, none⟩ = false ∧ w'.cell? ⟨R, 1, none⟩ = some (cv w' R 1) ∧ w'.frozen? ⟨R, 1, none⟩ = false ∧ w'.cell? ⟨R, 2, none⟩ = some (cv w' R 2) ∧ w'.frozen? ⟨R, 2, none⟩ = false ∧ w'.cell? ⟨R, 3, none⟩ = some (cv w' R 3) ∧ w'.frozen? ⟨R, 3, none⟩ = false ∧ w'.cell? ⟨R, 4, none⟩ = some (cv w' R 4) ∧ w'.frozen? ⟨R, 4, none⟩ = false := ⟨h.d (R, 0) (by simp), h.f (R, 0) (by simp), h.d (R, 1) (by simp), h.f (R, 1) (by simp), h.d (R, 2) (by simp), h.f (R, 2) (by simp), h.d (R, 3) (by simp), h.f (R, 3) (by simp), h.d (R, 4) (by simp), h.f (R, 4) (by simp)⟩
theorem K_Q5r.zs {R : Nat} {w w' : World} (h : K_Q5r R w w') : R < w'.heap.size ∧ True := ⟨KL.zf h (x := (R, 0)) (by simp), trivial⟩
theorem K_Q5r.ks {R : Nat} {w w' : World} (h : K_Q5r R w w') : (w'.cell? ⟨R, 0, none⟩ = some (cv w' R 0) ∧ w'.frozen? ⟨R, 0, none⟩ = false ∧ w'.cell? ⟨R, 1, none⟩ = some (cv w' R 1) ∧ w'.frozen? ⟨R, 1, none⟩ = false ∧ w'.cell? ⟨R, 2, none⟩ = some (cv w' R 2) ∧ w'.frozen? ⟨R, 2, none⟩ = false ∧ w'.cell? ⟨R, 3, none⟩ = some (cv w' R 3) ∧ w'.frozen? ⟨R, 3, none⟩ = false ∧ w'.cell? ⟨R, 4, none⟩ = some (cv w' R 4) ∧ w'.frozen? ⟨R, 4, none⟩ = false) ∧ K_Q5r R w w' := ⟨h.cells, h⟩
theorem rQuat_h (h : H) (w : World) (hp : par h) (hb : HB 1000000000000000000 h) :
    Calls Try.prog 25 #[.agg #[.int .i64 (h).w, .int .i64 (h).x, .int .i64 (h).y, .int .i64 (h).z]] w fun e w' => e = .returned (.agg #[.int .i64 (toQ h).w, .int .i64 (toQ h).x, .int .i64 (toQ h).y, .int .i64 (toQ h).z, .int .i64 (toQ h).d]) ∧ Below w.heap.size w w' := by
  have LW := Lib.hid (fun W => rLowest_any h.w h.x h.y h.z 2 W (by have := hb.1; omega) (by have := hb.2.1; omega) (by have := hb.2.2.1; omega) (by have := hb.2.2.2; omega) ⟨by decide, by decide⟩)
  rw [low_toQ hp] at LW
  generalize toQ h = q at *
  clear hp hb
  obtain ⟨a0, a1, a2, a3⟩ := h
  obtain ⟨q0, q1, q2, q3, q4⟩ := q
  simp only [] at LW ⊢
  go_enter Try.func25, Try.ntmps25
  go_wp2_with fail
  refine (LW.out _).mono ?_
  rintro e w1 ⟨rfl, hb⟩
  have hK : K_Q5r (w.heap.size + 1) w w1 := K_Q5r.below hb ⟨by simp, by simp [go_sem], by simp [go_sem], by (repeat (first | (with_reducible exact Below.refl _ _) | (with_reducible exact HB.out) | (with_reducible refine below_draws ?_ _) | (with_reducible refine Below.alloc ?_ (by go_size) _) | (with_reducible refine Below.setCell ?_ (by go_size) _) | (with_reducible refine Below.alloc ?_ (by simp <;> omega) _) | (with_reducible refine Below.setCell ?_ (by simp <;> omega) _)))⟩
  clear hb
  obtain ⟨d0_, f0_, d1_, f1_, d2_, f2_, d3_, f3_, d4_, f4_⟩ := K_Q5r.cells hK; obtain ⟨z0_, -⟩ := K_Q5r.zs hK; have HK := Lib.hid hK; clear hK
  have HB := Lib.hid (K_Q5r.bel HK.out)
  go_wp2
  exact bodyPost_ret (v := .agg #[.int .i64 q0, .int .i64 q1, .int .i64 q2, .int .i64 q3, .int .i64 q4]) (by simp [results, Try.results25, go_sem, d0_, f0_, d1_, f1_, d2_, f2_, d3_, f3_, d4_, f4_]) rfl ⟨rfl, by (repeat (first | (with_reducible exact Below.refl _ _) | (with_reducible exact HB.out) | (with_reducible refine below_draws ?_ _) | (with_reducible refine Below.alloc ?_ (by go_size) _) | (with_reducible refine Below.setCell ?_ (by go_size) _) | (with_reducible refine Below.alloc ?_ (by simp <;> omega) _) | (with_reducible refine Below.setCell ?_ (by simp <;> omega) _)))⟩
end Go.Proofs.Yteiflfmpkfhkoaa.Rt
