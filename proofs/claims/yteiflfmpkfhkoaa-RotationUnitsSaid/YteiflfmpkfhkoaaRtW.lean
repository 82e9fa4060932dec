/-
  WALKS: norms, products, canonical associates, the program's calls.
-/
import Derived.Test.YteiflfmpkfhkoaaRtC
import Derived.Test.YteiflfmpkfhkoaaHwg
namespace Go.Proofs.Yteiflfmpkfhkoaa.Rt
open Go.RowKit
open Alm Hwm Al
set_option linter.unusedVariables false
set_option linter.unusedSimpArgs false
set_option maxRecDepth 100000
theorem N_zero : N H.zero = 0 := rfl
theorem HBup {m n : Nat} {a : H} (h : HB m a) (hm : m ≤ n) : HB n a := by
  obtain ⟨h0, h1, h2, h3⟩ := h
  exact ⟨by omega, by omega, by omega, by omega⟩
theorem norm_h (x : H) (w : World) (h : HB 100000000 x) :
    Calls Try.prog 68 #[.agg #[.int .i64 (x).w, .int .i64 (x).x, .int .i64 (x).y, .int .i64 (x).z]] w fun e w' => e = .returned (.int .i64 (N x)) ∧ Below w.heap.size w w' :=
  norm_f x.w x.x x.y x.z w h.1 h.2.1 h.2.2.1 h.2.2.2
theorem can_hb {x : H} (hx : par x) (h : N x ≤ 1000000) : HB 2000 (can x) := by
  have hp := par_can hx
  have h1 := N_can hx
  have h2 := nn_par hp
  exact nn_bd (n := 2000) (by omega) (by omega)
theorem by_hb {x y : H} (hx : par x) (hy : par y) (h : N x * N y ≤ 1000000) : HB 2000 (by_ x y) := by
  have hp := (by_sc hx hy).1
  have h1 := N_by hx hy
  have h2 := nn_par hp
  exact nn_bd (n := 2000) (by omega) (by omega)
set_option maxHeartbeats 1600000 in
theorem Norm_any (n0 n1 n2 n3 d : Int) (w : World) :
    Calls Try.prog 16 #[.agg #[.int .i64 n0, .int .i64 n1, .int .i64 n2, .int .i64 n3, .int .i64 d]] w fun e w' => e = .returned (.tuple #[.int .i64 (N (acH ⟨n0, n1, n2, n3, d⟩)), .int .i64 (acE ⟨n0, n1, n2, n3, d⟩)]) ∧ Below w.heap.size w w' := by
  have C1 := Lib.hid (fun W => accept_any n0 n1 n2 n3 d W)
  by_cases h : acE ⟨n0, n1, n2, n3, d⟩ = 0
  · have NM := Lib.hid (fun W => norm_h (acH ⟨n0, n1, n2, n3, d⟩) W (HBup (acc_ok h).2.2.2.2.2 (by decide)))
    rw [h] at C1 ⊢
    generalize acH ⟨n0, n1, n2, n3, d⟩ = x at *
    generalize N x = nx at *
    clear h
    obtain ⟨x0, x1, x2, x3⟩ := x
    simp only [] at C1 NM
    go_enter Try.func16, Try.ntmps16
    go_wp2_with fail
    refine (C1.out _).mono ?_
    rintro e w1 ⟨rfl, hb⟩
    have HB := Lib.hid (below_up (B := w.heap.size) (w := w) hb (by (repeat (first | (with_reducible exact Below.refl _ _) | (with_reducible exact HB.out) | (with_reducible refine below_draws ?_ _) | (with_reducible refine Below.alloc ?_ (by go_size) _) | (with_reducible refine Below.setCell ?_ (by go_size) _) | (with_reducible refine Below.alloc ?_ (by simp <;> omega) _) | (with_reducible refine Below.setCell ?_ (by simp <;> omega) _)))) (by simp))
    have zz := HB.out.size
    clear hb
    go_wp2_with fail
    refine (NM.out _).mono ?_
    rintro e w2 ⟨rfl, hb⟩
    have HB2 := Lib.hid (below_up (B := w.heap.size) (w := w) hb (by (repeat (first | (with_reducible exact Below.refl _ _) | (with_reducible exact HB.out) | (with_reducible refine below_draws ?_ _) | (with_reducible refine Below.alloc ?_ (by go_size) _) | (with_reducible refine Below.setCell ?_ (by go_size) _) | (with_reducible refine Below.alloc ?_ (by simp <;> omega) _) | (with_reducible refine Below.setCell ?_ (by simp <;> omega) _)))) (by simp; omega))
    clear hb HB
    have HB := HB2
    clear HB2
    go_wp2
    go_ret2
    exact ⟨rfl, by (repeat (first | (with_reducible exact Below.refl _ _) | (with_reducible exact HB.out) | (with_reducible refine below_draws ?_ _) | (with_reducible refine Below.alloc ?_ (by go_size) _) | (with_reducible refine Below.setCell ?_ (by go_size) _) | (with_reducible refine Below.alloc ?_ (by simp <;> omega) _) | (with_reducible refine Below.setCell ?_ (by simp <;> omega) _)))⟩
  · rw [acH_err h] at C1 ⊢
    have t : (acE ⟨n0, n1, n2, n3, d⟩ != 0) = true := by rw [bne_iff_ne]; exact h
    rw [N_zero]
    generalize acE ⟨n0, n1, n2, n3, d⟩ = e1 at *
    clear h
    simp only [H.zero] at C1
    go_enter Try.func16, Try.ntmps16
    go_wp2_with fail
    refine (C1.out _).mono ?_
    rintro e w1 ⟨rfl, hb⟩
    have HB := Lib.hid (below_up (B := w.heap.size) (w := w) hb (by (repeat (first | (with_reducible exact Below.refl _ _) | (with_reducible exact HB.out) | (with_reducible refine below_draws ?_ _) | (with_reducible refine Below.alloc ?_ (by go_size) _) | (with_reducible refine Below.setCell ?_ (by go_size) _) | (with_reducible refine Below.alloc ?_ (by simp <;> omega) _) | (with_reducible refine Below.setCell ?_ (by simp <;> omega) _)))) (by simp))
    have zz := HB.out.size
    clear hb
    go_wp2
    go_ret2
    exact ⟨rfl, by (repeat (first | (with_reducible exact Below.refl _ _) | (with_reducible exact HB.out) | (with_reducible refine below_draws ?_ _) | (with_reducible refine Below.alloc ?_ (by go_size) _) | (with_reducible refine Below.setCell ?_ (by go_size) _) | (with_reducible refine Below.alloc ?_ (by simp <;> omega) _) | (with_reducible refine Below.setCell ?_ (by simp <;> omega) _)))⟩
set_option maxHeartbeats 1600000 in
theorem Canonical_err (n0 n1 n2 n3 d : Int) (w : World) (h : acE ⟨n0, n1, n2, n3, d⟩ ≠ 0) :
    Calls Try.prog 17 #[.agg #[.int .i64 n0, .int .i64 n1, .int .i64 n2, .int .i64 n3, .int .i64 d]] w fun e w' => e = .returned (.tuple #[.agg #[.int .i64 0, .int .i64 0, .int .i64 0, .int .i64 0, .int .i64 0], .int .i64 (acE ⟨n0, n1, n2, n3, d⟩)]) ∧ Below w.heap.size w w' := by
  have C1 := Lib.hid (fun W => accept_any n0 n1 n2 n3 d W)
  rw [acH_err h] at C1
  have t : (acE ⟨n0, n1, n2, n3, d⟩ != 0) = true := by rw [bne_iff_ne]; exact h
  generalize acE ⟨n0, n1, n2, n3, d⟩ = e1 at *
  clear h
  simp only [H.zero] at C1
  go_enter Try.func17, Try.ntmps17
  go_wp2_with fail
  refine (C1.out _).mono ?_
  rintro e w1 ⟨rfl, hb⟩
  have hK : K_Q5 (w.heap.size + 1) w w1 := K_Q5.below hb ⟨by simp, by simp [go_sem], by simp [go_sem], by (repeat (first | (with_reducible exact Below.refl _ _) | (with_reducible exact HB.out) | (with_reducible refine below_draws ?_ _) | (with_reducible refine Below.alloc ?_ (by go_size) _) | (with_reducible refine Below.setCell ?_ (by go_size) _) | (with_reducible refine Below.alloc ?_ (by simp <;> omega) _) | (with_reducible refine Below.setCell ?_ (by simp <;> omega) _)))⟩
  clear hb
  obtain ⟨d0_, f0_, d1_, f1_, d2_, f2_, d3_, f3_, d4_, f4_⟩ := K_Q5.cells hK; obtain ⟨z0_, -⟩ := K_Q5.zs hK; have HK := Lib.hid hK; clear hK
  have HB := Lib.hid (K_Q5.bel HK.out)
  go_wp2
  exact bodyPost_ret (v := .tuple #[.agg #[.int .i64 0, .int .i64 0, .int .i64 0, .int .i64 0, .int .i64 0], .int .i64 e1]) (by simp [results, Try.results17, go_sem, d0_, f0_, d1_, f1_, d2_, f2_, d3_, f3_, d4_, f4_, z0_]) rfl ⟨rfl, by (repeat (first | (with_reducible exact Below.refl _ _) | (with_reducible exact HB.out) | (with_reducible refine below_draws ?_ _) | (with_reducible refine Below.alloc ?_ (by go_size) _) | (with_reducible refine Below.setCell ?_ (by go_size) _) | (with_reducible refine Below.alloc ?_ (by simp <;> omega) _) | (with_reducible refine Below.setCell ?_ (by simp <;> omega) _)))⟩
set_option maxHeartbeats 1600000 in
theorem Canonical_ok (n0 n1 n2 n3 d : Int) (w : World) (h : acE ⟨n0, n1, n2, n3, d⟩ = 0) :
    Calls Try.prog 17 #[.agg #[.int .i64 n0, .int .i64 n1, .int .i64 n2, .int .i64 n3, .int .i64 d]] w fun e w' => e = .returned (.tuple #[.agg #[.int .i64 (toQ (can (acH ⟨n0, n1, n2, n3, d⟩))).w, .int .i64 (toQ (can (acH ⟨n0, n1, n2, n3, d⟩))).x, .int .i64 (toQ (can (acH ⟨n0, n1, n2, n3, d⟩))).y, .int .i64 (toQ (can (acH ⟨n0, n1, n2, n3, d⟩))).z, .int .i64 (toQ (can (acH ⟨n0, n1, n2, n3, d⟩))).d], .int .i64 0]) ∧ Below w.heap.size w w' := by
  have C1 := Lib.hid (fun W => accept_any n0 n1 n2 n3 d W)
  obtain ⟨-, -, -, hp, hn, bd⟩ := acc_ok h
  have CA := Lib.hid (fun W => canonical_h (acH ⟨n0, n1, n2, n3, d⟩) W (HBup bd (by decide)))
  have RS := Lib.hid (fun W => result_h (can (acH ⟨n0, n1, n2, n3, d⟩)) W (HBup (can_hb hp hn) (by decide)))
  rw [h] at C1
  generalize toQ (can (acH ⟨n0, n1, n2, n3, d⟩)) = q at *
  generalize can (acH ⟨n0, n1, n2, n3, d⟩) = y at *
  generalize acH ⟨n0, n1, n2, n3, d⟩ = x at *
  clear h hp hn bd
  obtain ⟨x0, x1, x2, x3⟩ := x
  obtain ⟨y0, y1, y2, y3⟩ := y
  obtain ⟨q0, q1, q2, q3, q4⟩ := q
  simp only [] at C1 CA RS ⊢
  go_enter Try.func17, Try.ntmps17
  go_wp2_with fail
  refine (C1.out _).mono ?_
  rintro e w1 ⟨rfl, hb⟩
  have hK : K_Q5 (w.heap.size + 1) w w1 := K_Q5.below hb ⟨by simp, by simp [go_sem], by simp [go_sem], by (repeat (first | (with_reducible exact Below.refl _ _) | (with_reducible exact HB.out) | (with_reducible refine below_draws ?_ _) | (with_reducible refine Below.alloc ?_ (by go_size) _) | (with_reducible refine Below.setCell ?_ (by go_size) _) | (with_reducible refine Below.alloc ?_ (by simp <;> omega) _) | (with_reducible refine Below.setCell ?_ (by simp <;> omega) _)))⟩
  clear hb
  obtain ⟨d0_, f0_, d1_, f1_, d2_, f2_, d3_, f3_, d4_, f4_⟩ := K_Q5.cells hK; obtain ⟨z0_, -⟩ := K_Q5.zs hK; have HK := Lib.hid hK; clear hK
  go_wp2_with fail
  refine (CA.out _).mono ?_
  rintro e w2 ⟨rfl, hb⟩
  clear d0_ f0_ d1_ f1_ d2_ f2_ d3_ f3_ d4_ f4_ z0_
  have hK := K_Q5.below hb (K_Q5.alloc _ HK.out)
  clear hb HK
  obtain ⟨d0_, f0_, d1_, f1_, d2_, f2_, d3_, f3_, d4_, f4_⟩ := K_Q5.cells hK; obtain ⟨z0_, -⟩ := K_Q5.zs hK; have HK := Lib.hid hK; clear hK
  go_wp2_with fail
  refine (RS.out _).mono ?_
  rintro e w3 ⟨rfl, hb⟩
  clear d0_ f0_ d1_ f1_ d2_ f2_ d3_ f3_ d4_ f4_ z0_
  have hK := K_Q5.below hb HK.out
  clear hb HK
  obtain ⟨d0_, f0_, d1_, f1_, d2_, f2_, d3_, f3_, d4_, f4_⟩ := K_Q5.cells hK; obtain ⟨z0_, -⟩ := K_Q5.zs hK; have HK := Lib.hid hK; clear hK
  have HB := Lib.hid (K_Q5.bel HK.out)
  go_wp2
  exact bodyPost_ret (v := .tuple #[.agg #[.int .i64 q0, .int .i64 q1, .int .i64 q2, .int .i64 q3, .int .i64 q4], .int .i64 0]) (by simp [results, Try.results17, go_sem, d0_, f0_, d1_, f1_, d2_, f2_, d3_, f3_, d4_, f4_, z0_]) rfl ⟨rfl, by (repeat (first | (with_reducible exact Below.refl _ _) | (with_reducible exact HB.out) | (with_reducible refine below_draws ?_ _) | (with_reducible refine Below.alloc ?_ (by go_size) _) | (with_reducible refine Below.setCell ?_ (by go_size) _) | (with_reducible refine Below.alloc ?_ (by simp <;> omega) _) | (with_reducible refine Below.setCell ?_ (by simp <;> omega) _)))⟩
/-- what a walk keeps: cells, and that nothing that was there has turned -/
def K_Tm (x0 x1 x2 x3 y0 y1 y2 y3 : Int) (t s R : Nat) (w w' : World) : Prop := KL w [(t, 0, .int .i64 y0), (t, 1, .int .i64 y1), (t, 2, .int .i64 y2), (t, 3, .int .i64 y3), (s, 0, .int .i64 x0), (s, 1, .int .i64 x1), (s, 2, .int .i64 x2), (s, 3, .int .i64 x3)] [(R, 0), (R, 1), (R, 2), (R, 3), (R, 4)] w'
theorem K_Tm.below {x0 x1 x2 x3 y0 y1 y2 y3 : Int} {t s R : Nat} {w w1 w2 : World} (hb : Below w1.heap.size w1 w2) (h : K_Tm x0 x1 x2 x3 y0 y1 y2 y3 t s R w w1) : K_Tm x0 x1 x2 x3 y0 y1 y2 y3 t s R w w2 := KL.below hb h
theorem K_Tm.draws {x0 x1 x2 x3 y0 y1 y2 y3 : Int} {t s R : Nat} {w w1 : World} (n : Nat) (h : K_Tm x0 x1 x2 x3 y0 y1 y2 y3 t s R w w1) : K_Tm x0 x1 x2 x3 y0 y1 y2 y3 t s R w (w1.drewN n) := KL.draws n h
theorem K_Tm.drew {x0 x1 x2 x3 y0 y1 y2 y3 : Int} {t s R : Nat} {w w1 : World} (h : K_Tm x0 x1 x2 x3 y0 y1 y2 y3 t s R w w1) : K_Tm x0 x1 x2 x3 y0 y1 y2 y3 t s R w w1.drew := KL.draws 1 h
theorem K_Tm.alloc {x0 x1 x2 x3 y0 y1 y2 y3 : Int} {t s R : Nat} {w w1 : World} (o : Obj) (h : K_Tm x0 x1 x2 x3 y0 y1 y2 y3 t s R w w1) : K_Tm x0 x1 x2 x3 y0 y1 y2 y3 t s R w (w1.alloc o) := KL.alloc o h
theorem K_Tm.set {x0 x1 x2 x3 y0 y1 y2 y3 : Int} {t s R : Nat} {w w1 : World} (h : K_Tm x0 x1 x2 x3 y0 y1 y2 y3 t s R w w1) (b i : Nat) (v : Value) (hb : b ≠ t ∧ b ≠ s ∧ w.heap.size ≤ b) : K_Tm x0 x1 x2 x3 y0 y1 y2 y3 t s R w (w1.setCell ⟨b, i, none⟩ v) :=
  KL.set h b i v (by intro x hx; simp only [List.mem_cons, List.not_mem_nil, or_false] at hx; rcases hx with rfl | rfl | rfl | rfl | rfl | rfl | rfl | rfl <;> simp only [] <;> omega) (by omega)
theorem K_Tm.bel {x0 x1 x2 x3 y0 y1 y2 y3 : Int} {t s R : Nat} {w w1 : World} (h : K_Tm x0 x1 x2 x3 y0 y1 y2 y3 t s R w w1) : Below w.heap.size w w1 := KL.bel h
theorem K_Tm.cells {x0 x1 x2 x3 y0 y1 y2 y3 : Int} {t s R : Nat} {w w' : World} (h : K_Tm x0 x1 x2 x3 y0 y1 y2 y3 t s R w w') : w'.cell? ⟨t, 0, none⟩ = some (.int .i64 y0) ∧ w'.cell? ⟨t, 1, none⟩ = some (.int .i64 y1) ∧ w'.cell? ⟨t, 2, none⟩ = some (.int .i64 y2) ∧ w'.cell? ⟨t, 3, none⟩ = some (.int .i64 y3) ∧ w'.cell? ⟨s, 0, none⟩ = some (.int .i64 x0) ∧ w'.cell? ⟨s, 1, none⟩ = some (.int .i64 x1) ∧ w'.cell? ⟨s, 2, none⟩ = some (.int .i64 x2) ∧ w'.cell? ⟨s, 3, none⟩ = some (.int .i64 x3) ∧ w'.cell? ⟨R, 0, none⟩ = some (cv w' R 0) ∧ w'.frozen? ⟨R, 0, none⟩ = false ∧ w'.cell? ⟨R, 1, none⟩ = some (cv w' R 1) ∧ w'.frozen? ⟨R, 1, none⟩ = false ∧ w'.cell? ⟨R, 2, none⟩ = some (cv w' R 2) ∧ w'.frozen? ⟨R, 2, none⟩ = false ∧ w'.cell? ⟨R, 3, none⟩ = some (cv w' R 3) ∧ w'.frozen? ⟨R, 3, none⟩ = false ∧ w'.cell? ⟨R, 4, none⟩ = some (cv w' R 4) ∧ w'.frozen? ⟨R, 4, none⟩ = false := ⟨h.c (t, 0, .int .i64 y0) (by simp), h.c (t, 1, .int .i64 y1) (by simp), h.c (t, 2, .int .i64 y2) (by simp), h.c (t, 3, .int .i64 y3) (by simp), h.c (s, 0, .int .i64 x0) (by simp), h.c (s, 1, .int .i64 x1) (by simp), h.c (s, 2, .int .i64 x2) (by simp), h.c (s, 3, .int .i64 x3) (by simp), h.d (R, 0) (by simp), h.f (R, 0) (by simp), h.d (R, 1) (by simp), h.f (R, 1) (by simp), h.d (R, 2) (by simp), h.f (R, 2) (by simp), h.d (R, 3) (by simp), h.f (R, 3) (by simp), h.d (R, 4) (by simp), h.f (R, 4) (by simp)⟩
theorem K_Tm.zs {x0 x1 x2 x3 y0 y1 y2 y3 : Int} {t s R : Nat} {w w' : World} (h : K_Tm x0 x1 x2 x3 y0 y1 y2 y3 t s R w w') : t < w'.heap.size ∧ s < w'.heap.size ∧ R < w'.heap.size ∧ True := ⟨KL.z h (x := (t, 0, .int .i64 y0)) (by simp), KL.z h (x := (s, 0, .int .i64 x0)) (by simp), KL.zf h (x := (R, 0)) (by simp), trivial⟩
theorem K_Tm.ks {x0 x1 x2 x3 y0 y1 y2 y3 : Int} {t s R : Nat} {w w' : World} (h : K_Tm x0 x1 x2 x3 y0 y1 y2 y3 t s R w w') : (w'.cell? ⟨t, 0, none⟩ = some (.int .i64 y0) ∧ w'.cell? ⟨t, 1, none⟩ = some (.int .i64 y1) ∧ w'.cell? ⟨t, 2, none⟩ = some (.int .i64 y2) ∧ w'.cell? ⟨t, 3, none⟩ = some (.int .i64 y3) ∧ w'.cell? ⟨s, 0, none⟩ = some (.int .i64 x0) ∧ w'.cell? ⟨s, 1, none⟩ = some (.int .i64 x1) ∧ w'.cell? ⟨s, 2, none⟩ = some (.int .i64 x2) ∧ w'.cell? ⟨s, 3, none⟩ = some (.int .i64 x3) ∧ w'.cell? ⟨R, 0, none⟩ = some (cv w' R 0) ∧ w'.frozen? ⟨R, 0, none⟩ = false ∧ w'.cell? ⟨R, 1, none⟩ = some (cv w' R 1) ∧ w'.frozen? ⟨R, 1, none⟩ = false ∧ w'.cell? ⟨R, 2, none⟩ = some (cv w' R 2) ∧ w'.frozen? ⟨R, 2, none⟩ = false ∧ w'.cell? ⟨R, 3, none⟩ = some (cv w' R 3) ∧ w'.frozen? ⟨R, 3, none⟩ = false ∧ w'.cell? ⟨R, 4, none⟩ = some (cv w' R 4) ∧ w'.frozen? ⟨R, 4, none⟩ = false) ∧ K_Tm x0 x1 x2 x3 y0 y1 y2 y3 t s R w w' := ⟨h.cells, h⟩
theorem acc2_ok {p q : Q} (h : acE2 p q = 0) : acE p = 0 ∧ acE q = 0 ∧ acX p q = acH p ∧ acY p q = acH q := by
  unfold acE2 at h
  split at h
  · rename_i h1; exact ⟨h1, h, rfl, if_pos h1⟩
  · rename_i h1; exact absurd h h1
theorem acc2_bd {p q : Q} (h : acE2 p q = 0) : par (acX p q) ∧ N (acX p q) ≤ 1000000 ∧ HB 2000 (acX p q) ∧ par (acY p q) ∧ N (acY p q) ≤ 1000000 ∧ HB 2000 (acY p q) := by
  obtain ⟨h1, h2, e1, e2⟩ := acc2_ok h
  obtain ⟨-, -, -, p1, n1, b1⟩ := acc_ok h1
  obtain ⟨-, -, -, p2, n2, b2⟩ := acc_ok h2
  rw [e1, e2]
  exact ⟨p1, n1, b1, p2, n2, b2⟩
set_option maxHeartbeats 1600000 in
theorem Times_err (n0 n1 n2 n3 d m0 m1 m2 m3 f : Int) (w : World) (h : acE2 ⟨n0, n1, n2, n3, d⟩ ⟨m0, m1, m2, m3, f⟩ ≠ 0) :
    Calls Try.prog 32 #[.agg #[.int .i64 n0, .int .i64 n1, .int .i64 n2, .int .i64 n3, .int .i64 d], .agg #[.int .i64 m0, .int .i64 m1, .int .i64 m2, .int .i64 m3, .int .i64 f]] w fun e w' => e = .returned (.tuple #[.agg #[.int .i64 0, .int .i64 0, .int .i64 0, .int .i64 0, .int .i64 0], .int .i64 (acE2 ⟨n0, n1, n2, n3, d⟩ ⟨m0, m1, m2, m3, f⟩)]) ∧ Below w.heap.size w w' := by
  have C1 := Lib.hid (fun W => acceptBoth_any n0 n1 n2 n3 d m0 m1 m2 m3 f W)
  have t : (acE2 ⟨n0, n1, n2, n3, d⟩ ⟨m0, m1, m2, m3, f⟩ != 0) = true := by rw [bne_iff_ne]; exact h
  generalize acE2 ⟨n0, n1, n2, n3, d⟩ ⟨m0, m1, m2, m3, f⟩ = e1 at *
  generalize acX ⟨n0, n1, n2, n3, d⟩ ⟨m0, m1, m2, m3, f⟩ = x at *
  generalize acY ⟨n0, n1, n2, n3, d⟩ ⟨m0, m1, m2, m3, f⟩ = y at *
  clear h
  obtain ⟨x0, x1, x2, x3⟩ := x
  obtain ⟨y0, y1, y2, y3⟩ := y
  simp only [] at C1
  go_enter Try.func32, Try.ntmps32
  go_wp2_with fail
  refine (C1.out _).mono ?_
  rintro e w1 ⟨rfl, hb⟩
  have hK : K_Q5 (w.heap.size + 1 + 1) w w1 := K_Q5.below hb ⟨by simp, by simp [go_sem], by simp [go_sem], by (repeat (first | (with_reducible exact Below.refl _ _) | (with_reducible exact HB.out) | (with_reducible refine below_draws ?_ _) | (with_reducible refine Below.alloc ?_ (by go_size) _) | (with_reducible refine Below.setCell ?_ (by go_size) _) | (with_reducible refine Below.alloc ?_ (by simp <;> omega) _) | (with_reducible refine Below.setCell ?_ (by simp <;> omega) _)))⟩
  clear hb
  obtain ⟨d0_, f0_, d1_, f1_, d2_, f2_, d3_, f3_, d4_, f4_⟩ := K_Q5.cells hK; obtain ⟨z0_, -⟩ := K_Q5.zs hK; have HK := Lib.hid hK; clear hK
  have HB := Lib.hid (K_Q5.bel HK.out)
  have u1 : ¬ w.heap.size + 1 = w1.heap.size := by omega
  have u2 : ¬ w.heap.size + 1 + 1 = w1.heap.size := by omega
  have u3 : ¬ w.heap.size + 2 = w1.heap.size := by omega
  have u4 : ¬ w.heap.size + 2 = w1.heap.size + 1 := by omega
  have u5 : w.heap.size + 1 + 1 < w1.heap.size + 1 := by omega
  go_wp2
  exact bodyPost_ret (v := .tuple #[.agg #[.int .i64 0, .int .i64 0, .int .i64 0, .int .i64 0, .int .i64 0], .int .i64 e1]) (by simp [results, Try.results32, go_sem, d0_, f0_, d1_, f1_, d2_, f2_, d3_, f3_, d4_, f4_, z0_, u1, u2, u3, u4, u5]) rfl ⟨rfl, by (repeat (first | (with_reducible exact Below.refl _ _) | (with_reducible exact HB.out) | (with_reducible refine below_draws ?_ _) | (with_reducible refine Below.alloc ?_ (by go_size) _) | (with_reducible refine Below.setCell ?_ (by go_size) _) | (with_reducible refine Below.alloc ?_ (by simp <;> omega) _) | (with_reducible refine Below.setCell ?_ (by simp <;> omega) _)))⟩
set_option maxHeartbeats 3200000 in
theorem Times_large (n0 n1 n2 n3 d m0 m1 m2 m3 f : Int) (w : World) (h : acE2 ⟨n0, n1, n2, n3, d⟩ ⟨m0, m1, m2, m3, f⟩ = 0) (hn : 1000000 < N (acX ⟨n0, n1, n2, n3, d⟩ ⟨m0, m1, m2, m3, f⟩) * N (acY ⟨n0, n1, n2, n3, d⟩ ⟨m0, m1, m2, m3, f⟩)) :
    Calls Try.prog 32 #[.agg #[.int .i64 n0, .int .i64 n1, .int .i64 n2, .int .i64 n3, .int .i64 d], .agg #[.int .i64 m0, .int .i64 m1, .int .i64 m2, .int .i64 m3, .int .i64 f]] w fun e w' => e = .returned (.tuple #[.agg #[.int .i64 0, .int .i64 0, .int .i64 0, .int .i64 0, .int .i64 0], .int .i64 8]) ∧ Below w.heap.size w w' := by
  have C1 := Lib.hid (fun W => acceptBoth_any n0 n1 n2 n3 d m0 m1 m2 m3 f W)
  obtain ⟨px, nx, bx, py, ny, by'⟩ := acc2_bd h
  rw [h] at C1
  generalize acX ⟨n0, n1, n2, n3, d⟩ ⟨m0, m1, m2, m3, f⟩ = x at *
  generalize acY ⟨n0, n1, n2, n3, d⟩ ⟨m0, m1, m2, m3, f⟩ = y at *
  have NX := Lib.hid (fun W => norm_h x W (HBup bx (by decide)))
  have NY := Lib.hid (fun W => norm_h y W (HBup by' (by decide)))
  have nx0 := N_nonneg x
  have ny0 := N_nonneg y
  have pm0 : 0 ≤ N x * N y := Int.mul_nonneg nx0 ny0
  have pm1 : N x * N y ≤ 1000000 * 1000000 := Int.mul_le_mul nx ny ny0 (by omega)
  have t1 : decide (N x * N y > 1000000) = true := decide_eq_true hn
  have t2 : decide (1000000 < N x * N y) = true := t1
  clear h px py bx by' nx ny nx0 ny0
  generalize N x = na at *
  generalize N y = nb at *
  obtain ⟨x0, x1, x2, x3⟩ := x
  obtain ⟨y0, y1, y2, y3⟩ := y
  clear hn
  have ew := IntWalk.i64_in (na * nb) (by omega)
  simp only [] at C1 NX NY
  go_enter Try.func32, Try.ntmps32
  go_wp2_with fail
  refine (C1.out _).mono ?_
  rintro e w1 ⟨rfl, hb⟩
  have hK0 : K_Q5 (w.heap.size + 1 + 1) w w1 := K_Q5.below hb ⟨by simp, by simp [go_sem], by simp [go_sem], by (repeat (first | (with_reducible exact Below.refl _ _) | (with_reducible exact HB.out) | (with_reducible refine below_draws ?_ _) | (with_reducible refine Below.alloc ?_ (by go_size) _) | (with_reducible refine Below.setCell ?_ (by go_size) _) | (with_reducible refine Below.alloc ?_ (by simp <;> omega) _) | (with_reducible refine Below.setCell ?_ (by simp <;> omega) _)))⟩
  have zz0 := hb.size
  have hk : K_Tm x0 x1 x2 x3 y0 y1 y2 y3 (w1.heap.size + 1) w1.heap.size (w.heap.size + 1 + 1) w _ := KL.push4 (KL.push4 hK0 x0 x1 x2 x3 97 _ rfl) y0 y1 y2 y3 97 _ (by simp)
  clear hb hK0
  go_wp2_with fail
  generalize (w1.alloc (.cells #[.int .i64 x0, .int .i64 x1, .int .i64 x2, .int .i64 x3] 97)).alloc (.cells #[.int .i64 y0, .int .i64 y1, .int .i64 y2, .int .i64 y3] 97) = W2 at hk ⊢
  go_region_held3 (fun w' => (w'.cell? ⟨(w1.heap.size + 1), 0, none⟩ = some (.int .i64 y0) ∧ w'.cell? ⟨(w1.heap.size + 1), 1, none⟩ = some (.int .i64 y1) ∧ w'.cell? ⟨(w1.heap.size + 1), 2, none⟩ = some (.int .i64 y2) ∧ w'.cell? ⟨(w1.heap.size + 1), 3, none⟩ = some (.int .i64 y3) ∧ w'.cell? ⟨w1.heap.size, 0, none⟩ = some (.int .i64 x0) ∧ w'.cell? ⟨w1.heap.size, 1, none⟩ = some (.int .i64 x1) ∧ w'.cell? ⟨w1.heap.size, 2, none⟩ = some (.int .i64 x2) ∧ w'.cell? ⟨w1.heap.size, 3, none⟩ = some (.int .i64 x3) ∧ w'.cell? ⟨(w.heap.size + 1 + 1), 0, none⟩ = some (cv w' ((w.heap.size + 1 + 1)) 0) ∧ w'.frozen? ⟨(w.heap.size + 1 + 1), 0, none⟩ = false ∧ w'.cell? ⟨(w.heap.size + 1 + 1), 1, none⟩ = some (cv w' ((w.heap.size + 1 + 1)) 1) ∧ w'.frozen? ⟨(w.heap.size + 1 + 1), 1, none⟩ = false ∧ w'.cell? ⟨(w.heap.size + 1 + 1), 2, none⟩ = some (cv w' ((w.heap.size + 1 + 1)) 2) ∧ w'.frozen? ⟨(w.heap.size + 1 + 1), 2, none⟩ = false ∧ w'.cell? ⟨(w.heap.size + 1 + 1), 3, none⟩ = some (cv w' ((w.heap.size + 1 + 1)) 3) ∧ w'.frozen? ⟨(w.heap.size + 1 + 1), 3, none⟩ = false ∧ w'.cell? ⟨(w.heap.size + 1 + 1), 4, none⟩ = some (cv w' ((w.heap.size + 1 + 1)) 4) ∧ w'.frozen? ⟨(w.heap.size + 1 + 1), 4, none⟩ = false) ∧ K_Tm x0 x1 x2 x3 y0 y1 y2 y3 (w1.heap.size + 1) w1.heap.size (w.heap.size + 1 + 1) w w') ((refine K_Tm.ks ?_; repeat (first | (with_reducible assumption) | (with_reducible refine K_Tm.draws _ ?_) | (with_reducible refine K_Tm.drew ?_) | (with_reducible refine K_Tm.alloc _ ?_) | (with_reducible refine K_Tm.set ?_ _ _ _ (by omega)))))
    (first
      | (go_at_call 68; (with_reducible refine (NX.out _).mono ?_); rintro e w' ⟨rfl, hbel⟩; have hk' := K_Tm.below hbel (And.right (by assumption)); clear hbel)
      | (go_at_call 68; (with_reducible refine (NY.out _).mono ?_); rintro e w'' ⟨rfl, hbel⟩; have hk'' := K_Tm.below hbel (And.right (by assumption)); clear hbel))
  all_goals
    have hK := hk''
    clear hk hk' hk''
    obtain ⟨c0_, c1_, c2_, c3_, c4_, c5_, c6_, c7_, d0_, f0_, d1_, f1_, d2_, f2_, d3_, f3_, d4_, f4_⟩ := K_Tm.cells hK; obtain ⟨z0_, z1_, z2_, -⟩ := K_Tm.zs hK; have HK := Lib.hid hK; clear hK
    have HB := Lib.hid (K_Tm.bel HK.out)
    go_wp2
    exact bodyPost_ret (v := .tuple #[.agg #[.int .i64 0, .int .i64 0, .int .i64 0, .int .i64 0, .int .i64 0], .int .i64 8]) (by simp [results, Try.results32, go_sem, c0_, c1_, c2_, c3_, c4_, c5_, c6_, c7_, d0_, f0_, d1_, f1_, d2_, f2_, d3_, f3_, d4_, f4_, z0_, z1_, z2_]) rfl ⟨rfl, by (repeat (first | (with_reducible exact Below.refl _ _) | (with_reducible exact HB.out) | (with_reducible refine below_draws ?_ _) | (with_reducible refine Below.alloc ?_ (by go_size) _) | (with_reducible refine Below.setCell ?_ (by go_size) _) | (with_reducible refine Below.alloc ?_ (by simp <;> omega) _) | (with_reducible refine Below.setCell ?_ (by simp <;> omega) _)))⟩
set_option maxHeartbeats 3200000 in
theorem Times_ok (n0 n1 n2 n3 d m0 m1 m2 m3 f : Int) (w : World) (h : acE2 ⟨n0, n1, n2, n3, d⟩ ⟨m0, m1, m2, m3, f⟩ = 0) (hn : N (acX ⟨n0, n1, n2, n3, d⟩ ⟨m0, m1, m2, m3, f⟩) * N (acY ⟨n0, n1, n2, n3, d⟩ ⟨m0, m1, m2, m3, f⟩) ≤ 1000000) :
    Calls Try.prog 32 #[.agg #[.int .i64 n0, .int .i64 n1, .int .i64 n2, .int .i64 n3, .int .i64 d], .agg #[.int .i64 m0, .int .i64 m1, .int .i64 m2, .int .i64 m3, .int .i64 f]] w fun e w' => e = .returned (.tuple #[.agg #[.int .i64 (toQ (by_ (acX ⟨n0, n1, n2, n3, d⟩ ⟨m0, m1, m2, m3, f⟩) (acY ⟨n0, n1, n2, n3, d⟩ ⟨m0, m1, m2, m3, f⟩))).w, .int .i64 (toQ (by_ (acX ⟨n0, n1, n2, n3, d⟩ ⟨m0, m1, m2, m3, f⟩) (acY ⟨n0, n1, n2, n3, d⟩ ⟨m0, m1, m2, m3, f⟩))).x, .int .i64 (toQ (by_ (acX ⟨n0, n1, n2, n3, d⟩ ⟨m0, m1, m2, m3, f⟩) (acY ⟨n0, n1, n2, n3, d⟩ ⟨m0, m1, m2, m3, f⟩))).y, .int .i64 (toQ (by_ (acX ⟨n0, n1, n2, n3, d⟩ ⟨m0, m1, m2, m3, f⟩) (acY ⟨n0, n1, n2, n3, d⟩ ⟨m0, m1, m2, m3, f⟩))).z, .int .i64 (toQ (by_ (acX ⟨n0, n1, n2, n3, d⟩ ⟨m0, m1, m2, m3, f⟩) (acY ⟨n0, n1, n2, n3, d⟩ ⟨m0, m1, m2, m3, f⟩))).d], .int .i64 0]) ∧ Below w.heap.size w w' := by
  have C1 := Lib.hid (fun W => acceptBoth_any n0 n1 n2 n3 d m0 m1 m2 m3 f W)
  obtain ⟨px, nx, bx, py, ny, by'⟩ := acc2_bd h
  rw [h] at C1
  generalize acX ⟨n0, n1, n2, n3, d⟩ ⟨m0, m1, m2, m3, f⟩ = x at *
  generalize acY ⟨n0, n1, n2, n3, d⟩ ⟨m0, m1, m2, m3, f⟩ = y at *
  have NX := Lib.hid (fun W => norm_h x W (HBup bx (by decide)))
  have NY := Lib.hid (fun W => norm_h y W (HBup by' (by decide)))
  have BY := Lib.hid (fun W => by_h x y W (HBup bx (by decide)) (HBup by' (by decide)))
  have RS := Lib.hid (fun W => result_h (by_ x y) W (HBup (by_hb px py hn) (by decide)))
  have nx0 := N_nonneg x
  have ny0 := N_nonneg y
  have pm0 : 0 ≤ N x * N y := Int.mul_nonneg nx0 ny0
  have pm1 : N x * N y ≤ 1000000 * 1000000 := Int.mul_le_mul nx ny ny0 (by omega)
  have t1 : decide (N x * N y > 1000000) = false := decide_eq_false (by omega)
  have t2 : decide (1000000 < N x * N y) = false := t1
  clear h px py bx by' nx ny nx0 ny0
  generalize toQ (by_ x y) = q at *
  generalize by_ x y = z at *
  generalize N x = na at *
  generalize N y = nb at *
  obtain ⟨x0, x1, x2, x3⟩ := x
  obtain ⟨y0, y1, y2, y3⟩ := y
  obtain ⟨z0, z1, z2, z3⟩ := z
  obtain ⟨q0, q1, q2, q3, q4⟩ := q
  clear hn
  have ew := IntWalk.i64_in (na * nb) (by omega)
  simp only [] at C1 NX NY BY RS ⊢
  go_enter Try.func32, Try.ntmps32
  go_wp2_with fail
  refine (C1.out _).mono ?_
  rintro e w1 ⟨rfl, hb⟩
  have hK0 : K_Q5 (w.heap.size + 1 + 1) w w1 := K_Q5.below hb ⟨by simp, by simp [go_sem], by simp [go_sem], by (repeat (first | (with_reducible exact Below.refl _ _) | (with_reducible exact HB.out) | (with_reducible refine below_draws ?_ _) | (with_reducible refine Below.alloc ?_ (by go_size) _) | (with_reducible refine Below.setCell ?_ (by go_size) _) | (with_reducible refine Below.alloc ?_ (by simp <;> omega) _) | (with_reducible refine Below.setCell ?_ (by simp <;> omega) _)))⟩
  have zz0 := hb.size
  have hk : K_Tm x0 x1 x2 x3 y0 y1 y2 y3 (w1.heap.size + 1) w1.heap.size (w.heap.size + 1 + 1) w _ := KL.push4 (KL.push4 hK0 x0 x1 x2 x3 97 _ rfl) y0 y1 y2 y3 97 _ (by simp)
  clear hb hK0
  go_wp2_with fail
  generalize (w1.alloc (.cells #[.int .i64 x0, .int .i64 x1, .int .i64 x2, .int .i64 x3] 97)).alloc (.cells #[.int .i64 y0, .int .i64 y1, .int .i64 y2, .int .i64 y3] 97) = W2 at hk ⊢
  go_region_held3 (fun w' => (w'.cell? ⟨(w1.heap.size + 1), 0, none⟩ = some (.int .i64 y0) ∧ w'.cell? ⟨(w1.heap.size + 1), 1, none⟩ = some (.int .i64 y1) ∧ w'.cell? ⟨(w1.heap.size + 1), 2, none⟩ = some (.int .i64 y2) ∧ w'.cell? ⟨(w1.heap.size + 1), 3, none⟩ = some (.int .i64 y3) ∧ w'.cell? ⟨w1.heap.size, 0, none⟩ = some (.int .i64 x0) ∧ w'.cell? ⟨w1.heap.size, 1, none⟩ = some (.int .i64 x1) ∧ w'.cell? ⟨w1.heap.size, 2, none⟩ = some (.int .i64 x2) ∧ w'.cell? ⟨w1.heap.size, 3, none⟩ = some (.int .i64 x3) ∧ w'.cell? ⟨(w.heap.size + 1 + 1), 0, none⟩ = some (cv w' ((w.heap.size + 1 + 1)) 0) ∧ w'.frozen? ⟨(w.heap.size + 1 + 1), 0, none⟩ = false ∧ w'.cell? ⟨(w.heap.size + 1 + 1), 1, none⟩ = some (cv w' ((w.heap.size + 1 + 1)) 1) ∧ w'.frozen? ⟨(w.heap.size + 1 + 1), 1, none⟩ = false ∧ w'.cell? ⟨(w.heap.size + 1 + 1), 2, none⟩ = some (cv w' ((w.heap.size + 1 + 1)) 2) ∧ w'.frozen? ⟨(w.heap.size + 1 + 1), 2, none⟩ = false ∧ w'.cell? ⟨(w.heap.size + 1 + 1), 3, none⟩ = some (cv w' ((w.heap.size + 1 + 1)) 3) ∧ w'.frozen? ⟨(w.heap.size + 1 + 1), 3, none⟩ = false ∧ w'.cell? ⟨(w.heap.size + 1 + 1), 4, none⟩ = some (cv w' ((w.heap.size + 1 + 1)) 4) ∧ w'.frozen? ⟨(w.heap.size + 1 + 1), 4, none⟩ = false) ∧ K_Tm x0 x1 x2 x3 y0 y1 y2 y3 (w1.heap.size + 1) w1.heap.size (w.heap.size + 1 + 1) w w') ((refine K_Tm.ks ?_; repeat (first | (with_reducible assumption) | (with_reducible refine K_Tm.draws _ ?_) | (with_reducible refine K_Tm.drew ?_) | (with_reducible refine K_Tm.alloc _ ?_) | (with_reducible refine K_Tm.set ?_ _ _ _ (by omega)))))
    (first
      | (go_at_call 68; (with_reducible refine (NX.out _).mono ?_); rintro e w' ⟨rfl, hbel⟩; have hk' := K_Tm.below hbel (And.right (by assumption)); clear hbel)
      | (go_at_call 68; (with_reducible refine (NY.out _).mono ?_); rintro e w'' ⟨rfl, hbel⟩; have hk'' := K_Tm.below hbel (And.right (by assumption)); clear hbel))
  all_goals
    have hK := hk''
    clear hk hk' hk''
    obtain ⟨c0_, c1_, c2_, c3_, c4_, c5_, c6_, c7_, d0_, f0_, d1_, f1_, d2_, f2_, d3_, f3_, d4_, f4_⟩ := K_Tm.cells hK; obtain ⟨z0_, z1_, z2_, -⟩ := K_Tm.zs hK; have HK := Lib.hid hK; clear hK
    go_wp2_with fail
    refine (BY.out _).mono ?_
    rintro e w5 ⟨rfl, hb⟩
    clear c0_ c1_ c2_ c3_ c4_ c5_ c6_ c7_ d0_ f0_ d1_ f1_ d2_ f2_ d3_ f3_ d4_ f4_ z0_ z1_ z2_
    have hK := K_Tm.below hb HK.out
    clear hb HK
    obtain ⟨c0_, c1_, c2_, c3_, c4_, c5_, c6_, c7_, d0_, f0_, d1_, f1_, d2_, f2_, d3_, f3_, d4_, f4_⟩ := K_Tm.cells hK; obtain ⟨z0_, z1_, z2_, -⟩ := K_Tm.zs hK; have HK := Lib.hid hK; clear hK
    go_wp2_with fail
    refine (RS.out _).mono ?_
    rintro e w6 ⟨rfl, hb⟩
    clear c0_ c1_ c2_ c3_ c4_ c5_ c6_ c7_ d0_ f0_ d1_ f1_ d2_ f2_ d3_ f3_ d4_ f4_ z0_ z1_ z2_
    have hK := K_Tm.below hb HK.out
    clear hb HK
    obtain ⟨c0_, c1_, c2_, c3_, c4_, c5_, c6_, c7_, d0_, f0_, d1_, f1_, d2_, f2_, d3_, f3_, d4_, f4_⟩ := K_Tm.cells hK; obtain ⟨z0_, z1_, z2_, -⟩ := K_Tm.zs hK; have HK := Lib.hid hK; clear hK
    have HB := Lib.hid (K_Tm.bel HK.out)
    go_wp2
    exact bodyPost_ret (v := .tuple #[.agg #[.int .i64 q0, .int .i64 q1, .int .i64 q2, .int .i64 q3, .int .i64 q4], .int .i64 0]) (by simp [results, Try.results32, go_sem, c0_, c1_, c2_, c3_, c4_, c5_, c6_, c7_, d0_, f0_, d1_, f1_, d2_, f2_, d3_, f3_, d4_, f4_, z0_, z1_, z2_]) rfl ⟨rfl, by (repeat (first | (with_reducible exact Below.refl _ _) | (with_reducible exact HB.out) | (with_reducible refine below_draws ?_ _) | (with_reducible refine Below.alloc ?_ (by go_size) _) | (with_reducible refine Below.setCell ?_ (by go_size) _) | (with_reducible refine Below.alloc ?_ (by simp <;> omega) _) | (with_reducible refine Below.setCell ?_ (by simp <;> omega) _)))⟩
end Go.Proofs.Yteiflfmpkfhkoaa.Rt
