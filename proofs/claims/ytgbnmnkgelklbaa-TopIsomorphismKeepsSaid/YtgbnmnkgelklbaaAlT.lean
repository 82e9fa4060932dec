/-
  WALKS: the reference's sums and multiples; multiples.
-/
import Derived.Test.YtgbnmnkgelklbaaAlS
namespace Go.Proofs.Ytgbnmnkgelklbaa.Al
open Go.RowKit
open Alm
set_option linter.unusedVariables false
set_option linter.unusedSimpArgs false
set_option maxRecDepth 100000
structure ScBd (n0 n1 n2 n3 d a b : Int) : Prop where
  p0 : Bn 1000000000000000 (n0 * a)
  p1 : Bn 1000000000000000 (n1 * a)
  p2 : Bn 1000000000000000 (n2 * a)
  p3 : Bn 1000000000000000 (n3 * a)
  db : Bn 1000000000000000 (d * b)
  ne : d * b ≠ 0
theorem sc_bd {n0 n1 n2 n3 d a b : Int} (h : chkQ n0 n1 n2 n3 d = 0) (h' : frB a b = true) : ScBd n0 n1 n2 n3 d a b := by
  obtain ⟨a0, a1, a2, a3, a4, a5⟩ := qin_of h
  obtain ⟨c0, c1, c2⟩ := frB_bd h'
  have hd : Bn 1000000 d := ⟨by omega, by omega⟩
  exact ⟨Bn.mul _ a0 c1 rfl, Bn.mul _ a1 c1 rfl, Bn.mul _ a2 c1 rfl, Bn.mul _ a3 c1 rfl, Bn.mul _ hd c2 rfl, Int.mul_ne_zero (by omega) c0⟩
/-- what a walk keeps: cells, and that nothing that was there has turned -/
def K_E (n0 n1 n2 n3 d a c : Int) (b1 b2 R : Nat) (w w' : World) : Prop := KL w [(b1, 0, .int .i64 n0), (b1, 1, .int .i64 n1), (b1, 2, .int .i64 n2), (b1, 3, .int .i64 n3), (b1, 4, .int .i64 d), (b2, 0, .int .i64 a), (b2, 1, .int .i64 c)] [(R, 0), (R, 1), (R, 2), (R, 3), (R, 4)] w'
theorem K_E.below {n0 n1 n2 n3 d a c : Int} {b1 b2 R : Nat} {w w1 w2 : World} (hb : Below w1.heap.size w1 w2) (h : K_E n0 n1 n2 n3 d a c b1 b2 R w w1) : K_E n0 n1 n2 n3 d a c b1 b2 R w w2 := KL.below hb h
theorem K_E.draws {n0 n1 n2 n3 d a c : Int} {b1 b2 R : Nat} {w w1 : World} (n : Nat) (h : K_E n0 n1 n2 n3 d a c b1 b2 R w w1) : K_E n0 n1 n2 n3 d a c b1 b2 R w (w1.drewN n) := KL.draws n h
theorem K_E.drew {n0 n1 n2 n3 d a c : Int} {b1 b2 R : Nat} {w w1 : World} (h : K_E n0 n1 n2 n3 d a c b1 b2 R w w1) : K_E n0 n1 n2 n3 d a c b1 b2 R w w1.drew := KL.draws 1 h
theorem K_E.alloc {n0 n1 n2 n3 d a c : Int} {b1 b2 R : Nat} {w w1 : World} (o : Obj) (h : K_E n0 n1 n2 n3 d a c b1 b2 R w w1) : K_E n0 n1 n2 n3 d a c b1 b2 R w (w1.alloc o) := KL.alloc o h
theorem K_E.set {n0 n1 n2 n3 d a c : Int} {b1 b2 R : Nat} {w w1 : World} (h : K_E n0 n1 n2 n3 d a c b1 b2 R w w1) (b i : Nat) (v : Value) (hb : b ≠ b1 ∧ b ≠ b2 ∧ w.heap.size ≤ b) : K_E n0 n1 n2 n3 d a c b1 b2 R w (w1.setCell ⟨b, i, none⟩ v) :=
  KL.set h b i v (by intro x hx; simp only [List.mem_cons, List.not_mem_nil, or_false] at hx; rcases hx with rfl | rfl | rfl | rfl | rfl | rfl | rfl <;> simp only [] <;> omega) (by omega)
theorem K_E.bel {n0 n1 n2 n3 d a c : Int} {b1 b2 R : Nat} {w w1 : World} (h : K_E n0 n1 n2 n3 d a c b1 b2 R w w1) : Below w.heap.size w w1 := KL.bel h
theorem K_E.cells {n0 n1 n2 n3 d a c : Int} {b1 b2 R : Nat} {w w' : World} (h : K_E n0 n1 n2 n3 d a c b1 b2 R w w') : w'.cell? ⟨b1, 0, none⟩ = some (.int .i64 n0) ∧ w'.cell? ⟨b1, 1, none⟩ = some (.int .i64 n1) ∧ w'.cell? ⟨b1, 2, none⟩ = some (.int .i64 n2) ∧ w'.cell? ⟨b1, 3, none⟩ = some (.int .i64 n3) ∧ w'.cell? ⟨b1, 4, none⟩ = some (.int .i64 d) ∧ w'.cell? ⟨b2, 0, none⟩ = some (.int .i64 a) ∧ w'.cell? ⟨b2, 1, none⟩ = some (.int .i64 c) ∧ w'.cell? ⟨R, 0, none⟩ = some (cv w' R 0) ∧ w'.frozen? ⟨R, 0, none⟩ = false ∧ w'.cell? ⟨R, 1, none⟩ = some (cv w' R 1) ∧ w'.frozen? ⟨R, 1, none⟩ = false ∧ w'.cell? ⟨R, 2, none⟩ = some (cv w' R 2) ∧ w'.frozen? ⟨R, 2, none⟩ = false ∧ w'.cell? ⟨R, 3, none⟩ = some (cv w' R 3) ∧ w'.frozen? ⟨R, 3, none⟩ = false ∧ w'.cell? ⟨R, 4, none⟩ = some (cv w' R 4) ∧ w'.frozen? ⟨R, 4, none⟩ = false := ⟨h.c (b1, 0, .int .i64 n0) (by simp), h.c (b1, 1, .int .i64 n1) (by simp), h.c (b1, 2, .int .i64 n2) (by simp), h.c (b1, 3, .int .i64 n3) (by simp), h.c (b1, 4, .int .i64 d) (by simp), h.c (b2, 0, .int .i64 a) (by simp), h.c (b2, 1, .int .i64 c) (by simp), h.d (R, 0) (by simp), h.f (R, 0) (by simp), h.d (R, 1) (by simp), h.f (R, 1) (by simp), h.d (R, 2) (by simp), h.f (R, 2) (by simp), h.d (R, 3) (by simp), h.f (R, 3) (by simp), h.d (R, 4) (by simp), h.f (R, 4) (by simp)⟩
theorem K_E.zs {n0 n1 n2 n3 d a c : Int} {b1 b2 R : Nat} {w w' : World} (h : K_E n0 n1 n2 n3 d a c b1 b2 R w w') : b1 < w'.heap.size ∧ b2 < w'.heap.size ∧ R < w'.heap.size ∧ True := ⟨KL.z h (x := (b1, 0, .int .i64 n0)) (by simp), KL.z h (x := (b2, 0, .int .i64 a)) (by simp), KL.zf h (x := (R, 0)) (by simp), trivial⟩
theorem K_E.ks {n0 n1 n2 n3 d a c : Int} {b1 b2 R : Nat} {w w' : World} (h : K_E n0 n1 n2 n3 d a c b1 b2 R w w') : (w'.cell? ⟨b1, 0, none⟩ = some (.int .i64 n0) ∧ w'.cell? ⟨b1, 1, none⟩ = some (.int .i64 n1) ∧ w'.cell? ⟨b1, 2, none⟩ = some (.int .i64 n2) ∧ w'.cell? ⟨b1, 3, none⟩ = some (.int .i64 n3) ∧ w'.cell? ⟨b1, 4, none⟩ = some (.int .i64 d) ∧ w'.cell? ⟨b2, 0, none⟩ = some (.int .i64 a) ∧ w'.cell? ⟨b2, 1, none⟩ = some (.int .i64 c) ∧ w'.cell? ⟨R, 0, none⟩ = some (cv w' R 0) ∧ w'.frozen? ⟨R, 0, none⟩ = false ∧ w'.cell? ⟨R, 1, none⟩ = some (cv w' R 1) ∧ w'.frozen? ⟨R, 1, none⟩ = false ∧ w'.cell? ⟨R, 2, none⟩ = some (cv w' R 2) ∧ w'.frozen? ⟨R, 2, none⟩ = false ∧ w'.cell? ⟨R, 3, none⟩ = some (cv w' R 3) ∧ w'.frozen? ⟨R, 3, none⟩ = false ∧ w'.cell? ⟨R, 4, none⟩ = some (cv w' R 4) ∧ w'.frozen? ⟨R, 4, none⟩ = false) ∧ K_E n0 n1 n2 n3 d a c b1 b2 R w w' := ⟨h.cells, h⟩
set_option maxHeartbeats 3200000 in
theorem Scale_ok (n0 n1 n2 n3 d a b : Int) (w : World) (h : chkQ n0 n1 n2 n3 d = 0) (h' : frB a b = true) :
    Calls Try.prog 47 #[.agg #[.int .i64 n0, .int .i64 n1, .int .i64 n2, .int .i64 n3, .int .i64 d], .agg #[.int .i64 a, .int .i64 b]] w fun e w' => e = .returned (.tuple #[.agg #[.int .i64 (fitQ (scaleq ⟨n0, n1, n2, n3, d⟩ a b)).w, .int .i64 (fitQ (scaleq ⟨n0, n1, n2, n3, d⟩ a b)).x, .int .i64 (fitQ (scaleq ⟨n0, n1, n2, n3, d⟩ a b)).y, .int .i64 (fitQ (scaleq ⟨n0, n1, n2, n3, d⟩ a b)).z, .int .i64 (fitQ (scaleq ⟨n0, n1, n2, n3, d⟩ a b)).d], .int .i64 (fitE (scaleq ⟨n0, n1, n2, n3, d⟩ a b))]) ∧ Below w.heap.size w w' := by
  have B := sc_bd h h'
  have OV := Lib.hid (fun W => over_any (n0 * a) (n1 * a) (n2 * a) (n3 * a) (d * b) W (by have := B.p0; omega) (by have := B.p1; omega) (by have := B.p2; omega) (by have := B.p3; omega) (by have := B.db; omega) B.ne)
  have S1 := Lib.hid (fun W => scaled_any n0 n1 n2 n3 a W (by have := B.p0; omega) (by have := B.p0; omega) (by have := B.p1; omega) (by have := B.p1; omega) (by have := B.p2; omega) (by have := B.p2; omega) (by have := B.p3; omega) (by have := B.p3; omega))
  rw [show scaleq ⟨n0, n1, n2, n3, d⟩ a b = ⟨n0 * a, n1 * a, n2 * a, n3 * a, d * b⟩ from rfl]
  obtain ⟨s, hs⟩ : ∃ s, fitQ ⟨n0 * a, n1 * a, n2 * a, n3 * a, d * b⟩ = s := ⟨_, rfl⟩
  obtain ⟨t, ht⟩ : ∃ t, fitE ⟨n0 * a, n1 * a, n2 * a, n3 * a, d * b⟩ = t := ⟨_, rfl⟩
  rw [hs, ht] at OV ⊢
  have EF := Lib.hid (IntWalk.i64_in (d * b) (by have := B.db; omega))
  obtain ⟨dl, du⟩ := B.db
  have CK := Lib.hid (fun W => CheckQuat_ok n0 n1 n2 n3 d W (chkQ_ok h))
  have HF := Lib.hid h'
  clear h h' B hs ht
  go_enter Try.func47, Try.ntmps47
  go_wp2_with fail
  refine (CK.out _).mono ?_
  rintro e w1 ⟨rfl, hb⟩
  have hK : K_E n0 n1 n2 n3 d a b w.heap.size (w.heap.size + 1) (w.heap.size + 2) w w1 := K_E.below hb ⟨by simp [go_sem], by simp [go_sem], by simp [go_sem], by (repeat (first | (with_reducible exact Below.refl _ _) | (with_reducible exact HB.out) | (with_reducible refine below_draws ?_ _) | (with_reducible refine Below.alloc ?_ (by go_size) _) | (with_reducible refine Below.setCell ?_ (by go_size) _) | (with_reducible refine Below.alloc ?_ (by simp <;> omega) _) | (with_reducible refine Below.setCell ?_ (by simp <;> omega) _)))⟩
  clear hb
  obtain ⟨c0_, c1_, c2_, c3_, c4_, c5_, c6_, d0_, f0_, d1_, f1_, d2_, f2_, d3_, f3_, d4_, f4_⟩ := K_E.cells hK; obtain ⟨z0_, z1_, z2_, -⟩ := K_E.zs hK; have HK := Lib.hid hK; clear hK
  go_wp2_with fail
  refine (isFraction_any _ _ _).mono ?_
  rintro e w2 ⟨rfl, hb⟩
  rw [HF.out]
  clear c0_ c1_ c2_ c3_ c4_ c5_ c6_ d0_ f0_ d1_ f1_ d2_ f2_ d3_ f3_ d4_ f4_ z0_ z1_ z2_
  have hK := K_E.below hb HK.out
  clear hb HK
  obtain ⟨c0_, c1_, c2_, c3_, c4_, c5_, c6_, d0_, f0_, d1_, f1_, d2_, f2_, d3_, f3_, d4_, f4_⟩ := K_E.cells hK; obtain ⟨z0_, z1_, z2_, -⟩ := K_E.zs hK; have HK := Lib.hid hK; clear hK
  go_wp2_with fail
  have hk := HK.out
  clear c0_ c1_ c2_ c3_ c4_ c5_ c6_ d0_ f0_ d1_ f1_ d2_ f2_ d3_ f3_ d4_ f4_ z0_ z1_ z2_
  clear HK
  have ef := EF.out
  go_region_held3 (fun w' => (w'.cell? ⟨w.heap.size, 0, none⟩ = some (.int .i64 n0) ∧ w'.cell? ⟨w.heap.size, 1, none⟩ = some (.int .i64 n1) ∧ w'.cell? ⟨w.heap.size, 2, none⟩ = some (.int .i64 n2) ∧ w'.cell? ⟨w.heap.size, 3, none⟩ = some (.int .i64 n3) ∧ w'.cell? ⟨w.heap.size, 4, none⟩ = some (.int .i64 d) ∧ w'.cell? ⟨(w.heap.size + 1), 0, none⟩ = some (.int .i64 a) ∧ w'.cell? ⟨(w.heap.size + 1), 1, none⟩ = some (.int .i64 b) ∧ w'.cell? ⟨(w.heap.size + 2), 0, none⟩ = some (cv w' ((w.heap.size + 2)) 0) ∧ w'.frozen? ⟨(w.heap.size + 2), 0, none⟩ = false ∧ w'.cell? ⟨(w.heap.size + 2), 1, none⟩ = some (cv w' ((w.heap.size + 2)) 1) ∧ w'.frozen? ⟨(w.heap.size + 2), 1, none⟩ = false ∧ w'.cell? ⟨(w.heap.size + 2), 2, none⟩ = some (cv w' ((w.heap.size + 2)) 2) ∧ w'.frozen? ⟨(w.heap.size + 2), 2, none⟩ = false ∧ w'.cell? ⟨(w.heap.size + 2), 3, none⟩ = some (cv w' ((w.heap.size + 2)) 3) ∧ w'.frozen? ⟨(w.heap.size + 2), 3, none⟩ = false ∧ w'.cell? ⟨(w.heap.size + 2), 4, none⟩ = some (cv w' ((w.heap.size + 2)) 4) ∧ w'.frozen? ⟨(w.heap.size + 2), 4, none⟩ = false) ∧ K_E n0 n1 n2 n3 d a b w.heap.size (w.heap.size + 1) (w.heap.size + 2) w w') ((refine K_E.ks ?_; repeat (first | (with_reducible assumption) | (with_reducible refine K_E.draws _ ?_) | (with_reducible refine K_E.drew ?_) | (with_reducible refine K_E.alloc _ ?_) | (with_reducible refine K_E.set ?_ _ _ _ (by omega)))))
    (first
      | (go_at_call 60; (with_reducible refine (numeratorsOf_any _ _ _ _ _ _).mono ?_); rintro e w' ⟨rfl, hbel⟩; have hk' := K_E.below hbel (And.right (by assumption)); clear hbel)
      | (go_at_call 65; (with_reducible refine (S1.out _).mono ?_); rintro e w' ⟨rfl, hbel⟩; have hk' := K_E.below hbel (And.right (by assumption)); clear hbel)
      | (go_at_call 37; (with_reducible refine (OV.out _).mono ?_); rintro e w' ⟨rfl, hbel⟩; have hk' := K_E.below hbel (And.right (by assumption)); clear hbel))
  all_goals
    clear ef
    go_wp2
    (rename_i hh_; clear hh_; obtain ⟨c0_, c1_, c2_, c3_, c4_, c5_, c6_, d0_, f0_, d1_, f1_, d2_, f2_, d3_, f3_, d4_, f4_⟩ := K_E.cells hk'; have HB := Lib.hid (K_E.bel hk'))
    exact bodyPost_ret (v := .tuple #[.agg #[.int .i64 (s).w, .int .i64 (s).x, .int .i64 (s).y, .int .i64 (s).z, .int .i64 (s).d], .int .i64 t]) (by simp [results, Try.results47, go_sem, c0_, c1_, c2_, c3_, c4_, c5_, c6_, d0_, f0_, d1_, f1_, d2_, f2_, d3_, f3_, d4_, f4_]) rfl ⟨rfl, by (repeat (first | (with_reducible exact Below.refl _ _) | (with_reducible exact HB.out) | (with_reducible refine below_draws ?_ _) | (with_reducible refine Below.alloc ?_ (by go_size) _) | (with_reducible refine Below.setCell ?_ (by go_size) _) | (with_reducible refine Below.alloc ?_ (by simp <;> omega) _) | (with_reducible refine Below.setCell ?_ (by simp <;> omega) _)))⟩
set_option maxHeartbeats 1600000 in
theorem Scale_q (n0 n1 n2 n3 d a b : Int) (w : World) (h : chkQ n0 n1 n2 n3 d ≠ 0) :
    Calls Try.prog 47 #[.agg #[.int .i64 n0, .int .i64 n1, .int .i64 n2, .int .i64 n3, .int .i64 d], .agg #[.int .i64 a, .int .i64 b]] w fun e w' => e = .returned (.tuple #[.agg #[.int .i64 0, .int .i64 0, .int .i64 0, .int .i64 0, .int .i64 0], .int .i64 3]) ∧ Below w.heap.size w w' := by
  have CK := Lib.hid (fun W => CheckQuat_bad n0 n1 n2 n3 d W (chkQ_bad h).1)
  clear h
  go_enter Try.func47, Try.ntmps47
  go_wp2_with fail
  refine (CK.out _).mono ?_
  rintro e w1 ⟨rfl, hb⟩
  have hK : K_E n0 n1 n2 n3 d a b w.heap.size (w.heap.size + 1) (w.heap.size + 2) w w1 := K_E.below hb ⟨by simp [go_sem], by simp [go_sem], by simp [go_sem], by (repeat (first | (with_reducible exact Below.refl _ _) | (with_reducible exact HB.out) | (with_reducible refine below_draws ?_ _) | (with_reducible refine Below.alloc ?_ (by go_size) _) | (with_reducible refine Below.setCell ?_ (by go_size) _) | (with_reducible refine Below.alloc ?_ (by simp <;> omega) _) | (with_reducible refine Below.setCell ?_ (by simp <;> omega) _)))⟩
  clear hb
  obtain ⟨c0_, c1_, c2_, c3_, c4_, c5_, c6_, d0_, f0_, d1_, f1_, d2_, f2_, d3_, f3_, d4_, f4_⟩ := K_E.cells hK
  have HB := Lib.hid (K_E.bel hK)
  clear hK
  go_wp2
  exact bodyPost_ret (v := .tuple #[.agg #[.int .i64 0, .int .i64 0, .int .i64 0, .int .i64 0, .int .i64 0], .int .i64 3]) (by simp [results, Try.results47, go_sem, c0_, c1_, c2_, c3_, c4_, c5_, c6_, d0_, f0_, d1_, f1_, d2_, f2_, d3_, f3_, d4_, f4_]) rfl ⟨rfl, by (repeat (first | (with_reducible exact Below.refl _ _) | (with_reducible exact HB.out) | (with_reducible refine below_draws ?_ _) | (with_reducible refine Below.alloc ?_ (by go_size) _) | (with_reducible refine Below.setCell ?_ (by go_size) _) | (with_reducible refine Below.alloc ?_ (by simp <;> omega) _) | (with_reducible refine Below.setCell ?_ (by simp <;> omega) _)))⟩
set_option maxHeartbeats 1600000 in
theorem Scale_f (n0 n1 n2 n3 d a b : Int) (w : World) (h : chkQ n0 n1 n2 n3 d = 0) (h' : frB a b = false) :
    Calls Try.prog 47 #[.agg #[.int .i64 n0, .int .i64 n1, .int .i64 n2, .int .i64 n3, .int .i64 d], .agg #[.int .i64 a, .int .i64 b]] w fun e w' => e = .returned (.tuple #[.agg #[.int .i64 0, .int .i64 0, .int .i64 0, .int .i64 0, .int .i64 0], .int .i64 3]) ∧ Below w.heap.size w w' := by
  have CK := Lib.hid (fun W => CheckQuat_ok n0 n1 n2 n3 d W (chkQ_ok h))
  have HF := Lib.hid h'
  clear h h'
  go_enter Try.func47, Try.ntmps47
  go_wp2_with fail
  refine (CK.out _).mono ?_
  rintro e w1 ⟨rfl, hb⟩
  have hK : K_E n0 n1 n2 n3 d a b w.heap.size (w.heap.size + 1) (w.heap.size + 2) w w1 := K_E.below hb ⟨by simp [go_sem], by simp [go_sem], by simp [go_sem], by (repeat (first | (with_reducible exact Below.refl _ _) | (with_reducible exact HB.out) | (with_reducible refine below_draws ?_ _) | (with_reducible refine Below.alloc ?_ (by go_size) _) | (with_reducible refine Below.setCell ?_ (by go_size) _) | (with_reducible refine Below.alloc ?_ (by simp <;> omega) _) | (with_reducible refine Below.setCell ?_ (by simp <;> omega) _)))⟩
  clear hb
  obtain ⟨c0_, c1_, c2_, c3_, c4_, c5_, c6_, d0_, f0_, d1_, f1_, d2_, f2_, d3_, f3_, d4_, f4_⟩ := K_E.cells hK; obtain ⟨z0_, z1_, z2_, -⟩ := K_E.zs hK; have HK := Lib.hid hK; clear hK
  go_wp2_with fail
  refine (isFraction_any _ _ _).mono ?_
  rintro e w2 ⟨rfl, hb⟩
  rw [HF.out]
  clear c0_ c1_ c2_ c3_ c4_ c5_ c6_ d0_ f0_ d1_ f1_ d2_ f2_ d3_ f3_ d4_ f4_ z0_ z1_ z2_
  have hK := K_E.below hb HK.out
  clear hb HK
  obtain ⟨c0_, c1_, c2_, c3_, c4_, c5_, c6_, d0_, f0_, d1_, f1_, d2_, f2_, d3_, f3_, d4_, f4_⟩ := K_E.cells hK
  have HB := Lib.hid (K_E.bel hK)
  clear hK
  go_wp2
  exact bodyPost_ret (v := .tuple #[.agg #[.int .i64 0, .int .i64 0, .int .i64 0, .int .i64 0, .int .i64 0], .int .i64 3]) (by simp [results, Try.results47, go_sem, c0_, c1_, c2_, c3_, c4_, c5_, c6_, d0_, f0_, d1_, f1_, d2_, f2_, d3_, f3_, d4_, f4_]) rfl ⟨rfl, by (repeat (first | (with_reducible exact Below.refl _ _) | (with_reducible exact HB.out) | (with_reducible refine below_draws ?_ _) | (with_reducible refine Below.alloc ?_ (by go_size) _) | (with_reducible refine Below.setCell ?_ (by go_size) _) | (with_reducible refine Below.alloc ?_ (by simp <;> omega) _) | (with_reducible refine Below.setCell ?_ (by simp <;> omega) _)))⟩
end Go.Proofs.Ytgbnmnkgelklbaa.Al
