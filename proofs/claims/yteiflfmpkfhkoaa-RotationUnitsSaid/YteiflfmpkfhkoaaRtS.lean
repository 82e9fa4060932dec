/-
  WALKS: elements as Hurwitz quaternions, and their errors, the reference's: Of and Err.
-/
import Derived.Test.YteiflfmpkfhkoaaRtR
namespace Go.Proofs.Yteiflfmpkfhkoaa.Rt
open Go.RowKit
open Alm Hwm Al
set_option linter.unusedVariables false
set_option linter.unusedSimpArgs false
set_option maxRecDepth 100000
/-- what Of hands back -/
def OfEnd (q : Q) (w : World) (e : Ending) (w' : World) : Prop := ∃ h : H, e = .returned (.tuple #[.agg #[.int .i64 (h).w, .int .i64 (h).x, .int .i64 (h).y, .int .i64 (h).z], .bool (isL q.low)]) ∧ (isL q.low = true → h = hL q.low) ∧ Below w.heap.size w w'
/-- what a walk keeps: cells, and that nothing that was there has turned -/
def K_Oa (n0 n1 n2 n3 n4 : Int) (p R : Nat) (w w' : World) : Prop := KL w [(p, 0, .int .i64 n0), (p, 1, .int .i64 n1), (p, 2, .int .i64 n2), (p, 3, .int .i64 n3), (p, 4, .int .i64 n4)] [(R, 0), (R, 1), (R, 2), (R, 3)] w'
theorem K_Oa.below {n0 n1 n2 n3 n4 : Int} {p R : Nat} {w w1 w2 : World} (hb : Below w1.heap.size w1 w2) (h : K_Oa n0 n1 n2 n3 n4 p R w w1) : K_Oa n0 n1 n2 n3 n4 p R w w2 := KL.below hb h
theorem K_Oa.draws {n0 n1 n2 n3 n4 : Int} {p R : Nat} {w w1 : World} (n : Nat) (h : K_Oa n0 n1 n2 n3 n4 p R w w1) : K_Oa n0 n1 n2 n3 n4 p R w (w1.drewN n) := KL.draws n h
theorem K_Oa.drew {n0 n1 n2 n3 n4 : Int} {p R : Nat} {w w1 : World} (h : K_Oa n0 n1 n2 n3 n4 p R w w1) : K_Oa n0 n1 n2 n3 n4 p R w w1.drew := KL.draws 1 h
theorem K_Oa.alloc {n0 n1 n2 n3 n4 : Int} {p R : Nat} {w w1 : World} (o : Obj) (h : K_Oa n0 n1 n2 n3 n4 p R w w1) : K_Oa n0 n1 n2 n3 n4 p R w (w1.alloc o) := KL.alloc o h
theorem K_Oa.set {n0 n1 n2 n3 n4 : Int} {p R : Nat} {w w1 : World} (h : K_Oa n0 n1 n2 n3 n4 p R w w1) (b i : Nat) (v : Value) (hb : b ≠ p ∧ w.heap.size ≤ b) : K_Oa n0 n1 n2 n3 n4 p R w (w1.setCell ⟨b, i, none⟩ v) :=
  KL.set h b i v (by intro x hx; simp only [List.mem_cons, List.not_mem_nil, or_false] at hx; rcases hx with rfl | rfl | rfl | rfl | rfl <;> simp only [] <;> omega) (by omega)
theorem K_Oa.bel {n0 n1 n2 n3 n4 : Int} {p R : Nat} {w w1 : World} (h : K_Oa n0 n1 n2 n3 n4 p R w w1) : Below w.heap.size w w1 := KL.bel h
theorem K_Oa.cells {n0 n1 n2 n3 n4 : Int} {p R : Nat} {w w' : World} (h : K_Oa n0 n1 n2 n3 n4 p R w w') : w'.cell? ⟨p, 0, none⟩ = some (.int .i64 n0) ∧ w'.cell? ⟨p, 1, none⟩ = some (.int .i64 n1) ∧ w'.cell? ⟨p, 2, none⟩ = some (.int .i64 n2) ∧ w'.cell? ⟨p, 3, none⟩ = some (.int .i64 n3) ∧ w'.cell? ⟨p, 4, none⟩ = some (.int .i64 n4) ∧ w'.cell? ⟨R, 0, none⟩ = some (cv w' R 0) ∧ w'.frozen? ⟨R, 0, none⟩ = false ∧ w'.cell? ⟨R, 1, none⟩ = some (cv w' R 1) ∧ w'.frozen? ⟨R, 1, none⟩ = false ∧ w'.cell? ⟨R, 2, none⟩ = some (cv w' R 2) ∧ w'.frozen? ⟨R, 2, none⟩ = false ∧ w'.cell? ⟨R, 3, none⟩ = some (cv w' R 3) ∧ w'.frozen? ⟨R, 3, none⟩ = false := ⟨h.c (p, 0, .int .i64 n0) (by simp), h.c (p, 1, .int .i64 n1) (by simp), h.c (p, 2, .int .i64 n2) (by simp), h.c (p, 3, .int .i64 n3) (by simp), h.c (p, 4, .int .i64 n4) (by simp), h.d (R, 0) (by simp), h.f (R, 0) (by simp), h.d (R, 1) (by simp), h.f (R, 1) (by simp), h.d (R, 2) (by simp), h.f (R, 2) (by simp), h.d (R, 3) (by simp), h.f (R, 3) (by simp)⟩
theorem K_Oa.zs {n0 n1 n2 n3 n4 : Int} {p R : Nat} {w w' : World} (h : K_Oa n0 n1 n2 n3 n4 p R w w') : p < w'.heap.size ∧ R < w'.heap.size ∧ True := ⟨KL.z h (x := (p, 0, .int .i64 n0)) (by simp), KL.zf h (x := (R, 0)) (by simp), trivial⟩
theorem K_Oa.ks {n0 n1 n2 n3 n4 : Int} {p R : Nat} {w w' : World} (h : K_Oa n0 n1 n2 n3 n4 p R w w') : (w'.cell? ⟨p, 0, none⟩ = some (.int .i64 n0) ∧ w'.cell? ⟨p, 1, none⟩ = some (.int .i64 n1) ∧ w'.cell? ⟨p, 2, none⟩ = some (.int .i64 n2) ∧ w'.cell? ⟨p, 3, none⟩ = some (.int .i64 n3) ∧ w'.cell? ⟨p, 4, none⟩ = some (.int .i64 n4) ∧ w'.cell? ⟨R, 0, none⟩ = some (cv w' R 0) ∧ w'.frozen? ⟨R, 0, none⟩ = false ∧ w'.cell? ⟨R, 1, none⟩ = some (cv w' R 1) ∧ w'.frozen? ⟨R, 1, none⟩ = false ∧ w'.cell? ⟨R, 2, none⟩ = some (cv w' R 2) ∧ w'.frozen? ⟨R, 2, none⟩ = false ∧ w'.cell? ⟨R, 3, none⟩ = some (cv w' R 3) ∧ w'.frozen? ⟨R, 3, none⟩ = false) ∧ K_Oa n0 n1 n2 n3 n4 p R w w' := ⟨h.cells, h⟩
/-- what a walk keeps: cells, and that nothing that was there has turned -/
def K_Of (l0 l1 l2 l3 l4 n0 n1 n2 n3 n4 : Int) (s p R : Nat) (w w' : World) : Prop := KL w [(s, 0, .int .i64 l0), (s, 1, .int .i64 l1), (s, 2, .int .i64 l2), (s, 3, .int .i64 l3), (s, 4, .int .i64 l4), (p, 0, .int .i64 n0), (p, 1, .int .i64 n1), (p, 2, .int .i64 n2), (p, 3, .int .i64 n3), (p, 4, .int .i64 n4)] [(R, 0), (R, 1), (R, 2), (R, 3)] w'
theorem K_Of.below {l0 l1 l2 l3 l4 n0 n1 n2 n3 n4 : Int} {s p R : Nat} {w w1 w2 : World} (hb : Below w1.heap.size w1 w2) (h : K_Of l0 l1 l2 l3 l4 n0 n1 n2 n3 n4 s p R w w1) : K_Of l0 l1 l2 l3 l4 n0 n1 n2 n3 n4 s p R w w2 := KL.below hb h
theorem K_Of.draws {l0 l1 l2 l3 l4 n0 n1 n2 n3 n4 : Int} {s p R : Nat} {w w1 : World} (n : Nat) (h : K_Of l0 l1 l2 l3 l4 n0 n1 n2 n3 n4 s p R w w1) : K_Of l0 l1 l2 l3 l4 n0 n1 n2 n3 n4 s p R w (w1.drewN n) := KL.draws n h
theorem K_Of.drew {l0 l1 l2 l3 l4 n0 n1 n2 n3 n4 : Int} {s p R : Nat} {w w1 : World} (h : K_Of l0 l1 l2 l3 l4 n0 n1 n2 n3 n4 s p R w w1) : K_Of l0 l1 l2 l3 l4 n0 n1 n2 n3 n4 s p R w w1.drew := KL.draws 1 h
theorem K_Of.alloc {l0 l1 l2 l3 l4 n0 n1 n2 n3 n4 : Int} {s p R : Nat} {w w1 : World} (o : Obj) (h : K_Of l0 l1 l2 l3 l4 n0 n1 n2 n3 n4 s p R w w1) : K_Of l0 l1 l2 l3 l4 n0 n1 n2 n3 n4 s p R w (w1.alloc o) := KL.alloc o h
theorem K_Of.set {l0 l1 l2 l3 l4 n0 n1 n2 n3 n4 : Int} {s p R : Nat} {w w1 : World} (h : K_Of l0 l1 l2 l3 l4 n0 n1 n2 n3 n4 s p R w w1) (b i : Nat) (v : Value) (hb : b ≠ s ∧ b ≠ p ∧ w.heap.size ≤ b) : K_Of l0 l1 l2 l3 l4 n0 n1 n2 n3 n4 s p R w (w1.setCell ⟨b, i, none⟩ v) :=
  KL.set h b i v (by intro x hx; simp only [List.mem_cons, List.not_mem_nil, or_false] at hx; rcases hx with rfl | rfl | rfl | rfl | rfl | rfl | rfl | rfl | rfl | rfl <;> simp only [] <;> omega) (by omega)
theorem K_Of.bel {l0 l1 l2 l3 l4 n0 n1 n2 n3 n4 : Int} {s p R : Nat} {w w1 : World} (h : K_Of l0 l1 l2 l3 l4 n0 n1 n2 n3 n4 s p R w w1) : Below w.heap.size w w1 := KL.bel h
theorem K_Of.cells {l0 l1 l2 l3 l4 n0 n1 n2 n3 n4 : Int} {s p R : Nat} {w w' : World} (h : K_Of l0 l1 l2 l3 l4 n0 n1 n2 n3 n4 s p R w w') : w'.cell? ⟨s, 0, none⟩ = some (.int .i64 l0) ∧ w'.cell? ⟨s, 1, none⟩ = some (.int .i64 l1) ∧ w'.cell? ⟨s, 2, none⟩ = some (.int .i64 l2) ∧ w'.cell? ⟨s, 3, none⟩ = some (.int .i64 l3) ∧ w'.cell? ⟨s, 4, none⟩ = some (.int .i64 l4) ∧ w'.cell? ⟨p, 0, none⟩ = some (.int .i64 n0) ∧ w'.cell? ⟨p, 1, none⟩ = some (.int .i64 n1) ∧ w'.cell? ⟨p, 2, none⟩ = some (.int .i64 n2) ∧ w'.cell? ⟨p, 3, none⟩ = some (.int .i64 n3) ∧ w'.cell? ⟨p, 4, none⟩ = some (.int .i64 n4) ∧ w'.cell? ⟨R, 0, none⟩ = some (cv w' R 0) ∧ w'.frozen? ⟨R, 0, none⟩ = false ∧ w'.cell? ⟨R, 1, none⟩ = some (cv w' R 1) ∧ w'.frozen? ⟨R, 1, none⟩ = false ∧ w'.cell? ⟨R, 2, none⟩ = some (cv w' R 2) ∧ w'.frozen? ⟨R, 2, none⟩ = false ∧ w'.cell? ⟨R, 3, none⟩ = some (cv w' R 3) ∧ w'.frozen? ⟨R, 3, none⟩ = false := ⟨h.c (s, 0, .int .i64 l0) (by simp), h.c (s, 1, .int .i64 l1) (by simp), h.c (s, 2, .int .i64 l2) (by simp), h.c (s, 3, .int .i64 l3) (by simp), h.c (s, 4, .int .i64 l4) (by simp), h.c (p, 0, .int .i64 n0) (by simp), h.c (p, 1, .int .i64 n1) (by simp), h.c (p, 2, .int .i64 n2) (by simp), h.c (p, 3, .int .i64 n3) (by simp), h.c (p, 4, .int .i64 n4) (by simp), h.d (R, 0) (by simp), h.f (R, 0) (by simp), h.d (R, 1) (by simp), h.f (R, 1) (by simp), h.d (R, 2) (by simp), h.f (R, 2) (by simp), h.d (R, 3) (by simp), h.f (R, 3) (by simp)⟩
theorem K_Of.zs {l0 l1 l2 l3 l4 n0 n1 n2 n3 n4 : Int} {s p R : Nat} {w w' : World} (h : K_Of l0 l1 l2 l3 l4 n0 n1 n2 n3 n4 s p R w w') : s < w'.heap.size ∧ p < w'.heap.size ∧ R < w'.heap.size ∧ True := ⟨KL.z h (x := (s, 0, .int .i64 l0)) (by simp), KL.z h (x := (p, 0, .int .i64 n0)) (by simp), KL.zf h (x := (R, 0)) (by simp), trivial⟩
theorem K_Of.ks {l0 l1 l2 l3 l4 n0 n1 n2 n3 n4 : Int} {s p R : Nat} {w w' : World} (h : K_Of l0 l1 l2 l3 l4 n0 n1 n2 n3 n4 s p R w w') : (w'.cell? ⟨s, 0, none⟩ = some (.int .i64 l0) ∧ w'.cell? ⟨s, 1, none⟩ = some (.int .i64 l1) ∧ w'.cell? ⟨s, 2, none⟩ = some (.int .i64 l2) ∧ w'.cell? ⟨s, 3, none⟩ = some (.int .i64 l3) ∧ w'.cell? ⟨s, 4, none⟩ = some (.int .i64 l4) ∧ w'.cell? ⟨p, 0, none⟩ = some (.int .i64 n0) ∧ w'.cell? ⟨p, 1, none⟩ = some (.int .i64 n1) ∧ w'.cell? ⟨p, 2, none⟩ = some (.int .i64 n2) ∧ w'.cell? ⟨p, 3, none⟩ = some (.int .i64 n3) ∧ w'.cell? ⟨p, 4, none⟩ = some (.int .i64 n4) ∧ w'.cell? ⟨R, 0, none⟩ = some (cv w' R 0) ∧ w'.frozen? ⟨R, 0, none⟩ = false ∧ w'.cell? ⟨R, 1, none⟩ = some (cv w' R 1) ∧ w'.frozen? ⟨R, 1, none⟩ = false ∧ w'.cell? ⟨R, 2, none⟩ = some (cv w' R 2) ∧ w'.frozen? ⟨R, 2, none⟩ = false ∧ w'.cell? ⟨R, 3, none⟩ = some (cv w' R 3) ∧ w'.frozen? ⟨R, 3, none⟩ = false) ∧ K_Of l0 l1 l2 l3 l4 n0 n1 n2 n3 n4 s p R w w' := ⟨h.cells, h⟩
theorem isL_odd {l0 l1 l2 l3 l4 : Int} (hd : l4 ≠ 1) (h0 : l0.tmod 2 ≠ 0) (h1 : l1.tmod 2 ≠ 0) (h2 : l2.tmod 2 ≠ 0) (h3 : l3.tmod 2 ≠ 0) (hp : 1 ≤ l4) : isL ⟨l0, l1, l2, l3, l4⟩ = decide (l4 ≤ 2) := by
  by_cases h5 : l4 = 2
  · subst h5; unfold isL; simp [h0, h1, h2, h3]
  · rw [decide_eq_false (show ¬ l4 ≤ 2 by omega)]; unfold isL; simp [hd, h5]
theorem ways5' (a b c d : Int) : a.tmod 2 = 0 ∨ (a.tmod 2 ≠ 0 ∧ b.tmod 2 = 0) ∨ (a.tmod 2 ≠ 0 ∧ b.tmod 2 ≠ 0 ∧ c.tmod 2 = 0) ∨ (a.tmod 2 ≠ 0 ∧ b.tmod 2 ≠ 0 ∧ c.tmod 2 ≠ 0 ∧ d.tmod 2 = 0) ∨ (a.tmod 2 ≠ 0 ∧ b.tmod 2 ≠ 0 ∧ c.tmod 2 ≠ 0 ∧ d.tmod 2 ≠ 0) := by
  generalize a.tmod 2 = a; generalize b.tmod 2 = b; generalize c.tmod 2 = c; generalize d.tmod 2 = d; omega
set_option maxHeartbeats 6400000 in
theorem rOf_ok (n0 n1 n2 n3 d : Int) (w : World) (hq : chkQ n0 n1 n2 n3 d = 0) :
    Calls Try.prog 19 #[.agg #[.int .i64 n0, .int .i64 n1, .int .i64 n2, .int .i64 n3, .int .i64 d]] w fun e w' => OfEnd ⟨n0, n1, n2, n3, d⟩ w e w' := by
  obtain ⟨q0, q1, q2, q3, q4⟩ := qin_bd (chkQ_ok hq)
  have QE := Lib.hid (fun W => rQuatErr_any n0 n1 n2 n3 d W)
  have LW := Lib.hid (fun W => rLowest_any n0 n1 n2 n3 d W (by omega) (by omega) (by omega) (by omega) (by omega))
  obtain ⟨b0, b1, b2, b3, b4, b5⟩ := low_bd (q := ⟨n0, n1, n2, n3, d⟩) hq
  unfold OfEnd
  obtain ⟨l, hl⟩ : ∃ l, (Q.mk n0 n1 n2 n3 d).low = l := ⟨_, rfl⟩
  rw [hl] at LW b0 b1 b2 b3 b4 b5 ⊢
  rw [hq] at QE
  clear hq hl q0 q1 q2 q3 q4
  obtain ⟨l0, l1, l2, l3, l4⟩ := l
  simp only [] at LW b0 b1 b2 b3 b4 b5
  have e0 := IntWalk.i64_in (l0.tmod 2) (by have := tmod2_bd l0; omega)
  have e1 := IntWalk.i64_in (l1.tmod 2) (by have := tmod2_bd l1; omega)
  have e2 := IntWalk.i64_in (l2.tmod 2) (by have := tmod2_bd l2; omega)
  have e3 := IntWalk.i64_in (l3.tmod 2) (by have := tmod2_bd l3; omega)
  have E0 := Lib.hid e0
  have E1 := Lib.hid e1
  have E2 := Lib.hid e2
  have E3 := Lib.hid e3
  clear e0 e1 e2 e3
  go_enter Try.func19, Try.ntmps19
  go_wp2_with fail
  refine (QE.out _).mono ?_
  rintro e w1 ⟨rfl, hb⟩
  have hK : K_Oa n0 n1 n2 n3 d w.heap.size (w.heap.size + 1) w w1 := K_Oa.below hb ⟨by simp [go_sem], by simp [go_sem], by simp [go_sem], by (repeat (first | (with_reducible exact Below.refl _ _) | (with_reducible exact HB.out) | (with_reducible refine below_draws ?_ _) | (with_reducible refine Below.alloc ?_ (by go_size) _) | (with_reducible refine Below.setCell ?_ (by go_size) _) | (with_reducible refine Below.alloc ?_ (by simp <;> omega) _) | (with_reducible refine Below.setCell ?_ (by simp <;> omega) _)))⟩
  clear hb
  obtain ⟨c0_, c1_, c2_, c3_, c4_, d0_, f0_, d1_, f1_, d2_, f2_, d3_, f3_⟩ := K_Oa.cells hK; obtain ⟨z0_, z1_, -⟩ := K_Oa.zs hK; have HK := Lib.hid hK; clear hK
  go_wp2_with fail
  refine (LW.out _).mono ?_
  rintro e w2 ⟨rfl, hb⟩
  clear c0_ c1_ c2_ c3_ c4_ d0_ f0_ d1_ f1_ d2_ f2_ d3_ f3_ z0_ z1_
  have hK := K_Oa.below hb HK.out
  clear hb HK
  obtain ⟨c0_, c1_, c2_, c3_, c4_, d0_, f0_, d1_, f1_, d2_, f2_, d3_, f3_⟩ := K_Oa.cells hK; obtain ⟨z0_, z1_, -⟩ := K_Oa.zs hK; have HK := Lib.hid hK; clear hK
  go_wp2_with fail
  have HB := Lib.hid (K_Oa.bel HK.out)
  rcases (show l4 = 1 ∨ l4 ≠ 1 by omega) with hd1 | hd1
  · have HI : Hid (isL ⟨l0, l1, l2, l3, l4⟩ = true ∧ hL ⟨l0, l1, l2, l3, l4⟩ = ⟨2 * l0, 2 * l1, 2 * l2, 2 * l3⟩) := Lib.hid (by subst hd1; exact ⟨rfl, by unfold hL; rw [if_pos rfl]; simp only [Int.mul_comm]⟩)
    have t : (l4 == 1) = true := by rw [hd1]; rfl
    have tt : decide (l4 ≤ 2) = true := decide_eq_true (by omega)
    clear hd1
    refine wp_loop_rounds 5 ?_
    rw [rounds_succ]; go_wp2
    rw [rounds_succ]; go_wp2
    rw [rounds_succ]; go_wp2
    rw [rounds_succ]; go_wp2
    rw [rounds_succ]; go_wp2
    go_region
    go_wp2
    exact bodyPost_ret (v := .tuple #[.agg #[.int .i64 (2 * l0), .int .i64 (2 * l1), .int .i64 (2 * l2), .int .i64 (2 * l3)], .bool true]) (by simp [results, Try.results19, go_sem, c0_, c1_, c2_, c3_, c4_, d0_, f0_, d1_, f1_, d2_, f2_, d3_, f3_, z0_, z1_]) rfl ⟨⟨2 * l0, 2 * l1, 2 * l2, 2 * l3⟩, by rw [HI.out.1], fun _ => HI.out.2.symm, below_draws (by (repeat (first | (with_reducible exact Below.refl _ _) | (with_reducible exact HB.out) | (with_reducible refine below_draws ?_ _) | (with_reducible refine Below.alloc ?_ (by go_size) _) | (with_reducible refine Below.setCell ?_ (by go_size) _) | (with_reducible refine Below.alloc ?_ (by simp <;> omega) _) | (with_reducible refine Below.setCell ?_ (by simp <;> omega) _)))) 1⟩
  · have t : (l4 == 1) = false := by rw [beq_eq_false_iff_ne]; exact hd1
    have e0 := E0.out
    have e1 := E1.out
    have e2 := E2.out
    have e3 := E3.out
    rcases ways5' l0 l1 l2 l3 with h0 | ⟨h0, h1⟩ | ⟨h0, h1, h2⟩ | ⟨h0, h1, h2, h3⟩ | ⟨h0, h1, h2, h3⟩
    · have t0 : (l0.tmod 2 == 0) = true := by rw [h0]; rfl
      have HI : Hid (isL ⟨l0, l1, l2, l3, l4⟩ = false) := Lib.hid (by unfold isL; simp [hd1, h0])
      clear h0 hd1
      refine wp_loop_rounds 1 ?_
      rw [rounds_succ]; go_wp2
      exact bodyPost_ret (v := .tuple #[.agg #[.int .i64 0, .int .i64 0, .int .i64 0, .int .i64 0], .bool false]) (by simp [results, Try.results19, go_sem, c0_, c1_, c2_, c3_, c4_, d0_, f0_, d1_, f1_, d2_, f2_, d3_, f3_, z0_, z1_]) rfl ⟨H.zero, by rw [HI.out]; rfl, fun (h : isL ⟨l0, l1, l2, l3, l4⟩ = true) => (by rw [HI.out] at h; cases h), by (repeat (first | (with_reducible exact Below.refl _ _) | (with_reducible exact HB.out) | (with_reducible refine below_draws ?_ _) | (with_reducible refine Below.alloc ?_ (by go_size) _) | (with_reducible refine Below.setCell ?_ (by go_size) _) | (with_reducible refine Below.alloc ?_ (by simp <;> omega) _) | (with_reducible refine Below.setCell ?_ (by simp <;> omega) _)))⟩
    · have t0 : (l0.tmod 2 == 0) = false := by rw [beq_eq_false_iff_ne]; exact h0
      have t1 : (l1.tmod 2 == 0) = true := by rw [h1]; rfl
      have HI : Hid (isL ⟨l0, l1, l2, l3, l4⟩ = false) := Lib.hid (by unfold isL; simp [hd1, h0, h1])
      clear h0 h1 hd1
      refine wp_loop_rounds 2 ?_
      rw [rounds_succ]; go_wp2
      rw [rounds_succ]; go_wp2
      exact bodyPost_ret (v := .tuple #[.agg #[.int .i64 0, .int .i64 0, .int .i64 0, .int .i64 0], .bool false]) (by simp [results, Try.results19, go_sem, c0_, c1_, c2_, c3_, c4_, d0_, f0_, d1_, f1_, d2_, f2_, d3_, f3_, z0_, z1_]) rfl ⟨H.zero, by rw [HI.out]; rfl, fun (h : isL ⟨l0, l1, l2, l3, l4⟩ = true) => (by rw [HI.out] at h; cases h), by (repeat (first | (with_reducible exact Below.refl _ _) | (with_reducible exact HB.out) | (with_reducible refine below_draws ?_ _) | (with_reducible refine Below.alloc ?_ (by go_size) _) | (with_reducible refine Below.setCell ?_ (by go_size) _) | (with_reducible refine Below.alloc ?_ (by simp <;> omega) _) | (with_reducible refine Below.setCell ?_ (by simp <;> omega) _)))⟩
    · have t0 : (l0.tmod 2 == 0) = false := by rw [beq_eq_false_iff_ne]; exact h0
      have t1 : (l1.tmod 2 == 0) = false := by rw [beq_eq_false_iff_ne]; exact h1
      have t2 : (l2.tmod 2 == 0) = true := by rw [h2]; rfl
      have HI : Hid (isL ⟨l0, l1, l2, l3, l4⟩ = false) := Lib.hid (by unfold isL; simp [hd1, h0, h1, h2])
      clear h0 h1 h2 hd1
      refine wp_loop_rounds 3 ?_
      rw [rounds_succ]; go_wp2
      rw [rounds_succ]; go_wp2
      rw [rounds_succ]; go_wp2
      exact bodyPost_ret (v := .tuple #[.agg #[.int .i64 0, .int .i64 0, .int .i64 0, .int .i64 0], .bool false]) (by simp [results, Try.results19, go_sem, c0_, c1_, c2_, c3_, c4_, d0_, f0_, d1_, f1_, d2_, f2_, d3_, f3_, z0_, z1_]) rfl ⟨H.zero, by rw [HI.out]; rfl, fun (h : isL ⟨l0, l1, l2, l3, l4⟩ = true) => (by rw [HI.out] at h; cases h), by (repeat (first | (with_reducible exact Below.refl _ _) | (with_reducible exact HB.out) | (with_reducible refine below_draws ?_ _) | (with_reducible refine Below.alloc ?_ (by go_size) _) | (with_reducible refine Below.setCell ?_ (by go_size) _) | (with_reducible refine Below.alloc ?_ (by simp <;> omega) _) | (with_reducible refine Below.setCell ?_ (by simp <;> omega) _)))⟩
    · have t0 : (l0.tmod 2 == 0) = false := by rw [beq_eq_false_iff_ne]; exact h0
      have t1 : (l1.tmod 2 == 0) = false := by rw [beq_eq_false_iff_ne]; exact h1
      have t2 : (l2.tmod 2 == 0) = false := by rw [beq_eq_false_iff_ne]; exact h2
      have t3 : (l3.tmod 2 == 0) = true := by rw [h3]; rfl
      have HI : Hid (isL ⟨l0, l1, l2, l3, l4⟩ = false) := Lib.hid (by unfold isL; simp [hd1, h0, h1, h2, h3])
      clear h0 h1 h2 h3 hd1
      refine wp_loop_rounds 4 ?_
      rw [rounds_succ]; go_wp2
      rw [rounds_succ]; go_wp2
      rw [rounds_succ]; go_wp2
      rw [rounds_succ]; go_wp2
      exact bodyPost_ret (v := .tuple #[.agg #[.int .i64 0, .int .i64 0, .int .i64 0, .int .i64 0], .bool false]) (by simp [results, Try.results19, go_sem, c0_, c1_, c2_, c3_, c4_, d0_, f0_, d1_, f1_, d2_, f2_, d3_, f3_, z0_, z1_]) rfl ⟨H.zero, by rw [HI.out]; rfl, fun (h : isL ⟨l0, l1, l2, l3, l4⟩ = true) => (by rw [HI.out] at h; cases h), by (repeat (first | (with_reducible exact Below.refl _ _) | (with_reducible exact HB.out) | (with_reducible refine below_draws ?_ _) | (with_reducible refine Below.alloc ?_ (by go_size) _) | (with_reducible refine Below.setCell ?_ (by go_size) _) | (with_reducible refine Below.alloc ?_ (by simp <;> omega) _) | (with_reducible refine Below.setCell ?_ (by simp <;> omega) _)))⟩
    · have t0 : (l0.tmod 2 == 0) = false := by rw [beq_eq_false_iff_ne]; exact h0
      have t1 : (l1.tmod 2 == 0) = false := by rw [beq_eq_false_iff_ne]; exact h1
      have t2 : (l2.tmod 2 == 0) = false := by rw [beq_eq_false_iff_ne]; exact h2
      have t3 : (l3.tmod 2 == 0) = false := by rw [beq_eq_false_iff_ne]; exact h3
      have HI : Hid (isL ⟨l0, l1, l2, l3, l4⟩ = decide (l4 ≤ 2)) := Lib.hid (isL_odd hd1 h0 h1 h2 h3 b4)
      have HH : Hid (isL ⟨l0, l1, l2, l3, l4⟩ = true → (⟨l0, l1, l2, l3⟩ : H) = hL ⟨l0, l1, l2, l3, l4⟩) := Lib.hid (fun _ => by unfold hL; rw [if_neg hd1])
      clear h0 h1 h2 h3 hd1
      refine wp_loop_rounds 5 ?_
      rw [rounds_succ]; go_wp2
      rw [rounds_succ]; go_wp2
      rw [rounds_succ]; go_wp2
      rw [rounds_succ]; go_wp2
      rw [rounds_succ]; go_wp2
      go_region
      go_wp2
      exact bodyPost_ret (v := .tuple #[.agg #[.int .i64 l0, .int .i64 l1, .int .i64 l2, .int .i64 l3], .bool (decide (l4 ≤ 2))]) (by simp [results, Try.results19, go_sem, c0_, c1_, c2_, c3_, c4_, d0_, f0_, d1_, f1_, d2_, f2_, d3_, f3_, z0_, z1_]) rfl ⟨⟨l0, l1, l2, l3⟩, by rw [HI.out], HH.out, below_draws (by (repeat (first | (with_reducible exact Below.refl _ _) | (with_reducible exact HB.out) | (with_reducible refine below_draws ?_ _) | (with_reducible refine Below.alloc ?_ (by go_size) _) | (with_reducible refine Below.setCell ?_ (by go_size) _) | (with_reducible refine Below.alloc ?_ (by simp <;> omega) _) | (with_reducible refine Below.setCell ?_ (by simp <;> omega) _)))) 1⟩
end Go.Proofs.Yteiflfmpkfhkoaa.Rt
