/-
  WALKS: the errors of elements, the reference's; elements accepted; zero.
-/
import Derived.Test.YteiflfmpkfhkoaaRtS
import Derived.Test.YteiflfmpkfhkoaaRtC
namespace Go.Proofs.Yteiflfmpkfhkoaa.Rt
open Go.RowKit
open Alm Hwm Al
set_option linter.unusedVariables false
set_option linter.unusedSimpArgs false
set_option maxRecDepth 100000
theorem rOf_acc (n0 n1 n2 n3 d : Int) (w : World) (h : acE ⟨n0, n1, n2, n3, d⟩ = 0) :
    Calls Try.prog 19 #[.agg #[.int .i64 n0, .int .i64 n1, .int .i64 n2, .int .i64 n3, .int .i64 d]] w fun e w' => e = .returned (.tuple #[.agg #[.int .i64 (acH ⟨n0, n1, n2, n3, d⟩).w, .int .i64 (acH ⟨n0, n1, n2, n3, d⟩).x, .int .i64 (acH ⟨n0, n1, n2, n3, d⟩).y, .int .i64 (acH ⟨n0, n1, n2, n3, d⟩).z], .bool true]) ∧ Below w.heap.size w w' := by
  obtain ⟨hq, hl, hh, -, -, -⟩ := acc_ok h
  refine (rOf_ok n0 n1 n2 n3 d w hq).mono ?_
  rintro e w' ⟨x, rfl, hx, hb⟩
  rw [hx hl, hl, hh]
  exact ⟨rfl, hb⟩
theorem HB_up2 {a : H} (h : HB 2000000 a) : HB 100000000 a := by
  obtain ⟨h0, h1, h2, h3⟩ := h
  exact ⟨by omega, by omega, by omega, by omega⟩
/-- what a walk keeps: cells, and that nothing that was there has turned -/
def K_A5 (n0 n1 n2 n3 n4 : Int) (p : Nat) (w w' : World) : Prop := KL w [(p, 0, .int .i64 n0), (p, 1, .int .i64 n1), (p, 2, .int .i64 n2), (p, 3, .int .i64 n3), (p, 4, .int .i64 n4)] [] w'
theorem K_A5.below {n0 n1 n2 n3 n4 : Int} {p : Nat} {w w1 w2 : World} (hb : Below w1.heap.size w1 w2) (h : K_A5 n0 n1 n2 n3 n4 p w w1) : K_A5 n0 n1 n2 n3 n4 p w w2 := KL.below hb h
theorem K_A5.draws {n0 n1 n2 n3 n4 : Int} {p : Nat} {w w1 : World} (n : Nat) (h : K_A5 n0 n1 n2 n3 n4 p w w1) : K_A5 n0 n1 n2 n3 n4 p w (w1.drewN n) := KL.draws n h
theorem K_A5.drew {n0 n1 n2 n3 n4 : Int} {p : Nat} {w w1 : World} (h : K_A5 n0 n1 n2 n3 n4 p w w1) : K_A5 n0 n1 n2 n3 n4 p w w1.drew := KL.draws 1 h
theorem K_A5.alloc {n0 n1 n2 n3 n4 : Int} {p : Nat} {w w1 : World} (o : Obj) (h : K_A5 n0 n1 n2 n3 n4 p w w1) : K_A5 n0 n1 n2 n3 n4 p w (w1.alloc o) := KL.alloc o h
theorem K_A5.set {n0 n1 n2 n3 n4 : Int} {p : Nat} {w w1 : World} (h : K_A5 n0 n1 n2 n3 n4 p w w1) (b i : Nat) (v : Value) (hb : b ≠ p ∧ w.heap.size ≤ b) : K_A5 n0 n1 n2 n3 n4 p w (w1.setCell ⟨b, i, none⟩ v) :=
  KL.set h b i v (by intro x hx; simp only [List.mem_cons, List.not_mem_nil, or_false] at hx; rcases hx with rfl | rfl | rfl | rfl | rfl <;> simp only [] <;> omega) (by omega)
theorem K_A5.bel {n0 n1 n2 n3 n4 : Int} {p : Nat} {w w1 : World} (h : K_A5 n0 n1 n2 n3 n4 p w w1) : Below w.heap.size w w1 := KL.bel h
theorem K_A5.cells {n0 n1 n2 n3 n4 : Int} {p : Nat} {w w' : World} (h : K_A5 n0 n1 n2 n3 n4 p w w') : w'.cell? ⟨p, 0, none⟩ = some (.int .i64 n0) ∧ w'.cell? ⟨p, 1, none⟩ = some (.int .i64 n1) ∧ w'.cell? ⟨p, 2, none⟩ = some (.int .i64 n2) ∧ w'.cell? ⟨p, 3, none⟩ = some (.int .i64 n3) ∧ w'.cell? ⟨p, 4, none⟩ = some (.int .i64 n4) := ⟨h.c (p, 0, .int .i64 n0) (by simp), h.c (p, 1, .int .i64 n1) (by simp), h.c (p, 2, .int .i64 n2) (by simp), h.c (p, 3, .int .i64 n3) (by simp), h.c (p, 4, .int .i64 n4) (by simp)⟩
theorem K_A5.zs {n0 n1 n2 n3 n4 : Int} {p : Nat} {w w' : World} (h : K_A5 n0 n1 n2 n3 n4 p w w') : p < w'.heap.size ∧ True := ⟨KL.z h (x := (p, 0, .int .i64 n0)) (by simp), trivial⟩
theorem K_A5.ks {n0 n1 n2 n3 n4 : Int} {p : Nat} {w w' : World} (h : K_A5 n0 n1 n2 n3 n4 p w w') : (w'.cell? ⟨p, 0, none⟩ = some (.int .i64 n0) ∧ w'.cell? ⟨p, 1, none⟩ = some (.int .i64 n1) ∧ w'.cell? ⟨p, 2, none⟩ = some (.int .i64 n2) ∧ w'.cell? ⟨p, 3, none⟩ = some (.int .i64 n3) ∧ w'.cell? ⟨p, 4, none⟩ = some (.int .i64 n4)) ∧ K_A5 n0 n1 n2 n3 n4 p w w' := ⟨h.cells, h⟩
/-- what a walk keeps: cells, and that nothing that was there has turned -/
def K_A6 (h0 h1 h2 h3 n0 n1 n2 n3 n4 : Int) (s p : Nat) (w w' : World) : Prop := KL w [(s, 0, .int .i64 h0), (s, 1, .int .i64 h1), (s, 2, .int .i64 h2), (s, 3, .int .i64 h3), (p, 0, .int .i64 n0), (p, 1, .int .i64 n1), (p, 2, .int .i64 n2), (p, 3, .int .i64 n3), (p, 4, .int .i64 n4)] [] w'
theorem K_A6.below {h0 h1 h2 h3 n0 n1 n2 n3 n4 : Int} {s p : Nat} {w w1 w2 : World} (hb : Below w1.heap.size w1 w2) (h : K_A6 h0 h1 h2 h3 n0 n1 n2 n3 n4 s p w w1) : K_A6 h0 h1 h2 h3 n0 n1 n2 n3 n4 s p w w2 := KL.below hb h
theorem K_A6.draws {h0 h1 h2 h3 n0 n1 n2 n3 n4 : Int} {s p : Nat} {w w1 : World} (n : Nat) (h : K_A6 h0 h1 h2 h3 n0 n1 n2 n3 n4 s p w w1) : K_A6 h0 h1 h2 h3 n0 n1 n2 n3 n4 s p w (w1.drewN n) := KL.draws n h
theorem K_A6.drew {h0 h1 h2 h3 n0 n1 n2 n3 n4 : Int} {s p : Nat} {w w1 : World} (h : K_A6 h0 h1 h2 h3 n0 n1 n2 n3 n4 s p w w1) : K_A6 h0 h1 h2 h3 n0 n1 n2 n3 n4 s p w w1.drew := KL.draws 1 h
theorem K_A6.alloc {h0 h1 h2 h3 n0 n1 n2 n3 n4 : Int} {s p : Nat} {w w1 : World} (o : Obj) (h : K_A6 h0 h1 h2 h3 n0 n1 n2 n3 n4 s p w w1) : K_A6 h0 h1 h2 h3 n0 n1 n2 n3 n4 s p w (w1.alloc o) := KL.alloc o h
theorem K_A6.set {h0 h1 h2 h3 n0 n1 n2 n3 n4 : Int} {s p : Nat} {w w1 : World} (h : K_A6 h0 h1 h2 h3 n0 n1 n2 n3 n4 s p w w1) (b i : Nat) (v : Value) (hb : b ≠ s ∧ b ≠ p ∧ w.heap.size ≤ b) : K_A6 h0 h1 h2 h3 n0 n1 n2 n3 n4 s p w (w1.setCell ⟨b, i, none⟩ v) :=
  KL.set h b i v (by intro x hx; simp only [List.mem_cons, List.not_mem_nil, or_false] at hx; rcases hx with rfl | rfl | rfl | rfl | rfl | rfl | rfl | rfl | rfl <;> simp only [] <;> omega) (by omega)
theorem K_A6.bel {h0 h1 h2 h3 n0 n1 n2 n3 n4 : Int} {s p : Nat} {w w1 : World} (h : K_A6 h0 h1 h2 h3 n0 n1 n2 n3 n4 s p w w1) : Below w.heap.size w w1 := KL.bel h
theorem K_A6.cells {h0 h1 h2 h3 n0 n1 n2 n3 n4 : Int} {s p : Nat} {w w' : World} (h : K_A6 h0 h1 h2 h3 n0 n1 n2 n3 n4 s p w w') : w'.cell? ⟨s, 0, none⟩ = some (.int .i64 h0) ∧ w'.cell? ⟨s, 1, none⟩ = some (.int .i64 h1) ∧ w'.cell? ⟨s, 2, none⟩ = some (.int .i64 h2) ∧ w'.cell? ⟨s, 3, none⟩ = some (.int .i64 h3) ∧ w'.cell? ⟨p, 0, none⟩ = some (.int .i64 n0) ∧ w'.cell? ⟨p, 1, none⟩ = some (.int .i64 n1) ∧ w'.cell? ⟨p, 2, none⟩ = some (.int .i64 n2) ∧ w'.cell? ⟨p, 3, none⟩ = some (.int .i64 n3) ∧ w'.cell? ⟨p, 4, none⟩ = some (.int .i64 n4) := ⟨h.c (s, 0, .int .i64 h0) (by simp), h.c (s, 1, .int .i64 h1) (by simp), h.c (s, 2, .int .i64 h2) (by simp), h.c (s, 3, .int .i64 h3) (by simp), h.c (p, 0, .int .i64 n0) (by simp), h.c (p, 1, .int .i64 n1) (by simp), h.c (p, 2, .int .i64 n2) (by simp), h.c (p, 3, .int .i64 n3) (by simp), h.c (p, 4, .int .i64 n4) (by simp)⟩
theorem K_A6.zs {h0 h1 h2 h3 n0 n1 n2 n3 n4 : Int} {s p : Nat} {w w' : World} (h : K_A6 h0 h1 h2 h3 n0 n1 n2 n3 n4 s p w w') : s < w'.heap.size ∧ p < w'.heap.size ∧ True := ⟨KL.z h (x := (s, 0, .int .i64 h0)) (by simp), KL.z h (x := (p, 0, .int .i64 n0)) (by simp), trivial⟩
theorem K_A6.ks {h0 h1 h2 h3 n0 n1 n2 n3 n4 : Int} {s p : Nat} {w w' : World} (h : K_A6 h0 h1 h2 h3 n0 n1 n2 n3 n4 s p w w') : (w'.cell? ⟨s, 0, none⟩ = some (.int .i64 h0) ∧ w'.cell? ⟨s, 1, none⟩ = some (.int .i64 h1) ∧ w'.cell? ⟨s, 2, none⟩ = some (.int .i64 h2) ∧ w'.cell? ⟨s, 3, none⟩ = some (.int .i64 h3) ∧ w'.cell? ⟨p, 0, none⟩ = some (.int .i64 n0) ∧ w'.cell? ⟨p, 1, none⟩ = some (.int .i64 n1) ∧ w'.cell? ⟨p, 2, none⟩ = some (.int .i64 n2) ∧ w'.cell? ⟨p, 3, none⟩ = some (.int .i64 n3) ∧ w'.cell? ⟨p, 4, none⟩ = some (.int .i64 n4)) ∧ K_A6 h0 h1 h2 h3 n0 n1 n2 n3 n4 s p w w' := ⟨h.cells, h⟩
set_option maxHeartbeats 3200000 in
theorem rErr_any (n0 n1 n2 n3 d : Int) (w : World) :
    Calls Try.prog 21 #[.agg #[.int .i64 n0, .int .i64 n1, .int .i64 n2, .int .i64 n3, .int .i64 d]] w fun e w' => e = .returned (.int .i64 (acE ⟨n0, n1, n2, n3, d⟩)) ∧ Below w.heap.size w w' := by
  have QE := Lib.hid (fun W => rQuatErr_any n0 n1 n2 n3 d W)
  rcases acE_ways ⟨n0, n1, n2, n3, d⟩ with ⟨h, e1, e2⟩ | ⟨h, h1, e1, e2⟩ | ⟨h, h1, h2, e1, e2⟩ | ⟨h, h1, h2, e1, e2⟩
  · rw [e1]
    have e3 : chkQ n0 n1 n2 n3 d = 3 := (chkQ_val n0 n1 n2 n3 d).resolve_left h
    rw [e3] at QE
    clear h e1 e2 e3
    go_enter Try.func21, Try.ntmps21
    go_wp2_with fail
    refine (QE.out _).mono ?_
    rintro e w1 ⟨rfl, hb⟩
    have HB := Lib.hid (below_up (B := w.heap.size) (w := w) hb (by (repeat (first | (with_reducible exact Below.refl _ _) | (with_reducible exact HB.out) | (with_reducible refine below_draws ?_ _) | (with_reducible refine Below.alloc ?_ (by go_size) _) | (with_reducible refine Below.setCell ?_ (by go_size) _) | (with_reducible refine Below.alloc ?_ (by simp <;> omega) _) | (with_reducible refine Below.setCell ?_ (by simp <;> omega) _)))) (by simp))
    clear hb
    go_wp2
    go_ret
    exact ⟨rfl, by (repeat (first | (with_reducible exact Below.refl _ _) | (with_reducible exact HB.out) | (with_reducible refine below_draws ?_ _) | (with_reducible refine Below.alloc ?_ (by go_size) _) | (with_reducible refine Below.setCell ?_ (by go_size) _) | (with_reducible refine Below.alloc ?_ (by simp <;> omega) _) | (with_reducible refine Below.setCell ?_ (by simp <;> omega) _)))⟩
  · rw [e1]
    have e3 : chkQ n0 n1 n2 n3 d = 0 := h
    have OF := Lib.hid (fun W => rOf_ok n0 n1 n2 n3 d W e3)
    rw [e3] at QE
    have H1 := Lib.hid h1
    clear h h1 e1 e2 e3
    go_enter Try.func21, Try.ntmps21
    go_wp2_with fail
    refine (QE.out _).mono ?_
    rintro e w1 ⟨rfl, hb⟩
    have hK : K_A5 n0 n1 n2 n3 d w.heap.size w w1 := K_A5.below hb ⟨by simp [go_sem], by simp, by simp, by (repeat (first | (with_reducible exact Below.refl _ _) | (with_reducible exact HB.out) | (with_reducible refine below_draws ?_ _) | (with_reducible refine Below.alloc ?_ (by go_size) _) | (with_reducible refine Below.setCell ?_ (by go_size) _) | (with_reducible refine Below.alloc ?_ (by simp <;> omega) _) | (with_reducible refine Below.setCell ?_ (by simp <;> omega) _)))⟩
    clear hb
    obtain ⟨c0_, c1_, c2_, c3_, c4_⟩ := K_A5.cells hK; obtain ⟨z0_, -⟩ := K_A5.zs hK; have HK := Lib.hid hK; clear hK
    go_wp2_with fail
    refine (OF.out _).mono ?_
    rintro e w2 ⟨x, rfl, hx, hb⟩
    rw [H1.out]
    clear c0_ c1_ c2_ c3_ c4_ z0_
    have HB := Lib.hid (K_A5.bel (K_A5.below hb HK.out))
    have zz := HB.out.size
    clear hb HK hx
    go_wp2
    go_ret
    exact ⟨rfl, by (repeat (first | (with_reducible exact Below.refl _ _) | (with_reducible exact HB.out) | (with_reducible refine below_draws ?_ _) | (with_reducible refine Below.alloc ?_ (by go_size) _) | (with_reducible refine Below.setCell ?_ (by go_size) _) | (with_reducible refine Below.alloc ?_ (by simp <;> omega) _) | (with_reducible refine Below.setCell ?_ (by simp <;> omega) _)))⟩
  · rw [e1]
    have e3 : chkQ n0 n1 n2 n3 d = 0 := h
    have OF := Lib.hid (fun W => rOf_ok n0 n1 n2 n3 d W e3)
    have NM := Lib.hid (fun W => rNorm_h (hL (Q.mk n0 n1 n2 n3 d).low) W (HB_up2 (hL_bd e3)))
    rw [e3] at QE
    have H1 := Lib.hid h1
    have t1 : decide (N (hL (Q.mk n0 n1 n2 n3 d).low) > 1000000) = true := decide_eq_true h2
    have t2 : decide (1000000 < N (hL (Q.mk n0 n1 n2 n3 d).low)) = true := t1
    obtain ⟨x, hx⟩ : ∃ x, hL (Q.mk n0 n1 n2 n3 d).low = x := ⟨_, rfl⟩
    rw [hx] at NM t1 t2
    have HX := Lib.hid hx
    clear h h1 h2 e1 e2 e3 hx
    generalize N x = nx at *
    obtain ⟨x0, x1, x2, x3⟩ := x
    simp only [] at NM
    go_enter Try.func21, Try.ntmps21
    go_wp2_with fail
    refine (QE.out _).mono ?_
    rintro e w1 ⟨rfl, hb⟩
    have hK : K_A5 n0 n1 n2 n3 d w.heap.size w w1 := K_A5.below hb ⟨by simp [go_sem], by simp, by simp, by (repeat (first | (with_reducible exact Below.refl _ _) | (with_reducible exact HB.out) | (with_reducible refine below_draws ?_ _) | (with_reducible refine Below.alloc ?_ (by go_size) _) | (with_reducible refine Below.setCell ?_ (by go_size) _) | (with_reducible refine Below.alloc ?_ (by simp <;> omega) _) | (with_reducible refine Below.setCell ?_ (by simp <;> omega) _)))⟩
    clear hb
    obtain ⟨c0_, c1_, c2_, c3_, c4_⟩ := K_A5.cells hK; obtain ⟨z0_, -⟩ := K_A5.zs hK; have HK := Lib.hid hK; clear hK
    go_wp2_with fail
    refine (OF.out _).mono ?_
    rintro e w2 ⟨hh, rfl, hi, hb⟩
    obtain rfl := (hi H1.out).trans HX.out
    rw [H1.out]
    clear c0_ c1_ c2_ c3_ c4_ z0_
    have hK := K_A5.below hb HK.out
    clear hb HK hi
    have HB := Lib.hid (K_A5.bel hK)
    go_wp2_with fail
    refine (NM.out _).mono ?_
    rintro e w3 ⟨rfl, hb⟩
    have HB2 := Lib.hid (K_A5.bel (K_A5.below hb (K_A5.alloc _ hK)))
    clear hb HB hK
    have HB := HB2
    clear HB2
    go_wp2
    go_ret
    exact ⟨rfl, by (repeat (first | (with_reducible exact Below.refl _ _) | (with_reducible exact HB.out) | (with_reducible refine below_draws ?_ _) | (with_reducible refine Below.alloc ?_ (by go_size) _) | (with_reducible refine Below.setCell ?_ (by go_size) _) | (with_reducible refine Below.alloc ?_ (by simp <;> omega) _) | (with_reducible refine Below.setCell ?_ (by simp <;> omega) _)))⟩
  · rw [e1]
    have e3 : chkQ n0 n1 n2 n3 d = 0 := h
    have OF := Lib.hid (fun W => rOf_ok n0 n1 n2 n3 d W e3)
    have NM := Lib.hid (fun W => rNorm_h (hL (Q.mk n0 n1 n2 n3 d).low) W (HB_up2 (hL_bd e3)))
    rw [e3] at QE
    have H1 := Lib.hid h1
    have t1 : decide (N (hL (Q.mk n0 n1 n2 n3 d).low) > 1000000) = false := decide_eq_false (by omega)
    have t2 : decide (1000000 < N (hL (Q.mk n0 n1 n2 n3 d).low)) = false := t1
    obtain ⟨x, hx⟩ : ∃ x, hL (Q.mk n0 n1 n2 n3 d).low = x := ⟨_, rfl⟩
    rw [hx] at NM t1 t2
    have HX := Lib.hid hx
    clear h h1 h2 e1 e2 e3 hx
    generalize N x = nx at *
    obtain ⟨x0, x1, x2, x3⟩ := x
    simp only [] at NM
    go_enter Try.func21, Try.ntmps21
    go_wp2_with fail
    refine (QE.out _).mono ?_
    rintro e w1 ⟨rfl, hb⟩
    have hK : K_A5 n0 n1 n2 n3 d w.heap.size w w1 := K_A5.below hb ⟨by simp [go_sem], by simp, by simp, by (repeat (first | (with_reducible exact Below.refl _ _) | (with_reducible exact HB.out) | (with_reducible refine below_draws ?_ _) | (with_reducible refine Below.alloc ?_ (by go_size) _) | (with_reducible refine Below.setCell ?_ (by go_size) _) | (with_reducible refine Below.alloc ?_ (by simp <;> omega) _) | (with_reducible refine Below.setCell ?_ (by simp <;> omega) _)))⟩
    clear hb
    obtain ⟨c0_, c1_, c2_, c3_, c4_⟩ := K_A5.cells hK; obtain ⟨z0_, -⟩ := K_A5.zs hK; have HK := Lib.hid hK; clear hK
    go_wp2_with fail
    refine (OF.out _).mono ?_
    rintro e w2 ⟨hh, rfl, hi, hb⟩
    obtain rfl := (hi H1.out).trans HX.out
    rw [H1.out]
    clear c0_ c1_ c2_ c3_ c4_ z0_
    have hK := K_A5.below hb HK.out
    clear hb HK hi
    have HB := Lib.hid (K_A5.bel hK)
    go_wp2_with fail
    refine (NM.out _).mono ?_
    rintro e w3 ⟨rfl, hb⟩
    have HB2 := Lib.hid (K_A5.bel (K_A5.below hb (K_A5.alloc _ hK)))
    clear hb HB hK
    have HB := HB2
    clear HB2
    go_wp2
    go_ret
    exact ⟨rfl, by (repeat (first | (with_reducible exact Below.refl _ _) | (with_reducible exact HB.out) | (with_reducible refine below_draws ?_ _) | (with_reducible refine Below.alloc ?_ (by go_size) _) | (with_reducible refine Below.setCell ?_ (by go_size) _) | (with_reducible refine Below.alloc ?_ (by simp <;> omega) _) | (with_reducible refine Below.setCell ?_ (by simp <;> omega) _)))⟩
theorem Try.eqQ (a b c d f x y z t u : Int) (w : World) : (Op.equalIn 10000 23 (.agg #[.int .i64 a, .int .i64 b, .int .i64 c, .int .i64 d, .int .i64 f]) (.agg #[.int .i64 x, .int .i64 y, .int .i64 z, .int .i64 t, .int .i64 u])).run Try.prog w = .ok (a == x && (b == y && (c == z && (d == t && f == u)))) w := by
  by_cases g0 : a = x <;> by_cases g1 : b = y <;> by_cases g2 : c = z <;> by_cases g3 : d = t <;> by_cases g4 : f = u <;> simp [go_sem, g0, g1, g2, g3, g4]
def zQ (q : Q) : Bool := q.w == 0 && (q.x == 0 && (q.y == 0 && (q.z == 0 && q.d == 0)))
theorem zero_any (q : Q) (w : World) :
    Calls Try.prog 22 #[.agg #[.int .i64 (q).w, .int .i64 (q).x, .int .i64 (q).y, .int .i64 (q).z, .int .i64 (q).d]] w fun e w' => e = .returned (.bool (zQ q)) ∧ Below w.heap.size w w' := by
  obtain ⟨a, b, c, d, f⟩ := q
  obtain ⟨E, hE⟩ : ∃ E, zQ ⟨a, b, c, d, f⟩ = E := ⟨_, rfl⟩
  have eq : ∀ W : World, (Op.equalIn 10000 23 (.agg #[.int .i64 a, .int .i64 b, .int .i64 c, .int .i64 d, .int .i64 f]) (.agg #[.int .i64 0, .int .i64 0, .int .i64 0, .int .i64 0, .int .i64 0])).run Try.prog W = .ok E W := fun W => by rw [Try.eqQ, ← hE]; rfl
  rw [hE]
  clear hE
  simp only []
  go_enter Try.func22, Try.ntmps22
  go_wp2
  go_ret
  exact ⟨rfl, by (repeat (first | (with_reducible exact Below.refl _ _) | (with_reducible exact HB.out) | (with_reducible refine below_draws ?_ _) | (with_reducible refine Below.alloc ?_ (by go_size) _) | (with_reducible refine Below.setCell ?_ (by go_size) _) | (with_reducible refine Below.alloc ?_ (by simp <;> omega) _) | (with_reducible refine Below.setCell ?_ (by simp <;> omega) _)))⟩
end Go.Proofs.Yteiflfmpkfhkoaa.Rt
