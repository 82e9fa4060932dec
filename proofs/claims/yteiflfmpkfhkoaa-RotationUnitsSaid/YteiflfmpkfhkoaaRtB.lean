/-
  WALKS: elements accepted as Hurwitz quaternions, or their errors; norms, and whether an element is one, the program's.
-/
import Derived.Test.YteiflfmpkfhkoaaRtA
namespace Go.Proofs.Yteiflfmpkfhkoaa.Rt
open Go.RowKit
open Alm Hwm Al
set_option linter.unusedVariables false
set_option linter.unusedSimpArgs false
set_option maxRecDepth 100000
/-- what a walk keeps: cells, and that nothing that was there has turned -/
def K_Ac (n0 n1 n2 n3 n4 : Int) (p R : Nat) (w w' : World) : Prop := KL w [(p, 0, .int .i64 n0), (p, 1, .int .i64 n1), (p, 2, .int .i64 n2), (p, 3, .int .i64 n3), (p, 4, .int .i64 n4)] [(R, 0), (R, 1), (R, 2), (R, 3)] w'
theorem K_Ac.below {n0 n1 n2 n3 n4 : Int} {p R : Nat} {w w1 w2 : World} (hb : Below w1.heap.size w1 w2) (h : K_Ac n0 n1 n2 n3 n4 p R w w1) : K_Ac n0 n1 n2 n3 n4 p R w w2 := KL.below hb h
theorem K_Ac.draws {n0 n1 n2 n3 n4 : Int} {p R : Nat} {w w1 : World} (n : Nat) (h : K_Ac n0 n1 n2 n3 n4 p R w w1) : K_Ac n0 n1 n2 n3 n4 p R w (w1.drewN n) := KL.draws n h
theorem K_Ac.drew {n0 n1 n2 n3 n4 : Int} {p R : Nat} {w w1 : World} (h : K_Ac n0 n1 n2 n3 n4 p R w w1) : K_Ac n0 n1 n2 n3 n4 p R w w1.drew := KL.draws 1 h
theorem K_Ac.alloc {n0 n1 n2 n3 n4 : Int} {p R : Nat} {w w1 : World} (o : Obj) (h : K_Ac n0 n1 n2 n3 n4 p R w w1) : K_Ac n0 n1 n2 n3 n4 p R w (w1.alloc o) := KL.alloc o h
theorem K_Ac.set {n0 n1 n2 n3 n4 : Int} {p R : Nat} {w w1 : World} (h : K_Ac n0 n1 n2 n3 n4 p R w w1) (b i : Nat) (v : Value) (hb : b ≠ p ∧ w.heap.size ≤ b) : K_Ac n0 n1 n2 n3 n4 p R w (w1.setCell ⟨b, i, none⟩ v) :=
  KL.set h b i v (by intro x hx; simp only [List.mem_cons, List.not_mem_nil, or_false] at hx; rcases hx with rfl | rfl | rfl | rfl | rfl <;> simp only [] <;> omega) (by omega)
theorem K_Ac.bel {n0 n1 n2 n3 n4 : Int} {p R : Nat} {w w1 : World} (h : K_Ac n0 n1 n2 n3 n4 p R w w1) : Below w.heap.size w w1 := KL.bel h
theorem K_Ac.cells {n0 n1 n2 n3 n4 : Int} {p R : Nat} {w w' : World} (h : K_Ac n0 n1 n2 n3 n4 p R w w') : w'.cell? ⟨p, 0, none⟩ = some (.int .i64 n0) ∧ w'.cell? ⟨p, 1, none⟩ = some (.int .i64 n1) ∧ w'.cell? ⟨p, 2, none⟩ = some (.int .i64 n2) ∧ w'.cell? ⟨p, 3, none⟩ = some (.int .i64 n3) ∧ w'.cell? ⟨p, 4, none⟩ = some (.int .i64 n4) ∧ w'.cell? ⟨R, 0, none⟩ = some (cv w' R 0) ∧ w'.frozen? ⟨R, 0, none⟩ = false ∧ w'.cell? ⟨R, 1, none⟩ = some (cv w' R 1) ∧ w'.frozen? ⟨R, 1, none⟩ = false ∧ w'.cell? ⟨R, 2, none⟩ = some (cv w' R 2) ∧ w'.frozen? ⟨R, 2, none⟩ = false ∧ w'.cell? ⟨R, 3, none⟩ = some (cv w' R 3) ∧ w'.frozen? ⟨R, 3, none⟩ = false := ⟨h.c (p, 0, .int .i64 n0) (by simp), h.c (p, 1, .int .i64 n1) (by simp), h.c (p, 2, .int .i64 n2) (by simp), h.c (p, 3, .int .i64 n3) (by simp), h.c (p, 4, .int .i64 n4) (by simp), h.d (R, 0) (by simp), h.f (R, 0) (by simp), h.d (R, 1) (by simp), h.f (R, 1) (by simp), h.d (R, 2) (by simp), h.f (R, 2) (by simp), h.d (R, 3) (by simp), h.f (R, 3) (by simp)⟩
theorem K_Ac.zs {n0 n1 n2 n3 n4 : Int} {p R : Nat} {w w' : World} (h : K_Ac n0 n1 n2 n3 n4 p R w w') : p < w'.heap.size ∧ R < w'.heap.size ∧ True := ⟨KL.z h (x := (p, 0, .int .i64 n0)) (by simp), KL.zf h (x := (R, 0)) (by simp), trivial⟩
theorem K_Ac.ks {n0 n1 n2 n3 n4 : Int} {p R : Nat} {w w' : World} (h : K_Ac n0 n1 n2 n3 n4 p R w w') : (w'.cell? ⟨p, 0, none⟩ = some (.int .i64 n0) ∧ w'.cell? ⟨p, 1, none⟩ = some (.int .i64 n1) ∧ w'.cell? ⟨p, 2, none⟩ = some (.int .i64 n2) ∧ w'.cell? ⟨p, 3, none⟩ = some (.int .i64 n3) ∧ w'.cell? ⟨p, 4, none⟩ = some (.int .i64 n4) ∧ w'.cell? ⟨R, 0, none⟩ = some (cv w' R 0) ∧ w'.frozen? ⟨R, 0, none⟩ = false ∧ w'.cell? ⟨R, 1, none⟩ = some (cv w' R 1) ∧ w'.frozen? ⟨R, 1, none⟩ = false ∧ w'.cell? ⟨R, 2, none⟩ = some (cv w' R 2) ∧ w'.frozen? ⟨R, 2, none⟩ = false ∧ w'.cell? ⟨R, 3, none⟩ = some (cv w' R 3) ∧ w'.frozen? ⟨R, 3, none⟩ = false) ∧ K_Ac n0 n1 n2 n3 n4 p R w w' := ⟨h.cells, h⟩
/-- what a walk keeps: cells, and that nothing that was there has turned -/
def K_Ax (h0 h1 h2 h3 n0 n1 n2 n3 n4 : Int) (s p R : Nat) (w w' : World) : Prop := KL w [(s, 0, .int .i64 h0), (s, 1, .int .i64 h1), (s, 2, .int .i64 h2), (s, 3, .int .i64 h3), (p, 0, .int .i64 n0), (p, 1, .int .i64 n1), (p, 2, .int .i64 n2), (p, 3, .int .i64 n3), (p, 4, .int .i64 n4)] [(R, 0), (R, 1), (R, 2), (R, 3)] w'
theorem K_Ax.below {h0 h1 h2 h3 n0 n1 n2 n3 n4 : Int} {s p R : Nat} {w w1 w2 : World} (hb : Below w1.heap.size w1 w2) (h : K_Ax h0 h1 h2 h3 n0 n1 n2 n3 n4 s p R w w1) : K_Ax h0 h1 h2 h3 n0 n1 n2 n3 n4 s p R w w2 := KL.below hb h
theorem K_Ax.draws {h0 h1 h2 h3 n0 n1 n2 n3 n4 : Int} {s p R : Nat} {w w1 : World} (n : Nat) (h : K_Ax h0 h1 h2 h3 n0 n1 n2 n3 n4 s p R w w1) : K_Ax h0 h1 h2 h3 n0 n1 n2 n3 n4 s p R w (w1.drewN n) := KL.draws n h
theorem K_Ax.drew {h0 h1 h2 h3 n0 n1 n2 n3 n4 : Int} {s p R : Nat} {w w1 : World} (h : K_Ax h0 h1 h2 h3 n0 n1 n2 n3 n4 s p R w w1) : K_Ax h0 h1 h2 h3 n0 n1 n2 n3 n4 s p R w w1.drew := KL.draws 1 h
theorem K_Ax.alloc {h0 h1 h2 h3 n0 n1 n2 n3 n4 : Int} {s p R : Nat} {w w1 : World} (o : Obj) (h : K_Ax h0 h1 h2 h3 n0 n1 n2 n3 n4 s p R w w1) : K_Ax h0 h1 h2 h3 n0 n1 n2 n3 n4 s p R w (w1.alloc o) := KL.alloc o h
theorem K_Ax.set {h0 h1 h2 h3 n0 n1 n2 n3 n4 : Int} {s p R : Nat} {w w1 : World} (h : K_Ax h0 h1 h2 h3 n0 n1 n2 n3 n4 s p R w w1) (b i : Nat) (v : Value) (hb : b ≠ s ∧ b ≠ p ∧ w.heap.size ≤ b) : K_Ax h0 h1 h2 h3 n0 n1 n2 n3 n4 s p R w (w1.setCell ⟨b, i, none⟩ v) :=
  KL.set h b i v (by intro x hx; simp only [List.mem_cons, List.not_mem_nil, or_false] at hx; rcases hx with rfl | rfl | rfl | rfl | rfl | rfl | rfl | rfl | rfl <;> simp only [] <;> omega) (by omega)
theorem K_Ax.bel {h0 h1 h2 h3 n0 n1 n2 n3 n4 : Int} {s p R : Nat} {w w1 : World} (h : K_Ax h0 h1 h2 h3 n0 n1 n2 n3 n4 s p R w w1) : Below w.heap.size w w1 := KL.bel h
theorem K_Ax.cells {h0 h1 h2 h3 n0 n1 n2 n3 n4 : Int} {s p R : Nat} {w w' : World} (h : K_Ax h0 h1 h2 h3 n0 n1 n2 n3 n4 s p R w w') : w'.cell? ⟨s, 0, none⟩ = some (.int .i64 h0) ∧ w'.cell? ⟨s, 1, none⟩ = some (.int .i64 h1) ∧ w'.cell? ⟨s, 2, none⟩ = some (.int .i64 h2) ∧ w'.cell? ⟨s, 3, none⟩ = some (.int .i64 h3) ∧ w'.cell? ⟨p, 0, none⟩ = some (.int .i64 n0) ∧ w'.cell? ⟨p, 1, none⟩ = some (.int .i64 n1) ∧ w'.cell? ⟨p, 2, none⟩ = some (.int .i64 n2) ∧ w'.cell? ⟨p, 3, none⟩ = some (.int .i64 n3) ∧ w'.cell? ⟨p, 4, none⟩ = some (.int .i64 n4) ∧ w'.cell? ⟨R, 0, none⟩ = some (cv w' R 0) ∧ w'.frozen? ⟨R, 0, none⟩ = false ∧ w'.cell? ⟨R, 1, none⟩ = some (cv w' R 1) ∧ w'.frozen? ⟨R, 1, none⟩ = false ∧ w'.cell? ⟨R, 2, none⟩ = some (cv w' R 2) ∧ w'.frozen? ⟨R, 2, none⟩ = false ∧ w'.cell? ⟨R, 3, none⟩ = some (cv w' R 3) ∧ w'.frozen? ⟨R, 3, none⟩ = false := ⟨h.c (s, 0, .int .i64 h0) (by simp), h.c (s, 1, .int .i64 h1) (by simp), h.c (s, 2, .int .i64 h2) (by simp), h.c (s, 3, .int .i64 h3) (by simp), h.c (p, 0, .int .i64 n0) (by simp), h.c (p, 1, .int .i64 n1) (by simp), h.c (p, 2, .int .i64 n2) (by simp), h.c (p, 3, .int .i64 n3) (by simp), h.c (p, 4, .int .i64 n4) (by simp), h.d (R, 0) (by simp), h.f (R, 0) (by simp), h.d (R, 1) (by simp), h.f (R, 1) (by simp), h.d (R, 2) (by simp), h.f (R, 2) (by simp), h.d (R, 3) (by simp), h.f (R, 3) (by simp)⟩
theorem K_Ax.zs {h0 h1 h2 h3 n0 n1 n2 n3 n4 : Int} {s p R : Nat} {w w' : World} (h : K_Ax h0 h1 h2 h3 n0 n1 n2 n3 n4 s p R w w') : s < w'.heap.size ∧ p < w'.heap.size ∧ R < w'.heap.size ∧ True := ⟨KL.z h (x := (s, 0, .int .i64 h0)) (by simp), KL.z h (x := (p, 0, .int .i64 n0)) (by simp), KL.zf h (x := (R, 0)) (by simp), trivial⟩
theorem K_Ax.ks {h0 h1 h2 h3 n0 n1 n2 n3 n4 : Int} {s p R : Nat} {w w' : World} (h : K_Ax h0 h1 h2 h3 n0 n1 n2 n3 n4 s p R w w') : (w'.cell? ⟨s, 0, none⟩ = some (.int .i64 h0) ∧ w'.cell? ⟨s, 1, none⟩ = some (.int .i64 h1) ∧ w'.cell? ⟨s, 2, none⟩ = some (.int .i64 h2) ∧ w'.cell? ⟨s, 3, none⟩ = some (.int .i64 h3) ∧ w'.cell? ⟨p, 0, none⟩ = some (.int .i64 n0) ∧ w'.cell? ⟨p, 1, none⟩ = some (.int .i64 n1) ∧ w'.cell? ⟨p, 2, none⟩ = some (.int .i64 n2) ∧ w'.cell? ⟨p, 3, none⟩ = some (.int .i64 n3) ∧ w'.cell? ⟨p, 4, none⟩ = some (.int .i64 n4) ∧ w'.cell? ⟨R, 0, none⟩ = some (cv w' R 0) ∧ w'.frozen? ⟨R, 0, none⟩ = false ∧ w'.cell? ⟨R, 1, none⟩ = some (cv w' R 1) ∧ w'.frozen? ⟨R, 1, none⟩ = false ∧ w'.cell? ⟨R, 2, none⟩ = some (cv w' R 2) ∧ w'.frozen? ⟨R, 2, none⟩ = false ∧ w'.cell? ⟨R, 3, none⟩ = some (cv w' R 3) ∧ w'.frozen? ⟨R, 3, none⟩ = false) ∧ K_Ax h0 h1 h2 h3 n0 n1 n2 n3 n4 s p R w w' := ⟨h.cells, h⟩
theorem hL_bd {q : Q} (h : chkQ q.w q.x q.y q.z q.d = 0) : HB 2000000 (hL q.low) := by
  obtain ⟨b0, b1, b2, b3, -, -⟩ := low_bd h
  unfold hL
  split
  · exact ⟨by simp only; omega, by simp only; omega, by simp only; omega, by simp only; omega⟩
  · exact ⟨by simp only; omega, by simp only; omega, by simp only; omega, by simp only; omega⟩
set_option maxHeartbeats 3200000 in
theorem accept_any (n0 n1 n2 n3 d : Int) (w : World) :
    Calls Try.prog 67 #[.agg #[.int .i64 n0, .int .i64 n1, .int .i64 n2, .int .i64 n3, .int .i64 d]] w fun e w' => e = .returned (.tuple #[.agg #[.int .i64 (acH ⟨n0, n1, n2, n3, d⟩).w, .int .i64 (acH ⟨n0, n1, n2, n3, d⟩).x, .int .i64 (acH ⟨n0, n1, n2, n3, d⟩).y, .int .i64 (acH ⟨n0, n1, n2, n3, d⟩).z], .int .i64 (acE ⟨n0, n1, n2, n3, d⟩)]) ∧ Below w.heap.size w w' := by
  have CQ := Lib.hid (fun W => CheckQuat_any n0 n1 n2 n3 d W)
  rcases acE_ways ⟨n0, n1, n2, n3, d⟩ with ⟨h, e1, e2⟩ | ⟨h, h1, e1, e2⟩ | ⟨h, h1, h2, e1, e2⟩ | ⟨h, h1, h2, e1, e2⟩
  · rw [e1, e2]
    have e3 : chkQ n0 n1 n2 n3 d = 3 := by rcases chkQ_val n0 n1 n2 n3 d with h0 | h0; exact absurd h0 h; exact h0
    rw [e3] at CQ
    clear h e1 e2 e3
    go_enter Try.func67, Try.ntmps67
    go_wp2_with fail
    refine (CQ.out _).mono ?_
    rintro e w1 ⟨rfl, hb⟩
    have hK : K_Ac n0 n1 n2 n3 d w.heap.size (w.heap.size + 1) w w1 := K_Ac.below hb ⟨by simp [go_sem], by simp [go_sem], by simp [go_sem], by (repeat (first | (with_reducible exact Below.refl _ _) | (with_reducible exact HB.out) | (with_reducible refine below_draws ?_ _) | (with_reducible refine Below.alloc ?_ (by go_size) _) | (with_reducible refine Below.setCell ?_ (by go_size) _) | (with_reducible refine Below.alloc ?_ (by simp <;> omega) _) | (with_reducible refine Below.setCell ?_ (by simp <;> omega) _)))⟩
    clear hb
    obtain ⟨c0_, c1_, c2_, c3_, c4_, d0_, f0_, d1_, f1_, d2_, f2_, d3_, f3_⟩ := K_Ac.cells hK; obtain ⟨z0_, z1_, -⟩ := K_Ac.zs hK; have HK := Lib.hid hK; clear hK
    have HB := Lib.hid (K_Ac.bel HK.out)
    go_wp2
    exact bodyPost_ret (v := .tuple #[.agg #[.int .i64 0, .int .i64 0, .int .i64 0, .int .i64 0], .int .i64 3]) (by simp [results, Try.results67, go_sem, c0_, c1_, c2_, c3_, c4_, d0_, f0_, d1_, f1_, d2_, f2_, d3_, f3_]) rfl ⟨rfl, by (repeat (first | (with_reducible exact Below.refl _ _) | (with_reducible exact HB.out) | (with_reducible refine below_draws ?_ _) | (with_reducible refine Below.alloc ?_ (by go_size) _) | (with_reducible refine Below.setCell ?_ (by go_size) _) | (with_reducible refine Below.alloc ?_ (by simp <;> omega) _) | (with_reducible refine Below.setCell ?_ (by simp <;> omega) _)))⟩
  · rw [e1, e2]
    have e3 : chkQ n0 n1 n2 n3 d = 0 := h
    have HO := Lib.hid (fun W => hurwitzOf_ok n0 n1 n2 n3 d W h)
    rw [e3] at CQ
    have H1 := Lib.hid h1
    clear h e1 e2 e3 h1
    go_enter Try.func67, Try.ntmps67
    go_wp2_with fail
    refine (CQ.out _).mono ?_
    rintro e w1 ⟨rfl, hb⟩
    have hK : K_Ac n0 n1 n2 n3 d w.heap.size (w.heap.size + 1) w w1 := K_Ac.below hb ⟨by simp [go_sem], by simp [go_sem], by simp [go_sem], by (repeat (first | (with_reducible exact Below.refl _ _) | (with_reducible exact HB.out) | (with_reducible refine below_draws ?_ _) | (with_reducible refine Below.alloc ?_ (by go_size) _) | (with_reducible refine Below.setCell ?_ (by go_size) _) | (with_reducible refine Below.alloc ?_ (by simp <;> omega) _) | (with_reducible refine Below.setCell ?_ (by simp <;> omega) _)))⟩
    clear hb
    obtain ⟨c0_, c1_, c2_, c3_, c4_, d0_, f0_, d1_, f1_, d2_, f2_, d3_, f3_⟩ := K_Ac.cells hK; obtain ⟨z0_, z1_, -⟩ := K_Ac.zs hK; have HK := Lib.hid hK; clear hK
    go_wp2_with fail
    refine (HO.out _).mono ?_
    rintro e w2 ⟨hh, rfl, -, hb⟩
    rw [H1.out]
    obtain ⟨h0, h1, h2, h3⟩ := hh
    clear c0_ c1_ c2_ c3_ c4_ d0_ f0_ d1_ f1_ d2_ f2_ d3_ f3_ z0_ z1_
    have hK : K_Ax h0 h1 h2 h3 n0 n1 n2 n3 d w2.heap.size w.heap.size (w.heap.size + 1) w (w2.alloc (.cells #[.int .i64 h0, .int .i64 h1, .int .i64 h2, .int .i64 h3] 97)) := KL.push4 (K_Ac.below hb HK.out) h0 h1 h2 h3 _ _ rfl
    have hK0 := K_Ac.below hb HK.out
    clear hb HK
    have HK2 := Lib.hid hK
    clear hK
    have hK := hK0
    clear hK0
    obtain ⟨c0_, c1_, c2_, c3_, c4_, d0_, f0_, d1_, f1_, d2_, f2_, d3_, f3_⟩ := K_Ac.cells hK; obtain ⟨z0_, z1_, -⟩ := K_Ac.zs hK; have HK := Lib.hid hK; clear hK
    have HB := Lib.hid (K_Ac.bel HK.out)
    go_wp2
    exact bodyPost_ret (v := .tuple #[.agg #[.int .i64 0, .int .i64 0, .int .i64 0, .int .i64 0], .int .i64 14]) (by simp [results, Try.results67, go_sem, c0_, c1_, c2_, c3_, c4_, d0_, f0_, d1_, f1_, d2_, f2_, d3_, f3_, z0_, z1_]) rfl ⟨rfl, by (repeat (first | (with_reducible exact Below.refl _ _) | (with_reducible exact HB.out) | (with_reducible refine below_draws ?_ _) | (with_reducible refine Below.alloc ?_ (by go_size) _) | (with_reducible refine Below.setCell ?_ (by go_size) _) | (with_reducible refine Below.alloc ?_ (by simp <;> omega) _) | (with_reducible refine Below.setCell ?_ (by simp <;> omega) _)))⟩
  · rw [e1, e2]
    have e3 : chkQ n0 n1 n2 n3 d = 0 := h
    have HO := Lib.hid (fun W => hurwitzOf_ok n0 n1 n2 n3 d W h)
    have bd := hL_bd (q := ⟨n0, n1, n2, n3, d⟩) h
    have NM := Lib.hid (fun W => norm_f (hL (Q.mk n0 n1 n2 n3 d).low).w (hL (Q.mk n0 n1 n2 n3 d).low).x (hL (Q.mk n0 n1 n2 n3 d).low).y (hL (Q.mk n0 n1 n2 n3 d).low).z W (by have := bd.1; omega) (by have := bd.2.1; omega) (by have := bd.2.2.1; omega) (by have := bd.2.2.2; omega))
    rw [show (H.mk (hL (Q.mk n0 n1 n2 n3 d).low).w (hL (Q.mk n0 n1 n2 n3 d).low).x (hL (Q.mk n0 n1 n2 n3 d).low).y (hL (Q.mk n0 n1 n2 n3 d).low).z) = hL (Q.mk n0 n1 n2 n3 d).low from rfl] at NM
    rw [e3] at CQ
    have H1 := Lib.hid h1
    have t : decide (N (hL (Q.mk n0 n1 n2 n3 d).low) > 1000000) = true := decide_eq_true h2
    have t' : decide (1000000 < N (hL (Q.mk n0 n1 n2 n3 d).low)) = true := decide_eq_true h2
    clear h e1 e2 e3 h1 bd h2
    go_enter Try.func67, Try.ntmps67
    go_wp2_with fail
    refine (CQ.out _).mono ?_
    rintro e w1 ⟨rfl, hb⟩
    have hK : K_Ac n0 n1 n2 n3 d w.heap.size (w.heap.size + 1) w w1 := K_Ac.below hb ⟨by simp [go_sem], by simp [go_sem], by simp [go_sem], by (repeat (first | (with_reducible exact Below.refl _ _) | (with_reducible exact HB.out) | (with_reducible refine below_draws ?_ _) | (with_reducible refine Below.alloc ?_ (by go_size) _) | (with_reducible refine Below.setCell ?_ (by go_size) _) | (with_reducible refine Below.alloc ?_ (by simp <;> omega) _) | (with_reducible refine Below.setCell ?_ (by simp <;> omega) _)))⟩
    clear hb
    obtain ⟨c0_, c1_, c2_, c3_, c4_, d0_, f0_, d1_, f1_, d2_, f2_, d3_, f3_⟩ := K_Ac.cells hK; obtain ⟨z0_, z1_, -⟩ := K_Ac.zs hK; have HK := Lib.hid hK; clear hK
    go_wp2_with fail
    refine (HO.out _).mono ?_
    rintro e w2 ⟨hh, rfl, hi, hb⟩
    obtain rfl := hi H1.out
    rw [H1.out]
    clear hi
    generalize hL (Q.mk n0 n1 n2 n3 d).low = hh at *
    generalize N hh = nh at *
    obtain ⟨h0, h1, h2, h3⟩ := hh
    simp only [] at NM
    clear c0_ c1_ c2_ c3_ c4_ d0_ f0_ d1_ f1_ d2_ f2_ d3_ f3_ z0_ z1_
    have hK0 := K_Ac.below hb HK.out
    have HK2 : Hid (K_Ax h0 h1 h2 h3 n0 n1 n2 n3 d w2.heap.size w.heap.size (w.heap.size + 1) w (w2.alloc (.cells #[.int .i64 h0, .int .i64 h1, .int .i64 h2, .int .i64 h3] 97))) := Lib.hid (KL.push4 hK0 h0 h1 h2 h3 _ _ rfl)
    clear hb HK
    have hK := hK0
    clear hK0
    obtain ⟨c0_, c1_, c2_, c3_, c4_, d0_, f0_, d1_, f1_, d2_, f2_, d3_, f3_⟩ := K_Ac.cells hK; obtain ⟨z0_, z1_, -⟩ := K_Ac.zs hK; have HK := Lib.hid hK; clear hK
    go_wp2_with fail
    refine (NM.out _).mono ?_
    rintro e w3 ⟨rfl, hb⟩
    clear c0_ c1_ c2_ c3_ c4_ d0_ f0_ d1_ f1_ d2_ f2_ d3_ f3_ z0_ z1_
    have hK := K_Ax.below hb HK2.out
    clear hb HK HK2
    obtain ⟨c0_, c1_, c2_, c3_, c4_, c5_, c6_, c7_, c8_, d0_, f0_, d1_, f1_, d2_, f2_, d3_, f3_⟩ := K_Ax.cells hK; obtain ⟨z0_, z1_, z2_, -⟩ := K_Ax.zs hK; have HK := Lib.hid hK; clear hK
    have HB := Lib.hid (K_Ax.bel HK.out)
    go_wp2
    exact bodyPost_ret (v := .tuple #[.agg #[.int .i64 0, .int .i64 0, .int .i64 0, .int .i64 0], .int .i64 8]) (by simp [results, Try.results67, go_sem, c0_, c1_, c2_, c3_, c4_, c5_, c6_, c7_, c8_, d0_, f0_, d1_, f1_, d2_, f2_, d3_, f3_, z0_, z1_]) rfl ⟨rfl, by (repeat (first | (with_reducible exact Below.refl _ _) | (with_reducible exact HB.out) | (with_reducible refine below_draws ?_ _) | (with_reducible refine Below.alloc ?_ (by go_size) _) | (with_reducible refine Below.setCell ?_ (by go_size) _) | (with_reducible refine Below.alloc ?_ (by simp <;> omega) _) | (with_reducible refine Below.setCell ?_ (by simp <;> omega) _)))⟩
  · rw [e1, e2]
    have e3 : chkQ n0 n1 n2 n3 d = 0 := h
    have HO := Lib.hid (fun W => hurwitzOf_ok n0 n1 n2 n3 d W h)
    have bd := hL_bd (q := ⟨n0, n1, n2, n3, d⟩) h
    have NM := Lib.hid (fun W => norm_f (hL (Q.mk n0 n1 n2 n3 d).low).w (hL (Q.mk n0 n1 n2 n3 d).low).x (hL (Q.mk n0 n1 n2 n3 d).low).y (hL (Q.mk n0 n1 n2 n3 d).low).z W (by have := bd.1; omega) (by have := bd.2.1; omega) (by have := bd.2.2.1; omega) (by have := bd.2.2.2; omega))
    rw [show (H.mk (hL (Q.mk n0 n1 n2 n3 d).low).w (hL (Q.mk n0 n1 n2 n3 d).low).x (hL (Q.mk n0 n1 n2 n3 d).low).y (hL (Q.mk n0 n1 n2 n3 d).low).z) = hL (Q.mk n0 n1 n2 n3 d).low from rfl] at NM
    rw [e3] at CQ
    have H1 := Lib.hid h1
    have t : decide (N (hL (Q.mk n0 n1 n2 n3 d).low) > 1000000) = false := decide_eq_false (by omega)
    have t' : decide (1000000 < N (hL (Q.mk n0 n1 n2 n3 d).low)) = false := decide_eq_false (by omega)
    obtain ⟨x, hx⟩ : ∃ x, hL (Q.mk n0 n1 n2 n3 d).low = x := ⟨_, rfl⟩
    rw [hx] at NM t t' ⊢
    have HX := Lib.hid hx
    clear h e1 e2 e3 h1 bd h2 hx
    generalize N x = nh at *
    obtain ⟨h0, h1, h2, h3⟩ := x
    simp only [] at NM
    go_enter Try.func67, Try.ntmps67
    go_wp2_with fail
    refine (CQ.out _).mono ?_
    rintro e w1 ⟨rfl, hb⟩
    have hK : K_Ac n0 n1 n2 n3 d w.heap.size (w.heap.size + 1) w w1 := K_Ac.below hb ⟨by simp [go_sem], by simp [go_sem], by simp [go_sem], by (repeat (first | (with_reducible exact Below.refl _ _) | (with_reducible exact HB.out) | (with_reducible refine below_draws ?_ _) | (with_reducible refine Below.alloc ?_ (by go_size) _) | (with_reducible refine Below.setCell ?_ (by go_size) _) | (with_reducible refine Below.alloc ?_ (by simp <;> omega) _) | (with_reducible refine Below.setCell ?_ (by simp <;> omega) _)))⟩
    clear hb
    obtain ⟨c0_, c1_, c2_, c3_, c4_, d0_, f0_, d1_, f1_, d2_, f2_, d3_, f3_⟩ := K_Ac.cells hK; obtain ⟨z0_, z1_, -⟩ := K_Ac.zs hK; have HK := Lib.hid hK; clear hK
    go_wp2_with fail
    refine (HO.out _).mono ?_
    rintro e w2 ⟨hh, rfl, hi, hb⟩
    obtain rfl := (hi H1.out).trans HX.out
    rw [H1.out]
    clear hi
    clear c0_ c1_ c2_ c3_ c4_ d0_ f0_ d1_ f1_ d2_ f2_ d3_ f3_ z0_ z1_
    have hK0 := K_Ac.below hb HK.out
    have HK2 : Hid (K_Ax h0 h1 h2 h3 n0 n1 n2 n3 d w2.heap.size w.heap.size (w.heap.size + 1) w (w2.alloc (.cells #[.int .i64 h0, .int .i64 h1, .int .i64 h2, .int .i64 h3] 97))) := Lib.hid (KL.push4 hK0 h0 h1 h2 h3 _ _ rfl)
    clear hb HK
    have hK := hK0
    clear hK0
    obtain ⟨c0_, c1_, c2_, c3_, c4_, d0_, f0_, d1_, f1_, d2_, f2_, d3_, f3_⟩ := K_Ac.cells hK; obtain ⟨z0_, z1_, -⟩ := K_Ac.zs hK; have HK := Lib.hid hK; clear hK
    go_wp2_with fail
    refine (NM.out _).mono ?_
    rintro e w3 ⟨rfl, hb⟩
    clear c0_ c1_ c2_ c3_ c4_ d0_ f0_ d1_ f1_ d2_ f2_ d3_ f3_ z0_ z1_
    have hK := K_Ax.below hb HK2.out
    clear hb HK HK2
    obtain ⟨c0_, c1_, c2_, c3_, c4_, c5_, c6_, c7_, c8_, d0_, f0_, d1_, f1_, d2_, f2_, d3_, f3_⟩ := K_Ax.cells hK; obtain ⟨z0_, z1_, z2_, -⟩ := K_Ax.zs hK; have HK := Lib.hid hK; clear hK
    have HB := Lib.hid (K_Ax.bel HK.out)
    go_wp2
    exact bodyPost_ret (v := .tuple #[.agg #[.int .i64 h0, .int .i64 h1, .int .i64 h2, .int .i64 h3], .int .i64 0]) (by simp [results, Try.results67, go_sem, c0_, c1_, c2_, c3_, c4_, c5_, c6_, c7_, c8_, d0_, f0_, d1_, f1_, d2_, f2_, d3_, f3_, z0_, z1_]) rfl ⟨rfl, by (repeat (first | (with_reducible exact Below.refl _ _) | (with_reducible exact HB.out) | (with_reducible refine below_draws ?_ _) | (with_reducible refine Below.alloc ?_ (by go_size) _) | (with_reducible refine Below.setCell ?_ (by go_size) _) | (with_reducible refine Below.alloc ?_ (by simp <;> omega) _) | (with_reducible refine Below.setCell ?_ (by simp <;> omega) _)))⟩
theorem IsHurwitz_any (n0 n1 n2 n3 d : Int) (w : World) (hq : chkQ n0 n1 n2 n3 d = 0) :
    Calls Try.prog 20 #[.agg #[.int .i64 n0, .int .i64 n1, .int .i64 n2, .int .i64 n3, .int .i64 d]] w fun e w' => e = .returned (.bool (isL (Q.mk n0 n1 n2 n3 d).low)) ∧ Below w.heap.size w w' := by
  have HO := Lib.hid (fun W => hurwitzOf_ok n0 n1 n2 n3 d W hq)
  clear hq
  go_enter Try.func20, Try.ntmps20
  go_wp2_with fail
  refine (HO.out _).mono ?_
  rintro e w2 ⟨hh, rfl, -, hb⟩
  have HB := Lib.hid (below_up (B := w.heap.size) (w := w) hb (by (repeat (first | (with_reducible exact Below.refl _ _) | (with_reducible exact HB.out) | (with_reducible refine below_draws ?_ _) | (with_reducible refine Below.alloc ?_ (by go_size) _) | (with_reducible refine Below.setCell ?_ (by go_size) _) | (with_reducible refine Below.alloc ?_ (by simp <;> omega) _) | (with_reducible refine Below.setCell ?_ (by simp <;> omega) _)))) (by simp))
  have zz := HB.out.size
  clear hb
  go_wp2
  go_ret
  exact ⟨rfl, by (repeat (first | (with_reducible exact Below.refl _ _) | (with_reducible exact HB.out) | (with_reducible refine below_draws ?_ _) | (with_reducible refine Below.alloc ?_ (by go_size) _) | (with_reducible refine Below.setCell ?_ (by go_size) _) | (with_reducible refine Below.alloc ?_ (by simp <;> omega) _) | (with_reducible refine Below.setCell ?_ (by simp <;> omega) _)))⟩
end Go.Proofs.Yteiflfmpkfhkoaa.Rt
