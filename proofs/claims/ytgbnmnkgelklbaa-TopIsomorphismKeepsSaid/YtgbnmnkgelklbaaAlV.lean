/-
  WALKS: the reference's norms; which elements are integral; the reference's check of an algebra and one element.
-/
import Derived.Test.YtgbnmnkgelklbaaAlU
namespace Go.Proofs.Ytgbnmnkgelklbaa.Al
open Go.RowKit
open Alm
set_option linter.unusedVariables false
set_option linter.unusedSimpArgs false
set_option maxRecDepth 100000
/-- what a walk keeps: cells, and that nothing that was there has turned -/
def K_Nd (A B n0 n1 n2 n3 d : Int) (b1 b2 : Nat) (w w' : World) : Prop := KL w [(b1, 0, .int .i64 A), (b1, 1, .int .i64 B), (b2, 0, .int .i64 n0), (b2, 1, .int .i64 n1), (b2, 2, .int .i64 n2), (b2, 3, .int .i64 n3), (b2, 4, .int .i64 d)] [] w'
theorem K_Nd.below {A B n0 n1 n2 n3 d : Int} {b1 b2 : Nat} {w w1 w2 : World} (hb : Below w1.heap.size w1 w2) (h : K_Nd A B n0 n1 n2 n3 d b1 b2 w w1) : K_Nd A B n0 n1 n2 n3 d b1 b2 w w2 := KL.below hb h
theorem K_Nd.draws {A B n0 n1 n2 n3 d : Int} {b1 b2 : Nat} {w w1 : World} (n : Nat) (h : K_Nd A B n0 n1 n2 n3 d b1 b2 w w1) : K_Nd A B n0 n1 n2 n3 d b1 b2 w (w1.drewN n) := KL.draws n h
theorem K_Nd.drew {A B n0 n1 n2 n3 d : Int} {b1 b2 : Nat} {w w1 : World} (h : K_Nd A B n0 n1 n2 n3 d b1 b2 w w1) : K_Nd A B n0 n1 n2 n3 d b1 b2 w w1.drew := KL.draws 1 h
theorem K_Nd.alloc {A B n0 n1 n2 n3 d : Int} {b1 b2 : Nat} {w w1 : World} (o : Obj) (h : K_Nd A B n0 n1 n2 n3 d b1 b2 w w1) : K_Nd A B n0 n1 n2 n3 d b1 b2 w (w1.alloc o) := KL.alloc o h
theorem K_Nd.set {A B n0 n1 n2 n3 d : Int} {b1 b2 : Nat} {w w1 : World} (h : K_Nd A B n0 n1 n2 n3 d b1 b2 w w1) (b i : Nat) (v : Value) (hb : b ≠ b1 ∧ b ≠ b2 ∧ w.heap.size ≤ b) : K_Nd A B n0 n1 n2 n3 d b1 b2 w (w1.setCell ⟨b, i, none⟩ v) :=
  KL.set h b i v (by intro x hx; simp only [List.mem_cons, List.not_mem_nil, or_false] at hx; rcases hx with rfl | rfl | rfl | rfl | rfl | rfl | rfl <;> simp only [] <;> omega) (by omega)
theorem K_Nd.bel {A B n0 n1 n2 n3 d : Int} {b1 b2 : Nat} {w w1 : World} (h : K_Nd A B n0 n1 n2 n3 d b1 b2 w w1) : Below w.heap.size w w1 := KL.bel h
theorem K_Nd.cells {A B n0 n1 n2 n3 d : Int} {b1 b2 : Nat} {w w' : World} (h : K_Nd A B n0 n1 n2 n3 d b1 b2 w w') : w'.cell? ⟨b1, 0, none⟩ = some (.int .i64 A) ∧ w'.cell? ⟨b1, 1, none⟩ = some (.int .i64 B) ∧ w'.cell? ⟨b2, 0, none⟩ = some (.int .i64 n0) ∧ w'.cell? ⟨b2, 1, none⟩ = some (.int .i64 n1) ∧ w'.cell? ⟨b2, 2, none⟩ = some (.int .i64 n2) ∧ w'.cell? ⟨b2, 3, none⟩ = some (.int .i64 n3) ∧ w'.cell? ⟨b2, 4, none⟩ = some (.int .i64 d) := ⟨h.c (b1, 0, .int .i64 A) (by simp), h.c (b1, 1, .int .i64 B) (by simp), h.c (b2, 0, .int .i64 n0) (by simp), h.c (b2, 1, .int .i64 n1) (by simp), h.c (b2, 2, .int .i64 n2) (by simp), h.c (b2, 3, .int .i64 n3) (by simp), h.c (b2, 4, .int .i64 d) (by simp)⟩
theorem K_Nd.zs {A B n0 n1 n2 n3 d : Int} {b1 b2 : Nat} {w w' : World} (h : K_Nd A B n0 n1 n2 n3 d b1 b2 w w') : b1 < w'.heap.size ∧ b2 < w'.heap.size ∧ True := ⟨KL.z h (x := (b1, 0, .int .i64 A)) (by simp), KL.z h (x := (b2, 0, .int .i64 n0)) (by simp), trivial⟩
theorem K_Nd.ks {A B n0 n1 n2 n3 d : Int} {b1 b2 : Nat} {w w' : World} (h : K_Nd A B n0 n1 n2 n3 d b1 b2 w w') : (w'.cell? ⟨b1, 0, none⟩ = some (.int .i64 A) ∧ w'.cell? ⟨b1, 1, none⟩ = some (.int .i64 B) ∧ w'.cell? ⟨b2, 0, none⟩ = some (.int .i64 n0) ∧ w'.cell? ⟨b2, 1, none⟩ = some (.int .i64 n1) ∧ w'.cell? ⟨b2, 2, none⟩ = some (.int .i64 n2) ∧ w'.cell? ⟨b2, 3, none⟩ = some (.int .i64 n3) ∧ w'.cell? ⟨b2, 4, none⟩ = some (.int .i64 d)) ∧ K_Nd A B n0 n1 n2 n3 d b1 b2 w w' := ⟨h.cells, h⟩
/-- what a walk keeps: cells, and that nothing that was there has turned -/
def K_T1 (n0 n1 n2 n3 d : Int) (bq : Nat) (w w' : World) : Prop := KL w [(bq, 0, .int .i64 n0), (bq, 1, .int .i64 n1), (bq, 2, .int .i64 n2), (bq, 3, .int .i64 n3), (bq, 4, .int .i64 d)] [] w'
theorem K_T1.below {n0 n1 n2 n3 d : Int} {bq : Nat} {w w1 w2 : World} (hb : Below w1.heap.size w1 w2) (h : K_T1 n0 n1 n2 n3 d bq w w1) : K_T1 n0 n1 n2 n3 d bq w w2 := KL.below hb h
theorem K_T1.draws {n0 n1 n2 n3 d : Int} {bq : Nat} {w w1 : World} (n : Nat) (h : K_T1 n0 n1 n2 n3 d bq w w1) : K_T1 n0 n1 n2 n3 d bq w (w1.drewN n) := KL.draws n h
theorem K_T1.drew {n0 n1 n2 n3 d : Int} {bq : Nat} {w w1 : World} (h : K_T1 n0 n1 n2 n3 d bq w w1) : K_T1 n0 n1 n2 n3 d bq w w1.drew := KL.draws 1 h
theorem K_T1.alloc {n0 n1 n2 n3 d : Int} {bq : Nat} {w w1 : World} (o : Obj) (h : K_T1 n0 n1 n2 n3 d bq w w1) : K_T1 n0 n1 n2 n3 d bq w (w1.alloc o) := KL.alloc o h
theorem K_T1.set {n0 n1 n2 n3 d : Int} {bq : Nat} {w w1 : World} (h : K_T1 n0 n1 n2 n3 d bq w w1) (b i : Nat) (v : Value) (hb : b ≠ bq ∧ w.heap.size ≤ b) : K_T1 n0 n1 n2 n3 d bq w (w1.setCell ⟨b, i, none⟩ v) :=
  KL.set h b i v (by intro x hx; simp only [List.mem_cons, List.not_mem_nil, or_false] at hx; rcases hx with rfl | rfl | rfl | rfl | rfl <;> simp only [] <;> omega) (by omega)
theorem K_T1.bel {n0 n1 n2 n3 d : Int} {bq : Nat} {w w1 : World} (h : K_T1 n0 n1 n2 n3 d bq w w1) : Below w.heap.size w w1 := KL.bel h
theorem K_T1.cells {n0 n1 n2 n3 d : Int} {bq : Nat} {w w' : World} (h : K_T1 n0 n1 n2 n3 d bq w w') : w'.cell? ⟨bq, 0, none⟩ = some (.int .i64 n0) ∧ w'.cell? ⟨bq, 1, none⟩ = some (.int .i64 n1) ∧ w'.cell? ⟨bq, 2, none⟩ = some (.int .i64 n2) ∧ w'.cell? ⟨bq, 3, none⟩ = some (.int .i64 n3) ∧ w'.cell? ⟨bq, 4, none⟩ = some (.int .i64 d) := ⟨h.c (bq, 0, .int .i64 n0) (by simp), h.c (bq, 1, .int .i64 n1) (by simp), h.c (bq, 2, .int .i64 n2) (by simp), h.c (bq, 3, .int .i64 n3) (by simp), h.c (bq, 4, .int .i64 d) (by simp)⟩
theorem K_T1.zs {n0 n1 n2 n3 d : Int} {bq : Nat} {w w' : World} (h : K_T1 n0 n1 n2 n3 d bq w w') : bq < w'.heap.size ∧ True := ⟨KL.z h (x := (bq, 0, .int .i64 n0)) (by simp), trivial⟩
theorem K_T1.ks {n0 n1 n2 n3 d : Int} {bq : Nat} {w w' : World} (h : K_T1 n0 n1 n2 n3 d bq w w') : (w'.cell? ⟨bq, 0, none⟩ = some (.int .i64 n0) ∧ w'.cell? ⟨bq, 1, none⟩ = some (.int .i64 n1) ∧ w'.cell? ⟨bq, 2, none⟩ = some (.int .i64 n2) ∧ w'.cell? ⟨bq, 3, none⟩ = some (.int .i64 n3) ∧ w'.cell? ⟨bq, 4, none⟩ = some (.int .i64 d)) ∧ K_T1 n0 n1 n2 n3 d bq w w' := ⟨h.cells, h⟩
set_option maxHeartbeats 1600000 in
theorem Norm_err (A B n0 n1 n2 n3 d : Int) (w : World) (h : or2 (chkA A B) (chkQ n0 n1 n2 n3 d) ≠ 0) :
    Calls Try.prog 13 #[.agg #[.int .i64 A, .int .i64 B], .agg #[.int .i64 n0, .int .i64 n1, .int .i64 n2, .int .i64 n3, .int .i64 d]] w fun e w' => e = .returned (.tuple #[.agg #[.int .i64 0, .int .i64 0], .int .i64 (or2 (chkA A B) (chkQ n0 n1 n2 n3 d))]) ∧ Below w.heap.size w w' := by
  have ok : (or2 (chkA A B) (chkQ n0 n1 n2 n3 d) != 0) = true := by rw [bne_iff_ne]; exact h
  clear h
  go_enter Try.func13, Try.ntmps13
  go_wp2_with fail
  have hk : K_Nc A B n0 n1 n2 n3 d w.heap.size (w.heap.size + 1) (w.heap.size + 2) w (((w.alloc (.cells #[.int .i64 A, .int .i64 B] 23)).alloc (.cells #[.int .i64 n0, .int .i64 n1, .int .i64 n2, .int .i64 n3, .int .i64 d] 35)).alloc (.cells #[.int .i64 0, .int .i64 0] 39)) := ⟨by simp [go_sem], by simp [go_sem], by simp [go_sem], by (repeat (first | (with_reducible exact Below.refl _ _) | (with_reducible exact HB.out) | (with_reducible refine below_draws ?_ _) | (with_reducible refine Below.alloc ?_ (by go_size) _) | (with_reducible refine Below.setCell ?_ (by go_size) _) | (with_reducible refine Below.alloc ?_ (by simp <;> omega) _) | (with_reducible refine Below.setCell ?_ (by simp <;> omega) _)))⟩
  go_region_held3 (fun w' => (w'.cell? ⟨w.heap.size, 0, none⟩ = some (.int .i64 A) ∧ w'.cell? ⟨w.heap.size, 1, none⟩ = some (.int .i64 B) ∧ w'.cell? ⟨(w.heap.size + 1), 0, none⟩ = some (.int .i64 n0) ∧ w'.cell? ⟨(w.heap.size + 1), 1, none⟩ = some (.int .i64 n1) ∧ w'.cell? ⟨(w.heap.size + 1), 2, none⟩ = some (.int .i64 n2) ∧ w'.cell? ⟨(w.heap.size + 1), 3, none⟩ = some (.int .i64 n3) ∧ w'.cell? ⟨(w.heap.size + 1), 4, none⟩ = some (.int .i64 d) ∧ w'.cell? ⟨(w.heap.size + 2), 0, none⟩ = some (cv w' ((w.heap.size + 2)) 0) ∧ w'.frozen? ⟨(w.heap.size + 2), 0, none⟩ = false ∧ w'.cell? ⟨(w.heap.size + 2), 1, none⟩ = some (cv w' ((w.heap.size + 2)) 1) ∧ w'.frozen? ⟨(w.heap.size + 2), 1, none⟩ = false) ∧ K_Nc A B n0 n1 n2 n3 d w.heap.size (w.heap.size + 1) (w.heap.size + 2) w w') ((refine K_Nc.ks ?_; repeat (first | (with_reducible assumption) | (with_reducible refine K_Nc.draws _ ?_) | (with_reducible refine K_Nc.drew ?_) | (with_reducible refine K_Nc.alloc _ ?_) | (with_reducible refine K_Nc.set ?_ _ _ _ (by omega)))))
    (first
      | (go_at_call 27; (with_reducible refine (Check_any _ _ _).mono ?_); rintro e w' ⟨rfl, hbel⟩; have hk' := K_Nc.below hbel (And.right (by assumption)); clear hbel)
      | (go_at_call 39; (with_reducible refine (CheckQuat_any _ _ _ _ _ _).mono ?_); rintro e w' ⟨rfl, hbel⟩; have hk' := K_Nc.below hbel (And.right (by assumption)); clear hbel)
      | (go_at_call 38; (with_reducible refine (Or_new _ _ _ _ _ ?_).mono ?_); rfl; rintro e w'' ⟨rfl, rfl⟩))
  all_goals
    (rename_i hh_; clear hh_; obtain ⟨c0_, c1_, c2_, c3_, c4_, c5_, c6_, d0_, f0_, d1_, f1_⟩ := K_Nc.cells hk'; have HB := Lib.hid (K_Nc.bel hk'))
    have z1 : w.heap.size + 2 < w'.heap.size := World.block_lt_of_cell? w' ⟨w.heap.size + 2, 0, none⟩ d0_
    have y0 : w.heap.size < w'.heap.size := by omega
    have y1 : w.heap.size + 1 < w'.heap.size := by omega
    go_wp2
    exact bodyPost_ret (v := .tuple #[.agg #[.int .i64 0, .int .i64 0], .int .i64 (or2 (chkA A B) (chkQ n0 n1 n2 n3 d))]) (by simp [results, Try.results13, go_sem, c0_, c1_, c2_, c3_, c4_, c5_, c6_, d0_, f0_, d1_, f1_, z1]) rfl ⟨rfl, by (repeat (first | (with_reducible exact Below.refl _ _) | (with_reducible exact HB.out) | (with_reducible refine below_draws ?_ _) | (with_reducible refine Below.alloc ?_ (by go_size) _) | (with_reducible refine Below.setCell ?_ (by go_size) _) | (with_reducible refine Below.alloc ?_ (by simp <;> omega) _) | (with_reducible refine Below.setCell ?_ (by simp <;> omega) _)))⟩
end Go.Proofs.Ytgbnmnkgelklbaa.Al
