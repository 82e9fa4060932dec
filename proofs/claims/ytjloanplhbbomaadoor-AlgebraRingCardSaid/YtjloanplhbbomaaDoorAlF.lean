/-
  WALKS: two lists of fractions, compared.
-/
import Derived.Test.YtjloanplhbbomaaDoorAlZ
namespace Go.Proofs.YtjloanplhbbomaaDoor.Al
open Go.RowKit
open Alm
set_option linter.unusedVariables false
set_option linter.unusedSimpArgs false
set_option maxRecDepth 100000
/-- what a walk keeps: cells, and that nothing that was there has turned -/
def K_F2 (k0 k1 k2 k3 : Int) (b1 b2 : Nat) (w w' : World) : Prop := KL w [(b1, 0, .int .i64 k0), (b1, 1, .int .i64 k1), (b1, 2, .int .i64 k2), (b1, 3, .int .i64 k3), (b2, 0, .int .i64 k0), (b2, 1, .int .i64 k1), (b2, 2, .int .i64 k2), (b2, 3, .int .i64 k3)] [] w'
theorem K_F2.below {k0 k1 k2 k3 : Int} {b1 b2 : Nat} {w w1 w2 : World} (hb : Below w1.heap.size w1 w2) (h : K_F2 k0 k1 k2 k3 b1 b2 w w1) : K_F2 k0 k1 k2 k3 b1 b2 w w2 := KL.below hb h
theorem K_F2.draws {k0 k1 k2 k3 : Int} {b1 b2 : Nat} {w w1 : World} (n : Nat) (h : K_F2 k0 k1 k2 k3 b1 b2 w w1) : K_F2 k0 k1 k2 k3 b1 b2 w (w1.drewN n) := KL.draws n h
theorem K_F2.drew {k0 k1 k2 k3 : Int} {b1 b2 : Nat} {w w1 : World} (h : K_F2 k0 k1 k2 k3 b1 b2 w w1) : K_F2 k0 k1 k2 k3 b1 b2 w w1.drew := KL.draws 1 h
theorem K_F2.alloc {k0 k1 k2 k3 : Int} {b1 b2 : Nat} {w w1 : World} (o : Obj) (h : K_F2 k0 k1 k2 k3 b1 b2 w w1) : K_F2 k0 k1 k2 k3 b1 b2 w (w1.alloc o) := KL.alloc o h
theorem K_F2.set {k0 k1 k2 k3 : Int} {b1 b2 : Nat} {w w1 : World} (h : K_F2 k0 k1 k2 k3 b1 b2 w w1) (b i : Nat) (v : Value) (hb : b ≠ b1 ∧ b ≠ b2 ∧ w.heap.size ≤ b) : K_F2 k0 k1 k2 k3 b1 b2 w (w1.setCell ⟨b, i, none⟩ v) :=
  KL.set h b i v (by intro x hx; simp only [List.mem_cons, List.not_mem_nil, or_false] at hx; rcases hx with rfl | rfl | rfl | rfl | rfl | rfl | rfl | rfl <;> simp only [] <;> omega) (by omega)
theorem K_F2.bel {k0 k1 k2 k3 : Int} {b1 b2 : Nat} {w w1 : World} (h : K_F2 k0 k1 k2 k3 b1 b2 w w1) : Below w.heap.size w w1 := KL.bel h
theorem K_F2.cells {k0 k1 k2 k3 : Int} {b1 b2 : Nat} {w w' : World} (h : K_F2 k0 k1 k2 k3 b1 b2 w w') : w'.cell? ⟨b1, 0, none⟩ = some (.int .i64 k0) ∧ w'.cell? ⟨b1, 1, none⟩ = some (.int .i64 k1) ∧ w'.cell? ⟨b1, 2, none⟩ = some (.int .i64 k2) ∧ w'.cell? ⟨b1, 3, none⟩ = some (.int .i64 k3) ∧ w'.cell? ⟨b2, 0, none⟩ = some (.int .i64 k0) ∧ w'.cell? ⟨b2, 1, none⟩ = some (.int .i64 k1) ∧ w'.cell? ⟨b2, 2, none⟩ = some (.int .i64 k2) ∧ w'.cell? ⟨b2, 3, none⟩ = some (.int .i64 k3) := ⟨h.c (b1, 0, .int .i64 k0) (by simp), h.c (b1, 1, .int .i64 k1) (by simp), h.c (b1, 2, .int .i64 k2) (by simp), h.c (b1, 3, .int .i64 k3) (by simp), h.c (b2, 0, .int .i64 k0) (by simp), h.c (b2, 1, .int .i64 k1) (by simp), h.c (b2, 2, .int .i64 k2) (by simp), h.c (b2, 3, .int .i64 k3) (by simp)⟩
theorem K_F2.zs {k0 k1 k2 k3 : Int} {b1 b2 : Nat} {w w' : World} (h : K_F2 k0 k1 k2 k3 b1 b2 w w') : b1 < w'.heap.size ∧ b2 < w'.heap.size ∧ True := ⟨KL.z h (x := (b1, 0, .int .i64 k0)) (by simp), KL.z h (x := (b2, 0, .int .i64 k0)) (by simp), trivial⟩
theorem K_F2.ks {k0 k1 k2 k3 : Int} {b1 b2 : Nat} {w w' : World} (h : K_F2 k0 k1 k2 k3 b1 b2 w w') : (w'.cell? ⟨b1, 0, none⟩ = some (.int .i64 k0) ∧ w'.cell? ⟨b1, 1, none⟩ = some (.int .i64 k1) ∧ w'.cell? ⟨b1, 2, none⟩ = some (.int .i64 k2) ∧ w'.cell? ⟨b1, 3, none⟩ = some (.int .i64 k3) ∧ w'.cell? ⟨b2, 0, none⟩ = some (.int .i64 k0) ∧ w'.cell? ⟨b2, 1, none⟩ = some (.int .i64 k1) ∧ w'.cell? ⟨b2, 2, none⟩ = some (.int .i64 k2) ∧ w'.cell? ⟨b2, 3, none⟩ = some (.int .i64 k3)) ∧ K_F2 k0 k1 k2 k3 b1 b2 w w' := ⟨h.cells, h⟩
/-- what a walk keeps: cells, and that nothing that was there has turned -/
def K_F3 (k0 k1 k2 k3 k4 k5 : Int) (b1 b2 : Nat) (w w' : World) : Prop := KL w [(b1, 0, .int .i64 k0), (b1, 1, .int .i64 k1), (b1, 2, .int .i64 k2), (b1, 3, .int .i64 k3), (b1, 4, .int .i64 k4), (b1, 5, .int .i64 k5), (b2, 0, .int .i64 k0), (b2, 1, .int .i64 k1), (b2, 2, .int .i64 k2), (b2, 3, .int .i64 k3), (b2, 4, .int .i64 k4), (b2, 5, .int .i64 k5)] [] w'
theorem K_F3.below {k0 k1 k2 k3 k4 k5 : Int} {b1 b2 : Nat} {w w1 w2 : World} (hb : Below w1.heap.size w1 w2) (h : K_F3 k0 k1 k2 k3 k4 k5 b1 b2 w w1) : K_F3 k0 k1 k2 k3 k4 k5 b1 b2 w w2 := KL.below hb h
theorem K_F3.draws {k0 k1 k2 k3 k4 k5 : Int} {b1 b2 : Nat} {w w1 : World} (n : Nat) (h : K_F3 k0 k1 k2 k3 k4 k5 b1 b2 w w1) : K_F3 k0 k1 k2 k3 k4 k5 b1 b2 w (w1.drewN n) := KL.draws n h
theorem K_F3.drew {k0 k1 k2 k3 k4 k5 : Int} {b1 b2 : Nat} {w w1 : World} (h : K_F3 k0 k1 k2 k3 k4 k5 b1 b2 w w1) : K_F3 k0 k1 k2 k3 k4 k5 b1 b2 w w1.drew := KL.draws 1 h
theorem K_F3.alloc {k0 k1 k2 k3 k4 k5 : Int} {b1 b2 : Nat} {w w1 : World} (o : Obj) (h : K_F3 k0 k1 k2 k3 k4 k5 b1 b2 w w1) : K_F3 k0 k1 k2 k3 k4 k5 b1 b2 w (w1.alloc o) := KL.alloc o h
theorem K_F3.set {k0 k1 k2 k3 k4 k5 : Int} {b1 b2 : Nat} {w w1 : World} (h : K_F3 k0 k1 k2 k3 k4 k5 b1 b2 w w1) (b i : Nat) (v : Value) (hb : b ≠ b1 ∧ b ≠ b2 ∧ w.heap.size ≤ b) : K_F3 k0 k1 k2 k3 k4 k5 b1 b2 w (w1.setCell ⟨b, i, none⟩ v) :=
  KL.set h b i v (by intro x hx; simp only [List.mem_cons, List.not_mem_nil, or_false] at hx; rcases hx with rfl | rfl | rfl | rfl | rfl | rfl | rfl | rfl | rfl | rfl | rfl | rfl <;> simp only [] <;> omega) (by omega)
theorem K_F3.bel {k0 k1 k2 k3 k4 k5 : Int} {b1 b2 : Nat} {w w1 : World} (h : K_F3 k0 k1 k2 k3 k4 k5 b1 b2 w w1) : Below w.heap.size w w1 := KL.bel h
theorem K_F3.cells {k0 k1 k2 k3 k4 k5 : Int} {b1 b2 : Nat} {w w' : World} (h : K_F3 k0 k1 k2 k3 k4 k5 b1 b2 w w') : w'.cell? ⟨b1, 0, none⟩ = some (.int .i64 k0) ∧ w'.cell? ⟨b1, 1, none⟩ = some (.int .i64 k1) ∧ w'.cell? ⟨b1, 2, none⟩ = some (.int .i64 k2) ∧ w'.cell? ⟨b1, 3, none⟩ = some (.int .i64 k3) ∧ w'.cell? ⟨b1, 4, none⟩ = some (.int .i64 k4) ∧ w'.cell? ⟨b1, 5, none⟩ = some (.int .i64 k5) ∧ w'.cell? ⟨b2, 0, none⟩ = some (.int .i64 k0) ∧ w'.cell? ⟨b2, 1, none⟩ = some (.int .i64 k1) ∧ w'.cell? ⟨b2, 2, none⟩ = some (.int .i64 k2) ∧ w'.cell? ⟨b2, 3, none⟩ = some (.int .i64 k3) ∧ w'.cell? ⟨b2, 4, none⟩ = some (.int .i64 k4) ∧ w'.cell? ⟨b2, 5, none⟩ = some (.int .i64 k5) := ⟨h.c (b1, 0, .int .i64 k0) (by simp), h.c (b1, 1, .int .i64 k1) (by simp), h.c (b1, 2, .int .i64 k2) (by simp), h.c (b1, 3, .int .i64 k3) (by simp), h.c (b1, 4, .int .i64 k4) (by simp), h.c (b1, 5, .int .i64 k5) (by simp), h.c (b2, 0, .int .i64 k0) (by simp), h.c (b2, 1, .int .i64 k1) (by simp), h.c (b2, 2, .int .i64 k2) (by simp), h.c (b2, 3, .int .i64 k3) (by simp), h.c (b2, 4, .int .i64 k4) (by simp), h.c (b2, 5, .int .i64 k5) (by simp)⟩
theorem K_F3.zs {k0 k1 k2 k3 k4 k5 : Int} {b1 b2 : Nat} {w w' : World} (h : K_F3 k0 k1 k2 k3 k4 k5 b1 b2 w w') : b1 < w'.heap.size ∧ b2 < w'.heap.size ∧ True := ⟨KL.z h (x := (b1, 0, .int .i64 k0)) (by simp), KL.z h (x := (b2, 0, .int .i64 k0)) (by simp), trivial⟩
theorem K_F3.ks {k0 k1 k2 k3 k4 k5 : Int} {b1 b2 : Nat} {w w' : World} (h : K_F3 k0 k1 k2 k3 k4 k5 b1 b2 w w') : (w'.cell? ⟨b1, 0, none⟩ = some (.int .i64 k0) ∧ w'.cell? ⟨b1, 1, none⟩ = some (.int .i64 k1) ∧ w'.cell? ⟨b1, 2, none⟩ = some (.int .i64 k2) ∧ w'.cell? ⟨b1, 3, none⟩ = some (.int .i64 k3) ∧ w'.cell? ⟨b1, 4, none⟩ = some (.int .i64 k4) ∧ w'.cell? ⟨b1, 5, none⟩ = some (.int .i64 k5) ∧ w'.cell? ⟨b2, 0, none⟩ = some (.int .i64 k0) ∧ w'.cell? ⟨b2, 1, none⟩ = some (.int .i64 k1) ∧ w'.cell? ⟨b2, 2, none⟩ = some (.int .i64 k2) ∧ w'.cell? ⟨b2, 3, none⟩ = some (.int .i64 k3) ∧ w'.cell? ⟨b2, 4, none⟩ = some (.int .i64 k4) ∧ w'.cell? ⟨b2, 5, none⟩ = some (.int .i64 k5)) ∧ K_F3 k0 k1 k2 k3 k4 k5 b1 b2 w w' := ⟨h.cells, h⟩
set_option maxHeartbeats 3200000 in
theorem fracs_two (k0 k1 k2 k3 : Int) (b1 b2 : Nat) (w : World) (h : K_F2 k0 k1 k2 k3 b1 b2 w w) :
    Calls Tryd.prog 37 #[.slice (some ⟨b1, 0, none⟩) 2 2, .slice (some ⟨b2, 0, none⟩) 2 2] w fun e w' => e = .returned (.bool true) ∧ Below w.heap.size w w' := by
  have hk := h
  clear h
  go_enter Tryd.func37, Tryd.ntmps37
  go_wp2
  refine wp_loop_rounds 3 ?_
  rw [rounds_succ]
  go_wp2
  go_region_held3 (fun w' => (w'.cell? ⟨b1, 0, none⟩ = some (.int .i64 k0) ∧ w'.cell? ⟨b1, 1, none⟩ = some (.int .i64 k1) ∧ w'.cell? ⟨b1, 2, none⟩ = some (.int .i64 k2) ∧ w'.cell? ⟨b1, 3, none⟩ = some (.int .i64 k3) ∧ w'.cell? ⟨b2, 0, none⟩ = some (.int .i64 k0) ∧ w'.cell? ⟨b2, 1, none⟩ = some (.int .i64 k1) ∧ w'.cell? ⟨b2, 2, none⟩ = some (.int .i64 k2) ∧ w'.cell? ⟨b2, 3, none⟩ = some (.int .i64 k3)) ∧ K_F2 k0 k1 k2 k3 b1 b2 w w') ((refine K_F2.ks ?_; repeat (first | (with_reducible assumption) | (with_reducible refine K_F2.draws _ ?_) | (with_reducible refine K_F2.drew ?_) | (with_reducible refine K_F2.alloc _ ?_) | (with_reducible refine K_F2.set ?_ _ _ _ (by omega)))))
    (fail)
  rename_i hh
  obtain ⟨-, hk2⟩ := hh
  clear hk
  have hk := hk2
  clear hk2
  go_wp2
  rw [rounds_succ]
  go_wp2
  go_region_held3 (fun w' => (w'.cell? ⟨b1, 0, none⟩ = some (.int .i64 k0) ∧ w'.cell? ⟨b1, 1, none⟩ = some (.int .i64 k1) ∧ w'.cell? ⟨b1, 2, none⟩ = some (.int .i64 k2) ∧ w'.cell? ⟨b1, 3, none⟩ = some (.int .i64 k3) ∧ w'.cell? ⟨b2, 0, none⟩ = some (.int .i64 k0) ∧ w'.cell? ⟨b2, 1, none⟩ = some (.int .i64 k1) ∧ w'.cell? ⟨b2, 2, none⟩ = some (.int .i64 k2) ∧ w'.cell? ⟨b2, 3, none⟩ = some (.int .i64 k3)) ∧ K_F2 k0 k1 k2 k3 b1 b2 w w') ((refine K_F2.ks ?_; repeat (first | (with_reducible assumption) | (with_reducible refine K_F2.draws _ ?_) | (with_reducible refine K_F2.drew ?_) | (with_reducible refine K_F2.alloc _ ?_) | (with_reducible refine K_F2.set ?_ _ _ _ (by omega)))))
    (fail)
  rename_i hh
  obtain ⟨-, hk2⟩ := hh
  clear hk
  have hk := hk2
  clear hk2
  go_wp2
  rw [rounds_succ]
  go_wp2
  go_ret
  exact ⟨rfl, K_F2.bel hk⟩
set_option maxHeartbeats 3200000 in
theorem fracs_three (k0 k1 k2 k3 k4 k5 : Int) (b1 b2 : Nat) (w : World) (h : K_F3 k0 k1 k2 k3 k4 k5 b1 b2 w w) :
    Calls Tryd.prog 37 #[.slice (some ⟨b1, 0, none⟩) 3 3, .slice (some ⟨b2, 0, none⟩) 3 3] w fun e w' => e = .returned (.bool true) ∧ Below w.heap.size w w' := by
  have hk := h
  clear h
  go_enter Tryd.func37, Tryd.ntmps37
  go_wp2
  refine wp_loop_rounds 4 ?_
  rw [rounds_succ]
  go_wp2
  go_region_held3 (fun w' => (w'.cell? ⟨b1, 0, none⟩ = some (.int .i64 k0) ∧ w'.cell? ⟨b1, 1, none⟩ = some (.int .i64 k1) ∧ w'.cell? ⟨b1, 2, none⟩ = some (.int .i64 k2) ∧ w'.cell? ⟨b1, 3, none⟩ = some (.int .i64 k3) ∧ w'.cell? ⟨b1, 4, none⟩ = some (.int .i64 k4) ∧ w'.cell? ⟨b1, 5, none⟩ = some (.int .i64 k5) ∧ w'.cell? ⟨b2, 0, none⟩ = some (.int .i64 k0) ∧ w'.cell? ⟨b2, 1, none⟩ = some (.int .i64 k1) ∧ w'.cell? ⟨b2, 2, none⟩ = some (.int .i64 k2) ∧ w'.cell? ⟨b2, 3, none⟩ = some (.int .i64 k3) ∧ w'.cell? ⟨b2, 4, none⟩ = some (.int .i64 k4) ∧ w'.cell? ⟨b2, 5, none⟩ = some (.int .i64 k5)) ∧ K_F3 k0 k1 k2 k3 k4 k5 b1 b2 w w') ((refine K_F3.ks ?_; repeat (first | (with_reducible assumption) | (with_reducible refine K_F3.draws _ ?_) | (with_reducible refine K_F3.drew ?_) | (with_reducible refine K_F3.alloc _ ?_) | (with_reducible refine K_F3.set ?_ _ _ _ (by omega)))))
    (fail)
  rename_i hh
  obtain ⟨-, hk2⟩ := hh
  clear hk
  have hk := hk2
  clear hk2
  go_wp2
  rw [rounds_succ]
  go_wp2
  go_region_held3 (fun w' => (w'.cell? ⟨b1, 0, none⟩ = some (.int .i64 k0) ∧ w'.cell? ⟨b1, 1, none⟩ = some (.int .i64 k1) ∧ w'.cell? ⟨b1, 2, none⟩ = some (.int .i64 k2) ∧ w'.cell? ⟨b1, 3, none⟩ = some (.int .i64 k3) ∧ w'.cell? ⟨b1, 4, none⟩ = some (.int .i64 k4) ∧ w'.cell? ⟨b1, 5, none⟩ = some (.int .i64 k5) ∧ w'.cell? ⟨b2, 0, none⟩ = some (.int .i64 k0) ∧ w'.cell? ⟨b2, 1, none⟩ = some (.int .i64 k1) ∧ w'.cell? ⟨b2, 2, none⟩ = some (.int .i64 k2) ∧ w'.cell? ⟨b2, 3, none⟩ = some (.int .i64 k3) ∧ w'.cell? ⟨b2, 4, none⟩ = some (.int .i64 k4) ∧ w'.cell? ⟨b2, 5, none⟩ = some (.int .i64 k5)) ∧ K_F3 k0 k1 k2 k3 k4 k5 b1 b2 w w') ((refine K_F3.ks ?_; repeat (first | (with_reducible assumption) | (with_reducible refine K_F3.draws _ ?_) | (with_reducible refine K_F3.drew ?_) | (with_reducible refine K_F3.alloc _ ?_) | (with_reducible refine K_F3.set ?_ _ _ _ (by omega)))))
    (fail)
  rename_i hh
  obtain ⟨-, hk2⟩ := hh
  clear hk
  have hk := hk2
  clear hk2
  go_wp2
  rw [rounds_succ]
  go_wp2
  go_region_held3 (fun w' => (w'.cell? ⟨b1, 0, none⟩ = some (.int .i64 k0) ∧ w'.cell? ⟨b1, 1, none⟩ = some (.int .i64 k1) ∧ w'.cell? ⟨b1, 2, none⟩ = some (.int .i64 k2) ∧ w'.cell? ⟨b1, 3, none⟩ = some (.int .i64 k3) ∧ w'.cell? ⟨b1, 4, none⟩ = some (.int .i64 k4) ∧ w'.cell? ⟨b1, 5, none⟩ = some (.int .i64 k5) ∧ w'.cell? ⟨b2, 0, none⟩ = some (.int .i64 k0) ∧ w'.cell? ⟨b2, 1, none⟩ = some (.int .i64 k1) ∧ w'.cell? ⟨b2, 2, none⟩ = some (.int .i64 k2) ∧ w'.cell? ⟨b2, 3, none⟩ = some (.int .i64 k3) ∧ w'.cell? ⟨b2, 4, none⟩ = some (.int .i64 k4) ∧ w'.cell? ⟨b2, 5, none⟩ = some (.int .i64 k5)) ∧ K_F3 k0 k1 k2 k3 k4 k5 b1 b2 w w') ((refine K_F3.ks ?_; repeat (first | (with_reducible assumption) | (with_reducible refine K_F3.draws _ ?_) | (with_reducible refine K_F3.drew ?_) | (with_reducible refine K_F3.alloc _ ?_) | (with_reducible refine K_F3.set ?_ _ _ _ (by omega)))))
    (fail)
  rename_i hh
  obtain ⟨-, hk2⟩ := hh
  clear hk
  have hk := hk2
  clear hk2
  go_wp2
  rw [rounds_succ]
  go_wp2
  go_ret
  exact ⟨rfl, K_F3.bel hk⟩
end Go.Proofs.YtjloanplhbbomaaDoor.Al
