/-
  WALK of the law AlgebraProducts: it returns true for all arguments.
-/
import Derived.Test.YtjloanplhbbomaaDoorAlR
import Derived.Test.YtjloanplhbbomaaDoorAw4
namespace Go.Proofs.YtjloanplhbbomaaDoor.Al
open Go.RowKit
open Alm
set_option linter.unusedVariables false
set_option linter.unusedSimpArgs false
set_option maxRecDepth 100000
theorem rCheckAll_new (A B n0 n1 n2 n3 d m0 m1 m2 m3 f : Int) (T : TypeId) (w : World) (n : Nat) (hn : n = w.heap.size) :
    Calls Tryd.prog 29 #[.agg #[.int .i64 A, .int .i64 B], .slice (some ⟨n, 0, none⟩) 2 2] (w.alloc (.cells #[.int .i64 n0, .int .i64 n1, .int .i64 n2, .int .i64 n3, .int .i64 d, .int .i64 m0, .int .i64 m1, .int .i64 m2, .int .i64 m3, .int .i64 f] T)) fun e w' => e = .returned (.int .i64 (err3 A B n0 n1 n2 n3 d m0 m1 m2 m3 f)) ∧ Below (w.alloc (.cells #[.int .i64 n0, .int .i64 n1, .int .i64 n2, .int .i64 n3, .int .i64 d, .int .i64 m0, .int .i64 m1, .int .i64 m2, .int .i64 m3, .int .i64 f] T)).heap.size (w.alloc (.cells #[.int .i64 n0, .int .i64 n1, .int .i64 n2, .int .i64 n3, .int .i64 d, .int .i64 m0, .int .i64 m1, .int .i64 m2, .int .i64 m3, .int .i64 f] T)) w' :=
  rCheckAll_two A B n0 n1 n2 n3 d m0 m1 m2 m3 f n 2 _ (tt_new _ _ _ _ _ _ _ _ _ _ _ _ _ hn) (by decide) (by decide)
/-- what a walk keeps: cells, and that nothing that was there has turned -/
def K_P1 (A B n0 n1 n2 n3 d m0 m1 m2 m3 f : Int) (b1 b2 b3 : Nat) (w w' : World) : Prop := KL w [(b3, 0, .int .i64 m0), (b3, 1, .int .i64 m1), (b3, 2, .int .i64 m2), (b3, 3, .int .i64 m3), (b3, 4, .int .i64 f), (b2, 0, .int .i64 n0), (b2, 1, .int .i64 n1), (b2, 2, .int .i64 n2), (b2, 3, .int .i64 n3), (b2, 4, .int .i64 d), (b1, 0, .int .i64 A), (b1, 1, .int .i64 B)] [] w'
theorem K_P1.below {A B n0 n1 n2 n3 d m0 m1 m2 m3 f : Int} {b1 b2 b3 : Nat} {w w1 w2 : World} (hb : Below w1.heap.size w1 w2) (h : K_P1 A B n0 n1 n2 n3 d m0 m1 m2 m3 f b1 b2 b3 w w1) : K_P1 A B n0 n1 n2 n3 d m0 m1 m2 m3 f b1 b2 b3 w w2 := KL.below hb h
theorem K_P1.draws {A B n0 n1 n2 n3 d m0 m1 m2 m3 f : Int} {b1 b2 b3 : Nat} {w w1 : World} (n : Nat) (h : K_P1 A B n0 n1 n2 n3 d m0 m1 m2 m3 f b1 b2 b3 w w1) : K_P1 A B n0 n1 n2 n3 d m0 m1 m2 m3 f b1 b2 b3 w (w1.drewN n) := KL.draws n h
theorem K_P1.drew {A B n0 n1 n2 n3 d m0 m1 m2 m3 f : Int} {b1 b2 b3 : Nat} {w w1 : World} (h : K_P1 A B n0 n1 n2 n3 d m0 m1 m2 m3 f b1 b2 b3 w w1) : K_P1 A B n0 n1 n2 n3 d m0 m1 m2 m3 f b1 b2 b3 w w1.drew := KL.draws 1 h
theorem K_P1.alloc {A B n0 n1 n2 n3 d m0 m1 m2 m3 f : Int} {b1 b2 b3 : Nat} {w w1 : World} (o : Obj) (h : K_P1 A B n0 n1 n2 n3 d m0 m1 m2 m3 f b1 b2 b3 w w1) : K_P1 A B n0 n1 n2 n3 d m0 m1 m2 m3 f b1 b2 b3 w (w1.alloc o) := KL.alloc o h
theorem K_P1.set {A B n0 n1 n2 n3 d m0 m1 m2 m3 f : Int} {b1 b2 b3 : Nat} {w w1 : World} (h : K_P1 A B n0 n1 n2 n3 d m0 m1 m2 m3 f b1 b2 b3 w w1) (b i : Nat) (v : Value) (hb : b ≠ b3 ∧ b ≠ b2 ∧ b ≠ b1 ∧ w.heap.size ≤ b) : K_P1 A B n0 n1 n2 n3 d m0 m1 m2 m3 f b1 b2 b3 w (w1.setCell ⟨b, i, none⟩ v) :=
  KL.set h b i v (by intro x hx; simp only [List.mem_cons, List.not_mem_nil, or_false] at hx; rcases hx with rfl | rfl | rfl | rfl | rfl | rfl | rfl | rfl | rfl | rfl | rfl | rfl <;> simp only [] <;> omega) (by omega)
theorem K_P1.bel {A B n0 n1 n2 n3 d m0 m1 m2 m3 f : Int} {b1 b2 b3 : Nat} {w w1 : World} (h : K_P1 A B n0 n1 n2 n3 d m0 m1 m2 m3 f b1 b2 b3 w w1) : Below w.heap.size w w1 := KL.bel h
theorem K_P1.cells {A B n0 n1 n2 n3 d m0 m1 m2 m3 f : Int} {b1 b2 b3 : Nat} {w w' : World} (h : K_P1 A B n0 n1 n2 n3 d m0 m1 m2 m3 f b1 b2 b3 w w') : w'.cell? ⟨b3, 0, none⟩ = some (.int .i64 m0) ∧ w'.cell? ⟨b3, 1, none⟩ = some (.int .i64 m1) ∧ w'.cell? ⟨b3, 2, none⟩ = some (.int .i64 m2) ∧ w'.cell? ⟨b3, 3, none⟩ = some (.int .i64 m3) ∧ w'.cell? ⟨b3, 4, none⟩ = some (.int .i64 f) ∧ w'.cell? ⟨b2, 0, none⟩ = some (.int .i64 n0) ∧ w'.cell? ⟨b2, 1, none⟩ = some (.int .i64 n1) ∧ w'.cell? ⟨b2, 2, none⟩ = some (.int .i64 n2) ∧ w'.cell? ⟨b2, 3, none⟩ = some (.int .i64 n3) ∧ w'.cell? ⟨b2, 4, none⟩ = some (.int .i64 d) ∧ w'.cell? ⟨b1, 0, none⟩ = some (.int .i64 A) ∧ w'.cell? ⟨b1, 1, none⟩ = some (.int .i64 B) := ⟨h.c (b3, 0, .int .i64 m0) (by simp), h.c (b3, 1, .int .i64 m1) (by simp), h.c (b3, 2, .int .i64 m2) (by simp), h.c (b3, 3, .int .i64 m3) (by simp), h.c (b3, 4, .int .i64 f) (by simp), h.c (b2, 0, .int .i64 n0) (by simp), h.c (b2, 1, .int .i64 n1) (by simp), h.c (b2, 2, .int .i64 n2) (by simp), h.c (b2, 3, .int .i64 n3) (by simp), h.c (b2, 4, .int .i64 d) (by simp), h.c (b1, 0, .int .i64 A) (by simp), h.c (b1, 1, .int .i64 B) (by simp)⟩
theorem K_P1.zs {A B n0 n1 n2 n3 d m0 m1 m2 m3 f : Int} {b1 b2 b3 : Nat} {w w' : World} (h : K_P1 A B n0 n1 n2 n3 d m0 m1 m2 m3 f b1 b2 b3 w w') : b3 < w'.heap.size ∧ b2 < w'.heap.size ∧ b1 < w'.heap.size ∧ True := ⟨KL.z h (x := (b3, 0, .int .i64 m0)) (by simp), KL.z h (x := (b2, 0, .int .i64 n0)) (by simp), KL.z h (x := (b1, 0, .int .i64 A)) (by simp), trivial⟩
theorem K_P1.ks {A B n0 n1 n2 n3 d m0 m1 m2 m3 f : Int} {b1 b2 b3 : Nat} {w w' : World} (h : K_P1 A B n0 n1 n2 n3 d m0 m1 m2 m3 f b1 b2 b3 w w') : (w'.cell? ⟨b3, 0, none⟩ = some (.int .i64 m0) ∧ w'.cell? ⟨b3, 1, none⟩ = some (.int .i64 m1) ∧ w'.cell? ⟨b3, 2, none⟩ = some (.int .i64 m2) ∧ w'.cell? ⟨b3, 3, none⟩ = some (.int .i64 m3) ∧ w'.cell? ⟨b3, 4, none⟩ = some (.int .i64 f) ∧ w'.cell? ⟨b2, 0, none⟩ = some (.int .i64 n0) ∧ w'.cell? ⟨b2, 1, none⟩ = some (.int .i64 n1) ∧ w'.cell? ⟨b2, 2, none⟩ = some (.int .i64 n2) ∧ w'.cell? ⟨b2, 3, none⟩ = some (.int .i64 n3) ∧ w'.cell? ⟨b2, 4, none⟩ = some (.int .i64 d) ∧ w'.cell? ⟨b1, 0, none⟩ = some (.int .i64 A) ∧ w'.cell? ⟨b1, 1, none⟩ = some (.int .i64 B)) ∧ K_P1 A B n0 n1 n2 n3 d m0 m1 m2 m3 f b1 b2 b3 w w' := ⟨h.cells, h⟩
/-- what a walk keeps: cells, and that nothing that was there has turned -/
def K_P2 (A B n0 n1 n2 n3 d m0 m1 m2 m3 f c0 c1 c2 c3 c4 : Int) (b1 b2 b3 b4 : Nat) (w w' : World) : Prop := KL w [(b4, 0, .int .i64 c0), (b4, 1, .int .i64 c1), (b4, 2, .int .i64 c2), (b4, 3, .int .i64 c3), (b4, 4, .int .i64 c4), (b3, 0, .int .i64 m0), (b3, 1, .int .i64 m1), (b3, 2, .int .i64 m2), (b3, 3, .int .i64 m3), (b3, 4, .int .i64 f), (b2, 0, .int .i64 n0), (b2, 1, .int .i64 n1), (b2, 2, .int .i64 n2), (b2, 3, .int .i64 n3), (b2, 4, .int .i64 d), (b1, 0, .int .i64 A), (b1, 1, .int .i64 B)] [] w'
theorem K_P2.below {A B n0 n1 n2 n3 d m0 m1 m2 m3 f c0 c1 c2 c3 c4 : Int} {b1 b2 b3 b4 : Nat} {w w1 w2 : World} (hb : Below w1.heap.size w1 w2) (h : K_P2 A B n0 n1 n2 n3 d m0 m1 m2 m3 f c0 c1 c2 c3 c4 b1 b2 b3 b4 w w1) : K_P2 A B n0 n1 n2 n3 d m0 m1 m2 m3 f c0 c1 c2 c3 c4 b1 b2 b3 b4 w w2 := KL.below hb h
theorem K_P2.draws {A B n0 n1 n2 n3 d m0 m1 m2 m3 f c0 c1 c2 c3 c4 : Int} {b1 b2 b3 b4 : Nat} {w w1 : World} (n : Nat) (h : K_P2 A B n0 n1 n2 n3 d m0 m1 m2 m3 f c0 c1 c2 c3 c4 b1 b2 b3 b4 w w1) : K_P2 A B n0 n1 n2 n3 d m0 m1 m2 m3 f c0 c1 c2 c3 c4 b1 b2 b3 b4 w (w1.drewN n) := KL.draws n h
theorem K_P2.drew {A B n0 n1 n2 n3 d m0 m1 m2 m3 f c0 c1 c2 c3 c4 : Int} {b1 b2 b3 b4 : Nat} {w w1 : World} (h : K_P2 A B n0 n1 n2 n3 d m0 m1 m2 m3 f c0 c1 c2 c3 c4 b1 b2 b3 b4 w w1) : K_P2 A B n0 n1 n2 n3 d m0 m1 m2 m3 f c0 c1 c2 c3 c4 b1 b2 b3 b4 w w1.drew := KL.draws 1 h
theorem K_P2.alloc {A B n0 n1 n2 n3 d m0 m1 m2 m3 f c0 c1 c2 c3 c4 : Int} {b1 b2 b3 b4 : Nat} {w w1 : World} (o : Obj) (h : K_P2 A B n0 n1 n2 n3 d m0 m1 m2 m3 f c0 c1 c2 c3 c4 b1 b2 b3 b4 w w1) : K_P2 A B n0 n1 n2 n3 d m0 m1 m2 m3 f c0 c1 c2 c3 c4 b1 b2 b3 b4 w (w1.alloc o) := KL.alloc o h
theorem K_P2.set {A B n0 n1 n2 n3 d m0 m1 m2 m3 f c0 c1 c2 c3 c4 : Int} {b1 b2 b3 b4 : Nat} {w w1 : World} (h : K_P2 A B n0 n1 n2 n3 d m0 m1 m2 m3 f c0 c1 c2 c3 c4 b1 b2 b3 b4 w w1) (b i : Nat) (v : Value) (hb : b ≠ b4 ∧ b ≠ b3 ∧ b ≠ b2 ∧ b ≠ b1 ∧ w.heap.size ≤ b) : K_P2 A B n0 n1 n2 n3 d m0 m1 m2 m3 f c0 c1 c2 c3 c4 b1 b2 b3 b4 w (w1.setCell ⟨b, i, none⟩ v) :=
  KL.set h b i v (by intro x hx; simp only [List.mem_cons, List.not_mem_nil, or_false] at hx; rcases hx with rfl | rfl | rfl | rfl | rfl | rfl | rfl | rfl | rfl | rfl | rfl | rfl | rfl | rfl | rfl | rfl | rfl <;> simp only [] <;> omega) (by omega)
theorem K_P2.bel {A B n0 n1 n2 n3 d m0 m1 m2 m3 f c0 c1 c2 c3 c4 : Int} {b1 b2 b3 b4 : Nat} {w w1 : World} (h : K_P2 A B n0 n1 n2 n3 d m0 m1 m2 m3 f c0 c1 c2 c3 c4 b1 b2 b3 b4 w w1) : Below w.heap.size w w1 := KL.bel h
theorem K_P2.cells {A B n0 n1 n2 n3 d m0 m1 m2 m3 f c0 c1 c2 c3 c4 : Int} {b1 b2 b3 b4 : Nat} {w w' : World} (h : K_P2 A B n0 n1 n2 n3 d m0 m1 m2 m3 f c0 c1 c2 c3 c4 b1 b2 b3 b4 w w') : w'.cell? ⟨b4, 0, none⟩ = some (.int .i64 c0) ∧ w'.cell? ⟨b4, 1, none⟩ = some (.int .i64 c1) ∧ w'.cell? ⟨b4, 2, none⟩ = some (.int .i64 c2) ∧ w'.cell? ⟨b4, 3, none⟩ = some (.int .i64 c3) ∧ w'.cell? ⟨b4, 4, none⟩ = some (.int .i64 c4) ∧ w'.cell? ⟨b3, 0, none⟩ = some (.int .i64 m0) ∧ w'.cell? ⟨b3, 1, none⟩ = some (.int .i64 m1) ∧ w'.cell? ⟨b3, 2, none⟩ = some (.int .i64 m2) ∧ w'.cell? ⟨b3, 3, none⟩ = some (.int .i64 m3) ∧ w'.cell? ⟨b3, 4, none⟩ = some (.int .i64 f) ∧ w'.cell? ⟨b2, 0, none⟩ = some (.int .i64 n0) ∧ w'.cell? ⟨b2, 1, none⟩ = some (.int .i64 n1) ∧ w'.cell? ⟨b2, 2, none⟩ = some (.int .i64 n2) ∧ w'.cell? ⟨b2, 3, none⟩ = some (.int .i64 n3) ∧ w'.cell? ⟨b2, 4, none⟩ = some (.int .i64 d) ∧ w'.cell? ⟨b1, 0, none⟩ = some (.int .i64 A) ∧ w'.cell? ⟨b1, 1, none⟩ = some (.int .i64 B) := ⟨h.c (b4, 0, .int .i64 c0) (by simp), h.c (b4, 1, .int .i64 c1) (by simp), h.c (b4, 2, .int .i64 c2) (by simp), h.c (b4, 3, .int .i64 c3) (by simp), h.c (b4, 4, .int .i64 c4) (by simp), h.c (b3, 0, .int .i64 m0) (by simp), h.c (b3, 1, .int .i64 m1) (by simp), h.c (b3, 2, .int .i64 m2) (by simp), h.c (b3, 3, .int .i64 m3) (by simp), h.c (b3, 4, .int .i64 f) (by simp), h.c (b2, 0, .int .i64 n0) (by simp), h.c (b2, 1, .int .i64 n1) (by simp), h.c (b2, 2, .int .i64 n2) (by simp), h.c (b2, 3, .int .i64 n3) (by simp), h.c (b2, 4, .int .i64 d) (by simp), h.c (b1, 0, .int .i64 A) (by simp), h.c (b1, 1, .int .i64 B) (by simp)⟩
theorem K_P2.zs {A B n0 n1 n2 n3 d m0 m1 m2 m3 f c0 c1 c2 c3 c4 : Int} {b1 b2 b3 b4 : Nat} {w w' : World} (h : K_P2 A B n0 n1 n2 n3 d m0 m1 m2 m3 f c0 c1 c2 c3 c4 b1 b2 b3 b4 w w') : b4 < w'.heap.size ∧ b3 < w'.heap.size ∧ b2 < w'.heap.size ∧ b1 < w'.heap.size ∧ True := ⟨KL.z h (x := (b4, 0, .int .i64 c0)) (by simp), KL.z h (x := (b3, 0, .int .i64 m0)) (by simp), KL.z h (x := (b2, 0, .int .i64 n0)) (by simp), KL.z h (x := (b1, 0, .int .i64 A)) (by simp), trivial⟩
theorem K_P2.ks {A B n0 n1 n2 n3 d m0 m1 m2 m3 f c0 c1 c2 c3 c4 : Int} {b1 b2 b3 b4 : Nat} {w w' : World} (h : K_P2 A B n0 n1 n2 n3 d m0 m1 m2 m3 f c0 c1 c2 c3 c4 b1 b2 b3 b4 w w') : (w'.cell? ⟨b4, 0, none⟩ = some (.int .i64 c0) ∧ w'.cell? ⟨b4, 1, none⟩ = some (.int .i64 c1) ∧ w'.cell? ⟨b4, 2, none⟩ = some (.int .i64 c2) ∧ w'.cell? ⟨b4, 3, none⟩ = some (.int .i64 c3) ∧ w'.cell? ⟨b4, 4, none⟩ = some (.int .i64 c4) ∧ w'.cell? ⟨b3, 0, none⟩ = some (.int .i64 m0) ∧ w'.cell? ⟨b3, 1, none⟩ = some (.int .i64 m1) ∧ w'.cell? ⟨b3, 2, none⟩ = some (.int .i64 m2) ∧ w'.cell? ⟨b3, 3, none⟩ = some (.int .i64 m3) ∧ w'.cell? ⟨b3, 4, none⟩ = some (.int .i64 f) ∧ w'.cell? ⟨b2, 0, none⟩ = some (.int .i64 n0) ∧ w'.cell? ⟨b2, 1, none⟩ = some (.int .i64 n1) ∧ w'.cell? ⟨b2, 2, none⟩ = some (.int .i64 n2) ∧ w'.cell? ⟨b2, 3, none⟩ = some (.int .i64 n3) ∧ w'.cell? ⟨b2, 4, none⟩ = some (.int .i64 d) ∧ w'.cell? ⟨b1, 0, none⟩ = some (.int .i64 A) ∧ w'.cell? ⟨b1, 1, none⟩ = some (.int .i64 B)) ∧ K_P2 A B n0 n1 n2 n3 d m0 m1 m2 m3 f c0 c1 c2 c3 c4 b1 b2 b3 b4 w w' := ⟨h.cells, h⟩
/-- what a walk keeps: cells, and that nothing that was there has turned -/
def K_P3 (A B n0 n1 n2 n3 d m0 m1 m2 m3 f c0 c1 c2 c3 c4 l0 l1 l2 l3 l4 : Int) (b1 b2 b3 b4 b5 : Nat) (w w' : World) : Prop := KL w [(b5, 0, .int .i64 l0), (b5, 1, .int .i64 l1), (b5, 2, .int .i64 l2), (b5, 3, .int .i64 l3), (b5, 4, .int .i64 l4), (b4, 0, .int .i64 c0), (b4, 1, .int .i64 c1), (b4, 2, .int .i64 c2), (b4, 3, .int .i64 c3), (b4, 4, .int .i64 c4), (b3, 0, .int .i64 m0), (b3, 1, .int .i64 m1), (b3, 2, .int .i64 m2), (b3, 3, .int .i64 m3), (b3, 4, .int .i64 f), (b2, 0, .int .i64 n0), (b2, 1, .int .i64 n1), (b2, 2, .int .i64 n2), (b2, 3, .int .i64 n3), (b2, 4, .int .i64 d), (b1, 0, .int .i64 A), (b1, 1, .int .i64 B)] [] w'
theorem K_P3.below {A B n0 n1 n2 n3 d m0 m1 m2 m3 f c0 c1 c2 c3 c4 l0 l1 l2 l3 l4 : Int} {b1 b2 b3 b4 b5 : Nat} {w w1 w2 : World} (hb : Below w1.heap.size w1 w2) (h : K_P3 A B n0 n1 n2 n3 d m0 m1 m2 m3 f c0 c1 c2 c3 c4 l0 l1 l2 l3 l4 b1 b2 b3 b4 b5 w w1) : K_P3 A B n0 n1 n2 n3 d m0 m1 m2 m3 f c0 c1 c2 c3 c4 l0 l1 l2 l3 l4 b1 b2 b3 b4 b5 w w2 := KL.below hb h
theorem K_P3.draws {A B n0 n1 n2 n3 d m0 m1 m2 m3 f c0 c1 c2 c3 c4 l0 l1 l2 l3 l4 : Int} {b1 b2 b3 b4 b5 : Nat} {w w1 : World} (n : Nat) (h : K_P3 A B n0 n1 n2 n3 d m0 m1 m2 m3 f c0 c1 c2 c3 c4 l0 l1 l2 l3 l4 b1 b2 b3 b4 b5 w w1) : K_P3 A B n0 n1 n2 n3 d m0 m1 m2 m3 f c0 c1 c2 c3 c4 l0 l1 l2 l3 l4 b1 b2 b3 b4 b5 w (w1.drewN n) := KL.draws n h
theorem K_P3.drew {A B n0 n1 n2 n3 d m0 m1 m2 m3 f c0 c1 c2 c3 c4 l0 l1 l2 l3 l4 : Int} {b1 b2 b3 b4 b5 : Nat} {w w1 : World} (h : K_P3 A B n0 n1 n2 n3 d m0 m1 m2 m3 f c0 c1 c2 c3 c4 l0 l1 l2 l3 l4 b1 b2 b3 b4 b5 w w1) : K_P3 A B n0 n1 n2 n3 d m0 m1 m2 m3 f c0 c1 c2 c3 c4 l0 l1 l2 l3 l4 b1 b2 b3 b4 b5 w w1.drew := KL.draws 1 h
theorem K_P3.alloc {A B n0 n1 n2 n3 d m0 m1 m2 m3 f c0 c1 c2 c3 c4 l0 l1 l2 l3 l4 : Int} {b1 b2 b3 b4 b5 : Nat} {w w1 : World} (o : Obj) (h : K_P3 A B n0 n1 n2 n3 d m0 m1 m2 m3 f c0 c1 c2 c3 c4 l0 l1 l2 l3 l4 b1 b2 b3 b4 b5 w w1) : K_P3 A B n0 n1 n2 n3 d m0 m1 m2 m3 f c0 c1 c2 c3 c4 l0 l1 l2 l3 l4 b1 b2 b3 b4 b5 w (w1.alloc o) := KL.alloc o h
theorem K_P3.set {A B n0 n1 n2 n3 d m0 m1 m2 m3 f c0 c1 c2 c3 c4 l0 l1 l2 l3 l4 : Int} {b1 b2 b3 b4 b5 : Nat} {w w1 : World} (h : K_P3 A B n0 n1 n2 n3 d m0 m1 m2 m3 f c0 c1 c2 c3 c4 l0 l1 l2 l3 l4 b1 b2 b3 b4 b5 w w1) (b i : Nat) (v : Value) (hb : b ≠ b5 ∧ b ≠ b4 ∧ b ≠ b3 ∧ b ≠ b2 ∧ b ≠ b1 ∧ w.heap.size ≤ b) : K_P3 A B n0 n1 n2 n3 d m0 m1 m2 m3 f c0 c1 c2 c3 c4 l0 l1 l2 l3 l4 b1 b2 b3 b4 b5 w (w1.setCell ⟨b, i, none⟩ v) :=
  KL.set h b i v (by intro x hx; simp only [List.mem_cons, List.not_mem_nil, or_false] at hx; rcases hx with rfl | rfl | rfl | rfl | rfl | rfl | rfl | rfl | rfl | rfl | rfl | rfl | rfl | rfl | rfl | rfl | rfl | rfl | rfl | rfl | rfl | rfl <;> simp only [] <;> omega) (by omega)
theorem K_P3.bel {A B n0 n1 n2 n3 d m0 m1 m2 m3 f c0 c1 c2 c3 c4 l0 l1 l2 l3 l4 : Int} {b1 b2 b3 b4 b5 : Nat} {w w1 : World} (h : K_P3 A B n0 n1 n2 n3 d m0 m1 m2 m3 f c0 c1 c2 c3 c4 l0 l1 l2 l3 l4 b1 b2 b3 b4 b5 w w1) : Below w.heap.size w w1 := KL.bel h
theorem K_P3.cells {A B n0 n1 n2 n3 d m0 m1 m2 m3 f c0 c1 c2 c3 c4 l0 l1 l2 l3 l4 : Int} {b1 b2 b3 b4 b5 : Nat} {w w' : World} (h : K_P3 A B n0 n1 n2 n3 d m0 m1 m2 m3 f c0 c1 c2 c3 c4 l0 l1 l2 l3 l4 b1 b2 b3 b4 b5 w w') : w'.cell? ⟨b5, 0, none⟩ = some (.int .i64 l0) ∧ w'.cell? ⟨b5, 1, none⟩ = some (.int .i64 l1) ∧ w'.cell? ⟨b5, 2, none⟩ = some (.int .i64 l2) ∧ w'.cell? ⟨b5, 3, none⟩ = some (.int .i64 l3) ∧ w'.cell? ⟨b5, 4, none⟩ = some (.int .i64 l4) ∧ w'.cell? ⟨b4, 0, none⟩ = some (.int .i64 c0) ∧ w'.cell? ⟨b4, 1, none⟩ = some (.int .i64 c1) ∧ w'.cell? ⟨b4, 2, none⟩ = some (.int .i64 c2) ∧ w'.cell? ⟨b4, 3, none⟩ = some (.int .i64 c3) ∧ w'.cell? ⟨b4, 4, none⟩ = some (.int .i64 c4) ∧ w'.cell? ⟨b3, 0, none⟩ = some (.int .i64 m0) ∧ w'.cell? ⟨b3, 1, none⟩ = some (.int .i64 m1) ∧ w'.cell? ⟨b3, 2, none⟩ = some (.int .i64 m2) ∧ w'.cell? ⟨b3, 3, none⟩ = some (.int .i64 m3) ∧ w'.cell? ⟨b3, 4, none⟩ = some (.int .i64 f) ∧ w'.cell? ⟨b2, 0, none⟩ = some (.int .i64 n0) ∧ w'.cell? ⟨b2, 1, none⟩ = some (.int .i64 n1) ∧ w'.cell? ⟨b2, 2, none⟩ = some (.int .i64 n2) ∧ w'.cell? ⟨b2, 3, none⟩ = some (.int .i64 n3) ∧ w'.cell? ⟨b2, 4, none⟩ = some (.int .i64 d) ∧ w'.cell? ⟨b1, 0, none⟩ = some (.int .i64 A) ∧ w'.cell? ⟨b1, 1, none⟩ = some (.int .i64 B) := ⟨h.c (b5, 0, .int .i64 l0) (by simp), h.c (b5, 1, .int .i64 l1) (by simp), h.c (b5, 2, .int .i64 l2) (by simp), h.c (b5, 3, .int .i64 l3) (by simp), h.c (b5, 4, .int .i64 l4) (by simp), h.c (b4, 0, .int .i64 c0) (by simp), h.c (b4, 1, .int .i64 c1) (by simp), h.c (b4, 2, .int .i64 c2) (by simp), h.c (b4, 3, .int .i64 c3) (by simp), h.c (b4, 4, .int .i64 c4) (by simp), h.c (b3, 0, .int .i64 m0) (by simp), h.c (b3, 1, .int .i64 m1) (by simp), h.c (b3, 2, .int .i64 m2) (by simp), h.c (b3, 3, .int .i64 m3) (by simp), h.c (b3, 4, .int .i64 f) (by simp), h.c (b2, 0, .int .i64 n0) (by simp), h.c (b2, 1, .int .i64 n1) (by simp), h.c (b2, 2, .int .i64 n2) (by simp), h.c (b2, 3, .int .i64 n3) (by simp), h.c (b2, 4, .int .i64 d) (by simp), h.c (b1, 0, .int .i64 A) (by simp), h.c (b1, 1, .int .i64 B) (by simp)⟩
theorem K_P3.zs {A B n0 n1 n2 n3 d m0 m1 m2 m3 f c0 c1 c2 c3 c4 l0 l1 l2 l3 l4 : Int} {b1 b2 b3 b4 b5 : Nat} {w w' : World} (h : K_P3 A B n0 n1 n2 n3 d m0 m1 m2 m3 f c0 c1 c2 c3 c4 l0 l1 l2 l3 l4 b1 b2 b3 b4 b5 w w') : b5 < w'.heap.size ∧ b4 < w'.heap.size ∧ b3 < w'.heap.size ∧ b2 < w'.heap.size ∧ b1 < w'.heap.size ∧ True := ⟨KL.z h (x := (b5, 0, .int .i64 l0)) (by simp), KL.z h (x := (b4, 0, .int .i64 c0)) (by simp), KL.z h (x := (b3, 0, .int .i64 m0)) (by simp), KL.z h (x := (b2, 0, .int .i64 n0)) (by simp), KL.z h (x := (b1, 0, .int .i64 A)) (by simp), trivial⟩
theorem K_P3.ks {A B n0 n1 n2 n3 d m0 m1 m2 m3 f c0 c1 c2 c3 c4 l0 l1 l2 l3 l4 : Int} {b1 b2 b3 b4 b5 : Nat} {w w' : World} (h : K_P3 A B n0 n1 n2 n3 d m0 m1 m2 m3 f c0 c1 c2 c3 c4 l0 l1 l2 l3 l4 b1 b2 b3 b4 b5 w w') : (w'.cell? ⟨b5, 0, none⟩ = some (.int .i64 l0) ∧ w'.cell? ⟨b5, 1, none⟩ = some (.int .i64 l1) ∧ w'.cell? ⟨b5, 2, none⟩ = some (.int .i64 l2) ∧ w'.cell? ⟨b5, 3, none⟩ = some (.int .i64 l3) ∧ w'.cell? ⟨b5, 4, none⟩ = some (.int .i64 l4) ∧ w'.cell? ⟨b4, 0, none⟩ = some (.int .i64 c0) ∧ w'.cell? ⟨b4, 1, none⟩ = some (.int .i64 c1) ∧ w'.cell? ⟨b4, 2, none⟩ = some (.int .i64 c2) ∧ w'.cell? ⟨b4, 3, none⟩ = some (.int .i64 c3) ∧ w'.cell? ⟨b4, 4, none⟩ = some (.int .i64 c4) ∧ w'.cell? ⟨b3, 0, none⟩ = some (.int .i64 m0) ∧ w'.cell? ⟨b3, 1, none⟩ = some (.int .i64 m1) ∧ w'.cell? ⟨b3, 2, none⟩ = some (.int .i64 m2) ∧ w'.cell? ⟨b3, 3, none⟩ = some (.int .i64 m3) ∧ w'.cell? ⟨b3, 4, none⟩ = some (.int .i64 f) ∧ w'.cell? ⟨b2, 0, none⟩ = some (.int .i64 n0) ∧ w'.cell? ⟨b2, 1, none⟩ = some (.int .i64 n1) ∧ w'.cell? ⟨b2, 2, none⟩ = some (.int .i64 n2) ∧ w'.cell? ⟨b2, 3, none⟩ = some (.int .i64 n3) ∧ w'.cell? ⟨b2, 4, none⟩ = some (.int .i64 d) ∧ w'.cell? ⟨b1, 0, none⟩ = some (.int .i64 A) ∧ w'.cell? ⟨b1, 1, none⟩ = some (.int .i64 B)) ∧ K_P3 A B n0 n1 n2 n3 d m0 m1 m2 m3 f c0 c1 c2 c3 c4 l0 l1 l2 l3 l4 b1 b2 b3 b4 b5 w w' := ⟨h.cells, h⟩
set_option maxHeartbeats 3200000 in
theorem products_ok (A B n0 n1 n2 n3 d m0 m1 m2 m3 f : Int) (w : World) (hp : chkQ n0 n1 n2 n3 d = 0) (he : err3 A B n0 n1 n2 n3 d m0 m1 m2 m3 f = 0) : Calls Tryd.prog 5 #[.agg #[.int .i64 A, .int .i64 B], .agg #[.int .i64 n0, .int .i64 n1, .int .i64 n2, .int .i64 n3, .int .i64 d], .agg #[.int .i64 m0, .int .i64 m1, .int .i64 m2, .int .i64 m3, .int .i64 f]] w fun e w' => e = .returned (.bool true) ∧ Below w.heap.size w w' := by
  have CV := Lib.hid (fun W => Conj_v n0 n1 n2 n3 d W hp)
  have RC := Lib.hid (fun W => rConj_v n0 n1 n2 n3 d W hp)
  obtain ⟨s, hs⟩ : ∃ s, (Q.mk n0 (-n1) (-n2) (-n3) d).low = s := ⟨_, rfl⟩
  rw [hs] at CV RC
  clear hs
  have MO := Lib.hid (fun W => Mul_ok A B n0 n1 n2 n3 d m0 m1 m2 m3 f W he)
  have RM := Lib.hid (fun W => rMul_any A B n0 n1 n2 n3 d m0 m1 m2 m3 f W he)
  obtain ⟨t, ht⟩ : ∃ t, fitQ (mulq A B ⟨n0, n1, n2, n3, d⟩ ⟨m0, m1, m2, m3, f⟩) = t := ⟨_, rfl⟩
  obtain ⟨u, hu⟩ : ∃ u, fitE (mulq A B ⟨n0, n1, n2, n3, d⟩ ⟨m0, m1, m2, m3, f⟩) = u := ⟨_, rfl⟩
  rw [ht, hu] at MO RM
  clear ht hu
  have HE := Lib.hid he
  have HP := Lib.hid hp
  clear he hp
  go_enter Tryd.func5, Tryd.ntmps5
  go_wp2_with fail
  refine (awake_any _).mono ?_
  rintro e w1 ⟨rfl, hb⟩
  have hK : K_P1 A B n0 n1 n2 n3 d m0 m1 m2 m3 f w.heap.size (w.heap.size + 1) (w.heap.size + 2) w w1 := KL.below hb ((((KL.nil w).push2 A B _ _ rfl).push5 n0 n1 n2 n3 d _ _ (by simp)).push5 m0 m1 m2 m3 f _ _ (by simp))
  clear hb
  obtain ⟨c0_, c1_, c2_, c3_, c4_, c5_, c6_, c7_, c8_, c9_, c10_, c11_⟩ := K_P1.cells hK; obtain ⟨z0_, z1_, z2_, -⟩ := K_P1.zs hK; have HK := Lib.hid hK; clear hK
  go_wp2_with fail
  refine (CV.out _).mono ?_
  rintro e w2 ⟨rfl, hb⟩
  clear c0_ c1_ c2_ c3_ c4_ c5_ c6_ c7_ c8_ c9_ c10_ c11_ z0_ z1_ z2_
  have hK := K_P1.below hb HK.out
  clear hb HK
  obtain ⟨c0_, c1_, c2_, c3_, c4_, c5_, c6_, c7_, c8_, c9_, c10_, c11_⟩ := K_P1.cells hK; obtain ⟨z0_, z1_, z2_, -⟩ := K_P1.zs hK; have HK := Lib.hid hK; clear hK
  go_wp2_with fail
  refine (rCheckQuat_any _ _ _ _ _ _).mono ?_
  rintro e w3 ⟨rfl, hb⟩
  rw [HP.out]
  clear c0_ c1_ c2_ c3_ c4_ c5_ c6_ c7_ c8_ c9_ c10_ c11_ z0_ z1_ z2_
  have hK : K_P2 A B n0 n1 n2 n3 d m0 m1 m2 m3 f s.w s.x s.y s.z s.d w.heap.size (w.heap.size + 1) (w.heap.size + 2) w2.heap.size w w3 := KL.below hb (KL.push5 HK.out s.w s.x s.y s.z s.d _ _ rfl)
  clear hb HK
  obtain ⟨c0_, c1_, c2_, c3_, c4_, c5_, c6_, c7_, c8_, c9_, c10_, c11_, c12_, c13_, c14_, c15_, c16_⟩ := K_P2.cells hK; obtain ⟨z0_, z1_, z2_, z3_, -⟩ := K_P2.zs hK; have HK := Lib.hid hK; clear hK
  go_wp2_with fail
  have hk := HK.out
  clear c0_ c1_ c2_ c3_ c4_ c5_ c6_ c7_ c8_ c9_ c10_ c11_ c12_ c13_ c14_ c15_ c16_ z0_ z1_ z2_ z3_
  clear HK
  go_region_held3 (fun w' => (w'.cell? ⟨w2.heap.size, 0, none⟩ = some (.int .i64 s.w) ∧ w'.cell? ⟨w2.heap.size, 1, none⟩ = some (.int .i64 s.x) ∧ w'.cell? ⟨w2.heap.size, 2, none⟩ = some (.int .i64 s.y) ∧ w'.cell? ⟨w2.heap.size, 3, none⟩ = some (.int .i64 s.z) ∧ w'.cell? ⟨w2.heap.size, 4, none⟩ = some (.int .i64 s.d) ∧ w'.cell? ⟨(w.heap.size + 2), 0, none⟩ = some (.int .i64 m0) ∧ w'.cell? ⟨(w.heap.size + 2), 1, none⟩ = some (.int .i64 m1) ∧ w'.cell? ⟨(w.heap.size + 2), 2, none⟩ = some (.int .i64 m2) ∧ w'.cell? ⟨(w.heap.size + 2), 3, none⟩ = some (.int .i64 m3) ∧ w'.cell? ⟨(w.heap.size + 2), 4, none⟩ = some (.int .i64 f) ∧ w'.cell? ⟨(w.heap.size + 1), 0, none⟩ = some (.int .i64 n0) ∧ w'.cell? ⟨(w.heap.size + 1), 1, none⟩ = some (.int .i64 n1) ∧ w'.cell? ⟨(w.heap.size + 1), 2, none⟩ = some (.int .i64 n2) ∧ w'.cell? ⟨(w.heap.size + 1), 3, none⟩ = some (.int .i64 n3) ∧ w'.cell? ⟨(w.heap.size + 1), 4, none⟩ = some (.int .i64 d) ∧ w'.cell? ⟨w.heap.size, 0, none⟩ = some (.int .i64 A) ∧ w'.cell? ⟨w.heap.size, 1, none⟩ = some (.int .i64 B)) ∧ K_P2 A B n0 n1 n2 n3 d m0 m1 m2 m3 f s.w s.x s.y s.z s.d w.heap.size (w.heap.size + 1) (w.heap.size + 2) w2.heap.size w w') ((refine K_P2.ks ?_; repeat (first | (with_reducible assumption) | (with_reducible refine K_P2.draws _ ?_) | (with_reducible refine K_P2.drew ?_) | (with_reducible refine K_P2.alloc _ ?_) | (with_reducible refine K_P2.set ?_ _ _ _ (by omega)))))
    (first
      | (go_at_call 27; (with_reducible refine (RC.out _).mono ?_); rintro e w' ⟨rfl, hbel⟩; have hk' := K_P2.below hbel (And.right (by assumption)); clear hbel)
      | (go_at_call 18; (with_reducible refine (same_refl _ _ _ _ _ _ _).mono ?_); rintro e w' ⟨rfl, hbel⟩; have hk' := K_P2.below hbel (And.right (by assumption)); clear hbel))
  rename_i hh_
  clear hh_
  have hK := hk'
  obtain ⟨c0_, c1_, c2_, c3_, c4_, c5_, c6_, c7_, c8_, c9_, c10_, c11_, c12_, c13_, c14_, c15_, c16_⟩ := K_P2.cells hK; obtain ⟨z0_, z1_, z2_, z3_, -⟩ := K_P2.zs hK; have HK := Lib.hid hK; clear hK
  go_wp2_with fail
  refine (MO.out _).mono ?_
  rintro e w4 ⟨rfl, hb⟩
  clear c0_ c1_ c2_ c3_ c4_ c5_ c6_ c7_ c8_ c9_ c10_ c11_ c12_ c13_ c14_ c15_ c16_ z0_ z1_ z2_ z3_
  have hK := K_P2.below hb HK.out
  clear hb HK
  obtain ⟨c0_, c1_, c2_, c3_, c4_, c5_, c6_, c7_, c8_, c9_, c10_, c11_, c12_, c13_, c14_, c15_, c16_⟩ := K_P2.cells hK; obtain ⟨z0_, z1_, z2_, z3_, -⟩ := K_P2.zs hK; have HK := Lib.hid hK; clear hK
  go_wp2_with fail
  refine (rCheckAll_new _ _ _ _ _ _ _ _ _ _ _ _ _ _ _ (by simp)).mono ?_
  rintro e w5 ⟨rfl, hb⟩
  clear c0_ c1_ c2_ c3_ c4_ c5_ c6_ c7_ c8_ c9_ c10_ c11_ c12_ c13_ c14_ c15_ c16_ z0_ z1_ z2_ z3_
  have hK : K_P3 A B n0 n1 n2 n3 d m0 m1 m2 m3 f s.w s.x s.y s.z s.d t.w t.x t.y t.z t.d w.heap.size (w.heap.size + 1) (w.heap.size + 2) w2.heap.size w4.heap.size w w5 := KL.below hb (KL.alloc _ (KL.push5 HK.out t.w t.x t.y t.z t.d _ _ rfl))
  clear hb HK
  obtain ⟨c0_, c1_, c2_, c3_, c4_, c5_, c6_, c7_, c8_, c9_, c10_, c11_, c12_, c13_, c14_, c15_, c16_, c17_, c18_, c19_, c20_, c21_⟩ := K_P3.cells hK; obtain ⟨z0_, z1_, z2_, z3_, z4_, -⟩ := K_P3.zs hK; have HK := Lib.hid hK; clear hK
  rw [HE.out]
  go_wp2_with fail
  refine (RM.out _).mono ?_
  rintro e w6 ⟨rfl, hb⟩
  clear c0_ c1_ c2_ c3_ c4_ c5_ c6_ c7_ c8_ c9_ c10_ c11_ c12_ c13_ c14_ c15_ c16_ c17_ c18_ c19_ c20_ c21_ z0_ z1_ z2_ z3_ z4_
  have hK := K_P3.below hb HK.out
  clear hb HK
  obtain ⟨c0_, c1_, c2_, c3_, c4_, c5_, c6_, c7_, c8_, c9_, c10_, c11_, c12_, c13_, c14_, c15_, c16_, c17_, c18_, c19_, c20_, c21_⟩ := K_P3.cells hK; obtain ⟨z0_, z1_, z2_, z3_, z4_, -⟩ := K_P3.zs hK; have HK := Lib.hid hK; clear hK
  go_wp2_with fail
  refine (same_refl _ _ _ _ _ _ _).mono ?_
  rintro e w7 ⟨rfl, hb⟩
  clear c0_ c1_ c2_ c3_ c4_ c5_ c6_ c7_ c8_ c9_ c10_ c11_ c12_ c13_ c14_ c15_ c16_ c17_ c18_ c19_ c20_ c21_ z0_ z1_ z2_ z3_ z4_
  have hK := KL.below hb (KL.alloc _ HK.out)
  clear hb HK
  go_wp2
  go_ret
  exact ⟨rfl, KL.bel hK⟩
set_option maxHeartbeats 3200000 in
theorem products_err (A B n0 n1 n2 n3 d m0 m1 m2 m3 f : Int) (w : World) (hp : chkQ n0 n1 n2 n3 d = 0) (he : err3 A B n0 n1 n2 n3 d m0 m1 m2 m3 f ≠ 0) : Calls Tryd.prog 5 #[.agg #[.int .i64 A, .int .i64 B], .agg #[.int .i64 n0, .int .i64 n1, .int .i64 n2, .int .i64 n3, .int .i64 d], .agg #[.int .i64 m0, .int .i64 m1, .int .i64 m2, .int .i64 m3, .int .i64 f]] w fun e w' => e = .returned (.bool true) ∧ Below w.heap.size w w' := by
  have CV := Lib.hid (fun W => Conj_v n0 n1 n2 n3 d W hp)
  have RC := Lib.hid (fun W => rConj_v n0 n1 n2 n3 d W hp)
  obtain ⟨s, hs⟩ : ∃ s, (Q.mk n0 (-n1) (-n2) (-n3) d).low = s := ⟨_, rfl⟩
  rw [hs] at CV RC
  clear hs
  have MO := Lib.hid (fun W => Mul_err A B n0 n1 n2 n3 d m0 m1 m2 m3 f W he)
  have te : (err3 A B n0 n1 n2 n3 d m0 m1 m2 m3 f != 0) = true := by rw [bne_iff_ne]; exact he
  have HE := Lib.hid he
  have HP := Lib.hid hp
  clear he hp
  go_enter Tryd.func5, Tryd.ntmps5
  go_wp2_with fail
  refine (awake_any _).mono ?_
  rintro e w1 ⟨rfl, hb⟩
  have hK : K_P1 A B n0 n1 n2 n3 d m0 m1 m2 m3 f w.heap.size (w.heap.size + 1) (w.heap.size + 2) w w1 := KL.below hb ((((KL.nil w).push2 A B _ _ rfl).push5 n0 n1 n2 n3 d _ _ (by simp)).push5 m0 m1 m2 m3 f _ _ (by simp))
  clear hb
  obtain ⟨c0_, c1_, c2_, c3_, c4_, c5_, c6_, c7_, c8_, c9_, c10_, c11_⟩ := K_P1.cells hK; obtain ⟨z0_, z1_, z2_, -⟩ := K_P1.zs hK; have HK := Lib.hid hK; clear hK
  go_wp2_with fail
  refine (CV.out _).mono ?_
  rintro e w2 ⟨rfl, hb⟩
  clear c0_ c1_ c2_ c3_ c4_ c5_ c6_ c7_ c8_ c9_ c10_ c11_ z0_ z1_ z2_
  have hK := K_P1.below hb HK.out
  clear hb HK
  obtain ⟨c0_, c1_, c2_, c3_, c4_, c5_, c6_, c7_, c8_, c9_, c10_, c11_⟩ := K_P1.cells hK; obtain ⟨z0_, z1_, z2_, -⟩ := K_P1.zs hK; have HK := Lib.hid hK; clear hK
  go_wp2_with fail
  refine (rCheckQuat_any _ _ _ _ _ _).mono ?_
  rintro e w3 ⟨rfl, hb⟩
  rw [HP.out]
  clear c0_ c1_ c2_ c3_ c4_ c5_ c6_ c7_ c8_ c9_ c10_ c11_ z0_ z1_ z2_
  have hK : K_P2 A B n0 n1 n2 n3 d m0 m1 m2 m3 f s.w s.x s.y s.z s.d w.heap.size (w.heap.size + 1) (w.heap.size + 2) w2.heap.size w w3 := KL.below hb (KL.push5 HK.out s.w s.x s.y s.z s.d _ _ rfl)
  clear hb HK
  obtain ⟨c0_, c1_, c2_, c3_, c4_, c5_, c6_, c7_, c8_, c9_, c10_, c11_, c12_, c13_, c14_, c15_, c16_⟩ := K_P2.cells hK; obtain ⟨z0_, z1_, z2_, z3_, -⟩ := K_P2.zs hK; have HK := Lib.hid hK; clear hK
  go_wp2_with fail
  have hk := HK.out
  clear c0_ c1_ c2_ c3_ c4_ c5_ c6_ c7_ c8_ c9_ c10_ c11_ c12_ c13_ c14_ c15_ c16_ z0_ z1_ z2_ z3_
  clear HK
  go_region_held3 (fun w' => (w'.cell? ⟨w2.heap.size, 0, none⟩ = some (.int .i64 s.w) ∧ w'.cell? ⟨w2.heap.size, 1, none⟩ = some (.int .i64 s.x) ∧ w'.cell? ⟨w2.heap.size, 2, none⟩ = some (.int .i64 s.y) ∧ w'.cell? ⟨w2.heap.size, 3, none⟩ = some (.int .i64 s.z) ∧ w'.cell? ⟨w2.heap.size, 4, none⟩ = some (.int .i64 s.d) ∧ w'.cell? ⟨(w.heap.size + 2), 0, none⟩ = some (.int .i64 m0) ∧ w'.cell? ⟨(w.heap.size + 2), 1, none⟩ = some (.int .i64 m1) ∧ w'.cell? ⟨(w.heap.size + 2), 2, none⟩ = some (.int .i64 m2) ∧ w'.cell? ⟨(w.heap.size + 2), 3, none⟩ = some (.int .i64 m3) ∧ w'.cell? ⟨(w.heap.size + 2), 4, none⟩ = some (.int .i64 f) ∧ w'.cell? ⟨(w.heap.size + 1), 0, none⟩ = some (.int .i64 n0) ∧ w'.cell? ⟨(w.heap.size + 1), 1, none⟩ = some (.int .i64 n1) ∧ w'.cell? ⟨(w.heap.size + 1), 2, none⟩ = some (.int .i64 n2) ∧ w'.cell? ⟨(w.heap.size + 1), 3, none⟩ = some (.int .i64 n3) ∧ w'.cell? ⟨(w.heap.size + 1), 4, none⟩ = some (.int .i64 d) ∧ w'.cell? ⟨w.heap.size, 0, none⟩ = some (.int .i64 A) ∧ w'.cell? ⟨w.heap.size, 1, none⟩ = some (.int .i64 B)) ∧ K_P2 A B n0 n1 n2 n3 d m0 m1 m2 m3 f s.w s.x s.y s.z s.d w.heap.size (w.heap.size + 1) (w.heap.size + 2) w2.heap.size w w') ((refine K_P2.ks ?_; repeat (first | (with_reducible assumption) | (with_reducible refine K_P2.draws _ ?_) | (with_reducible refine K_P2.drew ?_) | (with_reducible refine K_P2.alloc _ ?_) | (with_reducible refine K_P2.set ?_ _ _ _ (by omega)))))
    (first
      | (go_at_call 27; (with_reducible refine (RC.out _).mono ?_); rintro e w' ⟨rfl, hbel⟩; have hk' := K_P2.below hbel (And.right (by assumption)); clear hbel)
      | (go_at_call 18; (with_reducible refine (same_refl _ _ _ _ _ _ _).mono ?_); rintro e w' ⟨rfl, hbel⟩; have hk' := K_P2.below hbel (And.right (by assumption)); clear hbel))
  rename_i hh_
  clear hh_
  have hK := hk'
  obtain ⟨c0_, c1_, c2_, c3_, c4_, c5_, c6_, c7_, c8_, c9_, c10_, c11_, c12_, c13_, c14_, c15_, c16_⟩ := K_P2.cells hK; obtain ⟨z0_, z1_, z2_, z3_, -⟩ := K_P2.zs hK; have HK := Lib.hid hK; clear hK
  go_wp2_with fail
  refine (MO.out _).mono ?_
  rintro e w4 ⟨rfl, hb⟩
  clear c0_ c1_ c2_ c3_ c4_ c5_ c6_ c7_ c8_ c9_ c10_ c11_ c12_ c13_ c14_ c15_ c16_ z0_ z1_ z2_ z3_
  have hK := K_P2.below hb HK.out
  clear hb HK
  obtain ⟨c0_, c1_, c2_, c3_, c4_, c5_, c6_, c7_, c8_, c9_, c10_, c11_, c12_, c13_, c14_, c15_, c16_⟩ := K_P2.cells hK; obtain ⟨z0_, z1_, z2_, z3_, -⟩ := K_P2.zs hK; have HK := Lib.hid hK; clear hK
  go_wp2_with fail
  refine (rCheckAll_new _ _ _ _ _ _ _ _ _ _ _ _ _ _ _ (by simp)).mono ?_
  rintro e w5 ⟨rfl, hb⟩
  clear c0_ c1_ c2_ c3_ c4_ c5_ c6_ c7_ c8_ c9_ c10_ c11_ c12_ c13_ c14_ c15_ c16_ z0_ z1_ z2_ z3_
  have hK : K_P3 A B n0 n1 n2 n3 d m0 m1 m2 m3 f s.w s.x s.y s.z s.d 0 0 0 0 0 w.heap.size (w.heap.size + 1) (w.heap.size + 2) w2.heap.size w4.heap.size w w5 := KL.below hb (KL.alloc _ (KL.push5 HK.out 0 0 0 0 0 _ _ rfl))
  clear hb HK
  obtain ⟨c0_, c1_, c2_, c3_, c4_, c5_, c6_, c7_, c8_, c9_, c10_, c11_, c12_, c13_, c14_, c15_, c16_, c17_, c18_, c19_, c20_, c21_⟩ := K_P3.cells hK; obtain ⟨z0_, z1_, z2_, z3_, z4_, -⟩ := K_P3.zs hK; have HK := Lib.hid hK; clear hK
  go_wp2_with fail
  refine (same_refl _ _ _ _ _ _ _).mono ?_
  rintro e w7 ⟨rfl, hb⟩
  clear c0_ c1_ c2_ c3_ c4_ c5_ c6_ c7_ c8_ c9_ c10_ c11_ c12_ c13_ c14_ c15_ c16_ c17_ c18_ c19_ c20_ c21_ z0_ z1_ z2_ z3_ z4_
  have hK := KL.below hb HK.out
  clear hb HK
  go_wp2
  go_ret
  exact ⟨rfl, KL.bel hK⟩
set_option maxHeartbeats 3200000 in
theorem products_bad (A B n0 n1 n2 n3 d m0 m1 m2 m3 f : Int) (w : World) (hp : chkQ n0 n1 n2 n3 d ≠ 0) (he : err3 A B n0 n1 n2 n3 d m0 m1 m2 m3 f ≠ 0) : Calls Tryd.prog 5 #[.agg #[.int .i64 A, .int .i64 B], .agg #[.int .i64 n0, .int .i64 n1, .int .i64 n2, .int .i64 n3, .int .i64 d], .agg #[.int .i64 m0, .int .i64 m1, .int .i64 m2, .int .i64 m3, .int .i64 f]] w fun e w' => e = .returned (.bool true) ∧ Below w.heap.size w w' := by
  obtain ⟨hp, hp3⟩ := chkQ_bad hp
  have CV := Lib.hid (fun W => Conj_bad n0 n1 n2 n3 d W hp)
  have hp := hp3
  have MO := Lib.hid (fun W => Mul_err A B n0 n1 n2 n3 d m0 m1 m2 m3 f W he)
  have te : (err3 A B n0 n1 n2 n3 d m0 m1 m2 m3 f != 0) = true := by rw [bne_iff_ne]; exact he
  have HE := Lib.hid he
  have HP := Lib.hid hp
  clear he hp hp3
  go_enter Tryd.func5, Tryd.ntmps5
  go_wp2_with fail
  refine (awake_any _).mono ?_
  rintro e w1 ⟨rfl, hb⟩
  have hK : K_P1 A B n0 n1 n2 n3 d m0 m1 m2 m3 f w.heap.size (w.heap.size + 1) (w.heap.size + 2) w w1 := KL.below hb ((((KL.nil w).push2 A B _ _ rfl).push5 n0 n1 n2 n3 d _ _ (by simp)).push5 m0 m1 m2 m3 f _ _ (by simp))
  clear hb
  obtain ⟨c0_, c1_, c2_, c3_, c4_, c5_, c6_, c7_, c8_, c9_, c10_, c11_⟩ := K_P1.cells hK; obtain ⟨z0_, z1_, z2_, -⟩ := K_P1.zs hK; have HK := Lib.hid hK; clear hK
  go_wp2_with fail
  refine (CV.out _).mono ?_
  rintro e w2 ⟨rfl, hb⟩
  clear c0_ c1_ c2_ c3_ c4_ c5_ c6_ c7_ c8_ c9_ c10_ c11_ z0_ z1_ z2_
  have hK := K_P1.below hb HK.out
  clear hb HK
  obtain ⟨c0_, c1_, c2_, c3_, c4_, c5_, c6_, c7_, c8_, c9_, c10_, c11_⟩ := K_P1.cells hK; obtain ⟨z0_, z1_, z2_, -⟩ := K_P1.zs hK; have HK := Lib.hid hK; clear hK
  go_wp2_with fail
  refine (rCheckQuat_any _ _ _ _ _ _).mono ?_
  rintro e w3 ⟨rfl, hb⟩
  rw [HP.out]
  clear c0_ c1_ c2_ c3_ c4_ c5_ c6_ c7_ c8_ c9_ c10_ c11_ z0_ z1_ z2_
  have hK : K_P2 A B n0 n1 n2 n3 d m0 m1 m2 m3 f 0 0 0 0 0 w.heap.size (w.heap.size + 1) (w.heap.size + 2) w2.heap.size w w3 := KL.below hb (KL.push5 HK.out 0 0 0 0 0 _ _ rfl)
  clear hb HK
  obtain ⟨c0_, c1_, c2_, c3_, c4_, c5_, c6_, c7_, c8_, c9_, c10_, c11_, c12_, c13_, c14_, c15_, c16_⟩ := K_P2.cells hK; obtain ⟨z0_, z1_, z2_, z3_, -⟩ := K_P2.zs hK; have HK := Lib.hid hK; clear hK
  go_wp2_with fail
  refine (same_refl _ _ _ _ _ _ _).mono ?_
  rintro e w' ⟨rfl, hb⟩
  clear c0_ c1_ c2_ c3_ c4_ c5_ c6_ c7_ c8_ c9_ c10_ c11_ c12_ c13_ c14_ c15_ c16_ z0_ z1_ z2_ z3_
  have hK := K_P2.below hb HK.out
  clear hb HK
  obtain ⟨c0_, c1_, c2_, c3_, c4_, c5_, c6_, c7_, c8_, c9_, c10_, c11_, c12_, c13_, c14_, c15_, c16_⟩ := K_P2.cells hK; obtain ⟨z0_, z1_, z2_, z3_, -⟩ := K_P2.zs hK; have HK := Lib.hid hK; clear hK
  go_wp2_with fail
  refine (MO.out _).mono ?_
  rintro e w4 ⟨rfl, hb⟩
  clear c0_ c1_ c2_ c3_ c4_ c5_ c6_ c7_ c8_ c9_ c10_ c11_ c12_ c13_ c14_ c15_ c16_ z0_ z1_ z2_ z3_
  have hK := K_P2.below hb HK.out
  clear hb HK
  obtain ⟨c0_, c1_, c2_, c3_, c4_, c5_, c6_, c7_, c8_, c9_, c10_, c11_, c12_, c13_, c14_, c15_, c16_⟩ := K_P2.cells hK; obtain ⟨z0_, z1_, z2_, z3_, -⟩ := K_P2.zs hK; have HK := Lib.hid hK; clear hK
  go_wp2_with fail
  refine (rCheckAll_new _ _ _ _ _ _ _ _ _ _ _ _ _ _ _ (by simp)).mono ?_
  rintro e w5 ⟨rfl, hb⟩
  clear c0_ c1_ c2_ c3_ c4_ c5_ c6_ c7_ c8_ c9_ c10_ c11_ c12_ c13_ c14_ c15_ c16_ z0_ z1_ z2_ z3_
  have hK : K_P3 A B n0 n1 n2 n3 d m0 m1 m2 m3 f 0 0 0 0 0 0 0 0 0 0 w.heap.size (w.heap.size + 1) (w.heap.size + 2) w2.heap.size w4.heap.size w w5 := KL.below hb (KL.alloc _ (KL.push5 HK.out 0 0 0 0 0 _ _ rfl))
  clear hb HK
  obtain ⟨c0_, c1_, c2_, c3_, c4_, c5_, c6_, c7_, c8_, c9_, c10_, c11_, c12_, c13_, c14_, c15_, c16_, c17_, c18_, c19_, c20_, c21_⟩ := K_P3.cells hK; obtain ⟨z0_, z1_, z2_, z3_, z4_, -⟩ := K_P3.zs hK; have HK := Lib.hid hK; clear hK
  go_wp2_with fail
  refine (same_refl _ _ _ _ _ _ _).mono ?_
  rintro e w7 ⟨rfl, hb⟩
  clear c0_ c1_ c2_ c3_ c4_ c5_ c6_ c7_ c8_ c9_ c10_ c11_ c12_ c13_ c14_ c15_ c16_ c17_ c18_ c19_ c20_ c21_ z0_ z1_ z2_ z3_ z4_
  have hK := KL.below hb HK.out
  clear hb HK
  go_wp2
  go_ret
  exact ⟨rfl, KL.bel hK⟩
theorem walk_products (A B n0 n1 n2 n3 d m0 m1 m2 m3 f : Int) (w : World) : Calls Tryd.prog 5 #[.agg #[.int .i64 A, .int .i64 B], .agg #[.int .i64 n0, .int .i64 n1, .int .i64 n2, .int .i64 n3, .int .i64 d], .agg #[.int .i64 m0, .int .i64 m1, .int .i64 m2, .int .i64 m3, .int .i64 f]] w fun e w' => e = .returned (.bool true) ∧ Below w.heap.size w w' := by
  by_cases he : err3 A B n0 n1 n2 n3 d m0 m1 m2 m3 f = 0
  · exact products_ok A B n0 n1 n2 n3 d m0 m1 m2 m3 f w (or2_eq0 (or2_eq0 he).2).1 he
  · by_cases hp : chkQ n0 n1 n2 n3 d = 0
    · exact products_err A B n0 n1 n2 n3 d m0 m1 m2 m3 f w hp he
    · exact products_bad A B n0 n1 n2 n3 d m0 m1 m2 m3 f w hp he
end Go.Proofs.YtjloanplhbbomaaDoor.Al
