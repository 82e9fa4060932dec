/-
  WALKS: division and common divisors, the program's calls.
-/
import Derived.Test.YteiflfmpkfhkoaaRtW
import Derived.Test.YteiflfmpkfhkoaaRt9
import Derived.Deep.Cut
namespace Go.Proofs.Yteiflfmpkfhkoaa.Rt
open Go.RowKit
open Alm Hwm Al
set_option linter.unusedVariables false
set_option linter.unusedSimpArgs false
set_option maxRecDepth 100000
/-- what a walk keeps: cells, and that nothing that was there has turned -/
def K_D1 (R : Nat) (w w' : World) : Prop := KL w [] [(R, 0), (R, 1), (R, 2), (R, 3), (R, 4), (R, 5), (R, 6), (R, 7), (R, 8), (R, 9)] w'
theorem K_D1.below {R : Nat} {w w1 w2 : World} (hb : Below w1.heap.size w1 w2) (h : K_D1 R w w1) : K_D1 R w w2 := KL.below hb h
theorem K_D1.draws {R : Nat} {w w1 : World} (n : Nat) (h : K_D1 R w w1) : K_D1 R w (w1.drewN n) := KL.draws n h
theorem K_D1.drew {R : Nat} {w w1 : World} (h : K_D1 R w w1) : K_D1 R w w1.drew := KL.draws 1 h
theorem K_D1.alloc {R : Nat} {w w1 : World} (o : Obj) (h : K_D1 R w w1) : K_D1 R w (w1.alloc o) := KL.alloc o h
theorem K_D1.set {R : Nat} {w w1 : World} (h : K_D1 R w w1) (b i : Nat) (v : Value) (hb : w.heap.size ≤ b) : K_D1 R w (w1.setCell ⟨b, i, none⟩ v) :=
  KL.set h b i v (by intro x hx; simp at hx) (by omega)
theorem K_D1.bel {R : Nat} {w w1 : World} (h : K_D1 R w w1) : Below w.heap.size w w1 := KL.bel h
theorem K_D1.cells {R : Nat} {w w' : World} (h : K_D1 R w w') : w'.cell? ⟨R, 0, none⟩ = some (cv w' R 0) ∧ w'.frozen? ⟨R, 0, none⟩ = false ∧ w'.cell? ⟨R, 1, none⟩ = some (cv w' R 1) ∧ w'.frozen? ⟨R, 1, none⟩ = false ∧ w'.cell? ⟨R, 2, none⟩ = some (cv w' R 2) ∧ w'.frozen? ⟨R, 2, none⟩ = false ∧ w'.cell? ⟨R, 3, none⟩ = some (cv w' R 3) ∧ w'.frozen? ⟨R, 3, none⟩ = false ∧ w'.cell? ⟨R, 4, none⟩ = some (cv w' R 4) ∧ w'.frozen? ⟨R, 4, none⟩ = false ∧ w'.cell? ⟨R, 5, none⟩ = some (cv w' R 5) ∧ w'.frozen? ⟨R, 5, none⟩ = false ∧ w'.cell? ⟨R, 6, none⟩ = some (cv w' R 6) ∧ w'.frozen? ⟨R, 6, none⟩ = false ∧ w'.cell? ⟨R, 7, none⟩ = some (cv w' R 7) ∧ w'.frozen? ⟨R, 7, none⟩ = false ∧ w'.cell? ⟨R, 8, none⟩ = some (cv w' R 8) ∧ w'.frozen? ⟨R, 8, none⟩ = false ∧ w'.cell? ⟨R, 9, none⟩ = some (cv w' R 9) ∧ w'.frozen? ⟨R, 9, none⟩ = false := ⟨h.d (R, 0) (by simp), h.f (R, 0) (by simp), h.d (R, 1) (by simp), h.f (R, 1) (by simp), h.d (R, 2) (by simp), h.f (R, 2) (by simp), h.d (R, 3) (by simp), h.f (R, 3) (by simp), h.d (R, 4) (by simp), h.f (R, 4) (by simp), h.d (R, 5) (by simp), h.f (R, 5) (by simp), h.d (R, 6) (by simp), h.f (R, 6) (by simp), h.d (R, 7) (by simp), h.f (R, 7) (by simp), h.d (R, 8) (by simp), h.f (R, 8) (by simp), h.d (R, 9) (by simp), h.f (R, 9) (by simp)⟩
theorem K_D1.zs {R : Nat} {w w' : World} (h : K_D1 R w w') : R < w'.heap.size ∧ True := ⟨KL.zf h (x := (R, 0)) (by simp), trivial⟩
theorem K_D1.ks {R : Nat} {w w' : World} (h : K_D1 R w w') : (w'.cell? ⟨R, 0, none⟩ = some (cv w' R 0) ∧ w'.frozen? ⟨R, 0, none⟩ = false ∧ w'.cell? ⟨R, 1, none⟩ = some (cv w' R 1) ∧ w'.frozen? ⟨R, 1, none⟩ = false ∧ w'.cell? ⟨R, 2, none⟩ = some (cv w' R 2) ∧ w'.frozen? ⟨R, 2, none⟩ = false ∧ w'.cell? ⟨R, 3, none⟩ = some (cv w' R 3) ∧ w'.frozen? ⟨R, 3, none⟩ = false ∧ w'.cell? ⟨R, 4, none⟩ = some (cv w' R 4) ∧ w'.frozen? ⟨R, 4, none⟩ = false ∧ w'.cell? ⟨R, 5, none⟩ = some (cv w' R 5) ∧ w'.frozen? ⟨R, 5, none⟩ = false ∧ w'.cell? ⟨R, 6, none⟩ = some (cv w' R 6) ∧ w'.frozen? ⟨R, 6, none⟩ = false ∧ w'.cell? ⟨R, 7, none⟩ = some (cv w' R 7) ∧ w'.frozen? ⟨R, 7, none⟩ = false ∧ w'.cell? ⟨R, 8, none⟩ = some (cv w' R 8) ∧ w'.frozen? ⟨R, 8, none⟩ = false ∧ w'.cell? ⟨R, 9, none⟩ = some (cv w' R 9) ∧ w'.frozen? ⟨R, 9, none⟩ = false) ∧ K_D1 R w w' := ⟨h.cells, h⟩
/-- what a walk keeps: cells, and that nothing that was there has turned -/
def K_D2 (x0 x1 x2 x3 y0 y1 y2 y3 : Int) (t s R : Nat) (w w' : World) : Prop := KL w [(t, 0, .int .i64 y0), (t, 1, .int .i64 y1), (t, 2, .int .i64 y2), (t, 3, .int .i64 y3), (s, 0, .int .i64 x0), (s, 1, .int .i64 x1), (s, 2, .int .i64 x2), (s, 3, .int .i64 x3)] [(R, 0), (R, 1), (R, 2), (R, 3), (R, 4), (R, 5), (R, 6), (R, 7), (R, 8), (R, 9)] w'
theorem K_D2.below {x0 x1 x2 x3 y0 y1 y2 y3 : Int} {t s R : Nat} {w w1 w2 : World} (hb : Below w1.heap.size w1 w2) (h : K_D2 x0 x1 x2 x3 y0 y1 y2 y3 t s R w w1) : K_D2 x0 x1 x2 x3 y0 y1 y2 y3 t s R w w2 := KL.below hb h
theorem K_D2.draws {x0 x1 x2 x3 y0 y1 y2 y3 : Int} {t s R : Nat} {w w1 : World} (n : Nat) (h : K_D2 x0 x1 x2 x3 y0 y1 y2 y3 t s R w w1) : K_D2 x0 x1 x2 x3 y0 y1 y2 y3 t s R w (w1.drewN n) := KL.draws n h
theorem K_D2.drew {x0 x1 x2 x3 y0 y1 y2 y3 : Int} {t s R : Nat} {w w1 : World} (h : K_D2 x0 x1 x2 x3 y0 y1 y2 y3 t s R w w1) : K_D2 x0 x1 x2 x3 y0 y1 y2 y3 t s R w w1.drew := KL.draws 1 h
theorem K_D2.alloc {x0 x1 x2 x3 y0 y1 y2 y3 : Int} {t s R : Nat} {w w1 : World} (o : Obj) (h : K_D2 x0 x1 x2 x3 y0 y1 y2 y3 t s R w w1) : K_D2 x0 x1 x2 x3 y0 y1 y2 y3 t s R w (w1.alloc o) := KL.alloc o h
theorem K_D2.set {x0 x1 x2 x3 y0 y1 y2 y3 : Int} {t s R : Nat} {w w1 : World} (h : K_D2 x0 x1 x2 x3 y0 y1 y2 y3 t s R w w1) (b i : Nat) (v : Value) (hb : b ≠ t ∧ b ≠ s ∧ w.heap.size ≤ b) : K_D2 x0 x1 x2 x3 y0 y1 y2 y3 t s R w (w1.setCell ⟨b, i, none⟩ v) :=
  KL.set h b i v (by intro x hx; simp only [List.mem_cons, List.not_mem_nil, or_false] at hx; rcases hx with rfl | rfl | rfl | rfl | rfl | rfl | rfl | rfl <;> simp only [] <;> omega) (by omega)
theorem K_D2.bel {x0 x1 x2 x3 y0 y1 y2 y3 : Int} {t s R : Nat} {w w1 : World} (h : K_D2 x0 x1 x2 x3 y0 y1 y2 y3 t s R w w1) : Below w.heap.size w w1 := KL.bel h
theorem K_D2.cells {x0 x1 x2 x3 y0 y1 y2 y3 : Int} {t s R : Nat} {w w' : World} (h : K_D2 x0 x1 x2 x3 y0 y1 y2 y3 t s R w w') : w'.cell? ⟨t, 0, none⟩ = some (.int .i64 y0) ∧ w'.cell? ⟨t, 1, none⟩ = some (.int .i64 y1) ∧ w'.cell? ⟨t, 2, none⟩ = some (.int .i64 y2) ∧ w'.cell? ⟨t, 3, none⟩ = some (.int .i64 y3) ∧ w'.cell? ⟨s, 0, none⟩ = some (.int .i64 x0) ∧ w'.cell? ⟨s, 1, none⟩ = some (.int .i64 x1) ∧ w'.cell? ⟨s, 2, none⟩ = some (.int .i64 x2) ∧ w'.cell? ⟨s, 3, none⟩ = some (.int .i64 x3) ∧ w'.cell? ⟨R, 0, none⟩ = some (cv w' R 0) ∧ w'.frozen? ⟨R, 0, none⟩ = false ∧ w'.cell? ⟨R, 1, none⟩ = some (cv w' R 1) ∧ w'.frozen? ⟨R, 1, none⟩ = false ∧ w'.cell? ⟨R, 2, none⟩ = some (cv w' R 2) ∧ w'.frozen? ⟨R, 2, none⟩ = false ∧ w'.cell? ⟨R, 3, none⟩ = some (cv w' R 3) ∧ w'.frozen? ⟨R, 3, none⟩ = false ∧ w'.cell? ⟨R, 4, none⟩ = some (cv w' R 4) ∧ w'.frozen? ⟨R, 4, none⟩ = false ∧ w'.cell? ⟨R, 5, none⟩ = some (cv w' R 5) ∧ w'.frozen? ⟨R, 5, none⟩ = false ∧ w'.cell? ⟨R, 6, none⟩ = some (cv w' R 6) ∧ w'.frozen? ⟨R, 6, none⟩ = false ∧ w'.cell? ⟨R, 7, none⟩ = some (cv w' R 7) ∧ w'.frozen? ⟨R, 7, none⟩ = false ∧ w'.cell? ⟨R, 8, none⟩ = some (cv w' R 8) ∧ w'.frozen? ⟨R, 8, none⟩ = false ∧ w'.cell? ⟨R, 9, none⟩ = some (cv w' R 9) ∧ w'.frozen? ⟨R, 9, none⟩ = false := ⟨h.c (t, 0, .int .i64 y0) (by simp), h.c (t, 1, .int .i64 y1) (by simp), h.c (t, 2, .int .i64 y2) (by simp), h.c (t, 3, .int .i64 y3) (by simp), h.c (s, 0, .int .i64 x0) (by simp), h.c (s, 1, .int .i64 x1) (by simp), h.c (s, 2, .int .i64 x2) (by simp), h.c (s, 3, .int .i64 x3) (by simp), h.d (R, 0) (by simp), h.f (R, 0) (by simp), h.d (R, 1) (by simp), h.f (R, 1) (by simp), h.d (R, 2) (by simp), h.f (R, 2) (by simp), h.d (R, 3) (by simp), h.f (R, 3) (by simp), h.d (R, 4) (by simp), h.f (R, 4) (by simp), h.d (R, 5) (by simp), h.f (R, 5) (by simp), h.d (R, 6) (by simp), h.f (R, 6) (by simp), h.d (R, 7) (by simp), h.f (R, 7) (by simp), h.d (R, 8) (by simp), h.f (R, 8) (by simp), h.d (R, 9) (by simp), h.f (R, 9) (by simp)⟩
theorem K_D2.zs {x0 x1 x2 x3 y0 y1 y2 y3 : Int} {t s R : Nat} {w w' : World} (h : K_D2 x0 x1 x2 x3 y0 y1 y2 y3 t s R w w') : t < w'.heap.size ∧ s < w'.heap.size ∧ R < w'.heap.size ∧ True := ⟨KL.z h (x := (t, 0, .int .i64 y0)) (by simp), KL.z h (x := (s, 0, .int .i64 x0)) (by simp), KL.zf h (x := (R, 0)) (by simp), trivial⟩
theorem K_D2.ks {x0 x1 x2 x3 y0 y1 y2 y3 : Int} {t s R : Nat} {w w' : World} (h : K_D2 x0 x1 x2 x3 y0 y1 y2 y3 t s R w w') : (w'.cell? ⟨t, 0, none⟩ = some (.int .i64 y0) ∧ w'.cell? ⟨t, 1, none⟩ = some (.int .i64 y1) ∧ w'.cell? ⟨t, 2, none⟩ = some (.int .i64 y2) ∧ w'.cell? ⟨t, 3, none⟩ = some (.int .i64 y3) ∧ w'.cell? ⟨s, 0, none⟩ = some (.int .i64 x0) ∧ w'.cell? ⟨s, 1, none⟩ = some (.int .i64 x1) ∧ w'.cell? ⟨s, 2, none⟩ = some (.int .i64 x2) ∧ w'.cell? ⟨s, 3, none⟩ = some (.int .i64 x3) ∧ w'.cell? ⟨R, 0, none⟩ = some (cv w' R 0) ∧ w'.frozen? ⟨R, 0, none⟩ = false ∧ w'.cell? ⟨R, 1, none⟩ = some (cv w' R 1) ∧ w'.frozen? ⟨R, 1, none⟩ = false ∧ w'.cell? ⟨R, 2, none⟩ = some (cv w' R 2) ∧ w'.frozen? ⟨R, 2, none⟩ = false ∧ w'.cell? ⟨R, 3, none⟩ = some (cv w' R 3) ∧ w'.frozen? ⟨R, 3, none⟩ = false ∧ w'.cell? ⟨R, 4, none⟩ = some (cv w' R 4) ∧ w'.frozen? ⟨R, 4, none⟩ = false ∧ w'.cell? ⟨R, 5, none⟩ = some (cv w' R 5) ∧ w'.frozen? ⟨R, 5, none⟩ = false ∧ w'.cell? ⟨R, 6, none⟩ = some (cv w' R 6) ∧ w'.frozen? ⟨R, 6, none⟩ = false ∧ w'.cell? ⟨R, 7, none⟩ = some (cv w' R 7) ∧ w'.frozen? ⟨R, 7, none⟩ = false ∧ w'.cell? ⟨R, 8, none⟩ = some (cv w' R 8) ∧ w'.frozen? ⟨R, 8, none⟩ = false ∧ w'.cell? ⟨R, 9, none⟩ = some (cv w' R 9) ∧ w'.frozen? ⟨R, 9, none⟩ = false) ∧ K_D2 x0 x1 x2 x3 y0 y1 y2 y3 t s R w w' := ⟨h.cells, h⟩
/-- what a walk keeps: cells, and that nothing that was there has turned -/
def K_D3 (a0 a1 a2 a3 r0 r1 r2 r3 : Int) (sb sa R : Nat) (w w' : World) : Prop := KL w [(sb, 0, .int .i64 r0), (sb, 1, .int .i64 r1), (sb, 2, .int .i64 r2), (sb, 3, .int .i64 r3), (sa, 0, .int .i64 a0), (sa, 1, .int .i64 a1), (sa, 2, .int .i64 a2), (sa, 3, .int .i64 a3)] [(R, 0), (R, 1), (R, 2), (R, 3), (R, 4), (R, 5), (R, 6), (R, 7), (R, 8), (R, 9)] w'
theorem K_D3.below {a0 a1 a2 a3 r0 r1 r2 r3 : Int} {sb sa R : Nat} {w w1 w2 : World} (hb : Below w1.heap.size w1 w2) (h : K_D3 a0 a1 a2 a3 r0 r1 r2 r3 sb sa R w w1) : K_D3 a0 a1 a2 a3 r0 r1 r2 r3 sb sa R w w2 := KL.below hb h
theorem K_D3.draws {a0 a1 a2 a3 r0 r1 r2 r3 : Int} {sb sa R : Nat} {w w1 : World} (n : Nat) (h : K_D3 a0 a1 a2 a3 r0 r1 r2 r3 sb sa R w w1) : K_D3 a0 a1 a2 a3 r0 r1 r2 r3 sb sa R w (w1.drewN n) := KL.draws n h
theorem K_D3.drew {a0 a1 a2 a3 r0 r1 r2 r3 : Int} {sb sa R : Nat} {w w1 : World} (h : K_D3 a0 a1 a2 a3 r0 r1 r2 r3 sb sa R w w1) : K_D3 a0 a1 a2 a3 r0 r1 r2 r3 sb sa R w w1.drew := KL.draws 1 h
theorem K_D3.alloc {a0 a1 a2 a3 r0 r1 r2 r3 : Int} {sb sa R : Nat} {w w1 : World} (o : Obj) (h : K_D3 a0 a1 a2 a3 r0 r1 r2 r3 sb sa R w w1) : K_D3 a0 a1 a2 a3 r0 r1 r2 r3 sb sa R w (w1.alloc o) := KL.alloc o h
theorem K_D3.set {a0 a1 a2 a3 r0 r1 r2 r3 : Int} {sb sa R : Nat} {w w1 : World} (h : K_D3 a0 a1 a2 a3 r0 r1 r2 r3 sb sa R w w1) (b i : Nat) (v : Value) (hb : b ≠ sb ∧ b ≠ sa ∧ w.heap.size ≤ b) : K_D3 a0 a1 a2 a3 r0 r1 r2 r3 sb sa R w (w1.setCell ⟨b, i, none⟩ v) :=
  KL.set h b i v (by intro x hx; simp only [List.mem_cons, List.not_mem_nil, or_false] at hx; rcases hx with rfl | rfl | rfl | rfl | rfl | rfl | rfl | rfl <;> simp only [] <;> omega) (by omega)
theorem K_D3.bel {a0 a1 a2 a3 r0 r1 r2 r3 : Int} {sb sa R : Nat} {w w1 : World} (h : K_D3 a0 a1 a2 a3 r0 r1 r2 r3 sb sa R w w1) : Below w.heap.size w w1 := KL.bel h
theorem K_D3.cells {a0 a1 a2 a3 r0 r1 r2 r3 : Int} {sb sa R : Nat} {w w' : World} (h : K_D3 a0 a1 a2 a3 r0 r1 r2 r3 sb sa R w w') : w'.cell? ⟨sb, 0, none⟩ = some (.int .i64 r0) ∧ w'.cell? ⟨sb, 1, none⟩ = some (.int .i64 r1) ∧ w'.cell? ⟨sb, 2, none⟩ = some (.int .i64 r2) ∧ w'.cell? ⟨sb, 3, none⟩ = some (.int .i64 r3) ∧ w'.cell? ⟨sa, 0, none⟩ = some (.int .i64 a0) ∧ w'.cell? ⟨sa, 1, none⟩ = some (.int .i64 a1) ∧ w'.cell? ⟨sa, 2, none⟩ = some (.int .i64 a2) ∧ w'.cell? ⟨sa, 3, none⟩ = some (.int .i64 a3) ∧ w'.cell? ⟨R, 0, none⟩ = some (cv w' R 0) ∧ w'.frozen? ⟨R, 0, none⟩ = false ∧ w'.cell? ⟨R, 1, none⟩ = some (cv w' R 1) ∧ w'.frozen? ⟨R, 1, none⟩ = false ∧ w'.cell? ⟨R, 2, none⟩ = some (cv w' R 2) ∧ w'.frozen? ⟨R, 2, none⟩ = false ∧ w'.cell? ⟨R, 3, none⟩ = some (cv w' R 3) ∧ w'.frozen? ⟨R, 3, none⟩ = false ∧ w'.cell? ⟨R, 4, none⟩ = some (cv w' R 4) ∧ w'.frozen? ⟨R, 4, none⟩ = false ∧ w'.cell? ⟨R, 5, none⟩ = some (cv w' R 5) ∧ w'.frozen? ⟨R, 5, none⟩ = false ∧ w'.cell? ⟨R, 6, none⟩ = some (cv w' R 6) ∧ w'.frozen? ⟨R, 6, none⟩ = false ∧ w'.cell? ⟨R, 7, none⟩ = some (cv w' R 7) ∧ w'.frozen? ⟨R, 7, none⟩ = false ∧ w'.cell? ⟨R, 8, none⟩ = some (cv w' R 8) ∧ w'.frozen? ⟨R, 8, none⟩ = false ∧ w'.cell? ⟨R, 9, none⟩ = some (cv w' R 9) ∧ w'.frozen? ⟨R, 9, none⟩ = false := ⟨h.c (sb, 0, .int .i64 r0) (by simp), h.c (sb, 1, .int .i64 r1) (by simp), h.c (sb, 2, .int .i64 r2) (by simp), h.c (sb, 3, .int .i64 r3) (by simp), h.c (sa, 0, .int .i64 a0) (by simp), h.c (sa, 1, .int .i64 a1) (by simp), h.c (sa, 2, .int .i64 a2) (by simp), h.c (sa, 3, .int .i64 a3) (by simp), h.d (R, 0) (by simp), h.f (R, 0) (by simp), h.d (R, 1) (by simp), h.f (R, 1) (by simp), h.d (R, 2) (by simp), h.f (R, 2) (by simp), h.d (R, 3) (by simp), h.f (R, 3) (by simp), h.d (R, 4) (by simp), h.f (R, 4) (by simp), h.d (R, 5) (by simp), h.f (R, 5) (by simp), h.d (R, 6) (by simp), h.f (R, 6) (by simp), h.d (R, 7) (by simp), h.f (R, 7) (by simp), h.d (R, 8) (by simp), h.f (R, 8) (by simp), h.d (R, 9) (by simp), h.f (R, 9) (by simp)⟩
theorem K_D3.zs {a0 a1 a2 a3 r0 r1 r2 r3 : Int} {sb sa R : Nat} {w w' : World} (h : K_D3 a0 a1 a2 a3 r0 r1 r2 r3 sb sa R w w') : sb < w'.heap.size ∧ sa < w'.heap.size ∧ R < w'.heap.size ∧ True := ⟨KL.z h (x := (sb, 0, .int .i64 r0)) (by simp), KL.z h (x := (sa, 0, .int .i64 a0)) (by simp), KL.zf h (x := (R, 0)) (by simp), trivial⟩
theorem K_D3.ks {a0 a1 a2 a3 r0 r1 r2 r3 : Int} {sb sa R : Nat} {w w' : World} (h : K_D3 a0 a1 a2 a3 r0 r1 r2 r3 sb sa R w w') : (w'.cell? ⟨sb, 0, none⟩ = some (.int .i64 r0) ∧ w'.cell? ⟨sb, 1, none⟩ = some (.int .i64 r1) ∧ w'.cell? ⟨sb, 2, none⟩ = some (.int .i64 r2) ∧ w'.cell? ⟨sb, 3, none⟩ = some (.int .i64 r3) ∧ w'.cell? ⟨sa, 0, none⟩ = some (.int .i64 a0) ∧ w'.cell? ⟨sa, 1, none⟩ = some (.int .i64 a1) ∧ w'.cell? ⟨sa, 2, none⟩ = some (.int .i64 a2) ∧ w'.cell? ⟨sa, 3, none⟩ = some (.int .i64 a3) ∧ w'.cell? ⟨R, 0, none⟩ = some (cv w' R 0) ∧ w'.frozen? ⟨R, 0, none⟩ = false ∧ w'.cell? ⟨R, 1, none⟩ = some (cv w' R 1) ∧ w'.frozen? ⟨R, 1, none⟩ = false ∧ w'.cell? ⟨R, 2, none⟩ = some (cv w' R 2) ∧ w'.frozen? ⟨R, 2, none⟩ = false ∧ w'.cell? ⟨R, 3, none⟩ = some (cv w' R 3) ∧ w'.frozen? ⟨R, 3, none⟩ = false ∧ w'.cell? ⟨R, 4, none⟩ = some (cv w' R 4) ∧ w'.frozen? ⟨R, 4, none⟩ = false ∧ w'.cell? ⟨R, 5, none⟩ = some (cv w' R 5) ∧ w'.frozen? ⟨R, 5, none⟩ = false ∧ w'.cell? ⟨R, 6, none⟩ = some (cv w' R 6) ∧ w'.frozen? ⟨R, 6, none⟩ = false ∧ w'.cell? ⟨R, 7, none⟩ = some (cv w' R 7) ∧ w'.frozen? ⟨R, 7, none⟩ = false ∧ w'.cell? ⟨R, 8, none⟩ = some (cv w' R 8) ∧ w'.frozen? ⟨R, 8, none⟩ = false ∧ w'.cell? ⟨R, 9, none⟩ = some (cv w' R 9) ∧ w'.frozen? ⟨R, 9, none⟩ = false) ∧ K_D3 a0 a1 a2 a3 r0 r1 r2 r3 sb sa R w w' := ⟨h.cells, h⟩
/-- what a walk keeps: cells, and that nothing that was there has turned -/
def K_D1v (a0 a1 a2 a3 a4 a5 a6 a7 a8 a9 : Int) (R : Nat) (w w' : World) : Prop := KL w [(R, 0, .int .i64 a0), (R, 1, .int .i64 a1), (R, 2, .int .i64 a2), (R, 3, .int .i64 a3), (R, 4, .int .i64 a4), (R, 5, .int .i64 a5), (R, 6, .int .i64 a6), (R, 7, .int .i64 a7), (R, 8, .int .i64 a8), (R, 9, .int .i64 a9)] [] w'
theorem K_D1v.below {a0 a1 a2 a3 a4 a5 a6 a7 a8 a9 : Int} {R : Nat} {w w1 w2 : World} (hb : Below w1.heap.size w1 w2) (h : K_D1v a0 a1 a2 a3 a4 a5 a6 a7 a8 a9 R w w1) : K_D1v a0 a1 a2 a3 a4 a5 a6 a7 a8 a9 R w w2 := KL.below hb h
theorem K_D1v.draws {a0 a1 a2 a3 a4 a5 a6 a7 a8 a9 : Int} {R : Nat} {w w1 : World} (n : Nat) (h : K_D1v a0 a1 a2 a3 a4 a5 a6 a7 a8 a9 R w w1) : K_D1v a0 a1 a2 a3 a4 a5 a6 a7 a8 a9 R w (w1.drewN n) := KL.draws n h
theorem K_D1v.drew {a0 a1 a2 a3 a4 a5 a6 a7 a8 a9 : Int} {R : Nat} {w w1 : World} (h : K_D1v a0 a1 a2 a3 a4 a5 a6 a7 a8 a9 R w w1) : K_D1v a0 a1 a2 a3 a4 a5 a6 a7 a8 a9 R w w1.drew := KL.draws 1 h
theorem K_D1v.alloc {a0 a1 a2 a3 a4 a5 a6 a7 a8 a9 : Int} {R : Nat} {w w1 : World} (o : Obj) (h : K_D1v a0 a1 a2 a3 a4 a5 a6 a7 a8 a9 R w w1) : K_D1v a0 a1 a2 a3 a4 a5 a6 a7 a8 a9 R w (w1.alloc o) := KL.alloc o h
theorem K_D1v.set {a0 a1 a2 a3 a4 a5 a6 a7 a8 a9 : Int} {R : Nat} {w w1 : World} (h : K_D1v a0 a1 a2 a3 a4 a5 a6 a7 a8 a9 R w w1) (b i : Nat) (v : Value) (hb : b ≠ R ∧ w.heap.size ≤ b) : K_D1v a0 a1 a2 a3 a4 a5 a6 a7 a8 a9 R w (w1.setCell ⟨b, i, none⟩ v) :=
  KL.set h b i v (by intro x hx; simp only [List.mem_cons, List.not_mem_nil, or_false] at hx; rcases hx with rfl | rfl | rfl | rfl | rfl | rfl | rfl | rfl | rfl | rfl <;> simp only [] <;> omega) (by omega)
theorem K_D1v.bel {a0 a1 a2 a3 a4 a5 a6 a7 a8 a9 : Int} {R : Nat} {w w1 : World} (h : K_D1v a0 a1 a2 a3 a4 a5 a6 a7 a8 a9 R w w1) : Below w.heap.size w w1 := KL.bel h
theorem K_D1v.cells {a0 a1 a2 a3 a4 a5 a6 a7 a8 a9 : Int} {R : Nat} {w w' : World} (h : K_D1v a0 a1 a2 a3 a4 a5 a6 a7 a8 a9 R w w') : w'.cell? ⟨R, 0, none⟩ = some (.int .i64 a0) ∧ w'.cell? ⟨R, 1, none⟩ = some (.int .i64 a1) ∧ w'.cell? ⟨R, 2, none⟩ = some (.int .i64 a2) ∧ w'.cell? ⟨R, 3, none⟩ = some (.int .i64 a3) ∧ w'.cell? ⟨R, 4, none⟩ = some (.int .i64 a4) ∧ w'.cell? ⟨R, 5, none⟩ = some (.int .i64 a5) ∧ w'.cell? ⟨R, 6, none⟩ = some (.int .i64 a6) ∧ w'.cell? ⟨R, 7, none⟩ = some (.int .i64 a7) ∧ w'.cell? ⟨R, 8, none⟩ = some (.int .i64 a8) ∧ w'.cell? ⟨R, 9, none⟩ = some (.int .i64 a9) := ⟨h.c (R, 0, .int .i64 a0) (by simp), h.c (R, 1, .int .i64 a1) (by simp), h.c (R, 2, .int .i64 a2) (by simp), h.c (R, 3, .int .i64 a3) (by simp), h.c (R, 4, .int .i64 a4) (by simp), h.c (R, 5, .int .i64 a5) (by simp), h.c (R, 6, .int .i64 a6) (by simp), h.c (R, 7, .int .i64 a7) (by simp), h.c (R, 8, .int .i64 a8) (by simp), h.c (R, 9, .int .i64 a9) (by simp)⟩
theorem K_D1v.zs {a0 a1 a2 a3 a4 a5 a6 a7 a8 a9 : Int} {R : Nat} {w w' : World} (h : K_D1v a0 a1 a2 a3 a4 a5 a6 a7 a8 a9 R w w') : R < w'.heap.size ∧ True := ⟨KL.z h (x := (R, 0, .int .i64 a0)) (by simp), trivial⟩
theorem K_D1v.ks {a0 a1 a2 a3 a4 a5 a6 a7 a8 a9 : Int} {R : Nat} {w w' : World} (h : K_D1v a0 a1 a2 a3 a4 a5 a6 a7 a8 a9 R w w') : (w'.cell? ⟨R, 0, none⟩ = some (.int .i64 a0) ∧ w'.cell? ⟨R, 1, none⟩ = some (.int .i64 a1) ∧ w'.cell? ⟨R, 2, none⟩ = some (.int .i64 a2) ∧ w'.cell? ⟨R, 3, none⟩ = some (.int .i64 a3) ∧ w'.cell? ⟨R, 4, none⟩ = some (.int .i64 a4) ∧ w'.cell? ⟨R, 5, none⟩ = some (.int .i64 a5) ∧ w'.cell? ⟨R, 6, none⟩ = some (.int .i64 a6) ∧ w'.cell? ⟨R, 7, none⟩ = some (.int .i64 a7) ∧ w'.cell? ⟨R, 8, none⟩ = some (.int .i64 a8) ∧ w'.cell? ⟨R, 9, none⟩ = some (.int .i64 a9)) ∧ K_D1v a0 a1 a2 a3 a4 a5 a6 a7 a8 a9 R w w' := ⟨h.cells, h⟩
theorem KL.put10n {w0 : World} {cs : List (Nat × Nat × Value)} {fs : List (Nat × Nat)} {w : World} {p : Nat} (h : KL w0 cs fs w) (hf : (p, 0) ∈ fs ∧ (p, 1) ∈ fs ∧ (p, 2) ∈ fs ∧ (p, 3) ∈ fs ∧ (p, 4) ∈ fs ∧ (p, 5) ∈ fs ∧ (p, 6) ∈ fs ∧ (p, 7) ∈ fs ∧ (p, 8) ∈ fs ∧ (p, 9) ∈ fs) (hp : ∀ x ∈ cs, p ≠ x.1) (hw : w0.heap.size ≤ p) (a0 a1 a2 a3 a4 a5 a6 a7 a8 a9 : Int) :
    KL w0 ((p, 0, .int .i64 a0) :: (p, 1, .int .i64 a1) :: (p, 2, .int .i64 a2) :: (p, 3, .int .i64 a3) :: (p, 4, .int .i64 a4) :: (p, 5, .int .i64 a5) :: (p, 6, .int .i64 a6) :: (p, 7, .int .i64 a7) :: (p, 8, .int .i64 a8) :: (p, 9, .int .i64 a9) :: cs) fs ((((((((((w.setCell ⟨p, 0, none⟩ (.int .i64 a0)).setCell ⟨p, 1, none⟩ (.int .i64 a1)).setCell ⟨p, 2, none⟩ (.int .i64 a2)).setCell ⟨p, 3, none⟩ (.int .i64 a3)).setCell ⟨p, 4, none⟩ (.int .i64 a4)).setCell ⟨p, 5, none⟩ (.int .i64 a5)).setCell ⟨p, 6, none⟩ (.int .i64 a6)).setCell ⟨p, 7, none⟩ (.int .i64 a7)).setCell ⟨p, 8, none⟩ (.int .i64 a8)).setCell ⟨p, 9, none⟩ (.int .i64 a9)) := by
  obtain ⟨q0, q1, q2, q3, q4, q5, q6, q7, q8, q9⟩ := hf
  have c0 := h.d (p, 0) q0
  have f0 := h.f (p, 0) q0
  have c1 := h.d (p, 1) q1
  have f1 := h.f (p, 1) q1
  have c2 := h.d (p, 2) q2
  have f2 := h.f (p, 2) q2
  have c3 := h.d (p, 3) q3
  have f3 := h.f (p, 3) q3
  have c4 := h.d (p, 4) q4
  have f4 := h.f (p, 4) q4
  have c5 := h.d (p, 5) q5
  have f5 := h.f (p, 5) q5
  have c6 := h.d (p, 6) q6
  have f6 := h.f (p, 6) q6
  have c7 := h.d (p, 7) q7
  have f7 := h.f (p, 7) q7
  have c8 := h.d (p, 8) q8
  have f8 := h.f (p, 8) q8
  have c9 := h.d (p, 9) q9
  have f9 := h.f (p, 9) q9
  simp only [] at c0 f0 c1 f1 c2 f2 c3 f3 c4 f4 c5 f5 c6 f6 c7 f7 c8 f8 c9 f9
  have h1 := ((((((((((h.set p 0 (.int .i64 a0) hp hw).set p 1 (.int .i64 a1) hp hw).set p 2 (.int .i64 a2) hp hw).set p 3 (.int .i64 a3) hp hw).set p 4 (.int .i64 a4) hp hw).set p 5 (.int .i64 a5) hp hw).set p 6 (.int .i64 a6) hp hw).set p 7 (.int .i64 a7) hp hw).set p 8 (.int .i64 a8) hp hw).set p 9 (.int .i64 a9) hp hw)
  refine ⟨fun x hx => ?_, h1.g, h1.f, h1.bel⟩
  simp only [List.mem_cons] at hx
  rcases hx with rfl | rfl | rfl | rfl | rfl | rfl | rfl | rfl | rfl | rfl | hx
  · simp [go_sem, c0, f0, c1, f1, c2, f2, c3, f3, c4, f4, c5, f5, c6, f6, c7, f7, c8, f8, c9, f9]
  · simp [go_sem, c0, f0, c1, f1, c2, f2, c3, f3, c4, f4, c5, f5, c6, f6, c7, f7, c8, f8, c9, f9]
  · simp [go_sem, c0, f0, c1, f1, c2, f2, c3, f3, c4, f4, c5, f5, c6, f6, c7, f7, c8, f8, c9, f9]
  · simp [go_sem, c0, f0, c1, f1, c2, f2, c3, f3, c4, f4, c5, f5, c6, f6, c7, f7, c8, f8, c9, f9]
  · simp [go_sem, c0, f0, c1, f1, c2, f2, c3, f3, c4, f4, c5, f5, c6, f6, c7, f7, c8, f8, c9, f9]
  · simp [go_sem, c0, f0, c1, f1, c2, f2, c3, f3, c4, f4, c5, f5, c6, f6, c7, f7, c8, f8, c9, f9]
  · simp [go_sem, c0, f0, c1, f1, c2, f2, c3, f3, c4, f4, c5, f5, c6, f6, c7, f7, c8, f8, c9, f9]
  · simp [go_sem, c0, f0, c1, f1, c2, f2, c3, f3, c4, f4, c5, f5, c6, f6, c7, f7, c8, f8, c9, f9]
  · simp [go_sem, c0, f0, c1, f1, c2, f2, c3, f3, c4, f4, c5, f5, c6, f6, c7, f7, c8, f8, c9, f9]
  · simp [go_sem, c0, f0, c1, f1, c2, f2, c3, f3, c4, f4, c5, f5, c6, f6, c7, f7, c8, f8, c9, f9]
  · exact h1.c x hx
theorem sm_of {x : H} (hp : par x) (h : N x ≤ 1000000) : sm x := by have := nn_par hp; unfold sm; omega
theorem rem_sm {x y : H} (hx : par x) (hy : par y) (h : 0 < nn y) (hn : N y ≤ 1000000) : N (rem x y) ≤ 1000000 ∧ HB 2000 (rem x y) := by
  have h1 := rem_lt hx hy h
  have h2 := nn_par (par_rem hx hy)
  exact ⟨by omega, nn_bd (n := 2000) (by omega) (by omega)⟩
theorem quo_hb {x y : H} (bx : HB 2000 x) (by' : HB 2000 y) (h : 0 < nn y) : HB 1000000000 (quo x y) := by
  have bc := P_bd4 (HB_conj (HBup by' (show 2000 ≤ 4000000 by decide))) (HBup bx (show 2000 ≤ 4000000 by decide))
  obtain ⟨qi_bd, qh_bd⟩ := qi_le (X := 4000000) (by omega) (HBup bx (show 2000 ≤ 4000000 by decide)).1 (HBup bx (show 2000 ≤ 4000000 by decide)).2.1 (HBup bx (show 2000 ≤ 4000000 by decide)).2.2.1 (HBup bx (show 2000 ≤ 4000000 by decide)).2.2.2 h
  unfold quo
  split
  · exact ⟨by omega, by omega, by omega, by omega⟩
  · exact ⟨by omega, by omega, by omega, by omega⟩
set_option maxHeartbeats 3200000 in
theorem Divide_err (n0 n1 n2 n3 d m0 m1 m2 m3 f : Int) (w : World) (h : acE2 ⟨n0, n1, n2, n3, d⟩ ⟨m0, m1, m2, m3, f⟩ ≠ 0) :
    Calls Try.prog 34 #[.agg #[.int .i64 n0, .int .i64 n1, .int .i64 n2, .int .i64 n3, .int .i64 d], .agg #[.int .i64 m0, .int .i64 m1, .int .i64 m2, .int .i64 m3, .int .i64 f]] w fun e w' => e = .returned (.tuple #[.agg #[.int .i64 0, .int .i64 0, .int .i64 0, .int .i64 0, .int .i64 0, .int .i64 0, .int .i64 0, .int .i64 0, .int .i64 0, .int .i64 0], .int .i64 (acE2 ⟨n0, n1, n2, n3, d⟩ ⟨m0, m1, m2, m3, f⟩)]) ∧ Below w.heap.size w w' := by
  have C1 := Lib.hid (fun W => acceptBoth_any n0 n1 n2 n3 d m0 m1 m2 m3 f W)
  have t : (acE2 ⟨n0, n1, n2, n3, d⟩ ⟨m0, m1, m2, m3, f⟩ != 0) = true := by rw [bne_iff_ne]; exact h
  generalize acE2 ⟨n0, n1, n2, n3, d⟩ ⟨m0, m1, m2, m3, f⟩ = e1 at *
  generalize acX ⟨n0, n1, n2, n3, d⟩ ⟨m0, m1, m2, m3, f⟩ = x at *
  generalize acY ⟨n0, n1, n2, n3, d⟩ ⟨m0, m1, m2, m3, f⟩ = y at *
  clear h
  obtain ⟨x0, x1, x2, x3⟩ := x
  obtain ⟨y0, y1, y2, y3⟩ := y
  simp only [] at C1
  go_enter Try.func34, Try.ntmps34
  go_wp2_with fail
  refine (C1.out _).mono ?_
  rintro e w1 ⟨rfl, hb⟩
  have hK0 : K_D1 (w.heap.size + 1 + 1) w w1 := K_D1.below hb ⟨by simp, by simp [go_sem], by simp [go_sem], by (repeat (first | (with_reducible exact Below.refl _ _) | (with_reducible exact HB.out) | (with_reducible refine below_draws ?_ _) | (with_reducible refine Below.alloc ?_ (by go_size) _) | (with_reducible refine Below.setCell ?_ (by go_size) _) | (with_reducible refine Below.alloc ?_ (by simp <;> omega) _) | (with_reducible refine Below.setCell ?_ (by simp <;> omega) _)))⟩
  obtain ⟨zzR, -⟩ := K_D1.zs hK0
  have hK : K_D2 x0 x1 x2 x3 y0 y1 y2 y3 (w1.heap.size + 1) w1.heap.size (w.heap.size + 1 + 1) w _ := KL.push4 (KL.push4 hK0 x0 x1 x2 x3 97 _ rfl) y0 y1 y2 y3 97 _ (by simp)
  clear hb hK0
  go_upto_region 3 with (fail)
  generalize (w1.alloc (.cells #[.int .i64 x0, .int .i64 x1, .int .i64 x2, .int .i64 x3] 97)).alloc (.cells #[.int .i64 y0, .int .i64 y1, .int .i64 y2, .int .i64 y3] 97) = w2 at hK ⊢
  obtain ⟨c0_, c1_, c2_, c3_, c4_, c5_, c6_, c7_, d0_, f0_, d1_, f1_, d2_, f2_, d3_, f3_, d4_, f4_, d5_, f5_, d6_, f6_, d7_, f7_, d8_, f8_, d9_, f9_⟩ := K_D2.cells hK; obtain ⟨z0_, z1_, z2_, -⟩ := K_D2.zs hK; have HK := Lib.hid hK; clear hK
  have HP := Lib.hid (KL.put10n (p := w.heap.size + 1 + 1) HK.out (by simp) (by intro x hx; simp only [List.mem_cons, List.not_mem_nil, or_false] at hx; rcases hx with rfl | rfl | rfl | rfl | rfl | rfl | rfl | rfl <;> (simp only []; omega)) (by omega) 0 0 0 0 0 0 0 0 0 0)
  go_wp2
  clear c0_ c1_ c2_ c3_ c4_ c5_ c6_ c7_ d0_ f0_ d1_ f1_ d2_ f2_ d3_ f3_ d4_ f4_ d5_ f5_ d6_ f6_ d7_ f7_ d8_ f8_ d9_ f9_ z0_ z1_ z2_
  have hQ : K_D1v 0 0 0 0 0 0 0 0 0 0 (w.heap.size + 1 + 1) w _ := KL.sub HP.out (fun x hx => by simp only [List.mem_cons, List.not_mem_nil, or_false] at hx ⊢; rcases hx with rfl | rfl | rfl | rfl | rfl | rfl | rfl | rfl | rfl | rfl <;> simp) (fun x hx => by simp at hx)
  clear HP
  generalize ((((((((((w2.setCell ⟨w.heap.size + 1 + 1, 0, none⟩ (.int .i64 0)).setCell ⟨w.heap.size + 1 + 1, 1, none⟩ (.int .i64 0)).setCell ⟨w.heap.size + 1 + 1, 2, none⟩ (.int .i64 0)).setCell ⟨w.heap.size + 1 + 1, 3, none⟩ (.int .i64 0)).setCell ⟨w.heap.size + 1 + 1, 4, none⟩ (.int .i64 0)).setCell ⟨w.heap.size + 1 + 1, 5, none⟩ (.int .i64 0)).setCell ⟨w.heap.size + 1 + 1, 6, none⟩ (.int .i64 0)).setCell ⟨w.heap.size + 1 + 1, 7, none⟩ (.int .i64 0)).setCell ⟨w.heap.size + 1 + 1, 8, none⟩ (.int .i64 0)).setCell ⟨w.heap.size + 1 + 1, 9, none⟩ (.int .i64 0)) = W9 at hQ ⊢
  have hK := hQ
  clear hQ
  obtain ⟨c0_, c1_, c2_, c3_, c4_, c5_, c6_, c7_, c8_, c9_⟩ := K_D1v.cells hK; obtain ⟨z0_, -⟩ := K_D1v.zs hK; have HK := Lib.hid hK; clear hK
  have HB := Lib.hid (K_D1v.bel HK.out)
  have u1 : ¬ w.heap.size + 1 = W9.heap.size := by omega
  have u2 : ¬ w.heap.size + 1 + 1 = W9.heap.size := by omega
  have u3 : ¬ w.heap.size + 2 = W9.heap.size := by omega
  have u4 : ¬ w.heap.size + 2 = W9.heap.size + 1 := by omega
  exact bodyPost_ret (v := .tuple #[.agg #[.int .i64 0, .int .i64 0, .int .i64 0, .int .i64 0, .int .i64 0, .int .i64 0, .int .i64 0, .int .i64 0, .int .i64 0, .int .i64 0], .int .i64 e1]) (by simp [results, Try.results34, go_sem, c0_, c1_, c2_, c3_, c4_, c5_, c6_, c7_, c8_, c9_, z0_, u1, u2, u3, u4]) rfl ⟨rfl, by (repeat (first | (with_reducible exact Below.refl _ _) | (with_reducible exact HB.out) | (with_reducible refine below_draws ?_ _) | (with_reducible refine Below.alloc ?_ (by go_size) _) | (with_reducible refine Below.setCell ?_ (by go_size) _) | (with_reducible refine Below.alloc ?_ (by simp <;> omega) _) | (with_reducible refine Below.setCell ?_ (by simp <;> omega) _)))⟩
set_option maxHeartbeats 3200000 in
theorem Divide_zero (n0 n1 n2 n3 d m0 m1 m2 m3 f : Int) (w : World) (h : acE2 ⟨n0, n1, n2, n3, d⟩ ⟨m0, m1, m2, m3, f⟩ = 0) (hz : zeroB (acY ⟨n0, n1, n2, n3, d⟩ ⟨m0, m1, m2, m3, f⟩) = true) :
    Calls Try.prog 34 #[.agg #[.int .i64 n0, .int .i64 n1, .int .i64 n2, .int .i64 n3, .int .i64 d], .agg #[.int .i64 m0, .int .i64 m1, .int .i64 m2, .int .i64 m3, .int .i64 f]] w fun e w' => e = .returned (.tuple #[.agg #[.int .i64 0, .int .i64 0, .int .i64 0, .int .i64 0, .int .i64 0, .int .i64 0, .int .i64 0, .int .i64 0, .int .i64 0, .int .i64 0], .int .i64 10]) ∧ Below w.heap.size w w' := by
  have C1 := Lib.hid (fun W => acceptBoth_any n0 n1 n2 n3 d m0 m1 m2 m3 f W)
  obtain ⟨px, nx, bx, py, ny, by'⟩ := acc2_bd h
  rw [h] at C1
  generalize acX ⟨n0, n1, n2, n3, d⟩ ⟨m0, m1, m2, m3, f⟩ = x at *
  generalize acY ⟨n0, n1, n2, n3, d⟩ ⟨m0, m1, m2, m3, f⟩ = y at *
  have IZ := Lib.hid (fun W => isZero_h y W)
  rw [hz] at IZ
  clear h px py bx by' nx ny hz
  obtain ⟨x0, x1, x2, x3⟩ := x
  obtain ⟨y0, y1, y2, y3⟩ := y
  simp only [] at C1 IZ
  go_enter Try.func34, Try.ntmps34
  go_wp2_with fail
  refine (C1.out _).mono ?_
  rintro e w1 ⟨rfl, hb⟩
  have hK0 : K_D1 (w.heap.size + 1 + 1) w w1 := K_D1.below hb ⟨by simp, by simp [go_sem], by simp [go_sem], by (repeat (first | (with_reducible exact Below.refl _ _) | (with_reducible exact HB.out) | (with_reducible refine below_draws ?_ _) | (with_reducible refine Below.alloc ?_ (by go_size) _) | (with_reducible refine Below.setCell ?_ (by go_size) _) | (with_reducible refine Below.alloc ?_ (by simp <;> omega) _) | (with_reducible refine Below.setCell ?_ (by simp <;> omega) _)))⟩
  obtain ⟨zzR, -⟩ := K_D1.zs hK0
  have hK : K_D2 x0 x1 x2 x3 y0 y1 y2 y3 (w1.heap.size + 1) w1.heap.size (w.heap.size + 1 + 1) w _ := KL.push4 (KL.push4 hK0 x0 x1 x2 x3 97 _ rfl) y0 y1 y2 y3 97 _ (by simp)
  clear hb hK0
  go_wp2_with fail
  refine (IZ.out _).mono ?_
  rintro e w2 ⟨rfl, hb⟩
  have hK := K_D2.below hb hK
  clear hb
  obtain ⟨c0_, c1_, c2_, c3_, c4_, c5_, c6_, c7_, d0_, f0_, d1_, f1_, d2_, f2_, d3_, f3_, d4_, f4_, d5_, f5_, d6_, f6_, d7_, f7_, d8_, f8_, d9_, f9_⟩ := K_D2.cells hK; obtain ⟨z0_, z1_, z2_, -⟩ := K_D2.zs hK; have HK := Lib.hid hK; clear hK
  have HP := Lib.hid (KL.put10n (p := w.heap.size + 1 + 1) HK.out (by simp) (by intro x hx; simp only [List.mem_cons, List.not_mem_nil, or_false] at hx; rcases hx with rfl | rfl | rfl | rfl | rfl | rfl | rfl | rfl <;> (simp only []; omega)) (by omega) 0 0 0 0 0 0 0 0 0 0)
  go_wp2
  clear c0_ c1_ c2_ c3_ c4_ c5_ c6_ c7_ d0_ f0_ d1_ f1_ d2_ f2_ d3_ f3_ d4_ f4_ d5_ f5_ d6_ f6_ d7_ f7_ d8_ f8_ d9_ f9_ z0_ z1_ z2_
  have hQ : K_D1v 0 0 0 0 0 0 0 0 0 0 (w.heap.size + 1 + 1) w _ := KL.sub HP.out (fun x hx => by simp only [List.mem_cons, List.not_mem_nil, or_false] at hx ⊢; rcases hx with rfl | rfl | rfl | rfl | rfl | rfl | rfl | rfl | rfl | rfl <;> simp) (fun x hx => by simp at hx)
  clear HP
  generalize ((((((((((w2.setCell ⟨w.heap.size + 1 + 1, 0, none⟩ (.int .i64 0)).setCell ⟨w.heap.size + 1 + 1, 1, none⟩ (.int .i64 0)).setCell ⟨w.heap.size + 1 + 1, 2, none⟩ (.int .i64 0)).setCell ⟨w.heap.size + 1 + 1, 3, none⟩ (.int .i64 0)).setCell ⟨w.heap.size + 1 + 1, 4, none⟩ (.int .i64 0)).setCell ⟨w.heap.size + 1 + 1, 5, none⟩ (.int .i64 0)).setCell ⟨w.heap.size + 1 + 1, 6, none⟩ (.int .i64 0)).setCell ⟨w.heap.size + 1 + 1, 7, none⟩ (.int .i64 0)).setCell ⟨w.heap.size + 1 + 1, 8, none⟩ (.int .i64 0)).setCell ⟨w.heap.size + 1 + 1, 9, none⟩ (.int .i64 0)) = W9 at hQ ⊢
  have hK := hQ
  clear hQ
  obtain ⟨c0_, c1_, c2_, c3_, c4_, c5_, c6_, c7_, c8_, c9_⟩ := K_D1v.cells hK; obtain ⟨z0_, -⟩ := K_D1v.zs hK; have HK := Lib.hid hK; clear hK
  have HB := Lib.hid (K_D1v.bel HK.out)
  have u1 : ¬ w.heap.size + 1 = W9.heap.size := by omega
  have u2 : ¬ w.heap.size + 1 + 1 = W9.heap.size := by omega
  have u3 : ¬ w.heap.size + 2 = W9.heap.size := by omega
  have u4 : ¬ w.heap.size + 2 = W9.heap.size + 1 := by omega
  exact bodyPost_ret (v := .tuple #[.agg #[.int .i64 0, .int .i64 0, .int .i64 0, .int .i64 0, .int .i64 0, .int .i64 0, .int .i64 0, .int .i64 0, .int .i64 0, .int .i64 0], .int .i64 10]) (by simp [results, Try.results34, go_sem, c0_, c1_, c2_, c3_, c4_, c5_, c6_, c7_, c8_, c9_, z0_, u1, u2, u3, u4]) rfl ⟨rfl, by (repeat (first | (with_reducible exact Below.refl _ _) | (with_reducible exact HB.out) | (with_reducible refine below_draws ?_ _) | (with_reducible refine Below.alloc ?_ (by go_size) _) | (with_reducible refine Below.setCell ?_ (by go_size) _) | (with_reducible refine Below.alloc ?_ (by simp <;> omega) _) | (with_reducible refine Below.setCell ?_ (by simp <;> omega) _)))⟩
set_option maxHeartbeats 3200000 in
theorem Divide_ok (n0 n1 n2 n3 d m0 m1 m2 m3 f : Int) (w : World) (h : acE2 ⟨n0, n1, n2, n3, d⟩ ⟨m0, m1, m2, m3, f⟩ = 0) (hz : zeroB (acY ⟨n0, n1, n2, n3, d⟩ ⟨m0, m1, m2, m3, f⟩) = false) :
    Calls Try.prog 34 #[.agg #[.int .i64 n0, .int .i64 n1, .int .i64 n2, .int .i64 n3, .int .i64 d], .agg #[.int .i64 m0, .int .i64 m1, .int .i64 m2, .int .i64 m3, .int .i64 f]] w fun e w' => e = .returned (.tuple #[.agg #[.int .i64 ((toQ (quo (acX ⟨n0, n1, n2, n3, d⟩ ⟨m0, m1, m2, m3, f⟩) (acY ⟨n0, n1, n2, n3, d⟩ ⟨m0, m1, m2, m3, f⟩))).w), .int .i64 ((toQ (quo (acX ⟨n0, n1, n2, n3, d⟩ ⟨m0, m1, m2, m3, f⟩) (acY ⟨n0, n1, n2, n3, d⟩ ⟨m0, m1, m2, m3, f⟩))).x), .int .i64 ((toQ (quo (acX ⟨n0, n1, n2, n3, d⟩ ⟨m0, m1, m2, m3, f⟩) (acY ⟨n0, n1, n2, n3, d⟩ ⟨m0, m1, m2, m3, f⟩))).y), .int .i64 ((toQ (quo (acX ⟨n0, n1, n2, n3, d⟩ ⟨m0, m1, m2, m3, f⟩) (acY ⟨n0, n1, n2, n3, d⟩ ⟨m0, m1, m2, m3, f⟩))).z), .int .i64 ((toQ (quo (acX ⟨n0, n1, n2, n3, d⟩ ⟨m0, m1, m2, m3, f⟩) (acY ⟨n0, n1, n2, n3, d⟩ ⟨m0, m1, m2, m3, f⟩))).d), .int .i64 ((toQ (rem (acX ⟨n0, n1, n2, n3, d⟩ ⟨m0, m1, m2, m3, f⟩) (acY ⟨n0, n1, n2, n3, d⟩ ⟨m0, m1, m2, m3, f⟩))).w), .int .i64 ((toQ (rem (acX ⟨n0, n1, n2, n3, d⟩ ⟨m0, m1, m2, m3, f⟩) (acY ⟨n0, n1, n2, n3, d⟩ ⟨m0, m1, m2, m3, f⟩))).x), .int .i64 ((toQ (rem (acX ⟨n0, n1, n2, n3, d⟩ ⟨m0, m1, m2, m3, f⟩) (acY ⟨n0, n1, n2, n3, d⟩ ⟨m0, m1, m2, m3, f⟩))).y), .int .i64 ((toQ (rem (acX ⟨n0, n1, n2, n3, d⟩ ⟨m0, m1, m2, m3, f⟩) (acY ⟨n0, n1, n2, n3, d⟩ ⟨m0, m1, m2, m3, f⟩))).z), .int .i64 ((toQ (rem (acX ⟨n0, n1, n2, n3, d⟩ ⟨m0, m1, m2, m3, f⟩) (acY ⟨n0, n1, n2, n3, d⟩ ⟨m0, m1, m2, m3, f⟩))).d)], .int .i64 0]) ∧ Below w.heap.size w w' := by
  have C1 := Lib.hid (fun W => acceptBoth_any n0 n1 n2 n3 d m0 m1 m2 m3 f W)
  obtain ⟨px, nx, bx, py, ny, by'⟩ := acc2_bd h
  rw [h] at C1
  generalize acX ⟨n0, n1, n2, n3, d⟩ ⟨m0, m1, m2, m3, f⟩ = x at *
  generalize acY ⟨n0, n1, n2, n3, d⟩ ⟨m0, m1, m2, m3, f⟩ = y at *
  have IZ := Lib.hid (fun W => isZero_h y W)
  rw [hz] at IZ
  have n0' : 0 < nn y := nz hz
  have DV := Lib.hid (fun W => divided_any x y W px py (sm_of px nx) (sm_of py ny) n0')
  have RA := Lib.hid (fun W => result_h (quo x y) W (HBup (quo_hb bx by' n0') (by decide)))
  have RB := Lib.hid (fun W => result_h (rem x y) W (HBup (rem_sm px py n0' ny).2 (by decide)))
  clear n0'
  generalize toQ (quo x y) = q at *
  generalize toQ (rem x y) = s at *
  generalize quo x y = a at *
  generalize rem x y = r at *
  clear h px py bx by' nx ny hz
  obtain ⟨x0, x1, x2, x3⟩ := x
  obtain ⟨y0, y1, y2, y3⟩ := y
  obtain ⟨a0, a1, a2, a3⟩ := a
  obtain ⟨r0, r1, r2, r3⟩ := r
  obtain ⟨q0, q1, q2, q3, q4⟩ := q
  obtain ⟨s0, s1, s2, s3, s4⟩ := s
  simp only [] at C1 IZ DV RA RB ⊢
  go_enter Try.func34, Try.ntmps34
  go_wp2_with fail
  refine (C1.out _).mono ?_
  rintro e w1 ⟨rfl, hb⟩
  have hK0 : K_D1 (w.heap.size + 1 + 1) w w1 := K_D1.below hb ⟨by simp, by simp [go_sem], by simp [go_sem], by (repeat (first | (with_reducible exact Below.refl _ _) | (with_reducible exact HB.out) | (with_reducible refine below_draws ?_ _) | (with_reducible refine Below.alloc ?_ (by go_size) _) | (with_reducible refine Below.setCell ?_ (by go_size) _) | (with_reducible refine Below.alloc ?_ (by simp <;> omega) _) | (with_reducible refine Below.setCell ?_ (by simp <;> omega) _)))⟩
  obtain ⟨zzR, -⟩ := K_D1.zs hK0
  have hK : K_D2 x0 x1 x2 x3 y0 y1 y2 y3 (w1.heap.size + 1) w1.heap.size (w.heap.size + 1 + 1) w _ := KL.push4 (KL.push4 hK0 x0 x1 x2 x3 97 _ rfl) y0 y1 y2 y3 97 _ (by simp)
  clear hb hK0
  go_wp2_with fail
  refine (IZ.out _).mono ?_
  rintro e w2 ⟨rfl, hb⟩
  have hK := K_D2.below hb hK
  clear hb
  obtain ⟨c0_, c1_, c2_, c3_, c4_, c5_, c6_, c7_, d0_, f0_, d1_, f1_, d2_, f2_, d3_, f3_, d4_, f4_, d5_, f5_, d6_, f6_, d7_, f7_, d8_, f8_, d9_, f9_⟩ := K_D2.cells hK; obtain ⟨z0_, z1_, z2_, -⟩ := K_D2.zs hK; have HK := Lib.hid hK; clear hK
  go_wp2_with fail
  refine (DV.out _).mono ?_
  rintro e w3 ⟨rfl, hb⟩
  clear c0_ c1_ c2_ c3_ c4_ c5_ c6_ c7_ d0_ f0_ d1_ f1_ d2_ f2_ d3_ f3_ d4_ f4_ d5_ f5_ d6_ f6_ d7_ f7_ d8_ f8_ d9_ f9_ z0_ z1_ z2_
  have hK1 : K_D1 (w.heap.size + 1 + 1) w w3 := KL.sub (K_D2.below hb HK.out) (fun x hx => by simp at hx) (fun x hx => hx)
  obtain ⟨zz2, -⟩ := K_D1.zs hK1
  have hk : K_D3 a0 a1 a2 a3 r0 r1 r2 r3 (w3.heap.size + 1) w3.heap.size (w.heap.size + 1 + 1) w _ := KL.push4 (KL.push4 hK1 a0 a1 a2 a3 97 _ rfl) r0 r1 r2 r3 97 _ (by simp)
  clear hb hK1 HK
  go_wp2_with fail
  generalize (w3.alloc (.cells #[.int .i64 a0, .int .i64 a1, .int .i64 a2, .int .i64 a3] 97)).alloc (.cells #[.int .i64 r0, .int .i64 r1, .int .i64 r2, .int .i64 r3] 97) = W2 at hk ⊢
  go_region_held3 (fun w' => (w'.cell? ⟨(w3.heap.size + 1), 0, none⟩ = some (.int .i64 r0) ∧ w'.cell? ⟨(w3.heap.size + 1), 1, none⟩ = some (.int .i64 r1) ∧ w'.cell? ⟨(w3.heap.size + 1), 2, none⟩ = some (.int .i64 r2) ∧ w'.cell? ⟨(w3.heap.size + 1), 3, none⟩ = some (.int .i64 r3) ∧ w'.cell? ⟨w3.heap.size, 0, none⟩ = some (.int .i64 a0) ∧ w'.cell? ⟨w3.heap.size, 1, none⟩ = some (.int .i64 a1) ∧ w'.cell? ⟨w3.heap.size, 2, none⟩ = some (.int .i64 a2) ∧ w'.cell? ⟨w3.heap.size, 3, none⟩ = some (.int .i64 a3) ∧ w'.cell? ⟨(w.heap.size + 1 + 1), 0, none⟩ = some (cv w' ((w.heap.size + 1 + 1)) 0) ∧ w'.frozen? ⟨(w.heap.size + 1 + 1), 0, none⟩ = false ∧ w'.cell? ⟨(w.heap.size + 1 + 1), 1, none⟩ = some (cv w' ((w.heap.size + 1 + 1)) 1) ∧ w'.frozen? ⟨(w.heap.size + 1 + 1), 1, none⟩ = false ∧ w'.cell? ⟨(w.heap.size + 1 + 1), 2, none⟩ = some (cv w' ((w.heap.size + 1 + 1)) 2) ∧ w'.frozen? ⟨(w.heap.size + 1 + 1), 2, none⟩ = false ∧ w'.cell? ⟨(w.heap.size + 1 + 1), 3, none⟩ = some (cv w' ((w.heap.size + 1 + 1)) 3) ∧ w'.frozen? ⟨(w.heap.size + 1 + 1), 3, none⟩ = false ∧ w'.cell? ⟨(w.heap.size + 1 + 1), 4, none⟩ = some (cv w' ((w.heap.size + 1 + 1)) 4) ∧ w'.frozen? ⟨(w.heap.size + 1 + 1), 4, none⟩ = false ∧ w'.cell? ⟨(w.heap.size + 1 + 1), 5, none⟩ = some (cv w' ((w.heap.size + 1 + 1)) 5) ∧ w'.frozen? ⟨(w.heap.size + 1 + 1), 5, none⟩ = false ∧ w'.cell? ⟨(w.heap.size + 1 + 1), 6, none⟩ = some (cv w' ((w.heap.size + 1 + 1)) 6) ∧ w'.frozen? ⟨(w.heap.size + 1 + 1), 6, none⟩ = false ∧ w'.cell? ⟨(w.heap.size + 1 + 1), 7, none⟩ = some (cv w' ((w.heap.size + 1 + 1)) 7) ∧ w'.frozen? ⟨(w.heap.size + 1 + 1), 7, none⟩ = false ∧ w'.cell? ⟨(w.heap.size + 1 + 1), 8, none⟩ = some (cv w' ((w.heap.size + 1 + 1)) 8) ∧ w'.frozen? ⟨(w.heap.size + 1 + 1), 8, none⟩ = false ∧ w'.cell? ⟨(w.heap.size + 1 + 1), 9, none⟩ = some (cv w' ((w.heap.size + 1 + 1)) 9) ∧ w'.frozen? ⟨(w.heap.size + 1 + 1), 9, none⟩ = false) ∧ K_D3 a0 a1 a2 a3 r0 r1 r2 r3 (w3.heap.size + 1) w3.heap.size (w.heap.size + 1 + 1) w w') ((refine K_D3.ks ?_; repeat (first | (with_reducible assumption) | (with_reducible refine K_D3.draws _ ?_) | (with_reducible refine K_D3.drew ?_) | (with_reducible refine K_D3.alloc _ ?_) | (with_reducible refine K_D3.set ?_ _ _ _ (by omega)))))
    (first
      | (go_at_call 70; (with_reducible refine (RA.out _).mono ?_); rintro e w' ⟨rfl, hbel⟩; have hk' := K_D3.below hbel (And.right (by assumption)); clear hbel)
      | (go_at_call 70; (with_reducible refine (RB.out _).mono ?_); rintro e w'' ⟨rfl, hbel⟩; have hk'' := K_D3.below hbel (And.right (by assumption)); clear hbel))
  all_goals
    have HP := Lib.hid (KL.put10n (p := w.heap.size + 1 + 1) hk'' (by simp) (by intro x hx; simp only [List.mem_cons, List.not_mem_nil, or_false] at hx; rcases hx with rfl | rfl | rfl | rfl | rfl | rfl | rfl | rfl <;> (simp only []; omega)) (by omega) q0 q1 q2 q3 q4 s0 s1 s2 s3 s4)
    clear hk hk' hk''
    have hQ : K_D1v q0 q1 q2 q3 q4 s0 s1 s2 s3 s4 (w.heap.size + 1 + 1) w _ := KL.sub HP.out (fun x hx => by simp only [List.mem_cons, List.not_mem_nil, or_false] at hx ⊢; rcases hx with rfl | rfl | rfl | rfl | rfl | rfl | rfl | rfl | rfl | rfl <;> simp) (fun x hx => by simp at hx)
    clear HP
    generalize ((((((((((w''.setCell ⟨w.heap.size + 1 + 1, 0, none⟩ (.int .i64 q0)).setCell ⟨w.heap.size + 1 + 1, 1, none⟩ (.int .i64 q1)).setCell ⟨w.heap.size + 1 + 1, 2, none⟩ (.int .i64 q2)).setCell ⟨w.heap.size + 1 + 1, 3, none⟩ (.int .i64 q3)).setCell ⟨w.heap.size + 1 + 1, 4, none⟩ (.int .i64 q4)).setCell ⟨w.heap.size + 1 + 1, 5, none⟩ (.int .i64 s0)).setCell ⟨w.heap.size + 1 + 1, 6, none⟩ (.int .i64 s1)).setCell ⟨w.heap.size + 1 + 1, 7, none⟩ (.int .i64 s2)).setCell ⟨w.heap.size + 1 + 1, 8, none⟩ (.int .i64 s3)).setCell ⟨w.heap.size + 1 + 1, 9, none⟩ (.int .i64 s4)) = W9 at hQ ⊢
    have hK := hQ
    clear hQ
    obtain ⟨c0_, c1_, c2_, c3_, c4_, c5_, c6_, c7_, c8_, c9_⟩ := K_D1v.cells hK; obtain ⟨z0_, -⟩ := K_D1v.zs hK; have HK := Lib.hid hK; clear hK
    have HB := Lib.hid (K_D1v.bel HK.out)
    have u1 : ¬ w.heap.size + 1 = W9.heap.size := by omega
    have u2 : ¬ w.heap.size + 1 + 1 = W9.heap.size := by omega
    have u3 : ¬ w.heap.size + 2 = W9.heap.size := by omega
    have u4 : ¬ w.heap.size + 2 = W9.heap.size + 1 := by omega
    go_wp2
    exact bodyPost_ret (v := .tuple #[.agg #[.int .i64 q0, .int .i64 q1, .int .i64 q2, .int .i64 q3, .int .i64 q4, .int .i64 s0, .int .i64 s1, .int .i64 s2, .int .i64 s3, .int .i64 s4], .int .i64 0]) (by simp [results, Try.results34, go_sem, c0_, c1_, c2_, c3_, c4_, c5_, c6_, c7_, c8_, c9_, z0_, u1, u2, u3, u4]) rfl ⟨rfl, by (repeat (first | (with_reducible exact Below.refl _ _) | (with_reducible exact HB.out) | (with_reducible refine below_draws ?_ _) | (with_reducible refine Below.alloc ?_ (by go_size) _) | (with_reducible refine Below.setCell ?_ (by go_size) _) | (with_reducible refine Below.alloc ?_ (by simp <;> omega) _) | (with_reducible refine Below.setCell ?_ (by simp <;> omega) _)))⟩
/-- one step of the algorithm -/
theorem gcdF_fuel : ∀ (m k : Nat) {x y : H}, par x → par y → (N y).toNat < m → (N y).toNat < k → gcdF m x y = gcdF k x y
  | 0, k, x, y, _, _, h, _ => by omega
  | m + 1, 0, x, y, _, _, _, h => by omega
  | m + 1, k + 1, x, y, hx, hy, h1, h2 => by
    unfold gcdF
    rcases hz : zeroB y with _ | _
    · have h3 := rem_lt hx hy (nz hz)
      have h4 := N_nonneg (rem x y)
      simp only [Bool.false_eq_true, if_false]
      exact gcdF_fuel m k hy (par_rem hx hy) (by omega) (by omega)
    · rfl
theorem gcdH_step {x y : H} (hx : par x) (hy : par y) (hz : zeroB y = false) : gcdH x y = gcdH y (rem x y) := by
  have h3 := rem_lt hx hy (nz hz)
  have h4 := N_nonneg (rem x y)
  show gcdF ((N y).toNat + 1) x y = gcdF ((N (rem x y)).toNat + 1) y (rem x y)
  have h5 : gcdF ((N y).toNat + 1) x y = gcdF (N y).toNat y (rem x y) := by
    conv => lhs; unfold gcdF
    rw [hz]; rfl
  rw [h5]
  exact gcdF_fuel _ _ hy (par_rem hx hy) (by omega) (by omega)
theorem gcdH_end {x y : H} (hz : zeroB y = true) : gcdH x y = x := by
  show gcdF ((N y).toNat + 1) x y = x
  unfold gcdF
  rw [hz]; rfl
/-- what a walk keeps: cells, and that nothing that was there has turned -/
def K_Gc (a0 a1 a2 a3 b0 b1 b2 b3 : Int) (p q R : Nat) (w w' : World) : Prop := KL w [(p, 0, .int .i64 a0), (p, 1, .int .i64 a1), (p, 2, .int .i64 a2), (p, 3, .int .i64 a3), (q, 0, .int .i64 b0), (q, 1, .int .i64 b1), (q, 2, .int .i64 b2), (q, 3, .int .i64 b3)] [(p, 0), (p, 1), (p, 2), (p, 3), (q, 0), (q, 1), (q, 2), (q, 3), (R, 0), (R, 1), (R, 2), (R, 3)] w'
theorem K_Gc.below {a0 a1 a2 a3 b0 b1 b2 b3 : Int} {p q R : Nat} {w w1 w2 : World} (hb : Below w1.heap.size w1 w2) (h : K_Gc a0 a1 a2 a3 b0 b1 b2 b3 p q R w w1) : K_Gc a0 a1 a2 a3 b0 b1 b2 b3 p q R w w2 := KL.below hb h
theorem K_Gc.draws {a0 a1 a2 a3 b0 b1 b2 b3 : Int} {p q R : Nat} {w w1 : World} (n : Nat) (h : K_Gc a0 a1 a2 a3 b0 b1 b2 b3 p q R w w1) : K_Gc a0 a1 a2 a3 b0 b1 b2 b3 p q R w (w1.drewN n) := KL.draws n h
theorem K_Gc.drew {a0 a1 a2 a3 b0 b1 b2 b3 : Int} {p q R : Nat} {w w1 : World} (h : K_Gc a0 a1 a2 a3 b0 b1 b2 b3 p q R w w1) : K_Gc a0 a1 a2 a3 b0 b1 b2 b3 p q R w w1.drew := KL.draws 1 h
theorem K_Gc.alloc {a0 a1 a2 a3 b0 b1 b2 b3 : Int} {p q R : Nat} {w w1 : World} (o : Obj) (h : K_Gc a0 a1 a2 a3 b0 b1 b2 b3 p q R w w1) : K_Gc a0 a1 a2 a3 b0 b1 b2 b3 p q R w (w1.alloc o) := KL.alloc o h
theorem K_Gc.set {a0 a1 a2 a3 b0 b1 b2 b3 : Int} {p q R : Nat} {w w1 : World} (h : K_Gc a0 a1 a2 a3 b0 b1 b2 b3 p q R w w1) (b i : Nat) (v : Value) (hb : b ≠ p ∧ b ≠ q ∧ w.heap.size ≤ b) : K_Gc a0 a1 a2 a3 b0 b1 b2 b3 p q R w (w1.setCell ⟨b, i, none⟩ v) :=
  KL.set h b i v (by intro x hx; simp only [List.mem_cons, List.not_mem_nil, or_false] at hx; rcases hx with rfl | rfl | rfl | rfl | rfl | rfl | rfl | rfl <;> simp only [] <;> omega) (by omega)
theorem K_Gc.bel {a0 a1 a2 a3 b0 b1 b2 b3 : Int} {p q R : Nat} {w w1 : World} (h : K_Gc a0 a1 a2 a3 b0 b1 b2 b3 p q R w w1) : Below w.heap.size w w1 := KL.bel h
theorem K_Gc.cells {a0 a1 a2 a3 b0 b1 b2 b3 : Int} {p q R : Nat} {w w' : World} (h : K_Gc a0 a1 a2 a3 b0 b1 b2 b3 p q R w w') : w'.cell? ⟨p, 0, none⟩ = some (.int .i64 a0) ∧ w'.cell? ⟨p, 1, none⟩ = some (.int .i64 a1) ∧ w'.cell? ⟨p, 2, none⟩ = some (.int .i64 a2) ∧ w'.cell? ⟨p, 3, none⟩ = some (.int .i64 a3) ∧ w'.cell? ⟨q, 0, none⟩ = some (.int .i64 b0) ∧ w'.cell? ⟨q, 1, none⟩ = some (.int .i64 b1) ∧ w'.cell? ⟨q, 2, none⟩ = some (.int .i64 b2) ∧ w'.cell? ⟨q, 3, none⟩ = some (.int .i64 b3) ∧ w'.frozen? ⟨p, 0, none⟩ = false ∧ w'.frozen? ⟨p, 1, none⟩ = false ∧ w'.frozen? ⟨p, 2, none⟩ = false ∧ w'.frozen? ⟨p, 3, none⟩ = false ∧ w'.frozen? ⟨q, 0, none⟩ = false ∧ w'.frozen? ⟨q, 1, none⟩ = false ∧ w'.frozen? ⟨q, 2, none⟩ = false ∧ w'.frozen? ⟨q, 3, none⟩ = false ∧ w'.cell? ⟨R, 0, none⟩ = some (cv w' R 0) ∧ w'.frozen? ⟨R, 0, none⟩ = false ∧ w'.cell? ⟨R, 1, none⟩ = some (cv w' R 1) ∧ w'.frozen? ⟨R, 1, none⟩ = false ∧ w'.cell? ⟨R, 2, none⟩ = some (cv w' R 2) ∧ w'.frozen? ⟨R, 2, none⟩ = false ∧ w'.cell? ⟨R, 3, none⟩ = some (cv w' R 3) ∧ w'.frozen? ⟨R, 3, none⟩ = false := ⟨h.c (p, 0, .int .i64 a0) (by simp), h.c (p, 1, .int .i64 a1) (by simp), h.c (p, 2, .int .i64 a2) (by simp), h.c (p, 3, .int .i64 a3) (by simp), h.c (q, 0, .int .i64 b0) (by simp), h.c (q, 1, .int .i64 b1) (by simp), h.c (q, 2, .int .i64 b2) (by simp), h.c (q, 3, .int .i64 b3) (by simp), h.f (p, 0) (by simp), h.f (p, 1) (by simp), h.f (p, 2) (by simp), h.f (p, 3) (by simp), h.f (q, 0) (by simp), h.f (q, 1) (by simp), h.f (q, 2) (by simp), h.f (q, 3) (by simp), h.d (R, 0) (by simp), h.f (R, 0) (by simp), h.d (R, 1) (by simp), h.f (R, 1) (by simp), h.d (R, 2) (by simp), h.f (R, 2) (by simp), h.d (R, 3) (by simp), h.f (R, 3) (by simp)⟩
theorem K_Gc.zs {a0 a1 a2 a3 b0 b1 b2 b3 : Int} {p q R : Nat} {w w' : World} (h : K_Gc a0 a1 a2 a3 b0 b1 b2 b3 p q R w w') : p < w'.heap.size ∧ q < w'.heap.size ∧ R < w'.heap.size ∧ True := ⟨KL.z h (x := (p, 0, .int .i64 a0)) (by simp), KL.z h (x := (q, 0, .int .i64 b0)) (by simp), KL.zf h (x := (R, 0)) (by simp), trivial⟩
theorem K_Gc.ks {a0 a1 a2 a3 b0 b1 b2 b3 : Int} {p q R : Nat} {w w' : World} (h : K_Gc a0 a1 a2 a3 b0 b1 b2 b3 p q R w w') : (w'.cell? ⟨p, 0, none⟩ = some (.int .i64 a0) ∧ w'.cell? ⟨p, 1, none⟩ = some (.int .i64 a1) ∧ w'.cell? ⟨p, 2, none⟩ = some (.int .i64 a2) ∧ w'.cell? ⟨p, 3, none⟩ = some (.int .i64 a3) ∧ w'.cell? ⟨q, 0, none⟩ = some (.int .i64 b0) ∧ w'.cell? ⟨q, 1, none⟩ = some (.int .i64 b1) ∧ w'.cell? ⟨q, 2, none⟩ = some (.int .i64 b2) ∧ w'.cell? ⟨q, 3, none⟩ = some (.int .i64 b3) ∧ w'.frozen? ⟨p, 0, none⟩ = false ∧ w'.frozen? ⟨p, 1, none⟩ = false ∧ w'.frozen? ⟨p, 2, none⟩ = false ∧ w'.frozen? ⟨p, 3, none⟩ = false ∧ w'.frozen? ⟨q, 0, none⟩ = false ∧ w'.frozen? ⟨q, 1, none⟩ = false ∧ w'.frozen? ⟨q, 2, none⟩ = false ∧ w'.frozen? ⟨q, 3, none⟩ = false ∧ w'.cell? ⟨R, 0, none⟩ = some (cv w' R 0) ∧ w'.frozen? ⟨R, 0, none⟩ = false ∧ w'.cell? ⟨R, 1, none⟩ = some (cv w' R 1) ∧ w'.frozen? ⟨R, 1, none⟩ = false ∧ w'.cell? ⟨R, 2, none⟩ = some (cv w' R 2) ∧ w'.frozen? ⟨R, 2, none⟩ = false ∧ w'.cell? ⟨R, 3, none⟩ = some (cv w' R 3) ∧ w'.frozen? ⟨R, 3, none⟩ = false) ∧ K_Gc a0 a1 a2 a3 b0 b1 b2 b3 p q R w w' := ⟨h.cells, h⟩
/-- what a walk keeps: cells, and that nothing that was there has turned -/
def K_Gd (u0 u1 u2 u3 r0 r1 r2 r3 a0 a1 a2 a3 b0 b1 b2 b3 : Int) (sb sa p q R : Nat) (w w' : World) : Prop := KL w [(sb, 0, .int .i64 r0), (sb, 1, .int .i64 r1), (sb, 2, .int .i64 r2), (sb, 3, .int .i64 r3), (sa, 0, .int .i64 u0), (sa, 1, .int .i64 u1), (sa, 2, .int .i64 u2), (sa, 3, .int .i64 u3), (p, 0, .int .i64 a0), (p, 1, .int .i64 a1), (p, 2, .int .i64 a2), (p, 3, .int .i64 a3), (q, 0, .int .i64 b0), (q, 1, .int .i64 b1), (q, 2, .int .i64 b2), (q, 3, .int .i64 b3)] [(p, 0), (p, 1), (p, 2), (p, 3), (q, 0), (q, 1), (q, 2), (q, 3), (R, 0), (R, 1), (R, 2), (R, 3)] w'
theorem K_Gd.below {u0 u1 u2 u3 r0 r1 r2 r3 a0 a1 a2 a3 b0 b1 b2 b3 : Int} {sb sa p q R : Nat} {w w1 w2 : World} (hb : Below w1.heap.size w1 w2) (h : K_Gd u0 u1 u2 u3 r0 r1 r2 r3 a0 a1 a2 a3 b0 b1 b2 b3 sb sa p q R w w1) : K_Gd u0 u1 u2 u3 r0 r1 r2 r3 a0 a1 a2 a3 b0 b1 b2 b3 sb sa p q R w w2 := KL.below hb h
theorem K_Gd.draws {u0 u1 u2 u3 r0 r1 r2 r3 a0 a1 a2 a3 b0 b1 b2 b3 : Int} {sb sa p q R : Nat} {w w1 : World} (n : Nat) (h : K_Gd u0 u1 u2 u3 r0 r1 r2 r3 a0 a1 a2 a3 b0 b1 b2 b3 sb sa p q R w w1) : K_Gd u0 u1 u2 u3 r0 r1 r2 r3 a0 a1 a2 a3 b0 b1 b2 b3 sb sa p q R w (w1.drewN n) := KL.draws n h
theorem K_Gd.drew {u0 u1 u2 u3 r0 r1 r2 r3 a0 a1 a2 a3 b0 b1 b2 b3 : Int} {sb sa p q R : Nat} {w w1 : World} (h : K_Gd u0 u1 u2 u3 r0 r1 r2 r3 a0 a1 a2 a3 b0 b1 b2 b3 sb sa p q R w w1) : K_Gd u0 u1 u2 u3 r0 r1 r2 r3 a0 a1 a2 a3 b0 b1 b2 b3 sb sa p q R w w1.drew := KL.draws 1 h
theorem K_Gd.alloc {u0 u1 u2 u3 r0 r1 r2 r3 a0 a1 a2 a3 b0 b1 b2 b3 : Int} {sb sa p q R : Nat} {w w1 : World} (o : Obj) (h : K_Gd u0 u1 u2 u3 r0 r1 r2 r3 a0 a1 a2 a3 b0 b1 b2 b3 sb sa p q R w w1) : K_Gd u0 u1 u2 u3 r0 r1 r2 r3 a0 a1 a2 a3 b0 b1 b2 b3 sb sa p q R w (w1.alloc o) := KL.alloc o h
theorem K_Gd.set {u0 u1 u2 u3 r0 r1 r2 r3 a0 a1 a2 a3 b0 b1 b2 b3 : Int} {sb sa p q R : Nat} {w w1 : World} (h : K_Gd u0 u1 u2 u3 r0 r1 r2 r3 a0 a1 a2 a3 b0 b1 b2 b3 sb sa p q R w w1) (b i : Nat) (v : Value) (hb : b ≠ sb ∧ b ≠ sa ∧ b ≠ p ∧ b ≠ q ∧ w.heap.size ≤ b) : K_Gd u0 u1 u2 u3 r0 r1 r2 r3 a0 a1 a2 a3 b0 b1 b2 b3 sb sa p q R w (w1.setCell ⟨b, i, none⟩ v) :=
  KL.set h b i v (by intro x hx; simp only [List.mem_cons, List.not_mem_nil, or_false] at hx; rcases hx with rfl | rfl | rfl | rfl | rfl | rfl | rfl | rfl | rfl | rfl | rfl | rfl | rfl | rfl | rfl | rfl <;> simp only [] <;> omega) (by omega)
theorem K_Gd.bel {u0 u1 u2 u3 r0 r1 r2 r3 a0 a1 a2 a3 b0 b1 b2 b3 : Int} {sb sa p q R : Nat} {w w1 : World} (h : K_Gd u0 u1 u2 u3 r0 r1 r2 r3 a0 a1 a2 a3 b0 b1 b2 b3 sb sa p q R w w1) : Below w.heap.size w w1 := KL.bel h
theorem K_Gd.cells {u0 u1 u2 u3 r0 r1 r2 r3 a0 a1 a2 a3 b0 b1 b2 b3 : Int} {sb sa p q R : Nat} {w w' : World} (h : K_Gd u0 u1 u2 u3 r0 r1 r2 r3 a0 a1 a2 a3 b0 b1 b2 b3 sb sa p q R w w') : w'.cell? ⟨sb, 0, none⟩ = some (.int .i64 r0) ∧ w'.cell? ⟨sb, 1, none⟩ = some (.int .i64 r1) ∧ w'.cell? ⟨sb, 2, none⟩ = some (.int .i64 r2) ∧ w'.cell? ⟨sb, 3, none⟩ = some (.int .i64 r3) ∧ w'.cell? ⟨sa, 0, none⟩ = some (.int .i64 u0) ∧ w'.cell? ⟨sa, 1, none⟩ = some (.int .i64 u1) ∧ w'.cell? ⟨sa, 2, none⟩ = some (.int .i64 u2) ∧ w'.cell? ⟨sa, 3, none⟩ = some (.int .i64 u3) ∧ w'.cell? ⟨p, 0, none⟩ = some (.int .i64 a0) ∧ w'.cell? ⟨p, 1, none⟩ = some (.int .i64 a1) ∧ w'.cell? ⟨p, 2, none⟩ = some (.int .i64 a2) ∧ w'.cell? ⟨p, 3, none⟩ = some (.int .i64 a3) ∧ w'.cell? ⟨q, 0, none⟩ = some (.int .i64 b0) ∧ w'.cell? ⟨q, 1, none⟩ = some (.int .i64 b1) ∧ w'.cell? ⟨q, 2, none⟩ = some (.int .i64 b2) ∧ w'.cell? ⟨q, 3, none⟩ = some (.int .i64 b3) ∧ w'.frozen? ⟨p, 0, none⟩ = false ∧ w'.frozen? ⟨p, 1, none⟩ = false ∧ w'.frozen? ⟨p, 2, none⟩ = false ∧ w'.frozen? ⟨p, 3, none⟩ = false ∧ w'.frozen? ⟨q, 0, none⟩ = false ∧ w'.frozen? ⟨q, 1, none⟩ = false ∧ w'.frozen? ⟨q, 2, none⟩ = false ∧ w'.frozen? ⟨q, 3, none⟩ = false ∧ w'.cell? ⟨R, 0, none⟩ = some (cv w' R 0) ∧ w'.frozen? ⟨R, 0, none⟩ = false ∧ w'.cell? ⟨R, 1, none⟩ = some (cv w' R 1) ∧ w'.frozen? ⟨R, 1, none⟩ = false ∧ w'.cell? ⟨R, 2, none⟩ = some (cv w' R 2) ∧ w'.frozen? ⟨R, 2, none⟩ = false ∧ w'.cell? ⟨R, 3, none⟩ = some (cv w' R 3) ∧ w'.frozen? ⟨R, 3, none⟩ = false := ⟨h.c (sb, 0, .int .i64 r0) (by simp), h.c (sb, 1, .int .i64 r1) (by simp), h.c (sb, 2, .int .i64 r2) (by simp), h.c (sb, 3, .int .i64 r3) (by simp), h.c (sa, 0, .int .i64 u0) (by simp), h.c (sa, 1, .int .i64 u1) (by simp), h.c (sa, 2, .int .i64 u2) (by simp), h.c (sa, 3, .int .i64 u3) (by simp), h.c (p, 0, .int .i64 a0) (by simp), h.c (p, 1, .int .i64 a1) (by simp), h.c (p, 2, .int .i64 a2) (by simp), h.c (p, 3, .int .i64 a3) (by simp), h.c (q, 0, .int .i64 b0) (by simp), h.c (q, 1, .int .i64 b1) (by simp), h.c (q, 2, .int .i64 b2) (by simp), h.c (q, 3, .int .i64 b3) (by simp), h.f (p, 0) (by simp), h.f (p, 1) (by simp), h.f (p, 2) (by simp), h.f (p, 3) (by simp), h.f (q, 0) (by simp), h.f (q, 1) (by simp), h.f (q, 2) (by simp), h.f (q, 3) (by simp), h.d (R, 0) (by simp), h.f (R, 0) (by simp), h.d (R, 1) (by simp), h.f (R, 1) (by simp), h.d (R, 2) (by simp), h.f (R, 2) (by simp), h.d (R, 3) (by simp), h.f (R, 3) (by simp)⟩
theorem K_Gd.zs {u0 u1 u2 u3 r0 r1 r2 r3 a0 a1 a2 a3 b0 b1 b2 b3 : Int} {sb sa p q R : Nat} {w w' : World} (h : K_Gd u0 u1 u2 u3 r0 r1 r2 r3 a0 a1 a2 a3 b0 b1 b2 b3 sb sa p q R w w') : sb < w'.heap.size ∧ sa < w'.heap.size ∧ p < w'.heap.size ∧ q < w'.heap.size ∧ R < w'.heap.size ∧ True := ⟨KL.z h (x := (sb, 0, .int .i64 r0)) (by simp), KL.z h (x := (sa, 0, .int .i64 u0)) (by simp), KL.z h (x := (p, 0, .int .i64 a0)) (by simp), KL.z h (x := (q, 0, .int .i64 b0)) (by simp), KL.zf h (x := (R, 0)) (by simp), trivial⟩
theorem K_Gd.ks {u0 u1 u2 u3 r0 r1 r2 r3 a0 a1 a2 a3 b0 b1 b2 b3 : Int} {sb sa p q R : Nat} {w w' : World} (h : K_Gd u0 u1 u2 u3 r0 r1 r2 r3 a0 a1 a2 a3 b0 b1 b2 b3 sb sa p q R w w') : (w'.cell? ⟨sb, 0, none⟩ = some (.int .i64 r0) ∧ w'.cell? ⟨sb, 1, none⟩ = some (.int .i64 r1) ∧ w'.cell? ⟨sb, 2, none⟩ = some (.int .i64 r2) ∧ w'.cell? ⟨sb, 3, none⟩ = some (.int .i64 r3) ∧ w'.cell? ⟨sa, 0, none⟩ = some (.int .i64 u0) ∧ w'.cell? ⟨sa, 1, none⟩ = some (.int .i64 u1) ∧ w'.cell? ⟨sa, 2, none⟩ = some (.int .i64 u2) ∧ w'.cell? ⟨sa, 3, none⟩ = some (.int .i64 u3) ∧ w'.cell? ⟨p, 0, none⟩ = some (.int .i64 a0) ∧ w'.cell? ⟨p, 1, none⟩ = some (.int .i64 a1) ∧ w'.cell? ⟨p, 2, none⟩ = some (.int .i64 a2) ∧ w'.cell? ⟨p, 3, none⟩ = some (.int .i64 a3) ∧ w'.cell? ⟨q, 0, none⟩ = some (.int .i64 b0) ∧ w'.cell? ⟨q, 1, none⟩ = some (.int .i64 b1) ∧ w'.cell? ⟨q, 2, none⟩ = some (.int .i64 b2) ∧ w'.cell? ⟨q, 3, none⟩ = some (.int .i64 b3) ∧ w'.frozen? ⟨p, 0, none⟩ = false ∧ w'.frozen? ⟨p, 1, none⟩ = false ∧ w'.frozen? ⟨p, 2, none⟩ = false ∧ w'.frozen? ⟨p, 3, none⟩ = false ∧ w'.frozen? ⟨q, 0, none⟩ = false ∧ w'.frozen? ⟨q, 1, none⟩ = false ∧ w'.frozen? ⟨q, 2, none⟩ = false ∧ w'.frozen? ⟨q, 3, none⟩ = false ∧ w'.cell? ⟨R, 0, none⟩ = some (cv w' R 0) ∧ w'.frozen? ⟨R, 0, none⟩ = false ∧ w'.cell? ⟨R, 1, none⟩ = some (cv w' R 1) ∧ w'.frozen? ⟨R, 1, none⟩ = false ∧ w'.cell? ⟨R, 2, none⟩ = some (cv w' R 2) ∧ w'.frozen? ⟨R, 2, none⟩ = false ∧ w'.cell? ⟨R, 3, none⟩ = some (cv w' R 3) ∧ w'.frozen? ⟨R, 3, none⟩ = false) ∧ K_Gd u0 u1 u2 u3 r0 r1 r2 r3 a0 a1 a2 a3 b0 b1 b2 b3 sb sa p q R w w' := ⟨h.cells, h⟩
/-- the norm of what a box holds -/
def nB (w : World) (q : Nat) : Nat := (N ⟨intOf (cv w q 0), intOf (cv w q 1), intOf (cv w q 2), intOf (cv w q 3)⟩).toNat
theorem cv_eq {w : World} {b i : Nat} {v : Value} (h : w.cell? ⟨b, i, none⟩ = some v) : cv w b i = v := by
  have := cv_of (w := w) (b := b) (i := i) (by rw [h]; rfl)
  rw [h] at this
  injection this with this
  exact this.symm
theorem nB_of {a0 a1 a2 a3 b0 b1 b2 b3 : Int} {p q R : Nat} {w wr : World} (h : K_Gc a0 a1 a2 a3 b0 b1 b2 b3 p q R w wr) : nB wr q = (N ⟨b0, b1, b2, b3⟩).toNat := by
  unfold nB
  rw [cv_eq (v := .int .i64 b0) (h.c (q, 0, .int .i64 b0) (by simp)), cv_eq (v := .int .i64 b1) (h.c (q, 1, .int .i64 b1) (by simp)), cv_eq (v := .int .i64 b2) (h.c (q, 2, .int .i64 b2) (by simp)), cv_eq (v := .int .i64 b3) (h.c (q, 3, .int .i64 b3) (by simp))]
  rfl
/-- what the loop of the greatest common divisor keeps -/
def GR (x y : H) (w : World) (p q R : Nat) (wr : World) : Prop := ∃ a b : H, (par a ∧ par b ∧ N a ≤ 1000000 ∧ N b ≤ 1000000 ∧ HB 2000 a ∧ HB 2000 b) ∧ gcdH a b = gcdH x y ∧ K_Gc a.w a.x a.y a.z b.w b.x b.y b.z p q R w wr
set_option maxHeartbeats 6400000 in
theorem hgcd_any (x y : H) (w : World) (px : par x) (py : par y) (nx : N x ≤ 1000000) (ny : N y ≤ 1000000) (bx : HB 2000 x) (by' : HB 2000 y) :
    Calls Try.prog 87 #[.agg #[.int .i64 (x).w, .int .i64 (x).x, .int .i64 (x).y, .int .i64 (x).z], .agg #[.int .i64 (y).w, .int .i64 (y).x, .int .i64 (y).y, .int .i64 (y).z]] w fun e w' => e = .returned (.agg #[.int .i64 (can (gcdH x y)).w, .int .i64 (can (gcdH x y)).x, .int .i64 (can (gcdH x y)).y, .int .i64 (can (gcdH x y)).z]) ∧ Below w.heap.size w w' := by
  have HG : Hid (GR x y w w.heap.size (w.heap.size + 1) (w.heap.size + 1 + 1) (((w.alloc (.cells #[.int .i64 x.w, .int .i64 x.x, .int .i64 x.y, .int .i64 x.z] 97)).alloc (.cells #[.int .i64 y.w, .int .i64 y.x, .int .i64 y.y, .int .i64 y.z] 97)).alloc (.cells #[.int .i64 0, .int .i64 0, .int .i64 0, .int .i64 0] 97))) := Lib.hid ⟨x, y, ⟨px, py, nx, ny, bx, by'⟩, rfl, ⟨by simp [go_sem], by simp [go_sem], by simp [go_sem], by (repeat (first | (with_reducible exact Below.refl _ _) | (with_reducible exact HB.out) | (with_reducible refine below_draws ?_ _) | (with_reducible refine Below.alloc ?_ (by go_size) _) | (with_reducible refine Below.setCell ?_ (by go_size) _) | (with_reducible refine Below.alloc ?_ (by simp <;> omega) _) | (with_reducible refine Below.setCell ?_ (by simp <;> omega) _)))⟩⟩
  have FIN : Hid (∀ a b : H, gcdH a b = gcdH x y → zeroB b = true → can a = can (gcdH x y)) := Lib.hid (fun a b h hz => by rw [← h, gcdH_end hz])
  clear px py nx ny bx by'
  generalize can (gcdH x y) = g at *
  obtain ⟨g0, g1, g2, g3⟩ := g
  go_enter Try.func87, Try.ntmps87
  go_wp2_with fail
  generalize (((w.alloc (.cells #[.int .i64 x.w, .int .i64 x.x, .int .i64 x.y, .int .i64 x.z] 97)).alloc (.cells #[.int .i64 y.w, .int .i64 y.x, .int .i64 y.y, .int .i64 y.z] 97)).alloc (.cells #[.int .i64 0, .int .i64 0, .int .i64 0, .int .i64 0] 97)) = W0 at HG ⊢
  go_loopw [] (fun wr => GR x y w w.heap.size (w.heap.size + 1) (w.heap.size + 1 + 1) wr) (fun wr => nB wr (w.heap.size + 1))
  case atStart => exact HG.out
  case round =>
    clear HG
    obtain ⟨a, b, ⟨pa, pb, na, nb, ba, bb⟩, hg, hK⟩ := hrel
    have hM := nB_of hK
    have IZ := Lib.hid (fun W => isZero_h b W)
    rcases hz : zeroB b with _ | _
    · rw [hz] at IZ
      have n0' : 0 < nn b := nz hz
      have DV := Lib.hid (fun W => divided_any a b W pa pb (sm_of pa na) (sm_of pb nb) n0')
      have HN := Lib.hid (show gcdH b (rem a b) = gcdH x y from by rw [← gcdH_step pa pb hz]; exact hg)
      have HR := Lib.hid (And.intro (par_rem (x := a) pa pb) (rem_sm (x := a) pa pb n0' nb))
      have HL := Lib.hid (rem_lt pa pb n0')
      have HP := Lib.hid (And.intro pb (And.intro nb bb))
      have HM := Lib.hid hM
      clear hM hg hz n0' pa pb na nb ba bb
      generalize quo a b = qq at *
      generalize rem a b = r at *
      obtain ⟨a0, a1, a2, a3⟩ := a
      obtain ⟨b0, b1, b2, b3⟩ := b
      obtain ⟨q0, q1, q2, q3⟩ := qq
      obtain ⟨r0, r1, r2, r3⟩ := r
      simp only [] at IZ DV hK
      obtain ⟨c0_, c1_, c2_, c3_, c4_, c5_, c6_, c7_, f0_, f1_, f2_, f3_, f4_, f5_, f6_, f7_, d8_, f8_, d9_, f9_, d10_, f10_, d11_, f11_⟩ := K_Gc.cells hK; obtain ⟨z0_, z1_, z2_, -⟩ := K_Gc.zs hK; have HK := Lib.hid hK; clear hK
      go_wp2_with fail
      refine (IZ.out _).mono ?_
      rintro e w1 ⟨rfl, hb⟩
      clear c0_ c1_ c2_ c3_ c4_ c5_ c6_ c7_ f0_ f1_ f2_ f3_ f4_ f5_ f6_ f7_ d8_ f8_ d9_ f9_ d10_ f10_ d11_ f11_ z0_ z1_ z2_
      have hK := K_Gc.below hb HK.out
      clear hb HK
      obtain ⟨c0_, c1_, c2_, c3_, c4_, c5_, c6_, c7_, f0_, f1_, f2_, f3_, f4_, f5_, f6_, f7_, d8_, f8_, d9_, f9_, d10_, f10_, d11_, f11_⟩ := K_Gc.cells hK; obtain ⟨z0_, z1_, z2_, -⟩ := K_Gc.zs hK; have HK := Lib.hid hK; clear hK
      go_wp2_with fail
      refine (DV.out _).mono ?_
      rintro e w2 ⟨rfl, hb⟩
      clear c0_ c1_ c2_ c3_ c4_ c5_ c6_ c7_ f0_ f1_ f2_ f3_ f4_ f5_ f6_ f7_ d8_ f8_ d9_ f9_ d10_ f10_ d11_ f11_ z0_ z1_ z2_
      have hK0 := K_Gc.below hb HK.out
      obtain ⟨zA, zB, zC, -⟩ := K_Gc.zs hK0
      have hk : K_Gd q0 q1 q2 q3 r0 r1 r2 r3 a0 a1 a2 a3 b0 b1 b2 b3 (w2.heap.size + 1) w2.heap.size w.heap.size (w.heap.size + 1) (w.heap.size + 1 + 1) w _ := KL.push4 (KL.push4 hK0 q0 q1 q2 q3 97 _ rfl) r0 r1 r2 r3 97 _ (by simp)
      clear hb HK hK0
      go_wp2_with fail
      generalize (w2.alloc (.cells #[.int .i64 q0, .int .i64 q1, .int .i64 q2, .int .i64 q3] 97)).alloc (.cells #[.int .i64 r0, .int .i64 r1, .int .i64 r2, .int .i64 r3] 97) = W3 at hk ⊢
      have hD := hk
      have HE := Lib.hid (KL.put4n (p := w.heap.size + 1) (KL.put4n (p := w.heap.size) (KL.sub (cs' := []) (fs' := [(w.heap.size, 0), (w.heap.size, 1), (w.heap.size, 2), (w.heap.size, 3), ((w.heap.size + 1), 0), ((w.heap.size + 1), 1), ((w.heap.size + 1), 2), ((w.heap.size + 1), 3), ((w.heap.size + 1 + 1), 0), ((w.heap.size + 1 + 1), 1), ((w.heap.size + 1 + 1), 2), ((w.heap.size + 1 + 1), 3)]) hD (fun x hx => by simp at hx) (fun x hx => hx)) (by simp) (fun x hx => by simp at hx) (by omega) b0 b1 b2 b3) (by simp) (by intro x hx; simp only [List.mem_cons, List.not_mem_nil, or_false] at hx; rcases hx with rfl | rfl | rfl | rfl <;> (simp only []; omega)) (by omega) r0 r1 r2 r3)
      have hK := hk
      clear hk hD
      obtain ⟨c0_, c1_, c2_, c3_, c4_, c5_, c6_, c7_, c8_, c9_, c10_, c11_, c12_, c13_, c14_, c15_, f0_, f1_, f2_, f3_, f4_, f5_, f6_, f7_, d8_, f8_, d9_, f9_, d10_, f10_, d11_, f11_⟩ := K_Gd.cells hK; obtain ⟨z0_, z1_, z2_, z3_, z4_, -⟩ := K_Gd.zs hK; have HK := Lib.hid hK; clear hK
      have u1 : ¬ w.heap.size + 1 = w2.heap.size := by omega
      have u2 : ¬ w.heap.size = w2.heap.size := by omega
      go_region
      all_goals
        have hE : K_Gc b0 b1 b2 b3 r0 r1 r2 r3 w.heap.size (w.heap.size + 1) (w.heap.size + 1 + 1) w _ := K_Gc.drew (KL.sub HE.out (fun x hx => by simp only [List.mem_cons, List.not_mem_nil, or_false] at hx ⊢; rcases hx with rfl | rfl | rfl | rfl | rfl | rfl | rfl | rfl <;> simp) (fun x hx => hx))
        have HF := Lib.hid hE
        have HGR : Hid (GR x y w w.heap.size (w.heap.size + 1) (w.heap.size + 1 + 1) _) := Lib.hid ⟨⟨b0, b1, b2, b3⟩, ⟨r0, r1, r2, r3⟩, ⟨HP.out.1, HR.out.1, HP.out.2.1, HR.out.2.1, HP.out.2.2, HR.out.2.2⟩, HN.out, HF.out⟩
        have HMM : Hid (nB _ (w.heap.size + 1) < nB wr (w.heap.size + 1)) := Lib.hid (by rw [nB_of HF.out, HM.out]; have h1 := HL.out; have h2 := N_nonneg (H.mk r0 r1 r2 r3); omega)
        clear hE HF HE HM HL HN HR HP
        clear c0_ c1_ c2_ c3_ c4_ c5_ c6_ c7_ c8_ c9_ c10_ c11_ c12_ c13_ c14_ c15_ f0_ f1_ f2_ f3_ f4_ f5_ f6_ f7_ d8_ f8_ d9_ f9_ d10_ f10_ d11_ f11_ z0_ z1_ z2_ z3_ z4_
        go_wp2
        go_roundw
        case rel => exact HGR.out
        case measure => exact HMM.out
    · rw [hz] at IZ
      have CA := Lib.hid (fun W => canonical_h a W (HBup ba (by decide)))
      rw [FIN.out a b hg hz] at CA
      clear hM hg hz pa pb na nb ba bb
      obtain ⟨a0, a1, a2, a3⟩ := a
      obtain ⟨b0, b1, b2, b3⟩ := b
      simp only [] at IZ CA hK
      obtain ⟨c0_, c1_, c2_, c3_, c4_, c5_, c6_, c7_, f0_, f1_, f2_, f3_, f4_, f5_, f6_, f7_, d8_, f8_, d9_, f9_, d10_, f10_, d11_, f11_⟩ := K_Gc.cells hK; obtain ⟨z0_, z1_, z2_, -⟩ := K_Gc.zs hK; have HK := Lib.hid hK; clear hK
      go_wp2_with fail
      refine (IZ.out _).mono ?_
      rintro e w1 ⟨rfl, hb⟩
      clear c0_ c1_ c2_ c3_ c4_ c5_ c6_ c7_ f0_ f1_ f2_ f3_ f4_ f5_ f6_ f7_ d8_ f8_ d9_ f9_ d10_ f10_ d11_ f11_ z0_ z1_ z2_
      have hK := K_Gc.below hb HK.out
      clear hb HK
      obtain ⟨c0_, c1_, c2_, c3_, c4_, c5_, c6_, c7_, f0_, f1_, f2_, f3_, f4_, f5_, f6_, f7_, d8_, f8_, d9_, f9_, d10_, f10_, d11_, f11_⟩ := K_Gc.cells hK; obtain ⟨z0_, z1_, z2_, -⟩ := K_Gc.zs hK; have HK := Lib.hid hK; clear hK
      go_wp2_with fail
      refine (CA.out _).mono ?_
      rintro e w2 ⟨rfl, hb⟩
      clear c0_ c1_ c2_ c3_ c4_ c5_ c6_ c7_ f0_ f1_ f2_ f3_ f4_ f5_ f6_ f7_ d8_ f8_ d9_ f9_ d10_ f10_ d11_ f11_ z0_ z1_ z2_
      have hK := K_Gc.below hb HK.out
      clear hb HK
      obtain ⟨c0_, c1_, c2_, c3_, c4_, c5_, c6_, c7_, f0_, f1_, f2_, f3_, f4_, f5_, f6_, f7_, d8_, f8_, d9_, f9_, d10_, f10_, d11_, f11_⟩ := K_Gc.cells hK; obtain ⟨z0_, z1_, z2_, -⟩ := K_Gc.zs hK; have HK := Lib.hid hK; clear hK
      have HB := Lib.hid (K_Gc.bel HK.out)
      go_wp2
      exact bodyPost_ret (v := .agg #[.int .i64 g0, .int .i64 g1, .int .i64 g2, .int .i64 g3]) (by simp [results, Try.results87, go_sem, c0_, c1_, c2_, c3_, c4_, c5_, c6_, c7_, f0_, f1_, f2_, f3_, f4_, f5_, f6_, f7_, d8_, f8_, d9_, f9_, d10_, f10_, d11_, f11_, z0_, z1_, z2_]) rfl ⟨rfl, by (repeat (first | (with_reducible exact Below.refl _ _) | (with_reducible exact HB.out) | (with_reducible refine below_draws ?_ _) | (with_reducible refine Below.alloc ?_ (by go_size) _) | (with_reducible refine Below.setCell ?_ (by go_size) _) | (with_reducible refine Below.alloc ?_ (by simp <;> omega) _) | (with_reducible refine Below.setCell ?_ (by simp <;> omega) _)))⟩
end Go.Proofs.Yteiflfmpkfhkoaa.Rt
