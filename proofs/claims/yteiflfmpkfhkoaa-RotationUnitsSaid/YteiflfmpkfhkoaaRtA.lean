/-
  WALKS: elements as Hurwitz quaternions, and their errors, the program's.
-/
import Derived.Test.YteiflfmpkfhkoaaRt6
import Derived.Test.YteiflfmpkfhkoaaHwp
import Derived.StillTailTactics
namespace Go.Proofs.Yteiflfmpkfhkoaa.Rt
open Go.RowKit
open Alm Hwm Al
set_option linter.unusedVariables false
set_option linter.unusedSimpArgs false
set_option maxRecDepth 100000
theorem KL.put5g {w0 : World} {cs : List (Nat × Nat × Value)} {fs : List (Nat × Nat)} {w : World} {a b c d e : Value} {a' b' c' d' e' : Int} {p : Nat} (h : KL w0 ((p, 0, a) :: (p, 1, b) :: (p, 2, c) :: (p, 3, d) :: (p, 4, e) :: cs) ((p, 0) :: (p, 1) :: (p, 2) :: (p, 3) :: (p, 4) :: fs) w) (hp : ∀ x ∈ cs, p ≠ x.1) (hw : w0.heap.size ≤ p) :
    KL w0 ((p, 0, .int .i64 a') :: (p, 1, .int .i64 b') :: (p, 2, .int .i64 c') :: (p, 3, .int .i64 d') :: (p, 4, .int .i64 e') :: cs) ((p, 0) :: (p, 1) :: (p, 2) :: (p, 3) :: (p, 4) :: fs) (((((w.setCell ⟨p, 0, none⟩ (.int .i64 a')).setCell ⟨p, 1, none⟩ (.int .i64 b')).setCell ⟨p, 2, none⟩ (.int .i64 c')).setCell ⟨p, 3, none⟩ (.int .i64 d')).setCell ⟨p, 4, none⟩ (.int .i64 e')) := by
  have c0 := h.c (p, 0, a) (by simp)
  have c1 := h.c (p, 1, b) (by simp)
  have c2 := h.c (p, 2, c) (by simp)
  have c3 := h.c (p, 3, d) (by simp)
  have c4 := h.c (p, 4, e) (by simp)
  have f0 := h.f (p, 0) (by simp)
  have f1 := h.f (p, 1) (by simp)
  have f2 := h.f (p, 2) (by simp)
  have f3 := h.f (p, 3) (by simp)
  have f4 := h.f (p, 4) (by simp)
  simp only [] at c0 c1 c2 c3 c4 f0 f1 f2 f3 f4
  have h0 : KL w0 cs fs w := ⟨fun x hx => h.c x (by simp [hx]), fun x hx => h.g x (by simp [hx]), fun x hx => h.f x (by simp [hx]), h.bel⟩
  have h1 := ((((h0.set p 0 (.int .i64 a') hp hw).set p 1 (.int .i64 b') hp hw).set p 2 (.int .i64 c') hp hw).set p 3 (.int .i64 d') hp hw).set p 4 (.int .i64 e') hp hw
  refine ⟨fun x hx => ?_, fun x hx => ?_, fun x hx => ?_, h1.bel⟩
  · simp only [List.mem_cons] at hx
    rcases hx with rfl | rfl | rfl | rfl | rfl | hx
    · simp [go_sem, c0, c1, c2, c3, c4, f0, f1, f2, f3, f4]
    · simp [go_sem, c0, c1, c2, c3, c4, f0, f1, f2, f3, f4]
    · simp [go_sem, c0, c1, c2, c3, c4, f0, f1, f2, f3, f4]
    · simp [go_sem, c0, c1, c2, c3, c4, f0, f1, f2, f3, f4]
    · simp [go_sem, c0, c1, c2, c3, c4, f0, f1, f2, f3, f4]
    · exact h1.c x hx
  · simp only [List.mem_cons] at hx
    rcases hx with rfl | rfl | rfl | rfl | rfl | hx
    · simp [go_sem, c0, c1, c2, c3, c4, f0, f1, f2, f3, f4]
    · simp [go_sem, c0, c1, c2, c3, c4, f0, f1, f2, f3, f4]
    · simp [go_sem, c0, c1, c2, c3, c4, f0, f1, f2, f3, f4]
    · simp [go_sem, c0, c1, c2, c3, c4, f0, f1, f2, f3, f4]
    · simp [go_sem, c0, c1, c2, c3, c4, f0, f1, f2, f3, f4]
    · exact h1.g x hx
  · simp only [List.mem_cons] at hx
    rcases hx with rfl | rfl | rfl | rfl | rfl | hx
    · simp [go_sem, c0, c1, c2, c3, c4, f0, f1, f2, f3, f4]
    · simp [go_sem, c0, c1, c2, c3, c4, f0, f1, f2, f3, f4]
    · simp [go_sem, c0, c1, c2, c3, c4, f0, f1, f2, f3, f4]
    · simp [go_sem, c0, c1, c2, c3, c4, f0, f1, f2, f3, f4]
    · simp [go_sem, c0, c1, c2, c3, c4, f0, f1, f2, f3, f4]
    · exact h1.f x hx
/-- what a walk keeps: cells, and that nothing that was there has turned -/
def K_Ho (n0 n1 n2 n3 n4 : Int) (p R : Nat) (w w' : World) : Prop := KL w [(p, 0, .int .i64 n0), (p, 1, .int .i64 n1), (p, 2, .int .i64 n2), (p, 3, .int .i64 n3), (p, 4, .int .i64 n4)] [(p, 0), (p, 1), (p, 2), (p, 3), (p, 4), (R, 0), (R, 1), (R, 2), (R, 3)] w'
theorem K_Ho.below {n0 n1 n2 n3 n4 : Int} {p R : Nat} {w w1 w2 : World} (hb : Below w1.heap.size w1 w2) (h : K_Ho n0 n1 n2 n3 n4 p R w w1) : K_Ho n0 n1 n2 n3 n4 p R w w2 := KL.below hb h
theorem K_Ho.draws {n0 n1 n2 n3 n4 : Int} {p R : Nat} {w w1 : World} (n : Nat) (h : K_Ho n0 n1 n2 n3 n4 p R w w1) : K_Ho n0 n1 n2 n3 n4 p R w (w1.drewN n) := KL.draws n h
theorem K_Ho.drew {n0 n1 n2 n3 n4 : Int} {p R : Nat} {w w1 : World} (h : K_Ho n0 n1 n2 n3 n4 p R w w1) : K_Ho n0 n1 n2 n3 n4 p R w w1.drew := KL.draws 1 h
theorem K_Ho.alloc {n0 n1 n2 n3 n4 : Int} {p R : Nat} {w w1 : World} (o : Obj) (h : K_Ho n0 n1 n2 n3 n4 p R w w1) : K_Ho n0 n1 n2 n3 n4 p R w (w1.alloc o) := KL.alloc o h
theorem K_Ho.set {n0 n1 n2 n3 n4 : Int} {p R : Nat} {w w1 : World} (h : K_Ho n0 n1 n2 n3 n4 p R w w1) (b i : Nat) (v : Value) (hb : b ≠ p ∧ w.heap.size ≤ b) : K_Ho n0 n1 n2 n3 n4 p R w (w1.setCell ⟨b, i, none⟩ v) :=
  KL.set h b i v (by intro x hx; simp only [List.mem_cons, List.not_mem_nil, or_false] at hx; rcases hx with rfl | rfl | rfl | rfl | rfl <;> simp only [] <;> omega) (by omega)
theorem K_Ho.bel {n0 n1 n2 n3 n4 : Int} {p R : Nat} {w w1 : World} (h : K_Ho n0 n1 n2 n3 n4 p R w w1) : Below w.heap.size w w1 := KL.bel h
theorem K_Ho.cells {n0 n1 n2 n3 n4 : Int} {p R : Nat} {w w' : World} (h : K_Ho n0 n1 n2 n3 n4 p R w w') : w'.cell? ⟨p, 0, none⟩ = some (.int .i64 n0) ∧ w'.cell? ⟨p, 1, none⟩ = some (.int .i64 n1) ∧ w'.cell? ⟨p, 2, none⟩ = some (.int .i64 n2) ∧ w'.cell? ⟨p, 3, none⟩ = some (.int .i64 n3) ∧ w'.cell? ⟨p, 4, none⟩ = some (.int .i64 n4) ∧ w'.frozen? ⟨p, 0, none⟩ = false ∧ w'.frozen? ⟨p, 1, none⟩ = false ∧ w'.frozen? ⟨p, 2, none⟩ = false ∧ w'.frozen? ⟨p, 3, none⟩ = false ∧ w'.frozen? ⟨p, 4, none⟩ = false ∧ w'.cell? ⟨R, 0, none⟩ = some (cv w' R 0) ∧ w'.frozen? ⟨R, 0, none⟩ = false ∧ w'.cell? ⟨R, 1, none⟩ = some (cv w' R 1) ∧ w'.frozen? ⟨R, 1, none⟩ = false ∧ w'.cell? ⟨R, 2, none⟩ = some (cv w' R 2) ∧ w'.frozen? ⟨R, 2, none⟩ = false ∧ w'.cell? ⟨R, 3, none⟩ = some (cv w' R 3) ∧ w'.frozen? ⟨R, 3, none⟩ = false := ⟨h.c (p, 0, .int .i64 n0) (by simp), h.c (p, 1, .int .i64 n1) (by simp), h.c (p, 2, .int .i64 n2) (by simp), h.c (p, 3, .int .i64 n3) (by simp), h.c (p, 4, .int .i64 n4) (by simp), h.f (p, 0) (by simp), h.f (p, 1) (by simp), h.f (p, 2) (by simp), h.f (p, 3) (by simp), h.f (p, 4) (by simp), h.d (R, 0) (by simp), h.f (R, 0) (by simp), h.d (R, 1) (by simp), h.f (R, 1) (by simp), h.d (R, 2) (by simp), h.f (R, 2) (by simp), h.d (R, 3) (by simp), h.f (R, 3) (by simp)⟩
theorem K_Ho.zs {n0 n1 n2 n3 n4 : Int} {p R : Nat} {w w' : World} (h : K_Ho n0 n1 n2 n3 n4 p R w w') : p < w'.heap.size ∧ R < w'.heap.size ∧ True := ⟨KL.z h (x := (p, 0, .int .i64 n0)) (by simp), KL.zf h (x := (R, 0)) (by simp), trivial⟩
theorem K_Ho.ks {n0 n1 n2 n3 n4 : Int} {p R : Nat} {w w' : World} (h : K_Ho n0 n1 n2 n3 n4 p R w w') : (w'.cell? ⟨p, 0, none⟩ = some (.int .i64 n0) ∧ w'.cell? ⟨p, 1, none⟩ = some (.int .i64 n1) ∧ w'.cell? ⟨p, 2, none⟩ = some (.int .i64 n2) ∧ w'.cell? ⟨p, 3, none⟩ = some (.int .i64 n3) ∧ w'.cell? ⟨p, 4, none⟩ = some (.int .i64 n4) ∧ w'.frozen? ⟨p, 0, none⟩ = false ∧ w'.frozen? ⟨p, 1, none⟩ = false ∧ w'.frozen? ⟨p, 2, none⟩ = false ∧ w'.frozen? ⟨p, 3, none⟩ = false ∧ w'.frozen? ⟨p, 4, none⟩ = false ∧ w'.cell? ⟨R, 0, none⟩ = some (cv w' R 0) ∧ w'.frozen? ⟨R, 0, none⟩ = false ∧ w'.cell? ⟨R, 1, none⟩ = some (cv w' R 1) ∧ w'.frozen? ⟨R, 1, none⟩ = false ∧ w'.cell? ⟨R, 2, none⟩ = some (cv w' R 2) ∧ w'.frozen? ⟨R, 2, none⟩ = false ∧ w'.cell? ⟨R, 3, none⟩ = some (cv w' R 3) ∧ w'.frozen? ⟨R, 3, none⟩ = false) ∧ K_Ho n0 n1 n2 n3 n4 p R w w' := ⟨h.cells, h⟩
/-- what a walk keeps: cells, and that nothing that was there has turned -/
def K_Hq (a0 a1 a2 a3 n0 n1 n2 n3 n4 : Int) (q p R : Nat) (w w' : World) : Prop := KL w [(q, 0, .int .i64 a0), (q, 1, .int .i64 a1), (q, 2, .int .i64 a2), (q, 3, .int .i64 a3), (p, 0, .int .i64 n0), (p, 1, .int .i64 n1), (p, 2, .int .i64 n2), (p, 3, .int .i64 n3), (p, 4, .int .i64 n4)] [(p, 0), (p, 1), (p, 2), (p, 3), (p, 4), (R, 0), (R, 1), (R, 2), (R, 3)] w'
theorem K_Hq.below {a0 a1 a2 a3 n0 n1 n2 n3 n4 : Int} {q p R : Nat} {w w1 w2 : World} (hb : Below w1.heap.size w1 w2) (h : K_Hq a0 a1 a2 a3 n0 n1 n2 n3 n4 q p R w w1) : K_Hq a0 a1 a2 a3 n0 n1 n2 n3 n4 q p R w w2 := KL.below hb h
theorem K_Hq.draws {a0 a1 a2 a3 n0 n1 n2 n3 n4 : Int} {q p R : Nat} {w w1 : World} (n : Nat) (h : K_Hq a0 a1 a2 a3 n0 n1 n2 n3 n4 q p R w w1) : K_Hq a0 a1 a2 a3 n0 n1 n2 n3 n4 q p R w (w1.drewN n) := KL.draws n h
theorem K_Hq.drew {a0 a1 a2 a3 n0 n1 n2 n3 n4 : Int} {q p R : Nat} {w w1 : World} (h : K_Hq a0 a1 a2 a3 n0 n1 n2 n3 n4 q p R w w1) : K_Hq a0 a1 a2 a3 n0 n1 n2 n3 n4 q p R w w1.drew := KL.draws 1 h
theorem K_Hq.alloc {a0 a1 a2 a3 n0 n1 n2 n3 n4 : Int} {q p R : Nat} {w w1 : World} (o : Obj) (h : K_Hq a0 a1 a2 a3 n0 n1 n2 n3 n4 q p R w w1) : K_Hq a0 a1 a2 a3 n0 n1 n2 n3 n4 q p R w (w1.alloc o) := KL.alloc o h
theorem K_Hq.set {a0 a1 a2 a3 n0 n1 n2 n3 n4 : Int} {q p R : Nat} {w w1 : World} (h : K_Hq a0 a1 a2 a3 n0 n1 n2 n3 n4 q p R w w1) (b i : Nat) (v : Value) (hb : b ≠ q ∧ b ≠ p ∧ w.heap.size ≤ b) : K_Hq a0 a1 a2 a3 n0 n1 n2 n3 n4 q p R w (w1.setCell ⟨b, i, none⟩ v) :=
  KL.set h b i v (by intro x hx; simp only [List.mem_cons, List.not_mem_nil, or_false] at hx; rcases hx with rfl | rfl | rfl | rfl | rfl | rfl | rfl | rfl | rfl <;> simp only [] <;> omega) (by omega)
theorem K_Hq.bel {a0 a1 a2 a3 n0 n1 n2 n3 n4 : Int} {q p R : Nat} {w w1 : World} (h : K_Hq a0 a1 a2 a3 n0 n1 n2 n3 n4 q p R w w1) : Below w.heap.size w w1 := KL.bel h
theorem K_Hq.cells {a0 a1 a2 a3 n0 n1 n2 n3 n4 : Int} {q p R : Nat} {w w' : World} (h : K_Hq a0 a1 a2 a3 n0 n1 n2 n3 n4 q p R w w') : w'.cell? ⟨q, 0, none⟩ = some (.int .i64 a0) ∧ w'.cell? ⟨q, 1, none⟩ = some (.int .i64 a1) ∧ w'.cell? ⟨q, 2, none⟩ = some (.int .i64 a2) ∧ w'.cell? ⟨q, 3, none⟩ = some (.int .i64 a3) ∧ w'.cell? ⟨p, 0, none⟩ = some (.int .i64 n0) ∧ w'.cell? ⟨p, 1, none⟩ = some (.int .i64 n1) ∧ w'.cell? ⟨p, 2, none⟩ = some (.int .i64 n2) ∧ w'.cell? ⟨p, 3, none⟩ = some (.int .i64 n3) ∧ w'.cell? ⟨p, 4, none⟩ = some (.int .i64 n4) ∧ w'.frozen? ⟨p, 0, none⟩ = false ∧ w'.frozen? ⟨p, 1, none⟩ = false ∧ w'.frozen? ⟨p, 2, none⟩ = false ∧ w'.frozen? ⟨p, 3, none⟩ = false ∧ w'.frozen? ⟨p, 4, none⟩ = false ∧ w'.cell? ⟨R, 0, none⟩ = some (cv w' R 0) ∧ w'.frozen? ⟨R, 0, none⟩ = false ∧ w'.cell? ⟨R, 1, none⟩ = some (cv w' R 1) ∧ w'.frozen? ⟨R, 1, none⟩ = false ∧ w'.cell? ⟨R, 2, none⟩ = some (cv w' R 2) ∧ w'.frozen? ⟨R, 2, none⟩ = false ∧ w'.cell? ⟨R, 3, none⟩ = some (cv w' R 3) ∧ w'.frozen? ⟨R, 3, none⟩ = false := ⟨h.c (q, 0, .int .i64 a0) (by simp), h.c (q, 1, .int .i64 a1) (by simp), h.c (q, 2, .int .i64 a2) (by simp), h.c (q, 3, .int .i64 a3) (by simp), h.c (p, 0, .int .i64 n0) (by simp), h.c (p, 1, .int .i64 n1) (by simp), h.c (p, 2, .int .i64 n2) (by simp), h.c (p, 3, .int .i64 n3) (by simp), h.c (p, 4, .int .i64 n4) (by simp), h.f (p, 0) (by simp), h.f (p, 1) (by simp), h.f (p, 2) (by simp), h.f (p, 3) (by simp), h.f (p, 4) (by simp), h.d (R, 0) (by simp), h.f (R, 0) (by simp), h.d (R, 1) (by simp), h.f (R, 1) (by simp), h.d (R, 2) (by simp), h.f (R, 2) (by simp), h.d (R, 3) (by simp), h.f (R, 3) (by simp)⟩
theorem K_Hq.zs {a0 a1 a2 a3 n0 n1 n2 n3 n4 : Int} {q p R : Nat} {w w' : World} (h : K_Hq a0 a1 a2 a3 n0 n1 n2 n3 n4 q p R w w') : q < w'.heap.size ∧ p < w'.heap.size ∧ R < w'.heap.size ∧ True := ⟨KL.z h (x := (q, 0, .int .i64 a0)) (by simp), KL.z h (x := (p, 0, .int .i64 n0)) (by simp), KL.zf h (x := (R, 0)) (by simp), trivial⟩
theorem K_Hq.ks {a0 a1 a2 a3 n0 n1 n2 n3 n4 : Int} {q p R : Nat} {w w' : World} (h : K_Hq a0 a1 a2 a3 n0 n1 n2 n3 n4 q p R w w') : (w'.cell? ⟨q, 0, none⟩ = some (.int .i64 a0) ∧ w'.cell? ⟨q, 1, none⟩ = some (.int .i64 a1) ∧ w'.cell? ⟨q, 2, none⟩ = some (.int .i64 a2) ∧ w'.cell? ⟨q, 3, none⟩ = some (.int .i64 a3) ∧ w'.cell? ⟨p, 0, none⟩ = some (.int .i64 n0) ∧ w'.cell? ⟨p, 1, none⟩ = some (.int .i64 n1) ∧ w'.cell? ⟨p, 2, none⟩ = some (.int .i64 n2) ∧ w'.cell? ⟨p, 3, none⟩ = some (.int .i64 n3) ∧ w'.cell? ⟨p, 4, none⟩ = some (.int .i64 n4) ∧ w'.frozen? ⟨p, 0, none⟩ = false ∧ w'.frozen? ⟨p, 1, none⟩ = false ∧ w'.frozen? ⟨p, 2, none⟩ = false ∧ w'.frozen? ⟨p, 3, none⟩ = false ∧ w'.frozen? ⟨p, 4, none⟩ = false ∧ w'.cell? ⟨R, 0, none⟩ = some (cv w' R 0) ∧ w'.frozen? ⟨R, 0, none⟩ = false ∧ w'.cell? ⟨R, 1, none⟩ = some (cv w' R 1) ∧ w'.frozen? ⟨R, 1, none⟩ = false ∧ w'.cell? ⟨R, 2, none⟩ = some (cv w' R 2) ∧ w'.frozen? ⟨R, 2, none⟩ = false ∧ w'.cell? ⟨R, 3, none⟩ = some (cv w' R 3) ∧ w'.frozen? ⟨R, 3, none⟩ = false) ∧ K_Hq a0 a1 a2 a3 n0 n1 n2 n3 n4 q p R w w' := ⟨h.cells, h⟩
/-- what hurwitzOf hands back -/
def HoEnd (q : Q) (w : World) (e : Ending) (w' : World) : Prop := ∃ h : H, e = .returned (.tuple #[.agg #[.int .i64 (h).w, .int .i64 (h).x, .int .i64 (h).y, .int .i64 (h).z], .bool (isL q.low)]) ∧ (isL q.low = true → h = hL q.low) ∧ Below w.heap.size w w'
theorem ways5 (a b c d : Int) : a.tmod 2 = 0 ∨ (a.tmod 2 ≠ 0 ∧ b.tmod 2 = 0) ∨ (a.tmod 2 ≠ 0 ∧ b.tmod 2 ≠ 0 ∧ c.tmod 2 = 0) ∨ (a.tmod 2 ≠ 0 ∧ b.tmod 2 ≠ 0 ∧ c.tmod 2 ≠ 0 ∧ d.tmod 2 = 0) ∨ (a.tmod 2 ≠ 0 ∧ b.tmod 2 ≠ 0 ∧ c.tmod 2 ≠ 0 ∧ d.tmod 2 ≠ 0) := by
  generalize a.tmod 2 = a; generalize b.tmod 2 = b; generalize c.tmod 2 = c; generalize d.tmod 2 = d; omega
set_option maxHeartbeats 6400000 in
theorem hurwitzOf_ok (n0 n1 n2 n3 d : Int) (w : World) (hq : chkQ n0 n1 n2 n3 d = 0) :
    Calls Try.prog 75 #[.agg #[.int .i64 n0, .int .i64 n1, .int .i64 n2, .int .i64 n3, .int .i64 d]] w fun e w' => HoEnd ⟨n0, n1, n2, n3, d⟩ w e w' := by
  have NV := Lib.hid (fun W => Normal_v n0 n1 n2 n3 d W hq)
  obtain ⟨b0, b1, b2, b3, b4, b5⟩ := low_bd (q := ⟨n0, n1, n2, n3, d⟩) hq
  unfold HoEnd
  obtain ⟨l, hl⟩ : ∃ l, (Q.mk n0 n1 n2 n3 d).low = l := ⟨_, rfl⟩
  rw [hl] at NV b0 b1 b2 b3 b4 b5 ⊢
  clear hq hl
  obtain ⟨l0, l1, l2, l3, l4⟩ := l
  simp only [] at NV b0 b1 b2 b3 b4 b5
  have SC := Lib.hid (fun W => scaled_f l0 l1 l2 l3 2 W ⟨by omega, by omega⟩ ⟨by omega, by omega⟩ ⟨by omega, by omega⟩ ⟨by omega, by omega⟩ ⟨by omega, by omega⟩)
  go_enter Try.func75, Try.ntmps75
  go_wp2_with fail
  refine (NV.out _).mono ?_
  rintro e w1 ⟨rfl, hb⟩
  have hK : K_Ho n0 n1 n2 n3 d w.heap.size (w.heap.size + 1) w w1 := K_Ho.below hb ⟨by simp [go_sem], by simp [go_sem], by simp [go_sem], by (repeat (first | (with_reducible exact Below.refl _ _) | (with_reducible exact HB.out) | (with_reducible refine below_draws ?_ _) | (with_reducible refine Below.alloc ?_ (by go_size) _) | (with_reducible refine Below.setCell ?_ (by go_size) _) | (with_reducible refine Below.alloc ?_ (by simp <;> omega) _) | (with_reducible refine Below.setCell ?_ (by simp <;> omega) _)))⟩
  clear hb
  have HS := Lib.hid (KL.put5g (a' := l0) (b' := l1) (c' := l2) (d' := l3) (e' := l4) hK (by simp) (by omega))
  obtain ⟨c0_, c1_, c2_, c3_, c4_, f0_, f1_, f2_, f3_, f4_, d5_, f5_, d6_, f6_, d7_, f7_, d8_, f8_⟩ := K_Ho.cells hK; obtain ⟨z0_, z1_, -⟩ := K_Ho.zs hK; have HK := Lib.hid hK; clear hK
  go_wp2_with fail
  refine (fourOf_any _ _ _ _ _ _).mono ?_
  rintro e w2 ⟨rfl, hb⟩
  clear c0_ c1_ c2_ c3_ c4_ f0_ f1_ f2_ f3_ f4_ d5_ f5_ d6_ f6_ d7_ f7_ d8_ f8_ z0_ z1_
  have hK : K_Ho l0 l1 l2 l3 l4 w.heap.size (w.heap.size + 1) w w2 := KL.below hb HS.out
  clear hb HK
  rcases (show l4 = 1 ∨ (l4 ≠ 1 ∧ l4 = 2) ∨ (l4 ≠ 1 ∧ l4 ≠ 2) by omega) with h1 | ⟨h1, h2⟩ | ⟨h1, h2⟩
  · have HI : Hid (isL ⟨l0, l1, l2, l3, l4⟩ = true ∧ hL ⟨l0, l1, l2, l3, l4⟩ = ⟨l0 * 2, l1 * 2, l2 * 2, l3 * 2⟩) := Lib.hid (by subst h1; exact ⟨rfl, rfl⟩)
    have t : (l4 == 1) = true := by rw [h1]; rfl
    clear h1
    have HK2 : Hid (K_Hq l0 l1 l2 l3 l0 l1 l2 l3 l4 w2.heap.size w.heap.size (w.heap.size + 1) w (w2.alloc (.cells #[.int .i64 l0, .int .i64 l1, .int .i64 l2, .int .i64 l3] 95))) := Lib.hid (KL.push4 hK l0 l1 l2 l3 _ _ rfl)
    obtain ⟨c0_, c1_, c2_, c3_, c4_, f0_, f1_, f2_, f3_, f4_, d5_, f5_, d6_, f6_, d7_, f7_, d8_, f8_⟩ := K_Ho.cells hK; obtain ⟨z0_, z1_, -⟩ := K_Ho.zs hK; have HK := Lib.hid hK; clear hK
    go_wp2_with fail
    refine (SC.out _).mono ?_
    rintro e w3 ⟨rfl, hb⟩
    clear c0_ c1_ c2_ c3_ c4_ f0_ f1_ f2_ f3_ f4_ d5_ f5_ d6_ f6_ d7_ f7_ d8_ f8_ z0_ z1_
    have hK := K_Hq.below hb HK2.out
    clear hb HK2 HK
    obtain ⟨c0_, c1_, c2_, c3_, c4_, c5_, c6_, c7_, c8_, f0_, f1_, f2_, f3_, f4_, d5_, f5_, d6_, f6_, d7_, f7_, d8_, f8_⟩ := K_Hq.cells hK; obtain ⟨z0_, z1_, z2_, -⟩ := K_Hq.zs hK; have HK := Lib.hid hK; clear hK
    have HB := Lib.hid (K_Hq.bel HK.out)
    go_wp2
    exact bodyPost_ret (v := .tuple #[.agg #[.int .i64 (l0 * 2), .int .i64 (l1 * 2), .int .i64 (l2 * 2), .int .i64 (l3 * 2)], .bool true]) (by simp [results, Try.results75, go_sem, c0_, c1_, c2_, c3_, c4_, c5_, c6_, c7_, c8_, f0_, f1_, f2_, f3_, f4_, d5_, f5_, d6_, f6_, d7_, f7_, d8_, f8_, z0_, z1_]) rfl ⟨⟨l0 * 2, l1 * 2, l2 * 2, l3 * 2⟩, by rw [HI.out.1], fun _ => HI.out.2.symm, by (repeat (first | (with_reducible exact Below.refl _ _) | (with_reducible exact HB.out) | (with_reducible refine below_draws ?_ _) | (with_reducible refine Below.alloc ?_ (by go_size) _) | (with_reducible refine Below.setCell ?_ (by go_size) _) | (with_reducible refine Below.alloc ?_ (by simp <;> omega) _) | (with_reducible refine Below.setCell ?_ (by simp <;> omega) _)))⟩
  · have t : (l4 == 1) = false := by rw [h2]; rfl
    have t' : (l4 == 2) = true := by rw [h2]; rfl
    have HI : Hid (isL ⟨l0, l1, l2, l3, l4⟩ = (l0.tmod 2 != 0 && (l1.tmod 2 != 0 && (l2.tmod 2 != 0 && l3.tmod 2 != 0)))) := Lib.hid (by subst h2; rfl)
    have HH : Hid (isL ⟨l0, l1, l2, l3, l4⟩ = true → (⟨l0, l1, l2, l3⟩ : H) = hL ⟨l0, l1, l2, l3, l4⟩) := Lib.hid (fun _ => by unfold hL; rw [if_neg h1])
    clear h1 h2
    have e0 := IntWalk.i64_in (l0.tmod 2) (by have := tmod2_bd l0; omega)
    have e1 := IntWalk.i64_in (l1.tmod 2) (by have := tmod2_bd l1; omega)
    have e2 := IntWalk.i64_in (l2.tmod 2) (by have := tmod2_bd l2; omega)
    have e3 := IntWalk.i64_in (l3.tmod 2) (by have := tmod2_bd l3; omega)
    have HK2 : Hid (K_Hq l0 l1 l2 l3 l0 l1 l2 l3 l4 w2.heap.size w.heap.size (w.heap.size + 1) w (w2.alloc (.cells #[.int .i64 l0, .int .i64 l1, .int .i64 l2, .int .i64 l3] 95))) := Lib.hid (KL.push4 hK l0 l1 l2 l3 _ _ rfl)
    obtain ⟨c0_, c1_, c2_, c3_, c4_, f0_, f1_, f2_, f3_, f4_, d5_, f5_, d6_, f6_, d7_, f7_, d8_, f8_⟩ := K_Ho.cells hK; obtain ⟨z0_, z1_, -⟩ := K_Ho.zs hK; have HK := Lib.hid hK; clear hK
    go_wp2_with fail
    have zz : w2.heap.size ≠ w.heap.size + 1 := by omega
    have zz' : w.heap.size + 1 ≠ w2.heap.size := by omega
    clear c0_ c1_ c2_ c3_ c4_ f0_ f1_ f2_ f3_ f4_ d5_ f5_ d6_ f6_ d7_ f7_ d8_ f8_ z0_ z1_
    have hK := HK2.out
    clear HK2 HK
    generalize (w2.alloc (.cells #[.int .i64 l0, .int .i64 l1, .int .i64 l2, .int .i64 l3] 95)) = w3 at hK ⊢
    obtain ⟨c0_, c1_, c2_, c3_, c4_, c5_, c6_, c7_, c8_, f0_, f1_, f2_, f3_, f4_, d5_, f5_, d6_, f6_, d7_, f7_, d8_, f8_⟩ := K_Hq.cells hK; obtain ⟨z0_, z1_, z2_, -⟩ := K_Hq.zs hK; have HK := Lib.hid hK; clear hK
    have HB := Lib.hid (K_Hq.bel HK.out)
    rcases ways5 l0 l1 l2 l3 with h0 | ⟨h0, h1⟩ | ⟨h0, h1, h2⟩ | ⟨h0, h1, h2, h3⟩ | ⟨h0, h1, h2, h3⟩
    · have t0 : (l0.tmod 2 != 0) = false := by rw [h0]; rfl
      clear h0
      go_region
      go_wp2
      exact bodyPost_ret (v := .tuple #[.agg #[.int .i64 l0, .int .i64 l1, .int .i64 l2, .int .i64 l3], .bool false]) (by simp [results, Try.results75, go_sem, c0_, c1_, c2_, c3_, c4_, c5_, c6_, c7_, c8_, f0_, f1_, f2_, f3_, f4_, d5_, f5_, d6_, f6_, d7_, f7_, d8_, f8_, z0_, z1_]) rfl ⟨⟨l0, l1, l2, l3⟩, by rw [HI.out]; simp [go_sem, t0], HH.out, below_draws (by (repeat (first | (with_reducible exact Below.refl _ _) | (with_reducible exact HB.out) | (with_reducible refine below_draws ?_ _) | (with_reducible refine Below.alloc ?_ (by go_size) _) | (with_reducible refine Below.setCell ?_ (by go_size) _) | (with_reducible refine Below.alloc ?_ (by simp <;> omega) _) | (with_reducible refine Below.setCell ?_ (by simp <;> omega) _)))) 1⟩
    · have t0 : (l0.tmod 2 != 0) = true := by rw [bne_iff_ne]; exact h0
      have t1 : (l1.tmod 2 != 0) = false := by rw [h1]; rfl
      clear h0 h1
      go_region
      go_wp2
      exact bodyPost_ret (v := .tuple #[.agg #[.int .i64 l0, .int .i64 l1, .int .i64 l2, .int .i64 l3], .bool false]) (by simp [results, Try.results75, go_sem, c0_, c1_, c2_, c3_, c4_, c5_, c6_, c7_, c8_, f0_, f1_, f2_, f3_, f4_, d5_, f5_, d6_, f6_, d7_, f7_, d8_, f8_, z0_, z1_]) rfl ⟨⟨l0, l1, l2, l3⟩, by rw [HI.out]; simp [go_sem, t0, t1], HH.out, below_draws (by (repeat (first | (with_reducible exact Below.refl _ _) | (with_reducible exact HB.out) | (with_reducible refine below_draws ?_ _) | (with_reducible refine Below.alloc ?_ (by go_size) _) | (with_reducible refine Below.setCell ?_ (by go_size) _) | (with_reducible refine Below.alloc ?_ (by simp <;> omega) _) | (with_reducible refine Below.setCell ?_ (by simp <;> omega) _)))) 1⟩
    · have t0 : (l0.tmod 2 != 0) = true := by rw [bne_iff_ne]; exact h0
      have t1 : (l1.tmod 2 != 0) = true := by rw [bne_iff_ne]; exact h1
      have t2 : (l2.tmod 2 != 0) = false := by rw [h2]; rfl
      clear h0 h1 h2
      go_region
      go_wp2
      exact bodyPost_ret (v := .tuple #[.agg #[.int .i64 l0, .int .i64 l1, .int .i64 l2, .int .i64 l3], .bool false]) (by simp [results, Try.results75, go_sem, c0_, c1_, c2_, c3_, c4_, c5_, c6_, c7_, c8_, f0_, f1_, f2_, f3_, f4_, d5_, f5_, d6_, f6_, d7_, f7_, d8_, f8_, z0_, z1_]) rfl ⟨⟨l0, l1, l2, l3⟩, by rw [HI.out]; simp [go_sem, t0, t1, t2], HH.out, below_draws (by (repeat (first | (with_reducible exact Below.refl _ _) | (with_reducible exact HB.out) | (with_reducible refine below_draws ?_ _) | (with_reducible refine Below.alloc ?_ (by go_size) _) | (with_reducible refine Below.setCell ?_ (by go_size) _) | (with_reducible refine Below.alloc ?_ (by simp <;> omega) _) | (with_reducible refine Below.setCell ?_ (by simp <;> omega) _)))) 1⟩
    · have t0 : (l0.tmod 2 != 0) = true := by rw [bne_iff_ne]; exact h0
      have t1 : (l1.tmod 2 != 0) = true := by rw [bne_iff_ne]; exact h1
      have t2 : (l2.tmod 2 != 0) = true := by rw [bne_iff_ne]; exact h2
      have t3 : (l3.tmod 2 != 0) = false := by rw [h3]; rfl
      clear h0 h1 h2 h3
      go_region
      go_wp2
      exact bodyPost_ret (v := .tuple #[.agg #[.int .i64 l0, .int .i64 l1, .int .i64 l2, .int .i64 l3], .bool false]) (by simp [results, Try.results75, go_sem, c0_, c1_, c2_, c3_, c4_, c5_, c6_, c7_, c8_, f0_, f1_, f2_, f3_, f4_, d5_, f5_, d6_, f6_, d7_, f7_, d8_, f8_, z0_, z1_]) rfl ⟨⟨l0, l1, l2, l3⟩, by rw [HI.out]; simp [go_sem, t0, t1, t2, t3], HH.out, below_draws (by (repeat (first | (with_reducible exact Below.refl _ _) | (with_reducible exact HB.out) | (with_reducible refine below_draws ?_ _) | (with_reducible refine Below.alloc ?_ (by go_size) _) | (with_reducible refine Below.setCell ?_ (by go_size) _) | (with_reducible refine Below.alloc ?_ (by simp <;> omega) _) | (with_reducible refine Below.setCell ?_ (by simp <;> omega) _)))) 1⟩
    · have t0 : (l0.tmod 2 != 0) = true := by rw [bne_iff_ne]; exact h0
      have t1 : (l1.tmod 2 != 0) = true := by rw [bne_iff_ne]; exact h1
      have t2 : (l2.tmod 2 != 0) = true := by rw [bne_iff_ne]; exact h2
      have t3 : (l3.tmod 2 != 0) = true := by rw [bne_iff_ne]; exact h3
      clear h0 h1 h2 h3
      go_region
      go_wp2
      exact bodyPost_ret (v := .tuple #[.agg #[.int .i64 l0, .int .i64 l1, .int .i64 l2, .int .i64 l3], .bool true]) (by simp [results, Try.results75, go_sem, c0_, c1_, c2_, c3_, c4_, c5_, c6_, c7_, c8_, f0_, f1_, f2_, f3_, f4_, d5_, f5_, d6_, f6_, d7_, f7_, d8_, f8_, z0_, z1_]) rfl ⟨⟨l0, l1, l2, l3⟩, by rw [HI.out]; simp [go_sem, t0, t1, t2, t3], HH.out, below_draws (by (repeat (first | (with_reducible exact Below.refl _ _) | (with_reducible exact HB.out) | (with_reducible refine below_draws ?_ _) | (with_reducible refine Below.alloc ?_ (by go_size) _) | (with_reducible refine Below.setCell ?_ (by go_size) _) | (with_reducible refine Below.alloc ?_ (by simp <;> omega) _) | (with_reducible refine Below.setCell ?_ (by simp <;> omega) _)))) 1⟩

  · have HI : Hid (isL ⟨l0, l1, l2, l3, l4⟩ = false) := Lib.hid (by unfold isL; simp [h1, h2])
    have t : (l4 == 1) = false := by rw [beq_eq_false_iff_ne]; exact h1
    have t' : (l4 == 2) = false := by rw [beq_eq_false_iff_ne]; exact h2
    clear h1 h2
    obtain ⟨c0_, c1_, c2_, c3_, c4_, f0_, f1_, f2_, f3_, f4_, d5_, f5_, d6_, f6_, d7_, f7_, d8_, f8_⟩ := K_Ho.cells hK; obtain ⟨z0_, z1_, -⟩ := K_Ho.zs hK; have HK := Lib.hid hK; clear hK
    have HB := Lib.hid (K_Ho.bel HK.out)
    go_wp2
    exact bodyPost_ret (v := .tuple #[.agg #[.int .i64 0, .int .i64 0, .int .i64 0, .int .i64 0], .bool false]) (by simp [results, Try.results75, go_sem, c0_, c1_, c2_, c3_, c4_, f0_, f1_, f2_, f3_, f4_, d5_, f5_, d6_, f6_, d7_, f7_, d8_, f8_, z0_, z1_]) rfl ⟨H.zero, by rw [HI.out]; rfl, fun (h : isL ⟨l0, l1, l2, l3, l4⟩ = true) => (by rw [HI.out] at h; cases h), by (repeat (first | (with_reducible exact Below.refl _ _) | (with_reducible exact HB.out) | (with_reducible refine below_draws ?_ _) | (with_reducible refine Below.alloc ?_ (by go_size) _) | (with_reducible refine Below.setCell ?_ (by go_size) _) | (with_reducible refine Below.alloc ?_ (by simp <;> omega) _) | (with_reducible refine Below.setCell ?_ (by simp <;> omega) _)))⟩
end Go.Proofs.Yteiflfmpkfhkoaa.Rt
