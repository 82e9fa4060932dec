/-
  WALKS: the greatest associate, canonical associates, results, the program's.
-/
import Derived.Test.YteiflfmpkfhkoaaRt5
namespace Go.Proofs.Yteiflfmpkfhkoaa.Rt
open Go.RowKit
open Alm Hwm Al
set_option linter.unusedVariables false
set_option linter.unusedSimpArgs false
set_option maxRecDepth 100000
section
variable {w0 : World} {cs : List (Nat × Nat × Value)} {fs : List (Nat × Nat)} {w : World}
theorem KL.sub {cs' : List (Nat × Nat × Value)} {fs' : List (Nat × Nat)} (h : KL w0 cs fs w) (h1 : ∀ x ∈ cs', x ∈ cs) (h2 : ∀ x ∈ fs', x ∈ fs) : KL w0 cs' fs' w :=
  ⟨fun x hx => h.c x (h1 x hx), fun x hx => h.g x (h2 x hx), fun x hx => h.f x (h2 x hx), h.bel⟩
theorem KL.push4 (h : KL w0 cs fs w) (a b c d : Int) (T : TypeId) (p : Nat) (hp : p = w.heap.size) : KL w0 ((p, 0, .int .i64 a) :: (p, 1, .int .i64 b) :: (p, 2, .int .i64 c) :: (p, 3, .int .i64 d) :: cs) fs (w.alloc (.cells #[.int .i64 a, .int .i64 b, .int .i64 c, .int .i64 d] T)) := by
  subst hp
  have h1 := h.alloc (.cells #[.int .i64 a, .int .i64 b, .int .i64 c, .int .i64 d] T)
  refine ⟨fun x hx => ?_, h1.g, h1.f, h1.bel⟩
  simp only [List.mem_cons] at hx
  rcases hx with rfl | rfl | rfl | rfl | hx
  · simp [go_sem]
  · simp [go_sem]
  · simp [go_sem]
  · simp [go_sem]
  · exact h1.c x hx
theorem KL.push4w (h : KL w0 cs fs w) (a b c d : Int) (T : TypeId) (p : Nat) (hp : p = w.heap.size) : KL w0 ((p, 0, .int .i64 a) :: (p, 1, .int .i64 b) :: (p, 2, .int .i64 c) :: (p, 3, .int .i64 d) :: cs) ((p, 0) :: (p, 1) :: (p, 2) :: (p, 3) :: fs) (w.alloc (.cells #[.int .i64 a, .int .i64 b, .int .i64 c, .int .i64 d] T)) := by
  have h2 := KL.push4 h a b c d T p hp
  subst hp
  refine ⟨h2.c, fun x hx => ?_, fun x hx => ?_, h2.bel⟩
  · simp only [List.mem_cons] at hx
    rcases hx with rfl | rfl | rfl | rfl | hx
    · simp [go_sem]
    · simp [go_sem]
    · simp [go_sem]
    · simp [go_sem]
    · exact h2.g x hx
  · simp only [List.mem_cons] at hx
    rcases hx with rfl | rfl | rfl | rfl | hx
    · simp [go_sem]
    · simp [go_sem]
    · simp [go_sem]
    · simp [go_sem]
    · exact h2.f x hx
theorem KL.put4 {a b c d : Value} {a' b' c' d' : Int} {p : Nat} (h : KL w0 ((p, 0, a) :: (p, 1, b) :: (p, 2, c) :: (p, 3, d) :: cs) ((p, 0) :: (p, 1) :: (p, 2) :: (p, 3) :: fs) w) (hp : ∀ x ∈ cs, p ≠ x.1) (hw : w0.heap.size ≤ p) :
    KL w0 ((p, 0, .int .i64 a') :: (p, 1, .int .i64 b') :: (p, 2, .int .i64 c') :: (p, 3, .int .i64 d') :: cs) ((p, 0) :: (p, 1) :: (p, 2) :: (p, 3) :: fs) ((((w.setCell ⟨p, 0, none⟩ (.int .i64 a')).setCell ⟨p, 1, none⟩ (.int .i64 b')).setCell ⟨p, 2, none⟩ (.int .i64 c')).setCell ⟨p, 3, none⟩ (.int .i64 d')) := by
  have c0 := h.c (p, 0, a) (by simp)
  have c1 := h.c (p, 1, b) (by simp)
  have c2 := h.c (p, 2, c) (by simp)
  have c3 := h.c (p, 3, d) (by simp)
  have f0 := h.f (p, 0) (by simp)
  have f1 := h.f (p, 1) (by simp)
  have f2 := h.f (p, 2) (by simp)
  have f3 := h.f (p, 3) (by simp)
  simp only [] at c0 c1 c2 c3 f0 f1 f2 f3
  have h0 : KL w0 cs fs w := ⟨fun x hx => h.c x (by simp [hx]), fun x hx => h.g x (by simp [hx]), fun x hx => h.f x (by simp [hx]), h.bel⟩
  have h1 := (((h0.set p 0 (.int .i64 a') hp hw).set p 1 (.int .i64 b') hp hw).set p 2 (.int .i64 c') hp hw).set p 3 (.int .i64 d') hp hw
  refine ⟨fun x hx => ?_, fun x hx => ?_, fun x hx => ?_, h1.bel⟩
  · simp only [List.mem_cons] at hx
    rcases hx with rfl | rfl | rfl | rfl | hx
    · simp [go_sem, c0, c1, c2, c3, f0, f1, f2, f3]
    · simp [go_sem, c0, c1, c2, c3, f0, f1, f2, f3]
    · simp [go_sem, c0, c1, c2, c3, f0, f1, f2, f3]
    · simp [go_sem, c0, c1, c2, c3, f0, f1, f2, f3]
    · exact h1.c x hx
  · simp only [List.mem_cons] at hx
    rcases hx with rfl | rfl | rfl | rfl | hx
    · simp [go_sem, c0, c1, c2, c3, f0, f1, f2, f3]
    · simp [go_sem, c0, c1, c2, c3, f0, f1, f2, f3]
    · simp [go_sem, c0, c1, c2, c3, f0, f1, f2, f3]
    · simp [go_sem, c0, c1, c2, c3, f0, f1, f2, f3]
    · exact h1.g x hx
  · simp only [List.mem_cons] at hx
    rcases hx with rfl | rfl | rfl | rfl | hx
    · simp [go_sem, c0, c1, c2, c3, f0, f1, f2, f3]
    · simp [go_sem, c0, c1, c2, c3, f0, f1, f2, f3]
    · simp [go_sem, c0, c1, c2, c3, f0, f1, f2, f3]
    · simp [go_sem, c0, c1, c2, c3, f0, f1, f2, f3]
    · exact h1.f x hx
end
/-- what a walk keeps: cells, and that nothing that was there has turned -/
def K_Gr (a0 a1 a2 a3 g0 g1 g2 g3 : Int) (p q r : Nat) (w w' : World) : Prop := KL w [(q, 0, .int .i64 g0), (q, 1, .int .i64 g1), (q, 2, .int .i64 g2), (q, 3, .int .i64 g3), (p, 0, .int .i64 a0), (p, 1, .int .i64 a1), (p, 2, .int .i64 a2), (p, 3, .int .i64 a3)] [(q, 0), (q, 1), (q, 2), (q, 3), (r, 0), (r, 1), (r, 2), (r, 3)] w'
theorem K_Gr.below {a0 a1 a2 a3 g0 g1 g2 g3 : Int} {p q r : Nat} {w w1 w2 : World} (hb : Below w1.heap.size w1 w2) (h : K_Gr a0 a1 a2 a3 g0 g1 g2 g3 p q r w w1) : K_Gr a0 a1 a2 a3 g0 g1 g2 g3 p q r w w2 := KL.below hb h
theorem K_Gr.draws {a0 a1 a2 a3 g0 g1 g2 g3 : Int} {p q r : Nat} {w w1 : World} (n : Nat) (h : K_Gr a0 a1 a2 a3 g0 g1 g2 g3 p q r w w1) : K_Gr a0 a1 a2 a3 g0 g1 g2 g3 p q r w (w1.drewN n) := KL.draws n h
theorem K_Gr.drew {a0 a1 a2 a3 g0 g1 g2 g3 : Int} {p q r : Nat} {w w1 : World} (h : K_Gr a0 a1 a2 a3 g0 g1 g2 g3 p q r w w1) : K_Gr a0 a1 a2 a3 g0 g1 g2 g3 p q r w w1.drew := KL.draws 1 h
theorem K_Gr.alloc {a0 a1 a2 a3 g0 g1 g2 g3 : Int} {p q r : Nat} {w w1 : World} (o : Obj) (h : K_Gr a0 a1 a2 a3 g0 g1 g2 g3 p q r w w1) : K_Gr a0 a1 a2 a3 g0 g1 g2 g3 p q r w (w1.alloc o) := KL.alloc o h
theorem K_Gr.set {a0 a1 a2 a3 g0 g1 g2 g3 : Int} {p q r : Nat} {w w1 : World} (h : K_Gr a0 a1 a2 a3 g0 g1 g2 g3 p q r w w1) (b i : Nat) (v : Value) (hb : b ≠ q ∧ b ≠ p ∧ w.heap.size ≤ b) : K_Gr a0 a1 a2 a3 g0 g1 g2 g3 p q r w (w1.setCell ⟨b, i, none⟩ v) :=
  KL.set h b i v (by intro x hx; simp only [List.mem_cons, List.not_mem_nil, or_false] at hx; rcases hx with rfl | rfl | rfl | rfl | rfl | rfl | rfl | rfl <;> simp only [] <;> omega) (by omega)
theorem K_Gr.bel {a0 a1 a2 a3 g0 g1 g2 g3 : Int} {p q r : Nat} {w w1 : World} (h : K_Gr a0 a1 a2 a3 g0 g1 g2 g3 p q r w w1) : Below w.heap.size w w1 := KL.bel h
theorem K_Gr.cells {a0 a1 a2 a3 g0 g1 g2 g3 : Int} {p q r : Nat} {w w' : World} (h : K_Gr a0 a1 a2 a3 g0 g1 g2 g3 p q r w w') : w'.cell? ⟨q, 0, none⟩ = some (.int .i64 g0) ∧ w'.cell? ⟨q, 1, none⟩ = some (.int .i64 g1) ∧ w'.cell? ⟨q, 2, none⟩ = some (.int .i64 g2) ∧ w'.cell? ⟨q, 3, none⟩ = some (.int .i64 g3) ∧ w'.cell? ⟨p, 0, none⟩ = some (.int .i64 a0) ∧ w'.cell? ⟨p, 1, none⟩ = some (.int .i64 a1) ∧ w'.cell? ⟨p, 2, none⟩ = some (.int .i64 a2) ∧ w'.cell? ⟨p, 3, none⟩ = some (.int .i64 a3) ∧ w'.frozen? ⟨q, 0, none⟩ = false ∧ w'.frozen? ⟨q, 1, none⟩ = false ∧ w'.frozen? ⟨q, 2, none⟩ = false ∧ w'.frozen? ⟨q, 3, none⟩ = false ∧ w'.cell? ⟨r, 0, none⟩ = some (cv w' r 0) ∧ w'.frozen? ⟨r, 0, none⟩ = false ∧ w'.cell? ⟨r, 1, none⟩ = some (cv w' r 1) ∧ w'.frozen? ⟨r, 1, none⟩ = false ∧ w'.cell? ⟨r, 2, none⟩ = some (cv w' r 2) ∧ w'.frozen? ⟨r, 2, none⟩ = false ∧ w'.cell? ⟨r, 3, none⟩ = some (cv w' r 3) ∧ w'.frozen? ⟨r, 3, none⟩ = false := ⟨h.c (q, 0, .int .i64 g0) (by simp), h.c (q, 1, .int .i64 g1) (by simp), h.c (q, 2, .int .i64 g2) (by simp), h.c (q, 3, .int .i64 g3) (by simp), h.c (p, 0, .int .i64 a0) (by simp), h.c (p, 1, .int .i64 a1) (by simp), h.c (p, 2, .int .i64 a2) (by simp), h.c (p, 3, .int .i64 a3) (by simp), h.f (q, 0) (by simp), h.f (q, 1) (by simp), h.f (q, 2) (by simp), h.f (q, 3) (by simp), h.d (r, 0) (by simp), h.f (r, 0) (by simp), h.d (r, 1) (by simp), h.f (r, 1) (by simp), h.d (r, 2) (by simp), h.f (r, 2) (by simp), h.d (r, 3) (by simp), h.f (r, 3) (by simp)⟩
theorem K_Gr.zs {a0 a1 a2 a3 g0 g1 g2 g3 : Int} {p q r : Nat} {w w' : World} (h : K_Gr a0 a1 a2 a3 g0 g1 g2 g3 p q r w w') : q < w'.heap.size ∧ p < w'.heap.size ∧ r < w'.heap.size ∧ True := ⟨KL.z h (x := (q, 0, .int .i64 g0)) (by simp), KL.z h (x := (p, 0, .int .i64 a0)) (by simp), KL.zf h (x := (r, 0)) (by simp), trivial⟩
theorem K_Gr.ks {a0 a1 a2 a3 g0 g1 g2 g3 : Int} {p q r : Nat} {w w' : World} (h : K_Gr a0 a1 a2 a3 g0 g1 g2 g3 p q r w w') : (w'.cell? ⟨q, 0, none⟩ = some (.int .i64 g0) ∧ w'.cell? ⟨q, 1, none⟩ = some (.int .i64 g1) ∧ w'.cell? ⟨q, 2, none⟩ = some (.int .i64 g2) ∧ w'.cell? ⟨q, 3, none⟩ = some (.int .i64 g3) ∧ w'.cell? ⟨p, 0, none⟩ = some (.int .i64 a0) ∧ w'.cell? ⟨p, 1, none⟩ = some (.int .i64 a1) ∧ w'.cell? ⟨p, 2, none⟩ = some (.int .i64 a2) ∧ w'.cell? ⟨p, 3, none⟩ = some (.int .i64 a3) ∧ w'.frozen? ⟨q, 0, none⟩ = false ∧ w'.frozen? ⟨q, 1, none⟩ = false ∧ w'.frozen? ⟨q, 2, none⟩ = false ∧ w'.frozen? ⟨q, 3, none⟩ = false ∧ w'.cell? ⟨r, 0, none⟩ = some (cv w' r 0) ∧ w'.frozen? ⟨r, 0, none⟩ = false ∧ w'.cell? ⟨r, 1, none⟩ = some (cv w' r 1) ∧ w'.frozen? ⟨r, 1, none⟩ = false ∧ w'.cell? ⟨r, 2, none⟩ = some (cv w' r 2) ∧ w'.frozen? ⟨r, 2, none⟩ = false ∧ w'.cell? ⟨r, 3, none⟩ = some (cv w' r 3) ∧ w'.frozen? ⟨r, 3, none⟩ = false) ∧ K_Gr a0 a1 a2 a3 g0 g1 g2 g3 p q r w w' := ⟨h.cells, h⟩
/-- what a walk keeps: cells, and that nothing that was there has turned -/
def K_Gy (y0 y1 y2 y3 a0 a1 a2 a3 g0 g1 g2 g3 : Int) (s p q r : Nat) (w w' : World) : Prop := KL w [(s, 0, .int .i64 y0), (s, 1, .int .i64 y1), (s, 2, .int .i64 y2), (s, 3, .int .i64 y3), (q, 0, .int .i64 g0), (q, 1, .int .i64 g1), (q, 2, .int .i64 g2), (q, 3, .int .i64 g3), (p, 0, .int .i64 a0), (p, 1, .int .i64 a1), (p, 2, .int .i64 a2), (p, 3, .int .i64 a3)] [(q, 0), (q, 1), (q, 2), (q, 3), (r, 0), (r, 1), (r, 2), (r, 3)] w'
theorem K_Gy.below {y0 y1 y2 y3 a0 a1 a2 a3 g0 g1 g2 g3 : Int} {s p q r : Nat} {w w1 w2 : World} (hb : Below w1.heap.size w1 w2) (h : K_Gy y0 y1 y2 y3 a0 a1 a2 a3 g0 g1 g2 g3 s p q r w w1) : K_Gy y0 y1 y2 y3 a0 a1 a2 a3 g0 g1 g2 g3 s p q r w w2 := KL.below hb h
theorem K_Gy.draws {y0 y1 y2 y3 a0 a1 a2 a3 g0 g1 g2 g3 : Int} {s p q r : Nat} {w w1 : World} (n : Nat) (h : K_Gy y0 y1 y2 y3 a0 a1 a2 a3 g0 g1 g2 g3 s p q r w w1) : K_Gy y0 y1 y2 y3 a0 a1 a2 a3 g0 g1 g2 g3 s p q r w (w1.drewN n) := KL.draws n h
theorem K_Gy.drew {y0 y1 y2 y3 a0 a1 a2 a3 g0 g1 g2 g3 : Int} {s p q r : Nat} {w w1 : World} (h : K_Gy y0 y1 y2 y3 a0 a1 a2 a3 g0 g1 g2 g3 s p q r w w1) : K_Gy y0 y1 y2 y3 a0 a1 a2 a3 g0 g1 g2 g3 s p q r w w1.drew := KL.draws 1 h
theorem K_Gy.alloc {y0 y1 y2 y3 a0 a1 a2 a3 g0 g1 g2 g3 : Int} {s p q r : Nat} {w w1 : World} (o : Obj) (h : K_Gy y0 y1 y2 y3 a0 a1 a2 a3 g0 g1 g2 g3 s p q r w w1) : K_Gy y0 y1 y2 y3 a0 a1 a2 a3 g0 g1 g2 g3 s p q r w (w1.alloc o) := KL.alloc o h
theorem K_Gy.set {y0 y1 y2 y3 a0 a1 a2 a3 g0 g1 g2 g3 : Int} {s p q r : Nat} {w w1 : World} (h : K_Gy y0 y1 y2 y3 a0 a1 a2 a3 g0 g1 g2 g3 s p q r w w1) (b i : Nat) (v : Value) (hb : b ≠ s ∧ b ≠ q ∧ b ≠ p ∧ w.heap.size ≤ b) : K_Gy y0 y1 y2 y3 a0 a1 a2 a3 g0 g1 g2 g3 s p q r w (w1.setCell ⟨b, i, none⟩ v) :=
  KL.set h b i v (by intro x hx; simp only [List.mem_cons, List.not_mem_nil, or_false] at hx; rcases hx with rfl | rfl | rfl | rfl | rfl | rfl | rfl | rfl | rfl | rfl | rfl | rfl <;> simp only [] <;> omega) (by omega)
theorem K_Gy.bel {y0 y1 y2 y3 a0 a1 a2 a3 g0 g1 g2 g3 : Int} {s p q r : Nat} {w w1 : World} (h : K_Gy y0 y1 y2 y3 a0 a1 a2 a3 g0 g1 g2 g3 s p q r w w1) : Below w.heap.size w w1 := KL.bel h
theorem K_Gy.cells {y0 y1 y2 y3 a0 a1 a2 a3 g0 g1 g2 g3 : Int} {s p q r : Nat} {w w' : World} (h : K_Gy y0 y1 y2 y3 a0 a1 a2 a3 g0 g1 g2 g3 s p q r w w') : w'.cell? ⟨s, 0, none⟩ = some (.int .i64 y0) ∧ w'.cell? ⟨s, 1, none⟩ = some (.int .i64 y1) ∧ w'.cell? ⟨s, 2, none⟩ = some (.int .i64 y2) ∧ w'.cell? ⟨s, 3, none⟩ = some (.int .i64 y3) ∧ w'.cell? ⟨q, 0, none⟩ = some (.int .i64 g0) ∧ w'.cell? ⟨q, 1, none⟩ = some (.int .i64 g1) ∧ w'.cell? ⟨q, 2, none⟩ = some (.int .i64 g2) ∧ w'.cell? ⟨q, 3, none⟩ = some (.int .i64 g3) ∧ w'.cell? ⟨p, 0, none⟩ = some (.int .i64 a0) ∧ w'.cell? ⟨p, 1, none⟩ = some (.int .i64 a1) ∧ w'.cell? ⟨p, 2, none⟩ = some (.int .i64 a2) ∧ w'.cell? ⟨p, 3, none⟩ = some (.int .i64 a3) ∧ w'.frozen? ⟨q, 0, none⟩ = false ∧ w'.frozen? ⟨q, 1, none⟩ = false ∧ w'.frozen? ⟨q, 2, none⟩ = false ∧ w'.frozen? ⟨q, 3, none⟩ = false ∧ w'.cell? ⟨r, 0, none⟩ = some (cv w' r 0) ∧ w'.frozen? ⟨r, 0, none⟩ = false ∧ w'.cell? ⟨r, 1, none⟩ = some (cv w' r 1) ∧ w'.frozen? ⟨r, 1, none⟩ = false ∧ w'.cell? ⟨r, 2, none⟩ = some (cv w' r 2) ∧ w'.frozen? ⟨r, 2, none⟩ = false ∧ w'.cell? ⟨r, 3, none⟩ = some (cv w' r 3) ∧ w'.frozen? ⟨r, 3, none⟩ = false := ⟨h.c (s, 0, .int .i64 y0) (by simp), h.c (s, 1, .int .i64 y1) (by simp), h.c (s, 2, .int .i64 y2) (by simp), h.c (s, 3, .int .i64 y3) (by simp), h.c (q, 0, .int .i64 g0) (by simp), h.c (q, 1, .int .i64 g1) (by simp), h.c (q, 2, .int .i64 g2) (by simp), h.c (q, 3, .int .i64 g3) (by simp), h.c (p, 0, .int .i64 a0) (by simp), h.c (p, 1, .int .i64 a1) (by simp), h.c (p, 2, .int .i64 a2) (by simp), h.c (p, 3, .int .i64 a3) (by simp), h.f (q, 0) (by simp), h.f (q, 1) (by simp), h.f (q, 2) (by simp), h.f (q, 3) (by simp), h.d (r, 0) (by simp), h.f (r, 0) (by simp), h.d (r, 1) (by simp), h.f (r, 1) (by simp), h.d (r, 2) (by simp), h.f (r, 2) (by simp), h.d (r, 3) (by simp), h.f (r, 3) (by simp)⟩
theorem K_Gy.zs {y0 y1 y2 y3 a0 a1 a2 a3 g0 g1 g2 g3 : Int} {s p q r : Nat} {w w' : World} (h : K_Gy y0 y1 y2 y3 a0 a1 a2 a3 g0 g1 g2 g3 s p q r w w') : s < w'.heap.size ∧ q < w'.heap.size ∧ p < w'.heap.size ∧ r < w'.heap.size ∧ True := ⟨KL.z h (x := (s, 0, .int .i64 y0)) (by simp), KL.z h (x := (q, 0, .int .i64 g0)) (by simp), KL.z h (x := (p, 0, .int .i64 a0)) (by simp), KL.zf h (x := (r, 0)) (by simp), trivial⟩
theorem K_Gy.ks {y0 y1 y2 y3 a0 a1 a2 a3 g0 g1 g2 g3 : Int} {s p q r : Nat} {w w' : World} (h : K_Gy y0 y1 y2 y3 a0 a1 a2 a3 g0 g1 g2 g3 s p q r w w') : (w'.cell? ⟨s, 0, none⟩ = some (.int .i64 y0) ∧ w'.cell? ⟨s, 1, none⟩ = some (.int .i64 y1) ∧ w'.cell? ⟨s, 2, none⟩ = some (.int .i64 y2) ∧ w'.cell? ⟨s, 3, none⟩ = some (.int .i64 y3) ∧ w'.cell? ⟨q, 0, none⟩ = some (.int .i64 g0) ∧ w'.cell? ⟨q, 1, none⟩ = some (.int .i64 g1) ∧ w'.cell? ⟨q, 2, none⟩ = some (.int .i64 g2) ∧ w'.cell? ⟨q, 3, none⟩ = some (.int .i64 g3) ∧ w'.cell? ⟨p, 0, none⟩ = some (.int .i64 a0) ∧ w'.cell? ⟨p, 1, none⟩ = some (.int .i64 a1) ∧ w'.cell? ⟨p, 2, none⟩ = some (.int .i64 a2) ∧ w'.cell? ⟨p, 3, none⟩ = some (.int .i64 a3) ∧ w'.frozen? ⟨q, 0, none⟩ = false ∧ w'.frozen? ⟨q, 1, none⟩ = false ∧ w'.frozen? ⟨q, 2, none⟩ = false ∧ w'.frozen? ⟨q, 3, none⟩ = false ∧ w'.cell? ⟨r, 0, none⟩ = some (cv w' r 0) ∧ w'.frozen? ⟨r, 0, none⟩ = false ∧ w'.cell? ⟨r, 1, none⟩ = some (cv w' r 1) ∧ w'.frozen? ⟨r, 1, none⟩ = false ∧ w'.cell? ⟨r, 2, none⟩ = some (cv w' r 2) ∧ w'.frozen? ⟨r, 2, none⟩ = false ∧ w'.cell? ⟨r, 3, none⟩ = some (cv w' r 3) ∧ w'.frozen? ⟨r, 3, none⟩ = false) ∧ K_Gy y0 y1 y2 y3 a0 a1 a2 a3 g0 g1 g2 g3 s p q r w w' := ⟨h.cells, h⟩
theorem take_snoc {L : List H} {i : Nat} {u : H} (h : L[i]? = some u) : L.take (i + 1) = L.take i ++ [u] := by
  rw [List.take_add_one, h]; rfl
set_option maxHeartbeats 8000000 in
theorem greatest_any (x : H) (L : List H) (B : Nat) (A : Option Addr) (c : Nat) (w : World) (hx : HB 100000000 x) (hL : LH 97 B w A c L) (hu : ∀ u ∈ L, HB 100000000 u) (hc : c ≤ 9223372036854775807) (hlc : L.length ≤ c) :
    Calls Try.prog 120 #[.agg #[.int .i64 (x).w, .int .i64 (x).x, .int .i64 (x).y, .int .i64 (x).z], .slice A L.length c] w fun e w' => e = .returned (.agg #[.int .i64 (gre x L).w, .int .i64 (gre x L).x, .int .i64 (gre x L).y, .int .i64 (gre x L).z]) ∧ Below w.heap.size w w' := by
  have BY := Lib.hid (fun u W h => by_h x u W hx h)
  have HL := Lib.hid hL
  have HU := Lib.hid hu
  have GE := Lib.hid (fun (i : Nat) (u : H) (h : L[i]? = some u) => show gre x (L.take (i + 1)) = gst x (gre x (L.take i)) u by rw [take_snoc h, gre_snoc])
  have G0 : Hid (gre x (L.take 0) = x) := Lib.hid rfl
  have GN : Hid (gre x (L.take L.length) = gre x L) := Lib.hid (by rw [List.take_length])
  clear hx hL hu
  obtain ⟨a0, a1, a2, a3⟩ := x
  simp only []
  go_enter Try.func120, Try.ntmps120
  go_wp2_with fail
  have hK : K_Gr a0 a1 a2 a3 a0 a1 a2 a3 w.heap.size (w.heap.size + 2) (w.heap.size + 1) w (((w.alloc (.cells #[.int .i64 a0, .int .i64 a1, .int .i64 a2, .int .i64 a3] 97)).alloc (.cells #[.int .i64 0, .int .i64 0, .int .i64 0, .int .i64 0] 97)).alloc (.cells #[.int .i64 a0, .int .i64 a1, .int .i64 a2, .int .i64 a3] 97)) := ⟨by simp [go_sem], by simp [go_sem], by simp [go_sem], by (repeat (first | (with_reducible exact Below.refl _ _) | (with_reducible exact HB.out) | (with_reducible refine below_draws ?_ _) | (with_reducible refine Below.alloc ?_ (by go_size) _) | (with_reducible refine Below.setCell ?_ (by go_size) _) | (with_reducible refine Below.alloc ?_ (by simp <;> omega) _) | (with_reducible refine Below.setCell ?_ (by simp <;> omega) _)))⟩
  have HK := Lib.hid hK
  clear hK
  go_loopw [12] (fun t12 wr => ∃ i : Nat, (i ≤ L.length ∧ ∃ g : H, Hid (gre ⟨a0, a1, a2, a3⟩ (L.take i) = g) ∧ K_Gr a0 a1 a2 a3 g.w g.x g.y g.z w.heap.size (w.heap.size + 2) (w.heap.size + 1) w wr) ∧ t12 = .int .i64 i) (fun t12 _ => L.length - (intOf t12).toNat)
  case atStart => exact ⟨0, ⟨Nat.zero_le _, _, G0, HK.out⟩, rfl⟩
  case round =>
    clear HK
    obtain ⟨i, ⟨hi, g, HG, hK⟩, rfl⟩ := hrel
    obtain ⟨wo, rfl⟩ : ∃ wo : World, wo = wr := ⟨_, rfl⟩
    obtain ⟨g0, g1, g2, g3⟩ := g
    simp only [] at hK
    have hL := LH.below HL.out (K_Gr.bel hK) (LH.lt HL.out)
    by_cases hlt : i < L.length
    · have hq : L[i]? = some L[i] := List.getElem?_eq_getElem hlt
      have hm := HU.out L[i] (List.getElem_mem hlt)
      obtain ⟨b, rfl, ⟨e0, e1, e2, e3⟩, -, gz⟩ := LH.at_ hL hq
      have GX := Lib.hid (GE.out i L[i] hq)
      generalize L[i] = u at *
      have BU := Lib.hid (fun W => BY.out u W hm)
      clear hm hq hL
      obtain ⟨y, hy⟩ : ∃ y, by_ ⟨a0, a1, a2, a3⟩ u = y := ⟨_, rfl⟩
      have HY := Lib.hid hy
      rw [hy] at BU
      clear hy
      obtain ⟨u0, u1, u2, u3⟩ := u
      obtain ⟨y0, y1, y2, y3⟩ := y
      simp only [] at e0 e1 e2 e3 BU
      obtain ⟨c0_, c1_, c2_, c3_, c4_, c5_, c6_, c7_, f0_, f1_, f2_, f3_, d4_, f4_, d5_, f5_, d6_, f6_, d7_, f7_⟩ := K_Gr.cells hK; obtain ⟨z0_, z1_, z2_, -⟩ := K_Gr.zs hK; have HK := Lib.hid hK; clear hK
      go_wp2_with fail
      refine (BU.out _).mono ?_
      rintro e w2 ⟨rfl, hb⟩
      clear c0_ c1_ c2_ c3_ c4_ c5_ c6_ c7_ f0_ f1_ f2_ f3_ d4_ f4_ d5_ f5_ d6_ f6_ d7_ f7_ z0_ z1_ z2_
      have hK := K_Gr.below hb (K_Gr.alloc _ HK.out)
      clear hb HK e0 e1 e2 e3
      obtain ⟨c0_, c1_, c2_, c3_, c4_, c5_, c6_, c7_, f0_, f1_, f2_, f3_, d4_, f4_, d5_, f5_, d6_, f6_, d7_, f7_⟩ := K_Gr.cells hK; obtain ⟨z0_, z1_, z2_, -⟩ := K_Gr.zs hK; have HK := Lib.hid hK; clear hK
      have hw2 : w.heap.size + 2 < w2.heap.size := z0_
      go_wp2_with fail
      refine (hcompare_any _ _ _ _ _ _ _ _ _).mono ?_
      rintro e w3 ⟨rfl, hb⟩
      clear c0_ c1_ c2_ c3_ c4_ c5_ c6_ c7_ f0_ f1_ f2_ f3_ d4_ f4_ d5_ f5_ d6_ f6_ d7_ f7_ z0_ z1_ z2_
      have hK : K_Gy y0 y1 y2 y3 a0 a1 a2 a3 g0 g1 g2 g3 w2.heap.size w.heap.size (w.heap.size + 2) (w.heap.size + 1) w w3 := KL.below hb (KL.push4 HK.out y0 y1 y2 y3 _ _ rfl)
      clear hb HK
      have GB := Lib.hid (show gre ⟨a0, a1, a2, a3⟩ (L.take (i + 1)) = if gtB ⟨y0, y1, y2, y3⟩ ⟨g0, g1, g2, g3⟩ then ⟨y0, y1, y2, y3⟩ else ⟨g0, g1, g2, g3⟩ by rw [GX.out, HG.out]; unfold gst; rw [HY.out])
      have HS : Hid (K_Gr a0 a1 a2 a3 g0 g1 g2 g3 w.heap.size (w.heap.size + 2) (w.heap.size + 1) w w3) := Lib.hid (KL.sub hK (fun x hx => by simp only [List.mem_cons] at hx ⊢; grind) (fun x hx => hx))
      rcases hg : gtB ⟨y0, y1, y2, y3⟩ ⟨g0, g1, g2, g3⟩ with _ | _
      · have t : decide (cmpH ⟨y0, y1, y2, y3⟩ ⟨g0, g1, g2, g3⟩ > 0) = false := by rw [cmpH_pos]; exact hg
        have t' : decide (0 < cmpH ⟨y0, y1, y2, y3⟩ ⟨g0, g1, g2, g3⟩) = false := t
        have HGG := Lib.hid hg
        clear hg
        obtain ⟨c0_, c1_, c2_, c3_, c4_, c5_, c6_, c7_, c8_, c9_, c10_, c11_, f0_, f1_, f2_, f3_, d4_, f4_, d5_, f5_, d6_, f6_, d7_, f7_⟩ := K_Gy.cells hK; obtain ⟨z0_, z1_, z2_, z3_, -⟩ := K_Gy.zs hK; have HK := Lib.hid hK; clear hK
        go_wp2
        go_roundw
        case rel => exact ⟨i + 1, ⟨by omega, ⟨g0, g1, g2, g3⟩, Lib.hid (by rw [GB.out, HGG.out]; rfl), HS.out⟩, by go_num⟩
        case measure => simp [intOf]; omega
      · have t : decide (cmpH ⟨y0, y1, y2, y3⟩ ⟨g0, g1, g2, g3⟩ > 0) = true := by rw [cmpH_pos]; exact hg
        have t' : decide (0 < cmpH ⟨y0, y1, y2, y3⟩ ⟨g0, g1, g2, g3⟩) = true := t
        have HGG := Lib.hid hg
        clear hg
        obtain ⟨c0_, c1_, c2_, c3_, c4_, c5_, c6_, c7_, c8_, c9_, c10_, c11_, f0_, f1_, f2_, f3_, d4_, f4_, d5_, f5_, d6_, f6_, d7_, f7_⟩ := K_Gy.cells hK; obtain ⟨z0_, z1_, z2_, z3_, -⟩ := K_Gy.zs hK; have HK := Lib.hid hK; clear hK
        go_wp2
        go_roundw
        case rel => exact ⟨i + 1, ⟨by omega, ⟨y0, y1, y2, y3⟩, Lib.hid (by rw [GB.out, HGG.out]; rfl), KL.put4 HS.out (by intro x hx; simp only [List.mem_cons, List.not_mem_nil, or_false] at hx; rcases hx with rfl | rfl | rfl | rfl <;> simp) (by omega)⟩, by go_num⟩
        case measure => simp [intOf]; omega
    · have hk : i = L.length := by omega
      have HE := Lib.hid hk
      clear hk hL
      obtain ⟨c0_, c1_, c2_, c3_, c4_, c5_, c6_, c7_, f0_, f1_, f2_, f3_, d4_, f4_, d5_, f5_, d6_, f6_, d7_, f7_⟩ := K_Gr.cells hK; obtain ⟨z0_, z1_, z2_, -⟩ := K_Gr.zs hK; have HK := Lib.hid hK; clear hK
      have HB := Lib.hid (K_Gr.bel HK.out)
      go_wp2
      exact bodyPost_ret (v := .agg #[.int .i64 g0, .int .i64 g1, .int .i64 g2, .int .i64 g3]) (by simp [results, Try.results120, go_sem, c0_, c1_, c2_, c3_, c4_, c5_, c6_, c7_, f0_, f1_, f2_, f3_, d4_, f4_, d5_, f5_, d6_, f6_, d7_, f7_]) rfl ⟨by rw [← GN.out, ← HE.out, HG.out], by (repeat (first | (with_reducible exact Below.refl _ _) | (with_reducible exact HB.out) | (with_reducible refine below_draws ?_ _) | (with_reducible refine Below.alloc ?_ (by go_size) _) | (with_reducible refine Below.setCell ?_ (by go_size) _) | (with_reducible refine Below.alloc ?_ (by simp <;> omega) _) | (with_reducible refine Below.setCell ?_ (by simp <;> omega) _)))⟩
end Go.Proofs.Yteiflfmpkfhkoaa.Rt
