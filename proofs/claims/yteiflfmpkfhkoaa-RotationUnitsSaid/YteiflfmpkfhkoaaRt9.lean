/-
  WALKS: the quotient and the remainder, the program's.
-/
import Derived.Test.YteiflfmpkfhkoaaRt8
import Derived.Test.YteiflfmpkfhkoaaHwq
namespace Go.Proofs.Yteiflfmpkfhkoaa.Rt
open Go.RowKit
open Alm Hwm Al
set_option linter.unusedVariables false
set_option linter.unusedSimpArgs false
set_option maxRecDepth 100000
theorem merge_rest2 {Goal : Prop} {K : Nat → Nat → World → Prop} (G : Nat → Nat → World → Prop) (main : Hid (∀ p q w, K p q w → G p q w) → Goal) (rest : ∀ p q w, K p q w → G p q w) : Goal := main (Lib.hid rest)
theorem KL.cons4g {w0 : World} {cs : List (Nat × Nat × Value)} {fs : List (Nat × Nat)} {w : World} (h : KL w0 cs fs w) (p : Nat) (a b c d : Int) (h0 : w.cell? ⟨p, 0, none⟩ = some (.int .i64 a) ∧ w.cell? ⟨p, 1, none⟩ = some (.int .i64 b) ∧ w.cell? ⟨p, 2, none⟩ = some (.int .i64 c) ∧ w.cell? ⟨p, 3, none⟩ = some (.int .i64 d)) : KL w0 ((p, 0, .int .i64 a) :: (p, 1, .int .i64 b) :: (p, 2, .int .i64 c) :: (p, 3, .int .i64 d) :: cs) fs w := by
  obtain ⟨h0, h1, h2, h3⟩ := h0
  refine ⟨fun x hx => ?_, h.g, h.f, h.bel⟩
  simp only [List.mem_cons] at hx
  rcases hx with rfl | rfl | rfl | rfl | hx
  · exact h0
  · exact h1
  · exact h2
  · exact h3
  · exact h.c x hx
theorem KL.push44w {w0 : World} {cs : List (Nat × Nat × Value)} {fs : List (Nat × Nat)} {w : World} (h : KL w0 cs fs w) (a b c d : Int) (T : TypeId) (a' b' c' d' : Int) (T' : TypeId) : KL w0 ((w.heap.size + 1, 0, .int .i64 a') :: (w.heap.size + 1, 1, .int .i64 b') :: (w.heap.size + 1, 2, .int .i64 c') :: (w.heap.size + 1, 3, .int .i64 d') :: (w.heap.size, 0, .int .i64 a) :: (w.heap.size, 1, .int .i64 b) :: (w.heap.size, 2, .int .i64 c) :: (w.heap.size, 3, .int .i64 d) :: cs) ((w.heap.size + 1, 0) :: (w.heap.size + 1, 1) :: (w.heap.size + 1, 2) :: (w.heap.size + 1, 3) :: (w.heap.size, 0) :: (w.heap.size, 1) :: (w.heap.size, 2) :: (w.heap.size, 3) :: fs) ((w.alloc (.cells #[.int .i64 a, .int .i64 b, .int .i64 c, .int .i64 d] T)).alloc (.cells #[.int .i64 a', .int .i64 b', .int .i64 c', .int .i64 d'] T')) :=
  KL.push4w (KL.push4w h a b c d T _ rfl) a' b' c' d' T' _ (by simp)
/-- numbers whose squares have a small sum: what the gcd's walk meets -/
def sm (a : H) : Prop := nn a ≤ 16000000000000
theorem sm_bd {a : H} (h : sm a) : HB 4000000 a := nn_bd (n := 4000000) (by omega) (by unfold sm at h; omega)
theorem HB.up {m n : Nat} {a : H} (h : HB m a) (hm : m ≤ n) : HB n a := by
  obtain ⟨h0, h1, h2, h3⟩ := h
  exact ⟨by omega, by omega, by omega, by omega⟩
theorem HB_conj {n : Nat} {a : H} (h : HB n a) : HB n a.conj := by
  obtain ⟨h0, h1, h2, h3⟩ := h
  unfold H.conj
  exact ⟨h0, by simp only; omega, by simp only; omega, by simp only; omega⟩
theorem P_bd4 {a b : H} (h : HB 4000000 a) (k : HB 4000000 b) : HB 64000000000000 (P a b) := by
  obtain ⟨h0, h1, h2, h3⟩ := h
  obtain ⟨k0, k1, k2, k3⟩ := k
  have m1 := Bn.mul 16000000000000 h0 k0 rfl
  have m2 := Bn.mul 16000000000000 h1 k1 rfl
  have m3 := Bn.mul 16000000000000 h2 k2 rfl
  have m4 := Bn.mul 16000000000000 h3 k3 rfl
  have m5 := Bn.mul 16000000000000 h0 k1 rfl
  have m6 := Bn.mul 16000000000000 h1 k0 rfl
  have m7 := Bn.mul 16000000000000 h2 k3 rfl
  have m8 := Bn.mul 16000000000000 h3 k2 rfl
  have m9 := Bn.mul 16000000000000 h0 k2 rfl
  have l1 := Bn.mul 16000000000000 h2 k0 rfl
  have l2 := Bn.mul 16000000000000 h3 k1 rfl
  have l3 := Bn.mul 16000000000000 h1 k3 rfl
  have l4 := Bn.mul 16000000000000 h0 k3 rfl
  have l5 := Bn.mul 16000000000000 h3 k0 rfl
  have l6 := Bn.mul 16000000000000 h1 k2 rfl
  have l7 := Bn.mul 16000000000000 h2 k1 rfl
  unfold P
  refine ⟨?_, ?_, ?_, ?_⟩ <;> simp only [] <;> omega
/-- what a walk keeps: cells, and that nothing that was there has turned -/
def K_Qa (a0 a1 a2 a3 : Int) (p : Nat) (w w' : World) : Prop := KL w [(p, 0, .int .i64 a0), (p, 1, .int .i64 a1), (p, 2, .int .i64 a2), (p, 3, .int .i64 a3)] [(p, 0), (p, 1), (p, 2), (p, 3)] w'
theorem K_Qa.below {a0 a1 a2 a3 : Int} {p : Nat} {w w1 w2 : World} (hb : Below w1.heap.size w1 w2) (h : K_Qa a0 a1 a2 a3 p w w1) : K_Qa a0 a1 a2 a3 p w w2 := KL.below hb h
theorem K_Qa.draws {a0 a1 a2 a3 : Int} {p : Nat} {w w1 : World} (n : Nat) (h : K_Qa a0 a1 a2 a3 p w w1) : K_Qa a0 a1 a2 a3 p w (w1.drewN n) := KL.draws n h
theorem K_Qa.drew {a0 a1 a2 a3 : Int} {p : Nat} {w w1 : World} (h : K_Qa a0 a1 a2 a3 p w w1) : K_Qa a0 a1 a2 a3 p w w1.drew := KL.draws 1 h
theorem K_Qa.alloc {a0 a1 a2 a3 : Int} {p : Nat} {w w1 : World} (o : Obj) (h : K_Qa a0 a1 a2 a3 p w w1) : K_Qa a0 a1 a2 a3 p w (w1.alloc o) := KL.alloc o h
theorem K_Qa.set {a0 a1 a2 a3 : Int} {p : Nat} {w w1 : World} (h : K_Qa a0 a1 a2 a3 p w w1) (b i : Nat) (v : Value) (hb : b ≠ p ∧ w.heap.size ≤ b) : K_Qa a0 a1 a2 a3 p w (w1.setCell ⟨b, i, none⟩ v) :=
  KL.set h b i v (by intro x hx; simp only [List.mem_cons, List.not_mem_nil, or_false] at hx; rcases hx with rfl | rfl | rfl | rfl <;> simp only [] <;> omega) (by omega)
theorem K_Qa.bel {a0 a1 a2 a3 : Int} {p : Nat} {w w1 : World} (h : K_Qa a0 a1 a2 a3 p w w1) : Below w.heap.size w w1 := KL.bel h
theorem K_Qa.cells {a0 a1 a2 a3 : Int} {p : Nat} {w w' : World} (h : K_Qa a0 a1 a2 a3 p w w') : w'.cell? ⟨p, 0, none⟩ = some (.int .i64 a0) ∧ w'.cell? ⟨p, 1, none⟩ = some (.int .i64 a1) ∧ w'.cell? ⟨p, 2, none⟩ = some (.int .i64 a2) ∧ w'.cell? ⟨p, 3, none⟩ = some (.int .i64 a3) ∧ w'.frozen? ⟨p, 0, none⟩ = false ∧ w'.frozen? ⟨p, 1, none⟩ = false ∧ w'.frozen? ⟨p, 2, none⟩ = false ∧ w'.frozen? ⟨p, 3, none⟩ = false := ⟨h.c (p, 0, .int .i64 a0) (by simp), h.c (p, 1, .int .i64 a1) (by simp), h.c (p, 2, .int .i64 a2) (by simp), h.c (p, 3, .int .i64 a3) (by simp), h.f (p, 0) (by simp), h.f (p, 1) (by simp), h.f (p, 2) (by simp), h.f (p, 3) (by simp)⟩
theorem K_Qa.zs {a0 a1 a2 a3 : Int} {p : Nat} {w w' : World} (h : K_Qa a0 a1 a2 a3 p w w') : p < w'.heap.size ∧ True := ⟨KL.z h (x := (p, 0, .int .i64 a0)) (by simp), trivial⟩
theorem K_Qa.ks {a0 a1 a2 a3 : Int} {p : Nat} {w w' : World} (h : K_Qa a0 a1 a2 a3 p w w') : (w'.cell? ⟨p, 0, none⟩ = some (.int .i64 a0) ∧ w'.cell? ⟨p, 1, none⟩ = some (.int .i64 a1) ∧ w'.cell? ⟨p, 2, none⟩ = some (.int .i64 a2) ∧ w'.cell? ⟨p, 3, none⟩ = some (.int .i64 a3) ∧ w'.frozen? ⟨p, 0, none⟩ = false ∧ w'.frozen? ⟨p, 1, none⟩ = false ∧ w'.frozen? ⟨p, 2, none⟩ = false ∧ w'.frozen? ⟨p, 3, none⟩ = false) ∧ K_Qa a0 a1 a2 a3 p w w' := ⟨h.cells, h⟩
/-- what a walk keeps: cells, and that nothing that was there has turned -/
def K_Qb (b0 b1 b2 b3 a0 a1 a2 a3 : Int) (q p : Nat) (w w' : World) : Prop := KL w [(q, 0, .int .i64 b0), (q, 1, .int .i64 b1), (q, 2, .int .i64 b2), (q, 3, .int .i64 b3), (p, 0, .int .i64 a0), (p, 1, .int .i64 a1), (p, 2, .int .i64 a2), (p, 3, .int .i64 a3)] [(q, 0), (q, 1), (q, 2), (q, 3), (p, 0), (p, 1), (p, 2), (p, 3)] w'
theorem K_Qb.below {b0 b1 b2 b3 a0 a1 a2 a3 : Int} {q p : Nat} {w w1 w2 : World} (hb : Below w1.heap.size w1 w2) (h : K_Qb b0 b1 b2 b3 a0 a1 a2 a3 q p w w1) : K_Qb b0 b1 b2 b3 a0 a1 a2 a3 q p w w2 := KL.below hb h
theorem K_Qb.draws {b0 b1 b2 b3 a0 a1 a2 a3 : Int} {q p : Nat} {w w1 : World} (n : Nat) (h : K_Qb b0 b1 b2 b3 a0 a1 a2 a3 q p w w1) : K_Qb b0 b1 b2 b3 a0 a1 a2 a3 q p w (w1.drewN n) := KL.draws n h
theorem K_Qb.drew {b0 b1 b2 b3 a0 a1 a2 a3 : Int} {q p : Nat} {w w1 : World} (h : K_Qb b0 b1 b2 b3 a0 a1 a2 a3 q p w w1) : K_Qb b0 b1 b2 b3 a0 a1 a2 a3 q p w w1.drew := KL.draws 1 h
theorem K_Qb.alloc {b0 b1 b2 b3 a0 a1 a2 a3 : Int} {q p : Nat} {w w1 : World} (o : Obj) (h : K_Qb b0 b1 b2 b3 a0 a1 a2 a3 q p w w1) : K_Qb b0 b1 b2 b3 a0 a1 a2 a3 q p w (w1.alloc o) := KL.alloc o h
theorem K_Qb.set {b0 b1 b2 b3 a0 a1 a2 a3 : Int} {q p : Nat} {w w1 : World} (h : K_Qb b0 b1 b2 b3 a0 a1 a2 a3 q p w w1) (b i : Nat) (v : Value) (hb : b ≠ q ∧ b ≠ p ∧ w.heap.size ≤ b) : K_Qb b0 b1 b2 b3 a0 a1 a2 a3 q p w (w1.setCell ⟨b, i, none⟩ v) :=
  KL.set h b i v (by intro x hx; simp only [List.mem_cons, List.not_mem_nil, or_false] at hx; rcases hx with rfl | rfl | rfl | rfl | rfl | rfl | rfl | rfl <;> simp only [] <;> omega) (by omega)
theorem K_Qb.bel {b0 b1 b2 b3 a0 a1 a2 a3 : Int} {q p : Nat} {w w1 : World} (h : K_Qb b0 b1 b2 b3 a0 a1 a2 a3 q p w w1) : Below w.heap.size w w1 := KL.bel h
theorem K_Qb.cells {b0 b1 b2 b3 a0 a1 a2 a3 : Int} {q p : Nat} {w w' : World} (h : K_Qb b0 b1 b2 b3 a0 a1 a2 a3 q p w w') : w'.cell? ⟨q, 0, none⟩ = some (.int .i64 b0) ∧ w'.cell? ⟨q, 1, none⟩ = some (.int .i64 b1) ∧ w'.cell? ⟨q, 2, none⟩ = some (.int .i64 b2) ∧ w'.cell? ⟨q, 3, none⟩ = some (.int .i64 b3) ∧ w'.cell? ⟨p, 0, none⟩ = some (.int .i64 a0) ∧ w'.cell? ⟨p, 1, none⟩ = some (.int .i64 a1) ∧ w'.cell? ⟨p, 2, none⟩ = some (.int .i64 a2) ∧ w'.cell? ⟨p, 3, none⟩ = some (.int .i64 a3) ∧ w'.frozen? ⟨q, 0, none⟩ = false ∧ w'.frozen? ⟨q, 1, none⟩ = false ∧ w'.frozen? ⟨q, 2, none⟩ = false ∧ w'.frozen? ⟨q, 3, none⟩ = false ∧ w'.frozen? ⟨p, 0, none⟩ = false ∧ w'.frozen? ⟨p, 1, none⟩ = false ∧ w'.frozen? ⟨p, 2, none⟩ = false ∧ w'.frozen? ⟨p, 3, none⟩ = false := ⟨h.c (q, 0, .int .i64 b0) (by simp), h.c (q, 1, .int .i64 b1) (by simp), h.c (q, 2, .int .i64 b2) (by simp), h.c (q, 3, .int .i64 b3) (by simp), h.c (p, 0, .int .i64 a0) (by simp), h.c (p, 1, .int .i64 a1) (by simp), h.c (p, 2, .int .i64 a2) (by simp), h.c (p, 3, .int .i64 a3) (by simp), h.f (q, 0) (by simp), h.f (q, 1) (by simp), h.f (q, 2) (by simp), h.f (q, 3) (by simp), h.f (p, 0) (by simp), h.f (p, 1) (by simp), h.f (p, 2) (by simp), h.f (p, 3) (by simp)⟩
theorem K_Qb.zs {b0 b1 b2 b3 a0 a1 a2 a3 : Int} {q p : Nat} {w w' : World} (h : K_Qb b0 b1 b2 b3 a0 a1 a2 a3 q p w w') : q < w'.heap.size ∧ p < w'.heap.size ∧ True := ⟨KL.z h (x := (q, 0, .int .i64 b0)) (by simp), KL.z h (x := (p, 0, .int .i64 a0)) (by simp), trivial⟩
theorem K_Qb.ks {b0 b1 b2 b3 a0 a1 a2 a3 : Int} {q p : Nat} {w w' : World} (h : K_Qb b0 b1 b2 b3 a0 a1 a2 a3 q p w w') : (w'.cell? ⟨q, 0, none⟩ = some (.int .i64 b0) ∧ w'.cell? ⟨q, 1, none⟩ = some (.int .i64 b1) ∧ w'.cell? ⟨q, 2, none⟩ = some (.int .i64 b2) ∧ w'.cell? ⟨q, 3, none⟩ = some (.int .i64 b3) ∧ w'.cell? ⟨p, 0, none⟩ = some (.int .i64 a0) ∧ w'.cell? ⟨p, 1, none⟩ = some (.int .i64 a1) ∧ w'.cell? ⟨p, 2, none⟩ = some (.int .i64 a2) ∧ w'.cell? ⟨p, 3, none⟩ = some (.int .i64 a3) ∧ w'.frozen? ⟨q, 0, none⟩ = false ∧ w'.frozen? ⟨q, 1, none⟩ = false ∧ w'.frozen? ⟨q, 2, none⟩ = false ∧ w'.frozen? ⟨q, 3, none⟩ = false ∧ w'.frozen? ⟨p, 0, none⟩ = false ∧ w'.frozen? ⟨p, 1, none⟩ = false ∧ w'.frozen? ⟨p, 2, none⟩ = false ∧ w'.frozen? ⟨p, 3, none⟩ = false) ∧ K_Qb b0 b1 b2 b3 a0 a1 a2 a3 q p w w' := ⟨h.cells, h⟩
/-- what a walk keeps: cells, and that nothing that was there has turned -/
def K_Dv (x0 x1 x2 x3 y0 y1 y2 y3 : Int) (p q R S : Nat) (w w' : World) : Prop := KL w [(p, 0, .int .i64 x0), (p, 1, .int .i64 x1), (p, 2, .int .i64 x2), (p, 3, .int .i64 x3), (q, 0, .int .i64 y0), (q, 1, .int .i64 y1), (q, 2, .int .i64 y2), (q, 3, .int .i64 y3)] [(R, 0), (R, 1), (R, 2), (R, 3), (S, 0), (S, 1), (S, 2), (S, 3)] w'
theorem K_Dv.below {x0 x1 x2 x3 y0 y1 y2 y3 : Int} {p q R S : Nat} {w w1 w2 : World} (hb : Below w1.heap.size w1 w2) (h : K_Dv x0 x1 x2 x3 y0 y1 y2 y3 p q R S w w1) : K_Dv x0 x1 x2 x3 y0 y1 y2 y3 p q R S w w2 := KL.below hb h
theorem K_Dv.draws {x0 x1 x2 x3 y0 y1 y2 y3 : Int} {p q R S : Nat} {w w1 : World} (n : Nat) (h : K_Dv x0 x1 x2 x3 y0 y1 y2 y3 p q R S w w1) : K_Dv x0 x1 x2 x3 y0 y1 y2 y3 p q R S w (w1.drewN n) := KL.draws n h
theorem K_Dv.drew {x0 x1 x2 x3 y0 y1 y2 y3 : Int} {p q R S : Nat} {w w1 : World} (h : K_Dv x0 x1 x2 x3 y0 y1 y2 y3 p q R S w w1) : K_Dv x0 x1 x2 x3 y0 y1 y2 y3 p q R S w w1.drew := KL.draws 1 h
theorem K_Dv.alloc {x0 x1 x2 x3 y0 y1 y2 y3 : Int} {p q R S : Nat} {w w1 : World} (o : Obj) (h : K_Dv x0 x1 x2 x3 y0 y1 y2 y3 p q R S w w1) : K_Dv x0 x1 x2 x3 y0 y1 y2 y3 p q R S w (w1.alloc o) := KL.alloc o h
theorem K_Dv.set {x0 x1 x2 x3 y0 y1 y2 y3 : Int} {p q R S : Nat} {w w1 : World} (h : K_Dv x0 x1 x2 x3 y0 y1 y2 y3 p q R S w w1) (b i : Nat) (v : Value) (hb : b ≠ p ∧ b ≠ q ∧ w.heap.size ≤ b) : K_Dv x0 x1 x2 x3 y0 y1 y2 y3 p q R S w (w1.setCell ⟨b, i, none⟩ v) :=
  KL.set h b i v (by intro x hx; simp only [List.mem_cons, List.not_mem_nil, or_false] at hx; rcases hx with rfl | rfl | rfl | rfl | rfl | rfl | rfl | rfl <;> simp only [] <;> omega) (by omega)
theorem K_Dv.bel {x0 x1 x2 x3 y0 y1 y2 y3 : Int} {p q R S : Nat} {w w1 : World} (h : K_Dv x0 x1 x2 x3 y0 y1 y2 y3 p q R S w w1) : Below w.heap.size w w1 := KL.bel h
theorem K_Dv.cells {x0 x1 x2 x3 y0 y1 y2 y3 : Int} {p q R S : Nat} {w w' : World} (h : K_Dv x0 x1 x2 x3 y0 y1 y2 y3 p q R S w w') : w'.cell? ⟨p, 0, none⟩ = some (.int .i64 x0) ∧ w'.cell? ⟨p, 1, none⟩ = some (.int .i64 x1) ∧ w'.cell? ⟨p, 2, none⟩ = some (.int .i64 x2) ∧ w'.cell? ⟨p, 3, none⟩ = some (.int .i64 x3) ∧ w'.cell? ⟨q, 0, none⟩ = some (.int .i64 y0) ∧ w'.cell? ⟨q, 1, none⟩ = some (.int .i64 y1) ∧ w'.cell? ⟨q, 2, none⟩ = some (.int .i64 y2) ∧ w'.cell? ⟨q, 3, none⟩ = some (.int .i64 y3) ∧ w'.cell? ⟨R, 0, none⟩ = some (cv w' R 0) ∧ w'.frozen? ⟨R, 0, none⟩ = false ∧ w'.cell? ⟨R, 1, none⟩ = some (cv w' R 1) ∧ w'.frozen? ⟨R, 1, none⟩ = false ∧ w'.cell? ⟨R, 2, none⟩ = some (cv w' R 2) ∧ w'.frozen? ⟨R, 2, none⟩ = false ∧ w'.cell? ⟨R, 3, none⟩ = some (cv w' R 3) ∧ w'.frozen? ⟨R, 3, none⟩ = false ∧ w'.cell? ⟨S, 0, none⟩ = some (cv w' S 0) ∧ w'.frozen? ⟨S, 0, none⟩ = false ∧ w'.cell? ⟨S, 1, none⟩ = some (cv w' S 1) ∧ w'.frozen? ⟨S, 1, none⟩ = false ∧ w'.cell? ⟨S, 2, none⟩ = some (cv w' S 2) ∧ w'.frozen? ⟨S, 2, none⟩ = false ∧ w'.cell? ⟨S, 3, none⟩ = some (cv w' S 3) ∧ w'.frozen? ⟨S, 3, none⟩ = false := ⟨h.c (p, 0, .int .i64 x0) (by simp), h.c (p, 1, .int .i64 x1) (by simp), h.c (p, 2, .int .i64 x2) (by simp), h.c (p, 3, .int .i64 x3) (by simp), h.c (q, 0, .int .i64 y0) (by simp), h.c (q, 1, .int .i64 y1) (by simp), h.c (q, 2, .int .i64 y2) (by simp), h.c (q, 3, .int .i64 y3) (by simp), h.d (R, 0) (by simp), h.f (R, 0) (by simp), h.d (R, 1) (by simp), h.f (R, 1) (by simp), h.d (R, 2) (by simp), h.f (R, 2) (by simp), h.d (R, 3) (by simp), h.f (R, 3) (by simp), h.d (S, 0) (by simp), h.f (S, 0) (by simp), h.d (S, 1) (by simp), h.f (S, 1) (by simp), h.d (S, 2) (by simp), h.f (S, 2) (by simp), h.d (S, 3) (by simp), h.f (S, 3) (by simp)⟩
theorem K_Dv.zs {x0 x1 x2 x3 y0 y1 y2 y3 : Int} {p q R S : Nat} {w w' : World} (h : K_Dv x0 x1 x2 x3 y0 y1 y2 y3 p q R S w w') : p < w'.heap.size ∧ q < w'.heap.size ∧ R < w'.heap.size ∧ S < w'.heap.size ∧ True := ⟨KL.z h (x := (p, 0, .int .i64 x0)) (by simp), KL.z h (x := (q, 0, .int .i64 y0)) (by simp), KL.zf h (x := (R, 0)) (by simp), KL.zf h (x := (S, 0)) (by simp), trivial⟩
theorem K_Dv.ks {x0 x1 x2 x3 y0 y1 y2 y3 : Int} {p q R S : Nat} {w w' : World} (h : K_Dv x0 x1 x2 x3 y0 y1 y2 y3 p q R S w w') : (w'.cell? ⟨p, 0, none⟩ = some (.int .i64 x0) ∧ w'.cell? ⟨p, 1, none⟩ = some (.int .i64 x1) ∧ w'.cell? ⟨p, 2, none⟩ = some (.int .i64 x2) ∧ w'.cell? ⟨p, 3, none⟩ = some (.int .i64 x3) ∧ w'.cell? ⟨q, 0, none⟩ = some (.int .i64 y0) ∧ w'.cell? ⟨q, 1, none⟩ = some (.int .i64 y1) ∧ w'.cell? ⟨q, 2, none⟩ = some (.int .i64 y2) ∧ w'.cell? ⟨q, 3, none⟩ = some (.int .i64 y3) ∧ w'.cell? ⟨R, 0, none⟩ = some (cv w' R 0) ∧ w'.frozen? ⟨R, 0, none⟩ = false ∧ w'.cell? ⟨R, 1, none⟩ = some (cv w' R 1) ∧ w'.frozen? ⟨R, 1, none⟩ = false ∧ w'.cell? ⟨R, 2, none⟩ = some (cv w' R 2) ∧ w'.frozen? ⟨R, 2, none⟩ = false ∧ w'.cell? ⟨R, 3, none⟩ = some (cv w' R 3) ∧ w'.frozen? ⟨R, 3, none⟩ = false ∧ w'.cell? ⟨S, 0, none⟩ = some (cv w' S 0) ∧ w'.frozen? ⟨S, 0, none⟩ = false ∧ w'.cell? ⟨S, 1, none⟩ = some (cv w' S 1) ∧ w'.frozen? ⟨S, 1, none⟩ = false ∧ w'.cell? ⟨S, 2, none⟩ = some (cv w' S 2) ∧ w'.frozen? ⟨S, 2, none⟩ = false ∧ w'.cell? ⟨S, 3, none⟩ = some (cv w' S 3) ∧ w'.frozen? ⟨S, 3, none⟩ = false) ∧ K_Dv x0 x1 x2 x3 y0 y1 y2 y3 p q R S w w' := ⟨h.cells, h⟩
/-- what a walk keeps: cells, and that nothing that was there has turned -/
def K_Dp (x0 x1 x2 x3 y0 y1 y2 y3 : Int) (s p q R S : Nat) (w w' : World) : Prop := KL w [(s, 0, .int .i64 0), (s, 1, .int .i64 0), (s, 2, .int .i64 0), (s, 3, .int .i64 0), (p, 0, .int .i64 x0), (p, 1, .int .i64 x1), (p, 2, .int .i64 x2), (p, 3, .int .i64 x3), (q, 0, .int .i64 y0), (q, 1, .int .i64 y1), (q, 2, .int .i64 y2), (q, 3, .int .i64 y3)] [(s, 0), (s, 1), (s, 2), (s, 3), (R, 0), (R, 1), (R, 2), (R, 3), (S, 0), (S, 1), (S, 2), (S, 3)] w'
theorem K_Dp.below {x0 x1 x2 x3 y0 y1 y2 y3 : Int} {s p q R S : Nat} {w w1 w2 : World} (hb : Below w1.heap.size w1 w2) (h : K_Dp x0 x1 x2 x3 y0 y1 y2 y3 s p q R S w w1) : K_Dp x0 x1 x2 x3 y0 y1 y2 y3 s p q R S w w2 := KL.below hb h
theorem K_Dp.draws {x0 x1 x2 x3 y0 y1 y2 y3 : Int} {s p q R S : Nat} {w w1 : World} (n : Nat) (h : K_Dp x0 x1 x2 x3 y0 y1 y2 y3 s p q R S w w1) : K_Dp x0 x1 x2 x3 y0 y1 y2 y3 s p q R S w (w1.drewN n) := KL.draws n h
theorem K_Dp.drew {x0 x1 x2 x3 y0 y1 y2 y3 : Int} {s p q R S : Nat} {w w1 : World} (h : K_Dp x0 x1 x2 x3 y0 y1 y2 y3 s p q R S w w1) : K_Dp x0 x1 x2 x3 y0 y1 y2 y3 s p q R S w w1.drew := KL.draws 1 h
theorem K_Dp.alloc {x0 x1 x2 x3 y0 y1 y2 y3 : Int} {s p q R S : Nat} {w w1 : World} (o : Obj) (h : K_Dp x0 x1 x2 x3 y0 y1 y2 y3 s p q R S w w1) : K_Dp x0 x1 x2 x3 y0 y1 y2 y3 s p q R S w (w1.alloc o) := KL.alloc o h
theorem K_Dp.set {x0 x1 x2 x3 y0 y1 y2 y3 : Int} {s p q R S : Nat} {w w1 : World} (h : K_Dp x0 x1 x2 x3 y0 y1 y2 y3 s p q R S w w1) (b i : Nat) (v : Value) (hb : b ≠ s ∧ b ≠ p ∧ b ≠ q ∧ w.heap.size ≤ b) : K_Dp x0 x1 x2 x3 y0 y1 y2 y3 s p q R S w (w1.setCell ⟨b, i, none⟩ v) :=
  KL.set h b i v (by intro x hx; simp only [List.mem_cons, List.not_mem_nil, or_false] at hx; rcases hx with rfl | rfl | rfl | rfl | rfl | rfl | rfl | rfl | rfl | rfl | rfl | rfl <;> simp only [] <;> omega) (by omega)
theorem K_Dp.bel {x0 x1 x2 x3 y0 y1 y2 y3 : Int} {s p q R S : Nat} {w w1 : World} (h : K_Dp x0 x1 x2 x3 y0 y1 y2 y3 s p q R S w w1) : Below w.heap.size w w1 := KL.bel h
theorem K_Dp.cells {x0 x1 x2 x3 y0 y1 y2 y3 : Int} {s p q R S : Nat} {w w' : World} (h : K_Dp x0 x1 x2 x3 y0 y1 y2 y3 s p q R S w w') : w'.cell? ⟨s, 0, none⟩ = some (.int .i64 0) ∧ w'.cell? ⟨s, 1, none⟩ = some (.int .i64 0) ∧ w'.cell? ⟨s, 2, none⟩ = some (.int .i64 0) ∧ w'.cell? ⟨s, 3, none⟩ = some (.int .i64 0) ∧ w'.cell? ⟨p, 0, none⟩ = some (.int .i64 x0) ∧ w'.cell? ⟨p, 1, none⟩ = some (.int .i64 x1) ∧ w'.cell? ⟨p, 2, none⟩ = some (.int .i64 x2) ∧ w'.cell? ⟨p, 3, none⟩ = some (.int .i64 x3) ∧ w'.cell? ⟨q, 0, none⟩ = some (.int .i64 y0) ∧ w'.cell? ⟨q, 1, none⟩ = some (.int .i64 y1) ∧ w'.cell? ⟨q, 2, none⟩ = some (.int .i64 y2) ∧ w'.cell? ⟨q, 3, none⟩ = some (.int .i64 y3) ∧ w'.frozen? ⟨s, 0, none⟩ = false ∧ w'.frozen? ⟨s, 1, none⟩ = false ∧ w'.frozen? ⟨s, 2, none⟩ = false ∧ w'.frozen? ⟨s, 3, none⟩ = false ∧ w'.cell? ⟨R, 0, none⟩ = some (cv w' R 0) ∧ w'.frozen? ⟨R, 0, none⟩ = false ∧ w'.cell? ⟨R, 1, none⟩ = some (cv w' R 1) ∧ w'.frozen? ⟨R, 1, none⟩ = false ∧ w'.cell? ⟨R, 2, none⟩ = some (cv w' R 2) ∧ w'.frozen? ⟨R, 2, none⟩ = false ∧ w'.cell? ⟨R, 3, none⟩ = some (cv w' R 3) ∧ w'.frozen? ⟨R, 3, none⟩ = false ∧ w'.cell? ⟨S, 0, none⟩ = some (cv w' S 0) ∧ w'.frozen? ⟨S, 0, none⟩ = false ∧ w'.cell? ⟨S, 1, none⟩ = some (cv w' S 1) ∧ w'.frozen? ⟨S, 1, none⟩ = false ∧ w'.cell? ⟨S, 2, none⟩ = some (cv w' S 2) ∧ w'.frozen? ⟨S, 2, none⟩ = false ∧ w'.cell? ⟨S, 3, none⟩ = some (cv w' S 3) ∧ w'.frozen? ⟨S, 3, none⟩ = false := ⟨h.c (s, 0, .int .i64 0) (by simp), h.c (s, 1, .int .i64 0) (by simp), h.c (s, 2, .int .i64 0) (by simp), h.c (s, 3, .int .i64 0) (by simp), h.c (p, 0, .int .i64 x0) (by simp), h.c (p, 1, .int .i64 x1) (by simp), h.c (p, 2, .int .i64 x2) (by simp), h.c (p, 3, .int .i64 x3) (by simp), h.c (q, 0, .int .i64 y0) (by simp), h.c (q, 1, .int .i64 y1) (by simp), h.c (q, 2, .int .i64 y2) (by simp), h.c (q, 3, .int .i64 y3) (by simp), h.f (s, 0) (by simp), h.f (s, 1) (by simp), h.f (s, 2) (by simp), h.f (s, 3) (by simp), h.d (R, 0) (by simp), h.f (R, 0) (by simp), h.d (R, 1) (by simp), h.f (R, 1) (by simp), h.d (R, 2) (by simp), h.f (R, 2) (by simp), h.d (R, 3) (by simp), h.f (R, 3) (by simp), h.d (S, 0) (by simp), h.f (S, 0) (by simp), h.d (S, 1) (by simp), h.f (S, 1) (by simp), h.d (S, 2) (by simp), h.f (S, 2) (by simp), h.d (S, 3) (by simp), h.f (S, 3) (by simp)⟩
theorem K_Dp.zs {x0 x1 x2 x3 y0 y1 y2 y3 : Int} {s p q R S : Nat} {w w' : World} (h : K_Dp x0 x1 x2 x3 y0 y1 y2 y3 s p q R S w w') : s < w'.heap.size ∧ p < w'.heap.size ∧ q < w'.heap.size ∧ R < w'.heap.size ∧ S < w'.heap.size ∧ True := ⟨KL.z h (x := (s, 0, .int .i64 0)) (by simp), KL.z h (x := (p, 0, .int .i64 x0)) (by simp), KL.z h (x := (q, 0, .int .i64 y0)) (by simp), KL.zf h (x := (R, 0)) (by simp), KL.zf h (x := (S, 0)) (by simp), trivial⟩
theorem K_Dp.ks {x0 x1 x2 x3 y0 y1 y2 y3 : Int} {s p q R S : Nat} {w w' : World} (h : K_Dp x0 x1 x2 x3 y0 y1 y2 y3 s p q R S w w') : (w'.cell? ⟨s, 0, none⟩ = some (.int .i64 0) ∧ w'.cell? ⟨s, 1, none⟩ = some (.int .i64 0) ∧ w'.cell? ⟨s, 2, none⟩ = some (.int .i64 0) ∧ w'.cell? ⟨s, 3, none⟩ = some (.int .i64 0) ∧ w'.cell? ⟨p, 0, none⟩ = some (.int .i64 x0) ∧ w'.cell? ⟨p, 1, none⟩ = some (.int .i64 x1) ∧ w'.cell? ⟨p, 2, none⟩ = some (.int .i64 x2) ∧ w'.cell? ⟨p, 3, none⟩ = some (.int .i64 x3) ∧ w'.cell? ⟨q, 0, none⟩ = some (.int .i64 y0) ∧ w'.cell? ⟨q, 1, none⟩ = some (.int .i64 y1) ∧ w'.cell? ⟨q, 2, none⟩ = some (.int .i64 y2) ∧ w'.cell? ⟨q, 3, none⟩ = some (.int .i64 y3) ∧ w'.frozen? ⟨s, 0, none⟩ = false ∧ w'.frozen? ⟨s, 1, none⟩ = false ∧ w'.frozen? ⟨s, 2, none⟩ = false ∧ w'.frozen? ⟨s, 3, none⟩ = false ∧ w'.cell? ⟨R, 0, none⟩ = some (cv w' R 0) ∧ w'.frozen? ⟨R, 0, none⟩ = false ∧ w'.cell? ⟨R, 1, none⟩ = some (cv w' R 1) ∧ w'.frozen? ⟨R, 1, none⟩ = false ∧ w'.cell? ⟨R, 2, none⟩ = some (cv w' R 2) ∧ w'.frozen? ⟨R, 2, none⟩ = false ∧ w'.cell? ⟨R, 3, none⟩ = some (cv w' R 3) ∧ w'.frozen? ⟨R, 3, none⟩ = false ∧ w'.cell? ⟨S, 0, none⟩ = some (cv w' S 0) ∧ w'.frozen? ⟨S, 0, none⟩ = false ∧ w'.cell? ⟨S, 1, none⟩ = some (cv w' S 1) ∧ w'.frozen? ⟨S, 1, none⟩ = false ∧ w'.cell? ⟨S, 2, none⟩ = some (cv w' S 2) ∧ w'.frozen? ⟨S, 2, none⟩ = false ∧ w'.cell? ⟨S, 3, none⟩ = some (cv w' S 3) ∧ w'.frozen? ⟨S, 3, none⟩ = false) ∧ K_Dp x0 x1 x2 x3 y0 y1 y2 y3 s p q R S w w' := ⟨h.cells, h⟩
/-- what a walk keeps: cells, and that nothing that was there has turned -/
def K_Dq (x0 x1 x2 x3 y0 y1 y2 y3 : Int) (s t p q R S : Nat) (w w' : World) : Prop := KL w [(t, 0, .int .i64 0), (t, 1, .int .i64 0), (t, 2, .int .i64 0), (t, 3, .int .i64 0), (s, 0, .int .i64 0), (s, 1, .int .i64 0), (s, 2, .int .i64 0), (s, 3, .int .i64 0), (p, 0, .int .i64 x0), (p, 1, .int .i64 x1), (p, 2, .int .i64 x2), (p, 3, .int .i64 x3), (q, 0, .int .i64 y0), (q, 1, .int .i64 y1), (q, 2, .int .i64 y2), (q, 3, .int .i64 y3)] [(t, 0), (t, 1), (t, 2), (t, 3), (s, 0), (s, 1), (s, 2), (s, 3), (R, 0), (R, 1), (R, 2), (R, 3), (S, 0), (S, 1), (S, 2), (S, 3)] w'
theorem K_Dq.below {x0 x1 x2 x3 y0 y1 y2 y3 : Int} {s t p q R S : Nat} {w w1 w2 : World} (hb : Below w1.heap.size w1 w2) (h : K_Dq x0 x1 x2 x3 y0 y1 y2 y3 s t p q R S w w1) : K_Dq x0 x1 x2 x3 y0 y1 y2 y3 s t p q R S w w2 := KL.below hb h
theorem K_Dq.draws {x0 x1 x2 x3 y0 y1 y2 y3 : Int} {s t p q R S : Nat} {w w1 : World} (n : Nat) (h : K_Dq x0 x1 x2 x3 y0 y1 y2 y3 s t p q R S w w1) : K_Dq x0 x1 x2 x3 y0 y1 y2 y3 s t p q R S w (w1.drewN n) := KL.draws n h
theorem K_Dq.drew {x0 x1 x2 x3 y0 y1 y2 y3 : Int} {s t p q R S : Nat} {w w1 : World} (h : K_Dq x0 x1 x2 x3 y0 y1 y2 y3 s t p q R S w w1) : K_Dq x0 x1 x2 x3 y0 y1 y2 y3 s t p q R S w w1.drew := KL.draws 1 h
theorem K_Dq.alloc {x0 x1 x2 x3 y0 y1 y2 y3 : Int} {s t p q R S : Nat} {w w1 : World} (o : Obj) (h : K_Dq x0 x1 x2 x3 y0 y1 y2 y3 s t p q R S w w1) : K_Dq x0 x1 x2 x3 y0 y1 y2 y3 s t p q R S w (w1.alloc o) := KL.alloc o h
theorem K_Dq.set {x0 x1 x2 x3 y0 y1 y2 y3 : Int} {s t p q R S : Nat} {w w1 : World} (h : K_Dq x0 x1 x2 x3 y0 y1 y2 y3 s t p q R S w w1) (b i : Nat) (v : Value) (hb : b ≠ t ∧ b ≠ s ∧ b ≠ p ∧ b ≠ q ∧ w.heap.size ≤ b) : K_Dq x0 x1 x2 x3 y0 y1 y2 y3 s t p q R S w (w1.setCell ⟨b, i, none⟩ v) :=
  KL.set h b i v (by intro x hx; simp only [List.mem_cons, List.not_mem_nil, or_false] at hx; rcases hx with rfl | rfl | rfl | rfl | rfl | rfl | rfl | rfl | rfl | rfl | rfl | rfl | rfl | rfl | rfl | rfl <;> simp only [] <;> omega) (by omega)
theorem K_Dq.bel {x0 x1 x2 x3 y0 y1 y2 y3 : Int} {s t p q R S : Nat} {w w1 : World} (h : K_Dq x0 x1 x2 x3 y0 y1 y2 y3 s t p q R S w w1) : Below w.heap.size w w1 := KL.bel h
theorem K_Dq.cells {x0 x1 x2 x3 y0 y1 y2 y3 : Int} {s t p q R S : Nat} {w w' : World} (h : K_Dq x0 x1 x2 x3 y0 y1 y2 y3 s t p q R S w w') : w'.cell? ⟨t, 0, none⟩ = some (.int .i64 0) ∧ w'.cell? ⟨t, 1, none⟩ = some (.int .i64 0) ∧ w'.cell? ⟨t, 2, none⟩ = some (.int .i64 0) ∧ w'.cell? ⟨t, 3, none⟩ = some (.int .i64 0) ∧ w'.cell? ⟨s, 0, none⟩ = some (.int .i64 0) ∧ w'.cell? ⟨s, 1, none⟩ = some (.int .i64 0) ∧ w'.cell? ⟨s, 2, none⟩ = some (.int .i64 0) ∧ w'.cell? ⟨s, 3, none⟩ = some (.int .i64 0) ∧ w'.cell? ⟨p, 0, none⟩ = some (.int .i64 x0) ∧ w'.cell? ⟨p, 1, none⟩ = some (.int .i64 x1) ∧ w'.cell? ⟨p, 2, none⟩ = some (.int .i64 x2) ∧ w'.cell? ⟨p, 3, none⟩ = some (.int .i64 x3) ∧ w'.cell? ⟨q, 0, none⟩ = some (.int .i64 y0) ∧ w'.cell? ⟨q, 1, none⟩ = some (.int .i64 y1) ∧ w'.cell? ⟨q, 2, none⟩ = some (.int .i64 y2) ∧ w'.cell? ⟨q, 3, none⟩ = some (.int .i64 y3) ∧ w'.frozen? ⟨t, 0, none⟩ = false ∧ w'.frozen? ⟨t, 1, none⟩ = false ∧ w'.frozen? ⟨t, 2, none⟩ = false ∧ w'.frozen? ⟨t, 3, none⟩ = false ∧ w'.frozen? ⟨s, 0, none⟩ = false ∧ w'.frozen? ⟨s, 1, none⟩ = false ∧ w'.frozen? ⟨s, 2, none⟩ = false ∧ w'.frozen? ⟨s, 3, none⟩ = false ∧ w'.cell? ⟨R, 0, none⟩ = some (cv w' R 0) ∧ w'.frozen? ⟨R, 0, none⟩ = false ∧ w'.cell? ⟨R, 1, none⟩ = some (cv w' R 1) ∧ w'.frozen? ⟨R, 1, none⟩ = false ∧ w'.cell? ⟨R, 2, none⟩ = some (cv w' R 2) ∧ w'.frozen? ⟨R, 2, none⟩ = false ∧ w'.cell? ⟨R, 3, none⟩ = some (cv w' R 3) ∧ w'.frozen? ⟨R, 3, none⟩ = false ∧ w'.cell? ⟨S, 0, none⟩ = some (cv w' S 0) ∧ w'.frozen? ⟨S, 0, none⟩ = false ∧ w'.cell? ⟨S, 1, none⟩ = some (cv w' S 1) ∧ w'.frozen? ⟨S, 1, none⟩ = false ∧ w'.cell? ⟨S, 2, none⟩ = some (cv w' S 2) ∧ w'.frozen? ⟨S, 2, none⟩ = false ∧ w'.cell? ⟨S, 3, none⟩ = some (cv w' S 3) ∧ w'.frozen? ⟨S, 3, none⟩ = false := ⟨h.c (t, 0, .int .i64 0) (by simp), h.c (t, 1, .int .i64 0) (by simp), h.c (t, 2, .int .i64 0) (by simp), h.c (t, 3, .int .i64 0) (by simp), h.c (s, 0, .int .i64 0) (by simp), h.c (s, 1, .int .i64 0) (by simp), h.c (s, 2, .int .i64 0) (by simp), h.c (s, 3, .int .i64 0) (by simp), h.c (p, 0, .int .i64 x0) (by simp), h.c (p, 1, .int .i64 x1) (by simp), h.c (p, 2, .int .i64 x2) (by simp), h.c (p, 3, .int .i64 x3) (by simp), h.c (q, 0, .int .i64 y0) (by simp), h.c (q, 1, .int .i64 y1) (by simp), h.c (q, 2, .int .i64 y2) (by simp), h.c (q, 3, .int .i64 y3) (by simp), h.f (t, 0) (by simp), h.f (t, 1) (by simp), h.f (t, 2) (by simp), h.f (t, 3) (by simp), h.f (s, 0) (by simp), h.f (s, 1) (by simp), h.f (s, 2) (by simp), h.f (s, 3) (by simp), h.d (R, 0) (by simp), h.f (R, 0) (by simp), h.d (R, 1) (by simp), h.f (R, 1) (by simp), h.d (R, 2) (by simp), h.f (R, 2) (by simp), h.d (R, 3) (by simp), h.f (R, 3) (by simp), h.d (S, 0) (by simp), h.f (S, 0) (by simp), h.d (S, 1) (by simp), h.f (S, 1) (by simp), h.d (S, 2) (by simp), h.f (S, 2) (by simp), h.d (S, 3) (by simp), h.f (S, 3) (by simp)⟩
theorem K_Dq.zs {x0 x1 x2 x3 y0 y1 y2 y3 : Int} {s t p q R S : Nat} {w w' : World} (h : K_Dq x0 x1 x2 x3 y0 y1 y2 y3 s t p q R S w w') : t < w'.heap.size ∧ s < w'.heap.size ∧ p < w'.heap.size ∧ q < w'.heap.size ∧ R < w'.heap.size ∧ S < w'.heap.size ∧ True := ⟨KL.z h (x := (t, 0, .int .i64 0)) (by simp), KL.z h (x := (s, 0, .int .i64 0)) (by simp), KL.z h (x := (p, 0, .int .i64 x0)) (by simp), KL.z h (x := (q, 0, .int .i64 y0)) (by simp), KL.zf h (x := (R, 0)) (by simp), KL.zf h (x := (S, 0)) (by simp), trivial⟩
theorem K_Dq.ks {x0 x1 x2 x3 y0 y1 y2 y3 : Int} {s t p q R S : Nat} {w w' : World} (h : K_Dq x0 x1 x2 x3 y0 y1 y2 y3 s t p q R S w w') : (w'.cell? ⟨t, 0, none⟩ = some (.int .i64 0) ∧ w'.cell? ⟨t, 1, none⟩ = some (.int .i64 0) ∧ w'.cell? ⟨t, 2, none⟩ = some (.int .i64 0) ∧ w'.cell? ⟨t, 3, none⟩ = some (.int .i64 0) ∧ w'.cell? ⟨s, 0, none⟩ = some (.int .i64 0) ∧ w'.cell? ⟨s, 1, none⟩ = some (.int .i64 0) ∧ w'.cell? ⟨s, 2, none⟩ = some (.int .i64 0) ∧ w'.cell? ⟨s, 3, none⟩ = some (.int .i64 0) ∧ w'.cell? ⟨p, 0, none⟩ = some (.int .i64 x0) ∧ w'.cell? ⟨p, 1, none⟩ = some (.int .i64 x1) ∧ w'.cell? ⟨p, 2, none⟩ = some (.int .i64 x2) ∧ w'.cell? ⟨p, 3, none⟩ = some (.int .i64 x3) ∧ w'.cell? ⟨q, 0, none⟩ = some (.int .i64 y0) ∧ w'.cell? ⟨q, 1, none⟩ = some (.int .i64 y1) ∧ w'.cell? ⟨q, 2, none⟩ = some (.int .i64 y2) ∧ w'.cell? ⟨q, 3, none⟩ = some (.int .i64 y3) ∧ w'.frozen? ⟨t, 0, none⟩ = false ∧ w'.frozen? ⟨t, 1, none⟩ = false ∧ w'.frozen? ⟨t, 2, none⟩ = false ∧ w'.frozen? ⟨t, 3, none⟩ = false ∧ w'.frozen? ⟨s, 0, none⟩ = false ∧ w'.frozen? ⟨s, 1, none⟩ = false ∧ w'.frozen? ⟨s, 2, none⟩ = false ∧ w'.frozen? ⟨s, 3, none⟩ = false ∧ w'.cell? ⟨R, 0, none⟩ = some (cv w' R 0) ∧ w'.frozen? ⟨R, 0, none⟩ = false ∧ w'.cell? ⟨R, 1, none⟩ = some (cv w' R 1) ∧ w'.frozen? ⟨R, 1, none⟩ = false ∧ w'.cell? ⟨R, 2, none⟩ = some (cv w' R 2) ∧ w'.frozen? ⟨R, 2, none⟩ = false ∧ w'.cell? ⟨R, 3, none⟩ = some (cv w' R 3) ∧ w'.frozen? ⟨R, 3, none⟩ = false ∧ w'.cell? ⟨S, 0, none⟩ = some (cv w' S 0) ∧ w'.frozen? ⟨S, 0, none⟩ = false ∧ w'.cell? ⟨S, 1, none⟩ = some (cv w' S 1) ∧ w'.frozen? ⟨S, 1, none⟩ = false ∧ w'.cell? ⟨S, 2, none⟩ = some (cv w' S 2) ∧ w'.frozen? ⟨S, 2, none⟩ = false ∧ w'.cell? ⟨S, 3, none⟩ = some (cv w' S 3) ∧ w'.frozen? ⟨S, 3, none⟩ = false) ∧ K_Dq x0 x1 x2 x3 y0 y1 y2 y3 s t p q R S w w' := ⟨h.cells, h⟩
/-- what a walk keeps: cells, and that nothing that was there has turned -/
def K_Dz (x0 x1 x2 x3 y0 y1 y2 y3 : Int) (s t p q R S : Nat) (w w' : World) : Prop := KL w [(p, 0, .int .i64 x0), (p, 1, .int .i64 x1), (p, 2, .int .i64 x2), (p, 3, .int .i64 x3), (q, 0, .int .i64 y0), (q, 1, .int .i64 y1), (q, 2, .int .i64 y2), (q, 3, .int .i64 y3)] [(t, 0), (t, 1), (t, 2), (t, 3), (s, 0), (s, 1), (s, 2), (s, 3), (R, 0), (R, 1), (R, 2), (R, 3), (S, 0), (S, 1), (S, 2), (S, 3)] w'
theorem K_Dz.below {x0 x1 x2 x3 y0 y1 y2 y3 : Int} {s t p q R S : Nat} {w w1 w2 : World} (hb : Below w1.heap.size w1 w2) (h : K_Dz x0 x1 x2 x3 y0 y1 y2 y3 s t p q R S w w1) : K_Dz x0 x1 x2 x3 y0 y1 y2 y3 s t p q R S w w2 := KL.below hb h
theorem K_Dz.draws {x0 x1 x2 x3 y0 y1 y2 y3 : Int} {s t p q R S : Nat} {w w1 : World} (n : Nat) (h : K_Dz x0 x1 x2 x3 y0 y1 y2 y3 s t p q R S w w1) : K_Dz x0 x1 x2 x3 y0 y1 y2 y3 s t p q R S w (w1.drewN n) := KL.draws n h
theorem K_Dz.drew {x0 x1 x2 x3 y0 y1 y2 y3 : Int} {s t p q R S : Nat} {w w1 : World} (h : K_Dz x0 x1 x2 x3 y0 y1 y2 y3 s t p q R S w w1) : K_Dz x0 x1 x2 x3 y0 y1 y2 y3 s t p q R S w w1.drew := KL.draws 1 h
theorem K_Dz.alloc {x0 x1 x2 x3 y0 y1 y2 y3 : Int} {s t p q R S : Nat} {w w1 : World} (o : Obj) (h : K_Dz x0 x1 x2 x3 y0 y1 y2 y3 s t p q R S w w1) : K_Dz x0 x1 x2 x3 y0 y1 y2 y3 s t p q R S w (w1.alloc o) := KL.alloc o h
theorem K_Dz.set {x0 x1 x2 x3 y0 y1 y2 y3 : Int} {s t p q R S : Nat} {w w1 : World} (h : K_Dz x0 x1 x2 x3 y0 y1 y2 y3 s t p q R S w w1) (b i : Nat) (v : Value) (hb : b ≠ p ∧ b ≠ q ∧ w.heap.size ≤ b) : K_Dz x0 x1 x2 x3 y0 y1 y2 y3 s t p q R S w (w1.setCell ⟨b, i, none⟩ v) :=
  KL.set h b i v (by intro x hx; simp only [List.mem_cons, List.not_mem_nil, or_false] at hx; rcases hx with rfl | rfl | rfl | rfl | rfl | rfl | rfl | rfl <;> simp only [] <;> omega) (by omega)
theorem K_Dz.bel {x0 x1 x2 x3 y0 y1 y2 y3 : Int} {s t p q R S : Nat} {w w1 : World} (h : K_Dz x0 x1 x2 x3 y0 y1 y2 y3 s t p q R S w w1) : Below w.heap.size w w1 := KL.bel h
theorem K_Dz.cells {x0 x1 x2 x3 y0 y1 y2 y3 : Int} {s t p q R S : Nat} {w w' : World} (h : K_Dz x0 x1 x2 x3 y0 y1 y2 y3 s t p q R S w w') : w'.cell? ⟨p, 0, none⟩ = some (.int .i64 x0) ∧ w'.cell? ⟨p, 1, none⟩ = some (.int .i64 x1) ∧ w'.cell? ⟨p, 2, none⟩ = some (.int .i64 x2) ∧ w'.cell? ⟨p, 3, none⟩ = some (.int .i64 x3) ∧ w'.cell? ⟨q, 0, none⟩ = some (.int .i64 y0) ∧ w'.cell? ⟨q, 1, none⟩ = some (.int .i64 y1) ∧ w'.cell? ⟨q, 2, none⟩ = some (.int .i64 y2) ∧ w'.cell? ⟨q, 3, none⟩ = some (.int .i64 y3) ∧ w'.cell? ⟨t, 0, none⟩ = some (cv w' t 0) ∧ w'.frozen? ⟨t, 0, none⟩ = false ∧ w'.cell? ⟨t, 1, none⟩ = some (cv w' t 1) ∧ w'.frozen? ⟨t, 1, none⟩ = false ∧ w'.cell? ⟨t, 2, none⟩ = some (cv w' t 2) ∧ w'.frozen? ⟨t, 2, none⟩ = false ∧ w'.cell? ⟨t, 3, none⟩ = some (cv w' t 3) ∧ w'.frozen? ⟨t, 3, none⟩ = false ∧ w'.cell? ⟨s, 0, none⟩ = some (cv w' s 0) ∧ w'.frozen? ⟨s, 0, none⟩ = false ∧ w'.cell? ⟨s, 1, none⟩ = some (cv w' s 1) ∧ w'.frozen? ⟨s, 1, none⟩ = false ∧ w'.cell? ⟨s, 2, none⟩ = some (cv w' s 2) ∧ w'.frozen? ⟨s, 2, none⟩ = false ∧ w'.cell? ⟨s, 3, none⟩ = some (cv w' s 3) ∧ w'.frozen? ⟨s, 3, none⟩ = false ∧ w'.cell? ⟨R, 0, none⟩ = some (cv w' R 0) ∧ w'.frozen? ⟨R, 0, none⟩ = false ∧ w'.cell? ⟨R, 1, none⟩ = some (cv w' R 1) ∧ w'.frozen? ⟨R, 1, none⟩ = false ∧ w'.cell? ⟨R, 2, none⟩ = some (cv w' R 2) ∧ w'.frozen? ⟨R, 2, none⟩ = false ∧ w'.cell? ⟨R, 3, none⟩ = some (cv w' R 3) ∧ w'.frozen? ⟨R, 3, none⟩ = false ∧ w'.cell? ⟨S, 0, none⟩ = some (cv w' S 0) ∧ w'.frozen? ⟨S, 0, none⟩ = false ∧ w'.cell? ⟨S, 1, none⟩ = some (cv w' S 1) ∧ w'.frozen? ⟨S, 1, none⟩ = false ∧ w'.cell? ⟨S, 2, none⟩ = some (cv w' S 2) ∧ w'.frozen? ⟨S, 2, none⟩ = false ∧ w'.cell? ⟨S, 3, none⟩ = some (cv w' S 3) ∧ w'.frozen? ⟨S, 3, none⟩ = false := ⟨h.c (p, 0, .int .i64 x0) (by simp), h.c (p, 1, .int .i64 x1) (by simp), h.c (p, 2, .int .i64 x2) (by simp), h.c (p, 3, .int .i64 x3) (by simp), h.c (q, 0, .int .i64 y0) (by simp), h.c (q, 1, .int .i64 y1) (by simp), h.c (q, 2, .int .i64 y2) (by simp), h.c (q, 3, .int .i64 y3) (by simp), h.d (t, 0) (by simp), h.f (t, 0) (by simp), h.d (t, 1) (by simp), h.f (t, 1) (by simp), h.d (t, 2) (by simp), h.f (t, 2) (by simp), h.d (t, 3) (by simp), h.f (t, 3) (by simp), h.d (s, 0) (by simp), h.f (s, 0) (by simp), h.d (s, 1) (by simp), h.f (s, 1) (by simp), h.d (s, 2) (by simp), h.f (s, 2) (by simp), h.d (s, 3) (by simp), h.f (s, 3) (by simp), h.d (R, 0) (by simp), h.f (R, 0) (by simp), h.d (R, 1) (by simp), h.f (R, 1) (by simp), h.d (R, 2) (by simp), h.f (R, 2) (by simp), h.d (R, 3) (by simp), h.f (R, 3) (by simp), h.d (S, 0) (by simp), h.f (S, 0) (by simp), h.d (S, 1) (by simp), h.f (S, 1) (by simp), h.d (S, 2) (by simp), h.f (S, 2) (by simp), h.d (S, 3) (by simp), h.f (S, 3) (by simp)⟩
theorem K_Dz.zs {x0 x1 x2 x3 y0 y1 y2 y3 : Int} {s t p q R S : Nat} {w w' : World} (h : K_Dz x0 x1 x2 x3 y0 y1 y2 y3 s t p q R S w w') : p < w'.heap.size ∧ q < w'.heap.size ∧ t < w'.heap.size ∧ s < w'.heap.size ∧ R < w'.heap.size ∧ S < w'.heap.size ∧ True := ⟨KL.z h (x := (p, 0, .int .i64 x0)) (by simp), KL.z h (x := (q, 0, .int .i64 y0)) (by simp), KL.zf h (x := (t, 0)) (by simp), KL.zf h (x := (s, 0)) (by simp), KL.zf h (x := (R, 0)) (by simp), KL.zf h (x := (S, 0)) (by simp), trivial⟩
theorem K_Dz.ks {x0 x1 x2 x3 y0 y1 y2 y3 : Int} {s t p q R S : Nat} {w w' : World} (h : K_Dz x0 x1 x2 x3 y0 y1 y2 y3 s t p q R S w w') : (w'.cell? ⟨p, 0, none⟩ = some (.int .i64 x0) ∧ w'.cell? ⟨p, 1, none⟩ = some (.int .i64 x1) ∧ w'.cell? ⟨p, 2, none⟩ = some (.int .i64 x2) ∧ w'.cell? ⟨p, 3, none⟩ = some (.int .i64 x3) ∧ w'.cell? ⟨q, 0, none⟩ = some (.int .i64 y0) ∧ w'.cell? ⟨q, 1, none⟩ = some (.int .i64 y1) ∧ w'.cell? ⟨q, 2, none⟩ = some (.int .i64 y2) ∧ w'.cell? ⟨q, 3, none⟩ = some (.int .i64 y3) ∧ w'.cell? ⟨t, 0, none⟩ = some (cv w' t 0) ∧ w'.frozen? ⟨t, 0, none⟩ = false ∧ w'.cell? ⟨t, 1, none⟩ = some (cv w' t 1) ∧ w'.frozen? ⟨t, 1, none⟩ = false ∧ w'.cell? ⟨t, 2, none⟩ = some (cv w' t 2) ∧ w'.frozen? ⟨t, 2, none⟩ = false ∧ w'.cell? ⟨t, 3, none⟩ = some (cv w' t 3) ∧ w'.frozen? ⟨t, 3, none⟩ = false ∧ w'.cell? ⟨s, 0, none⟩ = some (cv w' s 0) ∧ w'.frozen? ⟨s, 0, none⟩ = false ∧ w'.cell? ⟨s, 1, none⟩ = some (cv w' s 1) ∧ w'.frozen? ⟨s, 1, none⟩ = false ∧ w'.cell? ⟨s, 2, none⟩ = some (cv w' s 2) ∧ w'.frozen? ⟨s, 2, none⟩ = false ∧ w'.cell? ⟨s, 3, none⟩ = some (cv w' s 3) ∧ w'.frozen? ⟨s, 3, none⟩ = false ∧ w'.cell? ⟨R, 0, none⟩ = some (cv w' R 0) ∧ w'.frozen? ⟨R, 0, none⟩ = false ∧ w'.cell? ⟨R, 1, none⟩ = some (cv w' R 1) ∧ w'.frozen? ⟨R, 1, none⟩ = false ∧ w'.cell? ⟨R, 2, none⟩ = some (cv w' R 2) ∧ w'.frozen? ⟨R, 2, none⟩ = false ∧ w'.cell? ⟨R, 3, none⟩ = some (cv w' R 3) ∧ w'.frozen? ⟨R, 3, none⟩ = false ∧ w'.cell? ⟨S, 0, none⟩ = some (cv w' S 0) ∧ w'.frozen? ⟨S, 0, none⟩ = false ∧ w'.cell? ⟨S, 1, none⟩ = some (cv w' S 1) ∧ w'.frozen? ⟨S, 1, none⟩ = false ∧ w'.cell? ⟨S, 2, none⟩ = some (cv w' S 2) ∧ w'.frozen? ⟨S, 2, none⟩ = false ∧ w'.cell? ⟨S, 3, none⟩ = some (cv w' S 3) ∧ w'.frozen? ⟨S, 3, none⟩ = false) ∧ K_Dz x0 x1 x2 x3 y0 y1 y2 y3 s t p q R S w w' := ⟨h.cells, h⟩
/-- what a walk keeps: cells, and that nothing that was there has turned -/
def K_Da (i0 i1 i2 i3 x0 x1 x2 x3 y0 y1 y2 y3 : Int) (s t p q R S : Nat) (w w' : World) : Prop := KL w [(s, 0, .int .i64 i0), (s, 1, .int .i64 i1), (s, 2, .int .i64 i2), (s, 3, .int .i64 i3), (p, 0, .int .i64 x0), (p, 1, .int .i64 x1), (p, 2, .int .i64 x2), (p, 3, .int .i64 x3), (q, 0, .int .i64 y0), (q, 1, .int .i64 y1), (q, 2, .int .i64 y2), (q, 3, .int .i64 y3)] [(t, 0), (t, 1), (t, 2), (t, 3), (s, 0), (s, 1), (s, 2), (s, 3), (R, 0), (R, 1), (R, 2), (R, 3), (S, 0), (S, 1), (S, 2), (S, 3)] w'
theorem K_Da.below {i0 i1 i2 i3 x0 x1 x2 x3 y0 y1 y2 y3 : Int} {s t p q R S : Nat} {w w1 w2 : World} (hb : Below w1.heap.size w1 w2) (h : K_Da i0 i1 i2 i3 x0 x1 x2 x3 y0 y1 y2 y3 s t p q R S w w1) : K_Da i0 i1 i2 i3 x0 x1 x2 x3 y0 y1 y2 y3 s t p q R S w w2 := KL.below hb h
theorem K_Da.draws {i0 i1 i2 i3 x0 x1 x2 x3 y0 y1 y2 y3 : Int} {s t p q R S : Nat} {w w1 : World} (n : Nat) (h : K_Da i0 i1 i2 i3 x0 x1 x2 x3 y0 y1 y2 y3 s t p q R S w w1) : K_Da i0 i1 i2 i3 x0 x1 x2 x3 y0 y1 y2 y3 s t p q R S w (w1.drewN n) := KL.draws n h
theorem K_Da.drew {i0 i1 i2 i3 x0 x1 x2 x3 y0 y1 y2 y3 : Int} {s t p q R S : Nat} {w w1 : World} (h : K_Da i0 i1 i2 i3 x0 x1 x2 x3 y0 y1 y2 y3 s t p q R S w w1) : K_Da i0 i1 i2 i3 x0 x1 x2 x3 y0 y1 y2 y3 s t p q R S w w1.drew := KL.draws 1 h
theorem K_Da.alloc {i0 i1 i2 i3 x0 x1 x2 x3 y0 y1 y2 y3 : Int} {s t p q R S : Nat} {w w1 : World} (o : Obj) (h : K_Da i0 i1 i2 i3 x0 x1 x2 x3 y0 y1 y2 y3 s t p q R S w w1) : K_Da i0 i1 i2 i3 x0 x1 x2 x3 y0 y1 y2 y3 s t p q R S w (w1.alloc o) := KL.alloc o h
theorem K_Da.set {i0 i1 i2 i3 x0 x1 x2 x3 y0 y1 y2 y3 : Int} {s t p q R S : Nat} {w w1 : World} (h : K_Da i0 i1 i2 i3 x0 x1 x2 x3 y0 y1 y2 y3 s t p q R S w w1) (b i : Nat) (v : Value) (hb : b ≠ s ∧ b ≠ p ∧ b ≠ q ∧ w.heap.size ≤ b) : K_Da i0 i1 i2 i3 x0 x1 x2 x3 y0 y1 y2 y3 s t p q R S w (w1.setCell ⟨b, i, none⟩ v) :=
  KL.set h b i v (by intro x hx; simp only [List.mem_cons, List.not_mem_nil, or_false] at hx; rcases hx with rfl | rfl | rfl | rfl | rfl | rfl | rfl | rfl | rfl | rfl | rfl | rfl <;> simp only [] <;> omega) (by omega)
theorem K_Da.bel {i0 i1 i2 i3 x0 x1 x2 x3 y0 y1 y2 y3 : Int} {s t p q R S : Nat} {w w1 : World} (h : K_Da i0 i1 i2 i3 x0 x1 x2 x3 y0 y1 y2 y3 s t p q R S w w1) : Below w.heap.size w w1 := KL.bel h
theorem K_Da.cells {i0 i1 i2 i3 x0 x1 x2 x3 y0 y1 y2 y3 : Int} {s t p q R S : Nat} {w w' : World} (h : K_Da i0 i1 i2 i3 x0 x1 x2 x3 y0 y1 y2 y3 s t p q R S w w') : w'.cell? ⟨s, 0, none⟩ = some (.int .i64 i0) ∧ w'.cell? ⟨s, 1, none⟩ = some (.int .i64 i1) ∧ w'.cell? ⟨s, 2, none⟩ = some (.int .i64 i2) ∧ w'.cell? ⟨s, 3, none⟩ = some (.int .i64 i3) ∧ w'.cell? ⟨p, 0, none⟩ = some (.int .i64 x0) ∧ w'.cell? ⟨p, 1, none⟩ = some (.int .i64 x1) ∧ w'.cell? ⟨p, 2, none⟩ = some (.int .i64 x2) ∧ w'.cell? ⟨p, 3, none⟩ = some (.int .i64 x3) ∧ w'.cell? ⟨q, 0, none⟩ = some (.int .i64 y0) ∧ w'.cell? ⟨q, 1, none⟩ = some (.int .i64 y1) ∧ w'.cell? ⟨q, 2, none⟩ = some (.int .i64 y2) ∧ w'.cell? ⟨q, 3, none⟩ = some (.int .i64 y3) ∧ w'.cell? ⟨t, 0, none⟩ = some (cv w' t 0) ∧ w'.frozen? ⟨t, 0, none⟩ = false ∧ w'.cell? ⟨t, 1, none⟩ = some (cv w' t 1) ∧ w'.frozen? ⟨t, 1, none⟩ = false ∧ w'.cell? ⟨t, 2, none⟩ = some (cv w' t 2) ∧ w'.frozen? ⟨t, 2, none⟩ = false ∧ w'.cell? ⟨t, 3, none⟩ = some (cv w' t 3) ∧ w'.frozen? ⟨t, 3, none⟩ = false ∧ w'.frozen? ⟨s, 0, none⟩ = false ∧ w'.frozen? ⟨s, 1, none⟩ = false ∧ w'.frozen? ⟨s, 2, none⟩ = false ∧ w'.frozen? ⟨s, 3, none⟩ = false ∧ w'.cell? ⟨R, 0, none⟩ = some (cv w' R 0) ∧ w'.frozen? ⟨R, 0, none⟩ = false ∧ w'.cell? ⟨R, 1, none⟩ = some (cv w' R 1) ∧ w'.frozen? ⟨R, 1, none⟩ = false ∧ w'.cell? ⟨R, 2, none⟩ = some (cv w' R 2) ∧ w'.frozen? ⟨R, 2, none⟩ = false ∧ w'.cell? ⟨R, 3, none⟩ = some (cv w' R 3) ∧ w'.frozen? ⟨R, 3, none⟩ = false ∧ w'.cell? ⟨S, 0, none⟩ = some (cv w' S 0) ∧ w'.frozen? ⟨S, 0, none⟩ = false ∧ w'.cell? ⟨S, 1, none⟩ = some (cv w' S 1) ∧ w'.frozen? ⟨S, 1, none⟩ = false ∧ w'.cell? ⟨S, 2, none⟩ = some (cv w' S 2) ∧ w'.frozen? ⟨S, 2, none⟩ = false ∧ w'.cell? ⟨S, 3, none⟩ = some (cv w' S 3) ∧ w'.frozen? ⟨S, 3, none⟩ = false := ⟨h.c (s, 0, .int .i64 i0) (by simp), h.c (s, 1, .int .i64 i1) (by simp), h.c (s, 2, .int .i64 i2) (by simp), h.c (s, 3, .int .i64 i3) (by simp), h.c (p, 0, .int .i64 x0) (by simp), h.c (p, 1, .int .i64 x1) (by simp), h.c (p, 2, .int .i64 x2) (by simp), h.c (p, 3, .int .i64 x3) (by simp), h.c (q, 0, .int .i64 y0) (by simp), h.c (q, 1, .int .i64 y1) (by simp), h.c (q, 2, .int .i64 y2) (by simp), h.c (q, 3, .int .i64 y3) (by simp), h.d (t, 0) (by simp), h.f (t, 0) (by simp), h.d (t, 1) (by simp), h.f (t, 1) (by simp), h.d (t, 2) (by simp), h.f (t, 2) (by simp), h.d (t, 3) (by simp), h.f (t, 3) (by simp), h.f (s, 0) (by simp), h.f (s, 1) (by simp), h.f (s, 2) (by simp), h.f (s, 3) (by simp), h.d (R, 0) (by simp), h.f (R, 0) (by simp), h.d (R, 1) (by simp), h.f (R, 1) (by simp), h.d (R, 2) (by simp), h.f (R, 2) (by simp), h.d (R, 3) (by simp), h.f (R, 3) (by simp), h.d (S, 0) (by simp), h.f (S, 0) (by simp), h.d (S, 1) (by simp), h.f (S, 1) (by simp), h.d (S, 2) (by simp), h.f (S, 2) (by simp), h.d (S, 3) (by simp), h.f (S, 3) (by simp)⟩
theorem K_Da.zs {i0 i1 i2 i3 x0 x1 x2 x3 y0 y1 y2 y3 : Int} {s t p q R S : Nat} {w w' : World} (h : K_Da i0 i1 i2 i3 x0 x1 x2 x3 y0 y1 y2 y3 s t p q R S w w') : s < w'.heap.size ∧ p < w'.heap.size ∧ q < w'.heap.size ∧ t < w'.heap.size ∧ R < w'.heap.size ∧ S < w'.heap.size ∧ True := ⟨KL.z h (x := (s, 0, .int .i64 i0)) (by simp), KL.z h (x := (p, 0, .int .i64 x0)) (by simp), KL.z h (x := (q, 0, .int .i64 y0)) (by simp), KL.zf h (x := (t, 0)) (by simp), KL.zf h (x := (R, 0)) (by simp), KL.zf h (x := (S, 0)) (by simp), trivial⟩
theorem K_Da.ks {i0 i1 i2 i3 x0 x1 x2 x3 y0 y1 y2 y3 : Int} {s t p q R S : Nat} {w w' : World} (h : K_Da i0 i1 i2 i3 x0 x1 x2 x3 y0 y1 y2 y3 s t p q R S w w') : (w'.cell? ⟨s, 0, none⟩ = some (.int .i64 i0) ∧ w'.cell? ⟨s, 1, none⟩ = some (.int .i64 i1) ∧ w'.cell? ⟨s, 2, none⟩ = some (.int .i64 i2) ∧ w'.cell? ⟨s, 3, none⟩ = some (.int .i64 i3) ∧ w'.cell? ⟨p, 0, none⟩ = some (.int .i64 x0) ∧ w'.cell? ⟨p, 1, none⟩ = some (.int .i64 x1) ∧ w'.cell? ⟨p, 2, none⟩ = some (.int .i64 x2) ∧ w'.cell? ⟨p, 3, none⟩ = some (.int .i64 x3) ∧ w'.cell? ⟨q, 0, none⟩ = some (.int .i64 y0) ∧ w'.cell? ⟨q, 1, none⟩ = some (.int .i64 y1) ∧ w'.cell? ⟨q, 2, none⟩ = some (.int .i64 y2) ∧ w'.cell? ⟨q, 3, none⟩ = some (.int .i64 y3) ∧ w'.cell? ⟨t, 0, none⟩ = some (cv w' t 0) ∧ w'.frozen? ⟨t, 0, none⟩ = false ∧ w'.cell? ⟨t, 1, none⟩ = some (cv w' t 1) ∧ w'.frozen? ⟨t, 1, none⟩ = false ∧ w'.cell? ⟨t, 2, none⟩ = some (cv w' t 2) ∧ w'.frozen? ⟨t, 2, none⟩ = false ∧ w'.cell? ⟨t, 3, none⟩ = some (cv w' t 3) ∧ w'.frozen? ⟨t, 3, none⟩ = false ∧ w'.frozen? ⟨s, 0, none⟩ = false ∧ w'.frozen? ⟨s, 1, none⟩ = false ∧ w'.frozen? ⟨s, 2, none⟩ = false ∧ w'.frozen? ⟨s, 3, none⟩ = false ∧ w'.cell? ⟨R, 0, none⟩ = some (cv w' R 0) ∧ w'.frozen? ⟨R, 0, none⟩ = false ∧ w'.cell? ⟨R, 1, none⟩ = some (cv w' R 1) ∧ w'.frozen? ⟨R, 1, none⟩ = false ∧ w'.cell? ⟨R, 2, none⟩ = some (cv w' R 2) ∧ w'.frozen? ⟨R, 2, none⟩ = false ∧ w'.cell? ⟨R, 3, none⟩ = some (cv w' R 3) ∧ w'.frozen? ⟨R, 3, none⟩ = false ∧ w'.cell? ⟨S, 0, none⟩ = some (cv w' S 0) ∧ w'.frozen? ⟨S, 0, none⟩ = false ∧ w'.cell? ⟨S, 1, none⟩ = some (cv w' S 1) ∧ w'.frozen? ⟨S, 1, none⟩ = false ∧ w'.cell? ⟨S, 2, none⟩ = some (cv w' S 2) ∧ w'.frozen? ⟨S, 2, none⟩ = false ∧ w'.cell? ⟨S, 3, none⟩ = some (cv w' S 3) ∧ w'.frozen? ⟨S, 3, none⟩ = false) ∧ K_Da i0 i1 i2 i3 x0 x1 x2 x3 y0 y1 y2 y3 s t p q R S w w' := ⟨h.cells, h⟩
/-- what a walk keeps: cells, and that nothing that was there has turned -/
def K_Db (h0 h1 h2 h3 i0 i1 i2 i3 x0 x1 x2 x3 y0 y1 y2 y3 : Int) (s t p q R S : Nat) (w w' : World) : Prop := KL w [(t, 0, .int .i64 h0), (t, 1, .int .i64 h1), (t, 2, .int .i64 h2), (t, 3, .int .i64 h3), (s, 0, .int .i64 i0), (s, 1, .int .i64 i1), (s, 2, .int .i64 i2), (s, 3, .int .i64 i3), (p, 0, .int .i64 x0), (p, 1, .int .i64 x1), (p, 2, .int .i64 x2), (p, 3, .int .i64 x3), (q, 0, .int .i64 y0), (q, 1, .int .i64 y1), (q, 2, .int .i64 y2), (q, 3, .int .i64 y3)] [(t, 0), (t, 1), (t, 2), (t, 3), (s, 0), (s, 1), (s, 2), (s, 3), (R, 0), (R, 1), (R, 2), (R, 3), (S, 0), (S, 1), (S, 2), (S, 3)] w'
theorem K_Db.below {h0 h1 h2 h3 i0 i1 i2 i3 x0 x1 x2 x3 y0 y1 y2 y3 : Int} {s t p q R S : Nat} {w w1 w2 : World} (hb : Below w1.heap.size w1 w2) (h : K_Db h0 h1 h2 h3 i0 i1 i2 i3 x0 x1 x2 x3 y0 y1 y2 y3 s t p q R S w w1) : K_Db h0 h1 h2 h3 i0 i1 i2 i3 x0 x1 x2 x3 y0 y1 y2 y3 s t p q R S w w2 := KL.below hb h
theorem K_Db.draws {h0 h1 h2 h3 i0 i1 i2 i3 x0 x1 x2 x3 y0 y1 y2 y3 : Int} {s t p q R S : Nat} {w w1 : World} (n : Nat) (h : K_Db h0 h1 h2 h3 i0 i1 i2 i3 x0 x1 x2 x3 y0 y1 y2 y3 s t p q R S w w1) : K_Db h0 h1 h2 h3 i0 i1 i2 i3 x0 x1 x2 x3 y0 y1 y2 y3 s t p q R S w (w1.drewN n) := KL.draws n h
theorem K_Db.drew {h0 h1 h2 h3 i0 i1 i2 i3 x0 x1 x2 x3 y0 y1 y2 y3 : Int} {s t p q R S : Nat} {w w1 : World} (h : K_Db h0 h1 h2 h3 i0 i1 i2 i3 x0 x1 x2 x3 y0 y1 y2 y3 s t p q R S w w1) : K_Db h0 h1 h2 h3 i0 i1 i2 i3 x0 x1 x2 x3 y0 y1 y2 y3 s t p q R S w w1.drew := KL.draws 1 h
theorem K_Db.alloc {h0 h1 h2 h3 i0 i1 i2 i3 x0 x1 x2 x3 y0 y1 y2 y3 : Int} {s t p q R S : Nat} {w w1 : World} (o : Obj) (h : K_Db h0 h1 h2 h3 i0 i1 i2 i3 x0 x1 x2 x3 y0 y1 y2 y3 s t p q R S w w1) : K_Db h0 h1 h2 h3 i0 i1 i2 i3 x0 x1 x2 x3 y0 y1 y2 y3 s t p q R S w (w1.alloc o) := KL.alloc o h
theorem K_Db.set {h0 h1 h2 h3 i0 i1 i2 i3 x0 x1 x2 x3 y0 y1 y2 y3 : Int} {s t p q R S : Nat} {w w1 : World} (h : K_Db h0 h1 h2 h3 i0 i1 i2 i3 x0 x1 x2 x3 y0 y1 y2 y3 s t p q R S w w1) (b i : Nat) (v : Value) (hb : b ≠ t ∧ b ≠ s ∧ b ≠ p ∧ b ≠ q ∧ w.heap.size ≤ b) : K_Db h0 h1 h2 h3 i0 i1 i2 i3 x0 x1 x2 x3 y0 y1 y2 y3 s t p q R S w (w1.setCell ⟨b, i, none⟩ v) :=
  KL.set h b i v (by intro x hx; simp only [List.mem_cons, List.not_mem_nil, or_false] at hx; rcases hx with rfl | rfl | rfl | rfl | rfl | rfl | rfl | rfl | rfl | rfl | rfl | rfl | rfl | rfl | rfl | rfl <;> simp only [] <;> omega) (by omega)
theorem K_Db.bel {h0 h1 h2 h3 i0 i1 i2 i3 x0 x1 x2 x3 y0 y1 y2 y3 : Int} {s t p q R S : Nat} {w w1 : World} (h : K_Db h0 h1 h2 h3 i0 i1 i2 i3 x0 x1 x2 x3 y0 y1 y2 y3 s t p q R S w w1) : Below w.heap.size w w1 := KL.bel h
theorem K_Db.cells {h0 h1 h2 h3 i0 i1 i2 i3 x0 x1 x2 x3 y0 y1 y2 y3 : Int} {s t p q R S : Nat} {w w' : World} (h : K_Db h0 h1 h2 h3 i0 i1 i2 i3 x0 x1 x2 x3 y0 y1 y2 y3 s t p q R S w w') : w'.cell? ⟨t, 0, none⟩ = some (.int .i64 h0) ∧ w'.cell? ⟨t, 1, none⟩ = some (.int .i64 h1) ∧ w'.cell? ⟨t, 2, none⟩ = some (.int .i64 h2) ∧ w'.cell? ⟨t, 3, none⟩ = some (.int .i64 h3) ∧ w'.cell? ⟨s, 0, none⟩ = some (.int .i64 i0) ∧ w'.cell? ⟨s, 1, none⟩ = some (.int .i64 i1) ∧ w'.cell? ⟨s, 2, none⟩ = some (.int .i64 i2) ∧ w'.cell? ⟨s, 3, none⟩ = some (.int .i64 i3) ∧ w'.cell? ⟨p, 0, none⟩ = some (.int .i64 x0) ∧ w'.cell? ⟨p, 1, none⟩ = some (.int .i64 x1) ∧ w'.cell? ⟨p, 2, none⟩ = some (.int .i64 x2) ∧ w'.cell? ⟨p, 3, none⟩ = some (.int .i64 x3) ∧ w'.cell? ⟨q, 0, none⟩ = some (.int .i64 y0) ∧ w'.cell? ⟨q, 1, none⟩ = some (.int .i64 y1) ∧ w'.cell? ⟨q, 2, none⟩ = some (.int .i64 y2) ∧ w'.cell? ⟨q, 3, none⟩ = some (.int .i64 y3) ∧ w'.frozen? ⟨t, 0, none⟩ = false ∧ w'.frozen? ⟨t, 1, none⟩ = false ∧ w'.frozen? ⟨t, 2, none⟩ = false ∧ w'.frozen? ⟨t, 3, none⟩ = false ∧ w'.frozen? ⟨s, 0, none⟩ = false ∧ w'.frozen? ⟨s, 1, none⟩ = false ∧ w'.frozen? ⟨s, 2, none⟩ = false ∧ w'.frozen? ⟨s, 3, none⟩ = false ∧ w'.cell? ⟨R, 0, none⟩ = some (cv w' R 0) ∧ w'.frozen? ⟨R, 0, none⟩ = false ∧ w'.cell? ⟨R, 1, none⟩ = some (cv w' R 1) ∧ w'.frozen? ⟨R, 1, none⟩ = false ∧ w'.cell? ⟨R, 2, none⟩ = some (cv w' R 2) ∧ w'.frozen? ⟨R, 2, none⟩ = false ∧ w'.cell? ⟨R, 3, none⟩ = some (cv w' R 3) ∧ w'.frozen? ⟨R, 3, none⟩ = false ∧ w'.cell? ⟨S, 0, none⟩ = some (cv w' S 0) ∧ w'.frozen? ⟨S, 0, none⟩ = false ∧ w'.cell? ⟨S, 1, none⟩ = some (cv w' S 1) ∧ w'.frozen? ⟨S, 1, none⟩ = false ∧ w'.cell? ⟨S, 2, none⟩ = some (cv w' S 2) ∧ w'.frozen? ⟨S, 2, none⟩ = false ∧ w'.cell? ⟨S, 3, none⟩ = some (cv w' S 3) ∧ w'.frozen? ⟨S, 3, none⟩ = false := ⟨h.c (t, 0, .int .i64 h0) (by simp), h.c (t, 1, .int .i64 h1) (by simp), h.c (t, 2, .int .i64 h2) (by simp), h.c (t, 3, .int .i64 h3) (by simp), h.c (s, 0, .int .i64 i0) (by simp), h.c (s, 1, .int .i64 i1) (by simp), h.c (s, 2, .int .i64 i2) (by simp), h.c (s, 3, .int .i64 i3) (by simp), h.c (p, 0, .int .i64 x0) (by simp), h.c (p, 1, .int .i64 x1) (by simp), h.c (p, 2, .int .i64 x2) (by simp), h.c (p, 3, .int .i64 x3) (by simp), h.c (q, 0, .int .i64 y0) (by simp), h.c (q, 1, .int .i64 y1) (by simp), h.c (q, 2, .int .i64 y2) (by simp), h.c (q, 3, .int .i64 y3) (by simp), h.f (t, 0) (by simp), h.f (t, 1) (by simp), h.f (t, 2) (by simp), h.f (t, 3) (by simp), h.f (s, 0) (by simp), h.f (s, 1) (by simp), h.f (s, 2) (by simp), h.f (s, 3) (by simp), h.d (R, 0) (by simp), h.f (R, 0) (by simp), h.d (R, 1) (by simp), h.f (R, 1) (by simp), h.d (R, 2) (by simp), h.f (R, 2) (by simp), h.d (R, 3) (by simp), h.f (R, 3) (by simp), h.d (S, 0) (by simp), h.f (S, 0) (by simp), h.d (S, 1) (by simp), h.f (S, 1) (by simp), h.d (S, 2) (by simp), h.f (S, 2) (by simp), h.d (S, 3) (by simp), h.f (S, 3) (by simp)⟩
theorem K_Db.zs {h0 h1 h2 h3 i0 i1 i2 i3 x0 x1 x2 x3 y0 y1 y2 y3 : Int} {s t p q R S : Nat} {w w' : World} (h : K_Db h0 h1 h2 h3 i0 i1 i2 i3 x0 x1 x2 x3 y0 y1 y2 y3 s t p q R S w w') : t < w'.heap.size ∧ s < w'.heap.size ∧ p < w'.heap.size ∧ q < w'.heap.size ∧ R < w'.heap.size ∧ S < w'.heap.size ∧ True := ⟨KL.z h (x := (t, 0, .int .i64 h0)) (by simp), KL.z h (x := (s, 0, .int .i64 i0)) (by simp), KL.z h (x := (p, 0, .int .i64 x0)) (by simp), KL.z h (x := (q, 0, .int .i64 y0)) (by simp), KL.zf h (x := (R, 0)) (by simp), KL.zf h (x := (S, 0)) (by simp), trivial⟩
theorem K_Db.ks {h0 h1 h2 h3 i0 i1 i2 i3 x0 x1 x2 x3 y0 y1 y2 y3 : Int} {s t p q R S : Nat} {w w' : World} (h : K_Db h0 h1 h2 h3 i0 i1 i2 i3 x0 x1 x2 x3 y0 y1 y2 y3 s t p q R S w w') : (w'.cell? ⟨t, 0, none⟩ = some (.int .i64 h0) ∧ w'.cell? ⟨t, 1, none⟩ = some (.int .i64 h1) ∧ w'.cell? ⟨t, 2, none⟩ = some (.int .i64 h2) ∧ w'.cell? ⟨t, 3, none⟩ = some (.int .i64 h3) ∧ w'.cell? ⟨s, 0, none⟩ = some (.int .i64 i0) ∧ w'.cell? ⟨s, 1, none⟩ = some (.int .i64 i1) ∧ w'.cell? ⟨s, 2, none⟩ = some (.int .i64 i2) ∧ w'.cell? ⟨s, 3, none⟩ = some (.int .i64 i3) ∧ w'.cell? ⟨p, 0, none⟩ = some (.int .i64 x0) ∧ w'.cell? ⟨p, 1, none⟩ = some (.int .i64 x1) ∧ w'.cell? ⟨p, 2, none⟩ = some (.int .i64 x2) ∧ w'.cell? ⟨p, 3, none⟩ = some (.int .i64 x3) ∧ w'.cell? ⟨q, 0, none⟩ = some (.int .i64 y0) ∧ w'.cell? ⟨q, 1, none⟩ = some (.int .i64 y1) ∧ w'.cell? ⟨q, 2, none⟩ = some (.int .i64 y2) ∧ w'.cell? ⟨q, 3, none⟩ = some (.int .i64 y3) ∧ w'.frozen? ⟨t, 0, none⟩ = false ∧ w'.frozen? ⟨t, 1, none⟩ = false ∧ w'.frozen? ⟨t, 2, none⟩ = false ∧ w'.frozen? ⟨t, 3, none⟩ = false ∧ w'.frozen? ⟨s, 0, none⟩ = false ∧ w'.frozen? ⟨s, 1, none⟩ = false ∧ w'.frozen? ⟨s, 2, none⟩ = false ∧ w'.frozen? ⟨s, 3, none⟩ = false ∧ w'.cell? ⟨R, 0, none⟩ = some (cv w' R 0) ∧ w'.frozen? ⟨R, 0, none⟩ = false ∧ w'.cell? ⟨R, 1, none⟩ = some (cv w' R 1) ∧ w'.frozen? ⟨R, 1, none⟩ = false ∧ w'.cell? ⟨R, 2, none⟩ = some (cv w' R 2) ∧ w'.frozen? ⟨R, 2, none⟩ = false ∧ w'.cell? ⟨R, 3, none⟩ = some (cv w' R 3) ∧ w'.frozen? ⟨R, 3, none⟩ = false ∧ w'.cell? ⟨S, 0, none⟩ = some (cv w' S 0) ∧ w'.frozen? ⟨S, 0, none⟩ = false ∧ w'.cell? ⟨S, 1, none⟩ = some (cv w' S 1) ∧ w'.frozen? ⟨S, 1, none⟩ = false ∧ w'.cell? ⟨S, 2, none⟩ = some (cv w' S 2) ∧ w'.frozen? ⟨S, 2, none⟩ = false ∧ w'.cell? ⟨S, 3, none⟩ = some (cv w' S 3) ∧ w'.frozen? ⟨S, 3, none⟩ = false) ∧ K_Db h0 h1 h2 h3 i0 i1 i2 i3 x0 x1 x2 x3 y0 y1 y2 y3 s t p q R S w w' := ⟨h.cells, h⟩
/-- what a walk keeps: cells, and that nothing that was there has turned -/
def K_De (r0 r1 r2 r3 h0 h1 h2 h3 i0 i1 i2 i3 x0 x1 x2 x3 y0 y1 y2 y3 : Int) (s t p q R S : Nat) (w w' : World) : Prop := KL w [(t, 0, .int .i64 h0), (t, 1, .int .i64 h1), (t, 2, .int .i64 h2), (t, 3, .int .i64 h3), (s, 0, .int .i64 i0), (s, 1, .int .i64 i1), (s, 2, .int .i64 i2), (s, 3, .int .i64 i3), (p, 0, .int .i64 x0), (p, 1, .int .i64 x1), (p, 2, .int .i64 x2), (p, 3, .int .i64 x3), (q, 0, .int .i64 y0), (q, 1, .int .i64 y1), (q, 2, .int .i64 y2), (q, 3, .int .i64 y3), (R, 0, .int .i64 i0), (R, 1, .int .i64 i1), (R, 2, .int .i64 i2), (R, 3, .int .i64 i3), (S, 0, .int .i64 r0), (S, 1, .int .i64 r1), (S, 2, .int .i64 r2), (S, 3, .int .i64 r3)] [(t, 0), (t, 1), (t, 2), (t, 3), (s, 0), (s, 1), (s, 2), (s, 3), (R, 0), (R, 1), (R, 2), (R, 3), (S, 0), (S, 1), (S, 2), (S, 3)] w'
theorem K_De.below {r0 r1 r2 r3 h0 h1 h2 h3 i0 i1 i2 i3 x0 x1 x2 x3 y0 y1 y2 y3 : Int} {s t p q R S : Nat} {w w1 w2 : World} (hb : Below w1.heap.size w1 w2) (h : K_De r0 r1 r2 r3 h0 h1 h2 h3 i0 i1 i2 i3 x0 x1 x2 x3 y0 y1 y2 y3 s t p q R S w w1) : K_De r0 r1 r2 r3 h0 h1 h2 h3 i0 i1 i2 i3 x0 x1 x2 x3 y0 y1 y2 y3 s t p q R S w w2 := KL.below hb h
theorem K_De.draws {r0 r1 r2 r3 h0 h1 h2 h3 i0 i1 i2 i3 x0 x1 x2 x3 y0 y1 y2 y3 : Int} {s t p q R S : Nat} {w w1 : World} (n : Nat) (h : K_De r0 r1 r2 r3 h0 h1 h2 h3 i0 i1 i2 i3 x0 x1 x2 x3 y0 y1 y2 y3 s t p q R S w w1) : K_De r0 r1 r2 r3 h0 h1 h2 h3 i0 i1 i2 i3 x0 x1 x2 x3 y0 y1 y2 y3 s t p q R S w (w1.drewN n) := KL.draws n h
theorem K_De.drew {r0 r1 r2 r3 h0 h1 h2 h3 i0 i1 i2 i3 x0 x1 x2 x3 y0 y1 y2 y3 : Int} {s t p q R S : Nat} {w w1 : World} (h : K_De r0 r1 r2 r3 h0 h1 h2 h3 i0 i1 i2 i3 x0 x1 x2 x3 y0 y1 y2 y3 s t p q R S w w1) : K_De r0 r1 r2 r3 h0 h1 h2 h3 i0 i1 i2 i3 x0 x1 x2 x3 y0 y1 y2 y3 s t p q R S w w1.drew := KL.draws 1 h
theorem K_De.alloc {r0 r1 r2 r3 h0 h1 h2 h3 i0 i1 i2 i3 x0 x1 x2 x3 y0 y1 y2 y3 : Int} {s t p q R S : Nat} {w w1 : World} (o : Obj) (h : K_De r0 r1 r2 r3 h0 h1 h2 h3 i0 i1 i2 i3 x0 x1 x2 x3 y0 y1 y2 y3 s t p q R S w w1) : K_De r0 r1 r2 r3 h0 h1 h2 h3 i0 i1 i2 i3 x0 x1 x2 x3 y0 y1 y2 y3 s t p q R S w (w1.alloc o) := KL.alloc o h
theorem K_De.set {r0 r1 r2 r3 h0 h1 h2 h3 i0 i1 i2 i3 x0 x1 x2 x3 y0 y1 y2 y3 : Int} {s t p q R S : Nat} {w w1 : World} (h : K_De r0 r1 r2 r3 h0 h1 h2 h3 i0 i1 i2 i3 x0 x1 x2 x3 y0 y1 y2 y3 s t p q R S w w1) (b i : Nat) (v : Value) (hb : b ≠ t ∧ b ≠ s ∧ b ≠ p ∧ b ≠ q ∧ b ≠ R ∧ b ≠ S ∧ w.heap.size ≤ b) : K_De r0 r1 r2 r3 h0 h1 h2 h3 i0 i1 i2 i3 x0 x1 x2 x3 y0 y1 y2 y3 s t p q R S w (w1.setCell ⟨b, i, none⟩ v) :=
  KL.set h b i v (by intro x hx; simp only [List.mem_cons, List.not_mem_nil, or_false] at hx; rcases hx with rfl | rfl | rfl | rfl | rfl | rfl | rfl | rfl | rfl | rfl | rfl | rfl | rfl | rfl | rfl | rfl | rfl | rfl | rfl | rfl | rfl | rfl | rfl | rfl <;> simp only [] <;> omega) (by omega)
theorem K_De.bel {r0 r1 r2 r3 h0 h1 h2 h3 i0 i1 i2 i3 x0 x1 x2 x3 y0 y1 y2 y3 : Int} {s t p q R S : Nat} {w w1 : World} (h : K_De r0 r1 r2 r3 h0 h1 h2 h3 i0 i1 i2 i3 x0 x1 x2 x3 y0 y1 y2 y3 s t p q R S w w1) : Below w.heap.size w w1 := KL.bel h
theorem K_De.cells {r0 r1 r2 r3 h0 h1 h2 h3 i0 i1 i2 i3 x0 x1 x2 x3 y0 y1 y2 y3 : Int} {s t p q R S : Nat} {w w' : World} (h : K_De r0 r1 r2 r3 h0 h1 h2 h3 i0 i1 i2 i3 x0 x1 x2 x3 y0 y1 y2 y3 s t p q R S w w') : w'.cell? ⟨t, 0, none⟩ = some (.int .i64 h0) ∧ w'.cell? ⟨t, 1, none⟩ = some (.int .i64 h1) ∧ w'.cell? ⟨t, 2, none⟩ = some (.int .i64 h2) ∧ w'.cell? ⟨t, 3, none⟩ = some (.int .i64 h3) ∧ w'.cell? ⟨s, 0, none⟩ = some (.int .i64 i0) ∧ w'.cell? ⟨s, 1, none⟩ = some (.int .i64 i1) ∧ w'.cell? ⟨s, 2, none⟩ = some (.int .i64 i2) ∧ w'.cell? ⟨s, 3, none⟩ = some (.int .i64 i3) ∧ w'.cell? ⟨p, 0, none⟩ = some (.int .i64 x0) ∧ w'.cell? ⟨p, 1, none⟩ = some (.int .i64 x1) ∧ w'.cell? ⟨p, 2, none⟩ = some (.int .i64 x2) ∧ w'.cell? ⟨p, 3, none⟩ = some (.int .i64 x3) ∧ w'.cell? ⟨q, 0, none⟩ = some (.int .i64 y0) ∧ w'.cell? ⟨q, 1, none⟩ = some (.int .i64 y1) ∧ w'.cell? ⟨q, 2, none⟩ = some (.int .i64 y2) ∧ w'.cell? ⟨q, 3, none⟩ = some (.int .i64 y3) ∧ w'.cell? ⟨R, 0, none⟩ = some (.int .i64 i0) ∧ w'.cell? ⟨R, 1, none⟩ = some (.int .i64 i1) ∧ w'.cell? ⟨R, 2, none⟩ = some (.int .i64 i2) ∧ w'.cell? ⟨R, 3, none⟩ = some (.int .i64 i3) ∧ w'.cell? ⟨S, 0, none⟩ = some (.int .i64 r0) ∧ w'.cell? ⟨S, 1, none⟩ = some (.int .i64 r1) ∧ w'.cell? ⟨S, 2, none⟩ = some (.int .i64 r2) ∧ w'.cell? ⟨S, 3, none⟩ = some (.int .i64 r3) ∧ w'.frozen? ⟨t, 0, none⟩ = false ∧ w'.frozen? ⟨t, 1, none⟩ = false ∧ w'.frozen? ⟨t, 2, none⟩ = false ∧ w'.frozen? ⟨t, 3, none⟩ = false ∧ w'.frozen? ⟨s, 0, none⟩ = false ∧ w'.frozen? ⟨s, 1, none⟩ = false ∧ w'.frozen? ⟨s, 2, none⟩ = false ∧ w'.frozen? ⟨s, 3, none⟩ = false ∧ w'.frozen? ⟨R, 0, none⟩ = false ∧ w'.frozen? ⟨R, 1, none⟩ = false ∧ w'.frozen? ⟨R, 2, none⟩ = false ∧ w'.frozen? ⟨R, 3, none⟩ = false ∧ w'.frozen? ⟨S, 0, none⟩ = false ∧ w'.frozen? ⟨S, 1, none⟩ = false ∧ w'.frozen? ⟨S, 2, none⟩ = false ∧ w'.frozen? ⟨S, 3, none⟩ = false := ⟨h.c (t, 0, .int .i64 h0) (by simp), h.c (t, 1, .int .i64 h1) (by simp), h.c (t, 2, .int .i64 h2) (by simp), h.c (t, 3, .int .i64 h3) (by simp), h.c (s, 0, .int .i64 i0) (by simp), h.c (s, 1, .int .i64 i1) (by simp), h.c (s, 2, .int .i64 i2) (by simp), h.c (s, 3, .int .i64 i3) (by simp), h.c (p, 0, .int .i64 x0) (by simp), h.c (p, 1, .int .i64 x1) (by simp), h.c (p, 2, .int .i64 x2) (by simp), h.c (p, 3, .int .i64 x3) (by simp), h.c (q, 0, .int .i64 y0) (by simp), h.c (q, 1, .int .i64 y1) (by simp), h.c (q, 2, .int .i64 y2) (by simp), h.c (q, 3, .int .i64 y3) (by simp), h.c (R, 0, .int .i64 i0) (by simp), h.c (R, 1, .int .i64 i1) (by simp), h.c (R, 2, .int .i64 i2) (by simp), h.c (R, 3, .int .i64 i3) (by simp), h.c (S, 0, .int .i64 r0) (by simp), h.c (S, 1, .int .i64 r1) (by simp), h.c (S, 2, .int .i64 r2) (by simp), h.c (S, 3, .int .i64 r3) (by simp), h.f (t, 0) (by simp), h.f (t, 1) (by simp), h.f (t, 2) (by simp), h.f (t, 3) (by simp), h.f (s, 0) (by simp), h.f (s, 1) (by simp), h.f (s, 2) (by simp), h.f (s, 3) (by simp), h.f (R, 0) (by simp), h.f (R, 1) (by simp), h.f (R, 2) (by simp), h.f (R, 3) (by simp), h.f (S, 0) (by simp), h.f (S, 1) (by simp), h.f (S, 2) (by simp), h.f (S, 3) (by simp)⟩
theorem K_De.zs {r0 r1 r2 r3 h0 h1 h2 h3 i0 i1 i2 i3 x0 x1 x2 x3 y0 y1 y2 y3 : Int} {s t p q R S : Nat} {w w' : World} (h : K_De r0 r1 r2 r3 h0 h1 h2 h3 i0 i1 i2 i3 x0 x1 x2 x3 y0 y1 y2 y3 s t p q R S w w') : t < w'.heap.size ∧ s < w'.heap.size ∧ p < w'.heap.size ∧ q < w'.heap.size ∧ R < w'.heap.size ∧ S < w'.heap.size ∧ True := ⟨KL.z h (x := (t, 0, .int .i64 h0)) (by simp), KL.z h (x := (s, 0, .int .i64 i0)) (by simp), KL.z h (x := (p, 0, .int .i64 x0)) (by simp), KL.z h (x := (q, 0, .int .i64 y0)) (by simp), KL.z h (x := (R, 0, .int .i64 i0)) (by simp), KL.z h (x := (S, 0, .int .i64 r0)) (by simp), trivial⟩
theorem K_De.ks {r0 r1 r2 r3 h0 h1 h2 h3 i0 i1 i2 i3 x0 x1 x2 x3 y0 y1 y2 y3 : Int} {s t p q R S : Nat} {w w' : World} (h : K_De r0 r1 r2 r3 h0 h1 h2 h3 i0 i1 i2 i3 x0 x1 x2 x3 y0 y1 y2 y3 s t p q R S w w') : (w'.cell? ⟨t, 0, none⟩ = some (.int .i64 h0) ∧ w'.cell? ⟨t, 1, none⟩ = some (.int .i64 h1) ∧ w'.cell? ⟨t, 2, none⟩ = some (.int .i64 h2) ∧ w'.cell? ⟨t, 3, none⟩ = some (.int .i64 h3) ∧ w'.cell? ⟨s, 0, none⟩ = some (.int .i64 i0) ∧ w'.cell? ⟨s, 1, none⟩ = some (.int .i64 i1) ∧ w'.cell? ⟨s, 2, none⟩ = some (.int .i64 i2) ∧ w'.cell? ⟨s, 3, none⟩ = some (.int .i64 i3) ∧ w'.cell? ⟨p, 0, none⟩ = some (.int .i64 x0) ∧ w'.cell? ⟨p, 1, none⟩ = some (.int .i64 x1) ∧ w'.cell? ⟨p, 2, none⟩ = some (.int .i64 x2) ∧ w'.cell? ⟨p, 3, none⟩ = some (.int .i64 x3) ∧ w'.cell? ⟨q, 0, none⟩ = some (.int .i64 y0) ∧ w'.cell? ⟨q, 1, none⟩ = some (.int .i64 y1) ∧ w'.cell? ⟨q, 2, none⟩ = some (.int .i64 y2) ∧ w'.cell? ⟨q, 3, none⟩ = some (.int .i64 y3) ∧ w'.cell? ⟨R, 0, none⟩ = some (.int .i64 i0) ∧ w'.cell? ⟨R, 1, none⟩ = some (.int .i64 i1) ∧ w'.cell? ⟨R, 2, none⟩ = some (.int .i64 i2) ∧ w'.cell? ⟨R, 3, none⟩ = some (.int .i64 i3) ∧ w'.cell? ⟨S, 0, none⟩ = some (.int .i64 r0) ∧ w'.cell? ⟨S, 1, none⟩ = some (.int .i64 r1) ∧ w'.cell? ⟨S, 2, none⟩ = some (.int .i64 r2) ∧ w'.cell? ⟨S, 3, none⟩ = some (.int .i64 r3) ∧ w'.frozen? ⟨t, 0, none⟩ = false ∧ w'.frozen? ⟨t, 1, none⟩ = false ∧ w'.frozen? ⟨t, 2, none⟩ = false ∧ w'.frozen? ⟨t, 3, none⟩ = false ∧ w'.frozen? ⟨s, 0, none⟩ = false ∧ w'.frozen? ⟨s, 1, none⟩ = false ∧ w'.frozen? ⟨s, 2, none⟩ = false ∧ w'.frozen? ⟨s, 3, none⟩ = false ∧ w'.frozen? ⟨R, 0, none⟩ = false ∧ w'.frozen? ⟨R, 1, none⟩ = false ∧ w'.frozen? ⟨R, 2, none⟩ = false ∧ w'.frozen? ⟨R, 3, none⟩ = false ∧ w'.frozen? ⟨S, 0, none⟩ = false ∧ w'.frozen? ⟨S, 1, none⟩ = false ∧ w'.frozen? ⟨S, 2, none⟩ = false ∧ w'.frozen? ⟨S, 3, none⟩ = false) ∧ K_De r0 r1 r2 r3 h0 h1 h2 h3 i0 i1 i2 i3 x0 x1 x2 x3 y0 y1 y2 y3 s t p q R S w w' := ⟨h.cells, h⟩
/-- what a walk keeps: cells, and that nothing that was there has turned -/
def K_Df (g0 g1 g2 g3 r0 r1 r2 r3 h0 h1 h2 h3 i0 i1 i2 i3 x0 x1 x2 x3 y0 y1 y2 y3 : Int) (u s t p q R S : Nat) (w w' : World) : Prop := KL w [(u, 0, .int .i64 g0), (u, 1, .int .i64 g1), (u, 2, .int .i64 g2), (u, 3, .int .i64 g3), (t, 0, .int .i64 h0), (t, 1, .int .i64 h1), (t, 2, .int .i64 h2), (t, 3, .int .i64 h3), (s, 0, .int .i64 i0), (s, 1, .int .i64 i1), (s, 2, .int .i64 i2), (s, 3, .int .i64 i3), (p, 0, .int .i64 x0), (p, 1, .int .i64 x1), (p, 2, .int .i64 x2), (p, 3, .int .i64 x3), (q, 0, .int .i64 y0), (q, 1, .int .i64 y1), (q, 2, .int .i64 y2), (q, 3, .int .i64 y3), (R, 0, .int .i64 i0), (R, 1, .int .i64 i1), (R, 2, .int .i64 i2), (R, 3, .int .i64 i3), (S, 0, .int .i64 r0), (S, 1, .int .i64 r1), (S, 2, .int .i64 r2), (S, 3, .int .i64 r3)] [(t, 0), (t, 1), (t, 2), (t, 3), (s, 0), (s, 1), (s, 2), (s, 3), (R, 0), (R, 1), (R, 2), (R, 3), (S, 0), (S, 1), (S, 2), (S, 3)] w'
theorem K_Df.below {g0 g1 g2 g3 r0 r1 r2 r3 h0 h1 h2 h3 i0 i1 i2 i3 x0 x1 x2 x3 y0 y1 y2 y3 : Int} {u s t p q R S : Nat} {w w1 w2 : World} (hb : Below w1.heap.size w1 w2) (h : K_Df g0 g1 g2 g3 r0 r1 r2 r3 h0 h1 h2 h3 i0 i1 i2 i3 x0 x1 x2 x3 y0 y1 y2 y3 u s t p q R S w w1) : K_Df g0 g1 g2 g3 r0 r1 r2 r3 h0 h1 h2 h3 i0 i1 i2 i3 x0 x1 x2 x3 y0 y1 y2 y3 u s t p q R S w w2 := KL.below hb h
theorem K_Df.draws {g0 g1 g2 g3 r0 r1 r2 r3 h0 h1 h2 h3 i0 i1 i2 i3 x0 x1 x2 x3 y0 y1 y2 y3 : Int} {u s t p q R S : Nat} {w w1 : World} (n : Nat) (h : K_Df g0 g1 g2 g3 r0 r1 r2 r3 h0 h1 h2 h3 i0 i1 i2 i3 x0 x1 x2 x3 y0 y1 y2 y3 u s t p q R S w w1) : K_Df g0 g1 g2 g3 r0 r1 r2 r3 h0 h1 h2 h3 i0 i1 i2 i3 x0 x1 x2 x3 y0 y1 y2 y3 u s t p q R S w (w1.drewN n) := KL.draws n h
theorem K_Df.drew {g0 g1 g2 g3 r0 r1 r2 r3 h0 h1 h2 h3 i0 i1 i2 i3 x0 x1 x2 x3 y0 y1 y2 y3 : Int} {u s t p q R S : Nat} {w w1 : World} (h : K_Df g0 g1 g2 g3 r0 r1 r2 r3 h0 h1 h2 h3 i0 i1 i2 i3 x0 x1 x2 x3 y0 y1 y2 y3 u s t p q R S w w1) : K_Df g0 g1 g2 g3 r0 r1 r2 r3 h0 h1 h2 h3 i0 i1 i2 i3 x0 x1 x2 x3 y0 y1 y2 y3 u s t p q R S w w1.drew := KL.draws 1 h
theorem K_Df.alloc {g0 g1 g2 g3 r0 r1 r2 r3 h0 h1 h2 h3 i0 i1 i2 i3 x0 x1 x2 x3 y0 y1 y2 y3 : Int} {u s t p q R S : Nat} {w w1 : World} (o : Obj) (h : K_Df g0 g1 g2 g3 r0 r1 r2 r3 h0 h1 h2 h3 i0 i1 i2 i3 x0 x1 x2 x3 y0 y1 y2 y3 u s t p q R S w w1) : K_Df g0 g1 g2 g3 r0 r1 r2 r3 h0 h1 h2 h3 i0 i1 i2 i3 x0 x1 x2 x3 y0 y1 y2 y3 u s t p q R S w (w1.alloc o) := KL.alloc o h
theorem K_Df.set {g0 g1 g2 g3 r0 r1 r2 r3 h0 h1 h2 h3 i0 i1 i2 i3 x0 x1 x2 x3 y0 y1 y2 y3 : Int} {u s t p q R S : Nat} {w w1 : World} (h : K_Df g0 g1 g2 g3 r0 r1 r2 r3 h0 h1 h2 h3 i0 i1 i2 i3 x0 x1 x2 x3 y0 y1 y2 y3 u s t p q R S w w1) (b i : Nat) (v : Value) (hb : b ≠ u ∧ b ≠ t ∧ b ≠ s ∧ b ≠ p ∧ b ≠ q ∧ b ≠ R ∧ b ≠ S ∧ w.heap.size ≤ b) : K_Df g0 g1 g2 g3 r0 r1 r2 r3 h0 h1 h2 h3 i0 i1 i2 i3 x0 x1 x2 x3 y0 y1 y2 y3 u s t p q R S w (w1.setCell ⟨b, i, none⟩ v) :=
  KL.set h b i v (by intro x hx; simp only [List.mem_cons, List.not_mem_nil, or_false] at hx; rcases hx with rfl | rfl | rfl | rfl | rfl | rfl | rfl | rfl | rfl | rfl | rfl | rfl | rfl | rfl | rfl | rfl | rfl | rfl | rfl | rfl | rfl | rfl | rfl | rfl | rfl | rfl | rfl | rfl <;> simp only [] <;> omega) (by omega)
theorem K_Df.bel {g0 g1 g2 g3 r0 r1 r2 r3 h0 h1 h2 h3 i0 i1 i2 i3 x0 x1 x2 x3 y0 y1 y2 y3 : Int} {u s t p q R S : Nat} {w w1 : World} (h : K_Df g0 g1 g2 g3 r0 r1 r2 r3 h0 h1 h2 h3 i0 i1 i2 i3 x0 x1 x2 x3 y0 y1 y2 y3 u s t p q R S w w1) : Below w.heap.size w w1 := KL.bel h
theorem K_Df.cells {g0 g1 g2 g3 r0 r1 r2 r3 h0 h1 h2 h3 i0 i1 i2 i3 x0 x1 x2 x3 y0 y1 y2 y3 : Int} {u s t p q R S : Nat} {w w' : World} (h : K_Df g0 g1 g2 g3 r0 r1 r2 r3 h0 h1 h2 h3 i0 i1 i2 i3 x0 x1 x2 x3 y0 y1 y2 y3 u s t p q R S w w') : w'.cell? ⟨u, 0, none⟩ = some (.int .i64 g0) ∧ w'.cell? ⟨u, 1, none⟩ = some (.int .i64 g1) ∧ w'.cell? ⟨u, 2, none⟩ = some (.int .i64 g2) ∧ w'.cell? ⟨u, 3, none⟩ = some (.int .i64 g3) ∧ w'.cell? ⟨t, 0, none⟩ = some (.int .i64 h0) ∧ w'.cell? ⟨t, 1, none⟩ = some (.int .i64 h1) ∧ w'.cell? ⟨t, 2, none⟩ = some (.int .i64 h2) ∧ w'.cell? ⟨t, 3, none⟩ = some (.int .i64 h3) ∧ w'.cell? ⟨s, 0, none⟩ = some (.int .i64 i0) ∧ w'.cell? ⟨s, 1, none⟩ = some (.int .i64 i1) ∧ w'.cell? ⟨s, 2, none⟩ = some (.int .i64 i2) ∧ w'.cell? ⟨s, 3, none⟩ = some (.int .i64 i3) ∧ w'.cell? ⟨p, 0, none⟩ = some (.int .i64 x0) ∧ w'.cell? ⟨p, 1, none⟩ = some (.int .i64 x1) ∧ w'.cell? ⟨p, 2, none⟩ = some (.int .i64 x2) ∧ w'.cell? ⟨p, 3, none⟩ = some (.int .i64 x3) ∧ w'.cell? ⟨q, 0, none⟩ = some (.int .i64 y0) ∧ w'.cell? ⟨q, 1, none⟩ = some (.int .i64 y1) ∧ w'.cell? ⟨q, 2, none⟩ = some (.int .i64 y2) ∧ w'.cell? ⟨q, 3, none⟩ = some (.int .i64 y3) ∧ w'.cell? ⟨R, 0, none⟩ = some (.int .i64 i0) ∧ w'.cell? ⟨R, 1, none⟩ = some (.int .i64 i1) ∧ w'.cell? ⟨R, 2, none⟩ = some (.int .i64 i2) ∧ w'.cell? ⟨R, 3, none⟩ = some (.int .i64 i3) ∧ w'.cell? ⟨S, 0, none⟩ = some (.int .i64 r0) ∧ w'.cell? ⟨S, 1, none⟩ = some (.int .i64 r1) ∧ w'.cell? ⟨S, 2, none⟩ = some (.int .i64 r2) ∧ w'.cell? ⟨S, 3, none⟩ = some (.int .i64 r3) ∧ w'.frozen? ⟨t, 0, none⟩ = false ∧ w'.frozen? ⟨t, 1, none⟩ = false ∧ w'.frozen? ⟨t, 2, none⟩ = false ∧ w'.frozen? ⟨t, 3, none⟩ = false ∧ w'.frozen? ⟨s, 0, none⟩ = false ∧ w'.frozen? ⟨s, 1, none⟩ = false ∧ w'.frozen? ⟨s, 2, none⟩ = false ∧ w'.frozen? ⟨s, 3, none⟩ = false ∧ w'.frozen? ⟨R, 0, none⟩ = false ∧ w'.frozen? ⟨R, 1, none⟩ = false ∧ w'.frozen? ⟨R, 2, none⟩ = false ∧ w'.frozen? ⟨R, 3, none⟩ = false ∧ w'.frozen? ⟨S, 0, none⟩ = false ∧ w'.frozen? ⟨S, 1, none⟩ = false ∧ w'.frozen? ⟨S, 2, none⟩ = false ∧ w'.frozen? ⟨S, 3, none⟩ = false := ⟨h.c (u, 0, .int .i64 g0) (by simp), h.c (u, 1, .int .i64 g1) (by simp), h.c (u, 2, .int .i64 g2) (by simp), h.c (u, 3, .int .i64 g3) (by simp), h.c (t, 0, .int .i64 h0) (by simp), h.c (t, 1, .int .i64 h1) (by simp), h.c (t, 2, .int .i64 h2) (by simp), h.c (t, 3, .int .i64 h3) (by simp), h.c (s, 0, .int .i64 i0) (by simp), h.c (s, 1, .int .i64 i1) (by simp), h.c (s, 2, .int .i64 i2) (by simp), h.c (s, 3, .int .i64 i3) (by simp), h.c (p, 0, .int .i64 x0) (by simp), h.c (p, 1, .int .i64 x1) (by simp), h.c (p, 2, .int .i64 x2) (by simp), h.c (p, 3, .int .i64 x3) (by simp), h.c (q, 0, .int .i64 y0) (by simp), h.c (q, 1, .int .i64 y1) (by simp), h.c (q, 2, .int .i64 y2) (by simp), h.c (q, 3, .int .i64 y3) (by simp), h.c (R, 0, .int .i64 i0) (by simp), h.c (R, 1, .int .i64 i1) (by simp), h.c (R, 2, .int .i64 i2) (by simp), h.c (R, 3, .int .i64 i3) (by simp), h.c (S, 0, .int .i64 r0) (by simp), h.c (S, 1, .int .i64 r1) (by simp), h.c (S, 2, .int .i64 r2) (by simp), h.c (S, 3, .int .i64 r3) (by simp), h.f (t, 0) (by simp), h.f (t, 1) (by simp), h.f (t, 2) (by simp), h.f (t, 3) (by simp), h.f (s, 0) (by simp), h.f (s, 1) (by simp), h.f (s, 2) (by simp), h.f (s, 3) (by simp), h.f (R, 0) (by simp), h.f (R, 1) (by simp), h.f (R, 2) (by simp), h.f (R, 3) (by simp), h.f (S, 0) (by simp), h.f (S, 1) (by simp), h.f (S, 2) (by simp), h.f (S, 3) (by simp)⟩
theorem K_Df.zs {g0 g1 g2 g3 r0 r1 r2 r3 h0 h1 h2 h3 i0 i1 i2 i3 x0 x1 x2 x3 y0 y1 y2 y3 : Int} {u s t p q R S : Nat} {w w' : World} (h : K_Df g0 g1 g2 g3 r0 r1 r2 r3 h0 h1 h2 h3 i0 i1 i2 i3 x0 x1 x2 x3 y0 y1 y2 y3 u s t p q R S w w') : u < w'.heap.size ∧ t < w'.heap.size ∧ s < w'.heap.size ∧ p < w'.heap.size ∧ q < w'.heap.size ∧ R < w'.heap.size ∧ S < w'.heap.size ∧ True := ⟨KL.z h (x := (u, 0, .int .i64 g0)) (by simp), KL.z h (x := (t, 0, .int .i64 h0)) (by simp), KL.z h (x := (s, 0, .int .i64 i0)) (by simp), KL.z h (x := (p, 0, .int .i64 x0)) (by simp), KL.z h (x := (q, 0, .int .i64 y0)) (by simp), KL.z h (x := (R, 0, .int .i64 i0)) (by simp), KL.z h (x := (S, 0, .int .i64 r0)) (by simp), trivial⟩
theorem K_Df.ks {g0 g1 g2 g3 r0 r1 r2 r3 h0 h1 h2 h3 i0 i1 i2 i3 x0 x1 x2 x3 y0 y1 y2 y3 : Int} {u s t p q R S : Nat} {w w' : World} (h : K_Df g0 g1 g2 g3 r0 r1 r2 r3 h0 h1 h2 h3 i0 i1 i2 i3 x0 x1 x2 x3 y0 y1 y2 y3 u s t p q R S w w') : (w'.cell? ⟨u, 0, none⟩ = some (.int .i64 g0) ∧ w'.cell? ⟨u, 1, none⟩ = some (.int .i64 g1) ∧ w'.cell? ⟨u, 2, none⟩ = some (.int .i64 g2) ∧ w'.cell? ⟨u, 3, none⟩ = some (.int .i64 g3) ∧ w'.cell? ⟨t, 0, none⟩ = some (.int .i64 h0) ∧ w'.cell? ⟨t, 1, none⟩ = some (.int .i64 h1) ∧ w'.cell? ⟨t, 2, none⟩ = some (.int .i64 h2) ∧ w'.cell? ⟨t, 3, none⟩ = some (.int .i64 h3) ∧ w'.cell? ⟨s, 0, none⟩ = some (.int .i64 i0) ∧ w'.cell? ⟨s, 1, none⟩ = some (.int .i64 i1) ∧ w'.cell? ⟨s, 2, none⟩ = some (.int .i64 i2) ∧ w'.cell? ⟨s, 3, none⟩ = some (.int .i64 i3) ∧ w'.cell? ⟨p, 0, none⟩ = some (.int .i64 x0) ∧ w'.cell? ⟨p, 1, none⟩ = some (.int .i64 x1) ∧ w'.cell? ⟨p, 2, none⟩ = some (.int .i64 x2) ∧ w'.cell? ⟨p, 3, none⟩ = some (.int .i64 x3) ∧ w'.cell? ⟨q, 0, none⟩ = some (.int .i64 y0) ∧ w'.cell? ⟨q, 1, none⟩ = some (.int .i64 y1) ∧ w'.cell? ⟨q, 2, none⟩ = some (.int .i64 y2) ∧ w'.cell? ⟨q, 3, none⟩ = some (.int .i64 y3) ∧ w'.cell? ⟨R, 0, none⟩ = some (.int .i64 i0) ∧ w'.cell? ⟨R, 1, none⟩ = some (.int .i64 i1) ∧ w'.cell? ⟨R, 2, none⟩ = some (.int .i64 i2) ∧ w'.cell? ⟨R, 3, none⟩ = some (.int .i64 i3) ∧ w'.cell? ⟨S, 0, none⟩ = some (.int .i64 r0) ∧ w'.cell? ⟨S, 1, none⟩ = some (.int .i64 r1) ∧ w'.cell? ⟨S, 2, none⟩ = some (.int .i64 r2) ∧ w'.cell? ⟨S, 3, none⟩ = some (.int .i64 r3) ∧ w'.frozen? ⟨t, 0, none⟩ = false ∧ w'.frozen? ⟨t, 1, none⟩ = false ∧ w'.frozen? ⟨t, 2, none⟩ = false ∧ w'.frozen? ⟨t, 3, none⟩ = false ∧ w'.frozen? ⟨s, 0, none⟩ = false ∧ w'.frozen? ⟨s, 1, none⟩ = false ∧ w'.frozen? ⟨s, 2, none⟩ = false ∧ w'.frozen? ⟨s, 3, none⟩ = false ∧ w'.frozen? ⟨R, 0, none⟩ = false ∧ w'.frozen? ⟨R, 1, none⟩ = false ∧ w'.frozen? ⟨R, 2, none⟩ = false ∧ w'.frozen? ⟨R, 3, none⟩ = false ∧ w'.frozen? ⟨S, 0, none⟩ = false ∧ w'.frozen? ⟨S, 1, none⟩ = false ∧ w'.frozen? ⟨S, 2, none⟩ = false ∧ w'.frozen? ⟨S, 3, none⟩ = false) ∧ K_Df g0 g1 g2 g3 r0 r1 r2 r3 h0 h1 h2 h3 i0 i1 i2 i3 x0 x1 x2 x3 y0 y1 y2 y3 u s t p q R S w w' := ⟨h.cells, h⟩
theorem merge_rest1d {Goal : Prop} {K : Nat → World → Prop} (G : Nat → World → Prop) (main : Hid (∀ p w, K p w → G p w) → Goal) (rest : ∀ p w, K p w → G p w) : Goal := main (Lib.hid rest)
/-- what a walk keeps: cells, and that nothing that was there has turned -/
def K_Dw (i0 i1 i2 i3 h0 h1 h2 h3 x0 x1 x2 x3 y0 y1 y2 y3 : Int) (s t p q R S : Nat) (w w' : World) : Prop := KL w [(t, 0, .int .i64 h0), (t, 1, .int .i64 h1), (t, 2, .int .i64 h2), (t, 3, .int .i64 h3), (s, 0, .int .i64 i0), (s, 1, .int .i64 i1), (s, 2, .int .i64 i2), (s, 3, .int .i64 i3), (p, 0, .int .i64 x0), (p, 1, .int .i64 x1), (p, 2, .int .i64 x2), (p, 3, .int .i64 x3), (q, 0, .int .i64 y0), (q, 1, .int .i64 y1), (q, 2, .int .i64 y2), (q, 3, .int .i64 y3)] [(R, 0), (R, 1), (R, 2), (R, 3), (S, 0), (S, 1), (S, 2), (S, 3)] w'
theorem K_Dw.below {i0 i1 i2 i3 h0 h1 h2 h3 x0 x1 x2 x3 y0 y1 y2 y3 : Int} {s t p q R S : Nat} {w w1 w2 : World} (hb : Below w1.heap.size w1 w2) (h : K_Dw i0 i1 i2 i3 h0 h1 h2 h3 x0 x1 x2 x3 y0 y1 y2 y3 s t p q R S w w1) : K_Dw i0 i1 i2 i3 h0 h1 h2 h3 x0 x1 x2 x3 y0 y1 y2 y3 s t p q R S w w2 := KL.below hb h
theorem K_Dw.draws {i0 i1 i2 i3 h0 h1 h2 h3 x0 x1 x2 x3 y0 y1 y2 y3 : Int} {s t p q R S : Nat} {w w1 : World} (n : Nat) (h : K_Dw i0 i1 i2 i3 h0 h1 h2 h3 x0 x1 x2 x3 y0 y1 y2 y3 s t p q R S w w1) : K_Dw i0 i1 i2 i3 h0 h1 h2 h3 x0 x1 x2 x3 y0 y1 y2 y3 s t p q R S w (w1.drewN n) := KL.draws n h
theorem K_Dw.drew {i0 i1 i2 i3 h0 h1 h2 h3 x0 x1 x2 x3 y0 y1 y2 y3 : Int} {s t p q R S : Nat} {w w1 : World} (h : K_Dw i0 i1 i2 i3 h0 h1 h2 h3 x0 x1 x2 x3 y0 y1 y2 y3 s t p q R S w w1) : K_Dw i0 i1 i2 i3 h0 h1 h2 h3 x0 x1 x2 x3 y0 y1 y2 y3 s t p q R S w w1.drew := KL.draws 1 h
theorem K_Dw.alloc {i0 i1 i2 i3 h0 h1 h2 h3 x0 x1 x2 x3 y0 y1 y2 y3 : Int} {s t p q R S : Nat} {w w1 : World} (o : Obj) (h : K_Dw i0 i1 i2 i3 h0 h1 h2 h3 x0 x1 x2 x3 y0 y1 y2 y3 s t p q R S w w1) : K_Dw i0 i1 i2 i3 h0 h1 h2 h3 x0 x1 x2 x3 y0 y1 y2 y3 s t p q R S w (w1.alloc o) := KL.alloc o h
theorem K_Dw.set {i0 i1 i2 i3 h0 h1 h2 h3 x0 x1 x2 x3 y0 y1 y2 y3 : Int} {s t p q R S : Nat} {w w1 : World} (h : K_Dw i0 i1 i2 i3 h0 h1 h2 h3 x0 x1 x2 x3 y0 y1 y2 y3 s t p q R S w w1) (b i : Nat) (v : Value) (hb : b ≠ t ∧ b ≠ s ∧ b ≠ p ∧ b ≠ q ∧ w.heap.size ≤ b) : K_Dw i0 i1 i2 i3 h0 h1 h2 h3 x0 x1 x2 x3 y0 y1 y2 y3 s t p q R S w (w1.setCell ⟨b, i, none⟩ v) :=
  KL.set h b i v (by intro x hx; simp only [List.mem_cons, List.not_mem_nil, or_false] at hx; rcases hx with rfl | rfl | rfl | rfl | rfl | rfl | rfl | rfl | rfl | rfl | rfl | rfl | rfl | rfl | rfl | rfl <;> simp only [] <;> omega) (by omega)
theorem K_Dw.bel {i0 i1 i2 i3 h0 h1 h2 h3 x0 x1 x2 x3 y0 y1 y2 y3 : Int} {s t p q R S : Nat} {w w1 : World} (h : K_Dw i0 i1 i2 i3 h0 h1 h2 h3 x0 x1 x2 x3 y0 y1 y2 y3 s t p q R S w w1) : Below w.heap.size w w1 := KL.bel h
theorem K_Dw.cells {i0 i1 i2 i3 h0 h1 h2 h3 x0 x1 x2 x3 y0 y1 y2 y3 : Int} {s t p q R S : Nat} {w w' : World} (h : K_Dw i0 i1 i2 i3 h0 h1 h2 h3 x0 x1 x2 x3 y0 y1 y2 y3 s t p q R S w w') : w'.cell? ⟨t, 0, none⟩ = some (.int .i64 h0) ∧ w'.cell? ⟨t, 1, none⟩ = some (.int .i64 h1) ∧ w'.cell? ⟨t, 2, none⟩ = some (.int .i64 h2) ∧ w'.cell? ⟨t, 3, none⟩ = some (.int .i64 h3) ∧ w'.cell? ⟨s, 0, none⟩ = some (.int .i64 i0) ∧ w'.cell? ⟨s, 1, none⟩ = some (.int .i64 i1) ∧ w'.cell? ⟨s, 2, none⟩ = some (.int .i64 i2) ∧ w'.cell? ⟨s, 3, none⟩ = some (.int .i64 i3) ∧ w'.cell? ⟨p, 0, none⟩ = some (.int .i64 x0) ∧ w'.cell? ⟨p, 1, none⟩ = some (.int .i64 x1) ∧ w'.cell? ⟨p, 2, none⟩ = some (.int .i64 x2) ∧ w'.cell? ⟨p, 3, none⟩ = some (.int .i64 x3) ∧ w'.cell? ⟨q, 0, none⟩ = some (.int .i64 y0) ∧ w'.cell? ⟨q, 1, none⟩ = some (.int .i64 y1) ∧ w'.cell? ⟨q, 2, none⟩ = some (.int .i64 y2) ∧ w'.cell? ⟨q, 3, none⟩ = some (.int .i64 y3) ∧ w'.cell? ⟨R, 0, none⟩ = some (cv w' R 0) ∧ w'.frozen? ⟨R, 0, none⟩ = false ∧ w'.cell? ⟨R, 1, none⟩ = some (cv w' R 1) ∧ w'.frozen? ⟨R, 1, none⟩ = false ∧ w'.cell? ⟨R, 2, none⟩ = some (cv w' R 2) ∧ w'.frozen? ⟨R, 2, none⟩ = false ∧ w'.cell? ⟨R, 3, none⟩ = some (cv w' R 3) ∧ w'.frozen? ⟨R, 3, none⟩ = false ∧ w'.cell? ⟨S, 0, none⟩ = some (cv w' S 0) ∧ w'.frozen? ⟨S, 0, none⟩ = false ∧ w'.cell? ⟨S, 1, none⟩ = some (cv w' S 1) ∧ w'.frozen? ⟨S, 1, none⟩ = false ∧ w'.cell? ⟨S, 2, none⟩ = some (cv w' S 2) ∧ w'.frozen? ⟨S, 2, none⟩ = false ∧ w'.cell? ⟨S, 3, none⟩ = some (cv w' S 3) ∧ w'.frozen? ⟨S, 3, none⟩ = false := ⟨h.c (t, 0, .int .i64 h0) (by simp), h.c (t, 1, .int .i64 h1) (by simp), h.c (t, 2, .int .i64 h2) (by simp), h.c (t, 3, .int .i64 h3) (by simp), h.c (s, 0, .int .i64 i0) (by simp), h.c (s, 1, .int .i64 i1) (by simp), h.c (s, 2, .int .i64 i2) (by simp), h.c (s, 3, .int .i64 i3) (by simp), h.c (p, 0, .int .i64 x0) (by simp), h.c (p, 1, .int .i64 x1) (by simp), h.c (p, 2, .int .i64 x2) (by simp), h.c (p, 3, .int .i64 x3) (by simp), h.c (q, 0, .int .i64 y0) (by simp), h.c (q, 1, .int .i64 y1) (by simp), h.c (q, 2, .int .i64 y2) (by simp), h.c (q, 3, .int .i64 y3) (by simp), h.d (R, 0) (by simp), h.f (R, 0) (by simp), h.d (R, 1) (by simp), h.f (R, 1) (by simp), h.d (R, 2) (by simp), h.f (R, 2) (by simp), h.d (R, 3) (by simp), h.f (R, 3) (by simp), h.d (S, 0) (by simp), h.f (S, 0) (by simp), h.d (S, 1) (by simp), h.f (S, 1) (by simp), h.d (S, 2) (by simp), h.f (S, 2) (by simp), h.d (S, 3) (by simp), h.f (S, 3) (by simp)⟩
theorem K_Dw.zs {i0 i1 i2 i3 h0 h1 h2 h3 x0 x1 x2 x3 y0 y1 y2 y3 : Int} {s t p q R S : Nat} {w w' : World} (h : K_Dw i0 i1 i2 i3 h0 h1 h2 h3 x0 x1 x2 x3 y0 y1 y2 y3 s t p q R S w w') : t < w'.heap.size ∧ s < w'.heap.size ∧ p < w'.heap.size ∧ q < w'.heap.size ∧ R < w'.heap.size ∧ S < w'.heap.size ∧ True := ⟨KL.z h (x := (t, 0, .int .i64 h0)) (by simp), KL.z h (x := (s, 0, .int .i64 i0)) (by simp), KL.z h (x := (p, 0, .int .i64 x0)) (by simp), KL.z h (x := (q, 0, .int .i64 y0)) (by simp), KL.zf h (x := (R, 0)) (by simp), KL.zf h (x := (S, 0)) (by simp), trivial⟩
theorem K_Dw.ks {i0 i1 i2 i3 h0 h1 h2 h3 x0 x1 x2 x3 y0 y1 y2 y3 : Int} {s t p q R S : Nat} {w w' : World} (h : K_Dw i0 i1 i2 i3 h0 h1 h2 h3 x0 x1 x2 x3 y0 y1 y2 y3 s t p q R S w w') : (w'.cell? ⟨t, 0, none⟩ = some (.int .i64 h0) ∧ w'.cell? ⟨t, 1, none⟩ = some (.int .i64 h1) ∧ w'.cell? ⟨t, 2, none⟩ = some (.int .i64 h2) ∧ w'.cell? ⟨t, 3, none⟩ = some (.int .i64 h3) ∧ w'.cell? ⟨s, 0, none⟩ = some (.int .i64 i0) ∧ w'.cell? ⟨s, 1, none⟩ = some (.int .i64 i1) ∧ w'.cell? ⟨s, 2, none⟩ = some (.int .i64 i2) ∧ w'.cell? ⟨s, 3, none⟩ = some (.int .i64 i3) ∧ w'.cell? ⟨p, 0, none⟩ = some (.int .i64 x0) ∧ w'.cell? ⟨p, 1, none⟩ = some (.int .i64 x1) ∧ w'.cell? ⟨p, 2, none⟩ = some (.int .i64 x2) ∧ w'.cell? ⟨p, 3, none⟩ = some (.int .i64 x3) ∧ w'.cell? ⟨q, 0, none⟩ = some (.int .i64 y0) ∧ w'.cell? ⟨q, 1, none⟩ = some (.int .i64 y1) ∧ w'.cell? ⟨q, 2, none⟩ = some (.int .i64 y2) ∧ w'.cell? ⟨q, 3, none⟩ = some (.int .i64 y3) ∧ w'.cell? ⟨R, 0, none⟩ = some (cv w' R 0) ∧ w'.frozen? ⟨R, 0, none⟩ = false ∧ w'.cell? ⟨R, 1, none⟩ = some (cv w' R 1) ∧ w'.frozen? ⟨R, 1, none⟩ = false ∧ w'.cell? ⟨R, 2, none⟩ = some (cv w' R 2) ∧ w'.frozen? ⟨R, 2, none⟩ = false ∧ w'.cell? ⟨R, 3, none⟩ = some (cv w' R 3) ∧ w'.frozen? ⟨R, 3, none⟩ = false ∧ w'.cell? ⟨S, 0, none⟩ = some (cv w' S 0) ∧ w'.frozen? ⟨S, 0, none⟩ = false ∧ w'.cell? ⟨S, 1, none⟩ = some (cv w' S 1) ∧ w'.frozen? ⟨S, 1, none⟩ = false ∧ w'.cell? ⟨S, 2, none⟩ = some (cv w' S 2) ∧ w'.frozen? ⟨S, 2, none⟩ = false ∧ w'.cell? ⟨S, 3, none⟩ = some (cv w' S 3) ∧ w'.frozen? ⟨S, 3, none⟩ = false) ∧ K_Dw i0 i1 i2 i3 h0 h1 h2 h3 x0 x1 x2 x3 y0 y1 y2 y3 s t p q R S w w' := ⟨h.cells, h⟩
set_option maxHeartbeats 6400000 in
theorem divided_any (x y : H) (w : World) (hx : par x) (hy : par y) (sx : sm x) (sy : sm y) (hn : 0 < nn y) :
    Calls Try.prog 84 #[.agg #[.int .i64 (x).w, .int .i64 (x).x, .int .i64 (x).y, .int .i64 (x).z], .agg #[.int .i64 (y).w, .int .i64 (y).x, .int .i64 (y).y, .int .i64 (y).z]] w fun e w' => e = .returned (.tuple #[.agg #[.int .i64 (quo x y).w, .int .i64 (quo x y).x, .int .i64 (quo x y).y, .int .i64 (quo x y).z], .agg #[.int .i64 (rem x y).w, .int .i64 (rem x y).x, .int .i64 (rem x y).y, .int .i64 (rem x y).z]]) ∧ Below w.heap.size w w' := by
  have bx := sm_bd sx
  have byy := sm_bd sy
  have bc := P_bd4 (HB_conj byy) bx
  have bn : nn y ≤ 16000000000000 := sy
  obtain ⟨qi_bd, qh_bd⟩ := qi_le (X := 4000000) (by omega) bx.1 bx.2.1 bx.2.2.1 bx.2.2.2 hn
  have CJ := Lib.hid (fun W => conj_f y.w y.x y.y y.z W (by have := byy.2.1; omega) (by have := byy.2.2.1; omega) (by have := byy.2.2.2; omega))
  have TM := Lib.hid (fun W => times_f y.w (-y.x) (-y.y) (-y.z) x.w x.x x.y x.z W (by have := byy.1; omega) (by have := byy.2.1; omega) (by have := byy.2.2.1; omega) (by have := byy.2.2.2; omega) (by have := bx.1; omega) (by have := bx.2.1; omega) (by have := bx.2.2.1; omega) (by have := bx.2.2.2; omega))
  have SQ := Lib.hid (fun W => squares_f y.w y.x y.y y.z W (by have := byy.1; omega) (by have := byy.2.1; omega) (by have := byy.2.2.1; omega) (by have := byy.2.2.2; omega))
  have QU := Lib.hid (fun W => quotients_any (P y.conj x) (nn y) W (HB.up bc (by decide)) hn (by omega))
  have hbi : HB 100000000 (qi (P y.conj x) (nn y)) := ⟨by omega, by omega, by omega, by omega⟩
  have hbh : HB 100000000 (qh (P y.conj x) (nn y)) := ⟨by omega, by omega, by omega, by omega⟩
  have BI := Lib.hid (fun W => by_h y (qi (P y.conj x) (nn y)) W (HB.up byy (by decide)) hbi)
  have BH := Lib.hid (fun W => by_h y (qh (P y.conj x) (nn y)) W (HB.up byy (by decide)) hbh)
  have pbi : HB 40000000000000000 (by_ y (qi (P y.conj x) (nn y))) := by
    obtain ⟨g0, g1, g2, g3⟩ := P_bd (HB.up byy (by decide)) hbi
    have t0 := tdiv_bd (P y (qi (P y.conj x) (nn y))).w 2; have t1 := tdiv_bd (P y (qi (P y.conj x) (nn y))).x 2; have t2 := tdiv_bd (P y (qi (P y.conj x) (nn y))).y 2; have t3 := tdiv_bd (P y (qi (P y.conj x) (nn y))).z 2
    unfold by_ H.ov
    exact ⟨by simp only; omega, by simp only; omega, by simp only; omega, by simp only; omega⟩
  have pbh : HB 40000000000000000 (by_ y (qh (P y.conj x) (nn y))) := by
    obtain ⟨g0, g1, g2, g3⟩ := P_bd (HB.up byy (by decide)) hbh
    have t0 := tdiv_bd (P y (qh (P y.conj x) (nn y))).w 2; have t1 := tdiv_bd (P y (qh (P y.conj x) (nn y))).x 2; have t2 := tdiv_bd (P y (qh (P y.conj x) (nn y))).y 2; have t3 := tdiv_bd (P y (qh (P y.conj x) (nn y))).z 2
    unfold by_ H.ov
    exact ⟨by simp only; omega, by simp only; omega, by simp only; omega, by simp only; omega⟩
  have MI := Lib.hid (fun W => minus_f x.w x.x x.y x.z (by_ y (qi (P y.conj x) (nn y))).w (by_ y (qi (P y.conj x) (nn y))).x (by_ y (qi (P y.conj x) (nn y))).y (by_ y (qi (P y.conj x) (nn y))).z W (by have := bx.1; omega) (by have := bx.2.1; omega) (by have := bx.2.2.1; omega) (by have := bx.2.2.2; omega) (by have := pbi.1; omega) (by have := pbi.2.1; omega) (by have := pbi.2.2.1; omega) (by have := pbi.2.2.2; omega))
  have MH := Lib.hid (fun W => minus_f x.w x.x x.y x.z (by_ y (qh (P y.conj x) (nn y))).w (by_ y (qh (P y.conj x) (nn y))).x (by_ y (qh (P y.conj x) (nn y))).y (by_ y (qh (P y.conj x) (nn y))).z W (by have := bx.1; omega) (by have := bx.2.1; omega) (by have := bx.2.2.1; omega) (by have := bx.2.2.2; omega) (by have := pbh.1; omega) (by have := pbh.2.1; omega) (by have := pbh.2.2.1; omega) (by have := pbh.2.2.2; omega))
  have bri : HB 4000000 (ri x y) := sm_bd (by have := ri_le hx hy hn; unfold sm at *; omega)
  have brh : HB 4000000 (rh x y) := sm_bd (by have := rh_le hx hy hn; unfold sm at *; omega)
  have NI := Lib.hid (fun W => norm_f (ri x y).w (ri x y).x (ri x y).y (ri x y).z W (by have := bri.1; omega) (by have := bri.2.1; omega) (by have := bri.2.2.1; omega) (by have := bri.2.2.2; omega))
  have NH := Lib.hid (fun W => norm_f (rh x y).w (rh x y).x (rh x y).y (rh x y).z W (by have := brh.1; omega) (by have := brh.2.1; omega) (by have := brh.2.2.1; omega) (by have := brh.2.2.2; omega))
  rw [show (H.mk (ri x y).w (ri x y).x (ri x y).y (ri x y).z) = ri x y from rfl] at NI
  rw [show (H.mk (rh x y).w (rh x y).x (rh x y).y (rh x y).z) = rh x y from rfl] at NH
  rw [show (H.mk y.w (-y.x) (-y.y) (-y.z)) = y.conj from rfl, show (H.mk x.w x.x x.y x.z) = x from rfl] at TM
  rw [show (H.mk y.w y.x y.y y.z) = y from rfl] at SQ
  have e1 : (ri x y) = ⟨x.w - (by_ y (qi (P y.conj x) (nn y))).w, x.x - (by_ y (qi (P y.conj x) (nn y))).x, x.y - (by_ y (qi (P y.conj x) (nn y))).y, x.z - (by_ y (qi (P y.conj x) (nn y))).z⟩ := rfl
  have e2 : (rh x y) = ⟨x.w - (by_ y (qh (P y.conj x) (nn y))).w, x.x - (by_ y (qh (P y.conj x) (nn y))).x, x.y - (by_ y (qh (P y.conj x) (nn y))).y, x.z - (by_ y (qh (P y.conj x) (nn y))).z⟩ := rfl
  have WO := Lib.hid (show (N (rh x y) < N (ri x y) ∧ quo x y = qh (P y.conj x) (nn y) ∧ rem x y = rh x y) ∨ (¬ N (rh x y) < N (ri x y) ∧ quo x y = qi (P y.conj x) (nn y) ∧ rem x y = ri x y) by
    by_cases h : N (rh x y) < N (ri x y)
    · exact .inl ⟨h, if_pos h, if_pos h⟩
    · exact .inr ⟨h, if_neg h, if_neg h⟩)
  clear hx hy sx sy hn bx byy bc bn qi_bd qh_bd hbi hbh pbi pbh bri brh
  generalize quo x y = Qo at *
  generalize rem x y = Re at *
  generalize ri x y = ra at *
  generalize rh x y = rb at *
  generalize by_ y (qi (P y.conj x) (nn y)) = ba at *
  generalize by_ y (qh (P y.conj x) (nn y)) = bb at *
  generalize qi (P y.conj x) (nn y) = qa at *
  generalize qh (P y.conj x) (nn y) = qb at *
  generalize P y.conj x = pc at *
  generalize nn y = d at *
  generalize N ra = na at *
  generalize N rb = nb at *
  obtain ⟨x0, x1, x2, x3⟩ := x
  obtain ⟨y0, y1, y2, y3⟩ := y
  obtain ⟨pc0, pc1, pc2, pc3⟩ := pc
  obtain ⟨qa0, qa1, qa2, qa3⟩ := qa
  obtain ⟨qb0, qb1, qb2, qb3⟩ := qb
  obtain ⟨ba0, ba1, ba2, ba3⟩ := ba
  obtain ⟨bb0, bb1, bb2, bb3⟩ := bb
  simp only [] at CJ TM SQ QU BI BH MI MH e1 e2
  subst e1 e2
  simp only [] at NI NH
  generalize x0 - ba0 = r0 at *
  generalize x1 - ba1 = r1 at *
  generalize x2 - ba2 = r2 at *
  generalize x3 - ba3 = r3 at *
  generalize x0 - bb0 = s0 at *
  generalize x1 - bb1 = s1 at *
  generalize x2 - bb2 = s2 at *
  generalize x3 - bb3 = s3 at *
  go_enter Try.func84, Try.ntmps84
  go_wp2_with fail
  have hk : K_Dv x0 x1 x2 x3 y0 y1 y2 y3 w.heap.size (w.heap.size + 1) (w.heap.size + 2) (w.heap.size + 3) w ((((w.alloc (.cells #[.int .i64 x0, .int .i64 x1, .int .i64 x2, .int .i64 x3] 97)).alloc (.cells #[.int .i64 y0, .int .i64 y1, .int .i64 y2, .int .i64 y3] 97)).alloc (.cells #[.int .i64 0, .int .i64 0, .int .i64 0, .int .i64 0] 97)).alloc (.cells #[.int .i64 0, .int .i64 0, .int .i64 0, .int .i64 0] 97)) := ⟨by simp [go_sem], by simp [go_sem], by simp [go_sem], by (repeat (first | (with_reducible exact Below.refl _ _) | (with_reducible exact HB.out) | (with_reducible refine below_draws ?_ _) | (with_reducible refine Below.alloc ?_ (by go_size) _) | (with_reducible refine Below.setCell ?_ (by go_size) _) | (with_reducible refine Below.alloc ?_ (by simp <;> omega) _) | (with_reducible refine Below.setCell ?_ (by simp <;> omega) _)))⟩
  generalize ((((w.alloc (.cells #[.int .i64 x0, .int .i64 x1, .int .i64 x2, .int .i64 x3] 97)).alloc (.cells #[.int .i64 y0, .int .i64 y1, .int .i64 y2, .int .i64 y3] 97)).alloc (.cells #[.int .i64 0, .int .i64 0, .int .i64 0, .int .i64 0] 97)).alloc (.cells #[.int .i64 0, .int .i64 0, .int .i64 0, .int .i64 0] 97)) = wa at hk ⊢
  -- STATES
  refine wp_region_held_drew (S := (fun w' => (w'.cell? ⟨w.heap.size, 0, none⟩ = some (.int .i64 x0) ∧ w'.cell? ⟨w.heap.size, 1, none⟩ = some (.int .i64 x1) ∧ w'.cell? ⟨w.heap.size, 2, none⟩ = some (.int .i64 x2) ∧ w'.cell? ⟨w.heap.size, 3, none⟩ = some (.int .i64 x3) ∧ w'.cell? ⟨(w.heap.size + 1), 0, none⟩ = some (.int .i64 y0) ∧ w'.cell? ⟨(w.heap.size + 1), 1, none⟩ = some (.int .i64 y1) ∧ w'.cell? ⟨(w.heap.size + 1), 2, none⟩ = some (.int .i64 y2) ∧ w'.cell? ⟨(w.heap.size + 1), 3, none⟩ = some (.int .i64 y3) ∧ w'.cell? ⟨(w.heap.size + 2), 0, none⟩ = some (cv w' ((w.heap.size + 2)) 0) ∧ w'.frozen? ⟨(w.heap.size + 2), 0, none⟩ = false ∧ w'.cell? ⟨(w.heap.size + 2), 1, none⟩ = some (cv w' ((w.heap.size + 2)) 1) ∧ w'.frozen? ⟨(w.heap.size + 2), 1, none⟩ = false ∧ w'.cell? ⟨(w.heap.size + 2), 2, none⟩ = some (cv w' ((w.heap.size + 2)) 2) ∧ w'.frozen? ⟨(w.heap.size + 2), 2, none⟩ = false ∧ w'.cell? ⟨(w.heap.size + 2), 3, none⟩ = some (cv w' ((w.heap.size + 2)) 3) ∧ w'.frozen? ⟨(w.heap.size + 2), 3, none⟩ = false ∧ w'.cell? ⟨(w.heap.size + 3), 0, none⟩ = some (cv w' ((w.heap.size + 3)) 0) ∧ w'.frozen? ⟨(w.heap.size + 3), 0, none⟩ = false ∧ w'.cell? ⟨(w.heap.size + 3), 1, none⟩ = some (cv w' ((w.heap.size + 3)) 1) ∧ w'.frozen? ⟨(w.heap.size + 3), 1, none⟩ = false ∧ w'.cell? ⟨(w.heap.size + 3), 2, none⟩ = some (cv w' ((w.heap.size + 3)) 2) ∧ w'.frozen? ⟨(w.heap.size + 3), 2, none⟩ = false ∧ w'.cell? ⟨(w.heap.size + 3), 3, none⟩ = some (cv w' ((w.heap.size + 3)) 3) ∧ w'.frozen? ⟨(w.heap.size + 3), 3, none⟩ = false) ∧ K_Dv x0 x1 x2 x3 y0 y1 y2 y3 w.heap.size (w.heap.size + 1) (w.heap.size + 2) (w.heap.size + 3) w w')) (by kernel_rfl) ?_ (fun hHeld => ?_)
  · ((refine K_Dv.ks ?_; repeat (first | (with_reducible assumption) | (with_reducible refine K_Dv.draws _ ?_) | (with_reducible refine K_Dv.drew ?_) | (with_reducible refine K_Dv.alloc _ ?_) | (with_reducible refine K_Dv.set ?_ _ _ _ (by omega)))))
  have hD := K_Dv.drew hk
  clear hk
  generalize wa.drew = W0 at hD hHeld ⊢
  have hK := hD
  refine merge_rest2 (K := fun p q W => (K_Dq x0 x1 x2 x3 y0 y1 y2 y3 p q w.heap.size (w.heap.size + 1) (w.heap.size + 2) (w.heap.size + 3) w W) ∧ (w.heap.size + 3 < p ∧ w.heap.size + 3 < q ∧ p ≠ q)) ?G411 ?M411 ?R411
  case M411 =>
    intro REST411
    refine merge_rest2 (K := fun p q W => (K_Dp x0 x1 x2 x3 y0 y1 y2 y3 p w.heap.size (w.heap.size + 1) (w.heap.size + 2) (w.heap.size + 3) w W) ∧ w.heap.size + 3 < p) ?G410 ?M410 ?R410
    case M410 =>
      intro REST410
      refine merge_rest2 (K := fun p q W => (K_Dp x0 x1 x2 x3 y0 y1 y2 y3 q w.heap.size (w.heap.size + 1) (w.heap.size + 2) (w.heap.size + 3) w W) ∧ w.heap.size + 3 < q) ?G401 ?M401 ?R401
      case M401 =>
        intro REST401
        refine merge_rest2 (K := fun p q W => (K_Dq x0 x1 x2 x3 y0 y1 y2 y3 p q w.heap.size (w.heap.size + 1) (w.heap.size + 2) (w.heap.size + 3) w W) ∧ (w.heap.size + 3 < p ∧ w.heap.size + 3 < q ∧ p ≠ q)) ?G311 ?M311 ?R311
        case M311 =>
          intro REST311
          refine merge_rest2 (K := fun p q W => (K_Dv x0 x1 x2 x3 y0 y1 y2 y3 w.heap.size (w.heap.size + 1) (w.heap.size + 2) (w.heap.size + 3) w W) ∧ True) ?G400 ?M400 ?R400
          case M400 =>
            intro REST400
            refine merge_rest2 (K := fun p q W => (K_Dp x0 x1 x2 x3 y0 y1 y2 y3 p w.heap.size (w.heap.size + 1) (w.heap.size + 2) (w.heap.size + 3) w W) ∧ w.heap.size + 3 < p) ?G310 ?M310 ?R310
            case M310 =>
              intro REST310
              refine merge_rest2 (K := fun p q W => (K_Dp x0 x1 x2 x3 y0 y1 y2 y3 q w.heap.size (w.heap.size + 1) (w.heap.size + 2) (w.heap.size + 3) w W) ∧ w.heap.size + 3 < q) ?G301 ?M301 ?R301
              case M301 =>
                intro REST301
                refine merge_rest2 (K := fun p q W => (K_Dq x0 x1 x2 x3 y0 y1 y2 y3 p q w.heap.size (w.heap.size + 1) (w.heap.size + 2) (w.heap.size + 3) w W) ∧ (w.heap.size + 3 < p ∧ w.heap.size + 3 < q ∧ p ≠ q)) ?G211 ?M211 ?R211
                case M211 =>
                  intro REST211
                  refine merge_rest2 (K := fun p q W => (K_Dv x0 x1 x2 x3 y0 y1 y2 y3 w.heap.size (w.heap.size + 1) (w.heap.size + 2) (w.heap.size + 3) w W) ∧ True) ?G300 ?M300 ?R300
                  case M300 =>
                    intro REST300
                    refine merge_rest2 (K := fun p q W => (K_Dp x0 x1 x2 x3 y0 y1 y2 y3 p w.heap.size (w.heap.size + 1) (w.heap.size + 2) (w.heap.size + 3) w W) ∧ w.heap.size + 3 < p) ?G210 ?M210 ?R210
                    case M210 =>
                      intro REST210
                      refine merge_rest2 (K := fun p q W => (K_Dp x0 x1 x2 x3 y0 y1 y2 y3 q w.heap.size (w.heap.size + 1) (w.heap.size + 2) (w.heap.size + 3) w W) ∧ w.heap.size + 3 < q) ?G201 ?M201 ?R201
                      case M201 =>
                        intro REST201
                        refine merge_rest2 (K := fun p q W => (K_Dq x0 x1 x2 x3 y0 y1 y2 y3 p q w.heap.size (w.heap.size + 1) (w.heap.size + 2) (w.heap.size + 3) w W) ∧ (w.heap.size + 3 < p ∧ w.heap.size + 3 < q ∧ p ≠ q)) ?G111 ?M111 ?R111
                        case M111 =>
                          intro REST111
                          refine merge_rest2 (K := fun p q W => (K_Dv x0 x1 x2 x3 y0 y1 y2 y3 w.heap.size (w.heap.size + 1) (w.heap.size + 2) (w.heap.size + 3) w W) ∧ True) ?G200 ?M200 ?R200
                          case M200 =>
                            intro REST200
                            refine merge_rest2 (K := fun p q W => (K_Dp x0 x1 x2 x3 y0 y1 y2 y3 p w.heap.size (w.heap.size + 1) (w.heap.size + 2) (w.heap.size + 3) w W) ∧ w.heap.size + 3 < p) ?G110 ?M110 ?R110
                            case M110 =>
                              intro REST110
                              refine merge_rest2 (K := fun p q W => (K_Dp x0 x1 x2 x3 y0 y1 y2 y3 q w.heap.size (w.heap.size + 1) (w.heap.size + 2) (w.heap.size + 3) w W) ∧ w.heap.size + 3 < q) ?G101 ?M101 ?R101
                              case M101 =>
                                intro REST101
                                refine merge_rest2 (K := fun p q W => (K_Dq x0 x1 x2 x3 y0 y1 y2 y3 p q w.heap.size (w.heap.size + 1) (w.heap.size + 2) (w.heap.size + 3) w W) ∧ (w.heap.size + 3 < p ∧ w.heap.size + 3 < q ∧ p ≠ q)) ?G011 ?M011 ?R011
                                case M011 =>
                                  intro REST011
                                  refine merge_rest2 (K := fun p q W => (K_Dv x0 x1 x2 x3 y0 y1 y2 y3 w.heap.size (w.heap.size + 1) (w.heap.size + 2) (w.heap.size + 3) w W) ∧ True) ?G100 ?M100 ?R100
                                  case M100 =>
                                    intro REST100
                                    refine merge_rest2 (K := fun p q W => (K_Dp x0 x1 x2 x3 y0 y1 y2 y3 p w.heap.size (w.heap.size + 1) (w.heap.size + 2) (w.heap.size + 3) w W) ∧ w.heap.size + 3 < p) ?G010 ?M010 ?R010
                                    case M010 =>
                                      intro REST010
                                      refine merge_rest2 (K := fun p q W => (K_Dp x0 x1 x2 x3 y0 y1 y2 y3 q w.heap.size (w.heap.size + 1) (w.heap.size + 2) (w.heap.size + 3) w W) ∧ w.heap.size + 3 < q) ?G001 ?M001 ?R001
                                      case M001 =>
                                        intro REST001
                                        obtain ⟨p, q, -⟩ : ∃ p q : Nat, True := ⟨0, 0, trivial⟩
                                        have hC : True := trivial
                                        (refine wpAnyH_take (i := 0) (oi := _) (v := ?_) rfl (by kernel_rfl) (by kernel_rfl) (by kernel_rfl) (fun _ _ _ h => h) (Or.inl ⟨by rfl, fun wx hSw => ?_⟩) (by assumption) ?_; rotate_left 1; focus ((try dsimp only at hSw); go_simp; (try with_reducible rfl)); (try simp only [Act.put, List.setIfInBounds_toArray, List.set_cons_zero, List.set_cons_succ, List.getElem_toArray, List.getElem_cons_zero, List.getElem_cons_succ]))
                                        (refine wpAnyH_take (i := 1) (oi := _) (v := ?_) rfl (by kernel_rfl) (by kernel_rfl) (by kernel_rfl) (fun _ _ _ h => h) (Or.inl ⟨by rfl, fun wx hSw => ?_⟩) (by assumption) ?_; rotate_left 1; focus ((try dsimp only at hSw); go_simp; (try with_reducible rfl)); (try simp only [Act.put, List.setIfInBounds_toArray, List.set_cons_zero, List.set_cons_succ, List.getElem_toArray, List.getElem_cons_zero, List.getElem_cons_succ]))
                                        (refine wpAnyH_take (i := 3) (oi := _) (v := ?_) rfl (by kernel_rfl) (by kernel_rfl) (by kernel_rfl) (fun _ _ _ h => h) (Or.inl ⟨by rfl, fun wx hSw => ?_⟩) (by assumption) ?_; rotate_left 1; focus ((try dsimp only at hSw); go_simp; (try with_reducible rfl)); (try simp only [Act.put, List.setIfInBounds_toArray, List.set_cons_zero, List.set_cons_succ, List.getElem_toArray, List.getElem_cons_zero, List.getElem_cons_succ]))
                                        (refine wpAnyH_take (i := 4) (oi := _) (v := ?_) rfl (by kernel_rfl) (by kernel_rfl) (by kernel_rfl) (fun _ _ _ h => h) (Or.inl ⟨by rfl, fun wx hSw => ?_⟩) (by assumption) ?_; rotate_left 1; focus ((try dsimp only at hSw); go_simp; (try with_reducible rfl)); (try simp only [Act.put, List.setIfInBounds_toArray, List.set_cons_zero, List.set_cons_succ, List.getElem_toArray, List.getElem_cons_zero, List.getElem_cons_succ]))
                                        (refine wpAnyH_take (i := 6) (oi := _) (v := ?_) rfl (by kernel_rfl) (by kernel_rfl) (by kernel_rfl) (fun _ _ _ h => h) (Or.inl ⟨by rfl, fun wx hSw => ?_⟩) (by assumption) ?_; rotate_left 1; focus ((try dsimp only at hSw); go_simp; (try with_reducible rfl)); (try simp only [Act.put, List.setIfInBounds_toArray, List.set_cons_zero, List.set_cons_succ, List.getElem_toArray, List.getElem_cons_zero, List.getElem_cons_succ]))
                                        (refine wpAnyH_take (i := 7) (oi := _) (v := ?_) rfl (by kernel_rfl) (by kernel_rfl) (by kernel_rfl) (fun _ _ _ h => h) (Or.inl ⟨by rfl, fun wx hSw => ?_⟩) (by assumption) ?_; rotate_left 1; focus ((try dsimp only at hSw); go_simp; (try with_reducible rfl)); (try simp only [Act.put, List.setIfInBounds_toArray, List.set_cons_zero, List.set_cons_succ, List.getElem_toArray, List.getElem_cons_zero, List.getElem_cons_succ]))
                                        refine wpAnyH_ready (rs := [2, 13, 14]) (by kernel_rfl) (by simp) ?_
                                        refine AllReadyH.cons (o := _) rfl (fun Kc hc => ?_) (AllReadyH.cons (o := _) rfl (fun Kc hc => ?_) (AllReadyH.cons (o := _) rfl (fun Kc hc => ?_) (AllReadyH.nil)))
                                        · go_simp
                                          go_at_call 128
                                          refine (CJ.out _).mono ?_
                                          rintro e w' ⟨rfl, hbel⟩
                                          refine hc.out _ _ (K_Dv.ks (K_Dv.below hbel hD)) (fun _ => ?_)
                                          clear hc Kc
                                          (try simp only [Act.put, List.setIfInBounds_toArray, List.set_cons_zero, List.set_cons_succ, List.getElem_toArray, List.getElem_cons_zero, List.getElem_cons_succ])
                                          have hN : (K_Dv x0 x1 x2 x3 y0 y1 y2 y3 w.heap.size (w.heap.size + 1) (w.heap.size + 2) (w.heap.size + 3) w w') ∧ True := ⟨K_Dv.below hbel hK, hC⟩
                                          exact REST100.out p q w' hN
                                        · go_simp
                                          refine hc.out _ _ (K_Dv.ks (K_Dv.alloc _ hD)) (fun _ => ?_)
                                          clear hc Kc
                                          (try simp only [Act.put, List.setIfInBounds_toArray, List.set_cons_zero, List.set_cons_succ, List.getElem_toArray, List.getElem_cons_zero, List.getElem_cons_succ])
                                          have hN : (K_Dp x0 x1 x2 x3 y0 y1 y2 y3 W0.heap.size w.heap.size (w.heap.size + 1) (w.heap.size + 2) (w.heap.size + 3) w (W0.alloc (.cells #[.int .i64 0, .int .i64 0, .int .i64 0, .int .i64 0] 97))) ∧ w.heap.size + 3 < W0.heap.size := ⟨KL.push4w hK 0 0 0 0 _ _ rfl, by have zz := (K_Dv.zs hD).2.2.2.1; omega⟩
                                          generalize (W0.alloc (.cells #[.int .i64 0, .int .i64 0, .int .i64 0, .int .i64 0] 97)) = w9 at hN ⊢
                                          generalize W0.heap.size = blk at hN ⊢
                                          exact REST010.out blk q w9 hN
                                        · go_simp
                                          refine hc.out _ _ (K_Dv.ks (K_Dv.alloc _ hD)) (fun _ => ?_)
                                          clear hc Kc
                                          (try simp only [Act.put, List.setIfInBounds_toArray, List.set_cons_zero, List.set_cons_succ, List.getElem_toArray, List.getElem_cons_zero, List.getElem_cons_succ])
                                          have hN : (K_Dp x0 x1 x2 x3 y0 y1 y2 y3 W0.heap.size w.heap.size (w.heap.size + 1) (w.heap.size + 2) (w.heap.size + 3) w (W0.alloc (.cells #[.int .i64 0, .int .i64 0, .int .i64 0, .int .i64 0] 97))) ∧ w.heap.size + 3 < W0.heap.size := ⟨KL.push4w hK 0 0 0 0 _ _ rfl, by have zz := (K_Dv.zs hD).2.2.2.1; omega⟩
                                          generalize (W0.alloc (.cells #[.int .i64 0, .int .i64 0, .int .i64 0, .int .i64 0] 97)) = w9 at hN ⊢
                                          generalize W0.heap.size = blk at hN ⊢
                                          exact REST001.out p blk w9 hN
                                      case R001 =>
                                        intro p q W hN
                                        obtain ⟨hK, hC⟩ := hN
                                        have hD : K_Dv x0 x1 x2 x3 y0 y1 y2 y3 w.heap.size (w.heap.size + 1) (w.heap.size + 2) (w.heap.size + 3) w W := KL.sub hK (fun x hx => by simp only [List.mem_cons, List.not_mem_nil, or_false] at hx ⊢; grind) (fun x hx => by simp only [List.mem_cons, List.not_mem_nil, or_false] at hx ⊢; grind)
                                        have hHeld := K_Dv.ks hD
                                        refine wpAnyH_ready (rs := [2, 13]) (by kernel_rfl) (by simp) ?_
                                        refine AllReadyH.cons (o := _) rfl (fun Kc hc => ?_) (AllReadyH.cons (o := _) rfl (fun Kc hc => ?_) (AllReadyH.nil))
                                        · go_simp
                                          go_at_call 128
                                          refine (CJ.out _).mono ?_
                                          rintro e w' ⟨rfl, hbel⟩
                                          refine hc.out _ _ (K_Dv.ks (K_Dv.below hbel hD)) (fun _ => ?_)
                                          clear hc Kc
                                          (try simp only [Act.put, List.setIfInBounds_toArray, List.set_cons_zero, List.set_cons_succ, List.getElem_toArray, List.getElem_cons_zero, List.getElem_cons_succ])
                                          have hN : (K_Dp x0 x1 x2 x3 y0 y1 y2 y3 q w.heap.size (w.heap.size + 1) (w.heap.size + 2) (w.heap.size + 3) w w') ∧ w.heap.size + 3 < q := ⟨K_Dp.below hbel hK, hC⟩
                                          exact REST101.out p q w' hN
                                        · go_simp
                                          refine hc.out _ _ (K_Dv.ks (K_Dv.alloc _ hD)) (fun _ => ?_)
                                          clear hc Kc
                                          (try simp only [Act.put, List.setIfInBounds_toArray, List.set_cons_zero, List.set_cons_succ, List.getElem_toArray, List.getElem_cons_zero, List.getElem_cons_succ])
                                          have hN : (K_Dq x0 x1 x2 x3 y0 y1 y2 y3 W.heap.size q w.heap.size (w.heap.size + 1) (w.heap.size + 2) (w.heap.size + 3) w (W.alloc (.cells #[.int .i64 0, .int .i64 0, .int .i64 0, .int .i64 0] 97))) ∧ (w.heap.size + 3 < W.heap.size ∧ w.heap.size + 3 < q ∧ W.heap.size ≠ q) := ⟨KL.sub (KL.push4w hK 0 0 0 0 _ _ rfl) (fun x hx => by simp only [List.mem_cons, List.not_mem_nil, or_false] at hx ⊢; grind) (fun x hx => by simp only [List.mem_cons, List.not_mem_nil, or_false] at hx ⊢; grind), by have zz := (K_Dv.zs hD).2.2.2.1; have zp := (K_Dp.zs hK).1; omega⟩
                                          generalize (W.alloc (.cells #[.int .i64 0, .int .i64 0, .int .i64 0, .int .i64 0] 97)) = w9 at hN ⊢
                                          generalize W.heap.size = blk at hN ⊢
                                          exact REST011.out blk q w9 hN
                                    case R010 =>
                                      intro p q W hN
                                      obtain ⟨hK, hC⟩ := hN
                                      have hD : K_Dv x0 x1 x2 x3 y0 y1 y2 y3 w.heap.size (w.heap.size + 1) (w.heap.size + 2) (w.heap.size + 3) w W := KL.sub hK (fun x hx => by simp only [List.mem_cons, List.not_mem_nil, or_false] at hx ⊢; grind) (fun x hx => by simp only [List.mem_cons, List.not_mem_nil, or_false] at hx ⊢; grind)
                                      have hHeld := K_Dv.ks hD
                                      refine wpAnyH_ready (rs := [2, 14]) (by kernel_rfl) (by simp) ?_
                                      refine AllReadyH.cons (o := _) rfl (fun Kc hc => ?_) (AllReadyH.cons (o := _) rfl (fun Kc hc => ?_) (AllReadyH.nil))
                                      · go_simp
                                        go_at_call 128
                                        refine (CJ.out _).mono ?_
                                        rintro e w' ⟨rfl, hbel⟩
                                        refine hc.out _ _ (K_Dv.ks (K_Dv.below hbel hD)) (fun _ => ?_)
                                        clear hc Kc
                                        (try simp only [Act.put, List.setIfInBounds_toArray, List.set_cons_zero, List.set_cons_succ, List.getElem_toArray, List.getElem_cons_zero, List.getElem_cons_succ])
                                        have hN : (K_Dp x0 x1 x2 x3 y0 y1 y2 y3 p w.heap.size (w.heap.size + 1) (w.heap.size + 2) (w.heap.size + 3) w w') ∧ w.heap.size + 3 < p := ⟨K_Dp.below hbel hK, hC⟩
                                        exact REST110.out p q w' hN
                                      · go_simp
                                        refine hc.out _ _ (K_Dv.ks (K_Dv.alloc _ hD)) (fun _ => ?_)
                                        clear hc Kc
                                        (try simp only [Act.put, List.setIfInBounds_toArray, List.set_cons_zero, List.set_cons_succ, List.getElem_toArray, List.getElem_cons_zero, List.getElem_cons_succ])
                                        have hN : (K_Dq x0 x1 x2 x3 y0 y1 y2 y3 p W.heap.size w.heap.size (w.heap.size + 1) (w.heap.size + 2) (w.heap.size + 3) w (W.alloc (.cells #[.int .i64 0, .int .i64 0, .int .i64 0, .int .i64 0] 97))) ∧ (w.heap.size + 3 < p ∧ w.heap.size + 3 < W.heap.size ∧ p ≠ W.heap.size) := ⟨KL.push4w hK 0 0 0 0 _ _ rfl, by have zz := (K_Dv.zs hD).2.2.2.1; have zp := (K_Dp.zs hK).1; omega⟩
                                        exact REST011.out p W.heap.size _ hN
                                  case R100 =>
                                    intro p q W hN
                                    obtain ⟨hK, hC⟩ := hN
                                    have hD : K_Dv x0 x1 x2 x3 y0 y1 y2 y3 w.heap.size (w.heap.size + 1) (w.heap.size + 2) (w.heap.size + 3) w W := hK
                                    have hHeld := K_Dv.ks hD
                                    refine wpAnyH_ready (rs := [5, 13, 14]) (by kernel_rfl) (by simp) ?_
                                    refine AllReadyH.cons (o := _) rfl (fun Kc hc => ?_) (AllReadyH.cons (o := _) rfl (fun Kc hc => ?_) (AllReadyH.cons (o := _) rfl (fun Kc hc => ?_) (AllReadyH.nil)))
                                    · go_simp
                                      go_at_call 126
                                      refine (TM.out _).mono ?_
                                      rintro e w' ⟨rfl, hbel⟩
                                      refine hc.out _ _ (K_Dv.ks (K_Dv.below hbel hD)) (fun _ => ?_)
                                      clear hc Kc
                                      (try simp only [Act.put, List.setIfInBounds_toArray, List.set_cons_zero, List.set_cons_succ, List.getElem_toArray, List.getElem_cons_zero, List.getElem_cons_succ])
                                      have hN : (K_Dv x0 x1 x2 x3 y0 y1 y2 y3 w.heap.size (w.heap.size + 1) (w.heap.size + 2) (w.heap.size + 3) w w') ∧ True := ⟨K_Dv.below hbel hK, hC⟩
                                      exact REST200.out p q w' hN
                                    · go_simp
                                      refine hc.out _ _ (K_Dv.ks (K_Dv.alloc _ hD)) (fun _ => ?_)
                                      clear hc Kc
                                      (try simp only [Act.put, List.setIfInBounds_toArray, List.set_cons_zero, List.set_cons_succ, List.getElem_toArray, List.getElem_cons_zero, List.getElem_cons_succ])
                                      have hN : (K_Dp x0 x1 x2 x3 y0 y1 y2 y3 W.heap.size w.heap.size (w.heap.size + 1) (w.heap.size + 2) (w.heap.size + 3) w (W.alloc (.cells #[.int .i64 0, .int .i64 0, .int .i64 0, .int .i64 0] 97))) ∧ w.heap.size + 3 < W.heap.size := ⟨KL.push4w hK 0 0 0 0 _ _ rfl, by have zz := (K_Dv.zs hD).2.2.2.1; omega⟩
                                      exact REST110.out W.heap.size q _ hN
                                    · go_simp
                                      refine hc.out _ _ (K_Dv.ks (K_Dv.alloc _ hD)) (fun _ => ?_)
                                      clear hc Kc
                                      (try simp only [Act.put, List.setIfInBounds_toArray, List.set_cons_zero, List.set_cons_succ, List.getElem_toArray, List.getElem_cons_zero, List.getElem_cons_succ])
                                      have hN : (K_Dp x0 x1 x2 x3 y0 y1 y2 y3 W.heap.size w.heap.size (w.heap.size + 1) (w.heap.size + 2) (w.heap.size + 3) w (W.alloc (.cells #[.int .i64 0, .int .i64 0, .int .i64 0, .int .i64 0] 97))) ∧ w.heap.size + 3 < W.heap.size := ⟨KL.push4w hK 0 0 0 0 _ _ rfl, by have zz := (K_Dv.zs hD).2.2.2.1; omega⟩
                                      exact REST101.out p W.heap.size _ hN
                                case R011 =>
                                  intro p q W hN
                                  obtain ⟨hK, hC⟩ := hN
                                  have hD : K_Dv x0 x1 x2 x3 y0 y1 y2 y3 w.heap.size (w.heap.size + 1) (w.heap.size + 2) (w.heap.size + 3) w W := KL.sub hK (fun x hx => by simp only [List.mem_cons, List.not_mem_nil, or_false] at hx ⊢; grind) (fun x hx => by simp only [List.mem_cons, List.not_mem_nil, or_false] at hx ⊢; grind)
                                  have hHeld := K_Dv.ks hD
                                  refine wpAnyH_ready (rs := [2]) (by kernel_rfl) (by simp) ?_
                                  refine AllReadyH.cons (o := _) rfl (fun Kc hc => ?_) (AllReadyH.nil)
                                  · go_simp
                                    go_at_call 128
                                    refine (CJ.out _).mono ?_
                                    rintro e w' ⟨rfl, hbel⟩
                                    refine hc.out _ _ (K_Dv.ks (K_Dv.below hbel hD)) (fun _ => ?_)
                                    clear hc Kc
                                    (try simp only [Act.put, List.setIfInBounds_toArray, List.set_cons_zero, List.set_cons_succ, List.getElem_toArray, List.getElem_cons_zero, List.getElem_cons_succ])
                                    have hN : (K_Dq x0 x1 x2 x3 y0 y1 y2 y3 p q w.heap.size (w.heap.size + 1) (w.heap.size + 2) (w.heap.size + 3) w w') ∧ (w.heap.size + 3 < p ∧ w.heap.size + 3 < q ∧ p ≠ q) := ⟨K_Dq.below hbel hK, hC⟩
                                    exact REST111.out p q w' hN
                              case R101 =>
                                intro p q W hN
                                obtain ⟨hK, hC⟩ := hN
                                have hD : K_Dv x0 x1 x2 x3 y0 y1 y2 y3 w.heap.size (w.heap.size + 1) (w.heap.size + 2) (w.heap.size + 3) w W := KL.sub hK (fun x hx => by simp only [List.mem_cons, List.not_mem_nil, or_false] at hx ⊢; grind) (fun x hx => by simp only [List.mem_cons, List.not_mem_nil, or_false] at hx ⊢; grind)
                                have hHeld := K_Dv.ks hD
                                refine wpAnyH_ready (rs := [5, 13]) (by kernel_rfl) (by simp) ?_
                                refine AllReadyH.cons (o := _) rfl (fun Kc hc => ?_) (AllReadyH.cons (o := _) rfl (fun Kc hc => ?_) (AllReadyH.nil))
                                · go_simp
                                  go_at_call 126
                                  refine (TM.out _).mono ?_
                                  rintro e w' ⟨rfl, hbel⟩
                                  refine hc.out _ _ (K_Dv.ks (K_Dv.below hbel hD)) (fun _ => ?_)
                                  clear hc Kc
                                  (try simp only [Act.put, List.setIfInBounds_toArray, List.set_cons_zero, List.set_cons_succ, List.getElem_toArray, List.getElem_cons_zero, List.getElem_cons_succ])
                                  have hN : (K_Dp x0 x1 x2 x3 y0 y1 y2 y3 q w.heap.size (w.heap.size + 1) (w.heap.size + 2) (w.heap.size + 3) w w') ∧ w.heap.size + 3 < q := ⟨K_Dp.below hbel hK, hC⟩
                                  exact REST201.out p q w' hN
                                · go_simp
                                  refine hc.out _ _ (K_Dv.ks (K_Dv.alloc _ hD)) (fun _ => ?_)
                                  clear hc Kc
                                  (try simp only [Act.put, List.setIfInBounds_toArray, List.set_cons_zero, List.set_cons_succ, List.getElem_toArray, List.getElem_cons_zero, List.getElem_cons_succ])
                                  have hN : (K_Dq x0 x1 x2 x3 y0 y1 y2 y3 W.heap.size q w.heap.size (w.heap.size + 1) (w.heap.size + 2) (w.heap.size + 3) w (W.alloc (.cells #[.int .i64 0, .int .i64 0, .int .i64 0, .int .i64 0] 97))) ∧ (w.heap.size + 3 < W.heap.size ∧ w.heap.size + 3 < q ∧ W.heap.size ≠ q) := ⟨KL.sub (KL.push4w hK 0 0 0 0 _ _ rfl) (fun x hx => by simp only [List.mem_cons, List.not_mem_nil, or_false] at hx ⊢; grind) (fun x hx => by simp only [List.mem_cons, List.not_mem_nil, or_false] at hx ⊢; grind), by have zz := (K_Dv.zs hD).2.2.2.1; have zp := (K_Dp.zs hK).1; omega⟩
                                  exact REST111.out W.heap.size q _ hN
                            case R110 =>
                              intro p q W hN
                              obtain ⟨hK, hC⟩ := hN
                              have hD : K_Dv x0 x1 x2 x3 y0 y1 y2 y3 w.heap.size (w.heap.size + 1) (w.heap.size + 2) (w.heap.size + 3) w W := KL.sub hK (fun x hx => by simp only [List.mem_cons, List.not_mem_nil, or_false] at hx ⊢; grind) (fun x hx => by simp only [List.mem_cons, List.not_mem_nil, or_false] at hx ⊢; grind)
                              have hHeld := K_Dv.ks hD
                              refine wpAnyH_ready (rs := [5, 14]) (by kernel_rfl) (by simp) ?_
                              refine AllReadyH.cons (o := _) rfl (fun Kc hc => ?_) (AllReadyH.cons (o := _) rfl (fun Kc hc => ?_) (AllReadyH.nil))
                              · go_simp
                                go_at_call 126
                                refine (TM.out _).mono ?_
                                rintro e w' ⟨rfl, hbel⟩
                                refine hc.out _ _ (K_Dv.ks (K_Dv.below hbel hD)) (fun _ => ?_)
                                clear hc Kc
                                (try simp only [Act.put, List.setIfInBounds_toArray, List.set_cons_zero, List.set_cons_succ, List.getElem_toArray, List.getElem_cons_zero, List.getElem_cons_succ])
                                have hN : (K_Dp x0 x1 x2 x3 y0 y1 y2 y3 p w.heap.size (w.heap.size + 1) (w.heap.size + 2) (w.heap.size + 3) w w') ∧ w.heap.size + 3 < p := ⟨K_Dp.below hbel hK, hC⟩
                                exact REST210.out p q w' hN
                              · go_simp
                                refine hc.out _ _ (K_Dv.ks (K_Dv.alloc _ hD)) (fun _ => ?_)
                                clear hc Kc
                                (try simp only [Act.put, List.setIfInBounds_toArray, List.set_cons_zero, List.set_cons_succ, List.getElem_toArray, List.getElem_cons_zero, List.getElem_cons_succ])
                                have hN : (K_Dq x0 x1 x2 x3 y0 y1 y2 y3 p W.heap.size w.heap.size (w.heap.size + 1) (w.heap.size + 2) (w.heap.size + 3) w (W.alloc (.cells #[.int .i64 0, .int .i64 0, .int .i64 0, .int .i64 0] 97))) ∧ (w.heap.size + 3 < p ∧ w.heap.size + 3 < W.heap.size ∧ p ≠ W.heap.size) := ⟨KL.push4w hK 0 0 0 0 _ _ rfl, by have zz := (K_Dv.zs hD).2.2.2.1; have zp := (K_Dp.zs hK).1; omega⟩
                                exact REST111.out p W.heap.size _ hN
                          case R200 =>
                            intro p q W hN
                            obtain ⟨hK, hC⟩ := hN
                            have hD : K_Dv x0 x1 x2 x3 y0 y1 y2 y3 w.heap.size (w.heap.size + 1) (w.heap.size + 2) (w.heap.size + 3) w W := hK
                            have hHeld := K_Dv.ks hD
                            refine wpAnyH_ready (rs := [8, 13, 14]) (by kernel_rfl) (by simp) ?_
                            refine AllReadyH.cons (o := _) rfl (fun Kc hc => ?_) (AllReadyH.cons (o := _) rfl (fun Kc hc => ?_) (AllReadyH.cons (o := _) rfl (fun Kc hc => ?_) (AllReadyH.nil)))
                            · go_simp
                              go_at_call 119
                              refine (SQ.out _).mono ?_
                              rintro e w' ⟨rfl, hbel⟩
                              refine hc.out _ _ (K_Dv.ks (K_Dv.below hbel hD)) (fun _ => ?_)
                              clear hc Kc
                              (try simp only [Act.put, List.setIfInBounds_toArray, List.set_cons_zero, List.set_cons_succ, List.getElem_toArray, List.getElem_cons_zero, List.getElem_cons_succ])
                              have hN : (K_Dv x0 x1 x2 x3 y0 y1 y2 y3 w.heap.size (w.heap.size + 1) (w.heap.size + 2) (w.heap.size + 3) w w') ∧ True := ⟨K_Dv.below hbel hK, hC⟩
                              exact REST300.out p q w' hN
                            · go_simp
                              refine hc.out _ _ (K_Dv.ks (K_Dv.alloc _ hD)) (fun _ => ?_)
                              clear hc Kc
                              (try simp only [Act.put, List.setIfInBounds_toArray, List.set_cons_zero, List.set_cons_succ, List.getElem_toArray, List.getElem_cons_zero, List.getElem_cons_succ])
                              have hN : (K_Dp x0 x1 x2 x3 y0 y1 y2 y3 W.heap.size w.heap.size (w.heap.size + 1) (w.heap.size + 2) (w.heap.size + 3) w (W.alloc (.cells #[.int .i64 0, .int .i64 0, .int .i64 0, .int .i64 0] 97))) ∧ w.heap.size + 3 < W.heap.size := ⟨KL.push4w hK 0 0 0 0 _ _ rfl, by have zz := (K_Dv.zs hD).2.2.2.1; omega⟩
                              exact REST210.out W.heap.size q _ hN
                            · go_simp
                              refine hc.out _ _ (K_Dv.ks (K_Dv.alloc _ hD)) (fun _ => ?_)
                              clear hc Kc
                              (try simp only [Act.put, List.setIfInBounds_toArray, List.set_cons_zero, List.set_cons_succ, List.getElem_toArray, List.getElem_cons_zero, List.getElem_cons_succ])
                              have hN : (K_Dp x0 x1 x2 x3 y0 y1 y2 y3 W.heap.size w.heap.size (w.heap.size + 1) (w.heap.size + 2) (w.heap.size + 3) w (W.alloc (.cells #[.int .i64 0, .int .i64 0, .int .i64 0, .int .i64 0] 97))) ∧ w.heap.size + 3 < W.heap.size := ⟨KL.push4w hK 0 0 0 0 _ _ rfl, by have zz := (K_Dv.zs hD).2.2.2.1; omega⟩
                              exact REST201.out p W.heap.size _ hN
                        case R111 =>
                          intro p q W hN
                          obtain ⟨hK, hC⟩ := hN
                          have hD : K_Dv x0 x1 x2 x3 y0 y1 y2 y3 w.heap.size (w.heap.size + 1) (w.heap.size + 2) (w.heap.size + 3) w W := KL.sub hK (fun x hx => by simp only [List.mem_cons, List.not_mem_nil, or_false] at hx ⊢; grind) (fun x hx => by simp only [List.mem_cons, List.not_mem_nil, or_false] at hx ⊢; grind)
                          have hHeld := K_Dv.ks hD
                          refine wpAnyH_ready (rs := [5]) (by kernel_rfl) (by simp) ?_
                          refine AllReadyH.cons (o := _) rfl (fun Kc hc => ?_) (AllReadyH.nil)
                          · go_simp
                            go_at_call 126
                            refine (TM.out _).mono ?_
                            rintro e w' ⟨rfl, hbel⟩
                            refine hc.out _ _ (K_Dv.ks (K_Dv.below hbel hD)) (fun _ => ?_)
                            clear hc Kc
                            (try simp only [Act.put, List.setIfInBounds_toArray, List.set_cons_zero, List.set_cons_succ, List.getElem_toArray, List.getElem_cons_zero, List.getElem_cons_succ])
                            have hN : (K_Dq x0 x1 x2 x3 y0 y1 y2 y3 p q w.heap.size (w.heap.size + 1) (w.heap.size + 2) (w.heap.size + 3) w w') ∧ (w.heap.size + 3 < p ∧ w.heap.size + 3 < q ∧ p ≠ q) := ⟨K_Dq.below hbel hK, hC⟩
                            exact REST211.out p q w' hN
                      case R201 =>
                        intro p q W hN
                        obtain ⟨hK, hC⟩ := hN
                        have hD : K_Dv x0 x1 x2 x3 y0 y1 y2 y3 w.heap.size (w.heap.size + 1) (w.heap.size + 2) (w.heap.size + 3) w W := KL.sub hK (fun x hx => by simp only [List.mem_cons, List.not_mem_nil, or_false] at hx ⊢; grind) (fun x hx => by simp only [List.mem_cons, List.not_mem_nil, or_false] at hx ⊢; grind)
                        have hHeld := K_Dv.ks hD
                        refine wpAnyH_ready (rs := [8, 13]) (by kernel_rfl) (by simp) ?_
                        refine AllReadyH.cons (o := _) rfl (fun Kc hc => ?_) (AllReadyH.cons (o := _) rfl (fun Kc hc => ?_) (AllReadyH.nil))
                        · go_simp
                          go_at_call 119
                          refine (SQ.out _).mono ?_
                          rintro e w' ⟨rfl, hbel⟩
                          refine hc.out _ _ (K_Dv.ks (K_Dv.below hbel hD)) (fun _ => ?_)
                          clear hc Kc
                          (try simp only [Act.put, List.setIfInBounds_toArray, List.set_cons_zero, List.set_cons_succ, List.getElem_toArray, List.getElem_cons_zero, List.getElem_cons_succ])
                          have hN : (K_Dp x0 x1 x2 x3 y0 y1 y2 y3 q w.heap.size (w.heap.size + 1) (w.heap.size + 2) (w.heap.size + 3) w w') ∧ w.heap.size + 3 < q := ⟨K_Dp.below hbel hK, hC⟩
                          exact REST301.out p q w' hN
                        · go_simp
                          refine hc.out _ _ (K_Dv.ks (K_Dv.alloc _ hD)) (fun _ => ?_)
                          clear hc Kc
                          (try simp only [Act.put, List.setIfInBounds_toArray, List.set_cons_zero, List.set_cons_succ, List.getElem_toArray, List.getElem_cons_zero, List.getElem_cons_succ])
                          have hN : (K_Dq x0 x1 x2 x3 y0 y1 y2 y3 W.heap.size q w.heap.size (w.heap.size + 1) (w.heap.size + 2) (w.heap.size + 3) w (W.alloc (.cells #[.int .i64 0, .int .i64 0, .int .i64 0, .int .i64 0] 97))) ∧ (w.heap.size + 3 < W.heap.size ∧ w.heap.size + 3 < q ∧ W.heap.size ≠ q) := ⟨KL.sub (KL.push4w hK 0 0 0 0 _ _ rfl) (fun x hx => by simp only [List.mem_cons, List.not_mem_nil, or_false] at hx ⊢; grind) (fun x hx => by simp only [List.mem_cons, List.not_mem_nil, or_false] at hx ⊢; grind), by have zz := (K_Dv.zs hD).2.2.2.1; have zp := (K_Dp.zs hK).1; omega⟩
                          exact REST211.out W.heap.size q _ hN
                    case R210 =>
                      intro p q W hN
                      obtain ⟨hK, hC⟩ := hN
                      have hD : K_Dv x0 x1 x2 x3 y0 y1 y2 y3 w.heap.size (w.heap.size + 1) (w.heap.size + 2) (w.heap.size + 3) w W := KL.sub hK (fun x hx => by simp only [List.mem_cons, List.not_mem_nil, or_false] at hx ⊢; grind) (fun x hx => by simp only [List.mem_cons, List.not_mem_nil, or_false] at hx ⊢; grind)
                      have hHeld := K_Dv.ks hD
                      refine wpAnyH_ready (rs := [8, 14]) (by kernel_rfl) (by simp) ?_
                      refine AllReadyH.cons (o := _) rfl (fun Kc hc => ?_) (AllReadyH.cons (o := _) rfl (fun Kc hc => ?_) (AllReadyH.nil))
                      · go_simp
                        go_at_call 119
                        refine (SQ.out _).mono ?_
                        rintro e w' ⟨rfl, hbel⟩
                        refine hc.out _ _ (K_Dv.ks (K_Dv.below hbel hD)) (fun _ => ?_)
                        clear hc Kc
                        (try simp only [Act.put, List.setIfInBounds_toArray, List.set_cons_zero, List.set_cons_succ, List.getElem_toArray, List.getElem_cons_zero, List.getElem_cons_succ])
                        have hN : (K_Dp x0 x1 x2 x3 y0 y1 y2 y3 p w.heap.size (w.heap.size + 1) (w.heap.size + 2) (w.heap.size + 3) w w') ∧ w.heap.size + 3 < p := ⟨K_Dp.below hbel hK, hC⟩
                        exact REST310.out p q w' hN
                      · go_simp
                        refine hc.out _ _ (K_Dv.ks (K_Dv.alloc _ hD)) (fun _ => ?_)
                        clear hc Kc
                        (try simp only [Act.put, List.setIfInBounds_toArray, List.set_cons_zero, List.set_cons_succ, List.getElem_toArray, List.getElem_cons_zero, List.getElem_cons_succ])
                        have hN : (K_Dq x0 x1 x2 x3 y0 y1 y2 y3 p W.heap.size w.heap.size (w.heap.size + 1) (w.heap.size + 2) (w.heap.size + 3) w (W.alloc (.cells #[.int .i64 0, .int .i64 0, .int .i64 0, .int .i64 0] 97))) ∧ (w.heap.size + 3 < p ∧ w.heap.size + 3 < W.heap.size ∧ p ≠ W.heap.size) := ⟨KL.push4w hK 0 0 0 0 _ _ rfl, by have zz := (K_Dv.zs hD).2.2.2.1; have zp := (K_Dp.zs hK).1; omega⟩
                        exact REST211.out p W.heap.size _ hN
                  case R300 =>
                    intro p q W hN
                    obtain ⟨hK, hC⟩ := hN
                    have hD : K_Dv x0 x1 x2 x3 y0 y1 y2 y3 w.heap.size (w.heap.size + 1) (w.heap.size + 2) (w.heap.size + 3) w W := hK
                    have hHeld := K_Dv.ks hD
                    refine wpAnyH_ready (rs := [9, 13, 14]) (by kernel_rfl) (by simp) ?_
                    refine AllReadyH.cons (o := _) rfl (fun Kc hc => ?_) (AllReadyH.cons (o := _) rfl (fun Kc hc => ?_) (AllReadyH.cons (o := _) rfl (fun Kc hc => ?_) (AllReadyH.nil)))
                    · go_simp
                      go_at_call 127
                      refine (QU.out _).mono ?_
                      rintro e w' ⟨rfl, hbel⟩
                      refine hc.out _ _ (K_Dv.ks (K_Dv.below hbel hD)) (fun _ => ?_)
                      clear hc Kc
                      (try simp only [Act.put, List.setIfInBounds_toArray, List.set_cons_zero, List.set_cons_succ, List.getElem_toArray, List.getElem_cons_zero, List.getElem_cons_succ])
                      have hN : (K_Dv x0 x1 x2 x3 y0 y1 y2 y3 w.heap.size (w.heap.size + 1) (w.heap.size + 2) (w.heap.size + 3) w w') ∧ True := ⟨K_Dv.below hbel hK, hC⟩
                      have hHeld9 := K_Dv.ks (K_Dv.below hbel hD)
                      (refine wpAnyH_take (i := 10) (oi := _) (v := ?_) rfl (by kernel_rfl) (by kernel_rfl) (by kernel_rfl) (fun _ _ _ h => h) (Or.inl ⟨by rfl, fun wx hSw => ?_⟩) (by assumption) ?_; rotate_left 1; focus ((try dsimp only at hSw); go_simp; (try with_reducible rfl)); (try simp only [Act.put, List.setIfInBounds_toArray, List.set_cons_zero, List.set_cons_succ, List.getElem_toArray, List.getElem_cons_zero, List.getElem_cons_succ]))
                      (refine wpAnyH_take (i := 11) (oi := _) (v := ?_) rfl (by kernel_rfl) (by kernel_rfl) (by kernel_rfl) (fun _ _ _ h => h) (Or.inl ⟨by rfl, fun wx hSw => ?_⟩) (by assumption) ?_; rotate_left 1; focus ((try dsimp only at hSw); go_simp; (try with_reducible rfl)); (try simp only [Act.put, List.setIfInBounds_toArray, List.set_cons_zero, List.set_cons_succ, List.getElem_toArray, List.getElem_cons_zero, List.getElem_cons_succ]))
                      (refine wpAnyH_take (i := 12) (oi := _) (v := ?_) rfl (by kernel_rfl) (by kernel_rfl) (by kernel_rfl) (fun _ _ _ h => h) (Or.inl ⟨by rfl, fun wx hSw => ?_⟩) (by assumption) ?_; rotate_left 1; focus ((try dsimp only at hSw); go_simp; (try with_reducible rfl)); (try simp only [Act.put, List.setIfInBounds_toArray, List.set_cons_zero, List.set_cons_succ, List.getElem_toArray, List.getElem_cons_zero, List.getElem_cons_succ]))
                      exact REST400.out p q w' hN
                    · go_simp
                      refine hc.out _ _ (K_Dv.ks (K_Dv.alloc _ hD)) (fun _ => ?_)
                      clear hc Kc
                      (try simp only [Act.put, List.setIfInBounds_toArray, List.set_cons_zero, List.set_cons_succ, List.getElem_toArray, List.getElem_cons_zero, List.getElem_cons_succ])
                      have hN : (K_Dp x0 x1 x2 x3 y0 y1 y2 y3 W.heap.size w.heap.size (w.heap.size + 1) (w.heap.size + 2) (w.heap.size + 3) w (W.alloc (.cells #[.int .i64 0, .int .i64 0, .int .i64 0, .int .i64 0] 97))) ∧ w.heap.size + 3 < W.heap.size := ⟨KL.push4w hK 0 0 0 0 _ _ rfl, by have zz := (K_Dv.zs hD).2.2.2.1; omega⟩
                      exact REST310.out W.heap.size q _ hN
                    · go_simp
                      refine hc.out _ _ (K_Dv.ks (K_Dv.alloc _ hD)) (fun _ => ?_)
                      clear hc Kc
                      (try simp only [Act.put, List.setIfInBounds_toArray, List.set_cons_zero, List.set_cons_succ, List.getElem_toArray, List.getElem_cons_zero, List.getElem_cons_succ])
                      have hN : (K_Dp x0 x1 x2 x3 y0 y1 y2 y3 W.heap.size w.heap.size (w.heap.size + 1) (w.heap.size + 2) (w.heap.size + 3) w (W.alloc (.cells #[.int .i64 0, .int .i64 0, .int .i64 0, .int .i64 0] 97))) ∧ w.heap.size + 3 < W.heap.size := ⟨KL.push4w hK 0 0 0 0 _ _ rfl, by have zz := (K_Dv.zs hD).2.2.2.1; omega⟩
                      exact REST301.out p W.heap.size _ hN
                case R211 =>
                  intro p q W hN
                  obtain ⟨hK, hC⟩ := hN
                  have hD : K_Dv x0 x1 x2 x3 y0 y1 y2 y3 w.heap.size (w.heap.size + 1) (w.heap.size + 2) (w.heap.size + 3) w W := KL.sub hK (fun x hx => by simp only [List.mem_cons, List.not_mem_nil, or_false] at hx ⊢; grind) (fun x hx => by simp only [List.mem_cons, List.not_mem_nil, or_false] at hx ⊢; grind)
                  have hHeld := K_Dv.ks hD
                  refine wpAnyH_ready (rs := [8]) (by kernel_rfl) (by simp) ?_
                  refine AllReadyH.cons (o := _) rfl (fun Kc hc => ?_) (AllReadyH.nil)
                  · go_simp
                    go_at_call 119
                    refine (SQ.out _).mono ?_
                    rintro e w' ⟨rfl, hbel⟩
                    refine hc.out _ _ (K_Dv.ks (K_Dv.below hbel hD)) (fun _ => ?_)
                    clear hc Kc
                    (try simp only [Act.put, List.setIfInBounds_toArray, List.set_cons_zero, List.set_cons_succ, List.getElem_toArray, List.getElem_cons_zero, List.getElem_cons_succ])
                    have hN : (K_Dq x0 x1 x2 x3 y0 y1 y2 y3 p q w.heap.size (w.heap.size + 1) (w.heap.size + 2) (w.heap.size + 3) w w') ∧ (w.heap.size + 3 < p ∧ w.heap.size + 3 < q ∧ p ≠ q) := ⟨K_Dq.below hbel hK, hC⟩
                    exact REST311.out p q w' hN
              case R301 =>
                intro p q W hN
                obtain ⟨hK, hC⟩ := hN
                have hD : K_Dv x0 x1 x2 x3 y0 y1 y2 y3 w.heap.size (w.heap.size + 1) (w.heap.size + 2) (w.heap.size + 3) w W := KL.sub hK (fun x hx => by simp only [List.mem_cons, List.not_mem_nil, or_false] at hx ⊢; grind) (fun x hx => by simp only [List.mem_cons, List.not_mem_nil, or_false] at hx ⊢; grind)
                have hHeld := K_Dv.ks hD
                refine wpAnyH_ready (rs := [9, 13]) (by kernel_rfl) (by simp) ?_
                refine AllReadyH.cons (o := _) rfl (fun Kc hc => ?_) (AllReadyH.cons (o := _) rfl (fun Kc hc => ?_) (AllReadyH.nil))
                · go_simp
                  go_at_call 127
                  refine (QU.out _).mono ?_
                  rintro e w' ⟨rfl, hbel⟩
                  refine hc.out _ _ (K_Dv.ks (K_Dv.below hbel hD)) (fun _ => ?_)
                  clear hc Kc
                  (try simp only [Act.put, List.setIfInBounds_toArray, List.set_cons_zero, List.set_cons_succ, List.getElem_toArray, List.getElem_cons_zero, List.getElem_cons_succ])
                  have hN : (K_Dp x0 x1 x2 x3 y0 y1 y2 y3 q w.heap.size (w.heap.size + 1) (w.heap.size + 2) (w.heap.size + 3) w w') ∧ w.heap.size + 3 < q := ⟨K_Dp.below hbel hK, hC⟩
                  have hHeld9 := K_Dv.ks (K_Dv.below hbel hD)
                  (refine wpAnyH_take (i := 10) (oi := _) (v := ?_) rfl (by kernel_rfl) (by kernel_rfl) (by kernel_rfl) (fun _ _ _ h => h) (Or.inl ⟨by rfl, fun wx hSw => ?_⟩) (by assumption) ?_; rotate_left 1; focus ((try dsimp only at hSw); go_simp; (try with_reducible rfl)); (try simp only [Act.put, List.setIfInBounds_toArray, List.set_cons_zero, List.set_cons_succ, List.getElem_toArray, List.getElem_cons_zero, List.getElem_cons_succ]))
                  (refine wpAnyH_take (i := 11) (oi := _) (v := ?_) rfl (by kernel_rfl) (by kernel_rfl) (by kernel_rfl) (fun _ _ _ h => h) (Or.inl ⟨by rfl, fun wx hSw => ?_⟩) (by assumption) ?_; rotate_left 1; focus ((try dsimp only at hSw); go_simp; (try with_reducible rfl)); (try simp only [Act.put, List.setIfInBounds_toArray, List.set_cons_zero, List.set_cons_succ, List.getElem_toArray, List.getElem_cons_zero, List.getElem_cons_succ]))
                  (refine wpAnyH_take (i := 12) (oi := _) (v := ?_) rfl (by kernel_rfl) (by kernel_rfl) (by kernel_rfl) (fun _ _ _ h => h) (Or.inl ⟨by rfl, fun wx hSw => ?_⟩) (by assumption) ?_; rotate_left 1; focus ((try dsimp only at hSw); go_simp; (try with_reducible rfl)); (try simp only [Act.put, List.setIfInBounds_toArray, List.set_cons_zero, List.set_cons_succ, List.getElem_toArray, List.getElem_cons_zero, List.getElem_cons_succ]))
                  exact REST401.out p q w' hN
                · go_simp
                  refine hc.out _ _ (K_Dv.ks (K_Dv.alloc _ hD)) (fun _ => ?_)
                  clear hc Kc
                  (try simp only [Act.put, List.setIfInBounds_toArray, List.set_cons_zero, List.set_cons_succ, List.getElem_toArray, List.getElem_cons_zero, List.getElem_cons_succ])
                  have hN : (K_Dq x0 x1 x2 x3 y0 y1 y2 y3 W.heap.size q w.heap.size (w.heap.size + 1) (w.heap.size + 2) (w.heap.size + 3) w (W.alloc (.cells #[.int .i64 0, .int .i64 0, .int .i64 0, .int .i64 0] 97))) ∧ (w.heap.size + 3 < W.heap.size ∧ w.heap.size + 3 < q ∧ W.heap.size ≠ q) := ⟨KL.sub (KL.push4w hK 0 0 0 0 _ _ rfl) (fun x hx => by simp only [List.mem_cons, List.not_mem_nil, or_false] at hx ⊢; grind) (fun x hx => by simp only [List.mem_cons, List.not_mem_nil, or_false] at hx ⊢; grind), by have zz := (K_Dv.zs hD).2.2.2.1; have zp := (K_Dp.zs hK).1; omega⟩
                  exact REST311.out W.heap.size q _ hN
            case R310 =>
              intro p q W hN
              obtain ⟨hK, hC⟩ := hN
              have hD : K_Dv x0 x1 x2 x3 y0 y1 y2 y3 w.heap.size (w.heap.size + 1) (w.heap.size + 2) (w.heap.size + 3) w W := KL.sub hK (fun x hx => by simp only [List.mem_cons, List.not_mem_nil, or_false] at hx ⊢; grind) (fun x hx => by simp only [List.mem_cons, List.not_mem_nil, or_false] at hx ⊢; grind)
              have hHeld := K_Dv.ks hD
              refine wpAnyH_ready (rs := [9, 14]) (by kernel_rfl) (by simp) ?_
              refine AllReadyH.cons (o := _) rfl (fun Kc hc => ?_) (AllReadyH.cons (o := _) rfl (fun Kc hc => ?_) (AllReadyH.nil))
              · go_simp
                go_at_call 127
                refine (QU.out _).mono ?_
                rintro e w' ⟨rfl, hbel⟩
                refine hc.out _ _ (K_Dv.ks (K_Dv.below hbel hD)) (fun _ => ?_)
                clear hc Kc
                (try simp only [Act.put, List.setIfInBounds_toArray, List.set_cons_zero, List.set_cons_succ, List.getElem_toArray, List.getElem_cons_zero, List.getElem_cons_succ])
                have hN : (K_Dp x0 x1 x2 x3 y0 y1 y2 y3 p w.heap.size (w.heap.size + 1) (w.heap.size + 2) (w.heap.size + 3) w w') ∧ w.heap.size + 3 < p := ⟨K_Dp.below hbel hK, hC⟩
                have hHeld9 := K_Dv.ks (K_Dv.below hbel hD)
                (refine wpAnyH_take (i := 10) (oi := _) (v := ?_) rfl (by kernel_rfl) (by kernel_rfl) (by kernel_rfl) (fun _ _ _ h => h) (Or.inl ⟨by rfl, fun wx hSw => ?_⟩) (by assumption) ?_; rotate_left 1; focus ((try dsimp only at hSw); go_simp; (try with_reducible rfl)); (try simp only [Act.put, List.setIfInBounds_toArray, List.set_cons_zero, List.set_cons_succ, List.getElem_toArray, List.getElem_cons_zero, List.getElem_cons_succ]))
                (refine wpAnyH_take (i := 11) (oi := _) (v := ?_) rfl (by kernel_rfl) (by kernel_rfl) (by kernel_rfl) (fun _ _ _ h => h) (Or.inl ⟨by rfl, fun wx hSw => ?_⟩) (by assumption) ?_; rotate_left 1; focus ((try dsimp only at hSw); go_simp; (try with_reducible rfl)); (try simp only [Act.put, List.setIfInBounds_toArray, List.set_cons_zero, List.set_cons_succ, List.getElem_toArray, List.getElem_cons_zero, List.getElem_cons_succ]))
                (refine wpAnyH_take (i := 12) (oi := _) (v := ?_) rfl (by kernel_rfl) (by kernel_rfl) (by kernel_rfl) (fun _ _ _ h => h) (Or.inl ⟨by rfl, fun wx hSw => ?_⟩) (by assumption) ?_; rotate_left 1; focus ((try dsimp only at hSw); go_simp; (try with_reducible rfl)); (try simp only [Act.put, List.setIfInBounds_toArray, List.set_cons_zero, List.set_cons_succ, List.getElem_toArray, List.getElem_cons_zero, List.getElem_cons_succ]))
                exact REST410.out p q w' hN
              · go_simp
                refine hc.out _ _ (K_Dv.ks (K_Dv.alloc _ hD)) (fun _ => ?_)
                clear hc Kc
                (try simp only [Act.put, List.setIfInBounds_toArray, List.set_cons_zero, List.set_cons_succ, List.getElem_toArray, List.getElem_cons_zero, List.getElem_cons_succ])
                have hN : (K_Dq x0 x1 x2 x3 y0 y1 y2 y3 p W.heap.size w.heap.size (w.heap.size + 1) (w.heap.size + 2) (w.heap.size + 3) w (W.alloc (.cells #[.int .i64 0, .int .i64 0, .int .i64 0, .int .i64 0] 97))) ∧ (w.heap.size + 3 < p ∧ w.heap.size + 3 < W.heap.size ∧ p ≠ W.heap.size) := ⟨KL.push4w hK 0 0 0 0 _ _ rfl, by have zz := (K_Dv.zs hD).2.2.2.1; have zp := (K_Dp.zs hK).1; omega⟩
                exact REST311.out p W.heap.size _ hN
          case R400 =>
            intro p q W hN
            obtain ⟨hK, hC⟩ := hN
            have hD : K_Dv x0 x1 x2 x3 y0 y1 y2 y3 w.heap.size (w.heap.size + 1) (w.heap.size + 2) (w.heap.size + 3) w W := hK
            have hHeld := K_Dv.ks hD
            refine wpAnyH_ready (rs := [13, 14]) (by kernel_rfl) (by simp) ?_
            refine AllReadyH.cons (o := _) rfl (fun Kc hc => ?_) (AllReadyH.cons (o := _) rfl (fun Kc hc => ?_) (AllReadyH.nil))
            · go_simp
              refine hc.out _ _ (K_Dv.ks (K_Dv.alloc _ hD)) (fun _ => ?_)
              clear hc Kc
              (try simp only [Act.put, List.setIfInBounds_toArray, List.set_cons_zero, List.set_cons_succ, List.getElem_toArray, List.getElem_cons_zero, List.getElem_cons_succ])
              have hN : (K_Dp x0 x1 x2 x3 y0 y1 y2 y3 W.heap.size w.heap.size (w.heap.size + 1) (w.heap.size + 2) (w.heap.size + 3) w (W.alloc (.cells #[.int .i64 0, .int .i64 0, .int .i64 0, .int .i64 0] 97))) ∧ w.heap.size + 3 < W.heap.size := ⟨KL.push4w hK 0 0 0 0 _ _ rfl, by have zz := (K_Dv.zs hD).2.2.2.1; omega⟩
              exact REST410.out W.heap.size q _ hN
            · go_simp
              refine hc.out _ _ (K_Dv.ks (K_Dv.alloc _ hD)) (fun _ => ?_)
              clear hc Kc
              (try simp only [Act.put, List.setIfInBounds_toArray, List.set_cons_zero, List.set_cons_succ, List.getElem_toArray, List.getElem_cons_zero, List.getElem_cons_succ])
              have hN : (K_Dp x0 x1 x2 x3 y0 y1 y2 y3 W.heap.size w.heap.size (w.heap.size + 1) (w.heap.size + 2) (w.heap.size + 3) w (W.alloc (.cells #[.int .i64 0, .int .i64 0, .int .i64 0, .int .i64 0] 97))) ∧ w.heap.size + 3 < W.heap.size := ⟨KL.push4w hK 0 0 0 0 _ _ rfl, by have zz := (K_Dv.zs hD).2.2.2.1; omega⟩
              exact REST401.out p W.heap.size _ hN
        case R311 =>
          intro p q W hN
          obtain ⟨hK, hC⟩ := hN
          have hD : K_Dv x0 x1 x2 x3 y0 y1 y2 y3 w.heap.size (w.heap.size + 1) (w.heap.size + 2) (w.heap.size + 3) w W := KL.sub hK (fun x hx => by simp only [List.mem_cons, List.not_mem_nil, or_false] at hx ⊢; grind) (fun x hx => by simp only [List.mem_cons, List.not_mem_nil, or_false] at hx ⊢; grind)
          have hHeld := K_Dv.ks hD
          refine wpAnyH_ready (rs := [9]) (by kernel_rfl) (by simp) ?_
          refine AllReadyH.cons (o := _) rfl (fun Kc hc => ?_) (AllReadyH.nil)
          · go_simp
            go_at_call 127
            refine (QU.out _).mono ?_
            rintro e w' ⟨rfl, hbel⟩
            refine hc.out _ _ (K_Dv.ks (K_Dv.below hbel hD)) (fun _ => ?_)
            clear hc Kc
            (try simp only [Act.put, List.setIfInBounds_toArray, List.set_cons_zero, List.set_cons_succ, List.getElem_toArray, List.getElem_cons_zero, List.getElem_cons_succ])
            have hN : (K_Dq x0 x1 x2 x3 y0 y1 y2 y3 p q w.heap.size (w.heap.size + 1) (w.heap.size + 2) (w.heap.size + 3) w w') ∧ (w.heap.size + 3 < p ∧ w.heap.size + 3 < q ∧ p ≠ q) := ⟨K_Dq.below hbel hK, hC⟩
            have hHeld9 := K_Dv.ks (K_Dv.below hbel hD)
            (refine wpAnyH_take (i := 10) (oi := _) (v := ?_) rfl (by kernel_rfl) (by kernel_rfl) (by kernel_rfl) (fun _ _ _ h => h) (Or.inl ⟨by rfl, fun wx hSw => ?_⟩) (by assumption) ?_; rotate_left 1; focus ((try dsimp only at hSw); go_simp; (try with_reducible rfl)); (try simp only [Act.put, List.setIfInBounds_toArray, List.set_cons_zero, List.set_cons_succ, List.getElem_toArray, List.getElem_cons_zero, List.getElem_cons_succ]))
            (refine wpAnyH_take (i := 11) (oi := _) (v := ?_) rfl (by kernel_rfl) (by kernel_rfl) (by kernel_rfl) (fun _ _ _ h => h) (Or.inl ⟨by rfl, fun wx hSw => ?_⟩) (by assumption) ?_; rotate_left 1; focus ((try dsimp only at hSw); go_simp; (try with_reducible rfl)); (try simp only [Act.put, List.setIfInBounds_toArray, List.set_cons_zero, List.set_cons_succ, List.getElem_toArray, List.getElem_cons_zero, List.getElem_cons_succ]))
            (refine wpAnyH_take (i := 12) (oi := _) (v := ?_) rfl (by kernel_rfl) (by kernel_rfl) (by kernel_rfl) (fun _ _ _ h => h) (Or.inl ⟨by rfl, fun wx hSw => ?_⟩) (by assumption) ?_; rotate_left 1; focus ((try dsimp only at hSw); go_simp; (try with_reducible rfl)); (try simp only [Act.put, List.setIfInBounds_toArray, List.set_cons_zero, List.set_cons_succ, List.getElem_toArray, List.getElem_cons_zero, List.getElem_cons_succ]))
            exact REST411.out p q w' hN
      case R401 =>
        intro p q W hN
        obtain ⟨hK, hC⟩ := hN
        have hD : K_Dv x0 x1 x2 x3 y0 y1 y2 y3 w.heap.size (w.heap.size + 1) (w.heap.size + 2) (w.heap.size + 3) w W := KL.sub hK (fun x hx => by simp only [List.mem_cons, List.not_mem_nil, or_false] at hx ⊢; grind) (fun x hx => by simp only [List.mem_cons, List.not_mem_nil, or_false] at hx ⊢; grind)
        have hHeld := K_Dv.ks hD
        refine wpAnyH_ready (rs := [13]) (by kernel_rfl) (by simp) ?_
        refine AllReadyH.cons (o := _) rfl (fun Kc hc => ?_) (AllReadyH.nil)
        · go_simp
          refine hc.out _ _ (K_Dv.ks (K_Dv.alloc _ hD)) (fun _ => ?_)
          clear hc Kc
          (try simp only [Act.put, List.setIfInBounds_toArray, List.set_cons_zero, List.set_cons_succ, List.getElem_toArray, List.getElem_cons_zero, List.getElem_cons_succ])
          have hN : (K_Dq x0 x1 x2 x3 y0 y1 y2 y3 W.heap.size q w.heap.size (w.heap.size + 1) (w.heap.size + 2) (w.heap.size + 3) w (W.alloc (.cells #[.int .i64 0, .int .i64 0, .int .i64 0, .int .i64 0] 97))) ∧ (w.heap.size + 3 < W.heap.size ∧ w.heap.size + 3 < q ∧ W.heap.size ≠ q) := ⟨KL.sub (KL.push4w hK 0 0 0 0 _ _ rfl) (fun x hx => by simp only [List.mem_cons, List.not_mem_nil, or_false] at hx ⊢; grind) (fun x hx => by simp only [List.mem_cons, List.not_mem_nil, or_false] at hx ⊢; grind), by have zz := (K_Dv.zs hD).2.2.2.1; have zp := (K_Dp.zs hK).1; omega⟩
          exact REST411.out W.heap.size q _ hN
    case R410 =>
      intro p q W hN
      obtain ⟨hK, hC⟩ := hN
      have hD : K_Dv x0 x1 x2 x3 y0 y1 y2 y3 w.heap.size (w.heap.size + 1) (w.heap.size + 2) (w.heap.size + 3) w W := KL.sub hK (fun x hx => by simp only [List.mem_cons, List.not_mem_nil, or_false] at hx ⊢; grind) (fun x hx => by simp only [List.mem_cons, List.not_mem_nil, or_false] at hx ⊢; grind)
      have hHeld := K_Dv.ks hD
      refine wpAnyH_ready (rs := [14]) (by kernel_rfl) (by simp) ?_
      refine AllReadyH.cons (o := _) rfl (fun Kc hc => ?_) (AllReadyH.nil)
      · go_simp
        refine hc.out _ _ (K_Dv.ks (K_Dv.alloc _ hD)) (fun _ => ?_)
        clear hc Kc
        (try simp only [Act.put, List.setIfInBounds_toArray, List.set_cons_zero, List.set_cons_succ, List.getElem_toArray, List.getElem_cons_zero, List.getElem_cons_succ])
        have hN : (K_Dq x0 x1 x2 x3 y0 y1 y2 y3 p W.heap.size w.heap.size (w.heap.size + 1) (w.heap.size + 2) (w.heap.size + 3) w (W.alloc (.cells #[.int .i64 0, .int .i64 0, .int .i64 0, .int .i64 0] 97))) ∧ (w.heap.size + 3 < p ∧ w.heap.size + 3 < W.heap.size ∧ p ≠ W.heap.size) := ⟨KL.push4w hK 0 0 0 0 _ _ rfl, by have zz := (K_Dv.zs hD).2.2.2.1; have zp := (K_Dp.zs hK).1; omega⟩
        exact REST411.out p W.heap.size _ hN
  case R411 =>
    intro p q W hN
    obtain ⟨hK, hC⟩ := hN
    have hD : K_Dv x0 x1 x2 x3 y0 y1 y2 y3 w.heap.size (w.heap.size + 1) (w.heap.size + 2) (w.heap.size + 3) w W := KL.sub hK (fun x hx => by simp only [List.mem_cons, List.not_mem_nil, or_false] at hx ⊢; grind) (fun x hx => by simp only [List.mem_cons, List.not_mem_nil, or_false] at hx ⊢; grind)
    have hHeld := K_Dv.ks hD
    have hZ : K_Dz x0 x1 x2 x3 y0 y1 y2 y3 p q w.heap.size (w.heap.size + 1) (w.heap.size + 2) (w.heap.size + 3) w _ := KL.sub hK (fun x hx => by simp only [List.mem_cons, List.not_mem_nil, or_false] at hx ⊢; grind) (fun x hx => by simp only [List.mem_cons, List.not_mem_nil, or_false] at hx ⊢; grind)
    obtain ⟨hC1, hC2, hC3⟩ := hC
    obtain ⟨c0_, c1_, c2_, c3_, c4_, c5_, c6_, c7_, c8_, c9_, c10_, c11_, c12_, c13_, c14_, c15_, f0_, f1_, f2_, f3_, f4_, f5_, f6_, f7_, d8_, f8_, d9_, f9_, d10_, f10_, d11_, f11_, d12_, f12_, d13_, f13_, d14_, f14_, d15_, f15_⟩ := K_Dq.cells hK
    obtain ⟨z0_, z1_, z2_, z3_, z4_, z5_, -⟩ := K_Dq.zs hK
    clear hD hK
    (refine wpAnyH_ready (rs := [15]) (by kernel_rfl) (by simp) ?_; refine AllReadyH.cons (o := _) rfl (fun K hK => ?_) AllReadyH.nil; go_simp)
    have hA : K_Da qa0 qa1 qa2 qa3 x0 x1 x2 x3 y0 y1 y2 y3 p q w.heap.size (w.heap.size + 1) (w.heap.size + 2) (w.heap.size + 3) w _ := KL.put4n (p := p) hZ (by simp) (by intro x hx; simp only [List.mem_cons, List.not_mem_nil, or_false] at hx; rcases hx with rfl | rfl | rfl | rfl | rfl | rfl | rfl | rfl <;> (simp only []; omega)) (by omega) qa0 qa1 qa2 qa3
    refine hK.out _ _ (K_Dv.ks (KL.sub hA (fun x hx => by simp only [List.mem_cons, List.not_mem_nil, or_false] at hx ⊢; grind) (fun x hx => by simp only [List.mem_cons, List.not_mem_nil, or_false] at hx ⊢; grind))) (fun hHeld => ?_)
    clear hK K
    (try simp only [Act.put, List.setIfInBounds_toArray, List.set_cons_zero, List.set_cons_succ, List.getElem_toArray, List.getElem_cons_zero, List.getElem_cons_succ])
    clear c0_ c1_ c2_ c3_ c4_ c5_ c6_ c7_ c8_ c9_ c10_ c11_ c12_ c13_ c14_ c15_ f0_ f1_ f2_ f3_ f4_ f5_ f6_ f7_ d8_ f8_ d9_ f9_ d10_ f10_ d11_ f11_ d12_ f12_ d13_ f13_ d14_ f14_ d15_ f15_ z0_ z1_ z2_ z3_ z4_ z5_ hZ
    obtain ⟨c0_, c1_, c2_, c3_, c4_, c5_, c6_, c7_, c8_, c9_, c10_, c11_, d0_, f0_, d1_, f1_, d2_, f2_, d3_, f3_, f4_, f5_, f6_, f7_, d8_, f8_, d9_, f9_, d10_, f10_, d11_, f11_, d12_, f12_, d13_, f13_, d14_, f14_, d15_, f15_⟩ := K_Da.cells hA
    obtain ⟨z0_, z1_, z2_, z3_, z4_, z5_, -⟩ := K_Da.zs hA
    (refine wpAnyH_ready (rs := [16]) (by kernel_rfl) (by simp) ?_; refine AllReadyH.cons (o := _) rfl (fun K hK => ?_) AllReadyH.nil; go_simp)
    have hB : K_Db qb0 qb1 qb2 qb3 qa0 qa1 qa2 qa3 x0 x1 x2 x3 y0 y1 y2 y3 p q w.heap.size (w.heap.size + 1) (w.heap.size + 2) (w.heap.size + 3) w _ := KL.put4n (p := q) hA (by simp) (by intro x hx; simp only [List.mem_cons, List.not_mem_nil, or_false] at hx; rcases hx with rfl | rfl | rfl | rfl | rfl | rfl | rfl | rfl | rfl | rfl | rfl | rfl <;> (simp only []; omega)) (by omega) qb0 qb1 qb2 qb3
    refine hK.out _ _ (K_Dv.ks (KL.sub hB (fun x hx => by simp only [List.mem_cons, List.not_mem_nil, or_false] at hx ⊢; grind) (fun x hx => by simp only [List.mem_cons, List.not_mem_nil, or_false] at hx ⊢; grind))) (fun hHeld => ?_)
    clear hK K
    (try simp only [Act.put, List.setIfInBounds_toArray, List.set_cons_zero, List.set_cons_succ, List.getElem_toArray, List.getElem_cons_zero, List.getElem_cons_succ])
    clear c0_ c1_ c2_ c3_ c4_ c5_ c6_ c7_ c8_ c9_ c10_ c11_ d0_ f0_ d1_ f1_ d2_ f2_ d3_ f3_ f4_ f5_ f6_ f7_ d8_ f8_ d9_ f9_ d10_ f10_ d11_ f11_ d12_ f12_ d13_ f13_ d14_ f14_ d15_ f15_ z0_ z1_ z2_ z3_ z4_ z5_ hA
    refine wpAnyH_done (by kernel_rfl) ?_ _
    clear hHeld
    generalize ((((((((W.setCell ⟨p, 0, none⟩ (.int .i64 qa0)).setCell ⟨p, 1, none⟩ (.int .i64 qa1)).setCell ⟨p, 2, none⟩ (.int .i64 qa2)).setCell ⟨p, 3, none⟩ (.int .i64 qa3)).setCell ⟨q, 0, none⟩ (.int .i64 qb0)).setCell ⟨q, 1, none⟩ (.int .i64 qb1)).setCell ⟨q, 2, none⟩ (.int .i64 qb2)).setCell ⟨q, 3, none⟩ (.int .i64 qb3)) = W2 at hB ⊢
    have hk := hB
    clear hB CJ TM SQ QU
    try clear hC
    have hfd : ∀ (a b c d : Int) (W : World), (Instr.field 97 (.agg #[.int .i64 a, .int .i64 b, .int .i64 c, .int .i64 d]) 0).run Try.prog W = .ok (.agg #[.int .i64 a, .int .i64 b, .int .i64 c, .int .i64 d]) W := fun _ _ _ _ _ => rfl
    go_wp2_with fail
    go_region_held3 (fun w' => (w'.cell? ⟨q, 0, none⟩ = some (.int .i64 qb0) ∧ w'.cell? ⟨q, 1, none⟩ = some (.int .i64 qb1) ∧ w'.cell? ⟨q, 2, none⟩ = some (.int .i64 qb2) ∧ w'.cell? ⟨q, 3, none⟩ = some (.int .i64 qb3) ∧ w'.cell? ⟨p, 0, none⟩ = some (.int .i64 qa0) ∧ w'.cell? ⟨p, 1, none⟩ = some (.int .i64 qa1) ∧ w'.cell? ⟨p, 2, none⟩ = some (.int .i64 qa2) ∧ w'.cell? ⟨p, 3, none⟩ = some (.int .i64 qa3) ∧ w'.cell? ⟨w.heap.size, 0, none⟩ = some (.int .i64 x0) ∧ w'.cell? ⟨w.heap.size, 1, none⟩ = some (.int .i64 x1) ∧ w'.cell? ⟨w.heap.size, 2, none⟩ = some (.int .i64 x2) ∧ w'.cell? ⟨w.heap.size, 3, none⟩ = some (.int .i64 x3) ∧ w'.cell? ⟨(w.heap.size + 1), 0, none⟩ = some (.int .i64 y0) ∧ w'.cell? ⟨(w.heap.size + 1), 1, none⟩ = some (.int .i64 y1) ∧ w'.cell? ⟨(w.heap.size + 1), 2, none⟩ = some (.int .i64 y2) ∧ w'.cell? ⟨(w.heap.size + 1), 3, none⟩ = some (.int .i64 y3) ∧ w'.frozen? ⟨q, 0, none⟩ = false ∧ w'.frozen? ⟨q, 1, none⟩ = false ∧ w'.frozen? ⟨q, 2, none⟩ = false ∧ w'.frozen? ⟨q, 3, none⟩ = false ∧ w'.frozen? ⟨p, 0, none⟩ = false ∧ w'.frozen? ⟨p, 1, none⟩ = false ∧ w'.frozen? ⟨p, 2, none⟩ = false ∧ w'.frozen? ⟨p, 3, none⟩ = false ∧ w'.cell? ⟨(w.heap.size + 2), 0, none⟩ = some (cv w' ((w.heap.size + 2)) 0) ∧ w'.frozen? ⟨(w.heap.size + 2), 0, none⟩ = false ∧ w'.cell? ⟨(w.heap.size + 2), 1, none⟩ = some (cv w' ((w.heap.size + 2)) 1) ∧ w'.frozen? ⟨(w.heap.size + 2), 1, none⟩ = false ∧ w'.cell? ⟨(w.heap.size + 2), 2, none⟩ = some (cv w' ((w.heap.size + 2)) 2) ∧ w'.frozen? ⟨(w.heap.size + 2), 2, none⟩ = false ∧ w'.cell? ⟨(w.heap.size + 2), 3, none⟩ = some (cv w' ((w.heap.size + 2)) 3) ∧ w'.frozen? ⟨(w.heap.size + 2), 3, none⟩ = false ∧ w'.cell? ⟨(w.heap.size + 3), 0, none⟩ = some (cv w' ((w.heap.size + 3)) 0) ∧ w'.frozen? ⟨(w.heap.size + 3), 0, none⟩ = false ∧ w'.cell? ⟨(w.heap.size + 3), 1, none⟩ = some (cv w' ((w.heap.size + 3)) 1) ∧ w'.frozen? ⟨(w.heap.size + 3), 1, none⟩ = false ∧ w'.cell? ⟨(w.heap.size + 3), 2, none⟩ = some (cv w' ((w.heap.size + 3)) 2) ∧ w'.frozen? ⟨(w.heap.size + 3), 2, none⟩ = false ∧ w'.cell? ⟨(w.heap.size + 3), 3, none⟩ = some (cv w' ((w.heap.size + 3)) 3) ∧ w'.frozen? ⟨(w.heap.size + 3), 3, none⟩ = false) ∧ K_Db qb0 qb1 qb2 qb3 qa0 qa1 qa2 qa3 x0 x1 x2 x3 y0 y1 y2 y3 p q w.heap.size (w.heap.size + 1) (w.heap.size + 2) (w.heap.size + 3) w w') ((refine K_Db.ks ?_; repeat (first | (with_reducible assumption) | (with_reducible refine K_Db.draws _ ?_) | (with_reducible refine K_Db.drew ?_) | (with_reducible refine K_Db.alloc _ ?_) | (with_reducible refine K_Db.set ?_ _ _ _ (by omega)))))
      (first
        | (go_at_call 82; (with_reducible refine (BI.out _).mono ?_); rintro e w' ⟨rfl, hbel⟩; have hk' := K_Db.below hbel (And.right (by assumption)); clear hbel)
        | (go_at_call 129; (with_reducible refine (MI.out _).mono ?_); rintro e w'' ⟨rfl, hbel⟩; have hk'' := K_Db.below hbel (And.right (by assumption)); clear hbel))
    all_goals
      have hS0 := KL.put4n (p := w.heap.size + 2) hk'' (by simp) (by intro x hx; simp only [List.mem_cons, List.not_mem_nil, or_false] at hx; rcases hx with rfl | rfl | rfl | rfl | rfl | rfl | rfl | rfl | rfl | rfl | rfl | rfl | rfl | rfl | rfl | rfl <;> (simp only []; omega)) (by omega) qa0 qa1 qa2 qa3
      have hS1 := KL.put4n (p := w.heap.size + 3) hS0 (by simp) (by intro x hx; simp only [List.mem_cons, List.not_mem_nil, or_false] at hx; rcases hx with rfl | rfl | rfl | rfl | rfl | rfl | rfl | rfl | rfl | rfl | rfl | rfl | rfl | rfl | rfl | rfl | rfl | rfl | rfl | rfl <;> (simp only []; omega)) (by omega) r0 r1 r2 r3
      have hE : K_De r0 r1 r2 r3 qb0 qb1 qb2 qb3 qa0 qa1 qa2 qa3 x0 x1 x2 x3 y0 y1 y2 y3 p q w.heap.size (w.heap.size + 1) (w.heap.size + 2) (w.heap.size + 3) w _ := KL.sub hS1 (fun x hx => by simp only [List.mem_cons, List.not_mem_nil, or_false] at hx ⊢; grind) (fun x hx => by simp only [List.mem_cons, List.not_mem_nil, or_false] at hx ⊢; grind)
      clear hS0 hS1
      generalize ((((((((w''.setCell ⟨w.heap.size + 1 + 1, 0, none⟩ (.int .i64 qa0)).setCell ⟨w.heap.size + 1 + 1, 1, none⟩ (.int .i64 qa1)).setCell ⟨w.heap.size + 1 + 1, 2, none⟩ (.int .i64 qa2)).setCell ⟨w.heap.size + 1 + 1, 3, none⟩ (.int .i64 qa3)).setCell ⟨w.heap.size + 1 + 1 + 1, 0, none⟩ (.int .i64 r0)).setCell ⟨w.heap.size + 1 + 1 + 1, 1, none⟩ (.int .i64 r1)).setCell ⟨w.heap.size + 1 + 1 + 1, 2, none⟩ (.int .i64 r2)).setCell ⟨w.heap.size + 1 + 1 + 1, 3, none⟩ (.int .i64 r3)) = W3 at hE ⊢
      have hk := hE
      clear hE
      have hz : KL w [] [] W3 := KL.sub hk (fun x hx => by simp at hx) (fun x hx => by simp at hx)
      clear hk' hk''
      obtain ⟨y0_, y1_, y2_, y3_, y4_, y5_, -⟩ := K_De.zs hk
      go_wp2_with fail
      refine merge_rest1d (K := fun b w9 => (K_Df s0 s1 s2 s3 r0 r1 r2 r3 qb0 qb1 qb2 qb3 qa0 qa1 qa2 qa3 x0 x1 x2 x3 y0 y1 y2 y3 b p q w.heap.size (w.heap.size + 1) (w.heap.size + 2) (w.heap.size + 3) w w9) ∧ w.heap.size + 3 < b) ?G3 ?main3 ?rest3
      case main3 =>
        intro REST
        go_region_held3 (fun w' => (w'.cell? ⟨q, 0, none⟩ = some (.int .i64 qb0) ∧ w'.cell? ⟨q, 1, none⟩ = some (.int .i64 qb1) ∧ w'.cell? ⟨q, 2, none⟩ = some (.int .i64 qb2) ∧ w'.cell? ⟨q, 3, none⟩ = some (.int .i64 qb3) ∧ w'.cell? ⟨p, 0, none⟩ = some (.int .i64 qa0) ∧ w'.cell? ⟨p, 1, none⟩ = some (.int .i64 qa1) ∧ w'.cell? ⟨p, 2, none⟩ = some (.int .i64 qa2) ∧ w'.cell? ⟨p, 3, none⟩ = some (.int .i64 qa3) ∧ w'.cell? ⟨w.heap.size, 0, none⟩ = some (.int .i64 x0) ∧ w'.cell? ⟨w.heap.size, 1, none⟩ = some (.int .i64 x1) ∧ w'.cell? ⟨w.heap.size, 2, none⟩ = some (.int .i64 x2) ∧ w'.cell? ⟨w.heap.size, 3, none⟩ = some (.int .i64 x3) ∧ w'.cell? ⟨(w.heap.size + 1), 0, none⟩ = some (.int .i64 y0) ∧ w'.cell? ⟨(w.heap.size + 1), 1, none⟩ = some (.int .i64 y1) ∧ w'.cell? ⟨(w.heap.size + 1), 2, none⟩ = some (.int .i64 y2) ∧ w'.cell? ⟨(w.heap.size + 1), 3, none⟩ = some (.int .i64 y3) ∧ w'.cell? ⟨(w.heap.size + 2), 0, none⟩ = some (.int .i64 qa0) ∧ w'.cell? ⟨(w.heap.size + 2), 1, none⟩ = some (.int .i64 qa1) ∧ w'.cell? ⟨(w.heap.size + 2), 2, none⟩ = some (.int .i64 qa2) ∧ w'.cell? ⟨(w.heap.size + 2), 3, none⟩ = some (.int .i64 qa3) ∧ w'.cell? ⟨(w.heap.size + 3), 0, none⟩ = some (.int .i64 r0) ∧ w'.cell? ⟨(w.heap.size + 3), 1, none⟩ = some (.int .i64 r1) ∧ w'.cell? ⟨(w.heap.size + 3), 2, none⟩ = some (.int .i64 r2) ∧ w'.cell? ⟨(w.heap.size + 3), 3, none⟩ = some (.int .i64 r3) ∧ w'.frozen? ⟨q, 0, none⟩ = false ∧ w'.frozen? ⟨q, 1, none⟩ = false ∧ w'.frozen? ⟨q, 2, none⟩ = false ∧ w'.frozen? ⟨q, 3, none⟩ = false ∧ w'.frozen? ⟨p, 0, none⟩ = false ∧ w'.frozen? ⟨p, 1, none⟩ = false ∧ w'.frozen? ⟨p, 2, none⟩ = false ∧ w'.frozen? ⟨p, 3, none⟩ = false ∧ w'.frozen? ⟨(w.heap.size + 2), 0, none⟩ = false ∧ w'.frozen? ⟨(w.heap.size + 2), 1, none⟩ = false ∧ w'.frozen? ⟨(w.heap.size + 2), 2, none⟩ = false ∧ w'.frozen? ⟨(w.heap.size + 2), 3, none⟩ = false ∧ w'.frozen? ⟨(w.heap.size + 3), 0, none⟩ = false ∧ w'.frozen? ⟨(w.heap.size + 3), 1, none⟩ = false ∧ w'.frozen? ⟨(w.heap.size + 3), 2, none⟩ = false ∧ w'.frozen? ⟨(w.heap.size + 3), 3, none⟩ = false) ∧ K_De r0 r1 r2 r3 qb0 qb1 qb2 qb3 qa0 qa1 qa2 qa3 x0 x1 x2 x3 y0 y1 y2 y3 p q w.heap.size (w.heap.size + 1) (w.heap.size + 2) (w.heap.size + 3) w w') ((refine K_De.ks ?_; repeat (first | (with_reducible assumption) | (with_reducible refine K_De.draws _ ?_) | (with_reducible refine K_De.drew ?_) | (with_reducible refine K_De.alloc _ ?_) | (with_reducible refine K_De.set ?_ _ _ _ (by omega)))))
          (first
            | (go_at_call 82; (with_reducible refine (BH.out _).mono ?_); rintro e w' ⟨rfl, hbel⟩; have hk' := K_De.below hbel (And.right (by assumption)); obtain ⟨x0_, x1_, x2_, x3_, x4_, x5_, -⟩ := K_De.zs hk'; (first
                | (have hz := KL.below hbel (KL.push4w hz 0 0 0 0 _ _ rfl); have hq : K_Qa 0 0 0 0 _ w w' := hz; obtain ⟨c0_, c1_, c2_, c3_, f0_, f1_, f2_, f3_⟩ := K_Qa.cells hq; obtain ⟨v0_, -⟩ := K_Qa.zs hq)
                | (have hz := KL.below hbel (KL.draws 1 (KL.push4w hz 0 0 0 0 _ _ rfl)); have hq : K_Qa 0 0 0 0 _ w w' := hz; obtain ⟨c0_, c1_, c2_, c3_, f0_, f1_, f2_, f3_⟩ := K_Qa.cells hq; obtain ⟨v0_, -⟩ := K_Qa.zs hq)
                | skip))
            | (go_at_call 129; (with_reducible refine (MH.out _).mono ?_); rintro e w'' ⟨rfl, hbel2⟩; have hk'' := K_De.below hbel2 (And.right (by assumption)); obtain ⟨z0_, z1_, z2_, z3_, z4_, z5_, -⟩ := K_De.zs hk''; (first
                | (have hq2 : K_Qa 0 0 0 0 _ w w'' := KL.below hbel2 hz; obtain ⟨c0_, c1_, c2_, c3_, f0_, f1_, f2_, f3_⟩ := K_Qa.cells hq2; obtain ⟨v0_, -⟩ := K_Qa.zs hq2)
                | (have hz9 : KL w [] [] w' := KL.sub hk' (fun x hx => by simp at hx) (fun x hx => by simp at hx); have hq2 : K_Qa 0 0 0 0 _ w w'' := KL.below hbel2 (KL.push4w hz9 0 0 0 0 _ _ rfl); obtain ⟨c0_, c1_, c2_, c3_, f0_, f1_, f2_, f3_⟩ := K_Qa.cells hq2; obtain ⟨v0_, -⟩ := K_Qa.zs hq2)
                | skip)))
        · rename_i hh
          clear hh
          have hK := And.intro (KL.push4 hk'' s0 s1 s2 s3 97 _ rfl) (show w.heap.size + 3 < w''.heap.size by omega)
          generalize (w''.alloc (.cells #[.int .i64 s0, .int .i64 s1, .int .i64 s2, .int .i64 s3] 97)) = w9 at hK ⊢
          generalize w''.heap.size = p at hK ⊢
          exact REST.out _ _ hK
        all_goals
          rename_i hh
          first
            | exact REST.out w'.heap.size _ ⟨KL.cons4g hh.2 w'.heap.size s0 s1 s2 s3 (by simp [go_sem, c0_, c1_, c2_, c3_, f0_, f1_, f2_, f3_]), by omega⟩
            | exact REST.out W3.heap.size _ ⟨KL.cons4g hh.2 W3.heap.size s0 s1 s2 s3 (by simp [go_sem, c0_, c1_, c2_, c3_, f0_, f1_, f2_, f3_]), by omega⟩
      case rest3 =>
        intro u w9 hkf
        obtain ⟨hk, hu⟩ := hkf
        clear hz
        go_wp2_with fail
        go_region_held3 (fun w' => (w'.cell? ⟨u, 0, none⟩ = some (.int .i64 s0) ∧ w'.cell? ⟨u, 1, none⟩ = some (.int .i64 s1) ∧ w'.cell? ⟨u, 2, none⟩ = some (.int .i64 s2) ∧ w'.cell? ⟨u, 3, none⟩ = some (.int .i64 s3) ∧ w'.cell? ⟨q, 0, none⟩ = some (.int .i64 qb0) ∧ w'.cell? ⟨q, 1, none⟩ = some (.int .i64 qb1) ∧ w'.cell? ⟨q, 2, none⟩ = some (.int .i64 qb2) ∧ w'.cell? ⟨q, 3, none⟩ = some (.int .i64 qb3) ∧ w'.cell? ⟨p, 0, none⟩ = some (.int .i64 qa0) ∧ w'.cell? ⟨p, 1, none⟩ = some (.int .i64 qa1) ∧ w'.cell? ⟨p, 2, none⟩ = some (.int .i64 qa2) ∧ w'.cell? ⟨p, 3, none⟩ = some (.int .i64 qa3) ∧ w'.cell? ⟨w.heap.size, 0, none⟩ = some (.int .i64 x0) ∧ w'.cell? ⟨w.heap.size, 1, none⟩ = some (.int .i64 x1) ∧ w'.cell? ⟨w.heap.size, 2, none⟩ = some (.int .i64 x2) ∧ w'.cell? ⟨w.heap.size, 3, none⟩ = some (.int .i64 x3) ∧ w'.cell? ⟨(w.heap.size + 1), 0, none⟩ = some (.int .i64 y0) ∧ w'.cell? ⟨(w.heap.size + 1), 1, none⟩ = some (.int .i64 y1) ∧ w'.cell? ⟨(w.heap.size + 1), 2, none⟩ = some (.int .i64 y2) ∧ w'.cell? ⟨(w.heap.size + 1), 3, none⟩ = some (.int .i64 y3) ∧ w'.cell? ⟨(w.heap.size + 2), 0, none⟩ = some (.int .i64 qa0) ∧ w'.cell? ⟨(w.heap.size + 2), 1, none⟩ = some (.int .i64 qa1) ∧ w'.cell? ⟨(w.heap.size + 2), 2, none⟩ = some (.int .i64 qa2) ∧ w'.cell? ⟨(w.heap.size + 2), 3, none⟩ = some (.int .i64 qa3) ∧ w'.cell? ⟨(w.heap.size + 3), 0, none⟩ = some (.int .i64 r0) ∧ w'.cell? ⟨(w.heap.size + 3), 1, none⟩ = some (.int .i64 r1) ∧ w'.cell? ⟨(w.heap.size + 3), 2, none⟩ = some (.int .i64 r2) ∧ w'.cell? ⟨(w.heap.size + 3), 3, none⟩ = some (.int .i64 r3) ∧ w'.frozen? ⟨q, 0, none⟩ = false ∧ w'.frozen? ⟨q, 1, none⟩ = false ∧ w'.frozen? ⟨q, 2, none⟩ = false ∧ w'.frozen? ⟨q, 3, none⟩ = false ∧ w'.frozen? ⟨p, 0, none⟩ = false ∧ w'.frozen? ⟨p, 1, none⟩ = false ∧ w'.frozen? ⟨p, 2, none⟩ = false ∧ w'.frozen? ⟨p, 3, none⟩ = false ∧ w'.frozen? ⟨(w.heap.size + 2), 0, none⟩ = false ∧ w'.frozen? ⟨(w.heap.size + 2), 1, none⟩ = false ∧ w'.frozen? ⟨(w.heap.size + 2), 2, none⟩ = false ∧ w'.frozen? ⟨(w.heap.size + 2), 3, none⟩ = false ∧ w'.frozen? ⟨(w.heap.size + 3), 0, none⟩ = false ∧ w'.frozen? ⟨(w.heap.size + 3), 1, none⟩ = false ∧ w'.frozen? ⟨(w.heap.size + 3), 2, none⟩ = false ∧ w'.frozen? ⟨(w.heap.size + 3), 3, none⟩ = false) ∧ K_Df s0 s1 s2 s3 r0 r1 r2 r3 qb0 qb1 qb2 qb3 qa0 qa1 qa2 qa3 x0 x1 x2 x3 y0 y1 y2 y3 u p q w.heap.size (w.heap.size + 1) (w.heap.size + 2) (w.heap.size + 3) w w') ((refine K_Df.ks ?_; repeat (first | (with_reducible assumption) | (with_reducible refine K_Df.draws _ ?_) | (with_reducible refine K_Df.drew ?_) | (with_reducible refine K_Df.alloc _ ?_) | (with_reducible refine K_Df.set ?_ _ _ _ (by omega)))))
          (first
            | (go_at_call 68; (with_reducible refine (NH.out _).mono ?_); rintro e w' ⟨rfl, hbel⟩; have hk' := K_Df.below hbel (And.right (by assumption)); clear hbel)
            | (go_at_call 68; (with_reducible refine (NI.out _).mono ?_); rintro e w'' ⟨rfl, hbel⟩; have hk'' := K_Df.below hbel (And.right (by assumption)); clear hbel))
        all_goals
          have hK := hk''
          clear hk hk' hk''
          obtain ⟨c0_, c1_, c2_, c3_, c4_, c5_, c6_, c7_, c8_, c9_, c10_, c11_, c12_, c13_, c14_, c15_, c16_, c17_, c18_, c19_, c20_, c21_, c22_, c23_, c24_, c25_, c26_, c27_, f0_, f1_, f2_, f3_, f4_, f5_, f6_, f7_, f8_, f9_, f10_, f11_, f12_, f13_, f14_, f15_⟩ := K_Df.cells hK; obtain ⟨z0_, z1_, z2_, z3_, z4_, z5_, z6_, -⟩ := K_Df.zs hK; have HK := Lib.hid hK; clear hK
          have HB := Lib.hid (K_Df.bel HK.out)
          have u1 : ¬ u = w.heap.size + 1 + 1 := by omega
          have u2 : ¬ w.heap.size + 1 + 1 = u := by omega
          have u3 : ¬ u = w.heap.size + 1 + 1 + 1 := by omega
          have u4 : ¬ w.heap.size + 1 + 1 + 1 = u := by omega
          have u5 : ¬ u = w.heap.size + 2 := by omega
          have u6 : ¬ w.heap.size + 2 = u := by omega
          rcases WO.out with ⟨h, rfl, rfl⟩ | ⟨h, rfl, rfl⟩
          · have t1 : decide (nb < na) = true := decide_eq_true h
            go_wp2_with fail
            go_region
            all_goals
              go_wp2
              exact bodyPost_ret (v := .tuple #[.agg #[.int .i64 qb0, .int .i64 qb1, .int .i64 qb2, .int .i64 qb3], .agg #[.int .i64 s0, .int .i64 s1, .int .i64 s2, .int .i64 s3]]) (by simp [results, Try.results84, go_sem, c0_, c1_, c2_, c3_, c4_, c5_, c6_, c7_, c8_, c9_, c10_, c11_, c12_, c13_, c14_, c15_, c16_, c17_, c18_, c19_, c20_, c21_, c22_, c23_, c24_, c25_, c26_, c27_, f0_, f1_, f2_, f3_, f4_, f5_, f6_, f7_, f8_, f9_, f10_, f11_, f12_, f13_, f14_, f15_, z0_, z1_, z2_, z3_, z4_, z5_, z6_]) rfl ⟨rfl, by first | exact below_draws (by (repeat (first | (with_reducible exact Below.refl _ _) | (with_reducible exact HB.out) | (with_reducible refine below_draws ?_ _) | (with_reducible refine Below.alloc ?_ (by go_size) _) | (with_reducible refine Below.setCell ?_ (by go_size) _) | (with_reducible refine Below.alloc ?_ (by simp <;> omega) _) | (with_reducible refine Below.setCell ?_ (by simp <;> omega) _)))) 1 | (repeat (first | (with_reducible exact Below.refl _ _) | (with_reducible exact HB.out) | (with_reducible refine below_draws ?_ _) | (with_reducible refine Below.alloc ?_ (by go_size) _) | (with_reducible refine Below.setCell ?_ (by go_size) _) | (with_reducible refine Below.alloc ?_ (by simp <;> omega) _) | (with_reducible refine Below.setCell ?_ (by simp <;> omega) _)))⟩
          · have t1 : decide (nb < na) = false := decide_eq_false (by omega)
            go_wp2_with fail
            go_region
            all_goals
              go_wp2
              exact bodyPost_ret (v := .tuple #[.agg #[.int .i64 qa0, .int .i64 qa1, .int .i64 qa2, .int .i64 qa3], .agg #[.int .i64 r0, .int .i64 r1, .int .i64 r2, .int .i64 r3]]) (by simp [results, Try.results84, go_sem, c0_, c1_, c2_, c3_, c4_, c5_, c6_, c7_, c8_, c9_, c10_, c11_, c12_, c13_, c14_, c15_, c16_, c17_, c18_, c19_, c20_, c21_, c22_, c23_, c24_, c25_, c26_, c27_, f0_, f1_, f2_, f3_, f4_, f5_, f6_, f7_, f8_, f9_, f10_, f11_, f12_, f13_, f14_, f15_, z0_, z1_, z2_, z3_, z4_, z5_, z6_]) rfl ⟨rfl, by first | exact below_draws (by (repeat (first | (with_reducible exact Below.refl _ _) | (with_reducible exact HB.out) | (with_reducible refine below_draws ?_ _) | (with_reducible refine Below.alloc ?_ (by go_size) _) | (with_reducible refine Below.setCell ?_ (by go_size) _) | (with_reducible refine Below.alloc ?_ (by simp <;> omega) _) | (with_reducible refine Below.setCell ?_ (by simp <;> omega) _)))) 1 | (repeat (first | (with_reducible exact Below.refl _ _) | (with_reducible exact HB.out) | (with_reducible refine below_draws ?_ _) | (with_reducible refine Below.alloc ?_ (by go_size) _) | (with_reducible refine Below.setCell ?_ (by go_size) _) | (with_reducible refine Below.alloc ?_ (by simp <;> omega) _) | (with_reducible refine Below.setCell ?_ (by simp <;> omega) _)))⟩
end Go.Proofs.Yteiflfmpkfhkoaa.Rt
