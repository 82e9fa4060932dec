/-
  WALKS: matrices in lowest terms, the program's.
-/
import Derived.Test.YteiflfmpkfhkoaaRu3
import Derived.StillTailTactics
import Derived.Deep.Cut
import Derived.Test.YteiflfmpkfhkoaaHdu
import Derived.Test.YteiflfmpkfhkoaaRtX
namespace Go.Proofs.Yteiflfmpkfhkoaa.Rt
open Go.RowKit
open Alm Hwm Al
set_option linter.unusedVariables false
set_option linter.unusedSimpArgs false
set_option maxRecDepth 100000
/-- what a walk keeps: cells, and that nothing that was there has turned -/
def K_Il (m0 m1 m2 m3 m4 m5 m6 m7 m8 d : Int) (p R : Nat) (w w' : World) : Prop := KL w [(p, 0, .int .i64 m0), (p, 1, .int .i64 m1), (p, 2, .int .i64 m2), (p, 3, .int .i64 m3), (p, 4, .int .i64 m4), (p, 5, .int .i64 m5), (p, 6, .int .i64 m6), (p, 7, .int .i64 m7), (p, 8, .int .i64 m8), (p, 9, .int .i64 d)] [(p, 0), (p, 1), (p, 2), (p, 3), (p, 4), (p, 5), (p, 6), (p, 7), (p, 8), (p, 9), (R, 0), (R, 1), (R, 2), (R, 3), (R, 4), (R, 5), (R, 6), (R, 7), (R, 8), (R, 9)] w'
theorem K_Il.below {m0 m1 m2 m3 m4 m5 m6 m7 m8 d : Int} {p R : Nat} {w w1 w2 : World} (hb : Below w1.heap.size w1 w2) (h : K_Il m0 m1 m2 m3 m4 m5 m6 m7 m8 d p R w w1) : K_Il m0 m1 m2 m3 m4 m5 m6 m7 m8 d p R w w2 := KL.below hb h
theorem K_Il.draws {m0 m1 m2 m3 m4 m5 m6 m7 m8 d : Int} {p R : Nat} {w w1 : World} (n : Nat) (h : K_Il m0 m1 m2 m3 m4 m5 m6 m7 m8 d p R w w1) : K_Il m0 m1 m2 m3 m4 m5 m6 m7 m8 d p R w (w1.drewN n) := KL.draws n h
theorem K_Il.drew {m0 m1 m2 m3 m4 m5 m6 m7 m8 d : Int} {p R : Nat} {w w1 : World} (h : K_Il m0 m1 m2 m3 m4 m5 m6 m7 m8 d p R w w1) : K_Il m0 m1 m2 m3 m4 m5 m6 m7 m8 d p R w w1.drew := KL.draws 1 h
theorem K_Il.alloc {m0 m1 m2 m3 m4 m5 m6 m7 m8 d : Int} {p R : Nat} {w w1 : World} (o : Obj) (h : K_Il m0 m1 m2 m3 m4 m5 m6 m7 m8 d p R w w1) : K_Il m0 m1 m2 m3 m4 m5 m6 m7 m8 d p R w (w1.alloc o) := KL.alloc o h
theorem K_Il.set {m0 m1 m2 m3 m4 m5 m6 m7 m8 d : Int} {p R : Nat} {w w1 : World} (h : K_Il m0 m1 m2 m3 m4 m5 m6 m7 m8 d p R w w1) (b i : Nat) (v : Value) (hb : b ≠ p ∧ w.heap.size ≤ b) : K_Il m0 m1 m2 m3 m4 m5 m6 m7 m8 d p R w (w1.setCell ⟨b, i, none⟩ v) :=
  KL.set h b i v (by intro x hx; simp only [List.mem_cons, List.not_mem_nil, or_false] at hx; rcases hx with rfl | rfl | rfl | rfl | rfl | rfl | rfl | rfl | rfl | rfl <;> simp only [] <;> omega) (by omega)
theorem K_Il.bel {m0 m1 m2 m3 m4 m5 m6 m7 m8 d : Int} {p R : Nat} {w w1 : World} (h : K_Il m0 m1 m2 m3 m4 m5 m6 m7 m8 d p R w w1) : Below w.heap.size w w1 := KL.bel h
theorem K_Il.cells {m0 m1 m2 m3 m4 m5 m6 m7 m8 d : Int} {p R : Nat} {w w' : World} (h : K_Il m0 m1 m2 m3 m4 m5 m6 m7 m8 d p R w w') : w'.cell? ⟨p, 0, none⟩ = some (.int .i64 m0) ∧ w'.cell? ⟨p, 1, none⟩ = some (.int .i64 m1) ∧ w'.cell? ⟨p, 2, none⟩ = some (.int .i64 m2) ∧ w'.cell? ⟨p, 3, none⟩ = some (.int .i64 m3) ∧ w'.cell? ⟨p, 4, none⟩ = some (.int .i64 m4) ∧ w'.cell? ⟨p, 5, none⟩ = some (.int .i64 m5) ∧ w'.cell? ⟨p, 6, none⟩ = some (.int .i64 m6) ∧ w'.cell? ⟨p, 7, none⟩ = some (.int .i64 m7) ∧ w'.cell? ⟨p, 8, none⟩ = some (.int .i64 m8) ∧ w'.cell? ⟨p, 9, none⟩ = some (.int .i64 d) ∧ w'.frozen? ⟨p, 0, none⟩ = false ∧ w'.frozen? ⟨p, 1, none⟩ = false ∧ w'.frozen? ⟨p, 2, none⟩ = false ∧ w'.frozen? ⟨p, 3, none⟩ = false ∧ w'.frozen? ⟨p, 4, none⟩ = false ∧ w'.frozen? ⟨p, 5, none⟩ = false ∧ w'.frozen? ⟨p, 6, none⟩ = false ∧ w'.frozen? ⟨p, 7, none⟩ = false ∧ w'.frozen? ⟨p, 8, none⟩ = false ∧ w'.frozen? ⟨p, 9, none⟩ = false ∧ w'.cell? ⟨R, 0, none⟩ = some (cv w' R 0) ∧ w'.frozen? ⟨R, 0, none⟩ = false ∧ w'.cell? ⟨R, 1, none⟩ = some (cv w' R 1) ∧ w'.frozen? ⟨R, 1, none⟩ = false ∧ w'.cell? ⟨R, 2, none⟩ = some (cv w' R 2) ∧ w'.frozen? ⟨R, 2, none⟩ = false ∧ w'.cell? ⟨R, 3, none⟩ = some (cv w' R 3) ∧ w'.frozen? ⟨R, 3, none⟩ = false ∧ w'.cell? ⟨R, 4, none⟩ = some (cv w' R 4) ∧ w'.frozen? ⟨R, 4, none⟩ = false ∧ w'.cell? ⟨R, 5, none⟩ = some (cv w' R 5) ∧ w'.frozen? ⟨R, 5, none⟩ = false ∧ w'.cell? ⟨R, 6, none⟩ = some (cv w' R 6) ∧ w'.frozen? ⟨R, 6, none⟩ = false ∧ w'.cell? ⟨R, 7, none⟩ = some (cv w' R 7) ∧ w'.frozen? ⟨R, 7, none⟩ = false ∧ w'.cell? ⟨R, 8, none⟩ = some (cv w' R 8) ∧ w'.frozen? ⟨R, 8, none⟩ = false ∧ w'.cell? ⟨R, 9, none⟩ = some (cv w' R 9) ∧ w'.frozen? ⟨R, 9, none⟩ = false := ⟨h.c (p, 0, .int .i64 m0) (by simp), h.c (p, 1, .int .i64 m1) (by simp), h.c (p, 2, .int .i64 m2) (by simp), h.c (p, 3, .int .i64 m3) (by simp), h.c (p, 4, .int .i64 m4) (by simp), h.c (p, 5, .int .i64 m5) (by simp), h.c (p, 6, .int .i64 m6) (by simp), h.c (p, 7, .int .i64 m7) (by simp), h.c (p, 8, .int .i64 m8) (by simp), h.c (p, 9, .int .i64 d) (by simp), h.f (p, 0) (by simp), h.f (p, 1) (by simp), h.f (p, 2) (by simp), h.f (p, 3) (by simp), h.f (p, 4) (by simp), h.f (p, 5) (by simp), h.f (p, 6) (by simp), h.f (p, 7) (by simp), h.f (p, 8) (by simp), h.f (p, 9) (by simp), h.d (R, 0) (by simp), h.f (R, 0) (by simp), h.d (R, 1) (by simp), h.f (R, 1) (by simp), h.d (R, 2) (by simp), h.f (R, 2) (by simp), h.d (R, 3) (by simp), h.f (R, 3) (by simp), h.d (R, 4) (by simp), h.f (R, 4) (by simp), h.d (R, 5) (by simp), h.f (R, 5) (by simp), h.d (R, 6) (by simp), h.f (R, 6) (by simp), h.d (R, 7) (by simp), h.f (R, 7) (by simp), h.d (R, 8) (by simp), h.f (R, 8) (by simp), h.d (R, 9) (by simp), h.f (R, 9) (by simp)⟩
theorem K_Il.zs {m0 m1 m2 m3 m4 m5 m6 m7 m8 d : Int} {p R : Nat} {w w' : World} (h : K_Il m0 m1 m2 m3 m4 m5 m6 m7 m8 d p R w w') : p < w'.heap.size ∧ R < w'.heap.size ∧ True := ⟨KL.z h (x := (p, 0, .int .i64 m0)) (by simp), KL.zf h (x := (R, 0)) (by simp), trivial⟩
theorem K_Il.ks {m0 m1 m2 m3 m4 m5 m6 m7 m8 d : Int} {p R : Nat} {w w' : World} (h : K_Il m0 m1 m2 m3 m4 m5 m6 m7 m8 d p R w w') : (w'.cell? ⟨p, 0, none⟩ = some (.int .i64 m0) ∧ w'.cell? ⟨p, 1, none⟩ = some (.int .i64 m1) ∧ w'.cell? ⟨p, 2, none⟩ = some (.int .i64 m2) ∧ w'.cell? ⟨p, 3, none⟩ = some (.int .i64 m3) ∧ w'.cell? ⟨p, 4, none⟩ = some (.int .i64 m4) ∧ w'.cell? ⟨p, 5, none⟩ = some (.int .i64 m5) ∧ w'.cell? ⟨p, 6, none⟩ = some (.int .i64 m6) ∧ w'.cell? ⟨p, 7, none⟩ = some (.int .i64 m7) ∧ w'.cell? ⟨p, 8, none⟩ = some (.int .i64 m8) ∧ w'.cell? ⟨p, 9, none⟩ = some (.int .i64 d) ∧ w'.frozen? ⟨p, 0, none⟩ = false ∧ w'.frozen? ⟨p, 1, none⟩ = false ∧ w'.frozen? ⟨p, 2, none⟩ = false ∧ w'.frozen? ⟨p, 3, none⟩ = false ∧ w'.frozen? ⟨p, 4, none⟩ = false ∧ w'.frozen? ⟨p, 5, none⟩ = false ∧ w'.frozen? ⟨p, 6, none⟩ = false ∧ w'.frozen? ⟨p, 7, none⟩ = false ∧ w'.frozen? ⟨p, 8, none⟩ = false ∧ w'.frozen? ⟨p, 9, none⟩ = false ∧ w'.cell? ⟨R, 0, none⟩ = some (cv w' R 0) ∧ w'.frozen? ⟨R, 0, none⟩ = false ∧ w'.cell? ⟨R, 1, none⟩ = some (cv w' R 1) ∧ w'.frozen? ⟨R, 1, none⟩ = false ∧ w'.cell? ⟨R, 2, none⟩ = some (cv w' R 2) ∧ w'.frozen? ⟨R, 2, none⟩ = false ∧ w'.cell? ⟨R, 3, none⟩ = some (cv w' R 3) ∧ w'.frozen? ⟨R, 3, none⟩ = false ∧ w'.cell? ⟨R, 4, none⟩ = some (cv w' R 4) ∧ w'.frozen? ⟨R, 4, none⟩ = false ∧ w'.cell? ⟨R, 5, none⟩ = some (cv w' R 5) ∧ w'.frozen? ⟨R, 5, none⟩ = false ∧ w'.cell? ⟨R, 6, none⟩ = some (cv w' R 6) ∧ w'.frozen? ⟨R, 6, none⟩ = false ∧ w'.cell? ⟨R, 7, none⟩ = some (cv w' R 7) ∧ w'.frozen? ⟨R, 7, none⟩ = false ∧ w'.cell? ⟨R, 8, none⟩ = some (cv w' R 8) ∧ w'.frozen? ⟨R, 8, none⟩ = false ∧ w'.cell? ⟨R, 9, none⟩ = some (cv w' R 9) ∧ w'.frozen? ⟨R, 9, none⟩ = false) ∧ K_Il m0 m1 m2 m3 m4 m5 m6 m7 m8 d p R w w' := ⟨h.cells, h⟩
theorem KL.put1 {w0 : World} {cs : List (Nat × Nat × Value)} {fs : List (Nat × Nat)} {w : World} {p i : Nat} (h : KL w0 cs fs w) (hf : (p, i) ∈ fs) (hp : ∀ x ∈ cs, p ≠ x.1 ∨ i ≠ x.2.1) (hw : w0.heap.size ≤ p) (v : Value) :
    KL w0 ((p, i, v) :: cs) fs (w.setCell ⟨p, i, none⟩ v) := by
  have c0 := h.d (p, i) hf
  have f0 := h.f (p, i) hf
  simp only [] at c0 f0
  have h0 : KL w0 [] fs w := KL.sub h (fun x hx => by simp at hx) (fun x hx => hx)
  have h1 := h0.set p i v (fun x hx => by simp at hx) hw
  refine ⟨fun x hx => ?_, h1.g, h1.f, h1.bel⟩
  simp only [List.mem_cons] at hx
  rcases hx with rfl | hx
  · simp [go_sem, c0, f0]
  · rw [World.cell?_setCell_other _ _ _ _ (fun e => by injection e with e1 e2; rcases hp x hx with h | h; exact h e1; exact h e2)]
    exact h.c x hx
section
variable {a0 a1 a2 a3 a4 a5 a6 a7 a8 : Value}
theorem Try.r0 (a0 a1 a2 a3 a4 a5 a6 a7 a8 : Value) : ∀ w, (Instr.index 81 (.agg #[a0, a1, a2, a3, a4, a5, a6, a7, a8]) (.int .i64 0)).run Try.prog w = .ok (.agg #[a0, a1, a2]) w := fun _ => by kernel_rfl
theorem Try.r1 (a0 a1 a2 a3 a4 a5 a6 a7 a8 : Value) : ∀ w, (Instr.index 81 (.agg #[a0, a1, a2, a3, a4, a5, a6, a7, a8]) (.int .i64 1)).run Try.prog w = .ok (.agg #[a3, a4, a5]) w := fun _ => by kernel_rfl
theorem Try.r2 (a0 a1 a2 a3 a4 a5 a6 a7 a8 : Value) : ∀ w, (Instr.index 81 (.agg #[a0, a1, a2, a3, a4, a5, a6, a7, a8]) (.int .i64 2)).run Try.prog w = .ok (.agg #[a6, a7, a8]) w := fun _ => by kernel_rfl
end
set_option maxHeartbeats 1600000 in
theorem load10 (x0 x1 x2 x3 x4 x5 x6 x7 x8 x9 : Int) (p : Nat) (w : World) (c0 : w.cell? ⟨p, 0, none⟩ = some (.int .i64 x0)) (c1 : w.cell? ⟨p, 1, none⟩ = some (.int .i64 x1)) (c2 : w.cell? ⟨p, 2, none⟩ = some (.int .i64 x2)) (c3 : w.cell? ⟨p, 3, none⟩ = some (.int .i64 x3)) (c4 : w.cell? ⟨p, 4, none⟩ = some (.int .i64 x4)) (c5 : w.cell? ⟨p, 5, none⟩ = some (.int .i64 x5)) (c6 : w.cell? ⟨p, 6, none⟩ = some (.int .i64 x6)) (c7 : w.cell? ⟨p, 7, none⟩ = some (.int .i64 x7)) (c8 : w.cell? ⟨p, 8, none⟩ = some (.int .i64 x8)) (c9 : w.cell? ⟨p, 9, none⟩ = some (.int .i64 x9)) :
    (Instr.loadAt 83 (.pointer (some ⟨p, 0, none⟩))).run Try.prog w = .ok (.agg #[.int .i64 x0, .int .i64 x1, .int .i64 x2, .int .i64 x3, .int .i64 x4, .int .i64 x5, .int .i64 x6, .int .i64 x7, .int .i64 x8, .int .i64 x9]) w := by
  simp [go_sem, c0, c1, c2, c3, c4, c5, c6, c7, c8, c9]
set_option maxHeartbeats 1600000 in
theorem store10 (x0 x1 x2 x3 x4 x5 x6 x7 x8 x9 : Int) (p : Nat) (w : World) (d0 : w.cell? ⟨p, 0, none⟩ = some (cv w p 0)) (f0 : w.frozen? ⟨p, 0, none⟩ = false) (d1 : w.cell? ⟨p, 1, none⟩ = some (cv w p 1)) (f1 : w.frozen? ⟨p, 1, none⟩ = false) (d2 : w.cell? ⟨p, 2, none⟩ = some (cv w p 2)) (f2 : w.frozen? ⟨p, 2, none⟩ = false) (d3 : w.cell? ⟨p, 3, none⟩ = some (cv w p 3)) (f3 : w.frozen? ⟨p, 3, none⟩ = false) (d4 : w.cell? ⟨p, 4, none⟩ = some (cv w p 4)) (f4 : w.frozen? ⟨p, 4, none⟩ = false) (d5 : w.cell? ⟨p, 5, none⟩ = some (cv w p 5)) (f5 : w.frozen? ⟨p, 5, none⟩ = false) (d6 : w.cell? ⟨p, 6, none⟩ = some (cv w p 6)) (f6 : w.frozen? ⟨p, 6, none⟩ = false) (d7 : w.cell? ⟨p, 7, none⟩ = some (cv w p 7)) (f7 : w.frozen? ⟨p, 7, none⟩ = false) (d8 : w.cell? ⟨p, 8, none⟩ = some (cv w p 8)) (f8 : w.frozen? ⟨p, 8, none⟩ = false) (d9 : w.cell? ⟨p, 9, none⟩ = some (cv w p 9)) (f9 : w.frozen? ⟨p, 9, none⟩ = false) :
    (Instr.storeAt 83 (.pointer (some ⟨p, 0, none⟩)) (.agg #[.int .i64 x0, .int .i64 x1, .int .i64 x2, .int .i64 x3, .int .i64 x4, .int .i64 x5, .int .i64 x6, .int .i64 x7, .int .i64 x8, .int .i64 x9])).run Try.prog w = .ok () ((((((((((w.setCell ⟨p, 0, none⟩ (.int .i64 x0)).setCell ⟨p, 1, none⟩ (.int .i64 x1)).setCell ⟨p, 2, none⟩ (.int .i64 x2)).setCell ⟨p, 3, none⟩ (.int .i64 x3)).setCell ⟨p, 4, none⟩ (.int .i64 x4)).setCell ⟨p, 5, none⟩ (.int .i64 x5)).setCell ⟨p, 6, none⟩ (.int .i64 x6)).setCell ⟨p, 7, none⟩ (.int .i64 x7)).setCell ⟨p, 8, none⟩ (.int .i64 x8)).setCell ⟨p, 9, none⟩ (.int .i64 x9)) := by
  simp [go_sem, d0, f0, d1, f1, d2, f2, d3, f3, d4, f4, d5, f5, d6, f6, d7, f7, d8, f8, d9, f9]
/-- the divisor of a matrix and its denominator -/
def gR (m0 m1 m2 m3 m4 m5 m6 m7 m8 d : Int) : Int := (g4 (g4 (g4 d m0 m1 m2) m3 m4 m5) m6 m7 m8)
set_option maxHeartbeats 25600000 in
theorem inLowest_any (m0 m1 m2 m3 m4 m5 m6 m7 m8 d : Int) (w : World) (h0 : Bn 1000000000000000 m0) (h1 : Bn 1000000000000000 m1) (h2 : Bn 1000000000000000 m2) (h3 : Bn 1000000000000000 m3) (h4 : Bn 1000000000000000 m4) (h5 : Bn 1000000000000000 m5) (h6 : Bn 1000000000000000 m6) (h7 : Bn 1000000000000000 m7) (h8 : Bn 1000000000000000 m8) (hd : 0 < d) (hd' : d ≤ 1000000000000000) :
    Calls Try.prog 117 #[.agg #[.int .i64 m0, .int .i64 m1, .int .i64 m2, .int .i64 m3, .int .i64 m4, .int .i64 m5, .int .i64 m6, .int .i64 m7, .int .i64 m8, .int .i64 d]] w fun e w' => e = .returned (.agg #[.int .i64 (m0.tdiv (gR m0 m1 m2 m3 m4 m5 m6 m7 m8 d)), .int .i64 (m1.tdiv (gR m0 m1 m2 m3 m4 m5 m6 m7 m8 d)), .int .i64 (m2.tdiv (gR m0 m1 m2 m3 m4 m5 m6 m7 m8 d)), .int .i64 (m3.tdiv (gR m0 m1 m2 m3 m4 m5 m6 m7 m8 d)), .int .i64 (m4.tdiv (gR m0 m1 m2 m3 m4 m5 m6 m7 m8 d)), .int .i64 (m5.tdiv (gR m0 m1 m2 m3 m4 m5 m6 m7 m8 d)), .int .i64 (m6.tdiv (gR m0 m1 m2 m3 m4 m5 m6 m7 m8 d)), .int .i64 (m7.tdiv (gR m0 m1 m2 m3 m4 m5 m6 m7 m8 d)), .int .i64 (m8.tdiv (gR m0 m1 m2 m3 m4 m5 m6 m7 m8 d)), .int .i64 (d.tdiv (gR m0 m1 m2 m3 m4 m5 m6 m7 m8 d))]) ∧ Below w.heap.size w w' := by
  have p1 : 0 < (g4 d m0 m1 m2) := g4_pos (.inl (by omega))
  have p2 : 0 < (g4 (g4 d m0 m1 m2) m3 m4 m5) := g4_pos (.inl (by omega))
  have p3 : 0 < (g4 (g4 (g4 d m0 m1 m2) m3 m4 m5) m6 m7 m8) := g4_pos (.inl (by omega))
  have l1 := (g4_le (m := 1000000000000000) (a := d) (b := m0) (c := m1) (d := m2) ⟨by omega, by omega⟩ h0 h1 h2).2
  have l2 := (g4_le (m := 1000000000000000) (a := (g4 d m0 m1 m2)) (b := m3) (c := m4) (d := m5) ⟨by omega, by omega⟩ h3 h4 h5).2
  have l3 := (g4_le (m := 1000000000000000) (a := (g4 (g4 d m0 m1 m2) m3 m4 m5)) (b := m6) (c := m7) (d := m8) ⟨by omega, by omega⟩ h6 h7 h8).2
  have C0 := Lib.hid (fun k W hN => rcd_four d m0 m1 m2 k W hN ⟨by omega, by omega⟩ ⟨by have := h0; omega, by have := h0; omega⟩ ⟨by have := h1; omega, by have := h1; omega⟩ ⟨by have := h2; omega, by have := h2; omega⟩)
  have C1 := Lib.hid (fun k W hN => rcd_four (g4 d m0 m1 m2) m3 m4 m5 k W hN ⟨by omega, by omega⟩ ⟨by have := h3; omega, by have := h3; omega⟩ ⟨by have := h4; omega, by have := h4; omega⟩ ⟨by have := h5; omega, by have := h5; omega⟩)
  have C2 := Lib.hid (fun k W hN => rcd_four (g4 (g4 d m0 m1 m2) m3 m4 m5) m6 m7 m8 k W hN ⟨by omega, by omega⟩ ⟨by have := h6; omega, by have := h6; omega⟩ ⟨by have := h7; omega, by have := h7; omega⟩ ⟨by have := h8; omega, by have := h8; omega⟩)
  unfold gR
  generalize (g4 (g4 (g4 d m0 m1 m2) m3 m4 m5) m6 m7 m8) = g at *
  generalize (g4 (g4 d m0 m1 m2) m3 m4 m5) = g2 at *
  generalize (g4 d m0 m1 m2) = g1 at *
  have gz : (g == 0) = false := by rw [beq_eq_false_iff_ne]; omega
  have gn : ¬ g = 0 := by omega
  have e0 := IntWalk.i64_in (m0.tdiv g) (by have := tdiv_bd m0 g; omega)
  have e1 := IntWalk.i64_in (m1.tdiv g) (by have := tdiv_bd m1 g; omega)
  have e2 := IntWalk.i64_in (m2.tdiv g) (by have := tdiv_bd m2 g; omega)
  have e3 := IntWalk.i64_in (m3.tdiv g) (by have := tdiv_bd m3 g; omega)
  have e4 := IntWalk.i64_in (m4.tdiv g) (by have := tdiv_bd m4 g; omega)
  have e5 := IntWalk.i64_in (m5.tdiv g) (by have := tdiv_bd m5 g; omega)
  have e6 := IntWalk.i64_in (m6.tdiv g) (by have := tdiv_bd m6 g; omega)
  have e7 := IntWalk.i64_in (m7.tdiv g) (by have := tdiv_bd m7 g; omega)
  have e8 := IntWalk.i64_in (m8.tdiv g) (by have := tdiv_bd m8 g; omega)
  have e9 := IntWalk.i64_in (d.tdiv g) (by have := tdiv_bd d g; omega)
  have GZ := Lib.hid gz
  have GN := Lib.hid gn
  have E0 := Lib.hid e0
  have E1 := Lib.hid e1
  have E2 := Lib.hid e2
  have E3 := Lib.hid e3
  have E4 := Lib.hid e4
  have E5 := Lib.hid e5
  have E6 := Lib.hid e6
  have E7 := Lib.hid e7
  have E8 := Lib.hid e8
  have E9 := Lib.hid e9
  clear gz gn p1 p2 p3 l1 l2 l3 hd hd' e0 e1 e2 e3 e4 e5 e6 e7 e8 e9 h0 h1 h2 h3 h4 h5 h6 h7 h8
  have i0 := Try.r0 (.int .i64 m0) (.int .i64 m1) (.int .i64 m2) (.int .i64 m3) (.int .i64 m4) (.int .i64 m5) (.int .i64 m6) (.int .i64 m7) (.int .i64 m8)
  have i1 := Try.r1 (.int .i64 m0) (.int .i64 m1) (.int .i64 m2) (.int .i64 m3) (.int .i64 m4) (.int .i64 m5) (.int .i64 m6) (.int .i64 m7) (.int .i64 m8)
  have i2 := Try.r2 (.int .i64 m0) (.int .i64 m1) (.int .i64 m2) (.int .i64 m3) (.int .i64 m4) (.int .i64 m5) (.int .i64 m6) (.int .i64 m7) (.int .i64 m8)
  go_enter Try.func117, Try.ntmps117
  go_wp2_with fail
  have hK : K_Il m0 m1 m2 m3 m4 m5 m6 m7 m8 d w.heap.size (w.heap.size + 1) w ((w.alloc (.cells #[.int .i64 m0, .int .i64 m1, .int .i64 m2, .int .i64 m3, .int .i64 m4, .int .i64 m5, .int .i64 m6, .int .i64 m7, .int .i64 m8, .int .i64 d] 83)).alloc (.cells #[.int .i64 0, .int .i64 0, .int .i64 0, .int .i64 0, .int .i64 0, .int .i64 0, .int .i64 0, .int .i64 0, .int .i64 0, .int .i64 0] 83)) := ⟨by simp [go_sem], by simp [go_sem], by simp [go_sem], by (repeat (first | (with_reducible exact Below.refl _ _) | (with_reducible exact HB.out) | (with_reducible refine below_draws ?_ _) | (with_reducible refine Below.alloc ?_ (by go_size) _) | (with_reducible refine Below.setCell ?_ (by go_size) _) | (with_reducible refine Below.alloc ?_ (by simp <;> omega) _) | (with_reducible refine Below.setCell ?_ (by simp <;> omega) _)))⟩
  generalize ((w.alloc (.cells #[.int .i64 m0, .int .i64 m1, .int .i64 m2, .int .i64 m3, .int .i64 m4, .int .i64 m5, .int .i64 m6, .int .i64 m7, .int .i64 m8, .int .i64 d] 83)).alloc (.cells #[.int .i64 0, .int .i64 0, .int .i64 0, .int .i64 0, .int .i64 0, .int .i64 0, .int .i64 0, .int .i64 0, .int .i64 0, .int .i64 0] 83)) = W0 at hK ⊢
  obtain ⟨c0_, c1_, c2_, c3_, c4_, c5_, c6_, c7_, c8_, c9_, f0_, f1_, f2_, f3_, f4_, f5_, f6_, f7_, f8_, f9_, d10_, f10_, d11_, f11_, d12_, f12_, d13_, f13_, d14_, f14_, d15_, f15_, d16_, f16_, d17_, f17_, d18_, f18_, d19_, f19_⟩ := K_Il.cells hK; obtain ⟨z0_, z1_, -⟩ := K_Il.zs hK; have HK := Lib.hid hK; clear hK
  go_wp2_with fail
  refine wp_loop_rounds 4 ?_
  rw [rounds_succ]; go_wp2_with fail
  refine (C0.out (W0.heap.size + 1) _ (ns_four _ _ _ _ _ _ _ (by simp))).mono ?_
  rintro e w1 ⟨rfl, hb⟩
  clear c0_ c1_ c2_ c3_ c4_ c5_ c6_ c7_ c8_ c9_ f0_ f1_ f2_ f3_ f4_ f5_ f6_ f7_ f8_ f9_ d10_ f10_ d11_ f11_ d12_ f12_ d13_ f13_ d14_ f14_ d15_ f15_ d16_ f16_ d17_ f17_ d18_ f18_ d19_ f19_ z0_ z1_
  have hK := K_Il.below hb (K_Il.alloc _ (K_Il.alloc _ HK.out))
  clear hb HK
  obtain ⟨c0_, c1_, c2_, c3_, c4_, c5_, c6_, c7_, c8_, c9_, f0_, f1_, f2_, f3_, f4_, f5_, f6_, f7_, f8_, f9_, d10_, f10_, d11_, f11_, d12_, f12_, d13_, f13_, d14_, f14_, d15_, f15_, d16_, f16_, d17_, f17_, d18_, f18_, d19_, f19_⟩ := K_Il.cells hK; obtain ⟨z0_, z1_, -⟩ := K_Il.zs hK; have HK := Lib.hid hK; clear hK
  go_wp2_with fail
  rw [rounds_succ]; go_wp2_with fail
  refine (C1.out (w1.heap.size + 1) _ (ns_four _ _ _ _ _ _ _ (by simp))).mono ?_
  rintro e w2 ⟨rfl, hb⟩
  clear c0_ c1_ c2_ c3_ c4_ c5_ c6_ c7_ c8_ c9_ f0_ f1_ f2_ f3_ f4_ f5_ f6_ f7_ f8_ f9_ d10_ f10_ d11_ f11_ d12_ f12_ d13_ f13_ d14_ f14_ d15_ f15_ d16_ f16_ d17_ f17_ d18_ f18_ d19_ f19_ z0_ z1_
  have hK := K_Il.below hb (K_Il.alloc _ (K_Il.alloc _ HK.out))
  clear hb HK
  obtain ⟨c0_, c1_, c2_, c3_, c4_, c5_, c6_, c7_, c8_, c9_, f0_, f1_, f2_, f3_, f4_, f5_, f6_, f7_, f8_, f9_, d10_, f10_, d11_, f11_, d12_, f12_, d13_, f13_, d14_, f14_, d15_, f15_, d16_, f16_, d17_, f17_, d18_, f18_, d19_, f19_⟩ := K_Il.cells hK; obtain ⟨z0_, z1_, -⟩ := K_Il.zs hK; have HK := Lib.hid hK; clear hK
  go_wp2_with fail
  rw [rounds_succ]; go_wp2_with fail
  refine (C2.out (w2.heap.size + 1) _ (ns_four _ _ _ _ _ _ _ (by simp))).mono ?_
  rintro e w3 ⟨rfl, hb⟩
  clear c0_ c1_ c2_ c3_ c4_ c5_ c6_ c7_ c8_ c9_ f0_ f1_ f2_ f3_ f4_ f5_ f6_ f7_ f8_ f9_ d10_ f10_ d11_ f11_ d12_ f12_ d13_ f13_ d14_ f14_ d15_ f15_ d16_ f16_ d17_ f17_ d18_ f18_ d19_ f19_ z0_ z1_
  have hK := K_Il.below hb (K_Il.alloc _ (K_Il.alloc _ HK.out))
  clear hb HK
  obtain ⟨c0_, c1_, c2_, c3_, c4_, c5_, c6_, c7_, c8_, c9_, f0_, f1_, f2_, f3_, f4_, f5_, f6_, f7_, f8_, f9_, d10_, f10_, d11_, f11_, d12_, f12_, d13_, f13_, d14_, f14_, d15_, f15_, d16_, f16_, d17_, f17_, d18_, f18_, d19_, f19_⟩ := K_Il.cells hK; obtain ⟨z0_, z1_, -⟩ := K_Il.zs hK; have HK := Lib.hid hK; clear hK
  go_wp2_with fail
  rw [rounds_succ]; go_wp2_with fail
  refine wp_loop_rounds 4 ?_
  rw [rounds_succ]; go_wp2_with fail
  refine wp_loop_rounds 4 ?_
  rw [rounds_succ]; go_wp2_with fail
  have gz := GZ.out
  have gn := GN.out
  have ek := E0.out
  go_still_tail 11, (by kernel_rfl)
  change wpList _ _ _ _ _ w3.drew
  clear gz gn ek
  clear c0_ c1_ c2_ c3_ c4_ c5_ c6_ c7_ c8_ c9_ f0_ f1_ f2_ f3_ f4_ f5_ f6_ f7_ f8_ f9_ d10_ f10_ d11_ f11_ d12_ f12_ d13_ f13_ d14_ f14_ d15_ f15_ d16_ f16_ d17_ f17_ d18_ f18_ d19_ f19_ z0_ z1_
  have hK2 := K_Il.drew HK.out
  clear HK
  generalize w3.drew = v0 at hK2 ⊢
  have HP : Hid (K_Il (m0.tdiv g) m1 m2 m3 m4 m5 m6 m7 m8 d w.heap.size (w.heap.size + 1) w _) := Lib.hid (KL.sub (KL.put1 (p := w.heap.size) (i := 0) (KL.sub (cs' := [(w.heap.size, 1, .int .i64 m1), (w.heap.size, 2, .int .i64 m2), (w.heap.size, 3, .int .i64 m3), (w.heap.size, 4, .int .i64 m4), (w.heap.size, 5, .int .i64 m5), (w.heap.size, 6, .int .i64 m6), (w.heap.size, 7, .int .i64 m7), (w.heap.size, 8, .int .i64 m8), (w.heap.size, 9, .int .i64 d)]) (fs' := [(w.heap.size, 0), (w.heap.size, 1), (w.heap.size, 2), (w.heap.size, 3), (w.heap.size, 4), (w.heap.size, 5), (w.heap.size, 6), (w.heap.size, 7), (w.heap.size, 8), (w.heap.size, 9), (w.heap.size + 1, 0), (w.heap.size + 1, 1), (w.heap.size + 1, 2), (w.heap.size + 1, 3), (w.heap.size + 1, 4), (w.heap.size + 1, 5), (w.heap.size + 1, 6), (w.heap.size + 1, 7), (w.heap.size + 1, 8), (w.heap.size + 1, 9)]) hK2 (fun x hx => by simp only [List.mem_cons, List.not_mem_nil, or_false] at hx ⊢; rcases hx with rfl | rfl | rfl | rfl | rfl | rfl | rfl | rfl | rfl <;> simp) (fun x hx => hx)) (by simp) (by intro x hx; simp only [List.mem_cons, List.not_mem_nil, or_false] at hx; rcases hx with rfl | rfl | rfl | rfl | rfl | rfl | rfl | rfl | rfl <;> simp) (by omega) (.int .i64 (m0.tdiv g))) (fun x hx => by simp only [List.mem_cons, List.not_mem_nil, or_false] at hx ⊢; rcases hx with rfl | rfl | rfl | rfl | rfl | rfl | rfl | rfl | rfl | rfl <;> simp) (fun x hx => hx))
  have hK := hK2
  clear hK2
  obtain ⟨c0_, c1_, c2_, c3_, c4_, c5_, c6_, c7_, c8_, c9_, f0_, f1_, f2_, f3_, f4_, f5_, f6_, f7_, f8_, f9_, d10_, f10_, d11_, f11_, d12_, f12_, d13_, f13_, d14_, f14_, d15_, f15_, d16_, f16_, d17_, f17_, d18_, f18_, d19_, f19_⟩ := K_Il.cells hK; obtain ⟨z0_, z1_, -⟩ := K_Il.zs hK; have HK := Lib.hid hK; clear hK
  go_wp2_with fail
  clear c0_ c1_ c2_ c3_ c4_ c5_ c6_ c7_ c8_ c9_ f0_ f1_ f2_ f3_ f4_ f5_ f6_ f7_ f8_ f9_ d10_ f10_ d11_ f11_ d12_ f12_ d13_ f13_ d14_ f14_ d15_ f15_ d16_ f16_ d17_ f17_ d18_ f18_ d19_ f19_ z0_ z1_
  have hK := HP.out
  clear HP HK
  generalize v0.setCell ⟨w.heap.size, 0, none⟩ (.int .i64 (m0.tdiv g)) = w4 at hK ⊢
  obtain ⟨c0_, c1_, c2_, c3_, c4_, c5_, c6_, c7_, c8_, c9_, f0_, f1_, f2_, f3_, f4_, f5_, f6_, f7_, f8_, f9_, d10_, f10_, d11_, f11_, d12_, f12_, d13_, f13_, d14_, f14_, d15_, f15_, d16_, f16_, d17_, f17_, d18_, f18_, d19_, f19_⟩ := K_Il.cells hK; obtain ⟨z0_, z1_, -⟩ := K_Il.zs hK; have HK := Lib.hid hK; clear hK
  rw [rounds_succ]; go_wp2_with fail
  have gz := GZ.out
  have gn := GN.out
  have ek := E1.out
  go_still_tail 11, (by kernel_rfl)
  change wpList _ _ _ _ _ w4.drew
  clear gz gn ek
  clear c0_ c1_ c2_ c3_ c4_ c5_ c6_ c7_ c8_ c9_ f0_ f1_ f2_ f3_ f4_ f5_ f6_ f7_ f8_ f9_ d10_ f10_ d11_ f11_ d12_ f12_ d13_ f13_ d14_ f14_ d15_ f15_ d16_ f16_ d17_ f17_ d18_ f18_ d19_ f19_ z0_ z1_
  have hK2 := K_Il.drew HK.out
  clear HK
  generalize w4.drew = v1 at hK2 ⊢
  have HP : Hid (K_Il (m0.tdiv g) (m1.tdiv g) m2 m3 m4 m5 m6 m7 m8 d w.heap.size (w.heap.size + 1) w _) := Lib.hid (KL.sub (KL.put1 (p := w.heap.size) (i := 1) (KL.sub (cs' := [(w.heap.size, 0, .int .i64 (m0.tdiv g)), (w.heap.size, 2, .int .i64 m2), (w.heap.size, 3, .int .i64 m3), (w.heap.size, 4, .int .i64 m4), (w.heap.size, 5, .int .i64 m5), (w.heap.size, 6, .int .i64 m6), (w.heap.size, 7, .int .i64 m7), (w.heap.size, 8, .int .i64 m8), (w.heap.size, 9, .int .i64 d)]) (fs' := [(w.heap.size, 0), (w.heap.size, 1), (w.heap.size, 2), (w.heap.size, 3), (w.heap.size, 4), (w.heap.size, 5), (w.heap.size, 6), (w.heap.size, 7), (w.heap.size, 8), (w.heap.size, 9), (w.heap.size + 1, 0), (w.heap.size + 1, 1), (w.heap.size + 1, 2), (w.heap.size + 1, 3), (w.heap.size + 1, 4), (w.heap.size + 1, 5), (w.heap.size + 1, 6), (w.heap.size + 1, 7), (w.heap.size + 1, 8), (w.heap.size + 1, 9)]) hK2 (fun x hx => by simp only [List.mem_cons, List.not_mem_nil, or_false] at hx ⊢; rcases hx with rfl | rfl | rfl | rfl | rfl | rfl | rfl | rfl | rfl <;> simp) (fun x hx => hx)) (by simp) (by intro x hx; simp only [List.mem_cons, List.not_mem_nil, or_false] at hx; rcases hx with rfl | rfl | rfl | rfl | rfl | rfl | rfl | rfl | rfl <;> simp) (by omega) (.int .i64 (m1.tdiv g))) (fun x hx => by simp only [List.mem_cons, List.not_mem_nil, or_false] at hx ⊢; rcases hx with rfl | rfl | rfl | rfl | rfl | rfl | rfl | rfl | rfl | rfl <;> simp) (fun x hx => hx))
  have hK := hK2
  clear hK2
  obtain ⟨c0_, c1_, c2_, c3_, c4_, c5_, c6_, c7_, c8_, c9_, f0_, f1_, f2_, f3_, f4_, f5_, f6_, f7_, f8_, f9_, d10_, f10_, d11_, f11_, d12_, f12_, d13_, f13_, d14_, f14_, d15_, f15_, d16_, f16_, d17_, f17_, d18_, f18_, d19_, f19_⟩ := K_Il.cells hK; obtain ⟨z0_, z1_, -⟩ := K_Il.zs hK; have HK := Lib.hid hK; clear hK
  go_wp2_with fail
  clear c0_ c1_ c2_ c3_ c4_ c5_ c6_ c7_ c8_ c9_ f0_ f1_ f2_ f3_ f4_ f5_ f6_ f7_ f8_ f9_ d10_ f10_ d11_ f11_ d12_ f12_ d13_ f13_ d14_ f14_ d15_ f15_ d16_ f16_ d17_ f17_ d18_ f18_ d19_ f19_ z0_ z1_
  have hK := HP.out
  clear HP HK
  generalize v1.setCell ⟨w.heap.size, 1, none⟩ (.int .i64 (m1.tdiv g)) = w5 at hK ⊢
  obtain ⟨c0_, c1_, c2_, c3_, c4_, c5_, c6_, c7_, c8_, c9_, f0_, f1_, f2_, f3_, f4_, f5_, f6_, f7_, f8_, f9_, d10_, f10_, d11_, f11_, d12_, f12_, d13_, f13_, d14_, f14_, d15_, f15_, d16_, f16_, d17_, f17_, d18_, f18_, d19_, f19_⟩ := K_Il.cells hK; obtain ⟨z0_, z1_, -⟩ := K_Il.zs hK; have HK := Lib.hid hK; clear hK
  rw [rounds_succ]; go_wp2_with fail
  have gz := GZ.out
  have gn := GN.out
  have ek := E2.out
  go_still_tail 11, (by kernel_rfl)
  change wpList _ _ _ _ _ w5.drew
  clear gz gn ek
  clear c0_ c1_ c2_ c3_ c4_ c5_ c6_ c7_ c8_ c9_ f0_ f1_ f2_ f3_ f4_ f5_ f6_ f7_ f8_ f9_ d10_ f10_ d11_ f11_ d12_ f12_ d13_ f13_ d14_ f14_ d15_ f15_ d16_ f16_ d17_ f17_ d18_ f18_ d19_ f19_ z0_ z1_
  have hK2 := K_Il.drew HK.out
  clear HK
  generalize w5.drew = v2 at hK2 ⊢
  have HP : Hid (K_Il (m0.tdiv g) (m1.tdiv g) (m2.tdiv g) m3 m4 m5 m6 m7 m8 d w.heap.size (w.heap.size + 1) w _) := Lib.hid (KL.sub (KL.put1 (p := w.heap.size) (i := 2) (KL.sub (cs' := [(w.heap.size, 0, .int .i64 (m0.tdiv g)), (w.heap.size, 1, .int .i64 (m1.tdiv g)), (w.heap.size, 3, .int .i64 m3), (w.heap.size, 4, .int .i64 m4), (w.heap.size, 5, .int .i64 m5), (w.heap.size, 6, .int .i64 m6), (w.heap.size, 7, .int .i64 m7), (w.heap.size, 8, .int .i64 m8), (w.heap.size, 9, .int .i64 d)]) (fs' := [(w.heap.size, 0), (w.heap.size, 1), (w.heap.size, 2), (w.heap.size, 3), (w.heap.size, 4), (w.heap.size, 5), (w.heap.size, 6), (w.heap.size, 7), (w.heap.size, 8), (w.heap.size, 9), (w.heap.size + 1, 0), (w.heap.size + 1, 1), (w.heap.size + 1, 2), (w.heap.size + 1, 3), (w.heap.size + 1, 4), (w.heap.size + 1, 5), (w.heap.size + 1, 6), (w.heap.size + 1, 7), (w.heap.size + 1, 8), (w.heap.size + 1, 9)]) hK2 (fun x hx => by simp only [List.mem_cons, List.not_mem_nil, or_false] at hx ⊢; rcases hx with rfl | rfl | rfl | rfl | rfl | rfl | rfl | rfl | rfl <;> simp) (fun x hx => hx)) (by simp) (by intro x hx; simp only [List.mem_cons, List.not_mem_nil, or_false] at hx; rcases hx with rfl | rfl | rfl | rfl | rfl | rfl | rfl | rfl | rfl <;> simp) (by omega) (.int .i64 (m2.tdiv g))) (fun x hx => by simp only [List.mem_cons, List.not_mem_nil, or_false] at hx ⊢; rcases hx with rfl | rfl | rfl | rfl | rfl | rfl | rfl | rfl | rfl | rfl <;> simp) (fun x hx => hx))
  have hK := hK2
  clear hK2
  obtain ⟨c0_, c1_, c2_, c3_, c4_, c5_, c6_, c7_, c8_, c9_, f0_, f1_, f2_, f3_, f4_, f5_, f6_, f7_, f8_, f9_, d10_, f10_, d11_, f11_, d12_, f12_, d13_, f13_, d14_, f14_, d15_, f15_, d16_, f16_, d17_, f17_, d18_, f18_, d19_, f19_⟩ := K_Il.cells hK; obtain ⟨z0_, z1_, -⟩ := K_Il.zs hK; have HK := Lib.hid hK; clear hK
  go_wp2_with fail
  clear c0_ c1_ c2_ c3_ c4_ c5_ c6_ c7_ c8_ c9_ f0_ f1_ f2_ f3_ f4_ f5_ f6_ f7_ f8_ f9_ d10_ f10_ d11_ f11_ d12_ f12_ d13_ f13_ d14_ f14_ d15_ f15_ d16_ f16_ d17_ f17_ d18_ f18_ d19_ f19_ z0_ z1_
  have hK := HP.out
  clear HP HK
  generalize v2.setCell ⟨w.heap.size, 2, none⟩ (.int .i64 (m2.tdiv g)) = w6 at hK ⊢
  obtain ⟨c0_, c1_, c2_, c3_, c4_, c5_, c6_, c7_, c8_, c9_, f0_, f1_, f2_, f3_, f4_, f5_, f6_, f7_, f8_, f9_, d10_, f10_, d11_, f11_, d12_, f12_, d13_, f13_, d14_, f14_, d15_, f15_, d16_, f16_, d17_, f17_, d18_, f18_, d19_, f19_⟩ := K_Il.cells hK; obtain ⟨z0_, z1_, -⟩ := K_Il.zs hK; have HK := Lib.hid hK; clear hK
  rw [rounds_succ]; go_wp2_with fail
  rw [rounds_succ]; go_wp2_with fail
  refine wp_loop_rounds 4 ?_
  rw [rounds_succ]; go_wp2_with fail
  have gz := GZ.out
  have gn := GN.out
  have ek := E3.out
  go_still_tail 11, (by kernel_rfl)
  change wpList _ _ _ _ _ w6.drew
  clear gz gn ek
  clear c0_ c1_ c2_ c3_ c4_ c5_ c6_ c7_ c8_ c9_ f0_ f1_ f2_ f3_ f4_ f5_ f6_ f7_ f8_ f9_ d10_ f10_ d11_ f11_ d12_ f12_ d13_ f13_ d14_ f14_ d15_ f15_ d16_ f16_ d17_ f17_ d18_ f18_ d19_ f19_ z0_ z1_
  have hK2 := K_Il.drew HK.out
  clear HK
  generalize w6.drew = v3 at hK2 ⊢
  have HP : Hid (K_Il (m0.tdiv g) (m1.tdiv g) (m2.tdiv g) (m3.tdiv g) m4 m5 m6 m7 m8 d w.heap.size (w.heap.size + 1) w _) := Lib.hid (KL.sub (KL.put1 (p := w.heap.size) (i := 3) (KL.sub (cs' := [(w.heap.size, 0, .int .i64 (m0.tdiv g)), (w.heap.size, 1, .int .i64 (m1.tdiv g)), (w.heap.size, 2, .int .i64 (m2.tdiv g)), (w.heap.size, 4, .int .i64 m4), (w.heap.size, 5, .int .i64 m5), (w.heap.size, 6, .int .i64 m6), (w.heap.size, 7, .int .i64 m7), (w.heap.size, 8, .int .i64 m8), (w.heap.size, 9, .int .i64 d)]) (fs' := [(w.heap.size, 0), (w.heap.size, 1), (w.heap.size, 2), (w.heap.size, 3), (w.heap.size, 4), (w.heap.size, 5), (w.heap.size, 6), (w.heap.size, 7), (w.heap.size, 8), (w.heap.size, 9), (w.heap.size + 1, 0), (w.heap.size + 1, 1), (w.heap.size + 1, 2), (w.heap.size + 1, 3), (w.heap.size + 1, 4), (w.heap.size + 1, 5), (w.heap.size + 1, 6), (w.heap.size + 1, 7), (w.heap.size + 1, 8), (w.heap.size + 1, 9)]) hK2 (fun x hx => by simp only [List.mem_cons, List.not_mem_nil, or_false] at hx ⊢; rcases hx with rfl | rfl | rfl | rfl | rfl | rfl | rfl | rfl | rfl <;> simp) (fun x hx => hx)) (by simp) (by intro x hx; simp only [List.mem_cons, List.not_mem_nil, or_false] at hx; rcases hx with rfl | rfl | rfl | rfl | rfl | rfl | rfl | rfl | rfl <;> simp) (by omega) (.int .i64 (m3.tdiv g))) (fun x hx => by simp only [List.mem_cons, List.not_mem_nil, or_false] at hx ⊢; rcases hx with rfl | rfl | rfl | rfl | rfl | rfl | rfl | rfl | rfl | rfl <;> simp) (fun x hx => hx))
  have hK := hK2
  clear hK2
  obtain ⟨c0_, c1_, c2_, c3_, c4_, c5_, c6_, c7_, c8_, c9_, f0_, f1_, f2_, f3_, f4_, f5_, f6_, f7_, f8_, f9_, d10_, f10_, d11_, f11_, d12_, f12_, d13_, f13_, d14_, f14_, d15_, f15_, d16_, f16_, d17_, f17_, d18_, f18_, d19_, f19_⟩ := K_Il.cells hK; obtain ⟨z0_, z1_, -⟩ := K_Il.zs hK; have HK := Lib.hid hK; clear hK
  go_wp2_with fail
  clear c0_ c1_ c2_ c3_ c4_ c5_ c6_ c7_ c8_ c9_ f0_ f1_ f2_ f3_ f4_ f5_ f6_ f7_ f8_ f9_ d10_ f10_ d11_ f11_ d12_ f12_ d13_ f13_ d14_ f14_ d15_ f15_ d16_ f16_ d17_ f17_ d18_ f18_ d19_ f19_ z0_ z1_
  have hK := HP.out
  clear HP HK
  generalize v3.setCell ⟨w.heap.size, 3, none⟩ (.int .i64 (m3.tdiv g)) = w7 at hK ⊢
  obtain ⟨c0_, c1_, c2_, c3_, c4_, c5_, c6_, c7_, c8_, c9_, f0_, f1_, f2_, f3_, f4_, f5_, f6_, f7_, f8_, f9_, d10_, f10_, d11_, f11_, d12_, f12_, d13_, f13_, d14_, f14_, d15_, f15_, d16_, f16_, d17_, f17_, d18_, f18_, d19_, f19_⟩ := K_Il.cells hK; obtain ⟨z0_, z1_, -⟩ := K_Il.zs hK; have HK := Lib.hid hK; clear hK
  rw [rounds_succ]; go_wp2_with fail
  have gz := GZ.out
  have gn := GN.out
  have ek := E4.out
  go_still_tail 11, (by kernel_rfl)
  change wpList _ _ _ _ _ w7.drew
  clear gz gn ek
  clear c0_ c1_ c2_ c3_ c4_ c5_ c6_ c7_ c8_ c9_ f0_ f1_ f2_ f3_ f4_ f5_ f6_ f7_ f8_ f9_ d10_ f10_ d11_ f11_ d12_ f12_ d13_ f13_ d14_ f14_ d15_ f15_ d16_ f16_ d17_ f17_ d18_ f18_ d19_ f19_ z0_ z1_
  have hK2 := K_Il.drew HK.out
  clear HK
  generalize w7.drew = v4 at hK2 ⊢
  have HP : Hid (K_Il (m0.tdiv g) (m1.tdiv g) (m2.tdiv g) (m3.tdiv g) (m4.tdiv g) m5 m6 m7 m8 d w.heap.size (w.heap.size + 1) w _) := Lib.hid (KL.sub (KL.put1 (p := w.heap.size) (i := 4) (KL.sub (cs' := [(w.heap.size, 0, .int .i64 (m0.tdiv g)), (w.heap.size, 1, .int .i64 (m1.tdiv g)), (w.heap.size, 2, .int .i64 (m2.tdiv g)), (w.heap.size, 3, .int .i64 (m3.tdiv g)), (w.heap.size, 5, .int .i64 m5), (w.heap.size, 6, .int .i64 m6), (w.heap.size, 7, .int .i64 m7), (w.heap.size, 8, .int .i64 m8), (w.heap.size, 9, .int .i64 d)]) (fs' := [(w.heap.size, 0), (w.heap.size, 1), (w.heap.size, 2), (w.heap.size, 3), (w.heap.size, 4), (w.heap.size, 5), (w.heap.size, 6), (w.heap.size, 7), (w.heap.size, 8), (w.heap.size, 9), (w.heap.size + 1, 0), (w.heap.size + 1, 1), (w.heap.size + 1, 2), (w.heap.size + 1, 3), (w.heap.size + 1, 4), (w.heap.size + 1, 5), (w.heap.size + 1, 6), (w.heap.size + 1, 7), (w.heap.size + 1, 8), (w.heap.size + 1, 9)]) hK2 (fun x hx => by simp only [List.mem_cons, List.not_mem_nil, or_false] at hx ⊢; rcases hx with rfl | rfl | rfl | rfl | rfl | rfl | rfl | rfl | rfl <;> simp) (fun x hx => hx)) (by simp) (by intro x hx; simp only [List.mem_cons, List.not_mem_nil, or_false] at hx; rcases hx with rfl | rfl | rfl | rfl | rfl | rfl | rfl | rfl | rfl <;> simp) (by omega) (.int .i64 (m4.tdiv g))) (fun x hx => by simp only [List.mem_cons, List.not_mem_nil, or_false] at hx ⊢; rcases hx with rfl | rfl | rfl | rfl | rfl | rfl | rfl | rfl | rfl | rfl <;> simp) (fun x hx => hx))
  have hK := hK2
  clear hK2
  obtain ⟨c0_, c1_, c2_, c3_, c4_, c5_, c6_, c7_, c8_, c9_, f0_, f1_, f2_, f3_, f4_, f5_, f6_, f7_, f8_, f9_, d10_, f10_, d11_, f11_, d12_, f12_, d13_, f13_, d14_, f14_, d15_, f15_, d16_, f16_, d17_, f17_, d18_, f18_, d19_, f19_⟩ := K_Il.cells hK; obtain ⟨z0_, z1_, -⟩ := K_Il.zs hK; have HK := Lib.hid hK; clear hK
  go_wp2_with fail
  clear c0_ c1_ c2_ c3_ c4_ c5_ c6_ c7_ c8_ c9_ f0_ f1_ f2_ f3_ f4_ f5_ f6_ f7_ f8_ f9_ d10_ f10_ d11_ f11_ d12_ f12_ d13_ f13_ d14_ f14_ d15_ f15_ d16_ f16_ d17_ f17_ d18_ f18_ d19_ f19_ z0_ z1_
  have hK := HP.out
  clear HP HK
  generalize v4.setCell ⟨w.heap.size, 4, none⟩ (.int .i64 (m4.tdiv g)) = w8 at hK ⊢
  obtain ⟨c0_, c1_, c2_, c3_, c4_, c5_, c6_, c7_, c8_, c9_, f0_, f1_, f2_, f3_, f4_, f5_, f6_, f7_, f8_, f9_, d10_, f10_, d11_, f11_, d12_, f12_, d13_, f13_, d14_, f14_, d15_, f15_, d16_, f16_, d17_, f17_, d18_, f18_, d19_, f19_⟩ := K_Il.cells hK; obtain ⟨z0_, z1_, -⟩ := K_Il.zs hK; have HK := Lib.hid hK; clear hK
  rw [rounds_succ]; go_wp2_with fail
  have gz := GZ.out
  have gn := GN.out
  have ek := E5.out
  go_still_tail 11, (by kernel_rfl)
  change wpList _ _ _ _ _ w8.drew
  clear gz gn ek
  clear c0_ c1_ c2_ c3_ c4_ c5_ c6_ c7_ c8_ c9_ f0_ f1_ f2_ f3_ f4_ f5_ f6_ f7_ f8_ f9_ d10_ f10_ d11_ f11_ d12_ f12_ d13_ f13_ d14_ f14_ d15_ f15_ d16_ f16_ d17_ f17_ d18_ f18_ d19_ f19_ z0_ z1_
  have hK2 := K_Il.drew HK.out
  clear HK
  generalize w8.drew = v5 at hK2 ⊢
  have HP : Hid (K_Il (m0.tdiv g) (m1.tdiv g) (m2.tdiv g) (m3.tdiv g) (m4.tdiv g) (m5.tdiv g) m6 m7 m8 d w.heap.size (w.heap.size + 1) w _) := Lib.hid (KL.sub (KL.put1 (p := w.heap.size) (i := 5) (KL.sub (cs' := [(w.heap.size, 0, .int .i64 (m0.tdiv g)), (w.heap.size, 1, .int .i64 (m1.tdiv g)), (w.heap.size, 2, .int .i64 (m2.tdiv g)), (w.heap.size, 3, .int .i64 (m3.tdiv g)), (w.heap.size, 4, .int .i64 (m4.tdiv g)), (w.heap.size, 6, .int .i64 m6), (w.heap.size, 7, .int .i64 m7), (w.heap.size, 8, .int .i64 m8), (w.heap.size, 9, .int .i64 d)]) (fs' := [(w.heap.size, 0), (w.heap.size, 1), (w.heap.size, 2), (w.heap.size, 3), (w.heap.size, 4), (w.heap.size, 5), (w.heap.size, 6), (w.heap.size, 7), (w.heap.size, 8), (w.heap.size, 9), (w.heap.size + 1, 0), (w.heap.size + 1, 1), (w.heap.size + 1, 2), (w.heap.size + 1, 3), (w.heap.size + 1, 4), (w.heap.size + 1, 5), (w.heap.size + 1, 6), (w.heap.size + 1, 7), (w.heap.size + 1, 8), (w.heap.size + 1, 9)]) hK2 (fun x hx => by simp only [List.mem_cons, List.not_mem_nil, or_false] at hx ⊢; rcases hx with rfl | rfl | rfl | rfl | rfl | rfl | rfl | rfl | rfl <;> simp) (fun x hx => hx)) (by simp) (by intro x hx; simp only [List.mem_cons, List.not_mem_nil, or_false] at hx; rcases hx with rfl | rfl | rfl | rfl | rfl | rfl | rfl | rfl | rfl <;> simp) (by omega) (.int .i64 (m5.tdiv g))) (fun x hx => by simp only [List.mem_cons, List.not_mem_nil, or_false] at hx ⊢; rcases hx with rfl | rfl | rfl | rfl | rfl | rfl | rfl | rfl | rfl | rfl <;> simp) (fun x hx => hx))
  have hK := hK2
  clear hK2
  obtain ⟨c0_, c1_, c2_, c3_, c4_, c5_, c6_, c7_, c8_, c9_, f0_, f1_, f2_, f3_, f4_, f5_, f6_, f7_, f8_, f9_, d10_, f10_, d11_, f11_, d12_, f12_, d13_, f13_, d14_, f14_, d15_, f15_, d16_, f16_, d17_, f17_, d18_, f18_, d19_, f19_⟩ := K_Il.cells hK; obtain ⟨z0_, z1_, -⟩ := K_Il.zs hK; have HK := Lib.hid hK; clear hK
  go_wp2_with fail
  clear c0_ c1_ c2_ c3_ c4_ c5_ c6_ c7_ c8_ c9_ f0_ f1_ f2_ f3_ f4_ f5_ f6_ f7_ f8_ f9_ d10_ f10_ d11_ f11_ d12_ f12_ d13_ f13_ d14_ f14_ d15_ f15_ d16_ f16_ d17_ f17_ d18_ f18_ d19_ f19_ z0_ z1_
  have hK := HP.out
  clear HP HK
  generalize v5.setCell ⟨w.heap.size, 5, none⟩ (.int .i64 (m5.tdiv g)) = w9 at hK ⊢
  obtain ⟨c0_, c1_, c2_, c3_, c4_, c5_, c6_, c7_, c8_, c9_, f0_, f1_, f2_, f3_, f4_, f5_, f6_, f7_, f8_, f9_, d10_, f10_, d11_, f11_, d12_, f12_, d13_, f13_, d14_, f14_, d15_, f15_, d16_, f16_, d17_, f17_, d18_, f18_, d19_, f19_⟩ := K_Il.cells hK; obtain ⟨z0_, z1_, -⟩ := K_Il.zs hK; have HK := Lib.hid hK; clear hK
  rw [rounds_succ]; go_wp2_with fail
  rw [rounds_succ]; go_wp2_with fail
  refine wp_loop_rounds 4 ?_
  rw [rounds_succ]; go_wp2_with fail
  have gz := GZ.out
  have gn := GN.out
  have ek := E6.out
  go_still_tail 11, (by kernel_rfl)
  change wpList _ _ _ _ _ w9.drew
  clear gz gn ek
  clear c0_ c1_ c2_ c3_ c4_ c5_ c6_ c7_ c8_ c9_ f0_ f1_ f2_ f3_ f4_ f5_ f6_ f7_ f8_ f9_ d10_ f10_ d11_ f11_ d12_ f12_ d13_ f13_ d14_ f14_ d15_ f15_ d16_ f16_ d17_ f17_ d18_ f18_ d19_ f19_ z0_ z1_
  have hK2 := K_Il.drew HK.out
  clear HK
  generalize w9.drew = v6 at hK2 ⊢
  have HP : Hid (K_Il (m0.tdiv g) (m1.tdiv g) (m2.tdiv g) (m3.tdiv g) (m4.tdiv g) (m5.tdiv g) (m6.tdiv g) m7 m8 d w.heap.size (w.heap.size + 1) w _) := Lib.hid (KL.sub (KL.put1 (p := w.heap.size) (i := 6) (KL.sub (cs' := [(w.heap.size, 0, .int .i64 (m0.tdiv g)), (w.heap.size, 1, .int .i64 (m1.tdiv g)), (w.heap.size, 2, .int .i64 (m2.tdiv g)), (w.heap.size, 3, .int .i64 (m3.tdiv g)), (w.heap.size, 4, .int .i64 (m4.tdiv g)), (w.heap.size, 5, .int .i64 (m5.tdiv g)), (w.heap.size, 7, .int .i64 m7), (w.heap.size, 8, .int .i64 m8), (w.heap.size, 9, .int .i64 d)]) (fs' := [(w.heap.size, 0), (w.heap.size, 1), (w.heap.size, 2), (w.heap.size, 3), (w.heap.size, 4), (w.heap.size, 5), (w.heap.size, 6), (w.heap.size, 7), (w.heap.size, 8), (w.heap.size, 9), (w.heap.size + 1, 0), (w.heap.size + 1, 1), (w.heap.size + 1, 2), (w.heap.size + 1, 3), (w.heap.size + 1, 4), (w.heap.size + 1, 5), (w.heap.size + 1, 6), (w.heap.size + 1, 7), (w.heap.size + 1, 8), (w.heap.size + 1, 9)]) hK2 (fun x hx => by simp only [List.mem_cons, List.not_mem_nil, or_false] at hx ⊢; rcases hx with rfl | rfl | rfl | rfl | rfl | rfl | rfl | rfl | rfl <;> simp) (fun x hx => hx)) (by simp) (by intro x hx; simp only [List.mem_cons, List.not_mem_nil, or_false] at hx; rcases hx with rfl | rfl | rfl | rfl | rfl | rfl | rfl | rfl | rfl <;> simp) (by omega) (.int .i64 (m6.tdiv g))) (fun x hx => by simp only [List.mem_cons, List.not_mem_nil, or_false] at hx ⊢; rcases hx with rfl | rfl | rfl | rfl | rfl | rfl | rfl | rfl | rfl | rfl <;> simp) (fun x hx => hx))
  have hK := hK2
  clear hK2
  obtain ⟨c0_, c1_, c2_, c3_, c4_, c5_, c6_, c7_, c8_, c9_, f0_, f1_, f2_, f3_, f4_, f5_, f6_, f7_, f8_, f9_, d10_, f10_, d11_, f11_, d12_, f12_, d13_, f13_, d14_, f14_, d15_, f15_, d16_, f16_, d17_, f17_, d18_, f18_, d19_, f19_⟩ := K_Il.cells hK; obtain ⟨z0_, z1_, -⟩ := K_Il.zs hK; have HK := Lib.hid hK; clear hK
  go_wp2_with fail
  clear c0_ c1_ c2_ c3_ c4_ c5_ c6_ c7_ c8_ c9_ f0_ f1_ f2_ f3_ f4_ f5_ f6_ f7_ f8_ f9_ d10_ f10_ d11_ f11_ d12_ f12_ d13_ f13_ d14_ f14_ d15_ f15_ d16_ f16_ d17_ f17_ d18_ f18_ d19_ f19_ z0_ z1_
  have hK := HP.out
  clear HP HK
  generalize v6.setCell ⟨w.heap.size, 6, none⟩ (.int .i64 (m6.tdiv g)) = w10 at hK ⊢
  obtain ⟨c0_, c1_, c2_, c3_, c4_, c5_, c6_, c7_, c8_, c9_, f0_, f1_, f2_, f3_, f4_, f5_, f6_, f7_, f8_, f9_, d10_, f10_, d11_, f11_, d12_, f12_, d13_, f13_, d14_, f14_, d15_, f15_, d16_, f16_, d17_, f17_, d18_, f18_, d19_, f19_⟩ := K_Il.cells hK; obtain ⟨z0_, z1_, -⟩ := K_Il.zs hK; have HK := Lib.hid hK; clear hK
  rw [rounds_succ]; go_wp2_with fail
  have gz := GZ.out
  have gn := GN.out
  have ek := E7.out
  go_still_tail 11, (by kernel_rfl)
  change wpList _ _ _ _ _ w10.drew
  clear gz gn ek
  clear c0_ c1_ c2_ c3_ c4_ c5_ c6_ c7_ c8_ c9_ f0_ f1_ f2_ f3_ f4_ f5_ f6_ f7_ f8_ f9_ d10_ f10_ d11_ f11_ d12_ f12_ d13_ f13_ d14_ f14_ d15_ f15_ d16_ f16_ d17_ f17_ d18_ f18_ d19_ f19_ z0_ z1_
  have hK2 := K_Il.drew HK.out
  clear HK
  generalize w10.drew = v7 at hK2 ⊢
  have HP : Hid (K_Il (m0.tdiv g) (m1.tdiv g) (m2.tdiv g) (m3.tdiv g) (m4.tdiv g) (m5.tdiv g) (m6.tdiv g) (m7.tdiv g) m8 d w.heap.size (w.heap.size + 1) w _) := Lib.hid (KL.sub (KL.put1 (p := w.heap.size) (i := 7) (KL.sub (cs' := [(w.heap.size, 0, .int .i64 (m0.tdiv g)), (w.heap.size, 1, .int .i64 (m1.tdiv g)), (w.heap.size, 2, .int .i64 (m2.tdiv g)), (w.heap.size, 3, .int .i64 (m3.tdiv g)), (w.heap.size, 4, .int .i64 (m4.tdiv g)), (w.heap.size, 5, .int .i64 (m5.tdiv g)), (w.heap.size, 6, .int .i64 (m6.tdiv g)), (w.heap.size, 8, .int .i64 m8), (w.heap.size, 9, .int .i64 d)]) (fs' := [(w.heap.size, 0), (w.heap.size, 1), (w.heap.size, 2), (w.heap.size, 3), (w.heap.size, 4), (w.heap.size, 5), (w.heap.size, 6), (w.heap.size, 7), (w.heap.size, 8), (w.heap.size, 9), (w.heap.size + 1, 0), (w.heap.size + 1, 1), (w.heap.size + 1, 2), (w.heap.size + 1, 3), (w.heap.size + 1, 4), (w.heap.size + 1, 5), (w.heap.size + 1, 6), (w.heap.size + 1, 7), (w.heap.size + 1, 8), (w.heap.size + 1, 9)]) hK2 (fun x hx => by simp only [List.mem_cons, List.not_mem_nil, or_false] at hx ⊢; rcases hx with rfl | rfl | rfl | rfl | rfl | rfl | rfl | rfl | rfl <;> simp) (fun x hx => hx)) (by simp) (by intro x hx; simp only [List.mem_cons, List.not_mem_nil, or_false] at hx; rcases hx with rfl | rfl | rfl | rfl | rfl | rfl | rfl | rfl | rfl <;> simp) (by omega) (.int .i64 (m7.tdiv g))) (fun x hx => by simp only [List.mem_cons, List.not_mem_nil, or_false] at hx ⊢; rcases hx with rfl | rfl | rfl | rfl | rfl | rfl | rfl | rfl | rfl | rfl <;> simp) (fun x hx => hx))
  have hK := hK2
  clear hK2
  obtain ⟨c0_, c1_, c2_, c3_, c4_, c5_, c6_, c7_, c8_, c9_, f0_, f1_, f2_, f3_, f4_, f5_, f6_, f7_, f8_, f9_, d10_, f10_, d11_, f11_, d12_, f12_, d13_, f13_, d14_, f14_, d15_, f15_, d16_, f16_, d17_, f17_, d18_, f18_, d19_, f19_⟩ := K_Il.cells hK; obtain ⟨z0_, z1_, -⟩ := K_Il.zs hK; have HK := Lib.hid hK; clear hK
  go_wp2_with fail
  clear c0_ c1_ c2_ c3_ c4_ c5_ c6_ c7_ c8_ c9_ f0_ f1_ f2_ f3_ f4_ f5_ f6_ f7_ f8_ f9_ d10_ f10_ d11_ f11_ d12_ f12_ d13_ f13_ d14_ f14_ d15_ f15_ d16_ f16_ d17_ f17_ d18_ f18_ d19_ f19_ z0_ z1_
  have hK := HP.out
  clear HP HK
  generalize v7.setCell ⟨w.heap.size, 7, none⟩ (.int .i64 (m7.tdiv g)) = w11 at hK ⊢
  obtain ⟨c0_, c1_, c2_, c3_, c4_, c5_, c6_, c7_, c8_, c9_, f0_, f1_, f2_, f3_, f4_, f5_, f6_, f7_, f8_, f9_, d10_, f10_, d11_, f11_, d12_, f12_, d13_, f13_, d14_, f14_, d15_, f15_, d16_, f16_, d17_, f17_, d18_, f18_, d19_, f19_⟩ := K_Il.cells hK; obtain ⟨z0_, z1_, -⟩ := K_Il.zs hK; have HK := Lib.hid hK; clear hK
  rw [rounds_succ]; go_wp2_with fail
  have gz := GZ.out
  have gn := GN.out
  have ek := E8.out
  go_still_tail 11, (by kernel_rfl)
  change wpList _ _ _ _ _ w11.drew
  clear gz gn ek
  clear c0_ c1_ c2_ c3_ c4_ c5_ c6_ c7_ c8_ c9_ f0_ f1_ f2_ f3_ f4_ f5_ f6_ f7_ f8_ f9_ d10_ f10_ d11_ f11_ d12_ f12_ d13_ f13_ d14_ f14_ d15_ f15_ d16_ f16_ d17_ f17_ d18_ f18_ d19_ f19_ z0_ z1_
  have hK2 := K_Il.drew HK.out
  clear HK
  generalize w11.drew = v8 at hK2 ⊢
  have HP : Hid (K_Il (m0.tdiv g) (m1.tdiv g) (m2.tdiv g) (m3.tdiv g) (m4.tdiv g) (m5.tdiv g) (m6.tdiv g) (m7.tdiv g) (m8.tdiv g) d w.heap.size (w.heap.size + 1) w _) := Lib.hid (KL.sub (KL.put1 (p := w.heap.size) (i := 8) (KL.sub (cs' := [(w.heap.size, 0, .int .i64 (m0.tdiv g)), (w.heap.size, 1, .int .i64 (m1.tdiv g)), (w.heap.size, 2, .int .i64 (m2.tdiv g)), (w.heap.size, 3, .int .i64 (m3.tdiv g)), (w.heap.size, 4, .int .i64 (m4.tdiv g)), (w.heap.size, 5, .int .i64 (m5.tdiv g)), (w.heap.size, 6, .int .i64 (m6.tdiv g)), (w.heap.size, 7, .int .i64 (m7.tdiv g)), (w.heap.size, 9, .int .i64 d)]) (fs' := [(w.heap.size, 0), (w.heap.size, 1), (w.heap.size, 2), (w.heap.size, 3), (w.heap.size, 4), (w.heap.size, 5), (w.heap.size, 6), (w.heap.size, 7), (w.heap.size, 8), (w.heap.size, 9), (w.heap.size + 1, 0), (w.heap.size + 1, 1), (w.heap.size + 1, 2), (w.heap.size + 1, 3), (w.heap.size + 1, 4), (w.heap.size + 1, 5), (w.heap.size + 1, 6), (w.heap.size + 1, 7), (w.heap.size + 1, 8), (w.heap.size + 1, 9)]) hK2 (fun x hx => by simp only [List.mem_cons, List.not_mem_nil, or_false] at hx ⊢; rcases hx with rfl | rfl | rfl | rfl | rfl | rfl | rfl | rfl | rfl <;> simp) (fun x hx => hx)) (by simp) (by intro x hx; simp only [List.mem_cons, List.not_mem_nil, or_false] at hx; rcases hx with rfl | rfl | rfl | rfl | rfl | rfl | rfl | rfl | rfl <;> simp) (by omega) (.int .i64 (m8.tdiv g))) (fun x hx => by simp only [List.mem_cons, List.not_mem_nil, or_false] at hx ⊢; rcases hx with rfl | rfl | rfl | rfl | rfl | rfl | rfl | rfl | rfl | rfl <;> simp) (fun x hx => hx))
  have hK := hK2
  clear hK2
  obtain ⟨c0_, c1_, c2_, c3_, c4_, c5_, c6_, c7_, c8_, c9_, f0_, f1_, f2_, f3_, f4_, f5_, f6_, f7_, f8_, f9_, d10_, f10_, d11_, f11_, d12_, f12_, d13_, f13_, d14_, f14_, d15_, f15_, d16_, f16_, d17_, f17_, d18_, f18_, d19_, f19_⟩ := K_Il.cells hK; obtain ⟨z0_, z1_, -⟩ := K_Il.zs hK; have HK := Lib.hid hK; clear hK
  go_wp2_with fail
  clear c0_ c1_ c2_ c3_ c4_ c5_ c6_ c7_ c8_ c9_ f0_ f1_ f2_ f3_ f4_ f5_ f6_ f7_ f8_ f9_ d10_ f10_ d11_ f11_ d12_ f12_ d13_ f13_ d14_ f14_ d15_ f15_ d16_ f16_ d17_ f17_ d18_ f18_ d19_ f19_ z0_ z1_
  have hK := HP.out
  clear HP HK
  generalize v8.setCell ⟨w.heap.size, 8, none⟩ (.int .i64 (m8.tdiv g)) = w12 at hK ⊢
  obtain ⟨c0_, c1_, c2_, c3_, c4_, c5_, c6_, c7_, c8_, c9_, f0_, f1_, f2_, f3_, f4_, f5_, f6_, f7_, f8_, f9_, d10_, f10_, d11_, f11_, d12_, f12_, d13_, f13_, d14_, f14_, d15_, f15_, d16_, f16_, d17_, f17_, d18_, f18_, d19_, f19_⟩ := K_Il.cells hK; obtain ⟨z0_, z1_, -⟩ := K_Il.zs hK; have HK := Lib.hid hK; clear hK
  rw [rounds_succ]; go_wp2_with fail
  rw [rounds_succ]
  have gz := GZ.out
  have gn := GN.out
  have ek := E9.out
  go_upto_region 17 with (fail)
  clear gz gn ek
  clear c0_ c1_ c2_ c3_ c4_ c5_ c6_ c7_ c8_ c9_ f0_ f1_ f2_ f3_ f4_ f5_ f6_ f7_ f8_ f9_ d10_ f10_ d11_ f11_ d12_ f12_ d13_ f13_ d14_ f14_ d15_ f15_ d16_ f16_ d17_ f17_ d18_ f18_ d19_ f19_ z0_ z1_
  have hK : K_Il (m0.tdiv g) (m1.tdiv g) (m2.tdiv g) (m3.tdiv g) (m4.tdiv g) (m5.tdiv g) (m6.tdiv g) (m7.tdiv g) (m8.tdiv g) (d.tdiv g) w.heap.size (w.heap.size + 1) w _ := KL.sub (KL.put1 (p := w.heap.size) (i := 9) (KL.sub (cs' := [(w.heap.size, 0, .int .i64 (m0.tdiv g)), (w.heap.size, 1, .int .i64 (m1.tdiv g)), (w.heap.size, 2, .int .i64 (m2.tdiv g)), (w.heap.size, 3, .int .i64 (m3.tdiv g)), (w.heap.size, 4, .int .i64 (m4.tdiv g)), (w.heap.size, 5, .int .i64 (m5.tdiv g)), (w.heap.size, 6, .int .i64 (m6.tdiv g)), (w.heap.size, 7, .int .i64 (m7.tdiv g)), (w.heap.size, 8, .int .i64 (m8.tdiv g))]) (fs' := [(w.heap.size, 0), (w.heap.size, 1), (w.heap.size, 2), (w.heap.size, 3), (w.heap.size, 4), (w.heap.size, 5), (w.heap.size, 6), (w.heap.size, 7), (w.heap.size, 8), (w.heap.size, 9), (w.heap.size + 1, 0), (w.heap.size + 1, 1), (w.heap.size + 1, 2), (w.heap.size + 1, 3), (w.heap.size + 1, 4), (w.heap.size + 1, 5), (w.heap.size + 1, 6), (w.heap.size + 1, 7), (w.heap.size + 1, 8), (w.heap.size + 1, 9)]) HK.out (fun x hx => by simp only [List.mem_cons, List.not_mem_nil, or_false] at hx ⊢; rcases hx with rfl | rfl | rfl | rfl | rfl | rfl | rfl | rfl | rfl <;> simp) (fun x hx => hx)) (by simp) (by intro x hx; simp only [List.mem_cons, List.not_mem_nil, or_false] at hx; rcases hx with rfl | rfl | rfl | rfl | rfl | rfl | rfl | rfl | rfl <;> simp) (by omega) (.int .i64 (d.tdiv g))) (fun x hx => by simp only [List.mem_cons, List.not_mem_nil, or_false] at hx ⊢; rcases hx with rfl | rfl | rfl | rfl | rfl | rfl | rfl | rfl | rfl | rfl <;> simp) (fun x hx => hx)
  clear HK
  generalize w12.setCell ⟨w.heap.size, 9, none⟩ (.int .i64 (d.tdiv g)) = w13 at hK ⊢
  have HP := Lib.hid (KL.put10n (p := w.heap.size + 1) hK (by simp) (by intro x hx; simp only [List.mem_cons, List.not_mem_nil, or_false] at hx; rcases hx with rfl | rfl | rfl | rfl | rfl | rfl | rfl | rfl | rfl | rfl <;> simp) (by omega) (m0.tdiv g) (m1.tdiv g) (m2.tdiv g) (m3.tdiv g) (m4.tdiv g) (m5.tdiv g) (m6.tdiv g) (m7.tdiv g) (m8.tdiv g) (d.tdiv g))
  obtain ⟨c0_, c1_, c2_, c3_, c4_, c5_, c6_, c7_, c8_, c9_, f0_, f1_, f2_, f3_, f4_, f5_, f6_, f7_, f8_, f9_, d10_, f10_, d11_, f11_, d12_, f12_, d13_, f13_, d14_, f14_, d15_, f15_, d16_, f16_, d17_, f17_, d18_, f18_, d19_, f19_⟩ := K_Il.cells hK; obtain ⟨z0_, z1_, -⟩ := K_Il.zs hK; have HK := Lib.hid hK; clear hK
  have hl := load10 (m0.tdiv g) (m1.tdiv g) (m2.tdiv g) (m3.tdiv g) (m4.tdiv g) (m5.tdiv g) (m6.tdiv g) (m7.tdiv g) (m8.tdiv g) (d.tdiv g) w.heap.size w13 c0_ c1_ c2_ c3_ c4_ c5_ c6_ c7_ c8_ c9_
  have hs := store10 (m0.tdiv g) (m1.tdiv g) (m2.tdiv g) (m3.tdiv g) (m4.tdiv g) (m5.tdiv g) (m6.tdiv g) (m7.tdiv g) (m8.tdiv g) (d.tdiv g) (w.heap.size + 1) w13 d10_ f10_ d11_ f11_ d12_ f12_ d13_ f13_ d14_ f14_ d15_ f15_ d16_ f16_ d17_ f17_ d18_ f18_ d19_ f19_
  clear c0_ c1_ c2_ c3_ c4_ c5_ c6_ c7_ c8_ c9_ f0_ f1_ f2_ f3_ f4_ f5_ f6_ f7_ f8_ f9_ d10_ f10_ d11_ f11_ d12_ f12_ d13_ f13_ d14_ f14_ d15_ f15_ d16_ f16_ d17_ f17_ d18_ f18_ d19_ f19_ z0_ z1_
  clear i0 i1 i2 C0 C1 C2 GZ GN E0 E1 E2 E3 E4 E5 E6 E7 E8 E9
  rename_i k10 k9 a5 k8 k7 k6 a4 k5 k4 a3 k3 k2 a2 k1 a1 k0 a0
  clear a5 a4 a3 a2 a1
  clear k10 k9 k8 k7 k6 k5 k4 k3 k2 k1
  refine Hdt.region_copy (v := .agg #[.int .i64 (m0.tdiv g), .int .i64 (m1.tdiv g), .int .i64 (m2.tdiv g), .int .i64 (m3.tdiv g), .int .i64 (m4.tdiv g), .int .i64 (m5.tdiv g), .int .i64 (m6.tdiv g), .int .i64 (m7.tdiv g), .int .i64 (m8.tdiv g), .int .i64 (d.tdiv g)]) (w' := ((((((((((w13.setCell ⟨w.heap.size + 1, 0, none⟩ (.int .i64 (m0.tdiv g))).setCell ⟨w.heap.size + 1, 1, none⟩ (.int .i64 (m1.tdiv g))).setCell ⟨w.heap.size + 1, 2, none⟩ (.int .i64 (m2.tdiv g))).setCell ⟨w.heap.size + 1, 3, none⟩ (.int .i64 (m3.tdiv g))).setCell ⟨w.heap.size + 1, 4, none⟩ (.int .i64 (m4.tdiv g))).setCell ⟨w.heap.size + 1, 5, none⟩ (.int .i64 (m5.tdiv g))).setCell ⟨w.heap.size + 1, 6, none⟩ (.int .i64 (m6.tdiv g))).setCell ⟨w.heap.size + 1, 7, none⟩ (.int .i64 (m7.tdiv g))).setCell ⟨w.heap.size + 1, 8, none⟩ (.int .i64 (m8.tdiv g))).setCell ⟨w.heap.size + 1, 9, none⟩ (.int .i64 (d.tdiv g)))) rfl rfl rfl rfl (by exact hl) (by exact hs) ?_
  clear hl hs
  refine (show k0 _ _ from a0 _ _ (wp_ret ?_))
  (try simp only [Act.put, List.setIfInBounds_toArray, List.set_cons_zero, List.set_cons_succ, List.getElem_toArray, List.getElem_cons_zero, List.getElem_cons_succ])
  have hQ : K_D1v (m0.tdiv g) (m1.tdiv g) (m2.tdiv g) (m3.tdiv g) (m4.tdiv g) (m5.tdiv g) (m6.tdiv g) (m7.tdiv g) (m8.tdiv g) (d.tdiv g) (w.heap.size + 1) w _ := KL.sub HP.out (fun x hx => by simp only [List.mem_cons, List.not_mem_nil, or_false] at hx ⊢; rcases hx with rfl | rfl | rfl | rfl | rfl | rfl | rfl | rfl | rfl | rfl <;> simp) (fun x hx => by simp at hx)
  clear HP
  generalize ((((((((((w13.setCell ⟨w.heap.size + 1, 0, none⟩ (.int .i64 (m0.tdiv g))).setCell ⟨w.heap.size + 1, 1, none⟩ (.int .i64 (m1.tdiv g))).setCell ⟨w.heap.size + 1, 2, none⟩ (.int .i64 (m2.tdiv g))).setCell ⟨w.heap.size + 1, 3, none⟩ (.int .i64 (m3.tdiv g))).setCell ⟨w.heap.size + 1, 4, none⟩ (.int .i64 (m4.tdiv g))).setCell ⟨w.heap.size + 1, 5, none⟩ (.int .i64 (m5.tdiv g))).setCell ⟨w.heap.size + 1, 6, none⟩ (.int .i64 (m6.tdiv g))).setCell ⟨w.heap.size + 1, 7, none⟩ (.int .i64 (m7.tdiv g))).setCell ⟨w.heap.size + 1, 8, none⟩ (.int .i64 (m8.tdiv g))).setCell ⟨w.heap.size + 1, 9, none⟩ (.int .i64 (d.tdiv g))) = W9 at hQ ⊢
  have hK := hQ
  clear hQ HK
  obtain ⟨c0_, c1_, c2_, c3_, c4_, c5_, c6_, c7_, c8_, c9_⟩ := K_D1v.cells hK; obtain ⟨z0_, -⟩ := K_D1v.zs hK; have HK := Lib.hid hK; clear hK
  have HB := Lib.hid (K_D1v.bel HK.out)
  exact bodyPost_ret (v := .agg #[.int .i64 (m0.tdiv g), .int .i64 (m1.tdiv g), .int .i64 (m2.tdiv g), .int .i64 (m3.tdiv g), .int .i64 (m4.tdiv g), .int .i64 (m5.tdiv g), .int .i64 (m6.tdiv g), .int .i64 (m7.tdiv g), .int .i64 (m8.tdiv g), .int .i64 (d.tdiv g)]) (by simp [results, Try.results117, go_sem, c0_, c1_, c2_, c3_, c4_, c5_, c6_, c7_, c8_, c9_, z0_]) rfl ⟨rfl, by (repeat (first | (with_reducible exact Below.refl _ _) | (with_reducible exact HB.out) | (with_reducible refine below_draws ?_ _) | (with_reducible refine Below.alloc ?_ (by go_size) _) | (with_reducible refine Below.setCell ?_ (by go_size) _) | (with_reducible refine Below.alloc ?_ (by simp <;> omega) _) | (with_reducible refine Below.setCell ?_ (by simp <;> omega) _)))⟩
/-- a matrix and its denominator -/
structure R10 where
  (a0 a1 a2 a3 a4 a5 a6 a7 a8 d : Int)
def R10.g (r : R10) : Int := gR r.a0 r.a1 r.a2 r.a3 r.a4 r.a5 r.a6 r.a7 r.a8 r.d
/-- in lowest terms -/
def R10.low (r : R10) : R10 := ⟨r.a0.tdiv r.g, r.a1.tdiv r.g, r.a2.tdiv r.g, r.a3.tdiv r.g, r.a4.tdiv r.g, r.a5.tdiv r.g, r.a6.tdiv r.g, r.a7.tdiv r.g, r.a8.tdiv r.g, r.d.tdiv r.g⟩
def R10.fit (m : Nat) (r : R10) : Prop := Bn m r.a0 ∧ Bn m r.a1 ∧ Bn m r.a2 ∧ Bn m r.a3 ∧ Bn m r.a4 ∧ Bn m r.a5 ∧ Bn m r.a6 ∧ Bn m r.a7 ∧ Bn m r.a8 ∧ 0 < r.d ∧ r.d ≤ m
theorem inLowest_R (r : R10) (w : World) (h : r.fit 1000000000000000) :
    Calls Try.prog 117 #[.agg #[.int .i64 (r.a0), .int .i64 (r.a1), .int .i64 (r.a2), .int .i64 (r.a3), .int .i64 (r.a4), .int .i64 (r.a5), .int .i64 (r.a6), .int .i64 (r.a7), .int .i64 (r.a8), .int .i64 (r.d)]] w fun e w' => e = .returned (.agg #[.int .i64 (r.low.a0), .int .i64 (r.low.a1), .int .i64 (r.low.a2), .int .i64 (r.low.a3), .int .i64 (r.low.a4), .int .i64 (r.low.a5), .int .i64 (r.low.a6), .int .i64 (r.low.a7), .int .i64 (r.low.a8), .int .i64 (r.low.d)]) ∧ Below w.heap.size w w' :=
  inLowest_any r.a0 r.a1 r.a2 r.a3 r.a4 r.a5 r.a6 r.a7 r.a8 r.d w h.1 h.2.1 h.2.2.1 h.2.2.2.1 h.2.2.2.2.1 h.2.2.2.2.2.1 h.2.2.2.2.2.2.1 h.2.2.2.2.2.2.2.1 h.2.2.2.2.2.2.2.2.1 h.2.2.2.2.2.2.2.2.2.1 h.2.2.2.2.2.2.2.2.2.2
end Go.Proofs.Yteiflfmpkfhkoaa.Rt
