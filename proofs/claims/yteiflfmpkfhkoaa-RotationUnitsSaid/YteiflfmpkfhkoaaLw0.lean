/-
  What a law's walk keeps, box by box; contracts at valid elements.
-/
import Derived.Test.YteiflfmpkfhkoaaAlA
import Derived.Test.YteiflfmpkfhkoaaAl6
namespace Go.Proofs.Yteiflfmpkfhkoaa.Al
open Go.RowKit
open Alm
set_option linter.unusedVariables false
set_option linter.unusedSimpArgs false
set_option maxRecDepth 100000
theorem KL.nil (w : World) : KL w [] [] w := ⟨by simp, by simp, by simp, Below.refl _ _⟩
section
variable {w0 : World} {cs : List (Nat × Nat × Value)} {fs : List (Nat × Nat)} {w : World}
theorem KL.push2 (h : KL w0 cs fs w) (a b : Int) (T : TypeId) (p : Nat) (hp : p = w.heap.size) : KL w0 ((p, 0, .int .i64 a) :: (p, 1, .int .i64 b) :: cs) fs (w.alloc (.cells #[.int .i64 a, .int .i64 b] T)) := by
  subst hp
  have h1 := h.alloc (.cells #[.int .i64 a, .int .i64 b] T)
  refine ⟨fun x hx => ?_, h1.g, h1.f, h1.bel⟩
  simp only [List.mem_cons] at hx
  rcases hx with rfl | rfl | hx
  · simp [go_sem]
  · simp [go_sem]
  · exact h1.c x hx
theorem KL.push5 (h : KL w0 cs fs w) (a b c d e : Int) (T : TypeId) (p : Nat) (hp : p = w.heap.size) : KL w0 ((p, 0, .int .i64 a) :: (p, 1, .int .i64 b) :: (p, 2, .int .i64 c) :: (p, 3, .int .i64 d) :: (p, 4, .int .i64 e) :: cs) fs (w.alloc (.cells #[.int .i64 a, .int .i64 b, .int .i64 c, .int .i64 d, .int .i64 e] T)) := by
  subst hp
  have h1 := h.alloc (.cells #[.int .i64 a, .int .i64 b, .int .i64 c, .int .i64 d, .int .i64 e] T)
  refine ⟨fun x hx => ?_, h1.g, h1.f, h1.bel⟩
  simp only [List.mem_cons] at hx
  rcases hx with rfl | rfl | rfl | rfl | rfl | hx
  · simp [go_sem]
  · simp [go_sem]
  · simp [go_sem]
  · simp [go_sem]
  · simp [go_sem]
  · exact h1.c x hx
theorem KL.push5w (h : KL w0 cs fs w) (a b c d e : Int) (T : TypeId) (p : Nat) (hp : p = w.heap.size) : KL w0 ((p, 0, .int .i64 a) :: (p, 1, .int .i64 b) :: (p, 2, .int .i64 c) :: (p, 3, .int .i64 d) :: (p, 4, .int .i64 e) :: cs) ((p, 0) :: (p, 1) :: (p, 2) :: (p, 3) :: (p, 4) :: fs) (w.alloc (.cells #[.int .i64 a, .int .i64 b, .int .i64 c, .int .i64 d, .int .i64 e] T)) := by
  have h2 := h.push5 a b c d e T p hp
  subst hp
  refine ⟨h2.c, fun x hx => ?_, fun x hx => ?_, h2.bel⟩
  · simp only [List.mem_cons] at hx
    rcases hx with rfl | rfl | rfl | rfl | rfl | hx
    · simp [go_sem]
    · simp [go_sem]
    · simp [go_sem]
    · simp [go_sem]
    · simp [go_sem]
    · exact h2.g x hx
  · simp only [List.mem_cons] at hx
    rcases hx with rfl | rfl | rfl | rfl | rfl | hx
    · simp [go_sem]
    · simp [go_sem]
    · simp [go_sem]
    · simp [go_sem]
    · simp [go_sem]
    · exact h2.f x hx
end
theorem low_fits {q : Q} (h : qB q = true) : qB q.low = true := by
  have hq := qB_of h
  obtain ⟨h0, h1, h2, h3, h4, h5⟩ := hq
  have hp := q.low_pos (by omega)
  have b0 := tdiv_bd q.w (gs q.w q.x q.y q.z q.d)
  have b1 := tdiv_bd q.x (gs q.w q.x q.y q.z q.d)
  have b2 := tdiv_bd q.y (gs q.w q.x q.y q.z q.d)
  have b3 := tdiv_bd q.z (gs q.w q.x q.y q.z q.d)
  have b4 := tdiv_bd q.d (gs q.w q.x q.y q.z q.d)
  refine decide_eq_true ?_
  unfold qin
  unfold Q.low at hp ⊢
  simp only [] at hp ⊢
  omega
theorem fit_low {q : Q} (h : qB q = true) : fitQ q = q.low ∧ fitE q = 0 := by
  have := low_fits h
  unfold fitQ fitE
  exact ⟨if_pos this, if_pos this⟩
theorem qB_conj {n0 n1 n2 n3 d : Int} (h : qB ⟨n0, n1, n2, n3, d⟩ = true) : qB ⟨n0, -n1, -n2, -n3, d⟩ = true := by
  have := qB_of h
  unfold qin at this
  refine decide_eq_true ?_
  unfold qin
  simp only [] at this ⊢
  omega
theorem Normal_v (n0 n1 n2 n3 d : Int) (w : World) (h : chkQ n0 n1 n2 n3 d = 0) :
    Calls Try.prog 122 #[.agg #[.int .i64 n0, .int .i64 n1, .int .i64 n2, .int .i64 n3, .int .i64 d]] w fun e w' => e = .returned (.tuple #[.agg #[.int .i64 ((Q.mk n0 n1 n2 n3 d).low).w, .int .i64 ((Q.mk n0 n1 n2 n3 d).low).x, .int .i64 ((Q.mk n0 n1 n2 n3 d).low).y, .int .i64 ((Q.mk n0 n1 n2 n3 d).low).z, .int .i64 ((Q.mk n0 n1 n2 n3 d).low).d], .int .i64 0]) ∧ Below w.heap.size w w' := by
  have := Normal_ok n0 n1 n2 n3 d w (chkQ_ok h)
  rw [(fit_low (chkQ_ok h)).1, (fit_low (chkQ_ok h)).2] at this
  exact this
end Go.Proofs.Yteiflfmpkfhkoaa.Al
