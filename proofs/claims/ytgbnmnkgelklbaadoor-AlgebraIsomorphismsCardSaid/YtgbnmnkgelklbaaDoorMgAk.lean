/-
  WALKS: which algebras and elements are little.
  WALKS: which three elements are little; three elements that came in.
-/
import Derived.Test.YtgbnmnkgelklbaaDoorAlM
import Derived.Test.YtgbnmnkgelklbaaDoorArg
namespace Go.Proofs.YtgbnmnkgelklbaaDoor.Al
open Go.RowKit
open Alm
set_option linter.unusedVariables false
set_option linter.unusedSimpArgs false
set_option maxRecDepth 100000
def litB (A B : Int) : Bool := (chkA A B == 0) && (withinB A (-20) 20 && withinB B (-20) 20)
def smB (n0 n1 n2 n3 d : Int) : Bool := withinB n0 (-3) 3 && (withinB n1 (-3) 3 && (withinB n2 (-3) 3 && (withinB n3 (-3) 3 && withinB d 1 3)))
theorem smB_yes {n0 n1 n2 n3 d : Int} (h : smB n0 n1 n2 n3 d = true) : withinB n0 (-3) 3 = true ∧ withinB n1 (-3) 3 = true ∧ withinB n2 (-3) 3 = true ∧ withinB n3 (-3) 3 = true ∧ withinB d 1 3 = true := by
  unfold smB at h; simpa using h
theorem smB_no {n0 n1 n2 n3 d : Int} (h : smB n0 n1 n2 n3 d = false) : withinB n0 (-3) 3 = false ∨ withinB n0 (-3) 3 = true ∧ (withinB n1 (-3) 3 = false ∨ withinB n1 (-3) 3 = true ∧ (withinB n2 (-3) 3 = false ∨ withinB n2 (-3) 3 = true ∧ (withinB n3 (-3) 3 = false ∨ withinB n3 (-3) 3 = true ∧ withinB d 1 3 = false))) := by
  unfold smB at h
  revert h
  cases withinB n0 (-3) 3 <;> cases withinB n1 (-3) 3 <;> cases withinB n2 (-3) 3 <;> cases withinB n3 (-3) 3 <;> cases withinB d 1 3 <;> simp
end Go.Proofs.YtgbnmnkgelklbaaDoor.Al
namespace Go.Proofs.YtgbnmnkgelklbaaDoor.Al
open Go.RowKit Go.Joins Go.ChangeShapes Go.WideShapes Go.ChangeAt Go.Deep
open Alm
set_option linter.unusedVariables false
set_option linter.unusedSimpArgs false
set_option maxRecDepth 100000
theorem KL.subf {w0 : World} {cs cs' : List (Nat × Nat × Value)} {fs : List (Nat × Nat)} {w : World} (h : KL w0 cs fs w) (hs : ∀ x ∈ cs', x ∈ cs) : KL w0 cs' fs w := ⟨fun x hx => h.c x (hs x hx), h.g, h.f, h.bel⟩
theorem KL.put5 {w0 : World} {cs : List (Nat × Nat × Value)} {w : World} {a b c d e a' b' c' d' e' : Int} {p : Nat} (h : KL w0 ((p, 0, .int .i64 a) :: (p, 1, .int .i64 b) :: (p, 2, .int .i64 c) :: (p, 3, .int .i64 d) :: (p, 4, .int .i64 e) :: cs) [(p, 0), (p, 1), (p, 2), (p, 3), (p, 4)] w) (hp : ∀ x ∈ cs, p ≠ x.1) (hw : w0.heap.size ≤ p) :
    KL w0 ((p, 0, .int .i64 a') :: (p, 1, .int .i64 b') :: (p, 2, .int .i64 c') :: (p, 3, .int .i64 d') :: (p, 4, .int .i64 e') :: cs) [(p, 0), (p, 1), (p, 2), (p, 3), (p, 4)] (((((w.setCell ⟨p, 0, none⟩ (.int .i64 a')).setCell ⟨p, 1, none⟩ (.int .i64 b')).setCell ⟨p, 2, none⟩ (.int .i64 c')).setCell ⟨p, 3, none⟩ (.int .i64 d')).setCell ⟨p, 4, none⟩ (.int .i64 e')) := by
  have c0 := h.c (p, 0, .int .i64 a) (by simp)
  have c1 := h.c (p, 1, .int .i64 b) (by simp)
  have c2 := h.c (p, 2, .int .i64 c) (by simp)
  have c3 := h.c (p, 3, .int .i64 d) (by simp)
  have c4 := h.c (p, 4, .int .i64 e) (by simp)
  have f0 := h.f (p, 0) (by simp)
  have f1 := h.f (p, 1) (by simp)
  have f2 := h.f (p, 2) (by simp)
  have f3 := h.f (p, 3) (by simp)
  have f4 := h.f (p, 4) (by simp)
  simp only [] at c0 c1 c2 c3 c4 f0 f1 f2 f3 f4
  have h0 : KL w0 cs [] w := ⟨fun x hx => h.c x (by simp [hx]), by simp, by simp, h.bel⟩
  have h1 := ((((h0.set p 0 (.int .i64 a') hp hw).set p 1 (.int .i64 b') hp hw).set p 2 (.int .i64 c') hp hw).set p 3 (.int .i64 d') hp hw).set p 4 (.int .i64 e') hp hw
  refine ⟨fun x hx => ?_, fun x hx => ?_, fun x hx => ?_, h1.bel⟩
  · simp only [List.mem_cons] at hx
    rcases hx with rfl | rfl | rfl | rfl | rfl | hx
    · simp [go_sem, c0, c1, c2, c3, c4, f0, f1, f2, f3, f4]
    · simp [go_sem, c0, c1, c2, c3, c4, f0, f1, f2, f3, f4]
    · simp [go_sem, c0, c1, c2, c3, c4, f0, f1, f2, f3, f4]
    · simp [go_sem, c0, c1, c2, c3, c4, f0, f1, f2, f3, f4]
    · simp [go_sem, c0, c1, c2, c3, c4, f0, f1, f2, f3, f4]
    · exact h1.c x hx
  · simp only [List.mem_cons, List.not_mem_nil, or_false] at hx
    rcases hx with rfl | rfl | rfl | rfl | rfl <;> simp [go_sem, c0, c1, c2, c3, c4, f0, f1, f2, f3, f4]
  · simp only [List.mem_cons, List.not_mem_nil, or_false] at hx
    rcases hx with rfl | rfl | rfl | rfl | rfl <;> simp [go_sem, c0, c1, c2, c3, c4, f0, f1, f2, f3, f4]
theorem KL.push15 {w0 : World} {cs : List (Nat × Nat × Value)} {fs : List (Nat × Nat)} {w : World} (h : KL w0 cs fs w) (a0 a1 a2 a3 a4 a5 a6 a7 a8 a9 a10 a11 a12 a13 a14 : Int) (T : TypeId) (p : Nat) (hp : p = w.heap.size) : KL w0 ((p, 0, .int .i64 a0) :: (p, 1, .int .i64 a1) :: (p, 2, .int .i64 a2) :: (p, 3, .int .i64 a3) :: (p, 4, .int .i64 a4) :: (p, 5, .int .i64 a5) :: (p, 6, .int .i64 a6) :: (p, 7, .int .i64 a7) :: (p, 8, .int .i64 a8) :: (p, 9, .int .i64 a9) :: (p, 10, .int .i64 a10) :: (p, 11, .int .i64 a11) :: (p, 12, .int .i64 a12) :: (p, 13, .int .i64 a13) :: (p, 14, .int .i64 a14) :: cs) fs (w.alloc (.cells #[.int .i64 a0, .int .i64 a1, .int .i64 a2, .int .i64 a3, .int .i64 a4, .int .i64 a5, .int .i64 a6, .int .i64 a7, .int .i64 a8, .int .i64 a9, .int .i64 a10, .int .i64 a11, .int .i64 a12, .int .i64 a13, .int .i64 a14] T)) := by
  subst hp
  have h1 := h.alloc (.cells #[.int .i64 a0, .int .i64 a1, .int .i64 a2, .int .i64 a3, .int .i64 a4, .int .i64 a5, .int .i64 a6, .int .i64 a7, .int .i64 a8, .int .i64 a9, .int .i64 a10, .int .i64 a11, .int .i64 a12, .int .i64 a13, .int .i64 a14] T)
  refine ⟨fun x hx => ?_, h1.g, h1.f, h1.bel⟩
  simp only [List.mem_cons] at hx
  rcases hx with rfl | rfl | rfl | rfl | rfl | rfl | rfl | rfl | rfl | rfl | rfl | rfl | rfl | rfl | rfl | hx
  iterate 15 (simp [go_sem])
  exact h1.c x hx
/-- what a walk keeps: cells, and that nothing that was there has turned -/
def K_T3 (p0 p1 p2 p3 p4 q0 q1 q2 q3 q4 r0 r1 r2 r3 r4 : Int) (bb : Nat) (w w' : World) : Prop := KL w [(bb, 0, .int .i64 p0), (bb, 1, .int .i64 p1), (bb, 2, .int .i64 p2), (bb, 3, .int .i64 p3), (bb, 4, .int .i64 p4), (bb, 5, .int .i64 q0), (bb, 6, .int .i64 q1), (bb, 7, .int .i64 q2), (bb, 8, .int .i64 q3), (bb, 9, .int .i64 q4), (bb, 10, .int .i64 r0), (bb, 11, .int .i64 r1), (bb, 12, .int .i64 r2), (bb, 13, .int .i64 r3), (bb, 14, .int .i64 r4)] [] w'
theorem K_T3.below {p0 p1 p2 p3 p4 q0 q1 q2 q3 q4 r0 r1 r2 r3 r4 : Int} {bb : Nat} {w w1 w2 : World} (hb : Below w1.heap.size w1 w2) (h : K_T3 p0 p1 p2 p3 p4 q0 q1 q2 q3 q4 r0 r1 r2 r3 r4 bb w w1) : K_T3 p0 p1 p2 p3 p4 q0 q1 q2 q3 q4 r0 r1 r2 r3 r4 bb w w2 := KL.below hb h
theorem K_T3.draws {p0 p1 p2 p3 p4 q0 q1 q2 q3 q4 r0 r1 r2 r3 r4 : Int} {bb : Nat} {w w1 : World} (n : Nat) (h : K_T3 p0 p1 p2 p3 p4 q0 q1 q2 q3 q4 r0 r1 r2 r3 r4 bb w w1) : K_T3 p0 p1 p2 p3 p4 q0 q1 q2 q3 q4 r0 r1 r2 r3 r4 bb w (w1.drewN n) := KL.draws n h
theorem K_T3.drew {p0 p1 p2 p3 p4 q0 q1 q2 q3 q4 r0 r1 r2 r3 r4 : Int} {bb : Nat} {w w1 : World} (h : K_T3 p0 p1 p2 p3 p4 q0 q1 q2 q3 q4 r0 r1 r2 r3 r4 bb w w1) : K_T3 p0 p1 p2 p3 p4 q0 q1 q2 q3 q4 r0 r1 r2 r3 r4 bb w w1.drew := KL.draws 1 h
theorem K_T3.alloc {p0 p1 p2 p3 p4 q0 q1 q2 q3 q4 r0 r1 r2 r3 r4 : Int} {bb : Nat} {w w1 : World} (o : Obj) (h : K_T3 p0 p1 p2 p3 p4 q0 q1 q2 q3 q4 r0 r1 r2 r3 r4 bb w w1) : K_T3 p0 p1 p2 p3 p4 q0 q1 q2 q3 q4 r0 r1 r2 r3 r4 bb w (w1.alloc o) := KL.alloc o h
theorem K_T3.set {p0 p1 p2 p3 p4 q0 q1 q2 q3 q4 r0 r1 r2 r3 r4 : Int} {bb : Nat} {w w1 : World} (h : K_T3 p0 p1 p2 p3 p4 q0 q1 q2 q3 q4 r0 r1 r2 r3 r4 bb w w1) (b i : Nat) (v : Value) (hb : b ≠ bb ∧ w.heap.size ≤ b) : K_T3 p0 p1 p2 p3 p4 q0 q1 q2 q3 q4 r0 r1 r2 r3 r4 bb w (w1.setCell ⟨b, i, none⟩ v) :=
  KL.set h b i v (by intro x hx; simp only [List.mem_cons, List.not_mem_nil, or_false] at hx; rcases hx with rfl | rfl | rfl | rfl | rfl | rfl | rfl | rfl | rfl | rfl | rfl | rfl | rfl | rfl | rfl <;> simp only [] <;> omega) (by omega)
theorem K_T3.bel {p0 p1 p2 p3 p4 q0 q1 q2 q3 q4 r0 r1 r2 r3 r4 : Int} {bb : Nat} {w w1 : World} (h : K_T3 p0 p1 p2 p3 p4 q0 q1 q2 q3 q4 r0 r1 r2 r3 r4 bb w w1) : Below w.heap.size w w1 := KL.bel h
theorem K_T3.cells {p0 p1 p2 p3 p4 q0 q1 q2 q3 q4 r0 r1 r2 r3 r4 : Int} {bb : Nat} {w w' : World} (h : K_T3 p0 p1 p2 p3 p4 q0 q1 q2 q3 q4 r0 r1 r2 r3 r4 bb w w') : w'.cell? ⟨bb, 0, none⟩ = some (.int .i64 p0) ∧ w'.cell? ⟨bb, 1, none⟩ = some (.int .i64 p1) ∧ w'.cell? ⟨bb, 2, none⟩ = some (.int .i64 p2) ∧ w'.cell? ⟨bb, 3, none⟩ = some (.int .i64 p3) ∧ w'.cell? ⟨bb, 4, none⟩ = some (.int .i64 p4) ∧ w'.cell? ⟨bb, 5, none⟩ = some (.int .i64 q0) ∧ w'.cell? ⟨bb, 6, none⟩ = some (.int .i64 q1) ∧ w'.cell? ⟨bb, 7, none⟩ = some (.int .i64 q2) ∧ w'.cell? ⟨bb, 8, none⟩ = some (.int .i64 q3) ∧ w'.cell? ⟨bb, 9, none⟩ = some (.int .i64 q4) ∧ w'.cell? ⟨bb, 10, none⟩ = some (.int .i64 r0) ∧ w'.cell? ⟨bb, 11, none⟩ = some (.int .i64 r1) ∧ w'.cell? ⟨bb, 12, none⟩ = some (.int .i64 r2) ∧ w'.cell? ⟨bb, 13, none⟩ = some (.int .i64 r3) ∧ w'.cell? ⟨bb, 14, none⟩ = some (.int .i64 r4) := ⟨h.c (bb, 0, .int .i64 p0) (by simp), h.c (bb, 1, .int .i64 p1) (by simp), h.c (bb, 2, .int .i64 p2) (by simp), h.c (bb, 3, .int .i64 p3) (by simp), h.c (bb, 4, .int .i64 p4) (by simp), h.c (bb, 5, .int .i64 q0) (by simp), h.c (bb, 6, .int .i64 q1) (by simp), h.c (bb, 7, .int .i64 q2) (by simp), h.c (bb, 8, .int .i64 q3) (by simp), h.c (bb, 9, .int .i64 q4) (by simp), h.c (bb, 10, .int .i64 r0) (by simp), h.c (bb, 11, .int .i64 r1) (by simp), h.c (bb, 12, .int .i64 r2) (by simp), h.c (bb, 13, .int .i64 r3) (by simp), h.c (bb, 14, .int .i64 r4) (by simp)⟩
theorem K_T3.zs {p0 p1 p2 p3 p4 q0 q1 q2 q3 q4 r0 r1 r2 r3 r4 : Int} {bb : Nat} {w w' : World} (h : K_T3 p0 p1 p2 p3 p4 q0 q1 q2 q3 q4 r0 r1 r2 r3 r4 bb w w') : bb < w'.heap.size ∧ True := ⟨KL.z h (x := (bb, 0, .int .i64 p0)) (by simp), trivial⟩
theorem K_T3.ks {p0 p1 p2 p3 p4 q0 q1 q2 q3 q4 r0 r1 r2 r3 r4 : Int} {bb : Nat} {w w' : World} (h : K_T3 p0 p1 p2 p3 p4 q0 q1 q2 q3 q4 r0 r1 r2 r3 r4 bb w w') : (w'.cell? ⟨bb, 0, none⟩ = some (.int .i64 p0) ∧ w'.cell? ⟨bb, 1, none⟩ = some (.int .i64 p1) ∧ w'.cell? ⟨bb, 2, none⟩ = some (.int .i64 p2) ∧ w'.cell? ⟨bb, 3, none⟩ = some (.int .i64 p3) ∧ w'.cell? ⟨bb, 4, none⟩ = some (.int .i64 p4) ∧ w'.cell? ⟨bb, 5, none⟩ = some (.int .i64 q0) ∧ w'.cell? ⟨bb, 6, none⟩ = some (.int .i64 q1) ∧ w'.cell? ⟨bb, 7, none⟩ = some (.int .i64 q2) ∧ w'.cell? ⟨bb, 8, none⟩ = some (.int .i64 q3) ∧ w'.cell? ⟨bb, 9, none⟩ = some (.int .i64 q4) ∧ w'.cell? ⟨bb, 10, none⟩ = some (.int .i64 r0) ∧ w'.cell? ⟨bb, 11, none⟩ = some (.int .i64 r1) ∧ w'.cell? ⟨bb, 12, none⟩ = some (.int .i64 r2) ∧ w'.cell? ⟨bb, 13, none⟩ = some (.int .i64 r3) ∧ w'.cell? ⟨bb, 14, none⟩ = some (.int .i64 r4)) ∧ K_T3 p0 p1 p2 p3 p4 q0 q1 q2 q3 q4 r0 r1 r2 r3 r4 bb w w' := ⟨h.cells, h⟩
theorem t3_new3 (p0 p1 p2 p3 p4 q0 q1 q2 q3 q4 r0 r1 r2 r3 r4 : Int) (T : TypeId) (w : World) (n : Nat) (hn : n = w.heap.size) : K_T3 p0 p1 p2 p3 p4 q0 q1 q2 q3 q4 r0 r1 r2 r3 r4 n (w.alloc (.cells #[.int .i64 p0, .int .i64 p1, .int .i64 p2, .int .i64 p3, .int .i64 p4, .int .i64 q0, .int .i64 q1, .int .i64 q2, .int .i64 q3, .int .i64 q4, .int .i64 r0, .int .i64 r1, .int .i64 r2, .int .i64 r3, .int .i64 r4] T)) (w.alloc (.cells #[.int .i64 p0, .int .i64 p1, .int .i64 p2, .int .i64 p3, .int .i64 p4, .int .i64 q0, .int .i64 q1, .int .i64 q2, .int .i64 q3, .int .i64 q4, .int .i64 r0, .int .i64 r1, .int .i64 r2, .int .i64 r3, .int .i64 r4] T)) := by
  subst hn
  exact ⟨by simp [go_sem], by simp, by simp, Below.refl _ _⟩
section
variable {H : Type} {enc : TypeId × Value → H} {w : World} {base : Nat} {spare : Nat → Bool} {held : Bool}
theorem five_trod {n : Nat} {a b c e g : Value} {y : DataW H × List MemPlace} (h : DataW.trod enc Tryd.prog w base spare held n 39 [a, b, c, e, g] = some y) :
    ∃ n0 n1 n2 n3 n4 : Int, a = .int .i64 n0 ∧ b = .int .i64 n1 ∧ c = .int .i64 n2 ∧ e = .int .i64 n3 ∧ g = .int .i64 n4 ∧ (Lit.int .i64 n0).wf = true ∧ (Lit.int .i64 n1).wf = true ∧ (Lit.int .i64 n2).wf = true ∧ (Lit.int .i64 n3).wf = true ∧ (Lit.int .i64 n4).wf = true := by
  obtain ⟨xs, m, _, hx, _, hlen, hg⟩ := DataW.trod_struct Tryd.underlying39 h
  match xs, hlen with
  | [y0, y1, y2, y3, y4], _ =>
    have g0 : DataW.trod enc Tryd.prog w base spare held m 3 [a] = some y0 := hg 0 _ rfl
    have g1 : DataW.trod enc Tryd.prog w base spare held m 3 [b] = some y1 := hg 1 _ rfl
    have g2 : DataW.trod enc Tryd.prog w base spare held m 3 [c] = some y2 := hg 2 _ rfl
    have g3 : DataW.trod enc Tryd.prog w base spare held m 3 [e] = some y3 := hg 3 _ rfl
    have g4 : DataW.trod enc Tryd.prog w base spare held m 3 [g] = some y4 := hg 4 _ rfl
    obtain ⟨n0, e0, -, wf0⟩ := DataW.trod_int Tryd.underlying3 g0
    obtain ⟨n1, e1, -, wf1⟩ := DataW.trod_int Tryd.underlying3 g1
    obtain ⟨n2, e2, -, wf2⟩ := DataW.trod_int Tryd.underlying3 g2
    obtain ⟨n3, e3, -, wf3⟩ := DataW.trod_int Tryd.underlying3 g3
    obtain ⟨n4, e4, -, wf4⟩ := DataW.trod_int Tryd.underlying3 g4
    refine ⟨n0, n1, n2, n3, n4, ?_, ?_, ?_, ?_, ?_, wf0, wf1, wf2, wf3, wf4⟩
    · simpa using e0
    · simpa using e1
    · simpa using e2
    · simpa using e3
    · simpa using e4
end
end Go.Proofs.YtgbnmnkgelklbaaDoor.Al
