/-
  WALKS: canonical associates, the reference's.
-/
import Derived.Test.YteiflfmpkfhkoaaRtT
import Derived.Test.YteiflfmpkfhkoaaRtS
import Derived.Test.YteiflfmpkfhkoaaRt7
namespace Go.Proofs.Yteiflfmpkfhkoaa.Rt
open Go.RowKit
open Alm Hwm Al
set_option linter.unusedVariables false
set_option linter.unusedSimpArgs false
set_option maxRecDepth 100000
theorem rUnits_any (w : World) :
    Calls Try.prog 31 #[] w fun e w' => ∃ v, e = .returned v ∧ w'.ownsRow w.heap.size 31 4 v U24.length (flatH U24) ∧ Below w.heap.size w w' := by
  have AA := Lib.hid (fun W => all_any 1 W (by decide))
  rw [A_one] at AA
  go_enter Try.func31, Try.ntmps31
  go_wp2_with fail
  refine (AA.out _).mono ?_
  rintro e w1 ⟨v, rfl, hown, hb⟩
  have HO := Lib.hid hown
  have HB := Lib.hid hb
  clear hown hb
  go_wp2
  go_ret
  exact ⟨v, rfl, HO.out, HB.out⟩
theorem KL.cons4h {w0 : World} {cs : List (Nat × Nat × Value)} {fs : List (Nat × Nat)} {w : World} (h : KL w0 cs fs w) (p : Nat) (a b c d : Int) (h0 : w.cell? ⟨p, 0, none⟩ = some (.int .i64 a) ∧ w.cell? ⟨p, 1, none⟩ = some (.int .i64 b) ∧ w.cell? ⟨p, 2, none⟩ = some (.int .i64 c) ∧ w.cell? ⟨p, 3, none⟩ = some (.int .i64 d)) : KL w0 ((p, 0, .int .i64 a) :: (p, 1, .int .i64 b) :: (p, 2, .int .i64 c) :: (p, 3, .int .i64 d) :: cs) fs w := by
  obtain ⟨h0, h1, h2, h3⟩ := h0
  refine ⟨fun x hx => ?_, h.g, h.f, h.bel⟩
  simp only [List.mem_cons] at hx
  rcases hx with rfl | rfl | rfl | rfl | hx
  · exact h0
  · exact h1
  · exact h2
  · exact h3
  · exact h.c x hx
theorem merge_rest1 {Goal : Prop} {K : Nat → World → Prop} (G : Nat → World → Prop) (main : Hid (∀ p w, K p w → G p w) → Goal) (rest : ∀ p w, K p w → G p w) : Goal := main (Lib.hid rest)
theorem LH.set {T : TypeId} {B : Nat} {w : World} {A : Option Addr} {c : Nat} {L : List H} (h : LH T B w A c L) {q : Nat} (hq : q < B) (i : Nat) (v : Value) : LH T B (w.setCell ⟨q, i, none⟩ v) A c L := by
  unfold LH
  refine ownsRow_setCell_other h ?_ _
  intro e
  rcases h.2 with ⟨h0, h1⟩ | ⟨g, cap, cur, hv, h5, hgg, r⟩
  · rw [h0] at e; cases e
  · rw [hv] at e
    have e' : g = q := by injection e
    omega
/-- what a walk keeps: cells, and that nothing that was there has turned -/
def K_Qz (a0 a1 a2 a3 : Int) (p : Nat) (w w' : World) : Prop := KL w [(p, 0, .int .i64 a0), (p, 1, .int .i64 a1), (p, 2, .int .i64 a2), (p, 3, .int .i64 a3)] [(p, 0), (p, 1), (p, 2), (p, 3)] w'
theorem K_Qz.below {a0 a1 a2 a3 : Int} {p : Nat} {w w1 w2 : World} (hb : Below w1.heap.size w1 w2) (h : K_Qz a0 a1 a2 a3 p w w1) : K_Qz a0 a1 a2 a3 p w w2 := KL.below hb h
theorem K_Qz.draws {a0 a1 a2 a3 : Int} {p : Nat} {w w1 : World} (n : Nat) (h : K_Qz a0 a1 a2 a3 p w w1) : K_Qz a0 a1 a2 a3 p w (w1.drewN n) := KL.draws n h
theorem K_Qz.drew {a0 a1 a2 a3 : Int} {p : Nat} {w w1 : World} (h : K_Qz a0 a1 a2 a3 p w w1) : K_Qz a0 a1 a2 a3 p w w1.drew := KL.draws 1 h
theorem K_Qz.alloc {a0 a1 a2 a3 : Int} {p : Nat} {w w1 : World} (o : Obj) (h : K_Qz a0 a1 a2 a3 p w w1) : K_Qz a0 a1 a2 a3 p w (w1.alloc o) := KL.alloc o h
theorem K_Qz.set {a0 a1 a2 a3 : Int} {p : Nat} {w w1 : World} (h : K_Qz a0 a1 a2 a3 p w w1) (b i : Nat) (v : Value) (hb : b ≠ p ∧ w.heap.size ≤ b) : K_Qz a0 a1 a2 a3 p w (w1.setCell ⟨b, i, none⟩ v) :=
  KL.set h b i v (by intro x hx; simp only [List.mem_cons, List.not_mem_nil, or_false] at hx; rcases hx with rfl | rfl | rfl | rfl <;> simp only [] <;> omega) (by omega)
theorem K_Qz.bel {a0 a1 a2 a3 : Int} {p : Nat} {w w1 : World} (h : K_Qz a0 a1 a2 a3 p w w1) : Below w.heap.size w w1 := KL.bel h
theorem K_Qz.cells {a0 a1 a2 a3 : Int} {p : Nat} {w w' : World} (h : K_Qz a0 a1 a2 a3 p w w') : w'.cell? ⟨p, 0, none⟩ = some (.int .i64 a0) ∧ w'.cell? ⟨p, 1, none⟩ = some (.int .i64 a1) ∧ w'.cell? ⟨p, 2, none⟩ = some (.int .i64 a2) ∧ w'.cell? ⟨p, 3, none⟩ = some (.int .i64 a3) ∧ w'.frozen? ⟨p, 0, none⟩ = false ∧ w'.frozen? ⟨p, 1, none⟩ = false ∧ w'.frozen? ⟨p, 2, none⟩ = false ∧ w'.frozen? ⟨p, 3, none⟩ = false := ⟨h.c (p, 0, .int .i64 a0) (by simp), h.c (p, 1, .int .i64 a1) (by simp), h.c (p, 2, .int .i64 a2) (by simp), h.c (p, 3, .int .i64 a3) (by simp), h.f (p, 0) (by simp), h.f (p, 1) (by simp), h.f (p, 2) (by simp), h.f (p, 3) (by simp)⟩
theorem K_Qz.zs {a0 a1 a2 a3 : Int} {p : Nat} {w w' : World} (h : K_Qz a0 a1 a2 a3 p w w') : p < w'.heap.size ∧ True := ⟨KL.z h (x := (p, 0, .int .i64 a0)) (by simp), trivial⟩
theorem K_Qz.ks {a0 a1 a2 a3 : Int} {p : Nat} {w w' : World} (h : K_Qz a0 a1 a2 a3 p w w') : (w'.cell? ⟨p, 0, none⟩ = some (.int .i64 a0) ∧ w'.cell? ⟨p, 1, none⟩ = some (.int .i64 a1) ∧ w'.cell? ⟨p, 2, none⟩ = some (.int .i64 a2) ∧ w'.cell? ⟨p, 3, none⟩ = some (.int .i64 a3) ∧ w'.frozen? ⟨p, 0, none⟩ = false ∧ w'.frozen? ⟨p, 1, none⟩ = false ∧ w'.frozen? ⟨p, 2, none⟩ = false ∧ w'.frozen? ⟨p, 3, none⟩ = false) ∧ K_Qz a0 a1 a2 a3 p w w' := ⟨h.cells, h⟩
/-- what a walk keeps: cells, and that nothing that was there has turned -/
def K_Rc (g0 g1 g2 g3 a0 a1 a2 a3 u0 u1 u2 u3 : Int) (p q r bu oo : Nat) (w w' : World) : Prop := KL w [(q, 0, .int .i64 g0), (q, 1, .int .i64 g1), (q, 2, .int .i64 g2), (q, 3, .int .i64 g3), (p, 0, .int .i64 a0), (p, 1, .int .i64 a1), (p, 2, .int .i64 a2), (p, 3, .int .i64 a3), (bu, oo, .int .i64 u0), (bu, oo + 1, .int .i64 u1), (bu, oo + 2, .int .i64 u2), (bu, oo + 3, .int .i64 u3)] [(q, 0), (q, 1), (q, 2), (q, 3), (r, 0), (r, 1), (r, 2), (r, 3)] w'
theorem K_Rc.below {g0 g1 g2 g3 a0 a1 a2 a3 u0 u1 u2 u3 : Int} {p q r bu oo : Nat} {w w1 w2 : World} (hb : Below w1.heap.size w1 w2) (h : K_Rc g0 g1 g2 g3 a0 a1 a2 a3 u0 u1 u2 u3 p q r bu oo w w1) : K_Rc g0 g1 g2 g3 a0 a1 a2 a3 u0 u1 u2 u3 p q r bu oo w w2 := KL.below hb h
theorem K_Rc.draws {g0 g1 g2 g3 a0 a1 a2 a3 u0 u1 u2 u3 : Int} {p q r bu oo : Nat} {w w1 : World} (n : Nat) (h : K_Rc g0 g1 g2 g3 a0 a1 a2 a3 u0 u1 u2 u3 p q r bu oo w w1) : K_Rc g0 g1 g2 g3 a0 a1 a2 a3 u0 u1 u2 u3 p q r bu oo w (w1.drewN n) := KL.draws n h
theorem K_Rc.drew {g0 g1 g2 g3 a0 a1 a2 a3 u0 u1 u2 u3 : Int} {p q r bu oo : Nat} {w w1 : World} (h : K_Rc g0 g1 g2 g3 a0 a1 a2 a3 u0 u1 u2 u3 p q r bu oo w w1) : K_Rc g0 g1 g2 g3 a0 a1 a2 a3 u0 u1 u2 u3 p q r bu oo w w1.drew := KL.draws 1 h
theorem K_Rc.alloc {g0 g1 g2 g3 a0 a1 a2 a3 u0 u1 u2 u3 : Int} {p q r bu oo : Nat} {w w1 : World} (o : Obj) (h : K_Rc g0 g1 g2 g3 a0 a1 a2 a3 u0 u1 u2 u3 p q r bu oo w w1) : K_Rc g0 g1 g2 g3 a0 a1 a2 a3 u0 u1 u2 u3 p q r bu oo w (w1.alloc o) := KL.alloc o h
theorem K_Rc.set {g0 g1 g2 g3 a0 a1 a2 a3 u0 u1 u2 u3 : Int} {p q r bu oo : Nat} {w w1 : World} (h : K_Rc g0 g1 g2 g3 a0 a1 a2 a3 u0 u1 u2 u3 p q r bu oo w w1) (b i : Nat) (v : Value) (hb : b ≠ q ∧ b ≠ p ∧ b ≠ bu ∧ w.heap.size ≤ b) : K_Rc g0 g1 g2 g3 a0 a1 a2 a3 u0 u1 u2 u3 p q r bu oo w (w1.setCell ⟨b, i, none⟩ v) :=
  KL.set h b i v (by intro x hx; simp only [List.mem_cons, List.not_mem_nil, or_false] at hx; rcases hx with rfl | rfl | rfl | rfl | rfl | rfl | rfl | rfl | rfl | rfl | rfl | rfl <;> simp only [] <;> omega) (by omega)
theorem K_Rc.bel {g0 g1 g2 g3 a0 a1 a2 a3 u0 u1 u2 u3 : Int} {p q r bu oo : Nat} {w w1 : World} (h : K_Rc g0 g1 g2 g3 a0 a1 a2 a3 u0 u1 u2 u3 p q r bu oo w w1) : Below w.heap.size w w1 := KL.bel h
theorem K_Rc.cells {g0 g1 g2 g3 a0 a1 a2 a3 u0 u1 u2 u3 : Int} {p q r bu oo : Nat} {w w' : World} (h : K_Rc g0 g1 g2 g3 a0 a1 a2 a3 u0 u1 u2 u3 p q r bu oo w w') : w'.cell? ⟨q, 0, none⟩ = some (.int .i64 g0) ∧ w'.cell? ⟨q, 1, none⟩ = some (.int .i64 g1) ∧ w'.cell? ⟨q, 2, none⟩ = some (.int .i64 g2) ∧ w'.cell? ⟨q, 3, none⟩ = some (.int .i64 g3) ∧ w'.cell? ⟨p, 0, none⟩ = some (.int .i64 a0) ∧ w'.cell? ⟨p, 1, none⟩ = some (.int .i64 a1) ∧ w'.cell? ⟨p, 2, none⟩ = some (.int .i64 a2) ∧ w'.cell? ⟨p, 3, none⟩ = some (.int .i64 a3) ∧ w'.cell? ⟨bu, oo, none⟩ = some (.int .i64 u0) ∧ w'.cell? ⟨bu, oo + 1, none⟩ = some (.int .i64 u1) ∧ w'.cell? ⟨bu, oo + 2, none⟩ = some (.int .i64 u2) ∧ w'.cell? ⟨bu, oo + 3, none⟩ = some (.int .i64 u3) ∧ w'.frozen? ⟨q, 0, none⟩ = false ∧ w'.frozen? ⟨q, 1, none⟩ = false ∧ w'.frozen? ⟨q, 2, none⟩ = false ∧ w'.frozen? ⟨q, 3, none⟩ = false ∧ w'.cell? ⟨r, 0, none⟩ = some (cv w' r 0) ∧ w'.frozen? ⟨r, 0, none⟩ = false ∧ w'.cell? ⟨r, 1, none⟩ = some (cv w' r 1) ∧ w'.frozen? ⟨r, 1, none⟩ = false ∧ w'.cell? ⟨r, 2, none⟩ = some (cv w' r 2) ∧ w'.frozen? ⟨r, 2, none⟩ = false ∧ w'.cell? ⟨r, 3, none⟩ = some (cv w' r 3) ∧ w'.frozen? ⟨r, 3, none⟩ = false := ⟨h.c (q, 0, .int .i64 g0) (by simp), h.c (q, 1, .int .i64 g1) (by simp), h.c (q, 2, .int .i64 g2) (by simp), h.c (q, 3, .int .i64 g3) (by simp), h.c (p, 0, .int .i64 a0) (by simp), h.c (p, 1, .int .i64 a1) (by simp), h.c (p, 2, .int .i64 a2) (by simp), h.c (p, 3, .int .i64 a3) (by simp), h.c (bu, oo, .int .i64 u0) (by simp), h.c (bu, oo + 1, .int .i64 u1) (by simp), h.c (bu, oo + 2, .int .i64 u2) (by simp), h.c (bu, oo + 3, .int .i64 u3) (by simp), h.f (q, 0) (by simp), h.f (q, 1) (by simp), h.f (q, 2) (by simp), h.f (q, 3) (by simp), h.d (r, 0) (by simp), h.f (r, 0) (by simp), h.d (r, 1) (by simp), h.f (r, 1) (by simp), h.d (r, 2) (by simp), h.f (r, 2) (by simp), h.d (r, 3) (by simp), h.f (r, 3) (by simp)⟩
theorem K_Rc.zs {g0 g1 g2 g3 a0 a1 a2 a3 u0 u1 u2 u3 : Int} {p q r bu oo : Nat} {w w' : World} (h : K_Rc g0 g1 g2 g3 a0 a1 a2 a3 u0 u1 u2 u3 p q r bu oo w w') : q < w'.heap.size ∧ p < w'.heap.size ∧ bu < w'.heap.size ∧ r < w'.heap.size ∧ True := ⟨KL.z h (x := (q, 0, .int .i64 g0)) (by simp), KL.z h (x := (p, 0, .int .i64 a0)) (by simp), KL.z h (x := (bu, oo, .int .i64 u0)) (by simp), KL.zf h (x := (r, 0)) (by simp), trivial⟩
theorem K_Rc.ks {g0 g1 g2 g3 a0 a1 a2 a3 u0 u1 u2 u3 : Int} {p q r bu oo : Nat} {w w' : World} (h : K_Rc g0 g1 g2 g3 a0 a1 a2 a3 u0 u1 u2 u3 p q r bu oo w w') : (w'.cell? ⟨q, 0, none⟩ = some (.int .i64 g0) ∧ w'.cell? ⟨q, 1, none⟩ = some (.int .i64 g1) ∧ w'.cell? ⟨q, 2, none⟩ = some (.int .i64 g2) ∧ w'.cell? ⟨q, 3, none⟩ = some (.int .i64 g3) ∧ w'.cell? ⟨p, 0, none⟩ = some (.int .i64 a0) ∧ w'.cell? ⟨p, 1, none⟩ = some (.int .i64 a1) ∧ w'.cell? ⟨p, 2, none⟩ = some (.int .i64 a2) ∧ w'.cell? ⟨p, 3, none⟩ = some (.int .i64 a3) ∧ w'.cell? ⟨bu, oo, none⟩ = some (.int .i64 u0) ∧ w'.cell? ⟨bu, oo + 1, none⟩ = some (.int .i64 u1) ∧ w'.cell? ⟨bu, oo + 2, none⟩ = some (.int .i64 u2) ∧ w'.cell? ⟨bu, oo + 3, none⟩ = some (.int .i64 u3) ∧ w'.frozen? ⟨q, 0, none⟩ = false ∧ w'.frozen? ⟨q, 1, none⟩ = false ∧ w'.frozen? ⟨q, 2, none⟩ = false ∧ w'.frozen? ⟨q, 3, none⟩ = false ∧ w'.cell? ⟨r, 0, none⟩ = some (cv w' r 0) ∧ w'.frozen? ⟨r, 0, none⟩ = false ∧ w'.cell? ⟨r, 1, none⟩ = some (cv w' r 1) ∧ w'.frozen? ⟨r, 1, none⟩ = false ∧ w'.cell? ⟨r, 2, none⟩ = some (cv w' r 2) ∧ w'.frozen? ⟨r, 2, none⟩ = false ∧ w'.cell? ⟨r, 3, none⟩ = some (cv w' r 3) ∧ w'.frozen? ⟨r, 3, none⟩ = false) ∧ K_Rc g0 g1 g2 g3 a0 a1 a2 a3 u0 u1 u2 u3 p q r bu oo w w' := ⟨h.cells, h⟩
/-- what a walk keeps: cells, and that nothing that was there has turned -/
def K_Rd (y0 y1 y2 y3 g0 g1 g2 g3 a0 a1 a2 a3 u0 u1 u2 u3 : Int) (s p q r bu oo : Nat) (w w' : World) : Prop := KL w [(s, 0, .int .i64 y0), (s, 1, .int .i64 y1), (s, 2, .int .i64 y2), (s, 3, .int .i64 y3), (q, 0, .int .i64 g0), (q, 1, .int .i64 g1), (q, 2, .int .i64 g2), (q, 3, .int .i64 g3), (p, 0, .int .i64 a0), (p, 1, .int .i64 a1), (p, 2, .int .i64 a2), (p, 3, .int .i64 a3), (bu, oo, .int .i64 u0), (bu, oo + 1, .int .i64 u1), (bu, oo + 2, .int .i64 u2), (bu, oo + 3, .int .i64 u3)] [(q, 0), (q, 1), (q, 2), (q, 3), (r, 0), (r, 1), (r, 2), (r, 3)] w'
theorem K_Rd.below {y0 y1 y2 y3 g0 g1 g2 g3 a0 a1 a2 a3 u0 u1 u2 u3 : Int} {s p q r bu oo : Nat} {w w1 w2 : World} (hb : Below w1.heap.size w1 w2) (h : K_Rd y0 y1 y2 y3 g0 g1 g2 g3 a0 a1 a2 a3 u0 u1 u2 u3 s p q r bu oo w w1) : K_Rd y0 y1 y2 y3 g0 g1 g2 g3 a0 a1 a2 a3 u0 u1 u2 u3 s p q r bu oo w w2 := KL.below hb h
theorem K_Rd.draws {y0 y1 y2 y3 g0 g1 g2 g3 a0 a1 a2 a3 u0 u1 u2 u3 : Int} {s p q r bu oo : Nat} {w w1 : World} (n : Nat) (h : K_Rd y0 y1 y2 y3 g0 g1 g2 g3 a0 a1 a2 a3 u0 u1 u2 u3 s p q r bu oo w w1) : K_Rd y0 y1 y2 y3 g0 g1 g2 g3 a0 a1 a2 a3 u0 u1 u2 u3 s p q r bu oo w (w1.drewN n) := KL.draws n h
theorem K_Rd.drew {y0 y1 y2 y3 g0 g1 g2 g3 a0 a1 a2 a3 u0 u1 u2 u3 : Int} {s p q r bu oo : Nat} {w w1 : World} (h : K_Rd y0 y1 y2 y3 g0 g1 g2 g3 a0 a1 a2 a3 u0 u1 u2 u3 s p q r bu oo w w1) : K_Rd y0 y1 y2 y3 g0 g1 g2 g3 a0 a1 a2 a3 u0 u1 u2 u3 s p q r bu oo w w1.drew := KL.draws 1 h
theorem K_Rd.alloc {y0 y1 y2 y3 g0 g1 g2 g3 a0 a1 a2 a3 u0 u1 u2 u3 : Int} {s p q r bu oo : Nat} {w w1 : World} (o : Obj) (h : K_Rd y0 y1 y2 y3 g0 g1 g2 g3 a0 a1 a2 a3 u0 u1 u2 u3 s p q r bu oo w w1) : K_Rd y0 y1 y2 y3 g0 g1 g2 g3 a0 a1 a2 a3 u0 u1 u2 u3 s p q r bu oo w (w1.alloc o) := KL.alloc o h
theorem K_Rd.set {y0 y1 y2 y3 g0 g1 g2 g3 a0 a1 a2 a3 u0 u1 u2 u3 : Int} {s p q r bu oo : Nat} {w w1 : World} (h : K_Rd y0 y1 y2 y3 g0 g1 g2 g3 a0 a1 a2 a3 u0 u1 u2 u3 s p q r bu oo w w1) (b i : Nat) (v : Value) (hb : b ≠ s ∧ b ≠ q ∧ b ≠ p ∧ b ≠ bu ∧ w.heap.size ≤ b) : K_Rd y0 y1 y2 y3 g0 g1 g2 g3 a0 a1 a2 a3 u0 u1 u2 u3 s p q r bu oo w (w1.setCell ⟨b, i, none⟩ v) :=
  KL.set h b i v (by intro x hx; simp only [List.mem_cons, List.not_mem_nil, or_false] at hx; rcases hx with rfl | rfl | rfl | rfl | rfl | rfl | rfl | rfl | rfl | rfl | rfl | rfl | rfl | rfl | rfl | rfl <;> simp only [] <;> omega) (by omega)
theorem K_Rd.bel {y0 y1 y2 y3 g0 g1 g2 g3 a0 a1 a2 a3 u0 u1 u2 u3 : Int} {s p q r bu oo : Nat} {w w1 : World} (h : K_Rd y0 y1 y2 y3 g0 g1 g2 g3 a0 a1 a2 a3 u0 u1 u2 u3 s p q r bu oo w w1) : Below w.heap.size w w1 := KL.bel h
theorem K_Rd.cells {y0 y1 y2 y3 g0 g1 g2 g3 a0 a1 a2 a3 u0 u1 u2 u3 : Int} {s p q r bu oo : Nat} {w w' : World} (h : K_Rd y0 y1 y2 y3 g0 g1 g2 g3 a0 a1 a2 a3 u0 u1 u2 u3 s p q r bu oo w w') : w'.cell? ⟨s, 0, none⟩ = some (.int .i64 y0) ∧ w'.cell? ⟨s, 1, none⟩ = some (.int .i64 y1) ∧ w'.cell? ⟨s, 2, none⟩ = some (.int .i64 y2) ∧ w'.cell? ⟨s, 3, none⟩ = some (.int .i64 y3) ∧ w'.cell? ⟨q, 0, none⟩ = some (.int .i64 g0) ∧ w'.cell? ⟨q, 1, none⟩ = some (.int .i64 g1) ∧ w'.cell? ⟨q, 2, none⟩ = some (.int .i64 g2) ∧ w'.cell? ⟨q, 3, none⟩ = some (.int .i64 g3) ∧ w'.cell? ⟨p, 0, none⟩ = some (.int .i64 a0) ∧ w'.cell? ⟨p, 1, none⟩ = some (.int .i64 a1) ∧ w'.cell? ⟨p, 2, none⟩ = some (.int .i64 a2) ∧ w'.cell? ⟨p, 3, none⟩ = some (.int .i64 a3) ∧ w'.cell? ⟨bu, oo, none⟩ = some (.int .i64 u0) ∧ w'.cell? ⟨bu, oo + 1, none⟩ = some (.int .i64 u1) ∧ w'.cell? ⟨bu, oo + 2, none⟩ = some (.int .i64 u2) ∧ w'.cell? ⟨bu, oo + 3, none⟩ = some (.int .i64 u3) ∧ w'.frozen? ⟨q, 0, none⟩ = false ∧ w'.frozen? ⟨q, 1, none⟩ = false ∧ w'.frozen? ⟨q, 2, none⟩ = false ∧ w'.frozen? ⟨q, 3, none⟩ = false ∧ w'.cell? ⟨r, 0, none⟩ = some (cv w' r 0) ∧ w'.frozen? ⟨r, 0, none⟩ = false ∧ w'.cell? ⟨r, 1, none⟩ = some (cv w' r 1) ∧ w'.frozen? ⟨r, 1, none⟩ = false ∧ w'.cell? ⟨r, 2, none⟩ = some (cv w' r 2) ∧ w'.frozen? ⟨r, 2, none⟩ = false ∧ w'.cell? ⟨r, 3, none⟩ = some (cv w' r 3) ∧ w'.frozen? ⟨r, 3, none⟩ = false := ⟨h.c (s, 0, .int .i64 y0) (by simp), h.c (s, 1, .int .i64 y1) (by simp), h.c (s, 2, .int .i64 y2) (by simp), h.c (s, 3, .int .i64 y3) (by simp), h.c (q, 0, .int .i64 g0) (by simp), h.c (q, 1, .int .i64 g1) (by simp), h.c (q, 2, .int .i64 g2) (by simp), h.c (q, 3, .int .i64 g3) (by simp), h.c (p, 0, .int .i64 a0) (by simp), h.c (p, 1, .int .i64 a1) (by simp), h.c (p, 2, .int .i64 a2) (by simp), h.c (p, 3, .int .i64 a3) (by simp), h.c (bu, oo, .int .i64 u0) (by simp), h.c (bu, oo + 1, .int .i64 u1) (by simp), h.c (bu, oo + 2, .int .i64 u2) (by simp), h.c (bu, oo + 3, .int .i64 u3) (by simp), h.f (q, 0) (by simp), h.f (q, 1) (by simp), h.f (q, 2) (by simp), h.f (q, 3) (by simp), h.d (r, 0) (by simp), h.f (r, 0) (by simp), h.d (r, 1) (by simp), h.f (r, 1) (by simp), h.d (r, 2) (by simp), h.f (r, 2) (by simp), h.d (r, 3) (by simp), h.f (r, 3) (by simp)⟩
theorem K_Rd.zs {y0 y1 y2 y3 g0 g1 g2 g3 a0 a1 a2 a3 u0 u1 u2 u3 : Int} {s p q r bu oo : Nat} {w w' : World} (h : K_Rd y0 y1 y2 y3 g0 g1 g2 g3 a0 a1 a2 a3 u0 u1 u2 u3 s p q r bu oo w w') : s < w'.heap.size ∧ q < w'.heap.size ∧ p < w'.heap.size ∧ bu < w'.heap.size ∧ r < w'.heap.size ∧ True := ⟨KL.z h (x := (s, 0, .int .i64 y0)) (by simp), KL.z h (x := (q, 0, .int .i64 g0)) (by simp), KL.z h (x := (p, 0, .int .i64 a0)) (by simp), KL.z h (x := (bu, oo, .int .i64 u0)) (by simp), KL.zf h (x := (r, 0)) (by simp), trivial⟩
theorem K_Rd.ks {y0 y1 y2 y3 g0 g1 g2 g3 a0 a1 a2 a3 u0 u1 u2 u3 : Int} {s p q r bu oo : Nat} {w w' : World} (h : K_Rd y0 y1 y2 y3 g0 g1 g2 g3 a0 a1 a2 a3 u0 u1 u2 u3 s p q r bu oo w w') : (w'.cell? ⟨s, 0, none⟩ = some (.int .i64 y0) ∧ w'.cell? ⟨s, 1, none⟩ = some (.int .i64 y1) ∧ w'.cell? ⟨s, 2, none⟩ = some (.int .i64 y2) ∧ w'.cell? ⟨s, 3, none⟩ = some (.int .i64 y3) ∧ w'.cell? ⟨q, 0, none⟩ = some (.int .i64 g0) ∧ w'.cell? ⟨q, 1, none⟩ = some (.int .i64 g1) ∧ w'.cell? ⟨q, 2, none⟩ = some (.int .i64 g2) ∧ w'.cell? ⟨q, 3, none⟩ = some (.int .i64 g3) ∧ w'.cell? ⟨p, 0, none⟩ = some (.int .i64 a0) ∧ w'.cell? ⟨p, 1, none⟩ = some (.int .i64 a1) ∧ w'.cell? ⟨p, 2, none⟩ = some (.int .i64 a2) ∧ w'.cell? ⟨p, 3, none⟩ = some (.int .i64 a3) ∧ w'.cell? ⟨bu, oo, none⟩ = some (.int .i64 u0) ∧ w'.cell? ⟨bu, oo + 1, none⟩ = some (.int .i64 u1) ∧ w'.cell? ⟨bu, oo + 2, none⟩ = some (.int .i64 u2) ∧ w'.cell? ⟨bu, oo + 3, none⟩ = some (.int .i64 u3) ∧ w'.frozen? ⟨q, 0, none⟩ = false ∧ w'.frozen? ⟨q, 1, none⟩ = false ∧ w'.frozen? ⟨q, 2, none⟩ = false ∧ w'.frozen? ⟨q, 3, none⟩ = false ∧ w'.cell? ⟨r, 0, none⟩ = some (cv w' r 0) ∧ w'.frozen? ⟨r, 0, none⟩ = false ∧ w'.cell? ⟨r, 1, none⟩ = some (cv w' r 1) ∧ w'.frozen? ⟨r, 1, none⟩ = false ∧ w'.cell? ⟨r, 2, none⟩ = some (cv w' r 2) ∧ w'.frozen? ⟨r, 2, none⟩ = false ∧ w'.cell? ⟨r, 3, none⟩ = some (cv w' r 3) ∧ w'.frozen? ⟨r, 3, none⟩ = false) ∧ K_Rd y0 y1 y2 y3 g0 g1 g2 g3 a0 a1 a2 a3 u0 u1 u2 u3 s p q r bu oo w w' := ⟨h.cells, h⟩
set_option maxHeartbeats 12800000 in
theorem rCanonical_any (x : H) (w : World) (hx : HB 100000000 x) :
    Calls Try.prog 24 #[.agg #[.int .i64 (x).w, .int .i64 (x).x, .int .i64 (x).y, .int .i64 (x).z]] w fun e w' => e = .returned (.agg #[.int .i64 (can x).w, .int .i64 (can x).x, .int .i64 (can x).y, .int .i64 (can x).z]) ∧ Below w.heap.size w w' := by
  have BY := Lib.hid (fun u W h => rTimes_h x u W hx h)
  have HU := Lib.hid U24_hb
  unfold can
  obtain ⟨L, hL⟩ : ∃ L, U24 = L := ⟨_, rfl⟩
  have UN := Lib.hid (fun W => rUnits_any W)
  rw [hL] at HU UN ⊢
  clear hL
  have GE := Lib.hid (fun (i : Nat) (u : H) (h : L[i]? = some u) => show gre x (L.take (i + 1)) = gst x (gre x (L.take i)) u by rw [take_snoc h, gre_snoc])
  have G0 : Hid (gre x (L.take 0) = x) := Lib.hid rfl
  have GN : Hid (gre x (L.take L.length) = gre x L) := Lib.hid (by rw [List.take_length])
  clear hx
  obtain ⟨a0, a1, a2, a3⟩ := x
  simp only []
  go_enter Try.func24, Try.ntmps24
  go_wp2_with fail
  refine (UN.out _).mono ?_
  rintro e w2 ⟨v, rfl, hown, hb⟩
  have hK : K_Gr a0 a1 a2 a3 a0 a1 a2 a3 w.heap.size (w.heap.size + 2) (w.heap.size + 1) w w2 := K_Gr.below hb ⟨by simp [go_sem], by simp [go_sem], by simp [go_sem], by (repeat (first | (with_reducible exact Below.refl _ _) | (with_reducible exact HB.out) | (with_reducible refine below_draws ?_ _) | (with_reducible refine Below.alloc ?_ (by go_size) _) | (with_reducible refine Below.setCell ?_ (by go_size) _) | (with_reducible refine Below.alloc ?_ (by simp <;> omega) _) | (with_reducible refine Below.setCell ?_ (by simp <;> omega) _)))⟩
  obtain ⟨Aa, c, rfl, hLH, hc, hlc⟩ := LH.of hown
  obtain ⟨B, hB, hBB⟩ : ∃ B, LH 31 B w2 Aa c L ∧ w.heap.size + 2 < B := ⟨_, hLH, by simp⟩
  have HL := Lib.hid hB
  have HK := Lib.hid hK
  clear hb hown hK hLH hB
  go_wp2_with fail
  go_loopw [5] (fun t5 wr => ∃ i : Nat, (i ≤ L.length ∧ ∃ g : H, Hid (gre ⟨a0, a1, a2, a3⟩ (L.take i) = g) ∧ K_Gr a0 a1 a2 a3 g.w g.x g.y g.z w.heap.size (w.heap.size + 2) (w.heap.size + 1) w wr ∧ LH 31 B wr Aa c L) ∧ t5 = .int .i64 i) (fun t5 _ => L.length - (intOf t5).toNat)
  case atStart => exact ⟨0, ⟨Nat.zero_le _, _, G0, HK.out, HL.out⟩, rfl⟩
  case round =>
    clear HK HL
    obtain ⟨i, ⟨hi, g, HG, hK, hL⟩, rfl⟩ := hrel
    obtain ⟨wo, rfl⟩ : ∃ wo : World, wo = wr := ⟨_, rfl⟩
    obtain ⟨g0, g1, g2, g3⟩ := g
    simp only [] at hK
    have HL := Lib.hid hL
    by_cases hlt : i < L.length
    · have hq : L[i]? = some L[i] := List.getElem?_eq_getElem hlt
      have hm := HU.out L[i] (List.getElem_mem hlt)
      obtain ⟨b, rfl, ⟨e0, e1, e2, e3⟩, gb, gz⟩ := LH.at_ hL hq
      have GX := Lib.hid (GE.out i L[i] hq)
      generalize L[i] = u at *
      have BU := Lib.hid (fun W => BY.out u W hm)
      clear hm hq hL
      obtain ⟨y, hy⟩ : ∃ y, by_ ⟨a0, a1, a2, a3⟩ u = y := ⟨_, rfl⟩
      have HY := Lib.hid hy
      rw [hy] at BU
      clear hy
      obtain ⟨u0, u1, u2, u3⟩ := u
      obtain ⟨y0, y1, y2, y3⟩ := y
      simp only [] at e0 e1 e2 e3 BU
      have hk : K_Rc g0 g1 g2 g3 a0 a1 a2 a3 u0 u1 u2 u3 w.heap.size (w.heap.size + 2) (w.heap.size + 1) b (i * 4) wo wo := by
        refine ⟨fun x hx => ?_, hK.g, hK.f, Below.refl _ _⟩
        simp only [List.mem_cons, List.not_mem_nil, or_false] at hx
        rcases hx with rfl | rfl | rfl | rfl | rfl | rfl | rfl | rfl | rfl | rfl | rfl | rfl
        · exact hK.c _ (by simp)
        · exact hK.c _ (by simp)
        · exact hK.c _ (by simp)
        · exact hK.c _ (by simp)
        · exact hK.c _ (by simp)
        · exact hK.c _ (by simp)
        · exact hK.c _ (by simp)
        · exact hK.c _ (by simp)
        · exact e0
        · exact e1
        · exact e2
        · exact e3
      clear e0 e1 e2 e3
      have hz : KL wo [] [] wo := KL.sub hk (by simp) (by simp)
      obtain ⟨y0_, y1_, y2_, y3_, -⟩ := K_Rc.zs hk
      have HKK := Lib.hid (K_Gr.bel hK)
      clear hK
      go_wp2_with fail
      refine merge_rest1 (K := fun s w9 => K_Rd y0 y1 y2 y3 g0 g1 g2 g3 a0 a1 a2 a3 u0 u1 u2 u3 s w.heap.size (w.heap.size + 2) (w.heap.size + 1) b (i * 4) wo w9) ?G ?main ?rest
      case main =>
        intro REST
        go_region_held3 (fun w' => (w'.cell? ⟨(w.heap.size + 2), 0, none⟩ = some (.int .i64 g0) ∧ w'.cell? ⟨(w.heap.size + 2), 1, none⟩ = some (.int .i64 g1) ∧ w'.cell? ⟨(w.heap.size + 2), 2, none⟩ = some (.int .i64 g2) ∧ w'.cell? ⟨(w.heap.size + 2), 3, none⟩ = some (.int .i64 g3) ∧ w'.cell? ⟨w.heap.size, 0, none⟩ = some (.int .i64 a0) ∧ w'.cell? ⟨w.heap.size, 1, none⟩ = some (.int .i64 a1) ∧ w'.cell? ⟨w.heap.size, 2, none⟩ = some (.int .i64 a2) ∧ w'.cell? ⟨w.heap.size, 3, none⟩ = some (.int .i64 a3) ∧ w'.cell? ⟨b, (i * 4), none⟩ = some (.int .i64 u0) ∧ w'.cell? ⟨b, (i * 4) + 1, none⟩ = some (.int .i64 u1) ∧ w'.cell? ⟨b, (i * 4) + 2, none⟩ = some (.int .i64 u2) ∧ w'.cell? ⟨b, (i * 4) + 3, none⟩ = some (.int .i64 u3) ∧ w'.frozen? ⟨(w.heap.size + 2), 0, none⟩ = false ∧ w'.frozen? ⟨(w.heap.size + 2), 1, none⟩ = false ∧ w'.frozen? ⟨(w.heap.size + 2), 2, none⟩ = false ∧ w'.frozen? ⟨(w.heap.size + 2), 3, none⟩ = false ∧ w'.cell? ⟨(w.heap.size + 1), 0, none⟩ = some (cv w' ((w.heap.size + 1)) 0) ∧ w'.frozen? ⟨(w.heap.size + 1), 0, none⟩ = false ∧ w'.cell? ⟨(w.heap.size + 1), 1, none⟩ = some (cv w' ((w.heap.size + 1)) 1) ∧ w'.frozen? ⟨(w.heap.size + 1), 1, none⟩ = false ∧ w'.cell? ⟨(w.heap.size + 1), 2, none⟩ = some (cv w' ((w.heap.size + 1)) 2) ∧ w'.frozen? ⟨(w.heap.size + 1), 2, none⟩ = false ∧ w'.cell? ⟨(w.heap.size + 1), 3, none⟩ = some (cv w' ((w.heap.size + 1)) 3) ∧ w'.frozen? ⟨(w.heap.size + 1), 3, none⟩ = false) ∧ K_Rc g0 g1 g2 g3 a0 a1 a2 a3 u0 u1 u2 u3 w.heap.size (w.heap.size + 2) (w.heap.size + 1) b (i * 4) wo w') ((refine K_Rc.ks ?_; repeat (first | (with_reducible assumption) | (with_reducible refine K_Rc.draws _ ?_) | (with_reducible refine K_Rc.drew ?_) | (with_reducible refine K_Rc.alloc _ ?_) | (with_reducible refine K_Rc.set ?_ _ _ _ (by omega)))))
          (first
            | (go_at_call 33; (with_reducible refine (BU.out _).mono ?_); rintro e w' ⟨rfl, hbel⟩; have hk' := K_Rc.below hbel (And.right (by assumption)); obtain ⟨z0_, z1_, z2_, z3_, -⟩ := K_Rc.zs hk'; (first
                | (have hz := KL.below hbel (KL.push4w hz 0 0 0 0 _ _ rfl); have hq : K_Qz 0 0 0 0 _ wo w' := hz; obtain ⟨c0_, c1_, c2_, c3_, f0_, f1_, f2_, f3_⟩ := K_Qz.cells hq; obtain ⟨v0_, -⟩ := K_Qz.zs hq)
                | (have hz := KL.below hbel (KL.draws 1 (KL.push4w hz 0 0 0 0 _ _ rfl)); have hq : K_Qz 0 0 0 0 _ wo w' := hz; obtain ⟨c0_, c1_, c2_, c3_, f0_, f1_, f2_, f3_⟩ := K_Qz.cells hq; obtain ⟨v0_, -⟩ := K_Qz.zs hq)
                | skip)))
        · rename_i hh
          clear hh
          have hK : K_Rd y0 y1 y2 y3 g0 g1 g2 g3 a0 a1 a2 a3 u0 u1 u2 u3 w'.heap.size w.heap.size (w.heap.size + 2) (w.heap.size + 1) b (i * 4) wo (w'.alloc (.cells #[.int .i64 y0, .int .i64 y1, .int .i64 y2, .int .i64 y3] 31)) := KL.push4 hk' y0 y1 y2 y3 _ _ rfl
          generalize (w'.alloc (.cells #[.int .i64 y0, .int .i64 y1, .int .i64 y2, .int .i64 y3] 31)) = w9 at hK ⊢
          generalize w'.heap.size = p at hK ⊢
          exact REST.out _ _ hK
        all_goals
          rename_i hh
          exact REST.out wo.heap.size _ (KL.cons4h hh.2 _ y0 y1 y2 y3 (by simp [go_sem, c0_, c1_, c2_, c3_, f0_, f1_, f2_, f3_]))
      case rest =>
        intro s w9 hKd
        have hL9 := LH.next HL.out (K_Rd.bel hKd)
        have hb9 := HKK.out.trans ((K_Rd.bel hKd).mono HKK.out.size)
        have hK9 : K_Gy y0 y1 y2 y3 a0 a1 a2 a3 g0 g1 g2 g3 s w.heap.size (w.heap.size + 2) (w.heap.size + 1) w w9 := by
          refine ⟨fun x hx => hKd.c x ?_, hKd.g, hKd.f, hb9⟩
          simp only [List.mem_cons, List.not_mem_nil, or_false] at hx ⊢
          grind
        clear hKd hk hz
        have HL9 := Lib.hid hL9
        have hK := hK9
        clear hK9 hL9 hb9
        obtain ⟨c0_, c1_, c2_, c3_, c4_, c5_, c6_, c7_, c8_, c9_, c10_, c11_, f0_, f1_, f2_, f3_, d4_, f4_, d5_, f5_, d6_, f6_, d7_, f7_⟩ := K_Gy.cells hK; obtain ⟨z0_, z1_, z2_, z3_, -⟩ := K_Gy.zs hK; have HK := Lib.hid hK; clear hK
        go_wp2_with fail
        refine (rGreater_h ⟨y0, y1, y2, y3⟩ ⟨g0, g1, g2, g3⟩ _).mono ?_
        rintro e w3 ⟨rfl, hb⟩
        clear c0_ c1_ c2_ c3_ c4_ c5_ c6_ c7_ c8_ c9_ c10_ c11_ f0_ f1_ f2_ f3_ d4_ f4_ d5_ f5_ d6_ f6_ d7_ f7_ z0_ z1_ z2_ z3_
        have hL3 := Lib.hid (LH.next HL9.out hb)
        have hK := K_Gy.below hb HK.out
        clear hb HK
        have GB := Lib.hid (show gre ⟨a0, a1, a2, a3⟩ (L.take (i + 1)) = if gtB ⟨y0, y1, y2, y3⟩ ⟨g0, g1, g2, g3⟩ then ⟨y0, y1, y2, y3⟩ else ⟨g0, g1, g2, g3⟩ by rw [GX.out, HG.out]; unfold gst; rw [HY.out])
        have HS : Hid (K_Gr a0 a1 a2 a3 g0 g1 g2 g3 w.heap.size (w.heap.size + 2) (w.heap.size + 1) w w3) := Lib.hid (KL.sub hK (fun x hx => by simp only [List.mem_cons] at hx ⊢; grind) (fun x hx => hx))
        rcases hg : gtB ⟨y0, y1, y2, y3⟩ ⟨g0, g1, g2, g3⟩ with _ | _
        · have HGG := Lib.hid hg
          clear hg
          obtain ⟨c0_, c1_, c2_, c3_, c4_, c5_, c6_, c7_, c8_, c9_, c10_, c11_, f0_, f1_, f2_, f3_, d4_, f4_, d5_, f5_, d6_, f6_, d7_, f7_⟩ := K_Gy.cells hK; obtain ⟨z0_, z1_, z2_, z3_, -⟩ := K_Gy.zs hK; have HK := Lib.hid hK; clear hK
          go_wp2
          go_roundw
          case rel => exact ⟨i + 1, ⟨by omega, ⟨g0, g1, g2, g3⟩, Lib.hid (by rw [GB.out, HGG.out]; rfl), HS.out, hL3.out⟩, by go_num⟩
          case measure => simp [intOf]; omega
        · have HGG := Lib.hid hg
          clear hg
          obtain ⟨c0_, c1_, c2_, c3_, c4_, c5_, c6_, c7_, c8_, c9_, c10_, c11_, f0_, f1_, f2_, f3_, d4_, f4_, d5_, f5_, d6_, f6_, d7_, f7_⟩ := K_Gy.cells hK; obtain ⟨z0_, z1_, z2_, z3_, -⟩ := K_Gy.zs hK; have HK := Lib.hid hK; clear hK
          go_wp2
          go_roundw
          case rel => exact ⟨i + 1, ⟨by omega, ⟨y0, y1, y2, y3⟩, Lib.hid (by rw [GB.out, HGG.out]; rfl), KL.put4 HS.out (by intro x hx; simp only [List.mem_cons, List.not_mem_nil, or_false] at hx; rcases hx with rfl | rfl | rfl | rfl <;> simp) (by omega), LH.set (LH.set (LH.set (LH.set hL3.out hBB _ _) hBB _ _) hBB _ _) hBB _ _⟩, by go_num⟩
          case measure => simp [intOf]; omega
    · have hk : i = L.length := by omega
      have HE := Lib.hid hk
      clear hk hL
      obtain ⟨c0_, c1_, c2_, c3_, c4_, c5_, c6_, c7_, f0_, f1_, f2_, f3_, d4_, f4_, d5_, f5_, d6_, f6_, d7_, f7_⟩ := K_Gr.cells hK; obtain ⟨z0_, z1_, z2_, -⟩ := K_Gr.zs hK; have HK := Lib.hid hK; clear hK
      have HB := Lib.hid (K_Gr.bel HK.out)
      go_wp2
      exact bodyPost_ret (v := .agg #[.int .i64 g0, .int .i64 g1, .int .i64 g2, .int .i64 g3]) (by simp [results, Try.results24, go_sem, c0_, c1_, c2_, c3_, c4_, c5_, c6_, c7_, f0_, f1_, f2_, f3_, d4_, f4_, d5_, f5_, d6_, f6_, d7_, f7_]) rfl ⟨by rw [← GN.out, ← HE.out, HG.out], by (repeat (first | (with_reducible exact Below.refl _ _) | (with_reducible exact HB.out) | (with_reducible refine below_draws ?_ _) | (with_reducible refine Below.alloc ?_ (by go_size) _) | (with_reducible refine Below.setCell ?_ (by go_size) _) | (with_reducible refine Below.alloc ?_ (by simp <;> omega) _) | (with_reducible refine Below.setCell ?_ (by simp <;> omega) _)))⟩
end Go.Proofs.Yteiflfmpkfhkoaa.Rt
