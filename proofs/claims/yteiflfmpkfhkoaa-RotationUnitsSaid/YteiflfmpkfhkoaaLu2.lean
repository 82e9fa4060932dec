/-
  THE WALK OF A LAW: units and products (RotationUnits).
-/
import Derived.Test.YteiflfmpkfhkoaaMgRu
import Derived.Test.YteiflfmpkfhkoaaLu1
import Derived.Test.YteiflfmpkfhkoaaRtU
import Derived.Test.YteiflfmpkfhkoaaHwx
import Derived.Test.YteiflfmpkfhkoaaRtW
namespace Go.Proofs.Yteiflfmpkfhkoaa.Rt
open Go.RowKit
open Alm Hwm Al
set_option linter.unusedVariables false
set_option linter.unusedSimpArgs false
set_option maxRecDepth 100000
theorem RQ.next {w w' : World} {A : Option Addr} {L : List Q} (h : RQ w A L) (hb : Below w.heap.size w w') : RQ w' A L := by
  intro j q hj
  obtain ⟨b, hA, h0, h1, h2, h3, h4⟩ := h j q hj
  have k : ∀ {i v}, w.cell? ⟨b, i, none⟩ = some v → w'.cell? ⟨b, i, none⟩ = some v := fun {i v} e => (hb.cell (p := ⟨b, i, none⟩) (World.block_lt_of_cell? w _ e)).trans e
  exact ⟨b, hA, k h0, k h1, k h2, k h3, k h4⟩
theorem U24_rb : ∀ x ∈ U24, par x ∧ HB 1000000000000000000 x := fun x hx => ⟨U24_par hx, by obtain ⟨h0, h1, h2, h3⟩ := U24_hb x hx; exact ⟨by omega, by omega, by omega, by omega⟩⟩
theorem U24_len : U24.length ≤ 100000 := by decide +kernel
theorem rQuats_U (B : Nat) (A : Option Addr) (c : Nat) (w : World) (hL : LH 31 B w A c U24) (hc : c ≤ 9223372036854775807) (hlc : U24.length ≤ c) :
    Calls Try.prog 30 #[.slice A U24.length c] w fun e w' => ∃ A' c', e = .returned (.slice A' (U24.map toQ).length c') ∧ RQ w' A' (U24.map toQ) ∧ c' ≤ 9223372036854775807 ∧ (U24.map toQ).length ≤ c' ∧ Below w.heap.size w w' := by
  refine (Quats_any U24 B A c w hL U24_rb U24_len hc hlc).mono ?_
  rintro e w' ⟨v, rfl, hown, hb⟩
  obtain ⟨A', c', rfl, hq, hc, hl⟩ := RQ.of hown
  exact ⟨A', c', rfl, hq, hc, hl, hb⟩
theorem Units_rq (w : World) :
    Calls Try.prog 29 #[] w fun e w' => ∃ A' c', e = .returned (.slice A' (U24.map toQ).length c') ∧ RQ w' A' (U24.map toQ) ∧ c' ≤ 9223372036854775807 ∧ (U24.map toQ).length ≤ c' ∧ Below w.heap.size w w' := by
  refine (Units_any w).mono ?_
  rintro e w' ⟨v, rfl, hown, hb⟩
  obtain ⟨A', c', rfl, hq, hc, hl⟩ := RQ.of hown
  exact ⟨A', c', rfl, hq, hc, hl, hb⟩
theorem UQ_len : (U24.map toQ).length ≤ 100000 := by rw [List.length_map]; exact U24_len
/-- what a walk keeps: cells, and that nothing that was there has turned -/
def K_Ua (n0 n1 n2 n3 d m0 m1 m2 m3 f : Int) (p q : Nat) (w w' : World) : Prop := KL w [(p, 0, .int .i64 n0), (p, 1, .int .i64 n1), (p, 2, .int .i64 n2), (p, 3, .int .i64 n3), (p, 4, .int .i64 d), (q, 0, .int .i64 m0), (q, 1, .int .i64 m1), (q, 2, .int .i64 m2), (q, 3, .int .i64 m3), (q, 4, .int .i64 f)] [] w'
theorem K_Ua.below {n0 n1 n2 n3 d m0 m1 m2 m3 f : Int} {p q : Nat} {w w1 w2 : World} (hb : Below w1.heap.size w1 w2) (h : K_Ua n0 n1 n2 n3 d m0 m1 m2 m3 f p q w w1) : K_Ua n0 n1 n2 n3 d m0 m1 m2 m3 f p q w w2 := KL.below hb h
theorem K_Ua.draws {n0 n1 n2 n3 d m0 m1 m2 m3 f : Int} {p q : Nat} {w w1 : World} (n : Nat) (h : K_Ua n0 n1 n2 n3 d m0 m1 m2 m3 f p q w w1) : K_Ua n0 n1 n2 n3 d m0 m1 m2 m3 f p q w (w1.drewN n) := KL.draws n h
theorem K_Ua.drew {n0 n1 n2 n3 d m0 m1 m2 m3 f : Int} {p q : Nat} {w w1 : World} (h : K_Ua n0 n1 n2 n3 d m0 m1 m2 m3 f p q w w1) : K_Ua n0 n1 n2 n3 d m0 m1 m2 m3 f p q w w1.drew := KL.draws 1 h
theorem K_Ua.alloc {n0 n1 n2 n3 d m0 m1 m2 m3 f : Int} {p q : Nat} {w w1 : World} (o : Obj) (h : K_Ua n0 n1 n2 n3 d m0 m1 m2 m3 f p q w w1) : K_Ua n0 n1 n2 n3 d m0 m1 m2 m3 f p q w (w1.alloc o) := KL.alloc o h
theorem K_Ua.set {n0 n1 n2 n3 d m0 m1 m2 m3 f : Int} {p q : Nat} {w w1 : World} (h : K_Ua n0 n1 n2 n3 d m0 m1 m2 m3 f p q w w1) (b i : Nat) (v : Value) (hb : b ≠ p ∧ b ≠ q ∧ w.heap.size ≤ b) : K_Ua n0 n1 n2 n3 d m0 m1 m2 m3 f p q w (w1.setCell ⟨b, i, none⟩ v) :=
  KL.set h b i v (by intro x hx; simp only [List.mem_cons, List.not_mem_nil, or_false] at hx; rcases hx with rfl | rfl | rfl | rfl | rfl | rfl | rfl | rfl | rfl | rfl <;> simp only [] <;> omega) (by omega)
theorem K_Ua.bel {n0 n1 n2 n3 d m0 m1 m2 m3 f : Int} {p q : Nat} {w w1 : World} (h : K_Ua n0 n1 n2 n3 d m0 m1 m2 m3 f p q w w1) : Below w.heap.size w w1 := KL.bel h
theorem K_Ua.cells {n0 n1 n2 n3 d m0 m1 m2 m3 f : Int} {p q : Nat} {w w' : World} (h : K_Ua n0 n1 n2 n3 d m0 m1 m2 m3 f p q w w') : w'.cell? ⟨p, 0, none⟩ = some (.int .i64 n0) ∧ w'.cell? ⟨p, 1, none⟩ = some (.int .i64 n1) ∧ w'.cell? ⟨p, 2, none⟩ = some (.int .i64 n2) ∧ w'.cell? ⟨p, 3, none⟩ = some (.int .i64 n3) ∧ w'.cell? ⟨p, 4, none⟩ = some (.int .i64 d) ∧ w'.cell? ⟨q, 0, none⟩ = some (.int .i64 m0) ∧ w'.cell? ⟨q, 1, none⟩ = some (.int .i64 m1) ∧ w'.cell? ⟨q, 2, none⟩ = some (.int .i64 m2) ∧ w'.cell? ⟨q, 3, none⟩ = some (.int .i64 m3) ∧ w'.cell? ⟨q, 4, none⟩ = some (.int .i64 f) := ⟨h.c (p, 0, .int .i64 n0) (by simp), h.c (p, 1, .int .i64 n1) (by simp), h.c (p, 2, .int .i64 n2) (by simp), h.c (p, 3, .int .i64 n3) (by simp), h.c (p, 4, .int .i64 d) (by simp), h.c (q, 0, .int .i64 m0) (by simp), h.c (q, 1, .int .i64 m1) (by simp), h.c (q, 2, .int .i64 m2) (by simp), h.c (q, 3, .int .i64 m3) (by simp), h.c (q, 4, .int .i64 f) (by simp)⟩
theorem K_Ua.zs {n0 n1 n2 n3 d m0 m1 m2 m3 f : Int} {p q : Nat} {w w' : World} (h : K_Ua n0 n1 n2 n3 d m0 m1 m2 m3 f p q w w') : p < w'.heap.size ∧ q < w'.heap.size ∧ True := ⟨KL.z h (x := (p, 0, .int .i64 n0)) (by simp), KL.z h (x := (q, 0, .int .i64 m0)) (by simp), trivial⟩
theorem K_Ua.ks {n0 n1 n2 n3 d m0 m1 m2 m3 f : Int} {p q : Nat} {w w' : World} (h : K_Ua n0 n1 n2 n3 d m0 m1 m2 m3 f p q w w') : (w'.cell? ⟨p, 0, none⟩ = some (.int .i64 n0) ∧ w'.cell? ⟨p, 1, none⟩ = some (.int .i64 n1) ∧ w'.cell? ⟨p, 2, none⟩ = some (.int .i64 n2) ∧ w'.cell? ⟨p, 3, none⟩ = some (.int .i64 n3) ∧ w'.cell? ⟨p, 4, none⟩ = some (.int .i64 d) ∧ w'.cell? ⟨q, 0, none⟩ = some (.int .i64 m0) ∧ w'.cell? ⟨q, 1, none⟩ = some (.int .i64 m1) ∧ w'.cell? ⟨q, 2, none⟩ = some (.int .i64 m2) ∧ w'.cell? ⟨q, 3, none⟩ = some (.int .i64 m3) ∧ w'.cell? ⟨q, 4, none⟩ = some (.int .i64 f)) ∧ K_Ua n0 n1 n2 n3 d m0 m1 m2 m3 f p q w w' := ⟨h.cells, h⟩
/-- what a walk keeps: cells, and that nothing that was there has turned -/
def K_Ub (r0 r1 r2 r3 r4 n0 n1 n2 n3 d m0 m1 m2 m3 f : Int) (s p q : Nat) (w w' : World) : Prop := KL w [(s, 0, .int .i64 r0), (s, 1, .int .i64 r1), (s, 2, .int .i64 r2), (s, 3, .int .i64 r3), (s, 4, .int .i64 r4), (p, 0, .int .i64 n0), (p, 1, .int .i64 n1), (p, 2, .int .i64 n2), (p, 3, .int .i64 n3), (p, 4, .int .i64 d), (q, 0, .int .i64 m0), (q, 1, .int .i64 m1), (q, 2, .int .i64 m2), (q, 3, .int .i64 m3), (q, 4, .int .i64 f)] [] w'
theorem K_Ub.below {r0 r1 r2 r3 r4 n0 n1 n2 n3 d m0 m1 m2 m3 f : Int} {s p q : Nat} {w w1 w2 : World} (hb : Below w1.heap.size w1 w2) (h : K_Ub r0 r1 r2 r3 r4 n0 n1 n2 n3 d m0 m1 m2 m3 f s p q w w1) : K_Ub r0 r1 r2 r3 r4 n0 n1 n2 n3 d m0 m1 m2 m3 f s p q w w2 := KL.below hb h
theorem K_Ub.draws {r0 r1 r2 r3 r4 n0 n1 n2 n3 d m0 m1 m2 m3 f : Int} {s p q : Nat} {w w1 : World} (n : Nat) (h : K_Ub r0 r1 r2 r3 r4 n0 n1 n2 n3 d m0 m1 m2 m3 f s p q w w1) : K_Ub r0 r1 r2 r3 r4 n0 n1 n2 n3 d m0 m1 m2 m3 f s p q w (w1.drewN n) := KL.draws n h
theorem K_Ub.drew {r0 r1 r2 r3 r4 n0 n1 n2 n3 d m0 m1 m2 m3 f : Int} {s p q : Nat} {w w1 : World} (h : K_Ub r0 r1 r2 r3 r4 n0 n1 n2 n3 d m0 m1 m2 m3 f s p q w w1) : K_Ub r0 r1 r2 r3 r4 n0 n1 n2 n3 d m0 m1 m2 m3 f s p q w w1.drew := KL.draws 1 h
theorem K_Ub.alloc {r0 r1 r2 r3 r4 n0 n1 n2 n3 d m0 m1 m2 m3 f : Int} {s p q : Nat} {w w1 : World} (o : Obj) (h : K_Ub r0 r1 r2 r3 r4 n0 n1 n2 n3 d m0 m1 m2 m3 f s p q w w1) : K_Ub r0 r1 r2 r3 r4 n0 n1 n2 n3 d m0 m1 m2 m3 f s p q w (w1.alloc o) := KL.alloc o h
theorem K_Ub.set {r0 r1 r2 r3 r4 n0 n1 n2 n3 d m0 m1 m2 m3 f : Int} {s p q : Nat} {w w1 : World} (h : K_Ub r0 r1 r2 r3 r4 n0 n1 n2 n3 d m0 m1 m2 m3 f s p q w w1) (b i : Nat) (v : Value) (hb : b ≠ s ∧ b ≠ p ∧ b ≠ q ∧ w.heap.size ≤ b) : K_Ub r0 r1 r2 r3 r4 n0 n1 n2 n3 d m0 m1 m2 m3 f s p q w (w1.setCell ⟨b, i, none⟩ v) :=
  KL.set h b i v (by intro x hx; simp only [List.mem_cons, List.not_mem_nil, or_false] at hx; rcases hx with rfl | rfl | rfl | rfl | rfl | rfl | rfl | rfl | rfl | rfl | rfl | rfl | rfl | rfl | rfl <;> simp only [] <;> omega) (by omega)
theorem K_Ub.bel {r0 r1 r2 r3 r4 n0 n1 n2 n3 d m0 m1 m2 m3 f : Int} {s p q : Nat} {w w1 : World} (h : K_Ub r0 r1 r2 r3 r4 n0 n1 n2 n3 d m0 m1 m2 m3 f s p q w w1) : Below w.heap.size w w1 := KL.bel h
theorem K_Ub.cells {r0 r1 r2 r3 r4 n0 n1 n2 n3 d m0 m1 m2 m3 f : Int} {s p q : Nat} {w w' : World} (h : K_Ub r0 r1 r2 r3 r4 n0 n1 n2 n3 d m0 m1 m2 m3 f s p q w w') : w'.cell? ⟨s, 0, none⟩ = some (.int .i64 r0) ∧ w'.cell? ⟨s, 1, none⟩ = some (.int .i64 r1) ∧ w'.cell? ⟨s, 2, none⟩ = some (.int .i64 r2) ∧ w'.cell? ⟨s, 3, none⟩ = some (.int .i64 r3) ∧ w'.cell? ⟨s, 4, none⟩ = some (.int .i64 r4) ∧ w'.cell? ⟨p, 0, none⟩ = some (.int .i64 n0) ∧ w'.cell? ⟨p, 1, none⟩ = some (.int .i64 n1) ∧ w'.cell? ⟨p, 2, none⟩ = some (.int .i64 n2) ∧ w'.cell? ⟨p, 3, none⟩ = some (.int .i64 n3) ∧ w'.cell? ⟨p, 4, none⟩ = some (.int .i64 d) ∧ w'.cell? ⟨q, 0, none⟩ = some (.int .i64 m0) ∧ w'.cell? ⟨q, 1, none⟩ = some (.int .i64 m1) ∧ w'.cell? ⟨q, 2, none⟩ = some (.int .i64 m2) ∧ w'.cell? ⟨q, 3, none⟩ = some (.int .i64 m3) ∧ w'.cell? ⟨q, 4, none⟩ = some (.int .i64 f) := ⟨h.c (s, 0, .int .i64 r0) (by simp), h.c (s, 1, .int .i64 r1) (by simp), h.c (s, 2, .int .i64 r2) (by simp), h.c (s, 3, .int .i64 r3) (by simp), h.c (s, 4, .int .i64 r4) (by simp), h.c (p, 0, .int .i64 n0) (by simp), h.c (p, 1, .int .i64 n1) (by simp), h.c (p, 2, .int .i64 n2) (by simp), h.c (p, 3, .int .i64 n3) (by simp), h.c (p, 4, .int .i64 d) (by simp), h.c (q, 0, .int .i64 m0) (by simp), h.c (q, 1, .int .i64 m1) (by simp), h.c (q, 2, .int .i64 m2) (by simp), h.c (q, 3, .int .i64 m3) (by simp), h.c (q, 4, .int .i64 f) (by simp)⟩
theorem K_Ub.zs {r0 r1 r2 r3 r4 n0 n1 n2 n3 d m0 m1 m2 m3 f : Int} {s p q : Nat} {w w' : World} (h : K_Ub r0 r1 r2 r3 r4 n0 n1 n2 n3 d m0 m1 m2 m3 f s p q w w') : s < w'.heap.size ∧ p < w'.heap.size ∧ q < w'.heap.size ∧ True := ⟨KL.z h (x := (s, 0, .int .i64 r0)) (by simp), KL.z h (x := (p, 0, .int .i64 n0)) (by simp), KL.z h (x := (q, 0, .int .i64 m0)) (by simp), trivial⟩
theorem K_Ub.ks {r0 r1 r2 r3 r4 n0 n1 n2 n3 d m0 m1 m2 m3 f : Int} {s p q : Nat} {w w' : World} (h : K_Ub r0 r1 r2 r3 r4 n0 n1 n2 n3 d m0 m1 m2 m3 f s p q w w') : (w'.cell? ⟨s, 0, none⟩ = some (.int .i64 r0) ∧ w'.cell? ⟨s, 1, none⟩ = some (.int .i64 r1) ∧ w'.cell? ⟨s, 2, none⟩ = some (.int .i64 r2) ∧ w'.cell? ⟨s, 3, none⟩ = some (.int .i64 r3) ∧ w'.cell? ⟨s, 4, none⟩ = some (.int .i64 r4) ∧ w'.cell? ⟨p, 0, none⟩ = some (.int .i64 n0) ∧ w'.cell? ⟨p, 1, none⟩ = some (.int .i64 n1) ∧ w'.cell? ⟨p, 2, none⟩ = some (.int .i64 n2) ∧ w'.cell? ⟨p, 3, none⟩ = some (.int .i64 n3) ∧ w'.cell? ⟨p, 4, none⟩ = some (.int .i64 d) ∧ w'.cell? ⟨q, 0, none⟩ = some (.int .i64 m0) ∧ w'.cell? ⟨q, 1, none⟩ = some (.int .i64 m1) ∧ w'.cell? ⟨q, 2, none⟩ = some (.int .i64 m2) ∧ w'.cell? ⟨q, 3, none⟩ = some (.int .i64 m3) ∧ w'.cell? ⟨q, 4, none⟩ = some (.int .i64 f)) ∧ K_Ub r0 r1 r2 r3 r4 n0 n1 n2 n3 d m0 m1 m2 m3 f s p q w w' := ⟨h.cells, h⟩
/-- what a walk keeps: cells, and that nothing that was there has turned -/
def K_Uc (x0 x1 x2 x3 r0 r1 r2 r3 r4 n0 n1 n2 n3 d m0 m1 m2 m3 f : Int) (hx s p q : Nat) (w w' : World) : Prop := KL w [(hx, 0, .int .i64 x0), (hx, 1, .int .i64 x1), (hx, 2, .int .i64 x2), (hx, 3, .int .i64 x3), (s, 0, .int .i64 r0), (s, 1, .int .i64 r1), (s, 2, .int .i64 r2), (s, 3, .int .i64 r3), (s, 4, .int .i64 r4), (p, 0, .int .i64 n0), (p, 1, .int .i64 n1), (p, 2, .int .i64 n2), (p, 3, .int .i64 n3), (p, 4, .int .i64 d), (q, 0, .int .i64 m0), (q, 1, .int .i64 m1), (q, 2, .int .i64 m2), (q, 3, .int .i64 m3), (q, 4, .int .i64 f)] [] w'
theorem K_Uc.below {x0 x1 x2 x3 r0 r1 r2 r3 r4 n0 n1 n2 n3 d m0 m1 m2 m3 f : Int} {hx s p q : Nat} {w w1 w2 : World} (hb : Below w1.heap.size w1 w2) (h : K_Uc x0 x1 x2 x3 r0 r1 r2 r3 r4 n0 n1 n2 n3 d m0 m1 m2 m3 f hx s p q w w1) : K_Uc x0 x1 x2 x3 r0 r1 r2 r3 r4 n0 n1 n2 n3 d m0 m1 m2 m3 f hx s p q w w2 := KL.below hb h
theorem K_Uc.draws {x0 x1 x2 x3 r0 r1 r2 r3 r4 n0 n1 n2 n3 d m0 m1 m2 m3 f : Int} {hx s p q : Nat} {w w1 : World} (n : Nat) (h : K_Uc x0 x1 x2 x3 r0 r1 r2 r3 r4 n0 n1 n2 n3 d m0 m1 m2 m3 f hx s p q w w1) : K_Uc x0 x1 x2 x3 r0 r1 r2 r3 r4 n0 n1 n2 n3 d m0 m1 m2 m3 f hx s p q w (w1.drewN n) := KL.draws n h
theorem K_Uc.drew {x0 x1 x2 x3 r0 r1 r2 r3 r4 n0 n1 n2 n3 d m0 m1 m2 m3 f : Int} {hx s p q : Nat} {w w1 : World} (h : K_Uc x0 x1 x2 x3 r0 r1 r2 r3 r4 n0 n1 n2 n3 d m0 m1 m2 m3 f hx s p q w w1) : K_Uc x0 x1 x2 x3 r0 r1 r2 r3 r4 n0 n1 n2 n3 d m0 m1 m2 m3 f hx s p q w w1.drew := KL.draws 1 h
theorem K_Uc.alloc {x0 x1 x2 x3 r0 r1 r2 r3 r4 n0 n1 n2 n3 d m0 m1 m2 m3 f : Int} {hx s p q : Nat} {w w1 : World} (o : Obj) (h : K_Uc x0 x1 x2 x3 r0 r1 r2 r3 r4 n0 n1 n2 n3 d m0 m1 m2 m3 f hx s p q w w1) : K_Uc x0 x1 x2 x3 r0 r1 r2 r3 r4 n0 n1 n2 n3 d m0 m1 m2 m3 f hx s p q w (w1.alloc o) := KL.alloc o h
theorem K_Uc.set {x0 x1 x2 x3 r0 r1 r2 r3 r4 n0 n1 n2 n3 d m0 m1 m2 m3 f : Int} {hx s p q : Nat} {w w1 : World} (h : K_Uc x0 x1 x2 x3 r0 r1 r2 r3 r4 n0 n1 n2 n3 d m0 m1 m2 m3 f hx s p q w w1) (b i : Nat) (v : Value) (hb : b ≠ hx ∧ b ≠ s ∧ b ≠ p ∧ b ≠ q ∧ w.heap.size ≤ b) : K_Uc x0 x1 x2 x3 r0 r1 r2 r3 r4 n0 n1 n2 n3 d m0 m1 m2 m3 f hx s p q w (w1.setCell ⟨b, i, none⟩ v) :=
  KL.set h b i v (by intro x hx; simp only [List.mem_cons, List.not_mem_nil, or_false] at hx; rcases hx with rfl | rfl | rfl | rfl | rfl | rfl | rfl | rfl | rfl | rfl | rfl | rfl | rfl | rfl | rfl | rfl | rfl | rfl | rfl <;> simp only [] <;> omega) (by omega)
theorem K_Uc.bel {x0 x1 x2 x3 r0 r1 r2 r3 r4 n0 n1 n2 n3 d m0 m1 m2 m3 f : Int} {hx s p q : Nat} {w w1 : World} (h : K_Uc x0 x1 x2 x3 r0 r1 r2 r3 r4 n0 n1 n2 n3 d m0 m1 m2 m3 f hx s p q w w1) : Below w.heap.size w w1 := KL.bel h
theorem K_Uc.cells {x0 x1 x2 x3 r0 r1 r2 r3 r4 n0 n1 n2 n3 d m0 m1 m2 m3 f : Int} {hx s p q : Nat} {w w' : World} (h : K_Uc x0 x1 x2 x3 r0 r1 r2 r3 r4 n0 n1 n2 n3 d m0 m1 m2 m3 f hx s p q w w') : w'.cell? ⟨hx, 0, none⟩ = some (.int .i64 x0) ∧ w'.cell? ⟨hx, 1, none⟩ = some (.int .i64 x1) ∧ w'.cell? ⟨hx, 2, none⟩ = some (.int .i64 x2) ∧ w'.cell? ⟨hx, 3, none⟩ = some (.int .i64 x3) ∧ w'.cell? ⟨s, 0, none⟩ = some (.int .i64 r0) ∧ w'.cell? ⟨s, 1, none⟩ = some (.int .i64 r1) ∧ w'.cell? ⟨s, 2, none⟩ = some (.int .i64 r2) ∧ w'.cell? ⟨s, 3, none⟩ = some (.int .i64 r3) ∧ w'.cell? ⟨s, 4, none⟩ = some (.int .i64 r4) ∧ w'.cell? ⟨p, 0, none⟩ = some (.int .i64 n0) ∧ w'.cell? ⟨p, 1, none⟩ = some (.int .i64 n1) ∧ w'.cell? ⟨p, 2, none⟩ = some (.int .i64 n2) ∧ w'.cell? ⟨p, 3, none⟩ = some (.int .i64 n3) ∧ w'.cell? ⟨p, 4, none⟩ = some (.int .i64 d) ∧ w'.cell? ⟨q, 0, none⟩ = some (.int .i64 m0) ∧ w'.cell? ⟨q, 1, none⟩ = some (.int .i64 m1) ∧ w'.cell? ⟨q, 2, none⟩ = some (.int .i64 m2) ∧ w'.cell? ⟨q, 3, none⟩ = some (.int .i64 m3) ∧ w'.cell? ⟨q, 4, none⟩ = some (.int .i64 f) := ⟨h.c (hx, 0, .int .i64 x0) (by simp), h.c (hx, 1, .int .i64 x1) (by simp), h.c (hx, 2, .int .i64 x2) (by simp), h.c (hx, 3, .int .i64 x3) (by simp), h.c (s, 0, .int .i64 r0) (by simp), h.c (s, 1, .int .i64 r1) (by simp), h.c (s, 2, .int .i64 r2) (by simp), h.c (s, 3, .int .i64 r3) (by simp), h.c (s, 4, .int .i64 r4) (by simp), h.c (p, 0, .int .i64 n0) (by simp), h.c (p, 1, .int .i64 n1) (by simp), h.c (p, 2, .int .i64 n2) (by simp), h.c (p, 3, .int .i64 n3) (by simp), h.c (p, 4, .int .i64 d) (by simp), h.c (q, 0, .int .i64 m0) (by simp), h.c (q, 1, .int .i64 m1) (by simp), h.c (q, 2, .int .i64 m2) (by simp), h.c (q, 3, .int .i64 m3) (by simp), h.c (q, 4, .int .i64 f) (by simp)⟩
theorem K_Uc.zs {x0 x1 x2 x3 r0 r1 r2 r3 r4 n0 n1 n2 n3 d m0 m1 m2 m3 f : Int} {hx s p q : Nat} {w w' : World} (h : K_Uc x0 x1 x2 x3 r0 r1 r2 r3 r4 n0 n1 n2 n3 d m0 m1 m2 m3 f hx s p q w w') : hx < w'.heap.size ∧ s < w'.heap.size ∧ p < w'.heap.size ∧ q < w'.heap.size ∧ True := ⟨KL.z h (x := (hx, 0, .int .i64 x0)) (by simp), KL.z h (x := (s, 0, .int .i64 r0)) (by simp), KL.z h (x := (p, 0, .int .i64 n0)) (by simp), KL.z h (x := (q, 0, .int .i64 m0)) (by simp), trivial⟩
theorem K_Uc.ks {x0 x1 x2 x3 r0 r1 r2 r3 r4 n0 n1 n2 n3 d m0 m1 m2 m3 f : Int} {hx s p q : Nat} {w w' : World} (h : K_Uc x0 x1 x2 x3 r0 r1 r2 r3 r4 n0 n1 n2 n3 d m0 m1 m2 m3 f hx s p q w w') : (w'.cell? ⟨hx, 0, none⟩ = some (.int .i64 x0) ∧ w'.cell? ⟨hx, 1, none⟩ = some (.int .i64 x1) ∧ w'.cell? ⟨hx, 2, none⟩ = some (.int .i64 x2) ∧ w'.cell? ⟨hx, 3, none⟩ = some (.int .i64 x3) ∧ w'.cell? ⟨s, 0, none⟩ = some (.int .i64 r0) ∧ w'.cell? ⟨s, 1, none⟩ = some (.int .i64 r1) ∧ w'.cell? ⟨s, 2, none⟩ = some (.int .i64 r2) ∧ w'.cell? ⟨s, 3, none⟩ = some (.int .i64 r3) ∧ w'.cell? ⟨s, 4, none⟩ = some (.int .i64 r4) ∧ w'.cell? ⟨p, 0, none⟩ = some (.int .i64 n0) ∧ w'.cell? ⟨p, 1, none⟩ = some (.int .i64 n1) ∧ w'.cell? ⟨p, 2, none⟩ = some (.int .i64 n2) ∧ w'.cell? ⟨p, 3, none⟩ = some (.int .i64 n3) ∧ w'.cell? ⟨p, 4, none⟩ = some (.int .i64 d) ∧ w'.cell? ⟨q, 0, none⟩ = some (.int .i64 m0) ∧ w'.cell? ⟨q, 1, none⟩ = some (.int .i64 m1) ∧ w'.cell? ⟨q, 2, none⟩ = some (.int .i64 m2) ∧ w'.cell? ⟨q, 3, none⟩ = some (.int .i64 m3) ∧ w'.cell? ⟨q, 4, none⟩ = some (.int .i64 f)) ∧ K_Uc x0 x1 x2 x3 r0 r1 r2 r3 r4 n0 n1 n2 n3 d m0 m1 m2 m3 f hx s p q w w' := ⟨h.cells, h⟩
/-- what a walk keeps: cells, and that nothing that was there has turned -/
def K_Ud (y0 y1 y2 y3 x0 x1 x2 x3 r0 r1 r2 r3 r4 : Int) (hy hx s : Nat) (w w' : World) : Prop := KL w [(hy, 0, .int .i64 y0), (hy, 1, .int .i64 y1), (hy, 2, .int .i64 y2), (hy, 3, .int .i64 y3), (hx, 0, .int .i64 x0), (hx, 1, .int .i64 x1), (hx, 2, .int .i64 x2), (hx, 3, .int .i64 x3), (s, 0, .int .i64 r0), (s, 1, .int .i64 r1), (s, 2, .int .i64 r2), (s, 3, .int .i64 r3), (s, 4, .int .i64 r4)] [] w'
theorem K_Ud.below {y0 y1 y2 y3 x0 x1 x2 x3 r0 r1 r2 r3 r4 : Int} {hy hx s : Nat} {w w1 w2 : World} (hb : Below w1.heap.size w1 w2) (h : K_Ud y0 y1 y2 y3 x0 x1 x2 x3 r0 r1 r2 r3 r4 hy hx s w w1) : K_Ud y0 y1 y2 y3 x0 x1 x2 x3 r0 r1 r2 r3 r4 hy hx s w w2 := KL.below hb h
theorem K_Ud.draws {y0 y1 y2 y3 x0 x1 x2 x3 r0 r1 r2 r3 r4 : Int} {hy hx s : Nat} {w w1 : World} (n : Nat) (h : K_Ud y0 y1 y2 y3 x0 x1 x2 x3 r0 r1 r2 r3 r4 hy hx s w w1) : K_Ud y0 y1 y2 y3 x0 x1 x2 x3 r0 r1 r2 r3 r4 hy hx s w (w1.drewN n) := KL.draws n h
theorem K_Ud.drew {y0 y1 y2 y3 x0 x1 x2 x3 r0 r1 r2 r3 r4 : Int} {hy hx s : Nat} {w w1 : World} (h : K_Ud y0 y1 y2 y3 x0 x1 x2 x3 r0 r1 r2 r3 r4 hy hx s w w1) : K_Ud y0 y1 y2 y3 x0 x1 x2 x3 r0 r1 r2 r3 r4 hy hx s w w1.drew := KL.draws 1 h
theorem K_Ud.alloc {y0 y1 y2 y3 x0 x1 x2 x3 r0 r1 r2 r3 r4 : Int} {hy hx s : Nat} {w w1 : World} (o : Obj) (h : K_Ud y0 y1 y2 y3 x0 x1 x2 x3 r0 r1 r2 r3 r4 hy hx s w w1) : K_Ud y0 y1 y2 y3 x0 x1 x2 x3 r0 r1 r2 r3 r4 hy hx s w (w1.alloc o) := KL.alloc o h
theorem K_Ud.set {y0 y1 y2 y3 x0 x1 x2 x3 r0 r1 r2 r3 r4 : Int} {hy hx s : Nat} {w w1 : World} (h : K_Ud y0 y1 y2 y3 x0 x1 x2 x3 r0 r1 r2 r3 r4 hy hx s w w1) (b i : Nat) (v : Value) (hb : b ≠ hy ∧ b ≠ hx ∧ b ≠ s ∧ w.heap.size ≤ b) : K_Ud y0 y1 y2 y3 x0 x1 x2 x3 r0 r1 r2 r3 r4 hy hx s w (w1.setCell ⟨b, i, none⟩ v) :=
  KL.set h b i v (by intro x hx; simp only [List.mem_cons, List.not_mem_nil, or_false] at hx; rcases hx with rfl | rfl | rfl | rfl | rfl | rfl | rfl | rfl | rfl | rfl | rfl | rfl | rfl <;> simp only [] <;> omega) (by omega)
theorem K_Ud.bel {y0 y1 y2 y3 x0 x1 x2 x3 r0 r1 r2 r3 r4 : Int} {hy hx s : Nat} {w w1 : World} (h : K_Ud y0 y1 y2 y3 x0 x1 x2 x3 r0 r1 r2 r3 r4 hy hx s w w1) : Below w.heap.size w w1 := KL.bel h
theorem K_Ud.cells {y0 y1 y2 y3 x0 x1 x2 x3 r0 r1 r2 r3 r4 : Int} {hy hx s : Nat} {w w' : World} (h : K_Ud y0 y1 y2 y3 x0 x1 x2 x3 r0 r1 r2 r3 r4 hy hx s w w') : w'.cell? ⟨hy, 0, none⟩ = some (.int .i64 y0) ∧ w'.cell? ⟨hy, 1, none⟩ = some (.int .i64 y1) ∧ w'.cell? ⟨hy, 2, none⟩ = some (.int .i64 y2) ∧ w'.cell? ⟨hy, 3, none⟩ = some (.int .i64 y3) ∧ w'.cell? ⟨hx, 0, none⟩ = some (.int .i64 x0) ∧ w'.cell? ⟨hx, 1, none⟩ = some (.int .i64 x1) ∧ w'.cell? ⟨hx, 2, none⟩ = some (.int .i64 x2) ∧ w'.cell? ⟨hx, 3, none⟩ = some (.int .i64 x3) ∧ w'.cell? ⟨s, 0, none⟩ = some (.int .i64 r0) ∧ w'.cell? ⟨s, 1, none⟩ = some (.int .i64 r1) ∧ w'.cell? ⟨s, 2, none⟩ = some (.int .i64 r2) ∧ w'.cell? ⟨s, 3, none⟩ = some (.int .i64 r3) ∧ w'.cell? ⟨s, 4, none⟩ = some (.int .i64 r4) := ⟨h.c (hy, 0, .int .i64 y0) (by simp), h.c (hy, 1, .int .i64 y1) (by simp), h.c (hy, 2, .int .i64 y2) (by simp), h.c (hy, 3, .int .i64 y3) (by simp), h.c (hx, 0, .int .i64 x0) (by simp), h.c (hx, 1, .int .i64 x1) (by simp), h.c (hx, 2, .int .i64 x2) (by simp), h.c (hx, 3, .int .i64 x3) (by simp), h.c (s, 0, .int .i64 r0) (by simp), h.c (s, 1, .int .i64 r1) (by simp), h.c (s, 2, .int .i64 r2) (by simp), h.c (s, 3, .int .i64 r3) (by simp), h.c (s, 4, .int .i64 r4) (by simp)⟩
theorem K_Ud.zs {y0 y1 y2 y3 x0 x1 x2 x3 r0 r1 r2 r3 r4 : Int} {hy hx s : Nat} {w w' : World} (h : K_Ud y0 y1 y2 y3 x0 x1 x2 x3 r0 r1 r2 r3 r4 hy hx s w w') : hy < w'.heap.size ∧ hx < w'.heap.size ∧ s < w'.heap.size ∧ True := ⟨KL.z h (x := (hy, 0, .int .i64 y0)) (by simp), KL.z h (x := (hx, 0, .int .i64 x0)) (by simp), KL.z h (x := (s, 0, .int .i64 r0)) (by simp), trivial⟩
theorem K_Ud.ks {y0 y1 y2 y3 x0 x1 x2 x3 r0 r1 r2 r3 r4 : Int} {hy hx s : Nat} {w w' : World} (h : K_Ud y0 y1 y2 y3 x0 x1 x2 x3 r0 r1 r2 r3 r4 hy hx s w w') : (w'.cell? ⟨hy, 0, none⟩ = some (.int .i64 y0) ∧ w'.cell? ⟨hy, 1, none⟩ = some (.int .i64 y1) ∧ w'.cell? ⟨hy, 2, none⟩ = some (.int .i64 y2) ∧ w'.cell? ⟨hy, 3, none⟩ = some (.int .i64 y3) ∧ w'.cell? ⟨hx, 0, none⟩ = some (.int .i64 x0) ∧ w'.cell? ⟨hx, 1, none⟩ = some (.int .i64 x1) ∧ w'.cell? ⟨hx, 2, none⟩ = some (.int .i64 x2) ∧ w'.cell? ⟨hx, 3, none⟩ = some (.int .i64 x3) ∧ w'.cell? ⟨s, 0, none⟩ = some (.int .i64 r0) ∧ w'.cell? ⟨s, 1, none⟩ = some (.int .i64 r1) ∧ w'.cell? ⟨s, 2, none⟩ = some (.int .i64 r2) ∧ w'.cell? ⟨s, 3, none⟩ = some (.int .i64 r3) ∧ w'.cell? ⟨s, 4, none⟩ = some (.int .i64 r4)) ∧ K_Ud y0 y1 y2 y3 x0 x1 x2 x3 r0 r1 r2 r3 r4 hy hx s w w' := ⟨h.cells, h⟩
set_option maxHeartbeats 6400000 in
theorem units_e1 (n0 n1 n2 n3 d m0 m1 m2 m3 f : Int) (w : World) (h : acE ⟨n0, n1, n2, n3, d⟩ ≠ 0) :
    Calls Try.prog 4 #[.agg #[.int .i64 n0, .int .i64 n1, .int .i64 n2, .int .i64 n3, .int .i64 d], .agg #[.int .i64 m0, .int .i64 m1, .int .i64 m2, .int .i64 m3, .int .i64 f]] w fun e w' => e = .returned (.bool true) ∧ Below w.heap.size w w' := by
  have hh : acE2 ⟨n0, n1, n2, n3, d⟩ ⟨m0, m1, m2, m3, f⟩ = acE ⟨n0, n1, n2, n3, d⟩ := if_neg h
  have TI := Lib.hid (fun W => Times_err n0 n1 n2 n3 d m0 m1 m2 m3 f W (by rw [hh]; exact h))
  rw [hh] at TI
  have E1 := Lib.hid (fun W => rErr_any n0 n1 n2 n3 d W)
  have ZR := Lib.hid (fun W => zero_any ⟨0, 0, 0, 0, 0⟩ W)
  rw [show zQ ⟨0, 0, 0, 0, 0⟩ = true from rfl] at ZR
  have t1 : (acE ⟨n0, n1, n2, n3, d⟩ == 0) = false := by rw [beq_eq_false_iff_ne]; exact h
  have t2 : (acE ⟨n0, n1, n2, n3, d⟩ != 0) = true := by rw [bne_iff_ne]; exact h
  generalize acE ⟨n0, n1, n2, n3, d⟩ = e1 at *
  clear h hh
  simp only [] at ZR
  go_enter Try.func4, Try.ntmps4
  go_wp2_with fail
  have hK : K_Ua n0 n1 n2 n3 d m0 m1 m2 m3 f w.heap.size (w.heap.size + 1) w ((w.alloc (.cells #[.int .i64 n0, .int .i64 n1, .int .i64 n2, .int .i64 n3, .int .i64 d] 23)).alloc (.cells #[.int .i64 m0, .int .i64 m1, .int .i64 m2, .int .i64 m3, .int .i64 f] 23)) := ⟨by simp [go_sem], by simp [go_sem], by simp [go_sem], by (repeat (first | (with_reducible exact Below.refl _ _) | (with_reducible exact HB.out) | (with_reducible refine below_draws ?_ _) | (with_reducible refine Below.alloc ?_ (by go_size) _) | (with_reducible refine Below.setCell ?_ (by go_size) _) | (with_reducible refine Below.alloc ?_ (by simp <;> omega) _) | (with_reducible refine Below.setCell ?_ (by simp <;> omega) _)))⟩
  refine (awake_any _).mono ?_
  rintro e w1 ⟨rfl, hb⟩
  have hK := K_Ua.below hb hK
  clear hb
  go_wp2_with fail
  refine (Units_rq _).mono ?_
  rintro e w2 ⟨B1, c1, rfl, hq1, hc1, hl1, hb⟩
  have hK := K_Ua.below hb hK
  clear hb
  go_wp2_with fail
  refine (rUnits_any _).mono ?_
  rintro e w3 ⟨v3, rfl, hown, hb⟩
  obtain ⟨B2, c2, rfl, hLH, hc2, hl2⟩ := LH.of hown
  have hK := K_Ua.below hb hK
  have hq1 := RQ.next hq1 hb
  clear hb hown
  go_wp2_with fail
  refine (rQuats_U _ _ _ _ hLH hc2 hl2).mono ?_
  rintro e w4 ⟨B3, c3, rfl, hq3, hc3, hl3, hb⟩
  have hK := K_Ua.below hb hK
  have hq1 := RQ.next hq1 hb
  clear hb hLH hc2 hl2
  go_wp2_with fail
  refine (SameQuats_same (U24.map toQ) B1 B3 c1 c3 _ hq1 hq3 UQ_len hc1 hl1 hc3 hl3).mono ?_
  rintro e w5 ⟨rfl, hb⟩
  have hK := K_Ua.below hb hK
  clear hb hq1 hq3 hc1 hl1 hc3 hl3
  obtain ⟨c0_, c1_, c2_, c3_, c4_, c5_, c6_, c7_, c8_, c9_⟩ := K_Ua.cells hK; obtain ⟨z0_, z1_, -⟩ := K_Ua.zs hK; have HK := Lib.hid hK; clear hK
  go_wp2_with fail
  refine (TI.out _).mono ?_
  rintro e w6 ⟨rfl, hb⟩
  clear c0_ c1_ c2_ c3_ c4_ c5_ c6_ c7_ c8_ c9_ z0_ z1_
  have hK := K_Ua.below hb HK.out
  have hK : K_Ub 0 0 0 0 0 n0 n1 n2 n3 d m0 m1 m2 m3 f w6.heap.size w.heap.size (w.heap.size + 1) w _ := KL.push5 hK 0 0 0 0 0 23 _ rfl
  clear hb HK
  obtain ⟨c0_, c1_, c2_, c3_, c4_, c5_, c6_, c7_, c8_, c9_, c10_, c11_, c12_, c13_, c14_⟩ := K_Ub.cells hK; obtain ⟨z0_, z1_, z2_, -⟩ := K_Ub.zs hK; have HK := Lib.hid hK; clear hK
  go_wp2_with fail
  refine (E1.out _).mono ?_
  rintro e w7 ⟨rfl, hb⟩
  clear c0_ c1_ c2_ c3_ c4_ c5_ c6_ c7_ c8_ c9_ c10_ c11_ c12_ c13_ c14_ z0_ z1_ z2_
  have hK := K_Ub.below hb HK.out
  clear hb HK
  obtain ⟨c0_, c1_, c2_, c3_, c4_, c5_, c6_, c7_, c8_, c9_, c10_, c11_, c12_, c13_, c14_⟩ := K_Ub.cells hK; obtain ⟨z0_, z1_, z2_, -⟩ := K_Ub.zs hK; have HK := Lib.hid hK; clear hK
  go_wp2_with fail
  refine (ZR.out _).mono ?_
  rintro e w9 ⟨rfl, hb⟩
  have HB := Lib.hid (K_Ub.bel (K_Ub.below hb HK.out))
  clear c0_ c1_ c2_ c3_ c4_ c5_ c6_ c7_ c8_ c9_ c10_ c11_ c12_ c13_ c14_ z0_ z1_ z2_
  clear hb HK
  go_wp2
  go_ret
  exact ⟨rfl, by (repeat (first | (with_reducible exact Below.refl _ _) | (with_reducible exact HB.out) | (with_reducible refine below_draws ?_ _) | (with_reducible refine Below.alloc ?_ (by go_size) _) | (with_reducible refine Below.setCell ?_ (by go_size) _) | (with_reducible refine Below.alloc ?_ (by simp <;> omega) _) | (with_reducible refine Below.setCell ?_ (by simp <;> omega) _)))⟩
set_option maxHeartbeats 6400000 in
theorem units_e2 (n0 n1 n2 n3 d m0 m1 m2 m3 f : Int) (w : World) (h : acE ⟨n0, n1, n2, n3, d⟩ = 0) (h2 : acE ⟨m0, m1, m2, m3, f⟩ ≠ 0) :
    Calls Try.prog 4 #[.agg #[.int .i64 n0, .int .i64 n1, .int .i64 n2, .int .i64 n3, .int .i64 d], .agg #[.int .i64 m0, .int .i64 m1, .int .i64 m2, .int .i64 m3, .int .i64 f]] w fun e w' => e = .returned (.bool true) ∧ Below w.heap.size w w' := by
  have hh : acE2 ⟨n0, n1, n2, n3, d⟩ ⟨m0, m1, m2, m3, f⟩ = acE ⟨m0, m1, m2, m3, f⟩ := if_pos h
  have TI := Lib.hid (fun W => Times_err n0 n1 n2 n3 d m0 m1 m2 m3 f W (by rw [hh]; exact h2))
  rw [hh] at TI
  have E1 := Lib.hid (fun W => rErr_any n0 n1 n2 n3 d W)
  have E2 := Lib.hid (fun W => rErr_any m0 m1 m2 m3 f W)
  rw [h] at E1
  have ZR := Lib.hid (fun W => zero_any ⟨0, 0, 0, 0, 0⟩ W)
  rw [show zQ ⟨0, 0, 0, 0, 0⟩ = true from rfl] at ZR
  have t2 : (acE ⟨m0, m1, m2, m3, f⟩ != 0) = true := by rw [bne_iff_ne]; exact h2
  generalize acE ⟨m0, m1, m2, m3, f⟩ = e1 at *
  clear h hh h2
  simp only [] at ZR
  go_enter Try.func4, Try.ntmps4
  go_wp2_with fail
  have hK : K_Ua n0 n1 n2 n3 d m0 m1 m2 m3 f w.heap.size (w.heap.size + 1) w ((w.alloc (.cells #[.int .i64 n0, .int .i64 n1, .int .i64 n2, .int .i64 n3, .int .i64 d] 23)).alloc (.cells #[.int .i64 m0, .int .i64 m1, .int .i64 m2, .int .i64 m3, .int .i64 f] 23)) := ⟨by simp [go_sem], by simp [go_sem], by simp [go_sem], by (repeat (first | (with_reducible exact Below.refl _ _) | (with_reducible exact HB.out) | (with_reducible refine below_draws ?_ _) | (with_reducible refine Below.alloc ?_ (by go_size) _) | (with_reducible refine Below.setCell ?_ (by go_size) _) | (with_reducible refine Below.alloc ?_ (by simp <;> omega) _) | (with_reducible refine Below.setCell ?_ (by simp <;> omega) _)))⟩
  refine (awake_any _).mono ?_
  rintro e w1 ⟨rfl, hb⟩
  have hK := K_Ua.below hb hK
  clear hb
  go_wp2_with fail
  refine (Units_rq _).mono ?_
  rintro e w2 ⟨B1, c1, rfl, hq1, hc1, hl1, hb⟩
  have hK := K_Ua.below hb hK
  clear hb
  go_wp2_with fail
  refine (rUnits_any _).mono ?_
  rintro e w3 ⟨v3, rfl, hown, hb⟩
  obtain ⟨B2, c2, rfl, hLH, hc2, hl2⟩ := LH.of hown
  have hK := K_Ua.below hb hK
  have hq1 := RQ.next hq1 hb
  clear hb hown
  go_wp2_with fail
  refine (rQuats_U _ _ _ _ hLH hc2 hl2).mono ?_
  rintro e w4 ⟨B3, c3, rfl, hq3, hc3, hl3, hb⟩
  have hK := K_Ua.below hb hK
  have hq1 := RQ.next hq1 hb
  clear hb hLH hc2 hl2
  go_wp2_with fail
  refine (SameQuats_same (U24.map toQ) B1 B3 c1 c3 _ hq1 hq3 UQ_len hc1 hl1 hc3 hl3).mono ?_
  rintro e w5 ⟨rfl, hb⟩
  have hK := K_Ua.below hb hK
  clear hb hq1 hq3 hc1 hl1 hc3 hl3
  obtain ⟨c0_, c1_, c2_, c3_, c4_, c5_, c6_, c7_, c8_, c9_⟩ := K_Ua.cells hK; obtain ⟨z0_, z1_, -⟩ := K_Ua.zs hK; have HK := Lib.hid hK; clear hK
  go_wp2_with fail
  refine (TI.out _).mono ?_
  rintro e w6 ⟨rfl, hb⟩
  clear c0_ c1_ c2_ c3_ c4_ c5_ c6_ c7_ c8_ c9_ z0_ z1_
  have hK := K_Ua.below hb HK.out
  have hK : K_Ub 0 0 0 0 0 n0 n1 n2 n3 d m0 m1 m2 m3 f w6.heap.size w.heap.size (w.heap.size + 1) w _ := KL.push5 hK 0 0 0 0 0 23 _ rfl
  clear hb HK
  obtain ⟨c0_, c1_, c2_, c3_, c4_, c5_, c6_, c7_, c8_, c9_, c10_, c11_, c12_, c13_, c14_⟩ := K_Ub.cells hK; obtain ⟨z0_, z1_, z2_, -⟩ := K_Ub.zs hK; have HK := Lib.hid hK; clear hK
  go_wp2_with fail
  refine (E1.out _).mono ?_
  rintro e w7 ⟨rfl, hb⟩
  clear c0_ c1_ c2_ c3_ c4_ c5_ c6_ c7_ c8_ c9_ c10_ c11_ c12_ c13_ c14_ z0_ z1_ z2_
  have hK := K_Ub.below hb HK.out
  clear hb HK
  obtain ⟨c0_, c1_, c2_, c3_, c4_, c5_, c6_, c7_, c8_, c9_, c10_, c11_, c12_, c13_, c14_⟩ := K_Ub.cells hK; obtain ⟨z0_, z1_, z2_, -⟩ := K_Ub.zs hK; have HK := Lib.hid hK; clear hK
  go_wp2_with fail
  refine (E2.out _).mono ?_
  rintro e w8 ⟨rfl, hb⟩
  clear c0_ c1_ c2_ c3_ c4_ c5_ c6_ c7_ c8_ c9_ c10_ c11_ c12_ c13_ c14_ z0_ z1_ z2_
  have hK := K_Ub.below hb HK.out
  clear hb HK
  obtain ⟨c0_, c1_, c2_, c3_, c4_, c5_, c6_, c7_, c8_, c9_, c10_, c11_, c12_, c13_, c14_⟩ := K_Ub.cells hK; obtain ⟨z0_, z1_, z2_, -⟩ := K_Ub.zs hK; have HK := Lib.hid hK; clear hK
  go_wp2_with fail
  refine (ZR.out _).mono ?_
  rintro e w9 ⟨rfl, hb⟩
  have HB := Lib.hid (K_Ub.bel (K_Ub.below hb HK.out))
  clear c0_ c1_ c2_ c3_ c4_ c5_ c6_ c7_ c8_ c9_ c10_ c11_ c12_ c13_ c14_ z0_ z1_ z2_
  clear hb HK
  go_wp2
  go_ret
  exact ⟨rfl, by (repeat (first | (with_reducible exact Below.refl _ _) | (with_reducible exact HB.out) | (with_reducible refine below_draws ?_ _) | (with_reducible refine Below.alloc ?_ (by go_size) _) | (with_reducible refine Below.setCell ?_ (by go_size) _) | (with_reducible refine Below.alloc ?_ (by simp <;> omega) _) | (with_reducible refine Below.setCell ?_ (by simp <;> omega) _)))⟩
set_option maxHeartbeats 6400000 in
theorem units_large (n0 n1 n2 n3 d m0 m1 m2 m3 f : Int) (w : World) (h : acE ⟨n0, n1, n2, n3, d⟩ = 0) (h2 : acE ⟨m0, m1, m2, m3, f⟩ = 0) (hn : 1000000 < N (acH ⟨n0, n1, n2, n3, d⟩) * N (acH ⟨m0, m1, m2, m3, f⟩)) :
    Calls Try.prog 4 #[.agg #[.int .i64 n0, .int .i64 n1, .int .i64 n2, .int .i64 n3, .int .i64 d], .agg #[.int .i64 m0, .int .i64 m1, .int .i64 m2, .int .i64 m3, .int .i64 f]] w fun e w' => e = .returned (.bool true) ∧ Below w.heap.size w w' := by
  have hh : acE2 ⟨n0, n1, n2, n3, d⟩ ⟨m0, m1, m2, m3, f⟩ = 0 := by unfold acE2; rw [if_pos h]; exact h2
  have ex : acX ⟨n0, n1, n2, n3, d⟩ ⟨m0, m1, m2, m3, f⟩ = acH ⟨n0, n1, n2, n3, d⟩ := rfl
  have ey : acY ⟨n0, n1, n2, n3, d⟩ ⟨m0, m1, m2, m3, f⟩ = acH ⟨m0, m1, m2, m3, f⟩ := if_pos h
  obtain ⟨px, nx, bx, py, ny, by'⟩ := acc2_bd hh
  have TI := Lib.hid (fun W => Times_large n0 n1 n2 n3 d m0 m1 m2 m3 f W hh (by rw [ex, ey]; exact hn))
  have E1 := Lib.hid (fun W => rErr_any n0 n1 n2 n3 d W)
  have E2 := Lib.hid (fun W => rErr_any m0 m1 m2 m3 f W)
  have O1 := Lib.hid (fun W => rOf_acc n0 n1 n2 n3 d W h)
  have O2 := Lib.hid (fun W => rOf_acc m0 m1 m2 m3 f W h2)
  rw [h] at E1
  rw [h2] at E2
  rw [ex, ey] at *
  generalize acH ⟨n0, n1, n2, n3, d⟩ = x at *
  generalize acH ⟨m0, m1, m2, m3, f⟩ = y at *
  have NX := Lib.hid (fun W => rNorm_h x W (HBup bx (by decide)))
  have NY := Lib.hid (fun W => rNorm_h y W (HBup by' (by decide)))
  have nx0 := N_nonneg x
  have ny0 := N_nonneg y
  have pm0 : 0 ≤ N x * N y := Int.mul_nonneg nx0 ny0
  have pm1 : N x * N y ≤ 1000000 * 1000000 := Int.mul_le_mul nx ny ny0 (by omega)
  have t1 : decide (N x * N y > 1000000) = true := decide_eq_true hn
  have t2 : decide (1000000 < N x * N y) = true := t1
  have ZR := Lib.hid (fun W => zero_any ⟨0, 0, 0, 0, 0⟩ W)
  rw [show zQ ⟨0, 0, 0, 0, 0⟩ = true from rfl] at ZR
  clear h h2 hh ex ey px py bx by' nx ny nx0 ny0 hn
  generalize N x = na at *
  generalize N y = nb at *
  obtain ⟨x0, x1, x2, x3⟩ := x
  obtain ⟨y0, y1, y2, y3⟩ := y
  simp only [] at O1 O2 NX NY ZR
  have ew := IntWalk.i64_in (na * nb) (by omega)
  go_enter Try.func4, Try.ntmps4
  go_wp2_with fail
  have hK : K_Ua n0 n1 n2 n3 d m0 m1 m2 m3 f w.heap.size (w.heap.size + 1) w ((w.alloc (.cells #[.int .i64 n0, .int .i64 n1, .int .i64 n2, .int .i64 n3, .int .i64 d] 23)).alloc (.cells #[.int .i64 m0, .int .i64 m1, .int .i64 m2, .int .i64 m3, .int .i64 f] 23)) := ⟨by simp [go_sem], by simp [go_sem], by simp [go_sem], by (repeat (first | (with_reducible exact Below.refl _ _) | (with_reducible exact HB.out) | (with_reducible refine below_draws ?_ _) | (with_reducible refine Below.alloc ?_ (by go_size) _) | (with_reducible refine Below.setCell ?_ (by go_size) _) | (with_reducible refine Below.alloc ?_ (by simp <;> omega) _) | (with_reducible refine Below.setCell ?_ (by simp <;> omega) _)))⟩
  refine (awake_any _).mono ?_
  rintro e w1 ⟨rfl, hb⟩
  have hK := K_Ua.below hb hK
  clear hb
  go_wp2_with fail
  refine (Units_rq _).mono ?_
  rintro e w2 ⟨B1, c1, rfl, hq1, hc1, hl1, hb⟩
  have hK := K_Ua.below hb hK
  clear hb
  go_wp2_with fail
  refine (rUnits_any _).mono ?_
  rintro e w3 ⟨v3, rfl, hown, hb⟩
  obtain ⟨B2, c2, rfl, hLH, hc2, hl2⟩ := LH.of hown
  have hK := K_Ua.below hb hK
  have hq1 := RQ.next hq1 hb
  clear hb hown
  go_wp2_with fail
  refine (rQuats_U _ _ _ _ hLH hc2 hl2).mono ?_
  rintro e w4 ⟨B3, c3, rfl, hq3, hc3, hl3, hb⟩
  have hK := K_Ua.below hb hK
  have hq1 := RQ.next hq1 hb
  clear hb hLH hc2 hl2
  go_wp2_with fail
  refine (SameQuats_same (U24.map toQ) B1 B3 c1 c3 _ hq1 hq3 UQ_len hc1 hl1 hc3 hl3).mono ?_
  rintro e w5 ⟨rfl, hb⟩
  have hK := K_Ua.below hb hK
  clear hb hq1 hq3 hc1 hl1 hc3 hl3
  obtain ⟨c0_, c1_, c2_, c3_, c4_, c5_, c6_, c7_, c8_, c9_⟩ := K_Ua.cells hK; obtain ⟨z0_, z1_, -⟩ := K_Ua.zs hK; have HK := Lib.hid hK; clear hK
  go_wp2_with fail
  refine (TI.out _).mono ?_
  rintro e w6 ⟨rfl, hb⟩
  clear c0_ c1_ c2_ c3_ c4_ c5_ c6_ c7_ c8_ c9_ z0_ z1_
  have hK := K_Ua.below hb HK.out
  have hK : K_Ub 0 0 0 0 0 n0 n1 n2 n3 d m0 m1 m2 m3 f w6.heap.size w.heap.size (w.heap.size + 1) w _ := KL.push5 hK 0 0 0 0 0 23 _ rfl
  clear hb HK
  obtain ⟨c0_, c1_, c2_, c3_, c4_, c5_, c6_, c7_, c8_, c9_, c10_, c11_, c12_, c13_, c14_⟩ := K_Ub.cells hK; obtain ⟨z0_, z1_, z2_, -⟩ := K_Ub.zs hK; have HK := Lib.hid hK; clear hK
  go_wp2_with fail
  refine (E1.out _).mono ?_
  rintro e w7 ⟨rfl, hb⟩
  clear c0_ c1_ c2_ c3_ c4_ c5_ c6_ c7_ c8_ c9_ c10_ c11_ c12_ c13_ c14_ z0_ z1_ z2_
  have hK := K_Ub.below hb HK.out
  clear hb HK
  obtain ⟨c0_, c1_, c2_, c3_, c4_, c5_, c6_, c7_, c8_, c9_, c10_, c11_, c12_, c13_, c14_⟩ := K_Ub.cells hK; obtain ⟨z0_, z1_, z2_, -⟩ := K_Ub.zs hK; have HK := Lib.hid hK; clear hK
  go_wp2_with fail
  refine (E2.out _).mono ?_
  rintro e w8 ⟨rfl, hb⟩
  clear c0_ c1_ c2_ c3_ c4_ c5_ c6_ c7_ c8_ c9_ c10_ c11_ c12_ c13_ c14_ z0_ z1_ z2_
  have hK := K_Ub.below hb HK.out
  clear hb HK
  obtain ⟨c0_, c1_, c2_, c3_, c4_, c5_, c6_, c7_, c8_, c9_, c10_, c11_, c12_, c13_, c14_⟩ := K_Ub.cells hK; obtain ⟨z0_, z1_, z2_, -⟩ := K_Ub.zs hK; have HK := Lib.hid hK; clear hK
  go_wp2_with fail
  refine (O1.out _).mono ?_
  rintro e w9 ⟨rfl, hb⟩
  clear c0_ c1_ c2_ c3_ c4_ c5_ c6_ c7_ c8_ c9_ c10_ c11_ c12_ c13_ c14_ z0_ z1_ z2_
  have hK : K_Uc x0 x1 x2 x3 0 0 0 0 0 n0 n1 n2 n3 d m0 m1 m2 m3 f w9.heap.size w6.heap.size w.heap.size (w.heap.size + 1) w _ := KL.push4 (K_Ub.below hb HK.out) x0 x1 x2 x3 31 _ rfl
  clear hb HK
  obtain ⟨c0_, c1_, c2_, c3_, c4_, c5_, c6_, c7_, c8_, c9_, c10_, c11_, c12_, c13_, c14_, c15_, c16_, c17_, c18_⟩ := K_Uc.cells hK; obtain ⟨z0_, z1_, z2_, z3_, -⟩ := K_Uc.zs hK; have HK := Lib.hid hK; clear hK
  go_wp2_with fail
  refine (O2.out _).mono ?_
  rintro e w10 ⟨rfl, hb⟩
  clear c0_ c1_ c2_ c3_ c4_ c5_ c6_ c7_ c8_ c9_ c10_ c11_ c12_ c13_ c14_ c15_ c16_ c17_ c18_ z0_ z1_ z2_ z3_
  have hk : K_Ud y0 y1 y2 y3 x0 x1 x2 x3 0 0 0 0 0 w10.heap.size w9.heap.size w6.heap.size w _ := KL.sub (KL.push4 (K_Uc.below hb HK.out) y0 y1 y2 y3 31 _ rfl) (fun x hx => by simp only [List.mem_cons, List.not_mem_nil, or_false] at hx ⊢; rcases hx with rfl | rfl | rfl | rfl | rfl | rfl | rfl | rfl | rfl | rfl | rfl | rfl | rfl <;> simp) (fun x hx => by simp at hx)
  clear hb HK
  go_wp2_with fail
  generalize w10.alloc (.cells #[.int .i64 y0, .int .i64 y1, .int .i64 y2, .int .i64 y3] 31) = W1 at hk ⊢
  generalize w10.heap.size = ky at hk ⊢
  generalize w9.heap.size = kx at hk ⊢
  generalize w6.heap.size = ks at hk ⊢
  go_region_held3 (fun w' => (w'.cell? ⟨ky, 0, none⟩ = some (.int .i64 y0) ∧ w'.cell? ⟨ky, 1, none⟩ = some (.int .i64 y1) ∧ w'.cell? ⟨ky, 2, none⟩ = some (.int .i64 y2) ∧ w'.cell? ⟨ky, 3, none⟩ = some (.int .i64 y3) ∧ w'.cell? ⟨kx, 0, none⟩ = some (.int .i64 x0) ∧ w'.cell? ⟨kx, 1, none⟩ = some (.int .i64 x1) ∧ w'.cell? ⟨kx, 2, none⟩ = some (.int .i64 x2) ∧ w'.cell? ⟨kx, 3, none⟩ = some (.int .i64 x3) ∧ w'.cell? ⟨ks, 0, none⟩ = some (.int .i64 0) ∧ w'.cell? ⟨ks, 1, none⟩ = some (.int .i64 0) ∧ w'.cell? ⟨ks, 2, none⟩ = some (.int .i64 0) ∧ w'.cell? ⟨ks, 3, none⟩ = some (.int .i64 0) ∧ w'.cell? ⟨ks, 4, none⟩ = some (.int .i64 0)) ∧ K_Ud y0 y1 y2 y3 x0 x1 x2 x3 0 0 0 0 0 ky kx ks w w') ((refine K_Ud.ks ?_; repeat (first | (with_reducible assumption) | (with_reducible refine K_Ud.draws _ ?_) | (with_reducible refine K_Ud.drew ?_) | (with_reducible refine K_Ud.alloc _ ?_) | (with_reducible refine K_Ud.set ?_ _ _ _ (by omega)))))
    (first
      | (go_at_call 23; (with_reducible refine (NX.out _).mono ?_); rintro e w' ⟨rfl, hbel⟩; have hk' := K_Ud.below hbel (And.right (by assumption)); clear hbel)
      | (go_at_call 23; (with_reducible refine (NY.out _).mono ?_); rintro e w'' ⟨rfl, hbel⟩; have hk'' := K_Ud.below hbel (And.right (by assumption)); clear hbel))
  all_goals
    have hK := hk''
    clear hk hk' hk''
    obtain ⟨c0_, c1_, c2_, c3_, c4_, c5_, c6_, c7_, c8_, c9_, c10_, c11_, c12_⟩ := K_Ud.cells hK; obtain ⟨z0_, z1_, z2_, -⟩ := K_Ud.zs hK; have HK := Lib.hid hK; clear hK
    go_wp2_with fail
    refine (ZR.out _).mono ?_
    rintro e w12 ⟨rfl, hb⟩
    have HB := Lib.hid (K_Ud.bel (K_Ud.below hb HK.out))
    clear c0_ c1_ c2_ c3_ c4_ c5_ c6_ c7_ c8_ c9_ c10_ c11_ c12_ z0_ z1_ z2_
    clear hb HK
    go_wp2
    go_ret
    exact ⟨rfl, by (repeat (first | (with_reducible exact Below.refl _ _) | (with_reducible exact HB.out) | (with_reducible refine below_draws ?_ _) | (with_reducible refine Below.alloc ?_ (by go_size) _) | (with_reducible refine Below.setCell ?_ (by go_size) _) | (with_reducible refine Below.alloc ?_ (by simp <;> omega) _) | (with_reducible refine Below.setCell ?_ (by simp <;> omega) _)))⟩
set_option maxHeartbeats 6400000 in
theorem units_ok (n0 n1 n2 n3 d m0 m1 m2 m3 f : Int) (w : World) (h : acE ⟨n0, n1, n2, n3, d⟩ = 0) (h2 : acE ⟨m0, m1, m2, m3, f⟩ = 0) (hn : N (acH ⟨n0, n1, n2, n3, d⟩) * N (acH ⟨m0, m1, m2, m3, f⟩) ≤ 1000000) :
    Calls Try.prog 4 #[.agg #[.int .i64 n0, .int .i64 n1, .int .i64 n2, .int .i64 n3, .int .i64 d], .agg #[.int .i64 m0, .int .i64 m1, .int .i64 m2, .int .i64 m3, .int .i64 f]] w fun e w' => e = .returned (.bool true) ∧ Below w.heap.size w w' := by
  have hh : acE2 ⟨n0, n1, n2, n3, d⟩ ⟨m0, m1, m2, m3, f⟩ = 0 := by unfold acE2; rw [if_pos h]; exact h2
  have ex : acX ⟨n0, n1, n2, n3, d⟩ ⟨m0, m1, m2, m3, f⟩ = acH ⟨n0, n1, n2, n3, d⟩ := rfl
  have ey : acY ⟨n0, n1, n2, n3, d⟩ ⟨m0, m1, m2, m3, f⟩ = acH ⟨m0, m1, m2, m3, f⟩ := if_pos h
  obtain ⟨px, nx, bx, py, ny, by'⟩ := acc2_bd hh
  have TI := Lib.hid (fun W => Times_ok n0 n1 n2 n3 d m0 m1 m2 m3 f W hh (by rw [ex, ey]; exact hn))
  have E1 := Lib.hid (fun W => rErr_any n0 n1 n2 n3 d W)
  have E2 := Lib.hid (fun W => rErr_any m0 m1 m2 m3 f W)
  have O1 := Lib.hid (fun W => rOf_acc n0 n1 n2 n3 d W h)
  have O2 := Lib.hid (fun W => rOf_acc m0 m1 m2 m3 f W h2)
  rw [h] at E1
  rw [h2] at E2
  rw [ex, ey] at *
  generalize acH ⟨n0, n1, n2, n3, d⟩ = x at *
  generalize acH ⟨m0, m1, m2, m3, f⟩ = y at *
  have NX := Lib.hid (fun W => rNorm_h x W (HBup bx (by decide)))
  have NY := Lib.hid (fun W => rNorm_h y W (HBup by' (by decide)))
  have nx0 := N_nonneg x
  have ny0 := N_nonneg y
  have pm0 : 0 ≤ N x * N y := Int.mul_nonneg nx0 ny0
  have pm1 : N x * N y ≤ 1000000 * 1000000 := Int.mul_le_mul nx ny ny0 (by omega)
  have t1 : decide (N x * N y > 1000000) = false := decide_eq_false (by omega)
  have t2 : decide (1000000 < N x * N y) = false := t1
  have hp := (by_sc px py).1
  have hN := N_by px py
  obtain ⟨a1, a2⟩ := ac_toQ hp (by rw [hN]; exact hn)
  have RT := Lib.hid (fun W => rTimes_h x y W (HBup bx (by decide)) (HBup by' (by decide)))
  have RQ2 := Lib.hid (fun W => rQuat_h (by_ x y) W hp (HBup (by_hb px py hn) (by decide)))
  have NP := Lib.hid (fun W => Norm_any (toQ (by_ x y)).w (toQ (by_ x y)).x (toQ (by_ x y)).y (toQ (by_ x y)).z (toQ (by_ x y)).d W)
  rw [show (Q.mk (toQ (by_ x y)).w (toQ (by_ x y)).x (toQ (by_ x y)).y (toQ (by_ x y)).z (toQ (by_ x y)).d) = toQ (by_ x y) from rfl, a1, a2, hN] at NP
  clear h h2 hh ex ey px py bx by' nx ny nx0 ny0 hn hp hN a1 a2
  generalize toQ (by_ x y) = qq at *
  generalize by_ x y = z at *
  generalize N x = na at *
  generalize N y = nb at *
  obtain ⟨x0, x1, x2, x3⟩ := x
  obtain ⟨y0, y1, y2, y3⟩ := y
  obtain ⟨z0, z1, z2, z3⟩ := z
  obtain ⟨r0, r1, r2, r3, r4⟩ := qq
  simp only [] at O1 O2 NX NY TI RT RQ2 NP
  have ew := IntWalk.i64_in (na * nb) (by omega)
  have eq : ∀ W : World, (Op.equalIn 10000 23 (.agg #[.int .i64 r0, .int .i64 r1, .int .i64 r2, .int .i64 r3, .int .i64 r4]) (.agg #[.int .i64 r0, .int .i64 r1, .int .i64 r2, .int .i64 r3, .int .i64 r4])).run Try.prog W = .ok true W := fun W => by rw [Try.eqQ]; simp
  have EQ := Lib.hid eq
  clear eq
  go_enter Try.func4, Try.ntmps4
  go_wp2_with fail
  have hK : K_Ua n0 n1 n2 n3 d m0 m1 m2 m3 f w.heap.size (w.heap.size + 1) w ((w.alloc (.cells #[.int .i64 n0, .int .i64 n1, .int .i64 n2, .int .i64 n3, .int .i64 d] 23)).alloc (.cells #[.int .i64 m0, .int .i64 m1, .int .i64 m2, .int .i64 m3, .int .i64 f] 23)) := ⟨by simp [go_sem], by simp [go_sem], by simp [go_sem], by (repeat (first | (with_reducible exact Below.refl _ _) | (with_reducible exact HB.out) | (with_reducible refine below_draws ?_ _) | (with_reducible refine Below.alloc ?_ (by go_size) _) | (with_reducible refine Below.setCell ?_ (by go_size) _) | (with_reducible refine Below.alloc ?_ (by simp <;> omega) _) | (with_reducible refine Below.setCell ?_ (by simp <;> omega) _)))⟩
  refine (awake_any _).mono ?_
  rintro e w1 ⟨rfl, hb⟩
  have hK := K_Ua.below hb hK
  clear hb
  go_wp2_with fail
  refine (Units_rq _).mono ?_
  rintro e w2 ⟨B1, c1, rfl, hq1, hc1, hl1, hb⟩
  have hK := K_Ua.below hb hK
  clear hb
  go_wp2_with fail
  refine (rUnits_any _).mono ?_
  rintro e w3 ⟨v3, rfl, hown, hb⟩
  obtain ⟨B2, c2, rfl, hLH, hc2, hl2⟩ := LH.of hown
  have hK := K_Ua.below hb hK
  have hq1 := RQ.next hq1 hb
  clear hb hown
  go_wp2_with fail
  refine (rQuats_U _ _ _ _ hLH hc2 hl2).mono ?_
  rintro e w4 ⟨B3, c3, rfl, hq3, hc3, hl3, hb⟩
  have hK := K_Ua.below hb hK
  have hq1 := RQ.next hq1 hb
  clear hb hLH hc2 hl2
  go_wp2_with fail
  refine (SameQuats_same (U24.map toQ) B1 B3 c1 c3 _ hq1 hq3 UQ_len hc1 hl1 hc3 hl3).mono ?_
  rintro e w5 ⟨rfl, hb⟩
  have hK := K_Ua.below hb hK
  clear hb hq1 hq3 hc1 hl1 hc3 hl3
  obtain ⟨c0_, c1_, c2_, c3_, c4_, c5_, c6_, c7_, c8_, c9_⟩ := K_Ua.cells hK; obtain ⟨z0_, z1_, -⟩ := K_Ua.zs hK; have HK := Lib.hid hK; clear hK
  go_wp2_with fail
  refine (TI.out _).mono ?_
  rintro e w6 ⟨rfl, hb⟩
  clear c0_ c1_ c2_ c3_ c4_ c5_ c6_ c7_ c8_ c9_ z0_ z1_
  have hK := K_Ua.below hb HK.out
  have hK : K_Ub r0 r1 r2 r3 r4 n0 n1 n2 n3 d m0 m1 m2 m3 f w6.heap.size w.heap.size (w.heap.size + 1) w _ := KL.push5 hK r0 r1 r2 r3 r4 23 _ rfl
  clear hb HK
  obtain ⟨c0_, c1_, c2_, c3_, c4_, c5_, c6_, c7_, c8_, c9_, c10_, c11_, c12_, c13_, c14_⟩ := K_Ub.cells hK; obtain ⟨z0_, z1_, z2_, -⟩ := K_Ub.zs hK; have HK := Lib.hid hK; clear hK
  go_wp2_with fail
  refine (E1.out _).mono ?_
  rintro e w7 ⟨rfl, hb⟩
  clear c0_ c1_ c2_ c3_ c4_ c5_ c6_ c7_ c8_ c9_ c10_ c11_ c12_ c13_ c14_ z0_ z1_ z2_
  have hK := K_Ub.below hb HK.out
  clear hb HK
  obtain ⟨c0_, c1_, c2_, c3_, c4_, c5_, c6_, c7_, c8_, c9_, c10_, c11_, c12_, c13_, c14_⟩ := K_Ub.cells hK; obtain ⟨z0_, z1_, z2_, -⟩ := K_Ub.zs hK; have HK := Lib.hid hK; clear hK
  go_wp2_with fail
  refine (E2.out _).mono ?_
  rintro e w8 ⟨rfl, hb⟩
  clear c0_ c1_ c2_ c3_ c4_ c5_ c6_ c7_ c8_ c9_ c10_ c11_ c12_ c13_ c14_ z0_ z1_ z2_
  have hK := K_Ub.below hb HK.out
  clear hb HK
  obtain ⟨c0_, c1_, c2_, c3_, c4_, c5_, c6_, c7_, c8_, c9_, c10_, c11_, c12_, c13_, c14_⟩ := K_Ub.cells hK; obtain ⟨z0_, z1_, z2_, -⟩ := K_Ub.zs hK; have HK := Lib.hid hK; clear hK
  go_wp2_with fail
  refine (O1.out _).mono ?_
  rintro e w9 ⟨rfl, hb⟩
  clear c0_ c1_ c2_ c3_ c4_ c5_ c6_ c7_ c8_ c9_ c10_ c11_ c12_ c13_ c14_ z0_ z1_ z2_
  have hK : K_Uc x0 x1 x2 x3 r0 r1 r2 r3 r4 n0 n1 n2 n3 d m0 m1 m2 m3 f w9.heap.size w6.heap.size w.heap.size (w.heap.size + 1) w _ := KL.push4 (K_Ub.below hb HK.out) x0 x1 x2 x3 31 _ rfl
  clear hb HK
  obtain ⟨c0_, c1_, c2_, c3_, c4_, c5_, c6_, c7_, c8_, c9_, c10_, c11_, c12_, c13_, c14_, c15_, c16_, c17_, c18_⟩ := K_Uc.cells hK; obtain ⟨z0_, z1_, z2_, z3_, -⟩ := K_Uc.zs hK; have HK := Lib.hid hK; clear hK
  go_wp2_with fail
  refine (O2.out _).mono ?_
  rintro e w10 ⟨rfl, hb⟩
  clear c0_ c1_ c2_ c3_ c4_ c5_ c6_ c7_ c8_ c9_ c10_ c11_ c12_ c13_ c14_ c15_ c16_ c17_ c18_ z0_ z1_ z2_ z3_
  have hk : K_Ud y0 y1 y2 y3 x0 x1 x2 x3 r0 r1 r2 r3 r4 w10.heap.size w9.heap.size w6.heap.size w _ := KL.sub (KL.push4 (K_Uc.below hb HK.out) y0 y1 y2 y3 31 _ rfl) (fun x hx => by simp only [List.mem_cons, List.not_mem_nil, or_false] at hx ⊢; rcases hx with rfl | rfl | rfl | rfl | rfl | rfl | rfl | rfl | rfl | rfl | rfl | rfl | rfl <;> simp) (fun x hx => by simp at hx)
  clear hb HK
  go_wp2_with fail
  generalize w10.alloc (.cells #[.int .i64 y0, .int .i64 y1, .int .i64 y2, .int .i64 y3] 31) = W1 at hk ⊢
  generalize w10.heap.size = ky at hk ⊢
  generalize w9.heap.size = kx at hk ⊢
  generalize w6.heap.size = ks at hk ⊢
  go_region_held3 (fun w' => (w'.cell? ⟨ky, 0, none⟩ = some (.int .i64 y0) ∧ w'.cell? ⟨ky, 1, none⟩ = some (.int .i64 y1) ∧ w'.cell? ⟨ky, 2, none⟩ = some (.int .i64 y2) ∧ w'.cell? ⟨ky, 3, none⟩ = some (.int .i64 y3) ∧ w'.cell? ⟨kx, 0, none⟩ = some (.int .i64 x0) ∧ w'.cell? ⟨kx, 1, none⟩ = some (.int .i64 x1) ∧ w'.cell? ⟨kx, 2, none⟩ = some (.int .i64 x2) ∧ w'.cell? ⟨kx, 3, none⟩ = some (.int .i64 x3) ∧ w'.cell? ⟨ks, 0, none⟩ = some (.int .i64 r0) ∧ w'.cell? ⟨ks, 1, none⟩ = some (.int .i64 r1) ∧ w'.cell? ⟨ks, 2, none⟩ = some (.int .i64 r2) ∧ w'.cell? ⟨ks, 3, none⟩ = some (.int .i64 r3) ∧ w'.cell? ⟨ks, 4, none⟩ = some (.int .i64 r4)) ∧ K_Ud y0 y1 y2 y3 x0 x1 x2 x3 r0 r1 r2 r3 r4 ky kx ks w w') ((refine K_Ud.ks ?_; repeat (first | (with_reducible assumption) | (with_reducible refine K_Ud.draws _ ?_) | (with_reducible refine K_Ud.drew ?_) | (with_reducible refine K_Ud.alloc _ ?_) | (with_reducible refine K_Ud.set ?_ _ _ _ (by omega)))))
    (first
      | (go_at_call 23; (with_reducible refine (NX.out _).mono ?_); rintro e w' ⟨rfl, hbel⟩; have hk' := K_Ud.below hbel (And.right (by assumption)); clear hbel)
      | (go_at_call 23; (with_reducible refine (NY.out _).mono ?_); rintro e w'' ⟨rfl, hbel⟩; have hk'' := K_Ud.below hbel (And.right (by assumption)); clear hbel))
  all_goals
    have hK := hk''
    clear hk hk' hk''
    obtain ⟨c0_, c1_, c2_, c3_, c4_, c5_, c6_, c7_, c8_, c9_, c10_, c11_, c12_⟩ := K_Ud.cells hK; obtain ⟨z0_, z1_, z2_, -⟩ := K_Ud.zs hK; have HK := Lib.hid hK; clear hK
    clear c0_ c1_ c2_ c3_ c4_ c5_ c6_ c7_ c8_ c9_ c10_ c11_ c12_ z0_ z1_ z2_
    have hk := HK.out
    clear HK
    go_wp2_with fail
    have eq := EQ.out
    go_region_held3 (fun w' => (w'.cell? ⟨ky, 0, none⟩ = some (.int .i64 y0) ∧ w'.cell? ⟨ky, 1, none⟩ = some (.int .i64 y1) ∧ w'.cell? ⟨ky, 2, none⟩ = some (.int .i64 y2) ∧ w'.cell? ⟨ky, 3, none⟩ = some (.int .i64 y3) ∧ w'.cell? ⟨kx, 0, none⟩ = some (.int .i64 x0) ∧ w'.cell? ⟨kx, 1, none⟩ = some (.int .i64 x1) ∧ w'.cell? ⟨kx, 2, none⟩ = some (.int .i64 x2) ∧ w'.cell? ⟨kx, 3, none⟩ = some (.int .i64 x3) ∧ w'.cell? ⟨ks, 0, none⟩ = some (.int .i64 r0) ∧ w'.cell? ⟨ks, 1, none⟩ = some (.int .i64 r1) ∧ w'.cell? ⟨ks, 2, none⟩ = some (.int .i64 r2) ∧ w'.cell? ⟨ks, 3, none⟩ = some (.int .i64 r3) ∧ w'.cell? ⟨ks, 4, none⟩ = some (.int .i64 r4)) ∧ K_Ud y0 y1 y2 y3 x0 x1 x2 x3 r0 r1 r2 r3 r4 ky kx ks w w') ((refine K_Ud.ks ?_; repeat (first | (with_reducible assumption) | (with_reducible refine K_Ud.draws _ ?_) | (with_reducible refine K_Ud.drew ?_) | (with_reducible refine K_Ud.alloc _ ?_) | (with_reducible refine K_Ud.set ?_ _ _ _ (by omega)))))
      (first
        | (go_at_call 33; (with_reducible refine (RT.out _).mono ?_); rintro e v' ⟨rfl, hbel⟩; have hj' := K_Ud.below hbel (And.right (by assumption)); clear hbel)
        | (go_at_call 25; (with_reducible refine (RQ2.out _).mono ?_); rintro e v'' ⟨rfl, hbel⟩; have hj'' := K_Ud.below hbel (And.right (by assumption)); clear hbel))
    all_goals
      have hK := hj''
      clear hk hj' hj'' eq
      obtain ⟨c0_, c1_, c2_, c3_, c4_, c5_, c6_, c7_, c8_, c9_, c10_, c11_, c12_⟩ := K_Ud.cells hK; obtain ⟨z0_, z1_, z2_, -⟩ := K_Ud.zs hK; have HK := Lib.hid hK; clear hK
      go_wp2_with fail
      refine (NP.out _).mono ?_
      rintro e w13 ⟨rfl, hb⟩
      clear c0_ c1_ c2_ c3_ c4_ c5_ c6_ c7_ c8_ c9_ c10_ c11_ c12_ z0_ z1_ z2_
      have hk := K_Ud.below hb HK.out
      clear hb HK
      go_wp2_with fail
      go_region_held3 (fun w' => (w'.cell? ⟨ky, 0, none⟩ = some (.int .i64 y0) ∧ w'.cell? ⟨ky, 1, none⟩ = some (.int .i64 y1) ∧ w'.cell? ⟨ky, 2, none⟩ = some (.int .i64 y2) ∧ w'.cell? ⟨ky, 3, none⟩ = some (.int .i64 y3) ∧ w'.cell? ⟨kx, 0, none⟩ = some (.int .i64 x0) ∧ w'.cell? ⟨kx, 1, none⟩ = some (.int .i64 x1) ∧ w'.cell? ⟨kx, 2, none⟩ = some (.int .i64 x2) ∧ w'.cell? ⟨kx, 3, none⟩ = some (.int .i64 x3) ∧ w'.cell? ⟨ks, 0, none⟩ = some (.int .i64 r0) ∧ w'.cell? ⟨ks, 1, none⟩ = some (.int .i64 r1) ∧ w'.cell? ⟨ks, 2, none⟩ = some (.int .i64 r2) ∧ w'.cell? ⟨ks, 3, none⟩ = some (.int .i64 r3) ∧ w'.cell? ⟨ks, 4, none⟩ = some (.int .i64 r4)) ∧ K_Ud y0 y1 y2 y3 x0 x1 x2 x3 r0 r1 r2 r3 r4 ky kx ks w w') ((refine K_Ud.ks ?_; repeat (first | (with_reducible assumption) | (with_reducible refine K_Ud.draws _ ?_) | (with_reducible refine K_Ud.drew ?_) | (with_reducible refine K_Ud.alloc _ ?_) | (with_reducible refine K_Ud.set ?_ _ _ _ (by omega)))))
        (first
          | (go_at_call 23; (with_reducible refine (NX.out _).mono ?_); rintro e u' ⟨rfl, hbel⟩; have hj' := K_Ud.below hbel (And.right (by assumption)); clear hbel)
          | (go_at_call 23; (with_reducible refine (NY.out _).mono ?_); rintro e u'' ⟨rfl, hbel⟩; have hj'' := K_Ud.below hbel (And.right (by assumption)); clear hbel))
      all_goals
        go_wp2
        go_ret
        exact ⟨by simp, K_Ud.bel hj''⟩
theorem walk_units (n0 n1 n2 n3 d m0 m1 m2 m3 f : Int) (w : World) :
    Calls Try.prog 4 #[.agg #[.int .i64 n0, .int .i64 n1, .int .i64 n2, .int .i64 n3, .int .i64 d], .agg #[.int .i64 m0, .int .i64 m1, .int .i64 m2, .int .i64 m3, .int .i64 f]] w fun e w' => e = .returned (.bool true) ∧ Below w.heap.size w w' := by
  by_cases h : acE ⟨n0, n1, n2, n3, d⟩ = 0
  · by_cases h2 : acE ⟨m0, m1, m2, m3, f⟩ = 0
    · by_cases hn : N (acH ⟨n0, n1, n2, n3, d⟩) * N (acH ⟨m0, m1, m2, m3, f⟩) ≤ 1000000
      · exact units_ok _ _ _ _ _ _ _ _ _ _ w h h2 hn
      · exact units_large _ _ _ _ _ _ _ _ _ _ w h h2 (by omega)
    · exact units_e2 _ _ _ _ _ _ _ _ _ _ w h h2
  · exact units_e1 _ _ _ _ _ _ _ _ _ _ w h
end Go.Proofs.Yteiflfmpkfhkoaa.Rt
