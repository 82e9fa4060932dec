/-
  WALKS: powers with exponents from 0 on.
-/
import Derived.Test.YtgbnmnkgelklbaaAlA
import Derived.Test.YtgbnmnkgelklbaaAl6
namespace Go.Proofs.Ytgbnmnkgelklbaa.Al
open Go.RowKit
open Alm
set_option linter.unusedVariables false
set_option linter.unusedSimpArgs false
set_option maxRecDepth 100000
/-- powers one after the other -/
def pwr (A B : Int) (q : Q) : Nat → Option Q
  | 0 => some ⟨1, 0, 0, 0, 1⟩
  | k + 1 => match pwr A B q k with
    | none => none
    | some r => if qB (mulq A B r q).low then some (mulq A B r q).low else none
def pwrE (A B : Int) (q : Q) (k : Nat) : Int := if (pwr A B q k).isSome then 0 else 8
def pwrQ (A B : Int) (q : Q) (k : Nat) : Q := (pwr A B q k).getD ⟨0, 0, 0, 0, 0⟩
theorem pwr_awake : pwr (-1) (-1) ⟨1, 1, 1, 1, 2⟩ 3 = some ⟨-1, 0, 0, 0, 1⟩ := by kernel_rfl
theorem pwr_qB {A B : Int} {q : Q} : ∀ {k : Nat} {r : Q}, pwr A B q k = some r → qB r = true
  | 0, r, h => by injection h with h; subst h; decide
  | k + 1, r, h => by
    unfold pwr at h
    split at h
    · cases h
    · split at h
      · injection h with h; subst h; assumption
      · cases h
theorem pwr_next {A B : Int} {q r : Q} {k : Nat} (h : pwr A B q k = some r) (hq : qB (mulq A B r q).low = true) : pwr A B q (k + 1) = some (mulq A B r q).low := by
  unfold pwr; rw [h]; simp only [hq, if_true]
theorem pwr_stop {A B : Int} {q r : Q} {k : Nat} (h : pwr A B q k = some r) (hq : qB (mulq A B r q).low = false) : ∀ n, k < n → pwr A B q n = none := by
  intro n hn
  obtain ⟨j, rfl⟩ : ∃ j, n = k + 1 + j := ⟨n - (k + 1), by omega⟩
  clear hn
  induction j with
  | zero => unfold pwr; rw [h]; simp only [hq]; rfl
  | succ j ih => rw [show k + 1 + (j + 1) = (k + 1 + j) + 1 by omega]; unfold pwr; rw [ih]
/-- the first of two errors, in a list that was made -/
theorem Or_new (x y : Int) (T : TypeId) (w : World) (n : Nat) (hn : n = w.heap.size) :
    Calls Try.prog 38 #[.slice (some ⟨n, 0, none⟩) 2 2] (w.alloc (.cells #[.int .i64 x, .int .i64 y] T)) fun e w' => e = .returned (.int .i64 (or2 x y)) ∧ w.alloc (.cells #[.int .i64 x, .int .i64 y] T) = w' := by
  subst hn
  exact Or_any x y _ 2 _ _ rfl (by decide) (by decide) (by simp [go_sem]) (by simp [go_sem])
/-- what a walk keeps: cells, and that nothing that was there has turned -/
def K_V (A B n0 n1 n2 n3 d : Int) (b1 b2 R : Nat) (w w' : World) : Prop := KL w [(b1, 0, .int .i64 A), (b1, 1, .int .i64 B), (b2, 0, .int .i64 n0), (b2, 1, .int .i64 n1), (b2, 2, .int .i64 n2), (b2, 3, .int .i64 n3), (b2, 4, .int .i64 d)] [(R, 0), (R, 1), (R, 2), (R, 3), (R, 4)] w'
theorem K_V.below {A B n0 n1 n2 n3 d : Int} {b1 b2 R : Nat} {w w1 w2 : World} (hb : Below w1.heap.size w1 w2) (h : K_V A B n0 n1 n2 n3 d b1 b2 R w w1) : K_V A B n0 n1 n2 n3 d b1 b2 R w w2 := KL.below hb h
theorem K_V.draws {A B n0 n1 n2 n3 d : Int} {b1 b2 R : Nat} {w w1 : World} (n : Nat) (h : K_V A B n0 n1 n2 n3 d b1 b2 R w w1) : K_V A B n0 n1 n2 n3 d b1 b2 R w (w1.drewN n) := KL.draws n h
theorem K_V.drew {A B n0 n1 n2 n3 d : Int} {b1 b2 R : Nat} {w w1 : World} (h : K_V A B n0 n1 n2 n3 d b1 b2 R w w1) : K_V A B n0 n1 n2 n3 d b1 b2 R w w1.drew := KL.draws 1 h
theorem K_V.alloc {A B n0 n1 n2 n3 d : Int} {b1 b2 R : Nat} {w w1 : World} (o : Obj) (h : K_V A B n0 n1 n2 n3 d b1 b2 R w w1) : K_V A B n0 n1 n2 n3 d b1 b2 R w (w1.alloc o) := KL.alloc o h
theorem K_V.set {A B n0 n1 n2 n3 d : Int} {b1 b2 R : Nat} {w w1 : World} (h : K_V A B n0 n1 n2 n3 d b1 b2 R w w1) (b i : Nat) (v : Value) (hb : b ≠ b1 ∧ b ≠ b2 ∧ w.heap.size ≤ b) : K_V A B n0 n1 n2 n3 d b1 b2 R w (w1.setCell ⟨b, i, none⟩ v) :=
  KL.set h b i v (by intro x hx; simp only [List.mem_cons, List.not_mem_nil, or_false] at hx; rcases hx with rfl | rfl | rfl | rfl | rfl | rfl | rfl <;> simp only [] <;> omega) (by omega)
theorem K_V.bel {A B n0 n1 n2 n3 d : Int} {b1 b2 R : Nat} {w w1 : World} (h : K_V A B n0 n1 n2 n3 d b1 b2 R w w1) : Below w.heap.size w w1 := KL.bel h
theorem K_V.cells {A B n0 n1 n2 n3 d : Int} {b1 b2 R : Nat} {w w' : World} (h : K_V A B n0 n1 n2 n3 d b1 b2 R w w') : w'.cell? ⟨b1, 0, none⟩ = some (.int .i64 A) ∧ w'.cell? ⟨b1, 1, none⟩ = some (.int .i64 B) ∧ w'.cell? ⟨b2, 0, none⟩ = some (.int .i64 n0) ∧ w'.cell? ⟨b2, 1, none⟩ = some (.int .i64 n1) ∧ w'.cell? ⟨b2, 2, none⟩ = some (.int .i64 n2) ∧ w'.cell? ⟨b2, 3, none⟩ = some (.int .i64 n3) ∧ w'.cell? ⟨b2, 4, none⟩ = some (.int .i64 d) ∧ w'.cell? ⟨R, 0, none⟩ = some (cv w' R 0) ∧ w'.frozen? ⟨R, 0, none⟩ = false ∧ w'.cell? ⟨R, 1, none⟩ = some (cv w' R 1) ∧ w'.frozen? ⟨R, 1, none⟩ = false ∧ w'.cell? ⟨R, 2, none⟩ = some (cv w' R 2) ∧ w'.frozen? ⟨R, 2, none⟩ = false ∧ w'.cell? ⟨R, 3, none⟩ = some (cv w' R 3) ∧ w'.frozen? ⟨R, 3, none⟩ = false ∧ w'.cell? ⟨R, 4, none⟩ = some (cv w' R 4) ∧ w'.frozen? ⟨R, 4, none⟩ = false := ⟨h.c (b1, 0, .int .i64 A) (by simp), h.c (b1, 1, .int .i64 B) (by simp), h.c (b2, 0, .int .i64 n0) (by simp), h.c (b2, 1, .int .i64 n1) (by simp), h.c (b2, 2, .int .i64 n2) (by simp), h.c (b2, 3, .int .i64 n3) (by simp), h.c (b2, 4, .int .i64 d) (by simp), h.d (R, 0) (by simp), h.f (R, 0) (by simp), h.d (R, 1) (by simp), h.f (R, 1) (by simp), h.d (R, 2) (by simp), h.f (R, 2) (by simp), h.d (R, 3) (by simp), h.f (R, 3) (by simp), h.d (R, 4) (by simp), h.f (R, 4) (by simp)⟩
theorem K_V.zs {A B n0 n1 n2 n3 d : Int} {b1 b2 R : Nat} {w w' : World} (h : K_V A B n0 n1 n2 n3 d b1 b2 R w w') : b1 < w'.heap.size ∧ b2 < w'.heap.size ∧ R < w'.heap.size ∧ True := ⟨KL.z h (x := (b1, 0, .int .i64 A)) (by simp), KL.z h (x := (b2, 0, .int .i64 n0)) (by simp), KL.zf h (x := (R, 0)) (by simp), trivial⟩
theorem K_V.ks {A B n0 n1 n2 n3 d : Int} {b1 b2 R : Nat} {w w' : World} (h : K_V A B n0 n1 n2 n3 d b1 b2 R w w') : (w'.cell? ⟨b1, 0, none⟩ = some (.int .i64 A) ∧ w'.cell? ⟨b1, 1, none⟩ = some (.int .i64 B) ∧ w'.cell? ⟨b2, 0, none⟩ = some (.int .i64 n0) ∧ w'.cell? ⟨b2, 1, none⟩ = some (.int .i64 n1) ∧ w'.cell? ⟨b2, 2, none⟩ = some (.int .i64 n2) ∧ w'.cell? ⟨b2, 3, none⟩ = some (.int .i64 n3) ∧ w'.cell? ⟨b2, 4, none⟩ = some (.int .i64 d) ∧ w'.cell? ⟨R, 0, none⟩ = some (cv w' R 0) ∧ w'.frozen? ⟨R, 0, none⟩ = false ∧ w'.cell? ⟨R, 1, none⟩ = some (cv w' R 1) ∧ w'.frozen? ⟨R, 1, none⟩ = false ∧ w'.cell? ⟨R, 2, none⟩ = some (cv w' R 2) ∧ w'.frozen? ⟨R, 2, none⟩ = false ∧ w'.cell? ⟨R, 3, none⟩ = some (cv w' R 3) ∧ w'.frozen? ⟨R, 3, none⟩ = false ∧ w'.cell? ⟨R, 4, none⟩ = some (cv w' R 4) ∧ w'.frozen? ⟨R, 4, none⟩ = false) ∧ K_V A B n0 n1 n2 n3 d b1 b2 R w w' := ⟨h.cells, h⟩
/-- what a walk keeps: cells, and that nothing that was there has turned -/
def K_W (A B n0 n1 n2 n3 d r0 r1 r2 r3 rd : Int) (b1 b2 P R : Nat) (w w' : World) : Prop := KL w [(b1, 0, .int .i64 A), (b1, 1, .int .i64 B), (b2, 0, .int .i64 n0), (b2, 1, .int .i64 n1), (b2, 2, .int .i64 n2), (b2, 3, .int .i64 n3), (b2, 4, .int .i64 d), (P, 0, .int .i64 r0), (P, 1, .int .i64 r1), (P, 2, .int .i64 r2), (P, 3, .int .i64 r3), (P, 4, .int .i64 rd)] [(P, 0), (P, 1), (P, 2), (P, 3), (P, 4), (R, 0), (R, 1), (R, 2), (R, 3), (R, 4)] w'
theorem K_W.below {A B n0 n1 n2 n3 d r0 r1 r2 r3 rd : Int} {b1 b2 P R : Nat} {w w1 w2 : World} (hb : Below w1.heap.size w1 w2) (h : K_W A B n0 n1 n2 n3 d r0 r1 r2 r3 rd b1 b2 P R w w1) : K_W A B n0 n1 n2 n3 d r0 r1 r2 r3 rd b1 b2 P R w w2 := KL.below hb h
theorem K_W.draws {A B n0 n1 n2 n3 d r0 r1 r2 r3 rd : Int} {b1 b2 P R : Nat} {w w1 : World} (n : Nat) (h : K_W A B n0 n1 n2 n3 d r0 r1 r2 r3 rd b1 b2 P R w w1) : K_W A B n0 n1 n2 n3 d r0 r1 r2 r3 rd b1 b2 P R w (w1.drewN n) := KL.draws n h
theorem K_W.drew {A B n0 n1 n2 n3 d r0 r1 r2 r3 rd : Int} {b1 b2 P R : Nat} {w w1 : World} (h : K_W A B n0 n1 n2 n3 d r0 r1 r2 r3 rd b1 b2 P R w w1) : K_W A B n0 n1 n2 n3 d r0 r1 r2 r3 rd b1 b2 P R w w1.drew := KL.draws 1 h
theorem K_W.alloc {A B n0 n1 n2 n3 d r0 r1 r2 r3 rd : Int} {b1 b2 P R : Nat} {w w1 : World} (o : Obj) (h : K_W A B n0 n1 n2 n3 d r0 r1 r2 r3 rd b1 b2 P R w w1) : K_W A B n0 n1 n2 n3 d r0 r1 r2 r3 rd b1 b2 P R w (w1.alloc o) := KL.alloc o h
theorem K_W.set {A B n0 n1 n2 n3 d r0 r1 r2 r3 rd : Int} {b1 b2 P R : Nat} {w w1 : World} (h : K_W A B n0 n1 n2 n3 d r0 r1 r2 r3 rd b1 b2 P R w w1) (b i : Nat) (v : Value) (hb : b ≠ b1 ∧ b ≠ b2 ∧ b ≠ P ∧ w.heap.size ≤ b) : K_W A B n0 n1 n2 n3 d r0 r1 r2 r3 rd b1 b2 P R w (w1.setCell ⟨b, i, none⟩ v) :=
  KL.set h b i v (by intro x hx; simp only [List.mem_cons, List.not_mem_nil, or_false] at hx; rcases hx with rfl | rfl | rfl | rfl | rfl | rfl | rfl | rfl | rfl | rfl | rfl | rfl <;> simp only [] <;> omega) (by omega)
theorem K_W.bel {A B n0 n1 n2 n3 d r0 r1 r2 r3 rd : Int} {b1 b2 P R : Nat} {w w1 : World} (h : K_W A B n0 n1 n2 n3 d r0 r1 r2 r3 rd b1 b2 P R w w1) : Below w.heap.size w w1 := KL.bel h
theorem K_W.cells {A B n0 n1 n2 n3 d r0 r1 r2 r3 rd : Int} {b1 b2 P R : Nat} {w w' : World} (h : K_W A B n0 n1 n2 n3 d r0 r1 r2 r3 rd b1 b2 P R w w') : w'.cell? ⟨b1, 0, none⟩ = some (.int .i64 A) ∧ w'.cell? ⟨b1, 1, none⟩ = some (.int .i64 B) ∧ w'.cell? ⟨b2, 0, none⟩ = some (.int .i64 n0) ∧ w'.cell? ⟨b2, 1, none⟩ = some (.int .i64 n1) ∧ w'.cell? ⟨b2, 2, none⟩ = some (.int .i64 n2) ∧ w'.cell? ⟨b2, 3, none⟩ = some (.int .i64 n3) ∧ w'.cell? ⟨b2, 4, none⟩ = some (.int .i64 d) ∧ w'.cell? ⟨P, 0, none⟩ = some (.int .i64 r0) ∧ w'.cell? ⟨P, 1, none⟩ = some (.int .i64 r1) ∧ w'.cell? ⟨P, 2, none⟩ = some (.int .i64 r2) ∧ w'.cell? ⟨P, 3, none⟩ = some (.int .i64 r3) ∧ w'.cell? ⟨P, 4, none⟩ = some (.int .i64 rd) ∧ w'.frozen? ⟨P, 0, none⟩ = false ∧ w'.frozen? ⟨P, 1, none⟩ = false ∧ w'.frozen? ⟨P, 2, none⟩ = false ∧ w'.frozen? ⟨P, 3, none⟩ = false ∧ w'.frozen? ⟨P, 4, none⟩ = false ∧ w'.cell? ⟨R, 0, none⟩ = some (cv w' R 0) ∧ w'.frozen? ⟨R, 0, none⟩ = false ∧ w'.cell? ⟨R, 1, none⟩ = some (cv w' R 1) ∧ w'.frozen? ⟨R, 1, none⟩ = false ∧ w'.cell? ⟨R, 2, none⟩ = some (cv w' R 2) ∧ w'.frozen? ⟨R, 2, none⟩ = false ∧ w'.cell? ⟨R, 3, none⟩ = some (cv w' R 3) ∧ w'.frozen? ⟨R, 3, none⟩ = false ∧ w'.cell? ⟨R, 4, none⟩ = some (cv w' R 4) ∧ w'.frozen? ⟨R, 4, none⟩ = false := ⟨h.c (b1, 0, .int .i64 A) (by simp), h.c (b1, 1, .int .i64 B) (by simp), h.c (b2, 0, .int .i64 n0) (by simp), h.c (b2, 1, .int .i64 n1) (by simp), h.c (b2, 2, .int .i64 n2) (by simp), h.c (b2, 3, .int .i64 n3) (by simp), h.c (b2, 4, .int .i64 d) (by simp), h.c (P, 0, .int .i64 r0) (by simp), h.c (P, 1, .int .i64 r1) (by simp), h.c (P, 2, .int .i64 r2) (by simp), h.c (P, 3, .int .i64 r3) (by simp), h.c (P, 4, .int .i64 rd) (by simp), h.f (P, 0) (by simp), h.f (P, 1) (by simp), h.f (P, 2) (by simp), h.f (P, 3) (by simp), h.f (P, 4) (by simp), h.d (R, 0) (by simp), h.f (R, 0) (by simp), h.d (R, 1) (by simp), h.f (R, 1) (by simp), h.d (R, 2) (by simp), h.f (R, 2) (by simp), h.d (R, 3) (by simp), h.f (R, 3) (by simp), h.d (R, 4) (by simp), h.f (R, 4) (by simp)⟩
theorem K_W.zs {A B n0 n1 n2 n3 d r0 r1 r2 r3 rd : Int} {b1 b2 P R : Nat} {w w' : World} (h : K_W A B n0 n1 n2 n3 d r0 r1 r2 r3 rd b1 b2 P R w w') : b1 < w'.heap.size ∧ b2 < w'.heap.size ∧ P < w'.heap.size ∧ R < w'.heap.size ∧ True := ⟨KL.z h (x := (b1, 0, .int .i64 A)) (by simp), KL.z h (x := (b2, 0, .int .i64 n0)) (by simp), KL.z h (x := (P, 0, .int .i64 r0)) (by simp), KL.zf h (x := (R, 0)) (by simp), trivial⟩
theorem K_W.ks {A B n0 n1 n2 n3 d r0 r1 r2 r3 rd : Int} {b1 b2 P R : Nat} {w w' : World} (h : K_W A B n0 n1 n2 n3 d r0 r1 r2 r3 rd b1 b2 P R w w') : (w'.cell? ⟨b1, 0, none⟩ = some (.int .i64 A) ∧ w'.cell? ⟨b1, 1, none⟩ = some (.int .i64 B) ∧ w'.cell? ⟨b2, 0, none⟩ = some (.int .i64 n0) ∧ w'.cell? ⟨b2, 1, none⟩ = some (.int .i64 n1) ∧ w'.cell? ⟨b2, 2, none⟩ = some (.int .i64 n2) ∧ w'.cell? ⟨b2, 3, none⟩ = some (.int .i64 n3) ∧ w'.cell? ⟨b2, 4, none⟩ = some (.int .i64 d) ∧ w'.cell? ⟨P, 0, none⟩ = some (.int .i64 r0) ∧ w'.cell? ⟨P, 1, none⟩ = some (.int .i64 r1) ∧ w'.cell? ⟨P, 2, none⟩ = some (.int .i64 r2) ∧ w'.cell? ⟨P, 3, none⟩ = some (.int .i64 r3) ∧ w'.cell? ⟨P, 4, none⟩ = some (.int .i64 rd) ∧ w'.frozen? ⟨P, 0, none⟩ = false ∧ w'.frozen? ⟨P, 1, none⟩ = false ∧ w'.frozen? ⟨P, 2, none⟩ = false ∧ w'.frozen? ⟨P, 3, none⟩ = false ∧ w'.frozen? ⟨P, 4, none⟩ = false ∧ w'.cell? ⟨R, 0, none⟩ = some (cv w' R 0) ∧ w'.frozen? ⟨R, 0, none⟩ = false ∧ w'.cell? ⟨R, 1, none⟩ = some (cv w' R 1) ∧ w'.frozen? ⟨R, 1, none⟩ = false ∧ w'.cell? ⟨R, 2, none⟩ = some (cv w' R 2) ∧ w'.frozen? ⟨R, 2, none⟩ = false ∧ w'.cell? ⟨R, 3, none⟩ = some (cv w' R 3) ∧ w'.frozen? ⟨R, 3, none⟩ = false ∧ w'.cell? ⟨R, 4, none⟩ = some (cv w' R 4) ∧ w'.frozen? ⟨R, 4, none⟩ = false) ∧ K_W A B n0 n1 n2 n3 d r0 r1 r2 r3 rd b1 b2 P R w w' := ⟨h.cells, h⟩
theorem mul_yes {A B n0 n1 n2 n3 d m0 m1 m2 m3 f : Int} {w : World} (hA : Bn 1000 A) (hB : Bn 1000 B) (h : chkQ n0 n1 n2 n3 d = 0) (h' : chkQ m0 m1 m2 m3 f = 0) (s : Q) (hs : (mulq A B ⟨n0, n1, n2, n3, d⟩ ⟨m0, m1, m2, m3, f⟩).low = s) (hq : qB s = true) :
    Calls Try.prog 46 #[.agg #[.int .i64 A, .int .i64 B], .agg #[.int .i64 n0, .int .i64 n1, .int .i64 n2, .int .i64 n3, .int .i64 d], .agg #[.int .i64 m0, .int .i64 m1, .int .i64 m2, .int .i64 m3, .int .i64 f]] w fun e w' => e = .returned (.tuple #[.agg #[.int .i64 (s).w, .int .i64 (s).x, .int .i64 (s).y, .int .i64 (s).z, .int .i64 (s).d], .int .i64 0]) ∧ Below w.heap.size w w' := by
  subst hs
  have := mul_any A B n0 n1 n2 n3 d m0 m1 m2 m3 f w hA hB h h'
  rw [show fitQ (mulq A B ⟨n0, n1, n2, n3, d⟩ ⟨m0, m1, m2, m3, f⟩) = (mulq A B ⟨n0, n1, n2, n3, d⟩ ⟨m0, m1, m2, m3, f⟩).low from by unfold fitQ; rw [if_pos hq], show fitE (mulq A B ⟨n0, n1, n2, n3, d⟩ ⟨m0, m1, m2, m3, f⟩) = 0 from by unfold fitE; rw [if_pos hq]] at this
  exact this
theorem mul_no {A B n0 n1 n2 n3 d m0 m1 m2 m3 f : Int} {w : World} (hA : Bn 1000 A) (hB : Bn 1000 B) (h : chkQ n0 n1 n2 n3 d = 0) (h' : chkQ m0 m1 m2 m3 f = 0) (hq : qB (mulq A B ⟨n0, n1, n2, n3, d⟩ ⟨m0, m1, m2, m3, f⟩).low = false) :
    Calls Try.prog 46 #[.agg #[.int .i64 A, .int .i64 B], .agg #[.int .i64 n0, .int .i64 n1, .int .i64 n2, .int .i64 n3, .int .i64 d], .agg #[.int .i64 m0, .int .i64 m1, .int .i64 m2, .int .i64 m3, .int .i64 f]] w fun e w' => e = .returned (.tuple #[.agg #[.int .i64 0, .int .i64 0, .int .i64 0, .int .i64 0, .int .i64 0], .int .i64 8]) ∧ Below w.heap.size w w' := by
  have := mul_any A B n0 n1 n2 n3 d m0 m1 m2 m3 f w hA hB h h'
  rw [show fitQ (mulq A B ⟨n0, n1, n2, n3, d⟩ ⟨m0, m1, m2, m3, f⟩) = ⟨0, 0, 0, 0, 0⟩ from by unfold fitQ; rw [if_neg (by rw [hq]; exact Bool.false_ne_true)], show fitE (mulq A B ⟨n0, n1, n2, n3, d⟩ ⟨m0, m1, m2, m3, f⟩) = 8 from by unfold fitE; rw [if_neg (by rw [hq]; exact Bool.false_ne_true)]] at this
  exact this
theorem or2_ok {x y : Int} (h : x = 0) (h' : y = 0) : or2 x y = 0 := by unfold or2; rw [if_pos h, h']
theorem Bn_A {A B : Int} (h : chkA A B = 0) : Bn 1000 A ∧ Bn 1000 B := by
  obtain ⟨-, -, h1, h2⟩ := chkA_ok h
  exact ⟨withinB_of h1, withinB_of h2⟩
/-- what Power hands back -/
def PwEnd (A B n0 n1 n2 n3 d : Int) (n : Nat) (w : World) (e : Ending) (w' : World) : Prop :=
  e = .returned (.tuple #[.agg #[.int .i64 (pwrQ A B ⟨n0, n1, n2, n3, d⟩ n).w, .int .i64 (pwrQ A B ⟨n0, n1, n2, n3, d⟩ n).x, .int .i64 (pwrQ A B ⟨n0, n1, n2, n3, d⟩ n).y, .int .i64 (pwrQ A B ⟨n0, n1, n2, n3, d⟩ n).z, .int .i64 (pwrQ A B ⟨n0, n1, n2, n3, d⟩ n).d], .int .i64 (pwrE A B ⟨n0, n1, n2, n3, d⟩ n)]) ∧ Below w.heap.size w w'
end Go.Proofs.Ytgbnmnkgelklbaa.Al
