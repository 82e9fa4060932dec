/-
  WALKS: powers with exponents from 0 on.
-/
import Derived.Test.YtgbnmnkgelklbaaDoorAlA
import Derived.Test.YtgbnmnkgelklbaaDoorAl6
namespace Go.Proofs.YtgbnmnkgelklbaaDoor.Al
open Go.RowKit
open Alm
set_option linter.unusedVariables false
set_option linter.unusedSimpArgs false
set_option maxRecDepth 100000
/-- powers one after the other -/
def pwr (A B : Int) (q : Q) : Nat → Option Q
  | 0 => some ⟨1, 0, 0, 0, 1⟩
  | k + 1 => match pwr A B q k with
    | none => none
    | some r => if qB (mulq A B r q).low then some (mulq A B r q).low else none
def pwrE (A B : Int) (q : Q) (k : Nat) : Int := if (pwr A B q k).isSome then 0 else 8
def pwrQ (A B : Int) (q : Q) (k : Nat) : Q := (pwr A B q k).getD ⟨0, 0, 0, 0, 0⟩
theorem pwr_awake : pwr (-1) (-1) ⟨1, 1, 1, 1, 2⟩ 3 = some ⟨-1, 0, 0, 0, 1⟩ := by kernel_rfl
theorem pwr_qB {A B : Int} {q : Q} : ∀ {k : Nat} {r : Q}, pwr A B q k = some r → qB r = true
  | 0, r, h => by injection h with h; subst h; decide
  | k + 1, r, h => by
    unfold pwr at h
    split at h
    · cases h
    · split at h
      · injection h with h; subst h; assumption
      · cases h
theorem pwr_next {A B : Int} {q r : Q} {k : Nat} (h : pwr A B q k = some r) (hq : qB (mulq A B r q).low = true) : pwr A B q (k + 1) = some (mulq A B r q).low := by
  unfold pwr; rw [h]; simp only [hq, if_true]
theorem pwr_stop {A B : Int} {q r : Q} {k : Nat} (h : pwr A B q k = some r) (hq : qB (mulq A B r q).low = false) : ∀ n, k < n → pwr A B q n = none := by
  intro n hn
  obtain ⟨j, rfl⟩ : ∃ j, n = k + 1 + j := ⟨n - (k + 1), by omega⟩
  clear hn
  induction j with
  | zero => unfold pwr; rw [h]; simp only [hq]; rfl
  | succ j ih => rw [show k + 1 + (j + 1) = (k + 1 + j) + 1 by omega]; unfold pwr; rw [ih]
/-- the first of two errors, in a list that was made -/
theorem Or_new (x y : Int) (T : TypeId) (w : World) (n : Nat) (hn : n = w.heap.size) :
    Calls Tryd.prog 31 #[.slice (some ⟨n, 0, none⟩) 2 2] (w.alloc (.cells #[.int .i64 x, .int .i64 y] T)) fun e w' => e = .returned (.int .i64 (or2 x y)) ∧ w.alloc (.cells #[.int .i64 x, .int .i64 y] T) = w' := by
  subst hn
  exact Or_any x y _ 2 _ _ rfl (by decide) (by decide) (by simp [go_sem]) (by simp [go_sem])
/-- what a walk keeps: cells, and that nothing that was there has turned -/
def K_V (A B n0 n1 n2 n3 d : Int) (b1 b2 R : Nat) (w w' : World) : Prop := KL w [(b1, 0, .int .i64 A), (b1, 1, .int .i64 B), (b2, 0, .int .i64 n0), (b2, 1, .int .i64 n1), (b2, 2, .int .i64 n2), (b2, 3, .int .i64 n3), (b2, 4, .int .i64 d)] [(R, 0), (R, 1), (R, 2), (R, 3), (R, 4)] w'
theorem K_V.below {A B n0 n1 n2 n3 d : Int} {b1 b2 R : Nat} {w w1 w2 : World} (hb : Below w1.heap.size w1 w2) (h : K_V A B n0 n1 n2 n3 d b1 b2 R w w1) : K_V A B n0 n1 n2 n3 d b1 b2 R w w2 := KL.below hb h
theorem K_V.draws {A B n0 n1 n2 n3 d : Int} {b1 b2 R : Nat} {w w1 : World} (n : Nat) (h : K_V A B n0 n1 n2 n3 d b1 b2 R w w1) : K_V A B n0 n1 n2 n3 d b1 b2 R w (w1.drewN n) := KL.draws n h
theorem K_V.drew {A B n0 n1 n2 n3 d : Int} {b1 b2 R : Nat} {w w1 : World} (h : K_V A B n0 n1 n2 n3 d b1 b2 R w w1) : K_V A B n0 n1 n2 n3 d b1 b2 R w w1.drew := KL.draws 1 h
theorem K_V.alloc {A B n0 n1 n2 n3 d : Int} {b1 b2 R : Nat} {w w1 : World} (o : Obj) (h : K_V A B n0 n1 n2 n3 d b1 b2 R w w1) : K_V A B n0 n1 n2 n3 d b1 b2 R w (w1.alloc o) := KL.alloc o h
theorem K_V.set {A B n0 n1 n2 n3 d : Int} {b1 b2 R : Nat} {w w1 : World} (h : K_V A B n0 n1 n2 n3 d b1 b2 R w w1) (b i : Nat) (v : Value) (hb : b ≠ b1 ∧ b ≠ b2 ∧ w.heap.size ≤ b) : K_V A B n0 n1 n2 n3 d b1 b2 R w (w1.setCell ⟨b, i, none⟩ v) :=
  KL.set h b i v (by intro x hx; simp only [List.mem_cons, List.not_mem_nil, or_false] at hx; rcases hx with rfl | rfl | rfl | rfl | rfl | rfl | rfl <;> simp only [] <;> omega) (by omega)
theorem K_V.bel {A B n0 n1 n2 n3 d : Int} {b1 b2 R : Nat} {w w1 : World} (h : K_V A B n0 n1 n2 n3 d b1 b2 R w w1) : Below w.heap.size w w1 := KL.bel h
theorem K_V.cells {A B n0 n1 n2 n3 d : Int} {b1 b2 R : Nat} {w w' : World} (h : K_V A B n0 n1 n2 n3 d b1 b2 R w w') : w'.cell? ⟨b1, 0, none⟩ = some (.int .i64 A) ∧ w'.cell? ⟨b1, 1, none⟩ = some (.int .i64 B) ∧ w'.cell? ⟨b2, 0, none⟩ = some (.int .i64 n0) ∧ w'.cell? ⟨b2, 1, none⟩ = some (.int .i64 n1) ∧ w'.cell? ⟨b2, 2, none⟩ = some (.int .i64 n2) ∧ w'.cell? ⟨b2, 3, none⟩ = some (.int .i64 n3) ∧ w'.cell? ⟨b2, 4, none⟩ = some (.int .i64 d) ∧ w'.cell? ⟨R, 0, none⟩ = some (cv w' R 0) ∧ w'.frozen? ⟨R, 0, none⟩ = false ∧ w'.cell? ⟨R, 1, none⟩ = some (cv w' R 1) ∧ w'.frozen? ⟨R, 1, none⟩ = false ∧ w'.cell? ⟨R, 2, none⟩ = some (cv w' R 2) ∧ w'.frozen? ⟨R, 2, none⟩ = false ∧ w'.cell? ⟨R, 3, none⟩ = some (cv w' R 3) ∧ w'.frozen? ⟨R, 3, none⟩ = false ∧ w'.cell? ⟨R, 4, none⟩ = some (cv w' R 4) ∧ w'.frozen? ⟨R, 4, none⟩ = false := ⟨h.c (b1, 0, .int .i64 A) (by simp), h.c (b1, 1, .int .i64 B) (by simp), h.c (b2, 0, .int .i64 n0) (by simp), h.c (b2, 1, .int .i64 n1) (by simp), h.c (b2, 2, .int .i64 n2) (by simp), h.c (b2, 3, .int .i64 n3) (by simp), h.c (b2, 4, .int .i64 d) (by simp), h.d (R, 0) (by simp), h.f (R, 0) (by simp), h.d (R, 1) (by simp), h.f (R, 1) (by simp), h.d (R, 2) (by simp), h.f (R, 2) (by simp), h.d (R, 3) (by simp), h.f (R, 3) (by simp), h.d (R, 4) (by simp), h.f (R, 4) (by simp)⟩
theorem K_V.zs {A B n0 n1 n2 n3 d : Int} {b1 b2 R : Nat} {w w' : World} (h : K_V A B n0 n1 n2 n3 d b1 b2 R w w') : b1 < w'.heap.size ∧ b2 < w'.heap.size ∧ R < w'.heap.size ∧ True := ⟨KL.z h (x := (b1, 0, .int .i64 A)) (by simp), KL.z h (x := (b2, 0, .int .i64 n0)) (by simp), KL.zf h (x := (R, 0)) (by simp), trivial⟩
theorem K_V.ks {A B n0 n1 n2 n3 d : Int} {b1 b2 R : Nat} {w w' : World} (h : K_V A B n0 n1 n2 n3 d b1 b2 R w w') : (w'.cell? ⟨b1, 0, none⟩ = some (.int .i64 A) ∧ w'.cell? ⟨b1, 1, none⟩ = some (.int .i64 B) ∧ w'.cell? ⟨b2, 0, none⟩ = some (.int .i64 n0) ∧ w'.cell? ⟨b2, 1, none⟩ = some (.int .i64 n1) ∧ w'.cell? ⟨b2, 2, none⟩ = some (.int .i64 n2) ∧ w'.cell? ⟨b2, 3, none⟩ = some (.int .i64 n3) ∧ w'.cell? ⟨b2, 4, none⟩ = some (.int .i64 d) ∧ w'.cell? ⟨R, 0, none⟩ = some (cv w' R 0) ∧ w'.frozen? ⟨R, 0, none⟩ = false ∧ w'.cell? ⟨R, 1, none⟩ = some (cv w' R 1) ∧ w'.frozen? ⟨R, 1, none⟩ = false ∧ w'.cell? ⟨R, 2, none⟩ = some (cv w' R 2) ∧ w'.frozen? ⟨R, 2, none⟩ = false ∧ w'.cell? ⟨R, 3, none⟩ = some (cv w' R 3) ∧ w'.frozen? ⟨R, 3, none⟩ = false ∧ w'.cell? ⟨R, 4, none⟩ = some (cv w' R 4) ∧ w'.frozen? ⟨R, 4, none⟩ = false) ∧ K_V A B n0 n1 n2 n3 d b1 b2 R w w' := ⟨h.cells, h⟩
/-- what a walk keeps: cells, and that nothing that was there has turned -/
def K_W (A B n0 n1 n2 n3 d r0 r1 r2 r3 rd : Int) (b1 b2 P R : Nat) (w w' : World) : Prop := KL w [(b1, 0, .int .i64 A), (b1, 1, .int .i64 B), (b2, 0, .int .i64 n0), (b2, 1, .int .i64 n1), (b2, 2, .int .i64 n2), (b2, 3, .int .i64 n3), (b2, 4, .int .i64 d), (P, 0, .int .i64 r0), (P, 1, .int .i64 r1), (P, 2, .int .i64 r2), (P, 3, .int .i64 r3), (P, 4, .int .i64 rd)] [(P, 0), (P, 1), (P, 2), (P, 3), (P, 4), (R, 0), (R, 1), (R, 2), (R, 3), (R, 4)] w'
theorem K_W.below {A B n0 n1 n2 n3 d r0 r1 r2 r3 rd : Int} {b1 b2 P R : Nat} {w w1 w2 : World} (hb : Below w1.heap.size w1 w2) (h : K_W A B n0 n1 n2 n3 d r0 r1 r2 r3 rd b1 b2 P R w w1) : K_W A B n0 n1 n2 n3 d r0 r1 r2 r3 rd b1 b2 P R w w2 := KL.below hb h
theorem K_W.draws {A B n0 n1 n2 n3 d r0 r1 r2 r3 rd : Int} {b1 b2 P R : Nat} {w w1 : World} (n : Nat) (h : K_W A B n0 n1 n2 n3 d r0 r1 r2 r3 rd b1 b2 P R w w1) : K_W A B n0 n1 n2 n3 d r0 r1 r2 r3 rd b1 b2 P R w (w1.drewN n) := KL.draws n h
theorem K_W.drew {A B n0 n1 n2 n3 d r0 r1 r2 r3 rd : Int} {b1 b2 P R : Nat} {w w1 : World} (h : K_W A B n0 n1 n2 n3 d r0 r1 r2 r3 rd b1 b2 P R w w1) : K_W A B n0 n1 n2 n3 d r0 r1 r2 r3 rd b1 b2 P R w w1.drew := KL.draws 1 h
theorem K_W.alloc {A B n0 n1 n2 n3 d r0 r1 r2 r3 rd : Int} {b1 b2 P R : Nat} {w w1 : World} (o : Obj) (h : K_W A B n0 n1 n2 n3 d r0 r1 r2 r3 rd b1 b2 P R w w1) : K_W A B n0 n1 n2 n3 d r0 r1 r2 r3 rd b1 b2 P R w (w1.alloc o) := KL.alloc o h
theorem K_W.set {A B n0 n1 n2 n3 d r0 r1 r2 r3 rd : Int} {b1 b2 P R : Nat} {w w1 : World} (h : K_W A B n0 n1 n2 n3 d r0 r1 r2 r3 rd b1 b2 P R w w1) (b i : Nat) (v : Value) (hb : b ≠ b1 ∧ b ≠ b2 ∧ b ≠ P ∧ w.heap.size ≤ b) : K_W A B n0 n1 n2 n3 d r0 r1 r2 r3 rd b1 b2 P R w (w1.setCell ⟨b, i, none⟩ v) :=
  KL.set h b i v (by intro x hx; simp only [List.mem_cons, List.not_mem_nil, or_false] at hx; rcases hx with rfl | rfl | rfl | rfl | rfl | rfl | rfl | rfl | rfl | rfl | rfl | rfl <;> simp only [] <;> omega) (by omega)
theorem K_W.bel {A B n0 n1 n2 n3 d r0 r1 r2 r3 rd : Int} {b1 b2 P R : Nat} {w w1 : World} (h : K_W A B n0 n1 n2 n3 d r0 r1 r2 r3 rd b1 b2 P R w w1) : Below w.heap.size w w1 := KL.bel h
theorem K_W.cells {A B n0 n1 n2 n3 d r0 r1 r2 r3 rd : Int} {b1 b2 P R : Nat} {w w' : World} (h : K_W A B n0 n1 n2 n3 d r0 r1 r2 r3 rd b1 b2 P R w w') : w'.cell? ⟨b1, 0, none⟩ = some (.int .i64 A) ∧ w'.cell? ⟨b1, 1, none⟩ = some (.int .i64 B) ∧ w'.cell? ⟨b2, 0, none⟩ = some (.int .i64 n0) ∧ w'.cell? ⟨b2, 1, none⟩ = some (.int .i64 n1) ∧ w'.cell? ⟨b2, 2, none⟩ = some (.int .i64 n2) ∧ w'.cell? ⟨b2, 3, none⟩ = some (.int .i64 n3) ∧ w'.cell? ⟨b2, 4, none⟩ = some (.int .i64 d) ∧ w'.cell? ⟨P, 0, none⟩ = some (.int .i64 r0) ∧ w'.cell? ⟨P, 1, none⟩ = some (.int .i64 r1) ∧ w'.cell? ⟨P, 2, none⟩ = some (.int .i64 r2) ∧ w'.cell? ⟨P, 3, none⟩ = some (.int .i64 r3) ∧ w'.cell? ⟨P, 4, none⟩ = some (.int .i64 rd) ∧ w'.frozen? ⟨P, 0, none⟩ = false ∧ w'.frozen? ⟨P, 1, none⟩ = false ∧ w'.frozen? ⟨P, 2, none⟩ = false ∧ w'.frozen? ⟨P, 3, none⟩ = false ∧ w'.frozen? ⟨P, 4, none⟩ = false ∧ w'.cell? ⟨R, 0, none⟩ = some (cv w' R 0) ∧ w'.frozen? ⟨R, 0, none⟩ = false ∧ w'.cell? ⟨R, 1, none⟩ = some (cv w' R 1) ∧ w'.frozen? ⟨R, 1, none⟩ = false ∧ w'.cell? ⟨R, 2, none⟩ = some (cv w' R 2) ∧ w'.frozen? ⟨R, 2, none⟩ = false ∧ w'.cell? ⟨R, 3, none⟩ = some (cv w' R 3) ∧ w'.frozen? ⟨R, 3, none⟩ = false ∧ w'.cell? ⟨R, 4, none⟩ = some (cv w' R 4) ∧ w'.frozen? ⟨R, 4, none⟩ = false := ⟨h.c (b1, 0, .int .i64 A) (by simp), h.c (b1, 1, .int .i64 B) (by simp), h.c (b2, 0, .int .i64 n0) (by simp), h.c (b2, 1, .int .i64 n1) (by simp), h.c (b2, 2, .int .i64 n2) (by simp), h.c (b2, 3, .int .i64 n3) (by simp), h.c (b2, 4, .int .i64 d) (by simp), h.c (P, 0, .int .i64 r0) (by simp), h.c (P, 1, .int .i64 r1) (by simp), h.c (P, 2, .int .i64 r2) (by simp), h.c (P, 3, .int .i64 r3) (by simp), h.c (P, 4, .int .i64 rd) (by simp), h.f (P, 0) (by simp), h.f (P, 1) (by simp), h.f (P, 2) (by simp), h.f (P, 3) (by simp), h.f (P, 4) (by simp), h.d (R, 0) (by simp), h.f (R, 0) (by simp), h.d (R, 1) (by simp), h.f (R, 1) (by simp), h.d (R, 2) (by simp), h.f (R, 2) (by simp), h.d (R, 3) (by simp), h.f (R, 3) (by simp), h.d (R, 4) (by simp), h.f (R, 4) (by simp)⟩
theorem K_W.zs {A B n0 n1 n2 n3 d r0 r1 r2 r3 rd : Int} {b1 b2 P R : Nat} {w w' : World} (h : K_W A B n0 n1 n2 n3 d r0 r1 r2 r3 rd b1 b2 P R w w') : b1 < w'.heap.size ∧ b2 < w'.heap.size ∧ P < w'.heap.size ∧ R < w'.heap.size ∧ True := ⟨KL.z h (x := (b1, 0, .int .i64 A)) (by simp), KL.z h (x := (b2, 0, .int .i64 n0)) (by simp), KL.z h (x := (P, 0, .int .i64 r0)) (by simp), KL.zf h (x := (R, 0)) (by simp), trivial⟩
theorem K_W.ks {A B n0 n1 n2 n3 d r0 r1 r2 r3 rd : Int} {b1 b2 P R : Nat} {w w' : World} (h : K_W A B n0 n1 n2 n3 d r0 r1 r2 r3 rd b1 b2 P R w w') : (w'.cell? ⟨b1, 0, none⟩ = some (.int .i64 A) ∧ w'.cell? ⟨b1, 1, none⟩ = some (.int .i64 B) ∧ w'.cell? ⟨b2, 0, none⟩ = some (.int .i64 n0) ∧ w'.cell? ⟨b2, 1, none⟩ = some (.int .i64 n1) ∧ w'.cell? ⟨b2, 2, none⟩ = some (.int .i64 n2) ∧ w'.cell? ⟨b2, 3, none⟩ = some (.int .i64 n3) ∧ w'.cell? ⟨b2, 4, none⟩ = some (.int .i64 d) ∧ w'.cell? ⟨P, 0, none⟩ = some (.int .i64 r0) ∧ w'.cell? ⟨P, 1, none⟩ = some (.int .i64 r1) ∧ w'.cell? ⟨P, 2, none⟩ = some (.int .i64 r2) ∧ w'.cell? ⟨P, 3, none⟩ = some (.int .i64 r3) ∧ w'.cell? ⟨P, 4, none⟩ = some (.int .i64 rd) ∧ w'.frozen? ⟨P, 0, none⟩ = false ∧ w'.frozen? ⟨P, 1, none⟩ = false ∧ w'.frozen? ⟨P, 2, none⟩ = false ∧ w'.frozen? ⟨P, 3, none⟩ = false ∧ w'.frozen? ⟨P, 4, none⟩ = false ∧ w'.cell? ⟨R, 0, none⟩ = some (cv w' R 0) ∧ w'.frozen? ⟨R, 0, none⟩ = false ∧ w'.cell? ⟨R, 1, none⟩ = some (cv w' R 1) ∧ w'.frozen? ⟨R, 1, none⟩ = false ∧ w'.cell? ⟨R, 2, none⟩ = some (cv w' R 2) ∧ w'.frozen? ⟨R, 2, none⟩ = false ∧ w'.cell? ⟨R, 3, none⟩ = some (cv w' R 3) ∧ w'.frozen? ⟨R, 3, none⟩ = false ∧ w'.cell? ⟨R, 4, none⟩ = some (cv w' R 4) ∧ w'.frozen? ⟨R, 4, none⟩ = false) ∧ K_W A B n0 n1 n2 n3 d r0 r1 r2 r3 rd b1 b2 P R w w' := ⟨h.cells, h⟩
theorem mul_yes {A B n0 n1 n2 n3 d m0 m1 m2 m3 f : Int} {w : World} (hA : Bn 1000 A) (hB : Bn 1000 B) (h : chkQ n0 n1 n2 n3 d = 0) (h' : chkQ m0 m1 m2 m3 f = 0) (s : Q) (hs : (mulq A B ⟨n0, n1, n2, n3, d⟩ ⟨m0, m1, m2, m3, f⟩).low = s) (hq : qB s = true) :
    Calls Tryd.prog 47 #[.agg #[.int .i64 A, .int .i64 B], .agg #[.int .i64 n0, .int .i64 n1, .int .i64 n2, .int .i64 n3, .int .i64 d], .agg #[.int .i64 m0, .int .i64 m1, .int .i64 m2, .int .i64 m3, .int .i64 f]] w fun e w' => e = .returned (.tuple #[.agg #[.int .i64 (s).w, .int .i64 (s).x, .int .i64 (s).y, .int .i64 (s).z, .int .i64 (s).d], .int .i64 0]) ∧ Below w.heap.size w w' := by
  subst hs
  have := mul_any A B n0 n1 n2 n3 d m0 m1 m2 m3 f w hA hB h h'
  rw [show fitQ (mulq A B ⟨n0, n1, n2, n3, d⟩ ⟨m0, m1, m2, m3, f⟩) = (mulq A B ⟨n0, n1, n2, n3, d⟩ ⟨m0, m1, m2, m3, f⟩).low from by unfold fitQ; rw [if_pos hq], show fitE (mulq A B ⟨n0, n1, n2, n3, d⟩ ⟨m0, m1, m2, m3, f⟩) = 0 from by unfold fitE; rw [if_pos hq]] at this
  exact this
theorem mul_no {A B n0 n1 n2 n3 d m0 m1 m2 m3 f : Int} {w : World} (hA : Bn 1000 A) (hB : Bn 1000 B) (h : chkQ n0 n1 n2 n3 d = 0) (h' : chkQ m0 m1 m2 m3 f = 0) (hq : qB (mulq A B ⟨n0, n1, n2, n3, d⟩ ⟨m0, m1, m2, m3, f⟩).low = false) :
    Calls Tryd.prog 47 #[.agg #[.int .i64 A, .int .i64 B], .agg #[.int .i64 n0, .int .i64 n1, .int .i64 n2, .int .i64 n3, .int .i64 d], .agg #[.int .i64 m0, .int .i64 m1, .int .i64 m2, .int .i64 m3, .int .i64 f]] w fun e w' => e = .returned (.tuple #[.agg #[.int .i64 0, .int .i64 0, .int .i64 0, .int .i64 0, .int .i64 0], .int .i64 8]) ∧ Below w.heap.size w w' := by
  have := mul_any A B n0 n1 n2 n3 d m0 m1 m2 m3 f w hA hB h h'
  rw [show fitQ (mulq A B ⟨n0, n1, n2, n3, d⟩ ⟨m0, m1, m2, m3, f⟩) = ⟨0, 0, 0, 0, 0⟩ from by unfold fitQ; rw [if_neg (by rw [hq]; exact Bool.false_ne_true)], show fitE (mulq A B ⟨n0, n1, n2, n3, d⟩ ⟨m0, m1, m2, m3, f⟩) = 8 from by unfold fitE; rw [if_neg (by rw [hq]; exact Bool.false_ne_true)]] at this
  exact this
theorem or2_ok {x y : Int} (h : x = 0) (h' : y = 0) : or2 x y = 0 := by unfold or2; rw [if_pos h, h']
theorem Bn_A {A B : Int} (h : chkA A B = 0) : Bn 1000 A ∧ Bn 1000 B := by
  obtain ⟨-, -, h1, h2⟩ := chkA_ok h
  exact ⟨withinB_of h1, withinB_of h2⟩
/-- what Power hands back -/
def PwEnd (A B n0 n1 n2 n3 d : Int) (n : Nat) (w : World) (e : Ending) (w' : World) : Prop :=
  e = .returned (.tuple #[.agg #[.int .i64 (pwrQ A B ⟨n0, n1, n2, n3, d⟩ n).w, .int .i64 (pwrQ A B ⟨n0, n1, n2, n3, d⟩ n).x, .int .i64 (pwrQ A B ⟨n0, n1, n2, n3, d⟩ n).y, .int .i64 (pwrQ A B ⟨n0, n1, n2, n3, d⟩ n).z, .int .i64 (pwrQ A B ⟨n0, n1, n2, n3, d⟩ n).d], .int .i64 (pwrE A B ⟨n0, n1, n2, n3, d⟩ n)]) ∧ Below w.heap.size w w'
set_option maxHeartbeats 6400000 in
theorem Power_nat (A B n0 n1 n2 n3 d : Int) (n : Nat) (w : World) (hn : n ≤ 60) (hA : chkA A B = 0) (hq : chkQ n0 n1 n2 n3 d = 0) :
    Calls Tryd.prog 23 #[.agg #[.int .i64 A, .int .i64 B], .agg #[.int .i64 n0, .int .i64 n1, .int .i64 n2, .int .i64 n3, .int .i64 d], .int .i64 n] w fun e w' => PwEnd A B n0 n1 n2 n3 d n w e w' := by
  have OK := Lib.hid (or2_ok hA hq)
  have HA := Lib.hid hA
  have HQ := Lib.hid hq
  have hwi : withinB n (-60) 60 = true := decide_eq_true (by omega)
  clear hA hq
  go_enter Tryd.func23, Tryd.ntmps23
  go_wp2_with fail
  have hk : K_V A B n0 n1 n2 n3 d w.heap.size (w.heap.size + 1) (w.heap.size + 2) w (((w.alloc (.cells #[.int .i64 A, .int .i64 B] 23)).alloc (.cells #[.int .i64 n0, .int .i64 n1, .int .i64 n2, .int .i64 n3, .int .i64 d] 39)).alloc (.cells #[.int .i64 0, .int .i64 0, .int .i64 0, .int .i64 0, .int .i64 0] 39)) := ⟨by simp [go_sem], by simp [go_sem], by simp [go_sem], by (repeat (first | (with_reducible exact Below.refl _ _) | (with_reducible exact HB.out) | (with_reducible refine below_draws ?_ _) | (with_reducible refine Below.alloc ?_ (by go_size) _) | (with_reducible refine Below.setCell ?_ (by go_size) _) | (with_reducible refine Below.alloc ?_ (by simp <;> omega) _) | (with_reducible refine Below.setCell ?_ (by simp <;> omega) _)))⟩
  go_region_held3 (fun w' => (w'.cell? ⟨w.heap.size, 0, none⟩ = some (.int .i64 A) ∧ w'.cell? ⟨w.heap.size, 1, none⟩ = some (.int .i64 B) ∧ w'.cell? ⟨(w.heap.size + 1), 0, none⟩ = some (.int .i64 n0) ∧ w'.cell? ⟨(w.heap.size + 1), 1, none⟩ = some (.int .i64 n1) ∧ w'.cell? ⟨(w.heap.size + 1), 2, none⟩ = some (.int .i64 n2) ∧ w'.cell? ⟨(w.heap.size + 1), 3, none⟩ = some (.int .i64 n3) ∧ w'.cell? ⟨(w.heap.size + 1), 4, none⟩ = some (.int .i64 d) ∧ w'.cell? ⟨(w.heap.size + 2), 0, none⟩ = some (cv w' ((w.heap.size + 2)) 0) ∧ w'.frozen? ⟨(w.heap.size + 2), 0, none⟩ = false ∧ w'.cell? ⟨(w.heap.size + 2), 1, none⟩ = some (cv w' ((w.heap.size + 2)) 1) ∧ w'.frozen? ⟨(w.heap.size + 2), 1, none⟩ = false ∧ w'.cell? ⟨(w.heap.size + 2), 2, none⟩ = some (cv w' ((w.heap.size + 2)) 2) ∧ w'.frozen? ⟨(w.heap.size + 2), 2, none⟩ = false ∧ w'.cell? ⟨(w.heap.size + 2), 3, none⟩ = some (cv w' ((w.heap.size + 2)) 3) ∧ w'.frozen? ⟨(w.heap.size + 2), 3, none⟩ = false ∧ w'.cell? ⟨(w.heap.size + 2), 4, none⟩ = some (cv w' ((w.heap.size + 2)) 4) ∧ w'.frozen? ⟨(w.heap.size + 2), 4, none⟩ = false) ∧ K_V A B n0 n1 n2 n3 d w.heap.size (w.heap.size + 1) (w.heap.size + 2) w w') ((refine K_V.ks ?_; repeat (first | (with_reducible assumption) | (with_reducible refine K_V.draws _ ?_) | (with_reducible refine K_V.drew ?_) | (with_reducible refine K_V.alloc _ ?_) | (with_reducible refine K_V.set ?_ _ _ _ (by omega)))))
    (first
      | (go_at_call 25; (with_reducible refine (Check_any _ _ _).mono ?_); rintro e w' ⟨rfl, hbel⟩; have hk' := K_V.below hbel (And.right (by assumption)); clear hbel)
      | (go_at_call 44; (with_reducible refine (CheckQuat_any _ _ _ _ _ _).mono ?_); rintro e w' ⟨rfl, hbel⟩; have hk' := K_V.below hbel (And.right (by assumption)); clear hbel)
      | (go_at_call 31; (with_reducible refine (Or_new _ _ _ _ _ ?_).mono ?_); rfl; rintro e w'' ⟨rfl, rfl⟩))
  all_goals
    rename_i hh_
    clear hh_
    obtain ⟨c0_, c1_, c2_, c3_, c4_, c5_, c6_, d0_, f0_, d1_, f1_, d2_, f2_, d3_, f3_, d4_, f4_⟩ := K_V.cells hk'
    have z1 : w.heap.size + 2 < w'.heap.size := World.block_lt_of_cell? w' ⟨w.heap.size + 2, 0, none⟩ d0_
    have HV := Lib.hid (K_V.bel hk')
    rw [OK.out]
    go_wp2_with (go_at_call 45; refine (isWithin_any _ _ _ (by decide) (by decide)).mono ?_; rintro e w'' ⟨rfl, rfl⟩)
    go_loopw [45] (fun t45 wr => ∃ (k : Nat) (r : Q), (k ≤ n ∧ pwr A B ⟨n0, n1, n2, n3, d⟩ k = some r ∧ K_W A B n0 n1 n2 n3 d r.w r.x r.y r.z r.d w.heap.size (w.heap.size + 1) (w'.heap.size + 1) (w.heap.size + 2) w wr) ∧ t45 = .int .i64 k) (fun t45 _ => n - (intOf t45).toNat)
    case atStart =>
      have y0 : w.heap.size < w'.heap.size := by omega
      have y1 : w.heap.size + 1 < w'.heap.size := by omega
      have y2 : w.heap.size < w'.heap.size + 1 := by omega
      have y3 : w.heap.size + 1 < w'.heap.size + 1 := by omega
      have y4 : w.heap.size + 2 < w'.heap.size + 1 := by omega
      exact ⟨0, ⟨1, 0, 0, 0, 1⟩, ⟨Nat.zero_le _, rfl, ⟨by simp [go_sem, c0_, c1_, c2_, c3_, c4_, c5_, c6_, d0_, f0_, d1_, f1_, d2_, f2_, d3_, f3_, d4_, f4_, z1, y0, y1, y2, y3, y4], by simp [go_sem, c0_, c1_, c2_, c3_, c4_, c5_, c6_, d0_, f0_, d1_, f1_, d2_, f2_, d3_, f3_, d4_, f4_, z1, y0, y1, y2, y3, y4], by simp [go_sem, c0_, c1_, c2_, c3_, c4_, c5_, c6_, d0_, f0_, d1_, f1_, d2_, f2_, d3_, f3_, d4_, f4_, z1, y0, y1, y2, y3, y4], by have HB := HV; (repeat (first | (with_reducible exact Below.refl _ _) | (with_reducible exact HB.out) | (with_reducible refine below_draws ?_ _) | (with_reducible refine Below.alloc ?_ (by go_size) _) | (with_reducible refine Below.setCell ?_ (by go_size) _) | (with_reducible refine Below.alloc ?_ (by simp <;> omega) _) | (with_reducible refine Below.setCell ?_ (by simp <;> omega) _)))⟩⟩, rfl⟩
    case round =>
      obtain ⟨k, r, ⟨hkn, hr, hK⟩, rfl⟩ := hrel
      clear c0_ c1_ c2_ c3_ c4_ c5_ c6_ d0_ f0_ d1_ f1_ d2_ f2_ d3_ f3_ d4_ f4_ hk'
      obtain ⟨wo, rfl⟩ : ∃ wo : World, wo = wr := ⟨_, rfl⟩
      obtain ⟨c0_, c1_, c2_, c3_, c4_, c5_, c6_, c7_, c8_, c9_, c10_, c11_, f0_, f1_, f2_, f3_, f4_, d5_, f5_, d6_, f6_, d7_, f7_, d8_, f8_, d9_, f9_⟩ := K_W.cells hK
      have HK := Lib.hid hK
      have HR := Lib.hid hr
      clear hK hr
      by_cases hlt : k < n
      · have hqr : chkQ r.w r.x r.y r.z r.d = 0 := by unfold chkQ; rw [if_pos (pwr_qB HR.out)]
        rcases hqb : qB (mulq A B r ⟨n0, n1, n2, n3, d⟩).low with _ | _
        · have MU := Lib.hid (fun W => mul_no (A := A) (B := B) (w := W) (Bn_A HA.out).1 (Bn_A HA.out).2 hqr HQ.out hqb)
          have HS := Lib.hid (pwr_stop HR.out hqb n hlt)
          clear hqr hqb
          go_wp2_with fail
          refine (MU.out _).mono ?_
          rintro e w2 ⟨rfl, hb⟩
          have hK := K_W.below hb HK.out
          clear hb c0_ c1_ c2_ c3_ c4_ c5_ c6_ c7_ c8_ c9_ c10_ c11_ f0_ f1_ f2_ f3_ f4_ d5_ f5_ d6_ f6_ d7_ f7_ d8_ f8_ d9_ f9_
          obtain ⟨c0_, c1_, c2_, c3_, c4_, c5_, c6_, c7_, c8_, c9_, c10_, c11_, f0_, f1_, f2_, f3_, f4_, d5_, f5_, d6_, f6_, d7_, f7_, d8_, f8_, d9_, f9_⟩ := K_W.cells hK
          have HB := Lib.hid (K_W.bel hK)
          have z2 : w'.heap.size + 1 < w2.heap.size := World.block_lt_of_cell? w2 ⟨w'.heap.size + 1, 0, none⟩ c7_
          have z3 : w.heap.size + 2 < w2.heap.size := World.block_lt_of_cell? w2 ⟨w.heap.size + 2, 0, none⟩ d5_
          have z4 : w.heap.size + 1 < w2.heap.size := by omega
          have z5 : w.heap.size < w2.heap.size := by omega
          clear hK
          go_wp2
          exact bodyPost_ret (v := .tuple #[.agg #[.int .i64 0, .int .i64 0, .int .i64 0, .int .i64 0, .int .i64 0], .int .i64 8]) (by simp [results, Tryd.results23, go_sem, c0_, c1_, c2_, c3_, c4_, c5_, c6_, c7_, c8_, c9_, c10_, c11_, f0_, f1_, f2_, f3_, f4_, d5_, f5_, d6_, f6_, d7_, f7_, d8_, f8_, d9_, f9_, z2, z3, z4, z5]) rfl ⟨by unfold pwrQ pwrE; rw [HS.out]; rfl, by (repeat (first | (with_reducible exact Below.refl _ _) | (with_reducible exact HB.out) | (with_reducible refine below_draws ?_ _) | (with_reducible refine Below.alloc ?_ (by go_size) _) | (with_reducible refine Below.setCell ?_ (by go_size) _) | (with_reducible refine Below.alloc ?_ (by simp <;> omega) _) | (with_reducible refine Below.setCell ?_ (by simp <;> omega) _)))⟩
        · obtain ⟨s, hs⟩ : ∃ s, (mulq A B r ⟨n0, n1, n2, n3, d⟩).low = s := ⟨_, rfl⟩
          have HN := Lib.hid (pwr_next HR.out hqb)
          have MU := Lib.hid (fun W => mul_yes (A := A) (B := B) (w := W) (Bn_A HA.out).1 (Bn_A HA.out).2 hqr HQ.out s hs (hs ▸ hqb))
          have HS := Lib.hid hs
          clear hqr hqb hs
          go_wp2_with fail
          refine (MU.out _).mono ?_
          rintro e w2 ⟨rfl, hb⟩
          have hK := K_W.below hb HK.out
          clear hb c0_ c1_ c2_ c3_ c4_ c5_ c6_ c7_ c8_ c9_ c10_ c11_ f0_ f1_ f2_ f3_ f4_ d5_ f5_ d6_ f6_ d7_ f7_ d8_ f8_ d9_ f9_
          obtain ⟨c0_, c1_, c2_, c3_, c4_, c5_, c6_, c7_, c8_, c9_, c10_, c11_, f0_, f1_, f2_, f3_, f4_, d5_, f5_, d6_, f6_, d7_, f7_, d8_, f8_, d9_, f9_⟩ := K_W.cells hK
          have HB := Lib.hid (K_W.bel hK)
          have z2 : w'.heap.size + 1 < w2.heap.size := World.block_lt_of_cell? w2 ⟨w'.heap.size + 1, 0, none⟩ c7_
          have z3 : w.heap.size + 2 < w2.heap.size := World.block_lt_of_cell? w2 ⟨w.heap.size + 2, 0, none⟩ d5_
          have z4 : w.heap.size + 1 < w2.heap.size := by omega
          have z5 : w.heap.size < w2.heap.size := by omega
          clear hK
          go_wp2
          have q1 : w'.heap.size ≠ w.heap.size := by omega
          have q2 : w'.heap.size + 1 ≠ w.heap.size := by omega
          have q3 : w'.heap.size ≠ w.heap.size + 1 := by omega
          have q4 : w.heap.size ≠ w'.heap.size := by omega
          have q5 : w.heap.size ≠ w'.heap.size + 1 := by omega
          have q6 : w.heap.size + 1 ≠ w'.heap.size := by omega
          go_roundw
          case rel => exact ⟨k + 1, s, ⟨by omega, by rw [HN.out, HS.out], ⟨by simp [go_sem, c0_, c1_, c2_, c3_, c4_, c5_, c6_, c7_, c8_, c9_, c10_, c11_, f0_, f1_, f2_, f3_, f4_, d5_, f5_, d6_, f6_, d7_, f7_, d8_, f8_, d9_, f9_, z2, z3, z4, z5, q1, q2, q3, q4, q5, q6], by simp [go_sem, c0_, c1_, c2_, c3_, c4_, c5_, c6_, c7_, c8_, c9_, c10_, c11_, f0_, f1_, f2_, f3_, f4_, d5_, f5_, d6_, f6_, d7_, f7_, d8_, f8_, d9_, f9_, z2, z3, z4, z5, q1, q2, q3, q4, q5, q6], by simp [go_sem, c0_, c1_, c2_, c3_, c4_, c5_, c6_, c7_, c8_, c9_, c10_, c11_, f0_, f1_, f2_, f3_, f4_, d5_, f5_, d6_, f6_, d7_, f7_, d8_, f8_, d9_, f9_, z2, z3, z4, z5, q1, q2, q3, q4, q5, q6], by (repeat (first | (with_reducible exact Below.refl _ _) | (with_reducible exact HB.out) | (with_reducible refine below_draws ?_ _) | (with_reducible refine Below.alloc ?_ (by go_size) _) | (with_reducible refine Below.setCell ?_ (by go_size) _) | (with_reducible refine Below.alloc ?_ (by simp <;> omega) _) | (with_reducible refine Below.setCell ?_ (by simp <;> omega) _)))⟩⟩, by go_num⟩
          case measure => simp [intOf]; omega
      · have hkn' : k = n := by omega
        have HN := Lib.hid hkn'
        have HB := Lib.hid (K_W.bel HK.out)
        have hlt' : decide (k < n) = false := decide_eq_false hlt
        clear hkn'
        go_wp2
        exact bodyPost_ret (v := .tuple #[.agg #[.int .i64 (r).w, .int .i64 (r).x, .int .i64 (r).y, .int .i64 (r).z, .int .i64 (r).d], .int .i64 0]) (by simp [results, Tryd.results23, go_sem, c0_, c1_, c2_, c3_, c4_, c5_, c6_, c7_, c8_, c9_, c10_, c11_, f0_, f1_, f2_, f3_, f4_, d5_, f5_, d6_, f6_, d7_, f7_, d8_, f8_, d9_, f9_]) rfl ⟨by unfold pwrQ pwrE; rw [← HN.out, HR.out]; rfl, by (repeat (first | (with_reducible exact Below.refl _ _) | (with_reducible exact HB.out) | (with_reducible refine below_draws ?_ _) | (with_reducible refine Below.alloc ?_ (by go_size) _) | (with_reducible refine Below.setCell ?_ (by go_size) _) | (with_reducible refine Below.alloc ?_ (by simp <;> omega) _) | (with_reducible refine Below.setCell ?_ (by simp <;> omega) _)))⟩
end Go.Proofs.YtgbnmnkgelklbaaDoor.Al
