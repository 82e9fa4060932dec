/-
  WALKS: comparisons, products and results of Hurwitz quaternions, the program's side.
-/
import Derived.Test.YteiflfmpkfhkoaaRt1
import Derived.DeepKeys
namespace Go.Proofs.Yteiflfmpkfhkoaa.Rt
open Go.RowKit
open Alm Hwm Al
set_option linter.unusedVariables false
set_option linter.unusedSimpArgs false
set_option maxRecDepth 100000
theorem isNaN_any (a : Int) (w : World) : Calls Try.prog 147 #[.int .i64 a] w fun e w' => e = .returned (.bool false) ∧ w = w' := by
  have t : (a != a) = false := by simp
  go_enter Try.func147, Try.ntmps147
  go_wp2
  go_ret
  exact ⟨rfl, rfl⟩
theorem Compare_any (a b : Int) (w : World) : Calls Try.prog 144 #[.int .i64 a, .int .i64 b] w fun e w' => e = .returned (.int .i64 (cmpI a b)) ∧ w = w' := by
  unfold cmpI
  rcases Int.lt_trichotomy a b with h | h | h
  · rw [if_pos h]
    have t : decide (a < b) = true := decide_eq_true h
    clear h
    go_enter Try.func144, Try.ntmps144
    go_wp2_with (go_at_call 147; refine (isNaN_any _ _).mono ?_; rintro e w' ⟨rfl, rfl⟩)
    go_ret
    exact ⟨rfl, rfl⟩
  · subst h
    rw [if_neg (Int.lt_irrefl _), if_neg (Int.lt_irrefl _)]
    have t : decide (a < a) = false := decide_eq_false (Int.lt_irrefl _)
    have t' : decide (a > a) = false := decide_eq_false (Int.lt_irrefl _)
    go_enter Try.func144, Try.ntmps144
    go_wp2_with (go_at_call 147; refine (isNaN_any _ _).mono ?_; rintro e w' ⟨rfl, rfl⟩)
    go_ret
    exact ⟨rfl, rfl⟩
  · rw [if_neg (by omega), if_pos h]
    have t : decide (a < b) = false := decide_eq_false (by omega)
    have t' : decide (a > b) = true := decide_eq_true h
    have t'' : decide (b < a) = true := decide_eq_true h
    clear h
    go_enter Try.func144, Try.ntmps144
    go_wp2_with (go_at_call 147; refine (isNaN_any _ _).mono ?_; rintro e w' ⟨rfl, rfl⟩)
    go_ret
    exact ⟨rfl, rfl⟩
set_option maxHeartbeats 1600000 in
theorem Or4_any (v0 v1 v2 v3 : Int) (b : Nat) (w : World) (c0_ : w.cell? ⟨b, 0, none⟩ = some (.int .i64 v0)) (c1_ : w.cell? ⟨b, 1, none⟩ = some (.int .i64 v1)) (c2_ : w.cell? ⟨b, 2, none⟩ = some (.int .i64 v2)) (c3_ : w.cell? ⟨b, 3, none⟩ = some (.int .i64 v3)) :
    Calls Try.prog 143 #[.slice (some ⟨b, 0, none⟩) 4 4] w fun e w' => e = .returned (.int .i64 (or4 v0 v1 v2 v3)) ∧ w = w' := by
  rcases or4_ways v0 v1 v2 v3 with h0 | ⟨h0, h1⟩ | ⟨h0, h1, h2⟩ | ⟨h0, h1, h2, h3⟩ | ⟨h0, h1, h2, h3⟩
  · rw [show or4 v0 v1 v2 v3 = v0 from by unfold or4; rw [if_neg h0]]
    have t0 : (v0 != 0) = true := by rw [bne_iff_ne]; exact h0
    clear h0
    go_enter Try.func143, Try.ntmps143
    go_wp2
    refine wp_loop_rounds 1 ?_
    rw [rounds_succ]; go_wp2
    go_ret
    exact ⟨rfl, rfl⟩
  · rw [show or4 v0 v1 v2 v3 = v1 from by unfold or4; rw [if_pos h0]; rw [if_neg h1]]
    have t0 : (v0 != 0) = false := by rw [h0]; rfl
    clear h0
    have t1 : (v1 != 0) = true := by rw [bne_iff_ne]; exact h1
    clear h1
    go_enter Try.func143, Try.ntmps143
    go_wp2
    refine wp_loop_rounds 2 ?_
    rw [rounds_succ]; go_wp2
    rw [rounds_succ]; go_wp2
    go_ret
    exact ⟨rfl, rfl⟩
  · rw [show or4 v0 v1 v2 v3 = v2 from by unfold or4; rw [if_pos h0]; rw [if_pos h1]; rw [if_neg h2]]
    have t0 : (v0 != 0) = false := by rw [h0]; rfl
    clear h0
    have t1 : (v1 != 0) = false := by rw [h1]; rfl
    clear h1
    have t2 : (v2 != 0) = true := by rw [bne_iff_ne]; exact h2
    clear h2
    go_enter Try.func143, Try.ntmps143
    go_wp2
    refine wp_loop_rounds 3 ?_
    rw [rounds_succ]; go_wp2
    rw [rounds_succ]; go_wp2
    rw [rounds_succ]; go_wp2
    go_ret
    exact ⟨rfl, rfl⟩
  · rw [show or4 v0 v1 v2 v3 = v3 from by unfold or4; rw [if_pos h0]; rw [if_pos h1]; rw [if_pos h2]]
    have t0 : (v0 != 0) = false := by rw [h0]; rfl
    clear h0
    have t1 : (v1 != 0) = false := by rw [h1]; rfl
    clear h1
    have t2 : (v2 != 0) = false := by rw [h2]; rfl
    clear h2
    have t3 : (v3 != 0) = true := by rw [bne_iff_ne]; exact h3
    clear h3
    go_enter Try.func143, Try.ntmps143
    go_wp2
    refine wp_loop_rounds 4 ?_
    rw [rounds_succ]; go_wp2
    rw [rounds_succ]; go_wp2
    rw [rounds_succ]; go_wp2
    rw [rounds_succ]; go_wp2
    go_ret
    exact ⟨rfl, rfl⟩
  · rw [show or4 v0 v1 v2 v3 = 0 from by unfold or4; rw [if_pos h0]; rw [if_pos h1]; rw [if_pos h2]; rw [h3]]
    have t0 : (v0 != 0) = false := by rw [h0]; rfl
    clear h0
    have t1 : (v1 != 0) = false := by rw [h1]; rfl
    clear h1
    have t2 : (v2 != 0) = false := by rw [h2]; rfl
    clear h2
    have t3 : (v3 != 0) = false := by rw [h3]; rfl
    clear h3
    go_enter Try.func143, Try.ntmps143
    go_wp2
    refine wp_loop_rounds 5 ?_
    rw [rounds_succ]; go_wp2
    rw [rounds_succ]; go_wp2
    rw [rounds_succ]; go_wp2
    rw [rounds_succ]; go_wp2
    rw [rounds_succ]; go_wp2
    go_ret
    exact ⟨rfl, rfl⟩
theorem Or4_new (v0 v1 v2 v3 : Int) (T : TypeId) (w : World) (n : Nat) (hn : n = w.heap.size) :
    Calls Try.prog 143 #[.slice (some ⟨n, 0, none⟩) 4 4] (w.alloc (.cells #[.int .i64 v0, .int .i64 v1, .int .i64 v2, .int .i64 v3] T)) fun e w' => e = .returned (.int .i64 (or4 v0 v1 v2 v3)) ∧ w.alloc (.cells #[.int .i64 v0, .int .i64 v1, .int .i64 v2, .int .i64 v3] T) = w' := by
  subst hn
  exact Or4_any v0 v1 v2 v3 _ _ (by simp [go_sem]) (by simp [go_sem]) (by simp [go_sem]) (by simp [go_sem])
theorem Or4_drew (v0 v1 v2 v3 : Int) (T : TypeId) (w : World) (n : Nat) (hn : n = w.heap.size) :
    Calls Try.prog 143 #[.slice (some ⟨n, 0, none⟩) 4 4] (w.alloc (.cells #[.int .i64 v0, .int .i64 v1, .int .i64 v2, .int .i64 v3] T)).drew fun e w' => e = .returned (.int .i64 (or4 v0 v1 v2 v3)) ∧ (w.alloc (.cells #[.int .i64 v0, .int .i64 v1, .int .i64 v2, .int .i64 v3] T)).drew = w' := by
  subst hn
  exact Or4_any v0 v1 v2 v3 _ _ (by simp [go_sem]) (by simp [go_sem]) (by simp [go_sem]) (by simp [go_sem])
/-- what a walk keeps: cells, and that nothing that was there has turned -/
def K_R4 (R : Nat) (w w' : World) : Prop := KL w [] [(R, 0), (R, 1), (R, 2), (R, 3)] w'
theorem K_R4.below {R : Nat} {w w1 w2 : World} (hb : Below w1.heap.size w1 w2) (h : K_R4 R w w1) : K_R4 R w w2 := KL.below hb h
theorem K_R4.draws {R : Nat} {w w1 : World} (n : Nat) (h : K_R4 R w w1) : K_R4 R w (w1.drewN n) := KL.draws n h
theorem K_R4.drew {R : Nat} {w w1 : World} (h : K_R4 R w w1) : K_R4 R w w1.drew := KL.draws 1 h
theorem K_R4.alloc {R : Nat} {w w1 : World} (o : Obj) (h : K_R4 R w w1) : K_R4 R w (w1.alloc o) := KL.alloc o h
theorem K_R4.set {R : Nat} {w w1 : World} (h : K_R4 R w w1) (b i : Nat) (v : Value) (hb : w.heap.size ≤ b) : K_R4 R w (w1.setCell ⟨b, i, none⟩ v) :=
  KL.set h b i v (by intro x hx; simp at hx) (by omega)
theorem K_R4.bel {R : Nat} {w w1 : World} (h : K_R4 R w w1) : Below w.heap.size w w1 := KL.bel h
theorem K_R4.cells {R : Nat} {w w' : World} (h : K_R4 R w w') : w'.cell? ⟨R, 0, none⟩ = some (cv w' R 0) ∧ w'.frozen? ⟨R, 0, none⟩ = false ∧ w'.cell? ⟨R, 1, none⟩ = some (cv w' R 1) ∧ w'.frozen? ⟨R, 1, none⟩ = false ∧ w'.cell? ⟨R, 2, none⟩ = some (cv w' R 2) ∧ w'.frozen? ⟨R, 2, none⟩ = false ∧ w'.cell? ⟨R, 3, none⟩ = some (cv w' R 3) ∧ w'.frozen? ⟨R, 3, none⟩ = false := ⟨h.d (R, 0) (by simp), h.f (R, 0) (by simp), h.d (R, 1) (by simp), h.f (R, 1) (by simp), h.d (R, 2) (by simp), h.f (R, 2) (by simp), h.d (R, 3) (by simp), h.f (R, 3) (by simp)⟩
theorem K_R4.zs {R : Nat} {w w' : World} (h : K_R4 R w w') : R < w'.heap.size ∧ True := ⟨KL.zf h (x := (R, 0)) (by simp), trivial⟩
theorem K_R4.ks {R : Nat} {w w' : World} (h : K_R4 R w w') : (w'.cell? ⟨R, 0, none⟩ = some (cv w' R 0) ∧ w'.frozen? ⟨R, 0, none⟩ = false ∧ w'.cell? ⟨R, 1, none⟩ = some (cv w' R 1) ∧ w'.frozen? ⟨R, 1, none⟩ = false ∧ w'.cell? ⟨R, 2, none⟩ = some (cv w' R 2) ∧ w'.frozen? ⟨R, 2, none⟩ = false ∧ w'.cell? ⟨R, 3, none⟩ = some (cv w' R 3) ∧ w'.frozen? ⟨R, 3, none⟩ = false) ∧ K_R4 R w w' := ⟨h.cells, h⟩
/-- what a walk keeps: cells, and that nothing that was there has turned -/
def K_Fb (a0 a1 a2 a3 b0 b1 b2 b3 : Int) (p q : Nat) (w w' : World) : Prop := KL w [(p, 0, .int .i64 a0), (p, 1, .int .i64 a1), (p, 2, .int .i64 a2), (p, 3, .int .i64 a3), (q, 0, .int .i64 b0), (q, 1, .int .i64 b1), (q, 2, .int .i64 b2), (q, 3, .int .i64 b3)] [] w'
theorem K_Fb.below {a0 a1 a2 a3 b0 b1 b2 b3 : Int} {p q : Nat} {w w1 w2 : World} (hb : Below w1.heap.size w1 w2) (h : K_Fb a0 a1 a2 a3 b0 b1 b2 b3 p q w w1) : K_Fb a0 a1 a2 a3 b0 b1 b2 b3 p q w w2 := KL.below hb h
theorem K_Fb.draws {a0 a1 a2 a3 b0 b1 b2 b3 : Int} {p q : Nat} {w w1 : World} (n : Nat) (h : K_Fb a0 a1 a2 a3 b0 b1 b2 b3 p q w w1) : K_Fb a0 a1 a2 a3 b0 b1 b2 b3 p q w (w1.drewN n) := KL.draws n h
theorem K_Fb.drew {a0 a1 a2 a3 b0 b1 b2 b3 : Int} {p q : Nat} {w w1 : World} (h : K_Fb a0 a1 a2 a3 b0 b1 b2 b3 p q w w1) : K_Fb a0 a1 a2 a3 b0 b1 b2 b3 p q w w1.drew := KL.draws 1 h
theorem K_Fb.alloc {a0 a1 a2 a3 b0 b1 b2 b3 : Int} {p q : Nat} {w w1 : World} (o : Obj) (h : K_Fb a0 a1 a2 a3 b0 b1 b2 b3 p q w w1) : K_Fb a0 a1 a2 a3 b0 b1 b2 b3 p q w (w1.alloc o) := KL.alloc o h
theorem K_Fb.set {a0 a1 a2 a3 b0 b1 b2 b3 : Int} {p q : Nat} {w w1 : World} (h : K_Fb a0 a1 a2 a3 b0 b1 b2 b3 p q w w1) (b i : Nat) (v : Value) (hb : b ≠ p ∧ b ≠ q ∧ w.heap.size ≤ b) : K_Fb a0 a1 a2 a3 b0 b1 b2 b3 p q w (w1.setCell ⟨b, i, none⟩ v) :=
  KL.set h b i v (by intro x hx; simp only [List.mem_cons, List.not_mem_nil, or_false] at hx; rcases hx with rfl | rfl | rfl | rfl | rfl | rfl | rfl | rfl <;> simp only [] <;> omega) (by omega)
theorem K_Fb.bel {a0 a1 a2 a3 b0 b1 b2 b3 : Int} {p q : Nat} {w w1 : World} (h : K_Fb a0 a1 a2 a3 b0 b1 b2 b3 p q w w1) : Below w.heap.size w w1 := KL.bel h
theorem K_Fb.cells {a0 a1 a2 a3 b0 b1 b2 b3 : Int} {p q : Nat} {w w' : World} (h : K_Fb a0 a1 a2 a3 b0 b1 b2 b3 p q w w') : w'.cell? ⟨p, 0, none⟩ = some (.int .i64 a0) ∧ w'.cell? ⟨p, 1, none⟩ = some (.int .i64 a1) ∧ w'.cell? ⟨p, 2, none⟩ = some (.int .i64 a2) ∧ w'.cell? ⟨p, 3, none⟩ = some (.int .i64 a3) ∧ w'.cell? ⟨q, 0, none⟩ = some (.int .i64 b0) ∧ w'.cell? ⟨q, 1, none⟩ = some (.int .i64 b1) ∧ w'.cell? ⟨q, 2, none⟩ = some (.int .i64 b2) ∧ w'.cell? ⟨q, 3, none⟩ = some (.int .i64 b3) := ⟨h.c (p, 0, .int .i64 a0) (by simp), h.c (p, 1, .int .i64 a1) (by simp), h.c (p, 2, .int .i64 a2) (by simp), h.c (p, 3, .int .i64 a3) (by simp), h.c (q, 0, .int .i64 b0) (by simp), h.c (q, 1, .int .i64 b1) (by simp), h.c (q, 2, .int .i64 b2) (by simp), h.c (q, 3, .int .i64 b3) (by simp)⟩
theorem K_Fb.zs {a0 a1 a2 a3 b0 b1 b2 b3 : Int} {p q : Nat} {w w' : World} (h : K_Fb a0 a1 a2 a3 b0 b1 b2 b3 p q w w') : p < w'.heap.size ∧ q < w'.heap.size ∧ True := ⟨KL.z h (x := (p, 0, .int .i64 a0)) (by simp), KL.z h (x := (q, 0, .int .i64 b0)) (by simp), trivial⟩
theorem K_Fb.ks {a0 a1 a2 a3 b0 b1 b2 b3 : Int} {p q : Nat} {w w' : World} (h : K_Fb a0 a1 a2 a3 b0 b1 b2 b3 p q w w') : (w'.cell? ⟨p, 0, none⟩ = some (.int .i64 a0) ∧ w'.cell? ⟨p, 1, none⟩ = some (.int .i64 a1) ∧ w'.cell? ⟨p, 2, none⟩ = some (.int .i64 a2) ∧ w'.cell? ⟨p, 3, none⟩ = some (.int .i64 a3) ∧ w'.cell? ⟨q, 0, none⟩ = some (.int .i64 b0) ∧ w'.cell? ⟨q, 1, none⟩ = some (.int .i64 b1) ∧ w'.cell? ⟨q, 2, none⟩ = some (.int .i64 b2) ∧ w'.cell? ⟨q, 3, none⟩ = some (.int .i64 b3)) ∧ K_Fb a0 a1 a2 a3 b0 b1 b2 b3 p q w w' := ⟨h.cells, h⟩
set_option maxHeartbeats 3200000 in
theorem fcompare_any (a0 a1 a2 a3 b0 b1 b2 b3 : Int) (w : World) :
    Calls Try.prog 135 #[.agg #[.int .i64 a0, .int .i64 a1, .int .i64 a2, .int .i64 a3], .agg #[.int .i64 b0, .int .i64 b1, .int .i64 b2, .int .i64 b3]] w fun e w' => e = .returned (.int .i64 (cmpH ⟨a0, a1, a2, a3⟩ ⟨b0, b1, b2, b3⟩)) ∧ Below w.heap.size w w' := by
  go_enter Try.func135, Try.ntmps135
  go_wp2_with fail
  have hk : K_Fb a0 a1 a2 a3 b0 b1 b2 b3 w.heap.size (w.heap.size + 1) w ((w.alloc (.cells #[.int .i64 a0, .int .i64 a1, .int .i64 a2, .int .i64 a3] 95)).alloc (.cells #[.int .i64 b0, .int .i64 b1, .int .i64 b2, .int .i64 b3] 95)) := ⟨by simp [go_sem], by simp [go_sem], by simp [go_sem], by (repeat (first | (with_reducible exact Below.refl _ _) | (with_reducible exact HB.out) | (with_reducible refine below_draws ?_ _) | (with_reducible refine Below.alloc ?_ (by go_size) _) | (with_reducible refine Below.setCell ?_ (by go_size) _) | (with_reducible refine Below.alloc ?_ (by simp <;> omega) _) | (with_reducible refine Below.setCell ?_ (by simp <;> omega) _)))⟩
  go_region_held3 (fun w' => (w'.cell? ⟨w.heap.size, 0, none⟩ = some (.int .i64 a0) ∧ w'.cell? ⟨w.heap.size, 1, none⟩ = some (.int .i64 a1) ∧ w'.cell? ⟨w.heap.size, 2, none⟩ = some (.int .i64 a2) ∧ w'.cell? ⟨w.heap.size, 3, none⟩ = some (.int .i64 a3) ∧ w'.cell? ⟨(w.heap.size + 1), 0, none⟩ = some (.int .i64 b0) ∧ w'.cell? ⟨(w.heap.size + 1), 1, none⟩ = some (.int .i64 b1) ∧ w'.cell? ⟨(w.heap.size + 1), 2, none⟩ = some (.int .i64 b2) ∧ w'.cell? ⟨(w.heap.size + 1), 3, none⟩ = some (.int .i64 b3)) ∧ K_Fb a0 a1 a2 a3 b0 b1 b2 b3 w.heap.size (w.heap.size + 1) w w') ((refine K_Fb.ks ?_; repeat (first | (with_reducible assumption) | (with_reducible refine K_Fb.draws _ ?_) | (with_reducible refine K_Fb.drew ?_) | (with_reducible refine K_Fb.alloc _ ?_) | (with_reducible refine K_Fb.set ?_ _ _ _ (by omega)))))
    (first
      | (go_at_call 144; (with_reducible refine (Compare_any _ _ _).mono ?_); rintro e w' ⟨rfl, rfl⟩)
      | (go_at_call 143; (with_reducible refine (Or4_drew _ _ _ _ _ _ _ (by simp)).mono ?_); rintro e w'' ⟨rfl, rfl⟩))
  all_goals
    go_wp2
    go_ret
    exact ⟨rfl, K_Fb.bel (And.right (by assumption))⟩
theorem hcompare_any (a0 a1 a2 a3 b0 b1 b2 b3 : Int) (w : World) :
    Calls Try.prog 99 #[.agg #[.int .i64 a0, .int .i64 a1, .int .i64 a2, .int .i64 a3], .agg #[.int .i64 b0, .int .i64 b1, .int .i64 b2, .int .i64 b3]] w fun e w' => e = .returned (.int .i64 (cmpH ⟨a0, a1, a2, a3⟩ ⟨b0, b1, b2, b3⟩)) ∧ Below w.heap.size w w' := by
  go_enter Try.func99, Try.ntmps99
  go_wp2_with fail
  refine (fcompare_any _ _ _ _ _ _ _ _ _).mono ?_
  rintro e w1 ⟨rfl, hb⟩
  have HB := Lib.hid (below_up (B := w.heap.size) (w := w) hb (by (repeat (first | (with_reducible exact Below.refl _ _) | (with_reducible exact HB.out) | (with_reducible refine below_draws ?_ _) | (with_reducible refine Below.alloc ?_ (by go_size) _) | (with_reducible refine Below.setCell ?_ (by go_size) _) | (with_reducible refine Below.alloc ?_ (by simp <;> omega) _) | (with_reducible refine Below.setCell ?_ (by simp <;> omega) _)))) (by simp; omega))
  clear hb
  go_wp2
  go_ret
  exact ⟨rfl, by (repeat (first | (with_reducible exact Below.refl _ _) | (with_reducible exact HB.out) | (with_reducible refine below_draws ?_ _) | (with_reducible refine Below.alloc ?_ (by go_size) _) | (with_reducible refine Below.setCell ?_ (by go_size) _) | (with_reducible refine Below.alloc ?_ (by simp <;> omega) _) | (with_reducible refine Below.setCell ?_ (by simp <;> omega) _)))⟩
theorem P_bd {a b : H} (h : HB 100000000 a) (k : HB 100000000 b) : HB 40000000000000000 (P a b) := by
  obtain ⟨h0, h1, h2, h3⟩ := h
  obtain ⟨k0, k1, k2, k3⟩ := k
  have m1 := Bn.mul 10000000000000000 h0 k0 rfl
  have m2 := Bn.mul 10000000000000000 h1 k1 rfl
  have m3 := Bn.mul 10000000000000000 h2 k2 rfl
  have m4 := Bn.mul 10000000000000000 h3 k3 rfl
  have m5 := Bn.mul 10000000000000000 h0 k1 rfl
  have m6 := Bn.mul 10000000000000000 h1 k0 rfl
  have m7 := Bn.mul 10000000000000000 h2 k3 rfl
  have m8 := Bn.mul 10000000000000000 h3 k2 rfl
  have m9 := Bn.mul 10000000000000000 h0 k2 rfl
  have l1 := Bn.mul 10000000000000000 h2 k0 rfl
  have l2 := Bn.mul 10000000000000000 h3 k1 rfl
  have l3 := Bn.mul 10000000000000000 h1 k3 rfl
  have l4 := Bn.mul 10000000000000000 h0 k3 rfl
  have l5 := Bn.mul 10000000000000000 h3 k0 rfl
  have l6 := Bn.mul 10000000000000000 h1 k2 rfl
  have l7 := Bn.mul 10000000000000000 h2 k1 rfl
  unfold P
  refine ⟨?_, ?_, ?_, ?_⟩ <;> simp only [] <;> omega
set_option maxHeartbeats 800000 in
/-- products, divided by a number -/
theorem by_h (a b : H) (w : World) (h : HB 100000000 a) (k : HB 100000000 b) :
    Calls Try.prog 82 #[.agg #[.int .i64 (a).w, .int .i64 (a).x, .int .i64 (a).y, .int .i64 (a).z], .agg #[.int .i64 (b).w, .int .i64 (b).x, .int .i64 (b).y, .int .i64 (b).z]] w fun e w' => e = .returned (.agg #[.int .i64 (by_ a b).w, .int .i64 (by_ a b).x, .int .i64 (by_ a b).y, .int .i64 (by_ a b).z]) ∧ Below w.heap.size w w' := by
  have PB := P_bd h k
  have T1 := Lib.hid (fun W => times_f a.w a.x a.y a.z b.w b.x b.y b.z W h.1 h.2.1 h.2.2.1 h.2.2.2 k.1 k.2.1 k.2.2.1 k.2.2.2)
  have O1 := Lib.hid (fun W => over_f (P a b).w (P a b).x (P a b).y (P a b).z 2 W ⟨by have := PB.1.1; omega, by have := PB.1.2; omega⟩ ⟨by have := PB.2.1.1; omega, by have := PB.2.1.2; omega⟩ ⟨by have := PB.2.2.1.1; omega, by have := PB.2.2.1.2; omega⟩ ⟨by have := PB.2.2.2.1; omega, by have := PB.2.2.2.2; omega⟩ (by decide))
  obtain ⟨a0, a1, a2, a3⟩ := a
  obtain ⟨b0, b1, b2, b3⟩ := b
  clear h k PB
  simp only [] at T1 O1 ⊢
  go_enter Try.func82, Try.ntmps82
  go_wp2_with fail
  refine (T1.out _).mono ?_
  rintro e w1 ⟨rfl, hb⟩
  have hK : K_R4 (w.heap.size + 2) w w1 := K_R4.below hb ⟨by simp, by simp [go_sem], by simp [go_sem], by (repeat (first | (with_reducible exact Below.refl _ _) | (with_reducible exact HB.out) | (with_reducible refine below_draws ?_ _) | (with_reducible refine Below.alloc ?_ (by go_size) _) | (with_reducible refine Below.setCell ?_ (by go_size) _) | (with_reducible refine Below.alloc ?_ (by simp <;> omega) _) | (with_reducible refine Below.setCell ?_ (by simp <;> omega) _)))⟩
  have HK := Lib.hid hK
  clear hb hK
  go_wp2_with fail
  refine (O1.out _).mono ?_
  rintro e w2 ⟨rfl, hb⟩
  have hK := K_R4.below hb HK.out
  clear hb HK
  obtain ⟨d0_, f0_, d1_, f1_, d2_, f2_, d3_, f3_⟩ := K_R4.cells hK; obtain ⟨z0_, -⟩ := K_R4.zs hK; have HK := Lib.hid hK; clear hK
  go_wp2
  exact bodyPost_ret (v := .agg #[.int .i64 (by_ ⟨a0, a1, a2, a3⟩ ⟨b0, b1, b2, b3⟩).w, .int .i64 (by_ ⟨a0, a1, a2, a3⟩ ⟨b0, b1, b2, b3⟩).x, .int .i64 (by_ ⟨a0, a1, a2, a3⟩ ⟨b0, b1, b2, b3⟩).y, .int .i64 (by_ ⟨a0, a1, a2, a3⟩ ⟨b0, b1, b2, b3⟩).z]) (by simp [results, Try.results82, go_sem, d0_, f0_, d1_, f1_, d2_, f2_, d3_, f3_, by_, H.ov]) rfl ⟨rfl, by have HB := Lib.hid (K_R4.bel HK.out); (repeat (first | (with_reducible exact Below.refl _ _) | (with_reducible exact HB.out) | (with_reducible refine below_draws ?_ _) | (with_reducible refine Below.alloc ?_ (by go_size) _) | (with_reducible refine Below.setCell ?_ (by go_size) _) | (with_reducible refine Below.alloc ?_ (by simp <;> omega) _) | (with_reducible refine Below.setCell ?_ (by simp <;> omega) _)))⟩
theorem isZero_h (a : H) (w : World) : Calls Try.prog 71 #[.agg #[.int .i64 (a).w, .int .i64 (a).x, .int .i64 (a).y, .int .i64 (a).z]] w fun e w' => e = .returned (.bool (zeroB a)) ∧ Below w.heap.size w w' := by
  obtain ⟨a0, a1, a2, a3⟩ := a
  simp only []
  go_enter Try.func71, Try.ntmps71
  go_wp2
  all_goals
    go_ret
    exact ⟨by simp [zeroB, *], by (repeat (first | (with_reducible exact Below.refl _ _) | (with_reducible exact HB.out) | (with_reducible refine below_draws ?_ _) | (with_reducible refine Below.alloc ?_ (by go_size) _) | (with_reducible refine Below.setCell ?_ (by go_size) _) | (with_reducible refine Below.alloc ?_ (by simp <;> omega) _) | (with_reducible refine Below.setCell ?_ (by simp <;> omega) _)))⟩
end Go.Proofs.Yteiflfmpkfhkoaa.Rt
