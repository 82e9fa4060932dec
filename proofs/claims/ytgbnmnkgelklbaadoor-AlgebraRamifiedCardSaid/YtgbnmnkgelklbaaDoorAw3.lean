/-
  WALKS at the example of 'awake': the text of an element.
-/
import Derived.Test.YtgbnmnkgelklbaaDoorAl5
import Derived.WalkSpells
namespace Go.Proofs.YtgbnmnkgelklbaaDoor.Al
open Go.RowKit
open Alm
set_option linter.unusedVariables false
set_option linter.unusedSimpArgs false
set_option maxRecDepth 100000
set_option maxHeartbeats 800000 in
theorem sm1 (w : World) : Calls Tryd.prog 90 #[.int .i64 1] w fun e w' => e = .returned (.string ⟨#[49]⟩) ∧ w = w' := by
  go_enter Tryd.func90, Tryd.ntmps90
  go_wp2
  go_ret
  exact ⟨rfl, rfl⟩
set_option maxHeartbeats 800000 in
theorem fi1 (w : World) : Calls Tryd.prog 83 #[.int .i64 1, .int .i64 10] w fun e w' => e = .returned (.string ⟨#[49]⟩) ∧ w = w' := by
  go_enter Tryd.func83, Tryd.ntmps83
  go_wp2_with (first | (go_at_call 90; ((with_reducible refine (sm1 _).mono ?_); rintro e w' ⟨rfl, rfl⟩)))
  go_ret
  exact ⟨rfl, rfl⟩
set_option maxHeartbeats 800000 in
theorem ii1 (w : World) : Calls Tryd.prog 70 #[.int .i64 1] w fun e w' => e = .returned (.string ⟨#[49]⟩) ∧ w = w' := by
  go_enter Tryd.func70, Tryd.ntmps70
  go_wp2_with (first | (go_at_call 83; ((with_reducible refine (fi1 _).mono ?_); rintro e w' ⟨rfl, rfl⟩)))
  go_ret
  exact ⟨rfl, rfl⟩
set_option maxHeartbeats 800000 in
theorem it1 (w : World) : Calls Tryd.prog 51 #[.int .i64 1] w fun e w' => e = .returned (.string ⟨#[49]⟩) ∧ w = w' := by
  go_enter Tryd.func51, Tryd.ntmps51
  go_wp2_with (first | (go_at_call 70; ((with_reducible refine (ii1 _).mono ?_); rintro e w' ⟨rfl, rfl⟩)))
  go_ret
  exact ⟨rfl, rfl⟩
set_option maxHeartbeats 800000 in
theorem sm2 (w : World) : Calls Tryd.prog 90 #[.int .i64 2] w fun e w' => e = .returned (.string ⟨#[50]⟩) ∧ w = w' := by
  go_enter Tryd.func90, Tryd.ntmps90
  go_wp2
  go_ret
  exact ⟨rfl, rfl⟩
set_option maxHeartbeats 800000 in
theorem fi2 (w : World) : Calls Tryd.prog 83 #[.int .i64 2, .int .i64 10] w fun e w' => e = .returned (.string ⟨#[50]⟩) ∧ w = w' := by
  go_enter Tryd.func83, Tryd.ntmps83
  go_wp2_with (first | (go_at_call 90; ((with_reducible refine (sm2 _).mono ?_); rintro e w' ⟨rfl, rfl⟩)))
  go_ret
  exact ⟨rfl, rfl⟩
set_option maxHeartbeats 800000 in
theorem ii2 (w : World) : Calls Tryd.prog 70 #[.int .i64 2] w fun e w' => e = .returned (.string ⟨#[50]⟩) ∧ w = w' := by
  go_enter Tryd.func70, Tryd.ntmps70
  go_wp2_with (first | (go_at_call 83; ((with_reducible refine (fi2 _).mono ?_); rintro e w' ⟨rfl, rfl⟩)))
  go_ret
  exact ⟨rfl, rfl⟩
set_option maxHeartbeats 800000 in
theorem it2 (w : World) : Calls Tryd.prog 51 #[.int .i64 2] w fun e w' => e = .returned (.string ⟨#[50]⟩) ∧ w = w' := by
  go_enter Tryd.func51, Tryd.ntmps51
  go_wp2_with (first | (go_at_call 70; ((with_reducible refine (ii2 _).mono ?_); rintro e w' ⟨rfl, rfl⟩)))
  go_ret
  exact ⟨rfl, rfl⟩
set_option maxHeartbeats 800000 in
theorem sm3 (w : World) : Calls Tryd.prog 90 #[.int .i64 3] w fun e w' => e = .returned (.string ⟨#[51]⟩) ∧ w = w' := by
  go_enter Tryd.func90, Tryd.ntmps90
  go_wp2
  go_ret
  exact ⟨rfl, rfl⟩
set_option maxHeartbeats 800000 in
theorem fi3 (w : World) : Calls Tryd.prog 83 #[.int .i64 3, .int .i64 10] w fun e w' => e = .returned (.string ⟨#[51]⟩) ∧ w = w' := by
  go_enter Tryd.func83, Tryd.ntmps83
  go_wp2_with (first | (go_at_call 90; ((with_reducible refine (sm3 _).mono ?_); rintro e w' ⟨rfl, rfl⟩)))
  go_ret
  exact ⟨rfl, rfl⟩
set_option maxHeartbeats 800000 in
theorem ii3 (w : World) : Calls Tryd.prog 70 #[.int .i64 3] w fun e w' => e = .returned (.string ⟨#[51]⟩) ∧ w = w' := by
  go_enter Tryd.func70, Tryd.ntmps70
  go_wp2_with (first | (go_at_call 83; ((with_reducible refine (fi3 _).mono ?_); rintro e w' ⟨rfl, rfl⟩)))
  go_ret
  exact ⟨rfl, rfl⟩
set_option maxHeartbeats 800000 in
theorem it3 (w : World) : Calls Tryd.prog 51 #[.int .i64 3] w fun e w' => e = .returned (.string ⟨#[51]⟩) ∧ w = w' := by
  go_enter Tryd.func51, Tryd.ntmps51
  go_wp2_with (first | (go_at_call 70; ((with_reducible refine (ii3 _).mono ?_); rintro e w' ⟨rfl, rfl⟩)))
  go_ret
  exact ⟨rfl, rfl⟩
set_option maxHeartbeats 800000 in
theorem t01 (w : World) : Calls Tryd.prog 69 #[.int .i64 0, .int .i64 1] w fun e w' => e = .returned (.string ⟨#[49]⟩) ∧ w = w' := by
  go_enter Tryd.func69, Tryd.ntmps69
  go_wp2_with (first | (go_at_call 51; ((with_reducible refine (it1 _).mono ?_); rintro e w' ⟨rfl, rfl⟩)))
  go_ret
  exact ⟨rfl, rfl⟩
set_option maxHeartbeats 800000 in
theorem t31 (w : World) : Calls Tryd.prog 69 #[.int .i64 3, .int .i64 1] w fun e w' => e = .returned (.string ⟨#[107]⟩) ∧ w = w' := by
  go_enter Tryd.func69, Tryd.ntmps69
  go_wp2
  go_ret
  exact ⟨rfl, rfl⟩
theorem quietE {f : FuncId} {args : Array Value} {w : World} {n : Nat} {v : Value} (h : Calls Tryd.prog f args (w.drewN n) fun e w' => e = .returned v ∧ w.drewN n = w') : Calls Tryd.prog f args (w.drewN n) fun e w'' => e = .returned v ∧ ∃ m, w'' = w.drewN m :=
  h.mono fun _ _ ⟨he, hm⟩ => ⟨he, n, hm.symm⟩
set_option maxHeartbeats 800000 in
theorem t12 (w : World) : Calls Tryd.prog 69 #[.int .i64 1, .int .i64 2] w fun e w' => e = .returned (.string ⟨#[50, 105]⟩) ∧ Drew w w' := by
  go_enter Tryd.func69, Tryd.ntmps69
  go_wp2
  go_quiet ((go_at_call 51; exact quietE (it2 _)))
  go_wp2
  go_ret
  exact ⟨rfl, ⟨_, rfl⟩⟩
set_option maxHeartbeats 1600000 in
theorem sum_ex (w : World) : Calls Tryd.prog 50 #[.agg #[.int .i64 1, .int .i64 (-2), .int .i64 0, .int .i64 1]] w fun e w' => e = .returned (.string ⟨#[49, 32, 45, 32, 50, 105, 32, 43, 32, 107]⟩) ∧ Below w.heap.size w w' := by
  have i0 := Try.i0 (.int .i64 1) (.int .i64 (-2)) (.int .i64 0) (.int .i64 1)
  have i1 := Try.i1 (.int .i64 1) (.int .i64 (-2)) (.int .i64 0) (.int .i64 1)
  have i2 := Try.i2 (.int .i64 1) (.int .i64 (-2)) (.int .i64 0) (.int .i64 1)
  have i3 := Try.i3 (.int .i64 1) (.int .i64 (-2)) (.int .i64 0) (.int .i64 1)
  have r0 : (⟨#[]⟩ : ByteArray) ++ (⟨#[49]⟩ : ByteArray) = (⟨#[49]⟩ : ByteArray) := rfl
  have r1 : (⟨#[32, 45, 32]⟩ : ByteArray) ++ (⟨#[50, 105]⟩ : ByteArray) = (⟨#[32, 45, 32, 50, 105]⟩ : ByteArray) := rfl
  have r2 : (⟨#[49]⟩ : ByteArray) ++ (⟨#[32, 45, 32, 50, 105]⟩ : ByteArray) = (⟨#[49, 32, 45, 32, 50, 105]⟩ : ByteArray) := rfl
  have r3 : (⟨#[32, 43, 32]⟩ : ByteArray) ++ (⟨#[107]⟩ : ByteArray) = (⟨#[32, 43, 32, 107]⟩ : ByteArray) := rfl
  have r4 : (⟨#[49, 32, 45, 32, 50, 105]⟩ : ByteArray) ++ (⟨#[32, 43, 32, 107]⟩ : ByteArray) = (⟨#[49, 32, 45, 32, 50, 105, 32, 43, 32, 107]⟩ : ByteArray) := rfl
  have e0 : (⟨#[49]⟩ : ByteArray).toList.isEmpty = false := by kernel_rfl
  have n0 : ((⟨#[49]⟩ : ByteArray).toList = []) = False := by apply eq_false; intro h; rw [h] at e0; cases e0
  have e1 : (⟨#[49, 32, 45, 32, 50, 105]⟩ : ByteArray).toList.isEmpty = false := by kernel_rfl
  have n1 : ((⟨#[49, 32, 45, 32, 50, 105]⟩ : ByteArray).toList = []) = False := by apply eq_false; intro h; rw [h] at e1; cases e1
  have e2 : (⟨#[49, 32, 45, 32, 50, 105, 32, 43, 32, 107]⟩ : ByteArray).toList.isEmpty = false := by kernel_rfl
  have n2 : ((⟨#[49, 32, 45, 32, 50, 105, 32, 43, 32, 107]⟩ : ByteArray).toList = []) = False := by apply eq_false; intro h; rw [h] at e2; cases e2
  go_enter Tryd.func50, Tryd.ntmps50
  go_wp2
  refine wp_loop_rounds 5 ?_
  rw [rounds_succ]; go_wp2_with (go_at_call 69; ((with_reducible refine (t01 _).mono ?_); rintro e w' ⟨rfl, rfl⟩))
  rw [rounds_succ]; go_wp2_with (go_at_call 69; (with_reducible refine (t12 _).mono ?_); rintro e w' ⟨rfl, n, rfl⟩)
  rw [rounds_succ]; go_wp2
  rw [rounds_succ]; go_wp2_with (go_at_call 69; ((with_reducible refine (t31 _).mono ?_); rintro e w' ⟨rfl, rfl⟩))
  rw [rounds_succ]; go_wp2
  go_ret
  exact ⟨rfl, by (repeat (first | (with_reducible exact Below.refl _ _) | (with_reducible exact HB.out) | (with_reducible refine below_draws ?_ _) | (with_reducible refine Below.alloc ?_ (by go_size) _) | (with_reducible refine Below.setCell ?_ (by go_size) _) | (with_reducible refine Below.alloc ?_ (by simp <;> omega) _) | (with_reducible refine Below.setCell ?_ (by simp <;> omega) _)))⟩
theorem fit_ex : fitQ ⟨1, -2, 0, 1, 3⟩ = ⟨1, -2, 0, 1, 3⟩ ∧ fitE ⟨1, -2, 0, 1, 3⟩ = 0 := ⟨by kernel_rfl, by kernel_rfl⟩
theorem Normal_ex (w : World) : Calls Tryd.prog 48 #[.agg #[.int .i64 1, .int .i64 (-2), .int .i64 0, .int .i64 1, .int .i64 3]] w fun e w' => e = .returned (.tuple #[.agg #[.int .i64 1, .int .i64 (-2), .int .i64 0, .int .i64 1, .int .i64 3], .int .i64 0]) ∧ Below w.heap.size w w' := by
  have h := Normal_ok 1 (-2) 0 1 3 w (by decide)
  rw [fit_ex.1, fit_ex.2] at h
  exact h
/-- what a walk keeps: cells, and that nothing that was there has turned -/
def K_T (n0 n1 n2 n3 d : Int) (B : Nat) (w w' : World) : Prop := KL w [(B, 0, .int .i64 n0), (B, 1, .int .i64 n1), (B, 2, .int .i64 n2), (B, 3, .int .i64 n3), (B, 4, .int .i64 d)] [] w'
theorem K_T.below {n0 n1 n2 n3 d : Int} {B : Nat} {w w1 w2 : World} (hb : Below w1.heap.size w1 w2) (h : K_T n0 n1 n2 n3 d B w w1) : K_T n0 n1 n2 n3 d B w w2 := KL.below hb h
theorem K_T.draws {n0 n1 n2 n3 d : Int} {B : Nat} {w w1 : World} (n : Nat) (h : K_T n0 n1 n2 n3 d B w w1) : K_T n0 n1 n2 n3 d B w (w1.drewN n) := KL.draws n h
theorem K_T.drew {n0 n1 n2 n3 d : Int} {B : Nat} {w w1 : World} (h : K_T n0 n1 n2 n3 d B w w1) : K_T n0 n1 n2 n3 d B w w1.drew := KL.draws 1 h
theorem K_T.alloc {n0 n1 n2 n3 d : Int} {B : Nat} {w w1 : World} (o : Obj) (h : K_T n0 n1 n2 n3 d B w w1) : K_T n0 n1 n2 n3 d B w (w1.alloc o) := KL.alloc o h
theorem K_T.set {n0 n1 n2 n3 d : Int} {B : Nat} {w w1 : World} (h : K_T n0 n1 n2 n3 d B w w1) (b i : Nat) (v : Value) (hb : b ≠ B ∧ w.heap.size ≤ b) : K_T n0 n1 n2 n3 d B w (w1.setCell ⟨b, i, none⟩ v) :=
  KL.set h b i v (by intro x hx; simp only [List.mem_cons, List.not_mem_nil, or_false] at hx; rcases hx with rfl | rfl | rfl | rfl | rfl <;> simp only [] <;> omega) (by omega)
theorem K_T.bel {n0 n1 n2 n3 d : Int} {B : Nat} {w w1 : World} (h : K_T n0 n1 n2 n3 d B w w1) : Below w.heap.size w w1 := KL.bel h
theorem K_T.cells {n0 n1 n2 n3 d : Int} {B : Nat} {w w' : World} (h : K_T n0 n1 n2 n3 d B w w') : w'.cell? ⟨B, 0, none⟩ = some (.int .i64 n0) ∧ w'.cell? ⟨B, 1, none⟩ = some (.int .i64 n1) ∧ w'.cell? ⟨B, 2, none⟩ = some (.int .i64 n2) ∧ w'.cell? ⟨B, 3, none⟩ = some (.int .i64 n3) ∧ w'.cell? ⟨B, 4, none⟩ = some (.int .i64 d) := ⟨h.c (B, 0, .int .i64 n0) (by simp), h.c (B, 1, .int .i64 n1) (by simp), h.c (B, 2, .int .i64 n2) (by simp), h.c (B, 3, .int .i64 n3) (by simp), h.c (B, 4, .int .i64 d) (by simp)⟩
theorem K_T.zs {n0 n1 n2 n3 d : Int} {B : Nat} {w w' : World} (h : K_T n0 n1 n2 n3 d B w w') : B < w'.heap.size ∧ True := ⟨KL.z h (x := (B, 0, .int .i64 n0)) (by simp), trivial⟩
theorem K_T.ks {n0 n1 n2 n3 d : Int} {B : Nat} {w w' : World} (h : K_T n0 n1 n2 n3 d B w w') : (w'.cell? ⟨B, 0, none⟩ = some (.int .i64 n0) ∧ w'.cell? ⟨B, 1, none⟩ = some (.int .i64 n1) ∧ w'.cell? ⟨B, 2, none⟩ = some (.int .i64 n2) ∧ w'.cell? ⟨B, 3, none⟩ = some (.int .i64 n3) ∧ w'.cell? ⟨B, 4, none⟩ = some (.int .i64 d)) ∧ K_T n0 n1 n2 n3 d B w w' := ⟨h.cells, h⟩
/-- what a walk keeps: cells, and that nothing that was there has turned -/
def K_U (B : Nat) (w w' : World) : Prop := KL w [] [(B, 0), (B, 1), (B, 2), (B, 3), (B, 4)] w'
theorem K_U.below {B : Nat} {w w1 w2 : World} (hb : Below w1.heap.size w1 w2) (h : K_U B w w1) : K_U B w w2 := KL.below hb h
theorem K_U.draws {B : Nat} {w w1 : World} (n : Nat) (h : K_U B w w1) : K_U B w (w1.drewN n) := KL.draws n h
theorem K_U.drew {B : Nat} {w w1 : World} (h : K_U B w w1) : K_U B w w1.drew := KL.draws 1 h
theorem K_U.alloc {B : Nat} {w w1 : World} (o : Obj) (h : K_U B w w1) : K_U B w (w1.alloc o) := KL.alloc o h
theorem K_U.set {B : Nat} {w w1 : World} (h : K_U B w w1) (b i : Nat) (v : Value) (hb : w.heap.size ≤ b) : K_U B w (w1.setCell ⟨b, i, none⟩ v) :=
  KL.set h b i v (by intro x hx; simp at hx) (by omega)
theorem K_U.bel {B : Nat} {w w1 : World} (h : K_U B w w1) : Below w.heap.size w w1 := KL.bel h
theorem K_U.cells {B : Nat} {w w' : World} (h : K_U B w w') : w'.cell? ⟨B, 0, none⟩ = some (cv w' B 0) ∧ w'.frozen? ⟨B, 0, none⟩ = false ∧ w'.cell? ⟨B, 1, none⟩ = some (cv w' B 1) ∧ w'.frozen? ⟨B, 1, none⟩ = false ∧ w'.cell? ⟨B, 2, none⟩ = some (cv w' B 2) ∧ w'.frozen? ⟨B, 2, none⟩ = false ∧ w'.cell? ⟨B, 3, none⟩ = some (cv w' B 3) ∧ w'.frozen? ⟨B, 3, none⟩ = false ∧ w'.cell? ⟨B, 4, none⟩ = some (cv w' B 4) ∧ w'.frozen? ⟨B, 4, none⟩ = false := ⟨h.d (B, 0) (by simp), h.f (B, 0) (by simp), h.d (B, 1) (by simp), h.f (B, 1) (by simp), h.d (B, 2) (by simp), h.f (B, 2) (by simp), h.d (B, 3) (by simp), h.f (B, 3) (by simp), h.d (B, 4) (by simp), h.f (B, 4) (by simp)⟩
theorem K_U.zs {B : Nat} {w w' : World} (h : K_U B w w') : B < w'.heap.size ∧ True := ⟨KL.zf h (x := (B, 0)) (by simp), trivial⟩
theorem K_U.ks {B : Nat} {w w' : World} (h : K_U B w w') : (w'.cell? ⟨B, 0, none⟩ = some (cv w' B 0) ∧ w'.frozen? ⟨B, 0, none⟩ = false ∧ w'.cell? ⟨B, 1, none⟩ = some (cv w' B 1) ∧ w'.frozen? ⟨B, 1, none⟩ = false ∧ w'.cell? ⟨B, 2, none⟩ = some (cv w' B 2) ∧ w'.frozen? ⟨B, 2, none⟩ = false ∧ w'.cell? ⟨B, 3, none⟩ = some (cv w' B 3) ∧ w'.frozen? ⟨B, 3, none⟩ = false ∧ w'.cell? ⟨B, 4, none⟩ = some (cv w' B 4) ∧ w'.frozen? ⟨B, 4, none⟩ = false) ∧ K_U B w w' := ⟨h.cells, h⟩
set_option maxHeartbeats 1600000 in
theorem Format_ex (w : World) : Calls Tryd.prog 24 #[.agg #[.int .i64 1, .int .i64 (-2), .int .i64 0, .int .i64 1, .int .i64 3]] w fun e w' => e = .returned (.tuple #[.string ⟨#[40, 49, 32, 45, 32, 50, 105, 32, 43, 32, 107, 41, 47, 51]⟩, .int .i64 0]) ∧ Below w.heap.size w w' := by
  have r0 : (⟨#[40]⟩ : ByteArray) ++ (⟨#[49, 32, 45, 32, 50, 105, 32, 43, 32, 107]⟩ : ByteArray) = (⟨#[40, 49, 32, 45, 32, 50, 105, 32, 43, 32, 107]⟩ : ByteArray) := rfl
  have r1 : (⟨#[40, 49, 32, 45, 32, 50, 105, 32, 43, 32, 107]⟩ : ByteArray) ++ (⟨#[41, 47]⟩ : ByteArray) = (⟨#[40, 49, 32, 45, 32, 50, 105, 32, 43, 32, 107, 41, 47]⟩ : ByteArray) := rfl
  have r2 : (⟨#[40, 49, 32, 45, 32, 50, 105, 32, 43, 32, 107, 41, 47]⟩ : ByteArray) ++ (⟨#[51]⟩ : ByteArray) = (⟨#[40, 49, 32, 45, 32, 50, 105, 32, 43, 32, 107, 41, 47, 51]⟩ : ByteArray) := rfl
  go_enter Tryd.func24, Tryd.ntmps24
  go_wp2_with fail
  refine (Normal_ex _).mono ?_
  rintro e w1 ⟨rfl, hb⟩
  have hK : K_U w.heap.size w w1 := K_U.below hb ⟨by simp, by simp [go_sem], by simp [go_sem], by (repeat (first | (with_reducible exact Below.refl _ _) | (with_reducible exact HB.out) | (with_reducible refine below_draws ?_ _) | (with_reducible refine Below.alloc ?_ (by go_size) _) | (with_reducible refine Below.setCell ?_ (by go_size) _) | (with_reducible refine Below.alloc ?_ (by simp <;> omega) _) | (with_reducible refine Below.setCell ?_ (by simp <;> omega) _)))⟩
  obtain ⟨d0_, f0_, d1_, f1_, d2_, f2_, d3_, f3_, d4_, f4_⟩ := K_U.cells hK
  have HK := Lib.hid hK
  clear hb hK
  go_wp2_with fail
  refine (numeratorsOf_any _ _ _ _ _ _).mono ?_
  rintro e w2 ⟨rfl, hb⟩
  have hK : K_T 1 (-2) 0 1 3 w.heap.size w w2 := K_T.below hb ⟨by simp [go_sem, d0_, f0_, d1_, f1_, d2_, f2_, d3_, f3_, d4_, f4_], by simp, by simp, by have HB := Lib.hid (K_U.bel HK.out); (repeat (first | (with_reducible exact Below.refl _ _) | (with_reducible exact HB.out) | (with_reducible refine below_draws ?_ _) | (with_reducible refine Below.alloc ?_ (by go_size) _) | (with_reducible refine Below.setCell ?_ (by go_size) _) | (with_reducible refine Below.alloc ?_ (by simp <;> omega) _) | (with_reducible refine Below.setCell ?_ (by simp <;> omega) _)))⟩
  clear hb d0_ f0_ d1_ f1_ d2_ f2_ d3_ f3_ d4_ f4_
  obtain ⟨c0_, c1_, c2_, c3_, c4_⟩ := K_T.cells hK
  have HK2 := Lib.hid hK
  clear hK
  go_wp2_with fail
  refine (sum_ex _).mono ?_
  rintro e w3 ⟨rfl, hb⟩
  have hK := K_T.below hb HK2.out
  clear hb c0_ c1_ c2_ c3_ c4_
  obtain ⟨c0_, c1_, c2_, c3_, c4_⟩ := K_T.cells hK
  have HK3 := Lib.hid hK
  clear hK
  go_wp2_with (go_at_call 51; ((with_reducible refine (it3 _).mono ?_); rintro e w' ⟨rfl, rfl⟩))
  go_ret2
  exact ⟨rfl, K_T.bel HK3.out⟩
end Go.Proofs.YtgbnmnkgelklbaaDoor.Al
